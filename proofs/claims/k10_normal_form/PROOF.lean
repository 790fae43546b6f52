import PyProof.Rows.All
import Wide.All
import OpenK.AllK
import Wide.FinOn
import Lean
import PyProof.EqAt
import PyProof.EqKinds
import PyProof.TupleCall
import OpenK.KMore
import PyProof.ExcInit
import PyProof.ExcClass2
import PyProof.InstStoreFacts
import PyProof.ExcArgsOwn
import PyProof.ExcAttrAll.ValueError
import KE.KRevIter
import PyProof.Rows.ZipGen
import PyProof.ListMulRoad
import PyProof.AutoListH
import KE.IntBitsLaws
import PySem.Challenge.RW_measurewise_k10_normal_form
set_option Elab.async false
set_option linter.all false
set_option maxRecDepth 100000
set_option maxHeartbeats 4000000
section
open PySem PySem.Spec PyProof PyProof.Rows
def zOd:=@List.getElem?_eq_getElem
def zOe:=@wpAny_bind
def zOf:=@Heap.get?_push_of_some
def zOg:=@PySem.W.mg_of
def zOh:=@Nat.le_refl
def zOi:=@List.getElem?_map
def zOj:=@wpAny_pure
def zOk:=@List.length_map
def zOl:=@Nat.ne_of_lt
def zOm:=@Nat.lt_of_lt_of_le
def zOn:=@Heap.lt_size
def zOo:=@sizeLine_eq
def zOp:=@Int.emod_lt_of_pos
def zOq:=@Bool.false_ne_true
def zOr:=@Nat.le_trans
def zOs:=@Nat.zero_le
def zOt:=@List.mem_append_right
def zOu:=@Nat.lt_of_le_of_lt
def zOv:=@Int.emod_nonneg
def zOw:=@Heap.get?_push_size
def zOx:=@List.size_toArray
def zOy:=@wpAny_mono
def zOz:=@List.map_append
def zPA:=@List.take_add_one
def zPB:=@decide_eq_true
def zPC:=@List.take_length
def zPD:=@decide_eq_false
def zPE:=@List.append_nil
def zPF:=@List.length_append
def zPG:=@PySem.W.mg_none_of
def zPH:=@List.mem_of_getElem?
def zPI:=@List.getElem_mem
def zPJ:=@PySem.W.hideAll_get
def zPK:=@List.mem_cons_of_mem
def zPL:=@Nat.le_of_lt
def zPM:=@Nat.ne_of_gt
def zPN:=@PySem.W.kia_one
def zPO:=@wpAny_truthy_bool
def zPP:=@wpAny_Call_Name_kw
def zPQ:=@codeAny_mono
def zPR:=@PySem.W.of_hideAll
abbrev zPS:=@PySem.W.Frag
end
namespace L2
open PySem PySem.Spec PyProof.Rows
abbrev Key:=Sum Int Str
def zLN:Key->Value->Bool
 | .inl k,v=>Value.isInt k v
 | .inr x,v=>Value.isStrOf x v
def zOa(w:World):Key->Int
 | .inl k=>hashInt k
 | .inr x=>hashStr w x
theorem yb: ∀{k:Key} {v:Value},zLN k v=true->(∃i t,k=Sum.inl i/\v=Value.int i t)\/(∃x t,k=Sum.inr x/\v=Value.str x t)
 | .inl i,v,h=>by
  obtain ⟨t,e⟩:=Value.isInt_shape (k:=i) (v:=v) h;exact .inl ⟨i,t,rfl,e⟩
 | .inr x,v,h=>by
  obtain ⟨t,e⟩:=Value.isStrOf_shape (x:=x) (v:=v) h;exact .inr ⟨x,t,rfl,e⟩
theorem zNT(a b:Int):decide ((Sum.inl a:Key)=Sum.inl b)=(a==b):=by
 by_cases e:a=b
 ·subst e;simp
 ·have h: ¬(Sum.inl a:Key)=Sum.inl b:=fun q=>e (Sum.inl.inj q);rw [zPD h];exact (beq_eq_false_iff_ne.mpr e).symm
theorem zNW(a b:Str):decide ((Sum.inr a:Key)=Sum.inr b)=decide (a=b):=by
 by_cases e:a=b
 ·subst e;simp
 ·have h: ¬(Sum.inr a:Key)=Sum.inr b:=fun q=>e (Sum.inr.inj q);rw [zPD h,zPD e]
theorem zMg(a:Int)(b:Str):decide ((Sum.inl a:Key)=Sum.inr b)=false:=zPD (fun q=>nomatch q)
theorem zNg(a:Str)(b:Int):decide ((Sum.inr a:Key)=Sum.inl b)=false:=zPD (fun q=>nomatch q)
def zHU(prog:Program)(w:World):PySem.KeyKind prog w Key where
 is:=zLN
 hash:=zOa w
 inj:=fun v a b ha hb=>by
  rcases yb ha with ⟨i,t,rfl,rfl⟩|⟨x,t,rfl,rfl⟩
  ·rcases yb hb with ⟨j,u,rfl,e⟩|⟨y,u,rfl,e⟩
   ·injection e with e1 _;rw [e1]
   ·exact nomatch e
  ·rcases yb hb with ⟨j,u,rfl,e⟩|⟨y,u,rfl,e⟩
   ·exact nomatch e
   ·injection e with e1 _;rw [e1]
 byValue:=fun k v h=>by
  rcases yb h with ⟨i,t,rfl,rfl⟩|⟨x,t,rfl,rfl⟩<;>rfl
 pyHash:=fun hv h=>by
  rcases yb hv with ⟨i,t,rfl,rfl⟩|⟨x,t,rfl,rfl⟩
  ·exact wpAny_pyHash_int h
  ·exact wpAny_pyHash_str h
 eqBool:=fun hu hv h=>by
  rcases yb hu with ⟨i,t,rfl,rfl⟩|⟨x,t,rfl,rfl⟩
  ·rcases yb hv with ⟨j,u,rfl,rfl⟩|⟨y,u,rfl,rfl⟩
   ·rw [zNT] at h;exact wpAny_eqBool_int h
   ·rw [zMg] at h;exact SeqAt.EqAt.int_str i t y u _ _ _ _ h
  ·rcases yb hv with ⟨j,u,rfl,rfl⟩|⟨y,u,rfl,rfl⟩
   ·rw [zNg] at h;exact SeqAt.EqAt.str_int x t j u _ _ _ _ h
   ·rw [zNW] at h;exact wpAny_eqBool_str h
 «strs»:=fun k x t v h=>by
  rcases yb h with ⟨i,u,rfl,e⟩|⟨y,u,rfl,e⟩
  ·exact nomatch e
  ·injection e with e1 _;subst e1;cases v<;>rfl
inductive V where
 | non | bl (b:Bool)| int (i:Int)| str (x:Str)| byt (b:Array UInt8)| flt (b:UInt64)| ref (a:Addr)| ty (n:String)
 deriving DecidableEq
def zj:V->Value->Prop
 | .non,u=>u=Value.none
 | .bl b,u=>u=Value.bool b
 | .int i,u=> ∃t,u=Value.int i t
 | .str x,u=> ∃t,u=Value.str x t
 | .byt b,u=> ∃t,u=Value.bytes b t
 | .flt b,u=> ∃t,u=Value.float b t
 | .ref a,u=>u=Value.ref a
 | .ty n,u=>u=Value.type n
abbrev zP:List V->List Value->Prop:=Paired zj
theorem zP.length{xs:List V}{us:List Value}(r:zP xs us):xs.length=us.length:=Paired.length r
theorem zP.get: ∀{xs:List V} {us:List Value} {i:Nat} {x:V},zP xs us->xs[i]?=some x-> ∃u,us[i]?=some u/\zj x u
 | _,_,_,_,.nil,e=>by simp at e
 | _,_,0,_,.cons r _,e=>by simp at e;subst e;exact ⟨_,rfl,r⟩
 | _,_,i+1,x,.cons _ t,e=>by
  obtain ⟨u,h1,h2⟩:=zP.get (i:=i) (x:=x) t (by simpa using e);exact ⟨u,by simpa using h1,h2⟩
theorem zP.set{x:V}{u:Value}(r:zj x u): ∀{xs:List V} {us:List Value} (i:Nat),zP xs us->zP (xs.set i x) (us.set i u)
 | _,_,_,.nil=> .nil
 | _,_,0,.cons _ t=> .cons r t
 | _,_,i+1,.cons q t=> .cons q (zP.set r i t)
theorem zP.append: ∀{xs ys:List V} {us ws:List Value},zP xs us->zP ys ws->zP (xs++ys) (us++ws)
 | _,_,_,_,.nil,s=>s
 | _,_,_,_,.cons r t,s=> .cons r (zP.append t s)
theorem zP.take: ∀{xs:List V} {us:List Value} (n:Nat),zP xs us->zP (xs.take n) (us.take n)
 | _,_,0,_=> .nil
 | _,_,_+1,.nil=> .nil
 | _,_,n+1,.cons r t=> .cons r (zP.take n t)
theorem zP.drop: ∀{xs:List V} {us:List Value} (n:Nat),zP xs us->zP (xs.drop n) (us.drop n)
 | _,_,0,r=>r
 | _,_,_+1,.nil=> .nil
 | _,_,n+1,.cons _ t=>zP.drop n t
def zCT:Option V->Option Value->Prop
 | some v,some u=>zj v u
 | none,none=>True
 | _,_=>False
def KV{κ:Type}:List (κ×V)->List (κ×Value)->Prop:=Paired fun (p:κ×V) (q:κ×Value)=>p.1=q.1/\zj p.2 q.2
def kV:Key->V
 | .inl i=> .int i
 | .inr x=> .str x
inductive HO where
 | lst (xs:List V)
 | tup (xs:List V)
 | dK (kvs:List (Key×V))| dT (kvs:List (List Key×V))
 | set (S:Int->Bool) (n:Nat)
 | ins (C dx:Addr) (fs:List (Str×V))
 | own (x:Addr)
 | xd (fs:List (Str×V))
 | met (f x:Addr)
 | rng (lo hi:Int)
 | frz (o:Obj) (u:HO)
 | tbl (ps:Array Value)
 | ext (φ:Heap->Prop)
abbrev Hp:=Addr->Option HO
def upd(H:Hp)(a:Addr)(o:HO):Hp:=fun b=>if b=a then some o else H b
theorem zB{H:Hp}{a:Addr}{o:HO}:upd H a o a=some o:=by unfold upd;rw [if_pos rfl]
theorem zG{H:Hp}{a b:Addr}{o:HO}(h:b≠a):upd H a o b=H b:=by unfold upd;rw [if_neg h]
theorem zx{H:Hp}{a:Addr}{o u:HO}:upd (upd H a o) a u=upd H a u:=by
 funext b;unfold upd;split<;>rfl
theorem yn{H:Hp}{a b:Addr}{o:HO}(h:H a=some o)(h':H b=none):a≠b:=by
 intro e;subst e;rw [h] at h';cases h'
def zNV(h:Heap)(a:Addr)(items:Array Value):Prop:= ∃o,h.get? a=some o/\o.cls= .type "tuple" /\(∃n,o.data= .seq items n)/\o.dict=none
section
variable (P:Program)(w:World)
def ym(H:Hp)(h:Heap)(a:Addr):HO->Prop
 | .lst xs=>xs.length<=sizeLine/\ ∃(its:List Value) (n:Nat),zP xs its/\h.get? a=some {cls:= .type "list",data:= .seq its.toArray n}
 | .tup xs=>xs.length<=sizeLine/\ ∃its:List Value,zP xs its/\zNV h a its.toArray
 | .dK kvs=>kvs.length<=sizeLine/\(a==sysModules)=false/\ ∃vs,KV kvs vs/\h.DictOf (zHU P w) a vs
 | .dT kvs=>kvs.length<=sizeLine/\(a==sysModules)=false/\ ∃xs:List (List Key×Addr×Value),
   Paired (fun (p:List Key×V) (q:List Key×Addr×Value)=>p.1=q.1/\H q.2.1=some (.tup (p.1.map kV))/\zj p.2 q.2.2) kvs xs/\
   ∃o es ep,h.get? a=some o/\o.ExactDict/\o.data= .dict es ep/\es.toList=xs.map (entryOfKey (tupleKind (zHU P w)))/\(xs.map (·.1)).Nodup
 | .set S n=>h.SetOf (intKind P w) a S n
 | .ins C dx fs=>H dx=some (.own a)/\fs.length<=1000/\dx≠a/\h.get? a=some (PySem.W.instObj C dx)/\
   ∃mA,h.Ns1 dx mA/\(∀f,zCT (fs.lookup f) (mA f))/\PySem.Within mA (fs.map (·.1))
 | .own _=> ∃o,h.get? a=some o
 | .xd fs=> ∃mA,h.Ns1 a mA/\ ∀f,zCT (fs.lookup f) (mA f)
 | .rng lo hi=> ∃t u v,h.get? a=some {cls:= .type "range",data:= .fields #[.int lo t,.int hi u,.int 1 v]}
 | .frz o u=>h.get? a=some o/\ym H h a u
 | .tbl ps=>h.get? a=some {cls:= .none,data:= .fields ps}
 | .met f x=>h.get? a=some (PySem.W.methodObj (.ref f) (.ref x))
 | .ext φ=>φ h/\(∃o,h.get? a=some o)/\ ∀h1 h2:Heap,φ h1->(∀o,h1.get? a=some o->h2.get? a=some o)->φ h2
def HOk(H:Hp)(h:Heap):Prop:= ∀a o,H a=some o->ym P w H h a o
end
section
variable {P:Program}{w:World}{H H':Hp}{h h':Heap}{a:Addr}{o:HO}
theorem ym.lt(x:ym P w H h a o):a<h.objs.size:=by
 cases o with
 | lst xs=>obtain ⟨_,_,_,_,e⟩:=x;exact zOn e
 | tup xs=>obtain ⟨_,_,_,_,e,_⟩:=x;exact zOn e
 | dK kvs=>obtain ⟨_,_,_,_,o,_,_,e,_⟩:=x;exact zOn e
 | dT kvs=>obtain ⟨_,_,_,_,o,_,_,e,_⟩:=x;exact zOn e
 | set S n=>obtain ⟨o,_,_,_,e,_⟩:=x;exact zOn e
 | ins C dx fs=>obtain ⟨_,_,_,e,_⟩:=x;exact zOn e
 | own y=>obtain ⟨_,e⟩:=x;exact zOn e
 | xd fs=>obtain ⟨_,⟨_,_,_,e,_⟩,_⟩:=x;exact zOn e
 | rng lo hi=>obtain ⟨_,_,_,e⟩:=x;exact zOn e
 | frz ob u=>obtain ⟨e,_⟩:=x;exact zOn e
 | tbl ps=>exact zOn (show h.get? a=some _ from x)
 | met f y=>exact zOn (show h.get? a=some _ from x)
 | ext φ=>obtain ⟨_,⟨_,e⟩,_⟩:=x;exact zOn e
theorem Paired.mapP{α β:Type}{F G:α->β->Prop}: ∀{l₁:List α} {l₂:List β},Paired F l₁ l₂->(∀a b,F a b->G a b)->Paired G l₁ l₂
 | _,_,.nil,_=> .nil
 | _,_,.cons r t,f=> .cons (f _ _ r) (Paired.mapP t f)
theorem ym.stay(x:ym P w H h a o)(k: ∀b u,(b=a\/H b=some (.own a))->h.get? b=some u->h'.get? b=some u)
  (ho: ∀b,H b=some (.own a)->H' b=some (.own a)) (ht: ∀b xs,H b=some (.tup xs)->H' b=some (.tup xs)):ym P w H' h' a o:=by
 induction o with
 | lst xs=>obtain ⟨z,its,n,r,e⟩:=x;exact ⟨z,its,n,r,k _ _ (.inl rfl) e⟩
 | tup xs=>obtain ⟨z,its,r,ob,e,c⟩:=x;exact ⟨z,its,r,ob,k _ _ (.inl rfl) e,c⟩
 | dK kvs=>obtain ⟨z,y,vs,r,ob,es,ep,e,c⟩:=x;exact ⟨z,y,vs,r,ob,es,ep,k _ _ (.inl rfl) e,c⟩
 | dT kvs=>
  obtain ⟨z,y,xs,r,ob,es,ep,e,c⟩:=x;exact ⟨z,y,xs,Paired.mapP r fun p q z=>⟨z.1,ht _ _ z.2.1,z.2.2⟩,ob,es,ep,k _ _ (.inl rfl) e,c⟩
 | set S n=>obtain ⟨ob,es,ep,t,e,c⟩:=x;exact ⟨ob,es,ep,t,k _ _ (.inl rfl) e,c⟩
 | ins C dx fs=>
  obtain ⟨d,z,ne,e,mA,⟨od,es,ep,e2,c⟩,r⟩:=x;exact ⟨ho _ d,z,ne,k _ _ (.inl rfl) e,mA,⟨od,es,ep,k _ _ (.inr d) e2,c⟩,r⟩
 | own y=>obtain ⟨ob,e⟩:=x;exact ⟨ob,k _ _ (.inl rfl) e⟩
 | xd fs=>obtain ⟨mA,⟨od,es,ep,e,c⟩,r⟩:=x;exact ⟨mA,⟨od,es,ep,k _ _ (.inl rfl) e,c⟩,r⟩
 | rng lo hi=>obtain ⟨t,u,v,e⟩:=x;exact ⟨t,u,v,k _ _ (.inl rfl) e⟩
 | frz ob u ih=>obtain ⟨e,q⟩:=x;exact ⟨k _ _ (.inl rfl) e,ih q⟩
 | tbl ps=>
  have e:h.get? a=some {cls:= .none,data:= .fields ps}:=x;show h'.get? a=some {cls:= .none,data:= .fields ps};exact k a _ (.inl rfl) e
 | met f y=>
  have e:h.get? a=some (PySem.W.methodObj (.ref f) (.ref y)):=x;show h'.get? a=some (PySem.W.methodObj (.ref f) (.ref y));exact k a _ (.inl rfl) e
 | ext φ=>obtain ⟨p,⟨o,e⟩,st⟩:=x;exact ⟨st _ _ p fun o q=>k _ _ (.inl rfl) q,⟨o,k _ _ (.inl rfl) e⟩,st⟩
theorem HOk.lt(x:HOk P w H h)(e:H a=some o):a<h.objs.size:=(x a o e).lt
theorem HOk.fresh(x:HOk P w H h)(e:h.objs.size<=a):H a=none:=by
 cases q:H a with
 | none=>rfl
 | some u=>exact absurd (zOm (x.lt q) e) (Nat.lt_irrefl _)
theorem HOk.kept(x:HOk P w H h)(k: ∀b u,h.get? b=some u->h'.get? b=some u):HOk P w H h':=fun a o e=>
 (x a o e).stay (fun b u _ q=>k b u q) (fun _ q=>q) fun _ _ q=>q
theorem HOk.laid(x:HOk P w H h)(k: ∀b u,h.get? b=some u->h'.get? b=some u)(hp:h.objs.size<=a)(new:ym P w (upd H a o) h' a o):HOk P w (upd H a o) h':=fun b u e=>by
 have hn:=x.fresh hp;by_cases hb:b=a
 ·subst hb;rw [zB] at e;cases e;exact new
 ·rw [zG hb] at e;exact (x b u e).stay (fun c v _ q=>k c v q) (fun c q=>by rw [zG (yn q hn)];exact q) fun c xs q=>by rw [zG (yn q hn)];exact q
end
def Rd(H:Hp)(a:Addr)(u:HO):Prop:=H a=some u\/ ∃o,H a=some (.frz o u)
theorem Rd.ok{P:Program}{w:World}{H:Hp}{h:Heap}{a:Addr}{u:HO}(r:Rd H a u)(x:HOk P w H h):ym P w H h a u:=by
 rcases r with r |⟨o,r⟩
 ·exact x a u r
 ·obtain ⟨_,q⟩:=x a _ r;exact q
def Mut:Option HO->Prop
 | some (.lst _)=>True
 | some (.dK _)=>True
 | some (.dT _)=>True
 | some (.set _ _)=>True
 | some (.ins _ _ _)=>True
 | some (.ext _)=>True
 | _=>False
section
variable {P:Program}{w:World}{H:Hp}{h h':Heap}{x e:Addr}{o':HO}
theorem HOk.write(ok:HOk P w H h)(mu:Mut (H x))(he:e=x\/H e=some (.own x))(k: ∀b u,b≠e->h.get? b=some u->h'.get? b=some u)(heo: ∃u,h'.get? e=some u)
  (new:ym P w (upd H x o') h' x o'):HOk P w (upd H x o') h':=fun b u q=>by
 have nown: ∀c y,H c=some (.own y)->c≠x:=fun c y r z=>by subst z;rw [r] at mu;exact mu
 have ntup: ∀c xs,H c=some (.tup xs)->c≠x:=fun c xs r z=>by subst z;rw [r] at mu;exact mu
 by_cases hb:b=x
 ·subst hb;rw [zB] at q;cases q;exact new
 ·rw [zG hb] at q;by_cases hbe:b=e
  ·have q':H b=some (.own x):=by
    rcases he with z | z
    ·exact absurd (hbe.trans z) hb
    ·rw [hbe];exact z
   rw [q] at q';cases q';obtain ⟨v,hv⟩:=heo;exact ⟨v,by rw [hbe];exact hv⟩
  ·refine (ok b u q).stay (fun c v hc r=>k c v ?_ r) (fun c r=>by rw [zG (nown c b r)];exact r) fun c xs r=>by rw [zG (ntup c xs r)];exact r
   rcases hc with rfl | hc
   ·exact hbe
   ·rintro rfl;rcases he with z | z
    ·exact nown c b hc z
    ·rw [hc] at z;cases z;exact hb rfl
end
structure Un(fs ex:List Addr)(H H':Hp)(h h':Heap):Prop where
 keep: ∀b o,h.get? b=some o->H b=none->b∉fs->b∉ex->h'.get? b=some o
 slot: ∀b o,h.get? b=some o->H b=none->b∈fs->b∉ex-> ∃sl,h'.get? b=some {o with slots:=sl}
 free: ∀b o,h.get? b=some o->H b=none->b∉ex->H' b=none
 there: ∀b o,h.get? b=some o->b∉ex-> ∃o',h'.get? b=some o'
 tups: ∀b xs,H b=some (.tup xs)->H' b=some (.tup xs)
 frzs: ∀b o u,H b=some (.frz o u)->H' b=some (.frz o u)
 tbls: ∀b ps,H b=some (.tbl ps)-> ∃more,H' b=some (.tbl (ps++more))
section
variable {fs fs' ex ex':List Addr}{H H1 H2:Hp}{h h1 h2 h':Heap}{a x e:Addr}{o:HO}
theorem Un.any(u:Un fs ex H H1 h h1){b:Addr}{ob:Obj}(q:h.get? b=some ob)(n:H b=none)(hx:b∉ex): ∃sl,h1.get? b=some {ob with slots:=sl}:=by
 by_cases hb:b∈fs
 ·exact u.slot b ob q n hb hx
 ·exact ⟨ob.slots,u.keep b ob q n hb hx⟩
theorem Un.kept(k: ∀b u,h.get? b=some u->h'.get? b=some u):Un fs ex H H h h':=
 ⟨fun b ob q _ _ _=>k b ob q,fun b ob q _ _ _=>⟨ob.slots,k b ob q⟩,fun _ _ _ n _=>n,fun b ob q _=>⟨ob,k b ob q⟩,fun _ _ q=>q,fun _ _ _ q=>q,fun _ ps q=>⟨#[],by rw [q];simp⟩⟩
theorem Un.refl:Un fs ex H H h h:=Un.kept fun _ _ q=>q
theorem Un.laid(k: ∀b u,h.get? b=some u->h'.get? b=some u)(hp:h.objs.size<=a)(hn:H a=none):Un fs ex H (upd H a o) h h' where
 keep:=fun b u q _ _ _=>k b u q
 slot:=fun b u q _ _ _=>⟨u.slots,k b u q⟩
 free:=fun b u q n _=>by rw [zG (zOl (zOm (zOn q) hp))];exact n
 there:=fun b u q _=>⟨u,k b u q⟩
 tups:=fun b xs q=>by rw [zG (yn q hn)];exact q
 frzs:=fun b u xs q=>by rw [zG (yn q hn)];exact q
 tbls:=fun b ps q=>⟨#[],by rw [zG (yn q hn),q];simp⟩
theorem Un.write(mu:Mut (H x))(he:e=x\/H e=some (.own x))(k: ∀b u,b≠e->h.get? b=some u->h'.get? b=some u)(heo: ∃u,h'.get? e=some u):Un fs ex H (upd H x o) h h':=by
 have hx: ∀b,H b=none->b≠x:=fun b n z=>by subst z;rw [n] at mu;exact mu
 have hb: ∀b,H b=none->b≠e:=fun b n z=>by
  subst z;rcases he with r | r
  ·exact hx b n r
  ·rw [n] at r;cases r
 have hm: ∀b u,H b=some u-> ¬Mut (some u)->b≠x:=fun b u q nm z=>by subst z;rw [q] at mu;exact nm mu
 refine ⟨fun b u q n _ _=>k b u (hb b n) q,fun b u q n _ _=>⟨u.slots,k b u (hb b n) q⟩,fun b u q n _=>by rw [zG (hx b n)];exact n,fun b u q _=>?_,
  fun b xs q=>by rw [zG (hm b _ q fun z=>z)];exact q,fun b u xs q=>by rw [zG (hm b _ q fun z=>z)];exact q,fun b ps q=>⟨#[],by rw [zG (hm b _ q fun z=>z),q];simp⟩⟩
 by_cases hbe:b=e
 ·subst hbe;exact heo
 ·exact ⟨u,k b u hbe q⟩
end
def trk(h:Heap)(H:Hp):List Addr:=(List.range h.objs.size).filter fun a=>(H a).isSome
def zCX(h:Heap)(H:Hp):Heap:=PySem.W.hideAll h (trk h H)
theorem zIq(h:Heap)(H:Hp):(zCX h H).objs.size=h.objs.size:=PySem.W.hideAll_size _ _
theorem zKU{h:Heap}{H:Hp}{b:Addr}{o:Obj}(e:h.get? b=some o)(n:H b=none):(zCX h H).get? b=some o:=
 zPJ _ e fun hm=>by
  have q:(H b).isSome=true:=(List.mem_filter.mp hm).2;rw [n] at q;simp at q
theorem zLz{h:Heap}{H:Hp}{b:Addr}{o:Obj}(e:(zCX h H).get? b=some o):h.get? b=some o/\H b=none:=by
 have e':h.get? b=some o:=zPR (trk h H) e;refine ⟨e',?_⟩;cases q:H b with
 | none=>rfl
 | some x=>
  have hm:b∈trk h H:=List.mem_filter.mpr ⟨List.mem_range.mpr (zOn e'),by simp [q]⟩;have z:(zCX h H).get? b=none:=PySem.W.hideAll_none (trk h H) hm;rw [z] at e;cases e
structure Mod(K:zPS)(mg:Str->Option Value)(base:Heap):Prop where
 kin:K.In base
 glob:base.Ns mainGlobals mg
 blt: ∃mb,base.Ns builtinsNs mb/\ ∀x:Str,x≠ "__name__" ->mb x=bootBuiltins x
 nolimit:base.NoLimit
 seer:base.NoSeer
structure Cx where
 prog:Program
 w:World
 K:zPS
 mg:Str->Option Value
 base:Heap
 A:Around
 N:List Str
 s₀:Shared
 H₀:Hp
 env:Env
 outer:List Env
 stack:List Env
 ex:List Addr
 fn:Str->Bool
 calm:Bool
 pn:List (Addr×Obj)
 xe:Value->Shared->Prop
def frs(l:List Env):List Addr:=l.filterMap (·.frame)
abbrev Cx.fs(X:Cx):List Addr:=frs X.outer
def Vis(sc:Scope)(x:Str):Prop:=sc.names.lookup x=some .local\/sc.names.lookup x=some .cell\/sc.names.lookup x=some .free
def Loc(sc:Scope)(x:Str):Prop:=sc.names.lookup x=some .local\/sc.names.lookup x=some .cell
def zOT(env:Env)(h:Heap)(m:Str->Option Value)(x:Str)(u:Value):Prop:=
 (env.kindOf x=some .local/\m x=some u)\/((env.kindOf x=some .cell\/env.kindOf x=some .free)/\ ∃c,env.cells.lookup x=some c/\h.IsCell c (some u))
structure Cx.Ok(X:Cx):Prop where
 mod:Mod X.K X.mg X.base
 kind:X.env.scope.kind= .function
 glob:X.env.globals=mainGlobals
 blt:X.env.builtins=builtinsNs
 above:X.s₀.heap.objs.size<=X.env.locals
 inj: ∀x y c,X.env.cells.lookup x=some c->X.env.cells.lookup y=some c->x=y
 has: ∀x,(X.env.kindOf x=some .cell\/X.env.kindOf x=some .free)-> ∃c,X.env.cells.lookup x=some c
 cab: ∀x c,X.fn x=true->X.env.cells.lookup x=some c->X.s₀.heap.objs.size<=c
 hd:X.calm=true->X.A.handled=none
 frames:X.A.frames=some X.stack
 stk:X.stack=X.outer\/(X.stack=X.env::X.outer/\X.env.frame=some X.env.locals)
 exf: ∀b∈X.ex,b≠X.env.locals/\ ∀x c,X.env.cells.lookup x=some c->c≠b
 bs: ∀b o,X.base.get? b=some o->X.s₀.heap.get? b=some o/\X.H₀ b=none
 bsz:X.base.objs.size<=X.s₀.heap.objs.size
 noex: ∀b o,X.base.get? b=some o->b∉X.ex
 exfs: ∀b∈X.ex,b∉X.fs
 funs:X.s₀.heap.FunFrames X.base X.outer
 frf: ∀b∈X.fs,X.H₀ b=none
structure Inv(X:Cx)(pins:List (Addr×Obj))(σ:List (Option V))(H:Hp)(s:Shared):Prop where
 ok:X.Ok
 os:s.os=X.s₀.os
 bare:AllBare s.gens
 base:Un X.fs X.ex X.H₀ H X.s₀.heap s.heap
 loc: ∃m,s.heap.Ns X.env.locals m/\ ∀(i:Nat) (x:Str) (v:V),X.N[i]?=some x->σ[i]?=some (some v)->Vis X.env.scope x-> ∃u,zj v u/\zOT X.env s.heap m x u
 cell: ∀x c,X.env.cells.lookup x=some c-> ∃v,s.heap.IsCell c v
 free:H X.env.locals=none
 freeC: ∀x c,X.env.cells.lookup x=some c->H c=none
 pin: ∀p∈X.pn++pins,s.heap.get? p.1=some p.2/\H p.1=none/\p.1≠X.env.locals/\p.1∉X.fs/\ ∀v,p.2.data≠ .cell v
 hok:HOk X.prog X.w H s.heap
 len:σ.length=X.N.length
section
variable {X:Cx}{pins:List (Addr×Obj)}{σ:List (Option V)}{H H':Hp}{s:Shared}{h':Heap}
theorem Cx.Ok.nofr(ok:X.Ok){b:Addr}{o:Obj}(e:X.base.get? b=some o):b∉X.fs:=fun hb=>by
 have:=(ok.funs.mem hb).1;rw [e] at this;cases this
theorem Inv.bs(I:Inv X pins σ H s): ∀b o,X.base.get? b=some o->s.heap.get? b=some o/\H b=none:=fun b o e=>
 ⟨I.base.keep b o (I.ok.bs b o e).1 (I.ok.bs b o e).2 (I.ok.nofr e) (I.ok.noex b o e),I.base.free b o (I.ok.bs b o e).1 (I.ok.bs b o e).2 (I.ok.noex b o e)⟩
theorem Inv.bk(I:Inv X pins σ H s): ∀b o,X.base.get? b=some o->s.heap.get? b=some o:=fun b o e=>(I.bs b o e).1
theorem Inv.mod(I:Inv X pins σ H s):Mod X.K X.mg X.base:=I.ok.mod
theorem Inv.kIn(I:Inv X pins σ H s):X.K.In s.heap:=I.ok.mod.kin.keeps I.bk
theorem Inv.lt(I:Inv X pins σ H s):X.env.locals<s.heap.objs.size:=let ⟨_,hn,_⟩:=I.loc;hn.lt
theorem Inv.sz(I:Inv X pins σ H s):X.s₀.heap.objs.size<=s.heap.objs.size:=zOr I.ok.above (zPL I.lt)
theorem Inv.nofs(I:Inv X pins σ H s){a:Addr}(h:s.heap.objs.size<=a):a∉X.fs:=fun hb=>by
 obtain ⟨_,o,ho,_⟩:=I.ok.funs.mem hb;exact absurd (zOm (zOn ho) (zOr I.sz h)) (Nat.lt_irrefl _)
theorem Inv.cne(I:Inv X pins σ H s): ∀x c,X.env.cells.lookup x=some c->c≠X.env.locals:=fun x c e z=>by
 obtain ⟨v,o,ho,hd⟩:=I.cell x c e;obtain ⟨m,⟨o',es,ep,ho',hd',_⟩,_⟩:=I.loc;rw [z,ho'] at ho;cases ho;rw [hd'] at hd;cases hd
theorem Inv.funs(I:Inv X pins σ H s):s.heap.FunFrames X.base X.outer:=by
 have all: ∀(l:List Env),(∀b∈frs l,b∈X.fs)->X.s₀.heap.FunFrames X.base l->s.heap.FunFrames X.base l:=by
  intro l
  induction l with
  | nil=>intro _ _;trivial
  | cons env r ih=>
   intro hs hl;obtain ⟨hk,⟨L,o,hf,hn,ho,hd⟩,hr⟩:=hl;have hL:L∈X.fs:=hs L (by unfold frs;rw [List.filterMap_cons,hf];exact List.mem_cons_self);obtain ⟨sl,e⟩:=I.base.slot L o ho (I.ok.frf L hL) hL fun z=>I.ok.exfs L z hL;exact ⟨hk,⟨L,_,hf,hn,e,hd⟩,ih (fun b hb=>hs b (by unfold frs;rw [List.filterMap_cons,hf];exact zPK _ hb)) hr⟩
 exact all X.outer (fun _ hb=>hb) I.ok.funs
theorem Inv.stack(I:Inv X pins σ H s):s.heap.FunFrames X.base X.stack:=by
 rcases I.ok.stk with e |⟨e,hf⟩
 ·rw [e];exact I.funs
 ·rw [e];obtain ⟨m,hn,_⟩:=I.loc;refine .cons (by rw [I.ok.kind];decide) hf hn ?_ I.funs;exact Heap.get?_none_of_le (zOr I.ok.bsz I.ok.above)
theorem Inv.stkSub(I:Inv X pins σ H s): ∀b∈frs X.stack,b∈X.env.locals::X.fs:=fun b hb=>by
 rcases I.ok.stk with e |⟨e,hf⟩
 ·rw [e] at hb;exact zPK _ hb
 ·rw [e] at hb;unfold frs at hb;rw [List.filterMap_cons,hf] at hb;exact hb
theorem Inv.stkFree(I:Inv X pins σ H s): ∀b∈frs X.stack,H b=none:=fun b hb=>by
 rcases List.mem_cons.mp (I.stkSub b hb) with e | hb
 ·rw [e];exact I.free
 ·obtain ⟨_,o,ho,_⟩:=I.ok.funs.mem hb;exact I.base.free b o ho (I.ok.frf b hb) fun z=>I.ok.exfs b z hb
theorem Inv.step{g':Array GenState}{t':Nat}{d':Drawn}{ch:List Addr}(I:Inv X pins σ H s)
  (hch: ∀b∈ch,(b∈X.ex\/X.s₀.heap.objs.size<=b)/\b≠X.env.locals/\(∀x c,X.env.cells.lookup x=some c->c≠b)/\ ∀p∈X.pn++pins,p.1≠b)
  (keep: ∀b o,b≠X.env.locals->b∉X.fs->b∉ch->s.heap.get? b=some o->H b=none->h'.get? b=some o)
  (slot: ∀b o,b≠X.env.locals->b∈X.fs->b∉ch->s.heap.get? b=some o->H b=none-> ∃sl,h'.get? b=some {o with slots:=sl}) (free: ∀b o,b∉ch->s.heap.get? b=some o->H b=none->H' b=none)
  (there: ∀b o,b∉ch->s.heap.get? b=some o-> ∃o',h'.get? b=some o')
  (tups: ∀b xs,H b=some (.tup xs)->H' b=some (.tup xs)) (frzs: ∀b o u,H b=some (.frz o u)->H' b=some (.frz o u)) (tbls: ∀b ps,H b=some (.tbl ps)-> ∃more,H' b=some (.tbl (ps++more)))
  (ns: ∀m,s.heap.Ns X.env.locals m->h'.Ns X.env.locals m) (hok:HOk X.prog X.w H' h') (hg:AllBare g'):
  Inv X pins σ H' {s with heap:=h',gens:=g',drawn:=d',toks:=t'}:=by
 have neL: ∀b o,X.s₀.heap.get? b=some o->b≠X.env.locals:=fun b o e=>zOl (zOm (zOn e) I.ok.above);have neC: ∀b o,X.s₀.heap.get? b=some o->b∉X.ex->b∉ch:=fun b o e hx hb=>by
  rcases (hch b hb).1 with z | z
  ·exact hx z
  ·exact absurd (zOm (zOn e) z) (Nat.lt_irrefl _)
 have cellK: ∀x c,X.env.cells.lookup x=some c-> ∀v,s.heap.IsCell c v->h'.IsCell c v:=fun x c e v ⟨o,ho,hd⟩=>by
  have nch:c∉ch:=fun z=>(hch c z).2.2.1 x c e rfl;by_cases hc:c∈X.fs
  ·obtain ⟨sl,q⟩:=slot c o (I.cne x c e) hc nch ho (I.freeC x c e);exact ⟨_,q,hd⟩
  ·exact ⟨o,keep c o (I.cne x c e) hc nch ho (I.freeC x c e),hd⟩
 refine ⟨I.ok,I.os,hg,⟨fun b o e n hb hx=>?_,fun b o e n hb hx=>?_,fun b o e n hx=>?_,fun b o e hx=>?_,fun b xs e=>tups b xs (I.base.tups b xs e),fun b o xs e=>frzs b o xs (I.base.frzs b o xs e),fun b ps e=>?_⟩,?_,fun x c e=>?_,?_,fun x c e=>?_,fun p hp=>?_,hok,I.len⟩
 ·exact keep b o (neL b o e) hb (neC b o e hx) (I.base.keep b o e n hb hx) (I.base.free b o e n hx)
 ·obtain ⟨sl,e1⟩:=I.base.slot b o e n hb hx;obtain ⟨sl',e2⟩:=slot b _ (neL b o e) hb (neC b o e hx) e1 (I.base.free b o e n hx);exact ⟨sl',e2⟩
 ·obtain ⟨o',e1⟩:=I.base.there b o e hx;exact free b o' (neC b o e hx) e1 (I.base.free b o e n hx)
 ·obtain ⟨o',e1⟩:=I.base.there b o e hx;exact there b o' (neC b o e hx) e1
 ·obtain ⟨m1,e1⟩:=I.base.tbls b ps e;obtain ⟨m2,e2⟩:=tbls b _ e1;exact ⟨m1++m2,by rw [e2,Array.append_assoc]⟩
 ·obtain ⟨m,hn,hl⟩:=I.loc;refine ⟨m,ns m hn,fun i x v e1 e2 e3=>?_⟩;obtain ⟨u,r,l⟩:=hl i x v e1 e2 e3;refine ⟨u,r,?_⟩;rcases l with l |⟨k,c,e,z⟩
  ·exact .inl l
  ·exact .inr ⟨k,c,e,cellK x c e _ z⟩
 ·obtain ⟨v,z⟩:=I.cell x c e;exact ⟨v,cellK x c e v z⟩
 ·obtain ⟨m,⟨o,_,_,ho,_⟩,_⟩:=I.loc;exact free _ o (fun z=>(hch _ z).2.1 rfl) ho I.free
 ·obtain ⟨v,o,ho,hd⟩:=I.cell x c e;exact free c o (fun z=>(hch c z).2.2.1 x c e rfl) ho (I.freeC x c e)
 ·obtain ⟨e,n,ne,nf,d⟩:=I.pin p hp;have nch:p.1∉ch:=fun z=>(hch p.1 z).2.2.2 p hp rfl;exact ⟨keep p.1 p.2 ne nf nch e n,free p.1 p.2 nch e n,ne,nf,d⟩
theorem Inv.un{t':Nat}(I:Inv X pins σ H s)(u:Un X.fs [] H H' s.heap h')(hok:HOk X.prog X.w H' h'):Inv X pins σ H' {s with heap:=h',toks:=t'}:=by
 obtain ⟨m,⟨o,es,ep,ho,r⟩,_⟩:=id I.loc;obtain ⟨sl,hL⟩:=u.any ho I.free (by simp);exact I.step (g':=s.gens) (d':=s.drawn) (ch:= []) (fun _ z=>nomatch z) (fun b o _ hb _ e n=>u.keep b o e n hb (by simp)) (fun b o _ hb _ e n=>u.slot b o e n hb (by simp)) (fun b o _ e n=>u.free b o e n (by simp)) (fun b o _ e=>u.there b o e (by simp)) u.tups u.frzs u.tbls (fun m' hm=>by
  obtain ⟨o',es',ep',ho',r'⟩:=hm;rw [ho] at ho';cases ho';exact ⟨_,es',ep',hL,r'⟩) hok I.bare
theorem Inv.call{g':Array GenState}{t':Nat}{d':Drawn}{ch:List Addr}(I:Inv X pins σ H s)(u:Un (frs X.stack) ch H H' s.heap h')(hok:HOk X.prog X.w H' h')(hg:AllBare g')
  (hch: ∀b∈ch,(b∈X.ex\/X.s₀.heap.objs.size<=b)/\b≠X.env.locals/\(∀x c,X.env.cells.lookup x=some c->c≠b)/\ ∀p∈X.pn++pins,p.1≠b):
  Inv X pins σ H' {s with heap:=h',gens:=g',drawn:=d',toks:=t'}:=by
 obtain ⟨m,⟨o,es,ep,ho,r⟩,_⟩:=id I.loc;obtain ⟨sl,hL⟩:=u.any ho I.free fun z=>(hch _ z).2.1 rfl;exact I.step (ch:=ch) hch (fun b o hL hb hc e n=>u.keep b o e n (fun z=>(List.mem_cons.mp (I.stkSub b z)).elim hL hb) hc) (fun b o _ _ hc e n=>u.any e n hc) (fun b o hc e n=>u.free b o e n hc) (fun b o hc e=>u.there b o e hc) u.tups u.frzs u.tbls (fun m' hm=>by
  obtain ⟨o',es',ep',ho',r'⟩:=hm;rw [ho] at ho';cases ho';exact ⟨_,es',ep',hL,r'⟩) hok hg
theorem Inv.turned{t':Nat}{it:Addr}(I:Inv X pins σ H s)(k: ∀b o,b≠it->s.heap.get? b=some o->h'.get? b=some o)(hn:H it=none)(hL:it≠X.env.locals)
  (h1:it∈X.ex\/X.s₀.heap.objs.size<=it) (h2: ∀x c,X.env.cells.lookup x=some c->c≠it) (h3: ∀p∈X.pn++pins,p.1≠it):Inv X pins σ H {s with heap:=h',toks:=t'}:=by
 have nit: ∀b u,H b=some u->b≠it:=fun b u e z=>by rw [z,hn] at e;cases e
 refine I.step (g':=s.gens) (d':=s.drawn) (ch:= [it]) (fun b hb=>?_) (fun b o _ _ hc e _=>k b o (fun z=>hc (by simp [z])) e) (fun b o _ _ hc e _=>⟨o.slots,k b o (fun z=>hc (by simp [z])) e⟩) (fun _ _ _ _ n=>n)
  (fun b o hc e=>⟨o,k b o (fun z=>hc (by simp [z])) e⟩) (fun _ _ e=>e) (fun _ _ _ e=>e) (fun b ps e=>⟨#[],by rw [e];simp⟩) (fun m hm=>?_) (fun b u e=>?_) I.bare
 ·have e:b=it:=by simpa using hb
  subst e;exact ⟨h1,hL,h2,h3⟩
 ·obtain ⟨o,es,ep,ho,r⟩:=hm;exact ⟨o,es,ep,k _ o (Ne.symm hL) ho,r⟩
 ·refine (I.hok b u e).stay (fun c v hc q=>k c v ?_ q) (fun _ q=>q) fun _ _ q=>q;rcases hc with z | z
  ·rw [z];exact nit b u e
  ·exact nit c _ z
theorem Inv.tok(I:Inv X pins σ H s)(t:Nat):Inv X pins σ H {s with toks:=t}:=I.un (h':=s.heap) (t':=t) Un.refl I.hok
theorem Inv.kept{t':Nat}(I:Inv X pins σ H s)(k: ∀b u,s.heap.get? b=some u->h'.get? b=some u):Inv X pins σ H {s with heap:=h',toks:=t'}:=I.un (Un.kept k) (I.hok.kept k)
theorem Inv.laid{a:Addr}{o:HO}{t':Nat}(I:Inv X pins σ H s)(k: ∀b u,s.heap.get? b=some u->h'.get? b=some u)(hp:s.heap.objs.size<=a)(new:ym X.prog X.w (upd H a o) h' a o):
  Inv X pins σ (upd H a o) {s with heap:=h',toks:=t'}:=I.un (Un.laid k hp (I.hok.fresh hp)) (I.hok.laid k hp new)
theorem Inv.write{x e:Addr}{o:HO}{t':Nat}(I:Inv X pins σ H s)(mu:Mut (H x))(he:e=x\/H e=some (.own x))(k: ∀b u,b≠e->s.heap.get? b=some u->h'.get? b=some u)(heo: ∃u,h'.get? e=some u)
  (new:ym X.prog X.w (upd H x o) h' x o):Inv X pins σ (upd H x o) {s with heap:=h',toks:=t'}:=I.un (Un.write mu he k heo) (I.hok.write mu he k heo new)
theorem Inv.pins_of{pins':List (Addr×Obj)}(I:Inv X pins σ H s)(h: ∀p∈pins',s.heap.get? p.1=some p.2/\H p.1=none/\p.1≠X.env.locals/\p.1∉X.fs/\ ∀v,p.2.data≠ .cell v):Inv X pins' σ H s:=
 ⟨I.ok,I.os,I.bare,I.base,I.loc,I.cell,I.free,I.freeC,fun p hp=>(List.mem_append.mp hp).elim (fun z=>I.pin p (List.mem_append_left _ z)) (h p),I.hok,I.len⟩
theorem zGV{N:List Str}(hN:N.Nodup){i j:Nat}{x:Str}(a:N[i]?=some x)(b:N[j]?=some x):i=j:=by
 obtain ⟨h1,e1⟩:=List.getElem?_eq_some_iff.mp a;obtain ⟨h2,e2⟩:=List.getElem?_eq_some_iff.mp b;exact (List.getElem_inj hN).mp (e1.trans e2.symm)
theorem zDR{M:Model}{A:Around}{E:Value->Shared->Prop}{i:Nat}{x:Str}{v:V}{u:Value}{Q:Unit->Shared->Prop}(I:Inv X pins σ H s)(hN:X.N.Nodup)(hi:X.N[i]?=some x)(hx:Loc X.env.scope x)(r:zj v u)
  (h: ∀s',Inv X pins (σ.set i (some v)) H s'->(∃a,Heap.SameBut a s.heap s'.heap/\(a=X.env.locals\/X.env.cells.lookup x=some a))->Q () s') (hf:X.fn x=true\/X.env.scope.names.lookup x=some .local:=by first | exact .inl rfl | exact .inr rfl | assumption):wpAny M A (storeName X.env x u) Q E s:=by
 obtain ⟨m,hn,hl⟩:=id I.loc;have hcls:(X.env.scope.kind== .class ||(X.env.scope.kind== .module&&X.env.locals !=X.env.globals))=false:=by rw [I.ok.kind];rfl
 have hiσ:i<σ.length:=by rw [I.len];exact (List.getElem?_eq_some_iff.mp hi).1
 have cne:=I.cne;have tracked: ∀{a:Addr} {h':Heap},(∃o,s.heap.get? a=some o/\H a=none)->Heap.SameBut a s.heap h'->HOk X.prog X.w H h':=fun {a h'} ha hs b ob e=>by
  obtain ⟨_,_,hfree⟩:=ha;refine (I.hok b ob e).stay (fun c w' hc q=>(hs.2 c ?_).trans q) (fun _ q=>q) fun _ _ q=>q;rintro rfl;rcases hc with rfl | hc
  ·rw [hfree] at e;cases e
  ·rw [hfree] at hc;cases hc
 rcases hx with hk | hk
 ·refine wpAny_storeName_local hk hn (fun h' hn' hs=>?_) hcls;obtain ⟨oL,_,_,hoL,_⟩:=id hn;refine h _ ⟨I.ok,I.os,I.bare,⟨fun b o e n hb hx=>?_,fun b o e n hb hx=>?_,I.base.free,fun b o e hx=>?_,I.base.tups,I.base.frzs,I.base.tbls⟩,⟨_,hn',fun j y v' e1 e2 e3=>?_⟩,fun y c e=>?_,I.free,I.freeC,fun p hp=>?_,tracked ⟨oL,hoL,I.free⟩ hs,by simpa using I.len⟩ ⟨_,hs,.inl rfl⟩
  ·exact (hs.2 b (zOl (zOm (zOn e) I.ok.above))).trans (I.base.keep b o e n hb hx)
  ·obtain ⟨sl,e1⟩:=I.base.slot b o e n hb hx;exact ⟨sl,(hs.2 b (zOl (zOm (zOn e) I.ok.above))).trans e1⟩
  ·obtain ⟨o',e1⟩:=I.base.there b o e hx;exact ⟨o',(hs.2 b (zOl (zOm (zOn e) I.ok.above))).trans e1⟩
  ·by_cases hj:j=i
   ·subst hj;rw [hi] at e1;cases e1;rw [List.getElem?_set_self hiσ] at e2;cases e2;exact ⟨u,r,.inl ⟨hk,by simp⟩⟩
   ·rw [List.getElem?_set_ne (Ne.symm hj)] at e2;obtain ⟨u',r',q⟩:=hl j y v' e1 e2 e3;refine ⟨u',r',?_⟩;rcases q with ⟨k,e⟩|⟨k,c,e,z⟩
    ·refine .inl ⟨k,?_⟩;have:y≠x:=fun e=>hj (zGV hN e1 (e▸hi));simp [this,e]
    ·exact .inr ⟨k,c,e,z.sameBut hs (cne y c e)⟩
  ·obtain ⟨w',z⟩:=I.cell y c e;exact ⟨w',z.sameBut hs (cne y c e)⟩
  ·obtain ⟨e,n,ne,nf,d⟩:=I.pin p hp;exact ⟨(hs.2 p.1 ne).trans e,n,ne,nf,d⟩
 ·have hfn:X.fn x=true:=by
   rcases hf with z | z
   ·exact z
   ·rw [z] at hk;cases hk
  obtain ⟨c,hc⟩:=I.ok.has x (.inl hk);obtain ⟨w',z⟩:=I.cell x c hc;refine wpAny_storeName_cell I.ok.kind hk hc z (fun h' hc' hs=>?_);obtain ⟨oc,hoc,hocd⟩:=id z;refine h {s with heap:=h'} ⟨I.ok,I.os,I.bare,⟨fun b o e n hb hx=>?_,fun b o e n hb hx=>?_,I.base.free,fun b o e hx=>?_,I.base.tups,I.base.frzs,I.base.tbls⟩,⟨m,hn.sameBut hs (Ne.symm (cne x c hc)),fun j y v' e1 e2 e3=>?_⟩,fun y c' e=>?_,I.free,I.freeC,fun p hp=>?_,tracked ⟨oc,hoc,I.freeC x c hc⟩ hs,by simpa using I.len⟩ ⟨c,hs,.inr hc⟩
  ·exact (hs.2 b (zOl (zOm (zOn e) (I.ok.cab x c hfn hc)))).trans (I.base.keep b o e n hb hx)
  ·obtain ⟨sl,e1⟩:=I.base.slot b o e n hb hx;exact ⟨sl,(hs.2 b (zOl (zOm (zOn e) (I.ok.cab x c hfn hc)))).trans e1⟩
  ·obtain ⟨o',e1⟩:=I.base.there b o e hx;exact ⟨o',(hs.2 b (zOl (zOm (zOn e) (I.ok.cab x c hfn hc)))).trans e1⟩
  ·by_cases hj:j=i
   ·subst hj;rw [hi] at e1;cases e1;rw [List.getElem?_set_self hiσ] at e2;cases e2;exact ⟨u,r,.inr ⟨.inl hk,c,hc,hc'⟩⟩
   ·rw [List.getElem?_set_ne (Ne.symm hj)] at e2;obtain ⟨u',r',q⟩:=hl j y v' e1 e2 e3;refine ⟨u',r',?_⟩;rcases q with q |⟨k,c',e,z'⟩
    ·exact .inl q
    ·refine .inr ⟨k,c',e,z'.sameBut hs ?_⟩;rintro rfl;exact hj (zGV hN e1 (I.ok.inj _ _ _ e hc▸hi))
  ·by_cases hcc:c'=c
   ·subst hcc;exact ⟨_,hc'⟩
   ·obtain ⟨w2,z2⟩:=I.cell y c' e;exact ⟨w2,z2.sameBut hs hcc⟩
  ·obtain ⟨e,n,ne,nf,d⟩:=I.pin p hp;refine ⟨(hs.2 p.1 ?_).trans e,n,ne,nf,d⟩;intro q;rw [q,hoc] at e;have q':oc=p.2:=Option.some.inj e;exact d w' (by rw [<-q'];exact hocd)
theorem zGY{M:Model}{A:Around}{E:Value->Shared->Prop}{i:Nat}{x:Str}{v:V}{u:Value}{Q:Unit->Shared->Prop}(I:Inv X pins σ H s)(hN:X.N.Nodup)(hi:X.N[i]?=some x)(hx:Loc X.env.scope x)(r:zj v u)
  (h: ∀s',Inv X pins (σ.set i (some v)) H s'->Q () s') (hf:X.fn x=true\/X.env.scope.names.lookup x=some .local:=by first | exact .inl rfl | exact .inr rfl | assumption):wpAny M A (storeName X.env x u) Q E s:=
 zDR I hN hi hx r (fun s' I' _=>h s' I') hf
theorem Inv.call'{s':Shared}{ch:List Addr}(I:Inv X pins σ H s)(ho:s'.os=s.os)(u:Un (frs X.stack) ch H H' s.heap s'.heap)(hok:HOk X.prog X.w H' s'.heap)(hg:AllBare s'.gens)
  (hch: ∀b∈ch,(b∈X.ex\/X.s₀.heap.objs.size<=b)/\b≠X.env.locals/\(∀x c,X.env.cells.lookup x=some c->c≠b)/\ ∀p∈X.pn++pins,p.1≠b):Inv X pins σ H' s':=by
 obtain ⟨h',g',d',t',o'⟩:=s';have e:o'=s.os:=ho;subst e;exact I.call (g':=g') (t':=t') (d':=d') u hok hg hch
end
abbrev XK:=Value->Option Addr->Hp->Prop
abbrev St:=List (Option V)
abbrev VK:=V->Hp->Prop
abbrev TE:=St->Hp->VK->Prop
abbrev TT:=St->Hp->(Bool->Hp->Prop)->Prop
abbrev TA:=St->Hp->(List V->Hp->Prop)->Prop
structure Ends where
 nx:St->Hp->Prop
 rt:VK
 bk:St->Hp->Prop:=fun _ _=>False
 ct:St->Hp->Prop:=fun _ _=>False
abbrev TS:=Ends->St->Hp->Prop
def EP(X:Cx)(pins:List (Addr×Obj))(σ:St)(Q:VK)(u:Value)(s':Shared):Prop:= ∃v H',Inv X pins σ H' s'/\zj v u/\Q v H'
def TP(X:Cx)(pins:List (Addr×Obj))(σ:St)(Q:Bool->Hp->Prop)(b:Bool)(s':Shared):Prop:= ∃H',Inv X pins σ H' s'/\Q b H'
def AP(X:Cx)(pins:List (Addr×Obj))(σ:St)(Q:List V->Hp->Prop)(us:List Value)(s':Shared):Prop:= ∃vs H',Inv X pins σ H' s'/\zP vs us/\Q vs H'
def SP(X:Cx)(pins:List (Addr×Obj))(D:Ends)(f:Flow)(s':Shared):Prop:=
 match f with
 | .next=> ∃σ' H',Inv X pins σ' H' s'/\D.nx σ' H'
 | .brk=> ∃σ' H',Inv X pins σ' H' s'/\D.bk σ' H'
 | .cont=> ∃σ' H',Inv X pins σ' H' s'/\D.ct σ' H'
 | .ret u=> ∃v σ' H',Inv X pins σ' H' s'/\zj v u/\D.rt v H'
def PE(X:Cx)(e:Expr)(t:TE):Prop:=
 ∀(pins:List (Addr×Obj)) (s:Shared) (σ:St) (H:Hp) (Q:VK),Inv X pins σ H s->t σ H Q->wpAny (model X.prog X.w) X.A (eval e X.env) (EP X pins σ Q) X.xe s
def PT(X:Cx)(e:Expr)(t:TT):Prop:=
 ∀(pins:List (Addr×Obj)) (s:Shared) (σ:St) (H:Hp) (Q:Bool->Hp->Prop),Inv X pins σ H s->t σ H Q->wpAny (model X.prog X.w) X.A (isTrue e X.env (eval e X.env)) (TP X pins σ Q) X.xe s
def PW(X:Cx)(e:Expr)(t:TT):Prop:=
 ∀(whole:Sem Value) (pins:List (Addr×Obj)) (s:Shared) (σ:St) (H:Hp) (Q:Bool->Hp->Prop),Inv X pins σ H s->t σ H Q->wpAny (model X.prog X.w) X.A (isTrue e X.env whole) (TP X pins σ Q) X.xe s
theorem PW.pt{X:Cx}{e:Expr}{t:TT}(h:PW X e t):PT X e t:=h _
def PA(X:Cx)(es:List Expr)(t:TA):Prop:=
 ∀(pos:Pos) (pins:List (Addr×Obj)) (s:Shared) (σ:St) (H:Hp) (Q:List V->Hp->Prop),Inv X pins σ H s->t σ H Q->wpAny (model X.prog X.w) X.A (spliced (backTo pos (starEach es X.env))) (AP X pins σ Q) X.xe s
def PS(X:Cx)(st:Stmt)(t:TS):Prop:=
 ∀(pins:List (Addr×Obj)) (s:Shared) (σ:St) (H:Hp) (D:Ends),Inv X pins σ H s->t D σ H->wpAny (model X.prog X.w) X.A (exec st X.env) (SP X pins D) X.xe s
def PSs(X:Cx)(st:List Stmt)(t:TS):Prop:=
 ∀(pins:List (Addr×Obj)) (s:Shared) (σ:St) (H:Hp) (D:Ends),Inv X pins σ H s->t D σ H->wpAny (model X.prog X.w) X.A (execs st X.env) (SP X pins D) X.xe s
theorem zW{α:Type}{t:Sem α}{Q Q':α->Shared->Prop}{M:Model}{A:Around}{E:Value->Shared->Prop}{s:Shared}(h:wpAny M A t Q E s)(hQ: ∀a s,Q a s->Q' a s):wpAny M A t Q' E s:=zOy h hQ fun _ _ x=>x
section
variable {X:Cx}
inductive XVar (i:Nat) (σ:St) (H:Hp) (Q:VK):Prop
 | mk (v:V) (h:σ[i]?=some (some v)) (q:Q v H)
def zp(i:Nat):TE:=fun σ H Q=>XVar i σ H Q
def tC(v:V):TE:=fun _ H Q=>Q v H
theorem zGj{i:Nat}{x:Str}{pos:Pos}(hN:X.N[i]?=some x)(hv:Vis X.env.scope x)(hd:(x==("__debug__" :Str))=false:=by decide)(hcd:(x==("__classdict__" :Str))=false:=by decide):PE X (.Name x pos) (zp i):=by
 intro pins s σ H Q I h;obtain ⟨v,e,h⟩:=h;obtain ⟨m,hn,hl⟩:=I.loc;obtain ⟨u,r,l⟩:=hl i x v hN e hv;have fin:EP X pins σ Q u s:=⟨v,H,I,r,h⟩;rcases l with ⟨hk,hm⟩|⟨hk,c,hc,hcell⟩
 ·exact wpAny_Name (wpAny_loadName_local I.ok.kind hk hn hm fin) hd
 ·rcases hk with hk | hk
  ·exact wpAny_Name (wpAny_loadName_cell I.ok.kind hk hc hcell fin) hd
  ·exact wpAny_Name (wpAny_loadName_free I.ok.kind hk hc hcell fin hcd) hd
theorem zAO{i j pos}:PE X (.Constant (.int i) j pos) (tC (.int i)):=fun _ _ _ H _ I h=>wpAny_Constant_int ⟨.int i,H,I.tok _,⟨_,rfl⟩,h⟩
theorem zOE{b j pos}:PE X (.Constant (.bool b) j pos) (tC (.bl b)):=fun _ _ _ H _ I h=>Constant_bool ⟨.bl b,H,I,rfl,h⟩
theorem zMR{j pos}:PE X (.Constant .none j pos) (tC .non):=fun _ _ _ H _ I h=>Constant_none ⟨.non,H,I,rfl,h⟩
theorem zNo{x j pos}:PE X (.Constant (.str x) j pos) (tC (.str x)):=fun _ _ _ H _ I h=>Calls.Constant_str ⟨.str x,H,I.tok _,⟨_,rfl⟩,h⟩
def Gl(X:Cx)(x:Str):Prop:=X.env.kindOf x=some .globalImplicit
theorem zHj{E:Value->Shared->Prop}{pins:List (Addr×Obj)}{s:Shared}{σ:St}{H:Hp}{x:Str}{u:Value}{pos:Pos}{Q:Value->Shared->Prop}(I:Inv X pins σ H s)(hg:Gl X x)(hm:X.mg x=some u)(h:Q u s)
  (hd:(x==("__debug__" :Str))=false:=by decide):wpAny (model X.prog X.w) X.A (eval (.Name x pos) X.env) Q E s:=
 Calls.Name_function_global I.ok.kind hg (Calls.loadGlobal_global (by rw [I.ok.glob];exact I.mod.glob.keeps I.bk) hm h) hd
theorem zCF{E:Value->Shared->Prop}{pins:List (Addr×Obj)}{s:Shared}{σ:St}{H:Hp}{x:Str}{u:Value}{pos:Pos}{Q:Value->Shared->Prop}(I:Inv X pins σ H s)(hg:Gl X x)(hm:X.mg x=none)(hv:bootBuiltins x=some u)(h:Q u s)
  (hn:x≠ "__name__" :=by decide) (hd:(x==("__debug__" :Str))=false:=by decide):wpAny (model X.prog X.w) X.A (eval (.Name x pos) X.env) Q E s:=by
 obtain ⟨mb,h1,h2⟩:=I.mod.blt;exact Calls.Name_function_global I.ok.kind hg (Calls.loadGlobal_builtin (by rw [I.ok.glob];exact I.mod.glob.keeps I.bk) hm (by rw [I.ok.blt];exact h1.keeps I.bk) ((h2 x hn).trans hv) h) hd
theorem zLQ{x:Str}{v:V}{u:Value}{pos:Pos}(hg:Gl X x)(hm:X.mg x=none)(hv:bootBuiltins x=some u)(r:zj v u)(hn:x≠ "__name__" :=by decide)(hd:(x==("__debug__" :Str))=false:=by decide):PE X (.Name x pos) (tC v):=
 fun _ _ _ H _ I h=>zCF I hg hm hv ⟨v,H,I,r,h⟩ hn hd
variable {a b:Expr}{ta tb:TE}{pos:Pos}
def PC(X:Cx)(op:CmpOp)(a b:Expr)(t:TE):Prop:=
 ∀(pins:List (Addr×Obj)) (s:Shared) (σ:St) (H:Hp) (Q:VK),Inv X pins σ H s->t σ H Q->
  wpAny (model X.prog X.w) X.A (eval a X.env) (fun v s₁=>wpAny (model X.prog X.w) X.A (eval b X.env) (fun u s₂=>wpAny (model X.prog X.w) X.A (compareOp op v u) (EP X pins σ Q) X.xe s₂) X.xe s₁) X.xe s
def zKz(ta:TE):TE:=fun σ H Q=>ta σ H fun x H1=>Q (.bl (!decide (x= .non))) H1
theorem zj.none_iff{x:V}{v:Value}(r:zj x v):(v==Value.none)=decide (x= .non):=by
 cases x with
 | non=>cases r;rfl
 | bl _=>cases r;rfl
 | int _=>obtain ⟨t,rfl⟩:=r;rfl
 | str _=>obtain ⟨t,rfl⟩:=r;rfl
 | byt _=>obtain ⟨t,rfl⟩:=r;rfl
 | flt _=>obtain ⟨t,rfl⟩:=r;rfl
 | ref _=>cases r;rfl
 | ty _=>cases r;rfl
theorem zLc{j pos'}(ha:PE X a ta):PC X .IsNot a (.Constant .none j pos') (zKz ta):=by
 intro pins s σ H Q I h;refine zW (ha pins s σ H _ I h) fun v s1 ⟨x,H1,I1,r1,q1⟩=>?_;exact Constant_none (isnot_none_gen ⟨.bl _,H1,I1,by rw [r1.none_iff];rfl,q1⟩)
inductive XB (x:V) (H:Hp) (Q:Bool->Hp->Prop):Prop
 | mk (c:Bool) (h:x= .bl c) (q:Q c H)
def tB(t:TE):TT:=fun σ H Q=>t σ H fun x H1=>XB x H1 Q
theorem zNF{op:CmpOp}{t:TE}(h:PC X op a b t)(h1:behindInMarks op b=false:=by first | exact nobehind _ (by decide) (by decide)| rfl):PT X (.Compare a [op] [b] pos) (tB t):=by
 intro pins s σ H Q I hw;refine wpAny_isTrue_Compare1 (zW (h pins s σ H _ I hw) fun v s1 h1=>zW h1 fun u s2 h2=>zW h2 fun c s3 ⟨x,H1,I1,r1,q1⟩=>?_) h1;obtain ⟨d,rfl,q⟩:=q1;cases r1;exact zPO ⟨H1,I1,q⟩
theorem zNa{e:Expr}{t:TE}(h:PE X e t)(he: ∀whole,isTrue e X.env whole=(do let v<-whole;standAt e.pos;holding [v] (truthy v)):=by intro _;rfl):PT X e (tB t):=by
 intro pins s σ H Q I hw;refine isTrue_plain (zW (h pins s σ H _ I hw) fun v s1 ⟨x,H1,I1,r1,q1⟩=>?_) (he _);obtain ⟨d,rfl,q⟩:=q1;cases r1;exact zPO ⟨H1,I1,q⟩
variable {tA tB':TT}{rest:List Expr}
def zNh(t u:TT):TT:=fun σ H Q=>t σ H fun c H1=>if c=true then u σ H1 Q else Q false H1
def tOr(t u:TT):TT:=fun σ H Q=>t σ H fun c H1=>if c=true then Q true H1 else u σ H1 Q
def zKS(t:TT):TT:=fun σ H Q=>t σ H fun c H1=>Q (!c) H1
theorem zMI(ha:PT X a tA):PW X (.BoolOp .And [a] pos) tA:=by
 intro wh pins s σ H Q I h;refine isTrue_and (zW (ha pins s σ H Q I h) fun c s1 e=>?_);cases c with
 | true=>exact isTrue_and_nil e
 | false=>exact e
theorem zMy(ha:PT X a tA):PW X (.BoolOp .Or [a] pos) tA:=by
 intro wh pins s σ H Q I h;refine isTrue_or (zW (ha pins s σ H Q I h) fun c s1 e=>?_);cases c with
 | false=>exact isTrue_or_nil e
 | true=>exact e
theorem zNk(ha:PT X a tA)(hb:PW X (.BoolOp .And (b::rest) pos) tB'):PW X (.BoolOp .And (a::b::rest) pos) (zNh tA tB'):=by
 intro wh pins s σ H Q I h;refine isTrue_and (zW (ha pins s σ H _ I h) fun c s1 ⟨H1,I1,q1⟩=>?_);cases c with
 | true=>exact hb wh pins s1 σ H1 Q I1 q1
 | false=>exact ⟨H1,I1,q1⟩
theorem zOL(ha:PT X a tA)(hb:PW X (.BoolOp .Or (b::rest) pos) tB'):PW X (.BoolOp .Or (a::b::rest) pos) (tOr tA tB'):=by
 intro wh pins s σ H Q I h;refine isTrue_or (zW (ha pins s σ H _ I h) fun c s1 ⟨H1,I1,q1⟩=>?_);cases c with
 | true=>exact ⟨H1,I1,q1⟩
 | false=>exact hb wh pins s1 σ H1 Q I1 q1
theorem zMm(ha:PT X a tA):PT X (.UnaryOp .Not a pos) (zKS tA):=by
 intro pins s σ H Q I h;exact isTrue_not (ha pins s σ H (fun c H1=>Q (!c) H1) I h)
inductive XAnd (tb:TE) (x:V) (σ:St) (H:Hp) (Q:VK):Prop
 | mk (c:Bool) (h:x= .bl c) (q:if c=true then tb σ H Q else Q (.bl false) H)
def zLA(ta tb:TE):TE:=fun σ H Q=>ta σ H fun x H1=>XAnd tb x σ H1 Q
inductive XNot (x:V) (H:Hp) (Q:VK):Prop
 | mk (c:Bool) (h:x= .bl c) (q:Q (.bl (!c)) H)
def zKv(ta:TE):TE:=fun σ H Q=>ta σ H fun x H1=>XNot x H1 Q
theorem zNd{op}{t:TE}(h:PE X a t):PE X (.BoolOp op [a] pos) t:=fun pins s σ H Q I hw=>BoolOp_one (h pins s σ H Q I hw)
theorem zNP(ha:PE X a ta)(hb:PE X (.BoolOp .And (b::rest) pos) tb):PE X (.BoolOp .And (a::b::rest) pos) (zLA ta tb):=by
 intro pins s σ H Q I h;refine BoolOp_and (zW (ha pins s σ H _ I h) fun v s1 ⟨x,H1,I1,r1,q1⟩=>?_);obtain ⟨c,rfl,q1⟩:=q1;cases r1;refine zPO ?_;cases c with
 | true=>exact hb pins s1 σ H1 Q I1 q1
 | false=>exact ⟨.bl false,H1,I1,rfl,q1⟩
theorem zNq(ha:PE X a ta):PE X (.UnaryOp .Not a pos) (zKv ta):=by
 intro pins s σ H Q I h;refine UnaryOp_ (zW (ha pins s σ H _ I h) fun v s1 ⟨x,H1,I1,r1,q1⟩=>?_);obtain ⟨c,rfl,q1⟩:=q1;cases r1;exact not_of (zPO ⟨.bl (!c),H1,I1,rfl,q1⟩)
def tIf(t:TT)(ta tb:TE):TE:=fun σ H Q=>t σ H fun c H1=>if c=true then ta σ H1 Q else tb σ H1 Q
theorem zKV{c:Expr}(hc:PT X c tA)(ha:PE X a ta)(hb:PE X b tb):PE X (.IfExp c a b pos) (tIf tA ta tb):=by
 intro pins s σ H Q I h;refine wpAny_IfExp (zW (hc pins s σ H _ I h) fun d s1 ⟨H1,I1,q1⟩=>?_);cases d with
 | true=>exact ha pins s1 σ H1 Q I1 q1
 | false=>exact hb pins s1 σ H1 Q I1 q1
end
def SqL(K:zPS)(H:Hp)(a:Addr)(xs:List V):Prop:=
 Rd H a (.lst xs)\/
  ∃(o:Obj) (its:Array Value) (n:Nat),K.lookup a=some o/\o.cls= .type "list" /\o.dict=none/\o.data= .seq its n/\its.size<=sizeLine/\zP xs its.toList
def SqT(K:zPS)(H:Hp)(a:Addr)(xs:List V):Prop:=
 Rd H a (.tup xs)\/
  ∃(o:Obj) (its:Array Value) (n:Nat),K.lookup a=some o/\o.cls= .type "tuple" /\o.data= .seq its n/\its.size<=sizeLine/\zP xs its.toList
def zOS:Value->Option V
 | .none=>some .non
 | .bool b=>some (.bl b)
 | .int i _=>some (.int i)
 | .str x _=>some (.str x)
 | .bytes b _=>some (.byt b)
 | .float b _=>some (.flt b)
 | .ref a=>some (.ref a)
 | .type n=>some (.ty n)
 | _=>none
theorem zj.abs{x:V}{u:Value}(r:zj x u):zOS u=some x:=by
 cases x with
 | non=>cases r;rfl
 | bl _=>cases r;rfl
 | int _=>obtain ⟨t,rfl⟩:=r;rfl
 | str _=>obtain ⟨t,rfl⟩:=r;rfl
 | byt _=>obtain ⟨t,rfl⟩:=r;rfl
 | flt _=>obtain ⟨t,rfl⟩:=r;rfl
 | ref _=>cases r;rfl
 | ty _=>cases r;rfl
theorem zj.inj{x y:V}{u:Value}(r:zj x u)(q:zj y u):x=y:=Option.some.inj (r.abs.symm.trans q.abs)
theorem zP.inj: ∀{xs ys:List V} {us:List Value},zP xs us->zP ys us->xs=ys
 | _,_,_,.nil,.nil=>rfl
 | _,_,_,.cons r t,.cons r' t'=>by rw [r.inj r',zP.inj t t']
section
variable {X:Cx}{pins:List (Addr×Obj)}{σ:St}{H:Hp}{s:Shared}{a:Addr}{xs ys:List V}
theorem SqL.of{K:zPS}(h:H a=some (.lst xs)):SqL K H a xs:= .inl (.inl h)
theorem SqT.of{K:zPS}(h:H a=some (.tup xs)):SqT K H a xs:= .inl (.inl h)
theorem Inv.list(I:Inv X pins σ H s)(h:SqL X.K H a xs): ∃its:List Value,zP xs its/\PlainL s.heap a its.toArray/\xs.length<=sizeLine:=by
 rcases h with h |⟨o,its,n,hk,hc,hd,hs,hz,r⟩
 ·obtain ⟨z,its,n,r,e⟩:=h.ok I.hok;exact ⟨its,r,⟨_,n,e,rfl,rfl,rfl⟩,z⟩
 ·refine ⟨its.toList,r,⟨o,n,I.kIn a o hk,hc,hd,by simpa using hs⟩,?_⟩;have e:=r.length;simp only [Array.length_toList] at e;omega
theorem Inv.tuple(I:Inv X pins σ H s)(h:SqT X.K H a xs): ∃its:List Value,zP xs its/\IsTup s.heap a its.toArray/\xs.length<=sizeLine:=by
 rcases h with h |⟨o,its,n,hk,hc,hs,hz,r⟩
 ·obtain ⟨z,its,r,o,e,c,⟨n,d⟩,_⟩:=h.ok I.hok;exact ⟨its,r,⟨o,e,c,n,d⟩,z⟩
 ·refine ⟨its.toList,r,⟨o,I.kIn a o hk,hc,n,by simpa using hs⟩,?_⟩;have e:=r.length;simp only [Array.length_toList] at e;omega
theorem Inv.list_inj(I:Inv X pins σ H s)(h:SqL X.K H a xs)(h':SqL X.K H a ys):xs=ys:=by
 obtain ⟨its,r,⟨o,n,e,_,_,d⟩,_⟩:=I.list h;obtain ⟨its',r',⟨o',n',e',_,_,d'⟩,_⟩:=I.list h';rw [e] at e';cases e';rw [d] at d';injection d' with d1 _;have:its=its':=by simpa using congrArg Array.toList d1
 subst this;exact r.inj r'
end
abbrev Cx.wish(X:Cx)(E:Value->Shared->Prop):Cx:={X with xe:=E}
abbrev Cx.nox(X:Cx):Cx:=X.wish fun _ _=>False
theorem Cx.Ok.wish{X:Cx}(ok:X.Ok)(E:Value->Shared->Prop):(X.wish E).Ok:=
 ⟨ok.mod,ok.kind,ok.glob,ok.blt,ok.above,ok.inj,ok.has,ok.cab,ok.hd,ok.frames,ok.stk,ok.exf,ok.bs,ok.bsz,ok.noex,ok.exfs,ok.funs,ok.frf⟩
theorem Cx.Ok.unwish{X:Cx}{E:Value->Shared->Prop}(ok:(X.wish E).Ok):X.Ok:=
 ⟨ok.mod,ok.kind,ok.glob,ok.blt,ok.above,ok.inj,ok.has,ok.cab,ok.hd,ok.frames,ok.stk,ok.exf,ok.bs,ok.bsz,ok.noex,ok.exfs,ok.funs,ok.frf⟩
section
variable {X:Cx}{pins:List (Addr×Obj)}{σ:St}{H:Hp}{s:Shared}{E:Value->Shared->Prop}
theorem Inv.wish(I:Inv X pins σ H s)(E:Value->Shared->Prop):Inv (X.wish E) pins σ H s:=⟨I.ok.wish E,I.os,I.bare,I.base,I.loc,I.cell,I.free,I.freeC,I.pin,I.hok,I.len⟩
theorem Inv.unwish(I:Inv (X.wish E) pins σ H s):Inv X pins σ H s:=⟨I.ok.unwish,I.os,I.bare,I.base,I.loc,I.cell,I.free,I.freeC,I.pin,I.hok,I.len⟩
theorem SP.unwish{D:Ends}{f:Flow}{s':Shared}(h:SP (X.wish E) pins D f s'):SP X pins D f s':=by
 cases f with
 | next=>obtain ⟨σ',H',I,q⟩:=h;exact ⟨σ',H',I.unwish,q⟩
 | brk=>obtain ⟨σ',H',I,q⟩:=h;exact ⟨σ',H',I.unwish,q⟩
 | cont=>obtain ⟨σ',H',I,q⟩:=h;exact ⟨σ',H',I.unwish,q⟩
 | ret u=>obtain ⟨v,σ',H',I,r,q⟩:=h;exact ⟨v,σ',H',I.unwish,r,q⟩
theorem PSs.nox{st:List Stmt}{t:TS}(h:PSs X.nox st t):PSs X st t:=fun pins s σ H D I hw=>
 zOy (h pins s σ H D (I.wish _) hw) (fun _ _ q=>q.unwish) fun _ _ z=>False.elim z
end
section
variable {X:Cx}{st:Stmt}{rest:List Stmt}{t u:TS}{e:Expr}{te:TE}{pos:Pos}
def zLM:TS:=fun D σ H=>D.nx σ H
def zNU(t u:TS):TS:=fun D σ H=>t {D with nx:=u D} σ H
theorem zHM:PSs X [] zLM:=fun _ _ σ H _ I h=>wpAny_execs_nil ⟨σ,H,I,h⟩
theorem zAa(h1:PS X st t)(h2:PSs X rest u):PSs X (st::rest) (zNU t u):=by
 intro pins s σ H D I h;refine wpAny_execs_cons (zW (h1 pins s σ H {D with nx:=u D} I h) fun f s1 q=>?_);cases f with
 | next=>
  obtain ⟨σ',H',I',q⟩:=q;exact h2 pins s1 σ' H' D I' q
 | ret v=>exact q
 | brk=>exact q
 | cont=>exact q
theorem zBp(h1:PS X st t):PSs X [st] t:=by
 intro pins s σ H D I h;refine wpAny_execs_cons (zW (h1 pins s σ H D I h) fun f s1 q=>?_);cases f with
 | next=>exact wpAny_execs_nil q
 | ret v=>exact q
 | brk=>exact q
 | cont=>exact q
theorem Inv.quiet{pins:List (Addr×Obj)}{σ:St}{H:Hp}{s:Shared}(I:Inv X pins σ H s):interactive X.env=false:=by simp [interactive,I.ok.kind]
def zLP(te:TE):TS:=fun D σ H=>te σ H fun _ H1=>D.nx σ H1
theorem zLo(he:PE X e te)(hs:swapsWith e none pos.line X.env=pure false:=by rfl):PS X (.Expr e pos) (zLP te):=by
 intro pins s σ H D I h;exact wpAny_Expr_any (zW (he pins s σ H _ I h) fun v s1 ⟨x,H1,I1,r1,q1⟩=>⟨σ,H1,I1,q1⟩) I.quiet hs
def zNQ(te:TE):TS:=fun D σ H=>te σ H D.rt
theorem zDQ(he:PE X e te):PS X (.Return (some e) pos) (zNQ te):=by
 intro pins s σ H D I h;exact wpAny_Return_some (zW (he pins s σ H _ I h) fun v s1 ⟨x,H1,I1,r1,q1⟩=>⟨x,σ,H1,I1,r1,q1⟩)
def zNB(c:TT)(t u:TS):TS:=fun D σ H=>c σ H fun b H1=>if b=true then t D σ H1 else u D σ H1
theorem zLH{c:Expr}{a b:List Stmt}{tc:TT}(hc:PT X c tc)(ha:PSs X a t)(hb:PSs X b u):PS X (.If c a b pos) (zNB tc t u):=by
 intro pins s σ H D I h;refine wpAny_If (zW (hc pins s σ H _ I h) fun d s1 ⟨H1,I1,q1⟩=>?_);cases d with
 | true=>exact ha pins s1 σ H1 D I1 q1
 | false=>exact hb pins s1 σ H1 D I1 q1
end
abbrev TG:=V->St->Hp->(St->Hp->Prop)->Prop
abbrev TGs:=List V->St->Hp->(St->Hp->Prop)->Prop
def PG(X:Cx)(target:Expr)(t:TG):Prop:=
 ∀(pins:List (Addr×Obj)) (s:Shared) (σ:St) (H:Hp) (v:V) (u:Value) (Q:St->Hp->Prop),Inv X pins σ H s->zj v u->t v σ H Q->
  wpAny (model X.prog X.w) X.A (assign target X.env u) (fun _ s'=> ∃σ' H',Inv X pins σ' H' s'/\Q σ' H') X.xe s
def PGs(X:Cx)(ts:List Expr)(t:TGs):Prop:=
 ∀(pins:List (Addr×Obj)) (s:Shared) (σ:St) (H:Hp) (vs:List V) (us:List Value) (Q:St->Hp->Prop),Inv X pins σ H s->zP vs us->t vs σ H Q->
  wpAny (model X.prog X.w) X.A (assignInOrder ((assignEach ts X.env).map (·.2)) us) (fun _ s'=> ∃σ' H',Inv X pins σ' H' s'/\Q σ' H') X.xe s
abbrev zOQ:=V->V->V->Hp->(Hp->Prop)->Prop
def zOZ(X:Cx)(t:zOQ):Prop:=
 ∀(pins:List (Addr×Obj)) (s:Shared) (σ:St) (H:Hp) (o i v:V) (ov iv u:Value) (Q:Hp->Prop),Inv X pins σ H s->zj o ov->zj i iv->zj v u->t o i v H Q->
  wpAny (model X.prog X.w) X.A (setItem ov iv u) (fun _ s'=> ∃H',Inv X pins σ H' s'/\Q H') X.xe s
section
variable {X:Cx}{pos:Pos}
def yH(i:Nat):TG:=fun v σ H Q=>Q (σ.set i (some v)) H
theorem zLt{i:Nat}{x:Str}(hN:X.N.Nodup)(hi:X.N[i]?=some x)(hx:Loc X.env.scope x)(hf:X.fn x=true\/X.env.scope.names.lookup x=some .local:=by first | exact .inl rfl | exact .inr rfl | assumption):PG X (.Name x pos) (yH i):=by
 intro pins s σ H v u Q I r h;exact wpAny_assign_Name (zGY I hN hi hx r (fun s' I'=>⟨_,H,I',h⟩) hf)
def zMi:TGs:=fun vs σ H Q=>vs= [] /\Q σ H
inductive XCons (t:TG) (u:TGs) (vs:List V) (σ:St) (H:Hp) (Q:St->Hp->Prop):Prop
 | mk (v:V) (r:List V) (h:vs=v::r) (q:t v σ H fun σ' H'=>u r σ' H' Q)
def zKs(t:TG)(u:TGs):TGs:=fun vs σ H Q=>XCons t u vs σ H Q
theorem zLY:PGs X [] zMi:=by
 intro pins s σ H vs us Q I r h;obtain ⟨e,h⟩:=h;subst e;cases r;exact assignInOrder_nil ⟨σ,H,I,h⟩
theorem zKa{e:Expr}{es:List Expr}{t:TG}{u:TGs}(h1:PG X e t)(h2:PGs X es u)
  (hs:(assignEach (e::es) X.env).map (·.2)=assign e X.env::(assignEach es X.env).map (·.2):=by rfl):PGs X (e::es) (zKs t u):=by
 intro pins s σ H vs us Q I r h;obtain ⟨v,vr,e1,h⟩:=h;subst e1;cases r with
 | cons r rr=>
  rw [hs];refine assignInOrder_cons (zW (h1 pins s σ H _ _ _ I r h) fun _ s1 ⟨σ1,H1,I1,q1⟩=>?_);exact h2 pins s1 σ1 H1 _ _ Q I1 rr q1
inductive XTup (K:zPS) (n:Nat) (t:TGs) (v:V) (σ:St) (H:Hp) (Q:St->Hp->Prop):Prop
 | mk (a:Addr) (xs:List V) (h:v= .ref a) (h2:SqT K H a xs) (h3:xs.length=n) (q:t xs σ H Q)
def zMb(K:zPS)(n:Nat)(t:TGs):TG:=fun v σ H Q=>XTup K n t v σ H Q
theorem zNM{es:List Expr}{k:Nat}{t:TGs}{n:Nat}(hc:X.calm=true)(h:PGs X es t)
  (hn:(assignEach es X.env).length=n:=by rfl) (hst:(assignEach es X.env).findIdx? (·.1)=none:=by rfl):PG X (.Tuple es k pos) (zMb X.K n t):=by
 intro pins s σ H v u Q I r hw;obtain ⟨a,xs,e1,hq,hl,hw⟩:=hw;subst e1;cases r;obtain ⟨its,rv,ht,hz⟩:=I.tuple hq;refine assign_Tuple_tuple (I.ok.hd hc) ht (by simp [hn,<-hl,rv.length]) hst fun h' hx=>?_;have I1:Inv X pins σ H {s with heap:=h'}:=I.kept (t':=s.toks) fun b o e=>hx b o (zOl (zOn e)) e;exact h pins _ σ H xs _ Q I1 (by simpa using rv) hw
def zDA(te:TE)(g:TG):TS:=fun D σ H=>te σ H fun x H1=>g x σ H1 D.nx
theorem zMd{tg e:Expr}{te:TE}{g:TG}(he:PE X e te)(hg:PG X tg g)(hs:swapsWithSole [tg] e pos.line X.env=pure false:=by rfl)(hw:swappedStores [tg] e X.env=pure none:=by rfl)
  (h1:(assignEach [tg] X.env).map (·.2)= [assign tg X.env] :=by rfl):PS X (.Assign [tg] e pos) (zDA te g):=by
 intro pins s σ H D I h;refine wpAny_Assign_stores (zW (he pins s σ H _ I h) fun v s1 ⟨x,H1,I1,r1,q1⟩=>?_) hs hw;rw [h1];exact zW (hg pins s1 σ H1 x v _ I1 r1 q1) fun _ s2 q=>q
theorem zBz{i:Nat}{x:Str}{e:Expr}{te:TE}{pos':Pos}(hN:X.N.Nodup)(hi:X.N[i]?=some x)(hx:Loc X.env.scope x)(he:PE X e te)(hs:swapsWith e (some (.Name x pos')) pos.line X.env=pure false:=by rfl)(hf:X.fn x=true\/X.env.scope.names.lookup x=some .local:=by first | exact .inl rfl | exact .inr rfl | assumption):
  PS X (.Assign [.Name x pos'] e pos) (zDA te (yH i)):=by
 intro pins s σ H D I h;refine wpAny_Assign_Name (zW (he pins s σ H _ I h) fun v s1 ⟨y,H1,I1,r1,q1⟩=>?_) hs;exact zGY I1 hN hi hx r1 (fun s2 I2=>⟨_,H1,I2,q1⟩) hf
end
section
variable {X:Cx}{pos:Pos}
def zGy(c:TT)(tb:TS):TS:=fun D σ H=> ∃W:Nat->St->Hp->Prop,(∃m,W m σ H)/\ ∀m σ H,W m σ H->
 c σ H fun b H1=>if b=true then∃N:St->Hp->Prop,(∀σ' H',N σ' H'-> ∃m',m'<m/\W m' σ' H')/\tb {D with nx:=N,ct:=N,bk:=D.nx} σ H1 else D.nx σ H1
theorem zGD{c:Expr}{body:List Stmt}{tc:TT}{tb:TS}(hp:PassesOwn (model X.prog X.w) X.A X.env X.xe)(hc:PT X c tc)(hb:PSs X body tb):PS X (.While c body [] pos) (zGy tc tb):=by
 intro pins s σ H D I h;obtain ⟨W,⟨m0,w0⟩,turn⟩:=h;refine wpAny_While (codeAny_whileLoop (fun n s'=> ∃σ' H',Inv X pins σ' H' s'/\W n σ' H') ?_ m0 ⟨σ,H,I,w0⟩);rintro n s1 ⟨σ1,H1,I1,w1⟩;refine wpAny_passesOwn hp (zW (hc pins s1 σ1 H1 _ I1 (turn n σ1 H1 w1)) fun b s2 ⟨H2,I2,q2⟩=>?_);cases b with
 | true=>
  obtain ⟨N,hN,q2⟩:=q2;rw [if_pos rfl];refine wpAny_passesOwn hp (zW (hb pins s2 σ1 H2 _ I2 q2) fun f s3 q3=>?_);cases f with
  | next=>
   obtain ⟨σ3,H3,I3,n3⟩:=q3;obtain ⟨m',hm,w3⟩:=hN σ3 H3 n3;exact ⟨m',hm,σ3,H3,I3,w3⟩
  | cont=>
   obtain ⟨σ3,H3,I3,n3⟩:=q3;obtain ⟨m',hm,w3⟩:=hN σ3 H3 n3;exact ⟨m',hm,σ3,H3,I3,w3⟩
  | brk=>exact q3
  | ret v=>exact q3
 | false=>
  rw [if_neg zOq];exact wpAny_execs_nil ⟨σ1,H2,I2,q2⟩
end
structure It where
 go:Nat->Hp->Prop
 yld:Nat->Hp->V->Hp->Prop
 stop:Nat->Hp->Prop
def zAy(X:Cx)(pins:List (Addr×Obj))(H:Hp)(b:Addr):Prop:=
 H b=none/\b≠X.env.locals/\b∉X.fs/\(b∈X.ex\/X.s₀.heap.objs.size<=b)/\(∀x c,X.env.cells.lookup x=some c->c≠b)/\ ∀p∈X.pn++pins,p.1≠b
theorem Inv.fpOk{X:Cx}{pins:List (Addr×Obj)}{σ:St}{H H':Hp}{s:Shared}{b:Addr}(I:Inv X pins σ H s)(hb:s.heap.objs.size<=b)(hn:H' b=none):zAy X pins H' b:=by
 refine ⟨hn,zPM (zOm I.lt hb),I.nofs hb,.inr (zOr I.sz hb),fun x c e z=>?_,fun p hp z=>?_⟩
 ·obtain ⟨v,q⟩:=I.cell x c e;exact absurd (zOm q.lt (by rw [z];exact hb)) (Nat.lt_irrefl _)
 ·exact absurd (zOm (zOn (I.pin p hp).1) (by rw [z];exact hb)) (Nat.lt_irrefl _)
structure Turn(P:Program)(w:World)(K:zPS)(tg:Expr)(J:It)(fp:List Addr)(it:Addr)(tn:Nat->Heap->Prop):Prop where
 mem:it∈fp
 obj: ∀i h,tn i h-> ∀b∈fp,∃o,h.get? b=some o/\ ∀v,o.data≠ .cell v
 keep: ∀i h h',tn i h->(∀b∈fp,∀o,h.get? b=some o->h'.get? b=some o)->tn i h'
 item: ∀(X:Cx),X.prog=P->X.w=w->X.K=K->X.calm=true-> ∀(i:Nat) (pins:List (Addr×Obj)) (s:Shared) (σ:St) (H:Hp) (E:Value->Shared->Prop),Inv X pins σ H s->(∀b∈fp,zAy X pins H b)->tn i s.heap->J.go i H->
  wpAny (model P w) X.A (pyNext (.ref it)) (fun r s1=> ∃u,r=some u/\
   wpAny (model P w) X.A (letOwnedTupleGo tg (.ref it) u) (fun _ s2=> ∃x H',Inv X pins σ H' s2/\zj x u/\J.yld i H x H'/\tn (i+1) s2.heap/\ ∀b∈fp,H' b=none) E s1) E s
 done: ∀(X:Cx),X.prog=P->X.w=w->X.K=K->X.calm=true-> ∀(i:Nat) (pins:List (Addr×Obj)) (s:Shared) (σ:St) (H:Hp) (E:Value->Shared->Prop),Inv X pins σ H s->(∀b∈fp,zAy X pins H b)->tn i s.heap->J.stop i H->
  wpAny (model P w) X.A (pyNext (.ref it)) (fun r s1=>r=none/\Inv X pins σ H s1) E s
 self: ∀(A:Around) (i:Nat) (s:Shared) (Q:Value->Shared->Prop) (E:Value->Shared->Prop),tn i s.heap->Q (.ref it) s->wpAny (model P w) A (pyIter (.ref it)) Q E s
abbrev TI:=St->Hp->(It->Hp->Prop)->Prop
def PIE(X:Cx)(pins:List (Addr×Obj))(σ:St)(tg:Expr)(R:It->Hp->Prop)(itv:Value)(s2:Shared):Prop:=
 ∃(it:Addr) (fp:List Addr) (tn:Nat->Heap->Prop) (J:It) (H':Hp),itv= .ref it/\Inv X pins σ H' s2/\Turn X.prog X.w X.K tg J fp it tn/\tn 0 s2.heap/\(∀b∈fp,zAy X pins H' b)/\R J H'
def PI(X:Cx)(tg iter:Expr)(wi:TI):Prop:=
 ∀(pins:List (Addr×Obj)) (s:Shared) (σ:St) (H:Hp) (R:It->Hp->Prop),Inv X pins σ H s->wi σ H R->
  wpAny (model X.prog X.w) X.A (eval iter X.env) (fun v s1=>wpAny (model X.prog X.w) X.A (pyIter v) (PIE X pins σ tg R) X.xe s1) X.xe s
theorem zIa{M:Model}{A:Around}{E:Value->Shared->Prop}{s:Shared}{tg:Expr}{it:Addr}{u:Value}{o:Obj}{n:String}{vs:Array Value}{Q:Unit->Shared->Prop}(ho:s.heap.get? it=some o)(hc:o.cls= .type n)(hd:o.data= .fields vs)
  (hn: ["enumerate","zip","dict_itemiterator","dict_reverseitemiterator","odict_iterator","itertools.zip_longest","itertools.pairwise"].contains n=false) (hQ:Q () s):wpAny M A (letOwnedTupleGo tg (.ref it) u) Q E s:=by
 unfold letOwnedTupleGo;cases tg<;>first
  | exact zOj hQ
  |(cases u<;>first
    | exact zOj hQ
    |(refine zOe (wpAny_load ho ?_)
      rw [hc,hd];show wpAny M A (if (["enumerate","zip","dict_itemiterator","dict_reverseitemiterator","odict_iterator","itertools.zip_longest","itertools.pairwise"].contains n&&vs[0]?==some (rawInt _))=true then _ else _) Q E s;rw [if_neg (by intro h;rw [hn,Bool.false_and] at h;cases h)];exact zOj hQ))
def Itl(K:zPS)(a:Addr):It:=
 ⟨fun i H=> ∃xs x,SqL K H a xs/\xs[i]?=some x,fun i H x H'=>H'=H/\ ∀xs,SqL K H a xs->xs[i]?=some x,fun i H=> ∃xs,SqL K H a xs/\xs.length<=i⟩
def Itr(lo:Int)(n:Nat):It:=⟨fun i _=>i<n,fun i H x H'=>H'=H/\x= .int (lo+i),fun i _=>n<=i⟩
theorem zIv{P:Program}{w:World}{K:zPS}{tg:Expr}(a it:Addr):Turn P w K tg (Itl K a) [it] it (fun i h=>h.IsListIter it a i) where
 mem:=by simp
 obj:=fun i h st b hb=>by
  have e:b=it:=by simpa using hb
  subst e;obtain ⟨o,e,c,d⟩:=st;exact ⟨o,e,fun v z=>by rw [d] at z;cases z⟩
 keep:=fun i h h' st k=>st.at fun o e=>k it (by simp) o e
 item:=by
  intro X hP hw hK hc i pins s σ H E I hf st hg;subst hP hw hK;obtain ⟨xs,x,hq,hx⟩:=hg;obtain ⟨its,rv,p,hz⟩:=I.list hq;obtain ⟨u,hu,ru⟩:=rv.get hx;obtain ⟨f0,f1,f2,f3,f4,f5⟩:=hf it (by simp);refine wpAny_pyNext_list_item st p.isList (x:=u) (by simpa using hu) fun h' st' sb=>?_;have I1:Inv X pins σ H {s with heap:=h'}:=I.turned (t':=s.toks) (fun b o hb e=>(sb.2 b hb).trans e) f0 f1 f3 f4 f5;obtain ⟨o,e,c,d⟩:=id st';exact ⟨u,rfl,zIa (s:={s with heap:=h'}) e c d (by decide) ⟨x,H,I1,ru,⟨rfl,fun ys hy=>by rw [I.list_inj hy hq];exact hx⟩,st',fun b hb=>(hf b hb).1⟩⟩
 done:=by
  intro X hP hw hK hc i pins s σ H E I hf st hg;subst hP hw hK;obtain ⟨xs,hq,hx⟩:=hg;obtain ⟨its,rv,p,hz⟩:=I.list hq;obtain ⟨f0,f1,f2,f3,f4,f5⟩:=hf it (by simp);have hl:=rv.length;exact wpAny_pyNext_list_end (I.ok.hd hc) st p.isList (by simp;omega) fun h' eb=>⟨rfl,I.turned (t':=s.toks) (fun b o hb e=>eb b o hb e) f0 f1 f3 f4 f5⟩
 self:=fun _ _ _ _ _ st h=>wpAny_pyIter_listiter st h
theorem zIS{P:Program}{w:World}{K:zPS}{tg:Expr}(it:Addr)(lo:Int)(n:Nat):Turn P w K tg (Itr lo n) [it] it (fun i h=>IsRangeIter h it (lo+(i:Nat)*1) ((n:Int) -(i:Nat)) 1) where
 mem:=by simp
 obj:=fun i h st b hb=>by
  have e:b=it:=by simpa using hb
  subst e;exact ⟨_,st,fun v z=>by
   have z':Data.fields _=Data.cell v:=z;cases z'⟩
 keep:=fun i h h' st k=>k it (by simp) _ st
 item:=by
  intro X hP hw hK hc i pins s σ H E I hf st hg;subst hP hw hK;obtain ⟨f0,f1,f2,f3,f4,f5⟩:=hf it (by simp);have W:=Walks.range (prog:=X.prog) (w:=X.w) (I.ok.hd hc) it lo 1 n;refine W.item i s _ _ hg st fun v h' tk hv st' kk=>?_;obtain ⟨t,rfl⟩:=hv;have I1:Inv X pins σ H {s with heap:=h',toks:=tk}:=I.turned (fun b o hb e=>kk b o (by simpa using hb) e) f0 f1 f3 f4 f5;refine ⟨_,rfl,zIa (s:={s with heap:=h',toks:=tk}) (n:= "range_iterator") st' rfl rfl (by decide) ⟨.int (lo+i),H,I1,⟨t,?_⟩,⟨rfl,rfl⟩,st',fun b hb=>(hf b hb).1⟩⟩;rw [Int.mul_one]
 done:=by
  intro X hP hw hK hc i pins s σ H E I hf st hg;subst hP hw hK;obtain ⟨f0,f1,f2,f3,f4,f5⟩:=hf it (by simp);exact wpAny_pyNext_range_end (I.ok.hd hc) st (by have:n<=i:=hg;omega) fun h' eb=>⟨rfl,I.turned (t':=s.toks) (fun b o hb e=>eb b o hb e) f0 f1 f3 f4 f5⟩
 self:=fun _ _ _ _ _ st h=>wpAny_pyIter_rangeiter st h
section
variable {X:Cx}{tg:Expr}
inductive XIl (K:zPS) (x:V) (H:Hp) (R:It->Hp->Prop):Prop
 | mk (a:Addr) (h:x= .ref a) (h2: ∃xs,SqL K H a xs) (q:R (Itl K a) H)
def zHx(K:zPS)(tl:TE):TI:=fun σ H R=>tl σ H fun x H1=>XIl K x H1 R
theorem zLv{l:Expr}{tl:TE}(hl:PE X l tl):PI X tg l (zHx X.K tl):=by
 intro pins s σ H R I h;refine zW (hl pins s σ H _ I h) fun v s1 ⟨x,H1,I1,r1,q1⟩=>?_;obtain ⟨a,e,⟨xs,hq⟩,q⟩:=q1;subst e;cases r1;obtain ⟨its,rv,p,hz⟩:=I1.list hq;refine wpAny_pyIter_list p.isList ?_;refine ⟨s1.heap.objs.size,[s1.heap.objs.size],_,_,H1,rfl,I1.kept (t':=s1.toks) fun b o e=>zOf _ e,zIv a _,⟨_,zOw _ rfl,rfl,rfl⟩,fun b hb=>?_,q⟩;have e:b=s1.heap.objs.size:=by simpa using hb
 subst e;exact I1.fpOk (zOh _) (I1.hok.fresh (zOh _))
theorem zKk{pins:List (Addr×Obj)}{σ:St}{H:Hp}{s:Shared}{R:It->Hp->Prop}{E:Value->Shared->Prop}{lo hi:Int}{t u v:Tok}{tk:Nat}(I:Inv X pins σ H s)(h1: -(2^62)<=lo)(h2:lo<2^62)(h3: -(2^62)<=hi)(h4:hi<2^62)
  (q:R (Itr lo (hi - lo).toNat) H):wpAny (model X.prog X.w) X.A (pyIter (.ref s.heap.objs.size)) (PIE X pins σ tg R) E {s with heap:=s.heap.push {cls:= .type "range",data:= .fields #[.int lo t,.int hi u,.int 1 v]},toks:=tk}:=by
 refine wpAny_pyIter_range (IsRange.new ..) (small_one h1 h2 h3 h4) ?_;have I1:Inv X pins σ H {s with heap:=s.heap.push {cls:= .type "range",data:= .fields #[.int lo t,.int hi u,.int 1 v]},toks:=tk}:=I.kept fun b o e=>zOf _ e;refine ⟨(s.heap.push {cls:= .type "range",data:= .fields #[.int lo t,.int hi u,.int 1 v]}).objs.size,[(s.heap.push {cls:= .type "range",data:= .fields #[.int lo t,.int hi u,.int 1 v]}).objs.size],_,_,H,rfl,
  I1.kept (t':=tk) fun b o e=>zOf _ e,zIS _ lo (hi - lo).toNat,?_,fun b hb=>?_,q⟩
 ·have e1:lo+((0:Nat):Int)*1=lo:=by simp
  have e2:(((hi - lo).toNat:Nat):Int) -((0:Nat):Int)=Builtin.Range.rangeSize lo hi 1:=by rw [rangeSize_one];split<;>omega
  show IsRangeIter _ _ (lo+((0:Nat):Int)*1) ((((hi - lo).toNat:Nat):Int) -((0:Nat):Int)) 1;rw [e1,e2];exact zOw _ rfl
 ·have e:b=(s.heap.push {cls:= .type "range",data:= .fields #[.int lo t,.int hi u,.int 1 v]}).objs.size:=by simpa using hb
  subst e;exact I1.fpOk (zOh _) (I1.hok.fresh (zOh _))
def zLL(ta:TA):TI:=fun σ H R=>ta σ H fun vs H1=> ∃j:Int,vs= [.int j] /\ -(2^62)<=j/\j<2^62/\R (Itr 0 j.toNat) H1
theorem zIf{a:Expr}{ta:TA}{p pos:Pos}(hg:Gl X "range")(hm:X.mg "range" =none)(ha:PA X [a] ta)(hs:starEach [a] X.env= [(false,eval a X.env)] :=by rfl):PI X tg (.Call (.Name "range" p) [a] [] pos) (zLL ta):=by
 intro pins s σ H R I h;refine Call_ (zCF I hg hm boot_range (PyProof.Rows.callWith_type1 (zW (ha pos pins s σ H _ I h) fun us s1 ⟨vs,H1,I1,r1,q1⟩=>?_) hs rfl));obtain ⟨j,e,q1,q2,q⟩:=q1;subst e;cases r1 with
 | cons r rr=>
  cases rr;obtain ⟨t,rfl⟩:=r;exact call_range_1 (zKk I1 (by omega) (by omega) q1 q2 (by simpa using q))
def zMY(wi:TI)(g:TG)(tb:TS):TS:=fun D σ H=>wi σ H fun J H1=> ∃W:Nat->Nat->St->Hp->Prop,(∃m,W 0 m σ H1)/\ ∀i m σ H,W i m σ H->
 (J.stop i H/\D.nx σ H)\/(J.go i H/\ ∃N:St->Hp->Prop,(∀σ' H',N σ' H'-> ∃m',m'<m/\W (i+1) m' σ' H')/\ ∀x H',J.yld i H x H'->g x σ H' fun σ2 H2=>tb {D with nx:=N,ct:=N,bk:=D.nx} σ2 H2)
def zEv(fp:List Addr)(h:Heap):List (Addr×Obj):=fp.filterMap fun b=>(h.get? b).map fun o=>(b,o)
theorem yI{fp:List Addr}{h:Heap}{b:Addr}{o:Obj}(hb:b∈fp)(e:h.get? b=some o):(b,o)∈zEv fp h:=List.mem_filterMap.mpr ⟨b,hb,by rw [e];rfl⟩
theorem zIr{fp:List Addr}{h:Heap}{p:Addr×Obj}(hp:p∈zEv fp h):p.1∈fp/\h.get? p.1=some p.2:=by
 obtain ⟨b,hb,e⟩:=List.mem_filterMap.mp hp;cases q:h.get? b with
 | none=>rw [q] at e;cases e
 | some o=>
  rw [q] at e;have e':(b,o)=p:=Option.some.inj e;subst e';exact ⟨hb,q⟩
theorem Inv.pinned{pins:List (Addr×Obj)}{σ:St}{H:Hp}{s:Shared}{fp:List Addr}(I:Inv X pins σ H s)(hf: ∀b∈fp,zAy X pins H b)(ho: ∀b∈fp,∃o,s.heap.get? b=some o/\ ∀v,o.data≠ .cell v):Inv X (pins++zEv fp s.heap) σ H s:=
 I.pins_of fun p hp=>(List.mem_append.mp hp).elim (fun z=>I.pin p (zOt _ z)) fun z=>by
  obtain ⟨hb,e⟩:=zIr z;obtain ⟨f0,f1,f2,_⟩:=hf p.1 hb;obtain ⟨o,e',d⟩:=ho p.1 hb;rw [e] at e';cases e';exact ⟨e,f0,f1,f2,d⟩
theorem Inv.unpinned{pins pl:List (Addr×Obj)}{σ:St}{H:Hp}{s:Shared}(I:Inv X (pins++pl) σ H s):Inv X pins σ H s:=I.pins_of fun p hp=>I.pin p (zOt _ (List.mem_append_left _ hp))
theorem zMf{iter:Expr}{body:List Stmt}{wi:TI}{g:TG}{tb:TS}{pos:Pos}(hp:PassesOwn (model X.prog X.w) X.A X.env X.xe)(hc:X.calm=true)(hi:PI X tg iter wi)(hg:PG X tg g)(hb:PSs X body tb)
  (hs: ∀x,foldedSetIterable iter X.env x=pure x:=by intro _;rfl):PS X (.For tg iter body [] pos) (zMY wi g tb):=by
 intro pins s σ H D I h;refine wpAny_For (zW (hi pins s σ H _ I h) fun v s1 h1=>zW h1 fun itv s2 h2=>?_) hs;obtain ⟨it,fp,tn,J,H2,e,I2,T,st2,f2,W,⟨m0,w0⟩,turn⟩:=h2;subst e;have stat: ∀{H':Hp},(∀b∈fp,H' b=none)-> ∀b∈fp,zAy X pins H' b:=fun hn b hb=>⟨hn b hb,(f2 b hb).2⟩;refine codeAny_forLoop_any (fun n s'=> ∃i σ' H',Inv X pins σ' H' s'/\tn i s'.heap/\(∀b∈fp,H' b=none)/\W i n σ' H') ?_ m0 ⟨0,σ,H2,I2,st2,fun b hb=>(f2 b hb).1,w0⟩;rintro n s3 ⟨i,σ3,H3,I3,st3,fr3,w3⟩;rcases turn i n σ3 H3 w3 with ⟨stop,qn⟩|⟨go,N,hN,step⟩
 ·refine wpAny_passesOwn hp (zW (T.done X rfl rfl rfl hc i pins s3 σ3 H3 X.xe I3 (stat fr3) st3 stop) fun r s4 ⟨hr,I4⟩=>?_);subst hr;exact wpAny_execs_nil ⟨σ3,H3,I4,qn⟩
 ·refine wpAny_passesOwn hp (zW (T.item X rfl rfl rfl hc i pins s3 σ3 H3 X.xe I3 (stat fr3) st3 go) fun r s4 ⟨u,hr,h4⟩=>?_);subst hr;refine wpAny_passesOwn hp (zW h4 fun _ s5 ⟨x,H5,I5,r5,y5,st5,fr5⟩=>?_);have I5':=I5.pinned (stat fr5) (T.obj _ _ st5);refine wpAny_passesOwn hp (zW (hg _ s5 σ3 H5 x u _ I5' r5 (step x H5 y5)) fun _ s6 ⟨σ6,H6,I6,q6⟩=>?_);refine wpAny_passesOwn hp (zW (hb _ s6 σ6 H6 _ I6 q6) fun f s7 q7=>?_);have again: ∀{σ7:St} {H7:Hp},Inv X (pins++zEv fp s5.heap) σ7 H7 s7->N σ7 H7-> ∃m,m<n/\ ∃i σ' H',Inv X pins σ' H' s7/\tn i s7.heap/\(∀b∈fp,H' b=none)/\W i m σ' H':=fun {σ7 H7} I7 n7=>by
   obtain ⟨m',hm,w7⟩:=hN σ7 H7 n7;refine ⟨m',hm,i+1,σ7,H7,I7.unpinned,T.keep _ _ _ st5 fun b hb o e=>(I7.pin (b,o) (zOt _ (zOt _ (yI hb e)))).1,fun b hb=>?_,w7⟩;obtain ⟨o,e,d⟩:=T.obj _ _ st5 b hb;exact (I7.pin (b,o) (zOt _ (zOt _ (yI hb e)))).2.1
  cases f with
  | next=>obtain ⟨σ7,H7,I7,n7⟩:=q7;exact again I7 n7
  | cont=>obtain ⟨σ7,H7,I7,n7⟩:=q7;exact again I7 n7
  | brk=>obtain ⟨σ7,H7,I7,q7⟩:=q7;exact ⟨σ7,H7,I7.unpinned,q7⟩
  | ret v=>obtain ⟨x7,σ7,H7,I7,r7,q7⟩:=q7;exact ⟨x7,σ7,H7,I7.unpinned,r7,q7⟩
end
theorem zEI{c:TT}{tb:TS}{D:Ends}{σ:St}{H:Hp}(Pv:St->Hp->Prop)(μ:St->Hp->Nat)(h0:Pv σ H)
  (hs: ∀σ H,Pv σ H->c σ H fun b H1=>if b=true then tb {D with nx:=fun σ' H'=>Pv σ' H'/\μ σ' H'<μ σ H,ct:=fun σ' H'=>Pv σ' H'/\μ σ' H'<μ σ H,bk:=D.nx} σ H1 else D.nx σ H1)
  (mono: ∀σ H Q Q',(∀b H1,Q b H1->Q' b H1)->c σ H Q->c σ H Q'):zGy c tb D σ H:=by
 refine ⟨fun m σ H=>m=μ σ H/\Pv σ H,⟨_,rfl,h0⟩,?_⟩;rintro m σ H ⟨rfl,p⟩;refine mono σ H _ _ (fun b H1 q=>?_) (hs σ H p);cases b with
 | true=>exact ⟨_,fun σ' H' ⟨p',l⟩=>⟨_,l,rfl,p'⟩,q⟩
 | false=>exact q
abbrev R2:=V->V->Hp->VK->Prop
def OpR(X:Cx)(f:Value->Value->Sem Value)(r:R2):Prop:=
 ∀(pins:List (Addr×Obj)) (s:Shared) (σ:St) (H:Hp) (x y:V) (v u:Value) (Q:VK),Inv X pins σ H s->zj x v->zj y u->r x y H Q->
  wpAny (model X.prog X.w) X.A (f v u) (EP X pins σ Q) X.xe s
def UnR(X:Cx)(f:Value->Sem Value)(r:V->Hp->VK->Prop):Prop:=
 ∀(pins:List (Addr×Obj)) (s:Shared) (σ:St) (H:Hp) (x:V) (v:Value) (Q:VK),Inv X pins σ H s->zj x v->r x H Q->
  wpAny (model X.prog X.w) X.A (f v) (EP X pins σ Q) X.xe s
def yg(X:Cx)(f:Value)(r:List V->Hp->VK->Prop):Prop:=
 ∀(pins:List (Addr×Obj)) (s:Shared) (σ:St) (H:Hp) (xs:List V) (us:List Value) (Q:VK),Inv X pins σ H s->zP xs us->r xs H Q->
  wpAny (model X.prog X.w) X.A (call f us) (EP X pins σ Q) X.xe s
def yR(r:R2)(ta tb:TE):TE:=fun σ H Q=>ta σ H fun x H1=>tb σ H1 fun y H2=>r x y H2 Q
def tUn(r:V->Hp->VK->Prop)(ta:TE):TE:=fun σ H Q=>ta σ H fun x H1=>r x H1 Q
inductive XI (C:Int->Int->Prop) (g:Int->Int->V) (x y:V) (H:Hp) (Q:VK):Prop
 | mk (i j:Int) (h1:x= .int i) (h2:y= .int j) (h:C i j) (q:Q (g i j) H)
def rI(C:Int->Int->Prop)(g:Int->Int->V):R2:=fun x y H Q=>XI C g x y H Q
inductive XI0 (g:Int->Int->V) (x y:V) (H:Hp) (Q:VK):Prop
 | mk (i j:Int) (h1:x= .int i) (h2:y= .int j) (q:Q (g i j) H)
def rI0(g:Int->Int->V):R2:=fun x y H Q=>XI0 g x y H Q
inductive XU (g:Int->V) (x:V) (H:Hp) (Q:VK):Prop
 | mk (i:Int) (h1:x= .int i) (q:Q (g i) H)
def rU(g:Int->V):V->Hp->VK->Prop:=fun x H Q=>XU g x H Q
section
variable {X:Cx}{a b c:Expr}{ta tb tc:TE}{pos:Pos}
theorem zKj(ha:PE X a ta)(hb:PE X b tb){pins:List (Addr×Obj)}{s:Shared}{σ:St}{H:Hp}{R:V->V->Hp->Prop}(I:Inv X pins σ H s)
  (h:ta σ H fun x H1=>tb σ H1 fun y H2=>R x y H2) {Q:Value->Shared->Prop} {f:Value->Value->Sem Value}
  (hf: ∀v u s2 x y H2,Inv X pins σ H2 s2->zj x v->zj y u->R x y H2->wpAny (model X.prog X.w) X.A (f v u) Q X.xe s2):
  wpAny (model X.prog X.w) X.A (eval a X.env) (fun v s₁=>wpAny (model X.prog X.w) X.A (eval b X.env) (fun u s₂=>wpAny (model X.prog X.w) X.A (f v u) Q X.xe s₂) X.xe s₁) X.xe s:=by
 refine zW (ha pins s σ H _ I h) fun v s1 ⟨x,H1,I1,r1,q1⟩=>?_;refine zW (hb pins s1 σ H1 _ I1 q1) fun u s2 ⟨y,H2,I2,r2,q2⟩=>?_;exact hf v u s2 x y H2 I2 r1 r2 q2
theorem zAF{op:Operator}{r:R2}(ho:OpR X (binaryOp op) r)(ha:PE X a ta)(hb:PE X b tb):PE X (.BinOp a op b pos) (yR r ta tb):=by
 intro pins s σ H Q I h;exact wpAny_BinOp (zKj ha hb I h fun v u s2 x y H2 I2 rx ry q=>ho pins s2 σ H2 x y v u Q I2 rx ry q)
theorem zNy{op:UnaryOp}{r:V->Hp->VK->Prop}(ho:UnR X (unaryOp op) r)(ha:PE X a ta):PE X (.UnaryOp op a pos) (tUn r ta):=by
 intro pins s σ H Q I h;exact UnaryOp_ (zW (ha pins s σ H _ I h) fun v s1 ⟨x,H1,I1,r1,q1⟩=>ho pins s1 σ H1 x v Q I1 r1 q1)
theorem opI{f:Value->Value->Sem Value}{C:Int->Int->Prop}{g:Int->Int->Int}
  (rule: ∀(i j:Int) (t u:Tok) (s:Shared) (Q:Value->Shared->Prop) (E:Value->Shared->Prop),C i j->Q (.int (g i j) s.toks) {s with toks:=s.toks+1}->wpAny (model X.prog X.w) X.A (f (.int i t) (.int j u)) Q E s):
  OpR X f (rI C fun i j=> .int (g i j)):=by
 intro pins s σ H x y v u Q I rx ry h;obtain ⟨i,j,rfl,rfl,hc,q⟩:=h;obtain ⟨t,rfl⟩:=rx;obtain ⟨t',rfl⟩:=ry;exact rule i j t t' s _ _ hc ⟨.int (g i j),H,I.tok _,⟨_,rfl⟩,q⟩
theorem zMa{f:Value->Value->Sem Value}{g:Int->Int->Int}
  (rule: ∀(i j:Int) (t u:Tok) (s:Shared) (Q:Value->Shared->Prop) (E:Value->Shared->Prop),Q (.int (g i j) s.toks) {s with toks:=s.toks+1}->wpAny (model X.prog X.w) X.A (f (.int i t) (.int j u)) Q E s):
  OpR X f (rI0 fun i j=> .int (g i j)):=by
 intro pins s σ H x y v u Q I rx ry h;obtain ⟨i,j,rfl,rfl,q⟩:=h;obtain ⟨t,rfl⟩:=rx;obtain ⟨t',rfl⟩:=ry;exact rule i j t t' s _ _ ⟨.int (g i j),H,I.tok _,⟨_,rfl⟩,q⟩
theorem zKh{f:Value->Value->Sem Value}{g:Int->Int->Bool}
  (rule: ∀(i j:Int) (t u:Tok) (s:Shared) (Q:Value->Shared->Prop) (E:Value->Shared->Prop),Q (.bool (g i j)) s->wpAny (model X.prog X.w) X.A (f (.int i t) (.int j u)) Q E s):
  OpR X f (rI0 fun i j=> .bl (g i j)):=by
 intro pins s σ H x y v u Q I rx ry h;obtain ⟨i,j,rfl,rfl,q⟩:=h;obtain ⟨t,rfl⟩:=rx;obtain ⟨t',rfl⟩:=ry;exact rule i j t t' s _ _ ⟨.bl (g i j),H,I,rfl,q⟩
def zKe(i j:Int):Prop:=0<j/\j<1073741824
def zGT(i j:Int):Prop:=(-(2^64)<i/\i<2^64)\/(-(2^64)<j/\j<2^64)
theorem zGT.ok{i j:Int}(h:zGT i j):IntMulOk i j:=by
 rcases h with ⟨h1,h2⟩|⟨h1,h2⟩
 ·exact .of_left (intBits_le_64 h1 h2)
 ·exact .of_right (intBits_le_64 h1 h2)
theorem zEq:OpR X (binaryOp .Add) (rI0 fun i j=> .int (i+j)):=zMa fun _ _ _ _ _ _ _ q=>add_int q
theorem zMv:OpR X (binaryOp .Sub) (rI0 fun i j=> .int (i - j)):=zMa fun _ _ _ _ _ _ _ q=>sub_int q
theorem zCA:OpR X (binaryOp .Mult) (rI zGT fun i j=> .int (i*j)):=opI fun _ _ _ _ _ _ _ hc q=>mul_int q hc.ok
theorem zMJ:OpR X (binaryOp .FloorDiv) (rI zKe fun i j=> .int (i/j)):=opI fun i j _ _ _ _ _ hc q=>by
 have h1:(0:Int)<j:=hc.1;have h2:j<1073741824:=hc.2;exact floordiv_int (by omega) (by rw [Int.fdiv_eq_ediv_of_nonneg i (by omega)];exact q) (.inl (PyProof.noPylong_small (by omega)))
theorem zBv:OpR X (binaryOp .Mod) (rI (fun _ j=>0<j) fun i j=> .int (i % j)):=opI fun i j _ _ _ _ _ hc q=>by
 have h1:(0:Int)<j:=hc;exact mod_int' (by omega) (by rw [Int.fmod_eq_emod_of_nonneg i (by omega)];exact q)
theorem unI{f:Value->Sem Value}{g:Int->Int}
  (rule: ∀(i:Int) (t:Tok) (s:Shared) (Q:Value->Shared->Prop) (E:Value->Shared->Prop),Q (.int (g i) s.toks) {s with toks:=s.toks+1}->wpAny (model X.prog X.w) X.A (f (.int i t)) Q E s):
  UnR X f (rU fun i=> .int (g i)):=by
 intro pins s σ H x v Q I rx h;obtain ⟨i,rfl,q⟩:=h;obtain ⟨t,rfl⟩:=rx;exact rule i t s _ _ ⟨.int (g i),H,I.tok _,⟨_,rfl⟩,q⟩
theorem zMl:UnR X (unaryOp .USub) (rU fun i=> .int (-i)):=unI fun _ _ _ _ _ q=>neg_int q
end
def zNE:V->V->Bool
 | .non,.non=>true | .non,.int _=>true | .int _,.non=>true | .non,.bl _=>true | .bl _,.non=>true | .non,.str _=>true | .str _,.non=>true
 | .int _,.int _=>true | .bl _,.bl _=>true | .str _,.str _=>true | .byt _,.byt _=>true
 | .int _,.str _=>true | .str _,.int _=>true | .bl _,.str _=>true | .str _,.bl _=>true
 | _,_=>false
def rEq:R2:=fun x y H Q=>zNE x y=true/\Q (.bl (decide (x=y))) H
def rNe:R2:=fun x y H Q=>zNE x y=true/\Q (.bl (!decide (x=y))) H
theorem zHm{i j:Int}:decide (V.int i=V.int j)=(i==j):=by
 rw [Bool.eq_iff_iff];simp
theorem zIh{i j:Bool}:decide (V.bl i=V.bl j)=(i==j):=by
 rw [Bool.eq_iff_iff];simp
theorem zHW{i j:Str}:decide (V.str i=V.str j)=(i==j):=by
 rw [Bool.eq_iff_iff];simp
theorem zHi{i j:Array UInt8}:decide (V.byt i=V.byt j)=(i.toList==j.toList):=by
 rw [Bool.eq_iff_iff];cases i;cases j;simp
section
variable {X:Cx}{a b c:Expr}{ta tb tc:TE}{pos:Pos}
theorem zr{pins:List (Addr×Obj)}{σ:St}{H:Hp}{s:Shared}{Q:VK}{k k':Bool}(I:Inv X pins σ H s)(q:Q (.bl k) H)(e:k=k'):EP X pins σ Q (.bool k') s:=by
 subst e;exact ⟨.bl k,H,I,rfl,q⟩
theorem zAn:OpR X (compareOp .Eq) rEq:=by
 intro pins s σ H x y v u Q I rx ry h;obtain ⟨hs,q⟩:=h;cases x with
 | non=>
  cases rx;cases y with
  | non=>cases ry;exact PySem.EqNone.eq_none_none (zr I q (by simp))
  | bl j=>cases ry;exact PySem.EqNone.eq_none_bool (zr I q (by simp))
  | int j=>obtain ⟨t',rfl⟩:=ry;exact PySem.EqNone.eq_none_int (zr I q (by simp))
  | str j=>obtain ⟨t',rfl⟩:=ry;exact PySem.EqNone.eq_none_str (zr I q (by simp))
  | _=>exact absurd (show false=true from hs) zOq
 | bl i=>
  cases rx;cases y with
  | non=>cases ry;exact PySem.EqNone.eq_bool_none (zr I q (by simp))
  | bl j=>cases ry;exact eq_bool (zr I q zIh)
  | str j=>obtain ⟨t',rfl⟩:=ry;exact PySem.EqMixed.eq_bool_str (zr I q (by simp))
  | _=>exact absurd (show false=true from hs) zOq
 | int i=>
  obtain ⟨t,rfl⟩:=rx;cases y with
  | non=>cases ry;exact PySem.EqNone.eq_int_none (zr I q (by simp))
  | int j=>obtain ⟨t',rfl⟩:=ry;exact eq_int (zr I q zHm)
  | str j=>obtain ⟨t',rfl⟩:=ry;exact PySem.EqMixed.eq_int_str (zr I q (by simp))
  | _=>exact absurd (show false=true from hs) zOq
 | str i=>
  obtain ⟨t,rfl⟩:=rx;cases y with
  | non=>cases ry;exact PySem.EqNone.eq_str_none (zr I q (by simp))
  | bl j=>cases ry;exact PySem.EqMixed.eq_str_bool (zr I q (by simp))
  | int j=>obtain ⟨t',rfl⟩:=ry;exact PySem.EqMixed.eq_str_int (zr I q (by simp))
  | str j=>obtain ⟨t',rfl⟩:=ry;exact eq_str (zr I q zHW)
  | _=>exact absurd (show false=true from hs) zOq
 | byt i=>
  obtain ⟨t,rfl⟩:=rx;cases y with
  | byt j=>obtain ⟨t',rfl⟩:=ry;exact PySem.W.eq_bytes (zr I q zHi)
  | _=>exact absurd (show false=true from hs) zOq
 | _=>cases y<;>exact absurd (show false=true from hs) zOq
theorem zAr:OpR X (compareOp .NotEq) rNe:=by
 intro pins s σ H x y v u Q I rx ry h;obtain ⟨hs,q⟩:=h;cases x with
 | non=>
  cases rx;cases y with
  | non=>cases ry;exact PySem.EqNone.ne_none_none (zr I q (by simp))
  | bl j=>cases ry;exact PySem.EqNone.ne_none_bool (zr I q (by simp))
  | int j=>obtain ⟨t',rfl⟩:=ry;exact PySem.EqNone.ne_none_int (zr I q (by simp))
  | str j=>obtain ⟨t',rfl⟩:=ry;exact PySem.EqNone.ne_none_str (zr I q (by simp))
  | _=>exact absurd (show false=true from hs) zOq
 | bl i=>
  cases rx;cases y with
  | non=>cases ry;exact PySem.EqNone.ne_bool_none (zr I q (by simp))
  | bl j=>cases ry;exact ne_bool (zr I q (congrArg not zIh))
  | str j=>obtain ⟨t',rfl⟩:=ry;exact PySem.EqMixed.ne_bool_str (zr I q (by simp))
  | _=>exact absurd (show false=true from hs) zOq
 | int i=>
  obtain ⟨t,rfl⟩:=rx;cases y with
  | non=>cases ry;exact PySem.EqNone.ne_int_none (zr I q (by simp))
  | int j=>obtain ⟨t',rfl⟩:=ry;exact ne_int (zr I q (congrArg not zHm))
  | str j=>obtain ⟨t',rfl⟩:=ry;exact PySem.EqMixed.ne_int_str (zr I q (by simp))
  | _=>exact absurd (show false=true from hs) zOq
 | str i=>
  obtain ⟨t,rfl⟩:=rx;cases y with
  | non=>cases ry;exact PySem.EqNone.ne_str_none (zr I q (by simp))
  | bl j=>cases ry;exact PySem.EqMixed.ne_str_bool (zr I q (by simp))
  | int j=>obtain ⟨t',rfl⟩:=ry;exact PySem.EqMixed.ne_str_int (zr I q (by simp))
  | str j=>obtain ⟨t',rfl⟩:=ry;exact ne_str (zr I q (congrArg not zHW))
  | _=>exact absurd (show false=true from hs) zOq
 | byt i=>
  obtain ⟨t,rfl⟩:=rx;cases y with
  | byt j=>obtain ⟨t',rfl⟩:=ry;exact PySem.W.ne_bytes (zr I q (congrArg not zHi))
  | _=>exact absurd (show false=true from hs) zOq
 | _=>cases y<;>exact absurd (show false=true from hs) zOq
theorem zEV:OpR X (compareOp .Lt) (rI0 fun i j=> .bl (decide (i<j))):=zKh fun _ _ _ _ _ _ _ q=>lt_int q
theorem zFt:OpR X (compareOp .LtE) (rI0 fun i j=> .bl (decide (i<=j))):=zKh fun _ _ _ _ _ _ _ q=>le_int q
theorem zAf:OpR X (compareOp .Gt) (rI0 fun i j=> .bl (decide (j<i))):=zKh fun _ _ _ _ _ _ _ q=>gt_int q
theorem zId(b:Expr){op:CmpOp}(h:op≠ .In:=by decide)(h2:op≠ .NotIn:=by decide):behindInMarks op b=false:=by
 have e1:(op==CmpOp.In)=false:=by cases op<;>first | rfl | exact absurd rfl h
 have e2:(op==CmpOp.NotIn)=false:=by cases op<;>first | rfl | exact absurd rfl h2
 cases b<;>simp [behindInMarks,e1,e2]
theorem zLu{op:CmpOp}{r:R2}(ho:OpR X (compareOp op) r)(ha:PE X a ta)(hb:PE X b tb)(hm:behindInMarks op b=false):PE X (.Compare a [op] [b] pos) (yR r ta tb):=by
 intro pins s σ H Q I h;exact wpAny_Compare1 (zKj ha hb I h fun v u s2 x y H2 I2 rx ry q=>ho pins s2 σ H2 x y v u Q I2 rx ry q) hm
def zBi(t:TE):TT:=fun σ H Q=>t σ H fun x H'=>XB x H' Q
theorem zEz{op:CmpOp}{r:R2}(ho:OpR X (compareOp op) r)(ha:PE X a ta)(hb:PE X b tb)(hm:behindInMarks op b=false):PT X (.Compare a [op] [b] pos) (zBi (yR r ta tb)):=by
 intro pins s σ H Q I h;refine wpAny_isTrue_Compare1 (zW (ha pins s σ H _ I h) fun v s1 ⟨x,H1,I1,r1,q1⟩=>zW (hb pins s1 σ H1 _ I1 q1) fun u s2 ⟨y,H2,I2,r2,q2⟩=>
  zW (ho pins s2 σ H2 x y v u _ I2 r1 r2 q2) fun c s3 ⟨z,H3,I3,r3,k,e,q3⟩=>?_) hm
 subst e;cases r3;exact zPO ⟨H3,I3,q3⟩
def zGF(r r':R2)(ta tb tc:TE):TE:=fun σ H Q=>ta σ H fun x H1=>tb σ H1 fun y H2=>r x y H2 fun z H3=> ∃k,z= .bl k/\
 (if k=true then tc σ H3 fun w' H4=>r' y w' H4 Q else Q (.bl false) H3)
theorem zJp{op op':CmpOp}{r r':R2}(ho:OpR X (compareOp op) r)(ho':OpR X (compareOp op') r')(ha:PE X a ta)(hb:PE X b tb)(hc:PE X c tc)
  (hm:lastMarks [op,op'] [b,c] =false:=by with_unfolding_all rfl):PT X (.Compare a [op,op'] [b,c] pos) (zBi (zGF r r' ta tb tc)):=by
 intro pins s σ H Q I h;refine isTrue_chain (zW (ha pins s σ H _ I h) fun v s1 ⟨x,H1,I1,r1,q1⟩=>test_link (zW (hb pins s1 σ H1 _ I1 q1) fun u s2 ⟨y,H2,I2,r2,q2⟩=>
  zW (ho pins s2 σ H2 x y v u _ I2 r1 r2 q2) fun d s3 ⟨z,H3,I3,r3,k,e,q3⟩=>?_)) hm
 subst e;cases r3;refine zPO ?_;cases k with
 | false=>
  obtain ⟨k',e',q'⟩:=q3;cases e';exact ite_ff ⟨H3,I3,q'⟩
 | true=>
  refine ite_tt (test_last (zW (hc pins s3 σ H3 _ I3 q3) fun w' s4 ⟨z',H4,I4,r4,q4⟩=>zW (ho' pins s4 σ H4 y z' u w' _ I4 r2 r4 q4) fun d' s5 ⟨z2,H5,I5,r5,k2,e2,q5⟩=>?_));subst e2;cases r5;exact zPO ⟨H5,I5,q5⟩
theorem zEZ:(sizeLine:Nat)<2^63:=by rw [zOo];decide
theorem zBX{x:V}{us:List Value}(r:zP [x] us): ∃u,us= [u] /\zj x u:=by
 cases r with
 | cons r1 r2=>cases r2;exact ⟨_,rfl,r1⟩
theorem zNs{x y:V}{us:List Value}(r:zP [x,y] us): ∃u w',us= [u,w'] /\zj x u/\zj y w':=by
 cases r with
 | cons r1 r2=>
  cases r2 with
  | cons r3 r4=>cases r4;exact ⟨_,_,rfl,r1,r3⟩
theorem zGn:yg X (.builtin "abs") (fun xs H Q=> ∃i,xs= [.int i] /\Q (.int (if i<0 then -i else i)) H):=by
 intro pins s σ H xs us Q I r h;obtain ⟨i,rfl,q⟩:=h;obtain ⟨u,rfl,t,rfl⟩:=zBX r;exact call_abs_int fun u tk=>⟨.int (if i<0 then -i else i),H,I.tok _,⟨_,rfl⟩,q⟩
theorem zFe(hc:X.calm=true):yg X (.builtin "max") (fun xs H Q=> ∃i j,xs= [.int i,.int j] /\Q (.int (if j>i then j else i)) H):=by
 intro pins s σ H xs us Q I r h;obtain ⟨i,j,rfl,q⟩:=h;obtain ⟨u,w',rfl,⟨t,rfl⟩,⟨t',rfl⟩⟩:=zNs r;refine max_two_ints (I.ok.hd hc) fun h' tk k=>⟨_,H,I.kept k,?_,q⟩;by_cases hj:j>i
 ·rw [if_pos hj,if_pos hj];exact ⟨_,rfl⟩
 ·rw [if_neg hj,if_neg hj];exact ⟨_,rfl⟩
theorem zJU:yg X (.type "int") (fun xs H Q=>(∃i,xs= [.int i] /\Q (.int i) H)\/ ∃k,xs= [.bl k] /\Q (.int (if k then 1 else 0)) H):=by
 intro pins s σ H xs us Q I r h;rcases h with ⟨i,rfl,q⟩|⟨k,rfl,q⟩
 ·obtain ⟨u,rfl,t,rfl⟩:=zBX r;exact call_int_int ⟨.int i,H,I,⟨_,rfl⟩,q⟩
 ·obtain ⟨u,rfl,r1⟩:=zBX r;cases r1;exact call_int_bool ⟨.int (if k then 1 else 0),H,I.tok _,⟨_,rfl⟩,q⟩
end
structure ObjM(h:Heap)(x dx C:Addr)(mA:Str->Option Value):Prop where
 obj:h.get? x=some (PySem.W.instObj C dx)
 ns:h.Ns1 dx mA
 ne:dx≠x
theorem zJW{h:Heap}{dx:Addr}{mA:Str->Option Value}(n:h.Ns1 dx mA): ∃od,h.get? dx=some od/\ ∀name,PySem.W.lookIn name od=some (mA name):=by
 obtain ⟨o,es,ep,ho,hd,hk,_,hm⟩:=n;refine ⟨o,ho,fun name=>?_⟩;have e:=hm name;unfold nsFind findBy at e;rw [<-Array.find?_toList] at e;unfold PySem.W.lookIn;rw [hd];dsimp only;split
 ·rename_i y q
  rw [q] at e;exact congrArg some e
 ·rename_i q
  rw [q] at e;have a:es.toList.any (·.refKey)=false:=by
   rw [List.any_eq_false];intro y hy;obtain ⟨z,t,hkey⟩:=hk y (Array.mem_toList_iff.mp hy);simp [DictEntry.refKey,hkey]
  have a': ¬es.toList.any (·.refKey)=true:=by rw [a];exact zOq
  rw [if_neg a'];exact congrArg some e
theorem ObjM.look{h:Heap}{x dx C:Addr}{mA:Str->Option Value}(I:ObjM h x dx C mA): ∃od,PySem.W.InstAt h x (PySem.W.instObj C dx) C (some od)/\ ∀name,PySem.W.lookIn name od=some (mA name):=
 let ⟨od,ho,hl⟩:=zJW I.ns
 ⟨od,⟨I.obj,rfl,rfl,ho⟩,hl⟩
section
variable {prog:Program}{w:World}{A:Around}{E:Value->Shared->Prop}{s:Shared}{K:zPS}{x dx C f:Addr}{mA:Str->Option Value}{name:Str}{v:Value}
theorem zMA{expr:Bool}{Q:Value->Shared->Prop}(X:K.In s.heap)(I:ObjM s.heap x dx C mA)(hg:PySem.W.plainGet K C name=true)(hh:PySem.W.hasDictIn K C=true)
  (ha:PySem.W.findIn K (.ref C) name=some none) (hv:mA name=some v) (hv':PySem.W.handedIn v=true) (h:Q v {s with toks:=s.toks+1}):
  wpAny (model prog w) A (getAttr (.ref x) name expr) Q E s:=by
 obtain ⟨od,J,hl⟩:=I.look;exact PySem.W.get_value X J (PySem.W.plainGet_of hg).1 (PySem.W.findObj_own hh ha rfl (by rw [hl,hv])) hv' h
theorem zJj{pl:Sem Bool}{Q:Value×List Value->Shared->Prop}(X:K.In s.heap)(I:ObjM s.heap x dx C mA)(hg:PySem.W.plainGet K C name=true)
  (hf:PySem.W.findIn K (.ref C) name=some (some (.ref f))) (ht:PySem.W.isFn K (.ref f)=true) (hv:mA name=none) (h:Q (.ref f,[.ref x]) s):
  wpAny (model prog w) A (getMethod (.ref x) name pl) Q E s:=by
 obtain ⟨od,J,hl⟩:=I.look;exact PySem.W.method_fn X J (PySem.W.plainGet_of hg).1 (PySem.W.plainGet_of hg).2 hf (beq_iff_eq.mp ht) (by show (PySem.W.lookIn name od).map (·.isSome)=some false;rw [hl,hv];rfl) h
theorem zLw{ns:List Str}{Q:Unit->Shared->Prop}(X:K.In s.heap)(I:ObjM s.heap x dx C mA)
  (hs:PySem.W.findIn K (.ref C) "__setattr__" =some (some (.builtin "object.__setattr__"))) (hp:PySem.W.plainOver K C=true) (ht:PySem.W.takerIn K C name=some none) (hh:PySem.W.hasDictIn K C=true)
  (hw:PySem.Within mA ns) (hsz:ns.length<=sizeLine)
  (h: ∀h',ObjM h' x dx C (fun y=>if y=name then some v else mA y)->Heap.SameBut dx s.heap h'->Q () {s with heap:=h',toks:=s.toks+2}):
  wpAny (model prog w) A (setAttr (.ref x) name v) Q E s:=by
 obtain ⟨od,J,hl⟩:=I.look;refine PySem.W.set_plain X J hs (PySem.W.osa_open (s:={s with toks:=s.toks+1}) (r:=none) X J hp ht fun b=>?_);obtain ⟨cd,hc,hd'⟩:=PySem.W.any_some hh;have hx:s.heap.get? x=some ⟨.ref C,some dx,.plain,#[]⟩:=I.obj;refine zOe (zOj (zOe (zOe (wpAny_loadPart hx (zOe (PySem.W.Looks.here (s:={s with toks:=s.toks+1}) (PySem.W.looks_clsIn X hc) ?_))))));rw [hd'];refine zOj (a:=some dx) (zOe (zOj (zOe ?_)));refine wpAny_nsSet1 (s:={s with toks:=s.toks+1}) I.ns fun h' hn2 hs2=>?_;obtain ⟨oD,esD,epD,hoD,hdD,hcD⟩:=hn2.count (PySem.Within.cons name v hw);refine zOe (wpAny_lookBehind hoD (by rw [hdD];exact pastItsLine_dict (zOr hcD (by rw [List.length_cons];omega))) ?_);exact zOj (h _ ⟨(hs2.2 _ (Ne.symm I.ne)).trans I.obj,hn2,I.ne⟩ hs2)
theorem zKI{R:Result->Shared->Prop}{vs:List Value}{kw:List (Str×Value)}(X:K.In s.heap)(hm:PySem.W.makesIn K C=true)
  (hi:PySem.W.findIn K (.ref C) "__init__" =some (some (.ref f))) (hf:PySem.W.typeIn K (.ref f)=some (.type "function"))
  (h:codeAny (model prog w) (A.under (.builtin "type.__call__" ⟨.ref C::vs,kw⟩)) (.call (.ref f) ⟨.ref (s.heap.objs.size+1)::vs,kw⟩) (PySem.W.InitBack (s.heap.objs.size+1) R)
   {s with heap:=(s.heap.push PySem.W.emptyDict).push (PySem.W.instObj C s.heap.objs.size)}):
  codeAny (model prog w) A (.call (.ref C) ⟨vs,kw⟩) R s:=by
 obtain ⟨hh,g,d,t,os⟩:=s;exact PySem.W.make_core (PySem.W.makes_of X hm) (PySem.W.looks_findIn X hi) (fun self=>PySem.W.bind_fn X self hf) (.inl rfl) h
end
def yT(f:Str)(v:V):List (Str×V)->List (Str×V)
 | [] => [(f,v)]
 |(g,x)::r=>if g=f then (g,v)::r else (g,x)::yT f v r
theorem zDw(f g:Str)(v:V): ∀fs:List (Str×V),(yT f v fs).lookup g=if g=f then some v else fs.lookup g
 | [] =>by
  show List.lookup g [(f,v)] =_;by_cases h:g=f
  ·have hb:(g==f)=true:=beq_iff_eq.mpr h;simp only [List.lookup,hb,if_pos h]
  ·have hb:(g==f)=false:=beq_eq_false_iff_ne.mpr h;simp only [List.lookup,hb,if_neg h]
 |(k,x)::r=>by
  have ih:=zDw f g v r;rw [show yT f v ((k,x)::r)=(if k=f then (k,v)::r else (k,x)::yT f v r) from rfl];by_cases hk:k=f
  ·rw [if_pos hk];by_cases h:g=k
   ·have hb:(g==k)=true:=beq_iff_eq.mpr h;simp only [List.lookup,hb,if_pos (h.trans hk)]
   ·have hb:(g==k)=false:=beq_eq_false_iff_ne.mpr h;simp only [List.lookup,hb,if_neg (fun e:g=f=>h (e.trans hk.symm))]
  ·rw [if_neg hk];by_cases h:g=k
   ·have hb:(g==k)=true:=beq_iff_eq.mpr h;simp only [List.lookup,hb,if_neg (fun e:g=f=>hk (h.symm.trans e))]
   ·have hb:(g==k)=false:=beq_eq_false_iff_ne.mpr h;simp only [List.lookup,hb];exact ih
theorem zDO(f:Str)(v:V): ∀fs:List (Str×V),f∈(yT f v fs).map (·.1)/\ ∀g,g∈fs.map (·.1)->g∈(yT f v fs).map (·.1)
 | [] =>⟨by simp [yT],fun g h=>by simp at h⟩
 |(k,x)::r=>by
  obtain ⟨i1,i2⟩:=zDO f v r;rw [show yT f v ((k,x)::r)=(if k=f then (k,v)::r else (k,x)::yT f v r) from rfl];by_cases hk:k=f
  ·rw [if_pos hk];subst hk;exact ⟨by simp,fun g h=>by simpa using h⟩
  ·rw [if_neg hk];refine ⟨?_,fun g h=>?_⟩
   ·rw [List.map_cons];exact zPK _ i1
   ·rw [List.map_cons] at h⊢;rcases List.mem_cons.mp h with e | e
    ·exact List.mem_cons.mpr (.inl e)
    ·exact zPK _ (i2 g e)
theorem zDu(f:Str)(v:V): ∀fs:List (Str×V),(yT f v fs).length<=fs.length+1
 | [] =>by simp [yT]
 |(k,x)::r=>by
  have ih:=zDu f v r;rw [show yT f v ((k,x)::r)=(if k=f then (k,v)::r else (k,x)::yT f v r) from rfl];by_cases hk:k=f
  ·rw [if_pos hk,List.length_cons,List.length_cons];omega
  ·rw [if_neg hk,List.length_cons,List.length_cons];omega
theorem zCT.some_of{v:V}{o:Option Value}(r:zCT (some v) o): ∃u,o=some u/\zj v u:=by
 cases o with
 | none=>exact (show False from r).elim
 | some u=>exact ⟨u,rfl,r⟩
theorem zCT.none_of{o:Option Value}(r:zCT none o):o=none:=by
 cases o with
 | none=>rfl
 | some u=>exact (show False from r).elim
theorem zIu{v:V}{u:Value}(r:zj v u):PySem.W.handedIn u=true:=by
 cases v with
 | non=>cases (show u=Value.none from r);rfl
 | bl b=>cases (show u=Value.bool b from r);rfl
 | int i=>obtain ⟨t,e⟩:=(show∃t,u=Value.int i t from r);cases e;rfl
 | str x=>obtain ⟨t,e⟩:=(show∃t,u=Value.str x t from r);cases e;rfl
 | byt b=>obtain ⟨t,e⟩:=(show∃t,u=Value.bytes b t from r);cases e;rfl
 | flt b=>obtain ⟨t,e⟩:=(show∃t,u=Value.float b t from r);cases e;rfl
 | ref a=>cases (show u=Value.ref a from r);rfl
 | ty n=>cases (show u=Value.type n from r);rfl
section
variable {P:Program}{w:World}{H H':Hp}{h h':Heap}{a C dx:Addr}{fs fs':List (Str×V)}
theorem zDc(hok:HOk P w H h)(e:H a=some (.ins C dx fs)): ∃mA,ObjM h a dx C mA/\(∀f,zCT (fs.lookup f) (mA f))/\PySem.Within mA (fs.map (·.1))/\fs.length<=1000/\H dx=some (.own a):=by
 obtain ⟨d,z,ne,ob,mA,n,r,q⟩:=(show ym P w H h a (.ins C dx fs) from hok a _ e);exact ⟨mA,⟨ob,n,ne⟩,r,q,z,d⟩
end
structure Cls(K:zPS)(C:Addr):Prop where
 pg:PySem.W.plainGet K C Str.empty=true
 hd:PySem.W.hasDictIn K C=true
 po:PySem.W.plainOver K C=true
 sa:PySem.W.findIn K (.ref C) "__setattr__" =some (some (.builtin "object.__setattr__"))
theorem Cls.get{K:zPS}{C:Addr}(c:Cls K C)(f:Str):PySem.W.plainGet K C f=true:=c.pg
def yp(K:zPS)(C:Addr)(f:Str):Prop:=PySem.W.findIn K (.ref C) f=some none
theorem yp.taker{K:zPS}{C:Addr}{f:Str}(n:yp K C f):PySem.W.takerIn K C f=some none:=by
 unfold PySem.W.takerIn;rw [show PySem.W.findIn K (.ref C) f=some none from n];rfl
structure Meth(K:zPS)(C:Addr)(m:Str)(f:Addr):Prop where
 at_:PySem.W.findIn K (.ref C) m=some (some (.ref f))
 fn:PySem.W.isFn K (.ref f)=true
 kp:PySem.W.keepIn K (.ref f)=true
section
variable {X:Cx}{pins:List (Addr×Obj)}{σ:St}{H:Hp}{s:Shared}{a C dx:Addr}{fs:List (Str×V)}{f:Str}{v:V}{A:Around}{E:Value->Shared->Prop}
theorem zHz{b:Bool}{Q:Value->Shared->Prop}(I:Inv X pins σ H s)(e:H a=some (.ins C dx fs))(c:Cls X.K C)(n:yp X.K C f)(l:fs.lookup f=some v)
  (h: ∀u s',Inv X pins σ H s'->zj v u->Q u s'):wpAny (model X.prog X.w) A (getAttr (.ref a) f b) Q E s:=by
 obtain ⟨mA,O,r,_,_,_⟩:=zDc I.hok e;obtain ⟨u,hu,ru⟩:=zCT.some_of (v:=v) (o:=mA f) (by rw [<-l];exact r f);exact zMA I.kIn O (c.get f) c.hd n hu (zIu ru) (h u _ (I.tok _) ru)
theorem zEd{m:Str}{g:Addr}{pl:Sem Bool}{Q:Value×List Value->Shared->Prop}(I:Inv X pins σ H s)(e:H a=some (.ins C dx fs))(c:Cls X.K C)(k:Meth X.K C m g)(l:fs.lookup m=none)
  (h:Q (.ref g,[.ref a]) s):wpAny (model X.prog X.w) A (getMethod (.ref a) m pl) Q E s:=by
 obtain ⟨mA,O,r,_,_,_⟩:=zDc I.hok e;have hn:mA m=none:=zCT.none_of (by rw [<-l];exact r m);exact zJj I.kIn O (c.get m) k.at_ k.fn hn h
theorem zIR{y:V}{u:Value}{Q:Unit->Shared->Prop}(I:Inv X pins σ H s)(e:H a=some (.ins C dx fs))(c:Cls X.K C)(n:yp X.K C f)(hl:fs.length<1000)(ry:zj y u)
  (h: ∀s',Inv X pins σ (upd H a (.ins C dx (yT f y fs))) s'->Q () s'):wpAny (model X.prog X.w) A (setAttr (.ref a) f u) Q E s:=by
 obtain ⟨mA,O,r,wi,_,ho⟩:=zDc I.hok e;have hz:(fs.map (·.1)).length<=sizeLine:=by rw [zOk,zOo];omega
 refine zLw I.kIn O c.sa c.po n.taker c.hd wi hz fun h' O' sb=>h _ ?_;have hd: ∃o,h'.get? dx=some o:=let ⟨o,_,_,e',_⟩:=O'.ns;⟨o,e'⟩;refine I.write (x:=a) (e:=dx) (by rw [e];exact True.intro) (.inr ho) (fun b q hb z=>(sb.2 b hb).trans z) hd ?_;refine ⟨by rw [zG O.ne];exact ho,?_,O.ne,O'.obj,_,O'.ns,fun g=>?_,fun g hg=>?_⟩
 ·have:=zDu f y fs;omega
 ·show zCT ((yT f y fs).lookup g) (if g=f then some u else mA g);rw [zDw];by_cases q:g=f
  ·rw [if_pos q,if_pos q];exact ry
  ·rw [if_neg q,if_neg q];exact r g
 ·by_cases q:g=f
  ·rw [q];exact (zDO f y fs).1
  ·refine (zDO f y fs).2 g (wi g fun z=>hg ?_);show (if g=f then some u else mA g)=none;rw [if_neg q];exact z
theorem Inv.made(I:Inv X pins σ H s):Inv X pins σ (upd (upd H s.heap.objs.size (.own (s.heap.objs.size+1))) (s.heap.objs.size+1) (.ins C s.heap.objs.size []))
  {s with heap:=(s.heap.push PySem.W.emptyDict).push (PySem.W.instObj C s.heap.objs.size)}:=by
 have e1:(s.heap.push PySem.W.emptyDict).get? s.heap.objs.size=some PySem.W.emptyDict:=zOw s.heap rfl;have e2:((s.heap.push PySem.W.emptyDict).push (PySem.W.instObj C s.heap.objs.size)).get? (s.heap.objs.size+1)=some (PySem.W.instObj C s.heap.objs.size):=by
  have:=zOw (s.heap.push PySem.W.emptyDict) (o:=PySem.W.instObj C s.heap.objs.size) rfl
  rwa [Heap.size_push] at this
 have e3:(s.heap.push PySem.W.emptyDict).Ns s.heap.objs.size (fun _=>none):=⟨PySem.W.emptyDict,#[],_,e1,rfl,(fun e he=>absurd he (by simp)),fun _=>rfl⟩;have I1:=I.laid (a:=s.heap.objs.size) (o:= .own (s.heap.objs.size+1)) (h':=s.heap.push PySem.W.emptyDict) (t':=s.toks) (fun b u q=>zOf _ q) (zOh _) ⟨_,e1⟩;refine I1.laid (a:=s.heap.objs.size+1) (o:= .ins C s.heap.objs.size []) (t':=s.toks) (fun b u q=>zOf _ q) (Nat.le_of_eq (Heap.size_push _ _)) ?_;have ne:s.heap.objs.size≠s.heap.objs.size+1:=zOl (Nat.lt_succ_self _);refine ⟨by rw [zG ne,zB],zOs _,ne,e2,fun _=>none,(Heap.Ns1.of_empty e3).at fun o q=>zOf _ q,fun _=>True.intro,fun y hy=>absurd rfl hy⟩
theorem zLk{prog:Program}{w:World}{env:Env}{e:Expr}{f:Str}{pos:Pos}{s:Shared}{Q:Value->Shared->Prop}(hb:attributeBase e f env (eval e env)=eval e env)
  (h:wpAny (model prog w) A (eval e env) (fun o s₁=>wpAny (model prog w) A (getAttr o f true) Q E s₁) E s):wpAny (model prog w) A (eval (.Attribute e f pos) env) Q E s:=
 Attribute_any_ h (by rw [arm_eval_Attribute,hb])
end
inductive XFld (K:zPS) (f:Str) (x:V) (H1:Hp) (Q:VK):Prop
 | mk (a C dx:Addr) (fs:List (Str×V)) (v:V) (h1:x= .ref a) (h2:H1 a=some (.ins C dx fs)) (h3:Cls K C) (h4:yp K C f) (h5:fs.lookup f=some v) (q:Q v H1)
def zFI(K:zPS)(ta:TE)(f:Str):TE:=fun σ H Q=>ta σ H fun x H1=>XFld K f x H1 Q
inductive XSf (K:zPS) (f:Str) (x y:V) (H2:Hp) (Q:Hp->Prop):Prop
 | mk (a C dx:Addr) (fs:List (Str×V)) (h1:x= .ref a) (h2:H2 a=some (.ins C dx fs)) (h3:Cls K C) (h4:yp K C f) (h5:fs.length<1000) (q:Q (upd H2 a (.ins C dx (yT f y fs))))
def zNL(K:zPS)(ta tv:TE)(f:Str):TS:=fun D σ H=>tv σ H fun y H1=>ta σ H1 fun x H2=>XSf K f x y H2 fun H3=>D.nx σ H3
section
variable {X:Cx}{o e value:Expr}{f:Str}{pos pos' tpos:Pos}{ta tv:TE}
theorem zMk(he:PE X e ta)(hb:attributeBase e f X.env (eval e X.env)=eval e X.env):PE X (.Attribute e f pos) (zFI X.K ta f):=by
 intro pins s σ H Q I h;refine zLk hb (zW (he pins s σ H _ I h) fun u s1 ⟨x,H1,I1,rx,a,C,dx,fs,v,ex,ea,c,n,l,q⟩=>?_);subst ex;obtain rfl:u=Value.ref a:=rx;exact zHz I1 ea c n l fun u' s2 I2 ru=>⟨v,H1,I2,ru,q⟩
theorem zNR(ha:PE X o ta)(hv:PE X value tv)(hs:swapsWith value (some (.Attribute o f pos')) pos.line X.env=pure false):PS X (.Assign [.Attribute o f pos'] value pos) (zNL X.K ta tv f):=by
 intro pins s σ H D I h;refine plainObj_wpAny_Assign_Attribute (zW (hv pins s σ H _ I h) fun u s1 ⟨y,H1,I1,ry,q⟩=>zW (ha pins s1 σ H1 _ I1 q) fun ov s2 ⟨x,H2,I2,rx,a,C,dx,fs,ex,ea,c,n,l,q2⟩=>?_) hs;subst ex;obtain rfl:ov=Value.ref a:=rx;exact zIR I2 ea c n l ry fun s3 I3=>⟨σ,_,I3,q2⟩
end
section
variable {X:Cx}{pins:List (Addr×Obj)}{σ:St}{H:Hp}{s:Shared}{A:Around}{E:Value->Shared->Prop}{Q:Value->Shared->Prop}{c:Value}{b:Bool}
inductive TyOf (K:zPS) (H:Hp):V->Value->Prop where
 | non:TyOf K H .non (.type "NoneType")
 | bl (x:Bool):TyOf K H (.bl x) (.type "bool")
 | int (i:Int):TyOf K H (.int i) (.type "int")
 | str (x:Str):TyOf K H (.str x) (.type "str")
 | flt (x:UInt64):TyOf K H (.flt x) (.type "float")
 | lst {a:Addr} {xs:List V} (e:H a=some (.lst xs)):TyOf K H (.ref a) (.type "list")
 | frz {a:Addr} {o:Obj} {xs:List V} (e:H a=some (.frz o (.lst xs))):TyOf K H (.ref a) (.type "list")
 | tup {a:Addr} {xs:List V} (e:H a=some (.tup xs)):TyOf K H (.ref a) (.type "tuple")
 | dK {a:Addr} {kvs:List (Key×V)} (e:H a=some (.dK kvs)):TyOf K H (.ref a) (.type "dict")
 | dT {a:Addr} {kvs:List (List Key×V)} (e:H a=some (.dT kvs)):TyOf K H (.ref a) (.type "dict")
 | ins {a C dx:Addr} {fs:List (Str×V)} (e:H a=some (.ins C dx fs)) (cl:Cls K C) (ha:PySem.W.findIn K (.ref C) "__class__" =some (some (.builtin "object.__class__")))
   (hn:PySem.W.specialIn K (.builtin "object.__class__") "__get__" =some (some (.builtin "getset_descriptor.__get__"))) (htk:PySem.W.takesIn K (.builtin "object.__class__")=some true)
   (hm:PySem.W.mroIn K C (.type "object")=some true):TyOf K H (.ref a) (.ref C)
theorem zIp{x:V}{u t:Value}(I:Inv X pins σ H s)(rx:zj x u)(ty:TyOf X.K H x t)(e:PySem.W.kitOne X.K t c=some b)(h: ∀tk,Q (.bool b) {s with toks:=tk}):
  wpAny (model X.prog X.w) A (call (.builtin "isinstance") [u,c]) Q E s:=by
 cases ty with
 | non=>cases (show u=Value.none from rx);exact zPN PySem.W.kitx_none I.kIn True.intro e (fun z=>nomatch z) h
 | bl y=>cases (show u=Value.bool y from rx);exact zPN PySem.W.kitx_bool I.kIn True.intro e (fun z=>nomatch z) h
 | int i=>obtain ⟨t,q⟩:=(show∃t,u=Value.int i t from rx);cases q;exact zPN PySem.W.kitx_int I.kIn True.intro e (fun z=>nomatch z) h
 | str y=>obtain ⟨t,q⟩:=(show∃t,u=Value.str y t from rx);cases q;exact zPN PySem.W.kitx_str I.kIn True.intro e (fun z=>nomatch z) h
 | flt y=>obtain ⟨t,q⟩:=(show∃t,u=Value.float y t from rx);cases q;exact zPN PySem.W.kitx_float I.kIn True.intro e (fun z=>nomatch z) h
 | @lst a xs ea=>
  cases (show u=Value.ref a from rx);obtain ⟨_,_,n,_,h1⟩:=(show ym X.prog X.w H s.heap a (.lst xs) from I.hok a _ ea);exact zPN PySem.W.kitx_list I.kIn ⟨_,h1,rfl⟩ e (fun z=>nomatch z) h
 | @frz a ob xs ea=>
  cases (show u=Value.ref a from rx);obtain ⟨_,_,_,n,_,h1⟩:=(show ym X.prog X.w H s.heap a (.frz ob (.lst xs)) from I.hok a _ ea);exact zPN PySem.W.kitx_list I.kIn ⟨_,h1,rfl⟩ e (fun z=>nomatch z) h
 | @tup a xs ea=>
  cases (show u=Value.ref a from rx);obtain ⟨_,_,_,p⟩:=(show ym X.prog X.w H s.heap a (.tup xs) from I.hok a _ ea);obtain ⟨o,h1,h2,_⟩:=p;exact zPN PySem.W.kitx_tuple I.kIn ⟨o,h1,h2⟩ e (fun z=>nomatch z) h
 | @dK a kvs ea=>
  cases (show u=Value.ref a from rx);obtain ⟨_,_,vs,_,p⟩:=(show ym X.prog X.w H s.heap a (.dK kvs) from I.hok a _ ea);obtain ⟨o,es,ep,h1,h2,_⟩:=p;exact zPN PySem.W.kitx_dict I.kIn ⟨o,h1,h2.1⟩ e (fun z=>nomatch z) h
 | @dT a kvs ea=>
  cases (show u=Value.ref a from rx);obtain ⟨_,_,xs,_,o,es,ep,h1,h2,_⟩:=(show ym X.prog X.w H s.heap a (.dT kvs) from I.hok a _ ea);exact zPN PySem.W.kitx_dict I.kIn ⟨o,h1,h2.1⟩ e (fun z=>nomatch z) h
 | @ins a C dx fs ea cl ha hn htk hm=>
  cases (show u=Value.ref a from rx);obtain ⟨mA,O,_⟩:=zDc I.hok ea;obtain ⟨od,J,_⟩:=O.look;exact zPN (PySem.W.kitx_own (cl.get _) cl.hd ha hn htk hm) I.kIn J e (fun z=>nomatch z) h
end
structure Room(k:Nat)(A:Around):Prop where
 hd:A.handled=none
 dp:A.depth+3*k+5<recursionLimit
 un:A.units+16*k+200<cLine
 gd:A.guards=some []
theorem Room.mono{j k:Nat}{A:Around}(r:Room k A)(h:j<=k):Room j A:=⟨r.hd,by have:=r.dp;omega,by have:=r.un;omega,r.gd⟩
theorem Room.deeper{k:Nat}{A:Around}(r:Room (k+1) A)(env:Env):Room k (A.deeper env):=
 ⟨r.hd,by have:=r.dp;show A.depth+1+3*k+5<_;omega,by have:=r.un;show A.units+3+16*k+200<_;omega,r.gd⟩
theorem zHy{A:Around}{C:Addr}{us:List Value}{kw:List (Str×Value)}:(A.under (.builtin "type.__call__" ⟨.ref C::us,kw⟩)).depth=A.depth+1:=by
 first | rfl | simp [Around.under,Code.weight,Code.isCreation,Code.isGuard,Code.isCaller,Code.frames,Code.isFrame,guardIds]
theorem zIY{A:Around}{C:Addr}{us:List Value}{kw:List (Str×Value)}:(A.under (.builtin "type.__call__" ⟨.ref C::us,kw⟩)).units=A.units+1:=by
 first | rfl | simp [Around.under,Code.cUnits,Code.frames,Code.isFrame]
theorem zHA{A:Around}{C:Addr}{us:List Value}{kw:List (Str×Value)}:(A.under (.builtin "type.__call__" ⟨.ref C::us,kw⟩)).guards=A.guards:=by
 show pushGuards [] A.guards=A.guards;cases A.guards<;>rfl
theorem Room.make{k:Nat}{A:Around}(r:Room (k+1) A)(C:Addr)(us:List Value)(kw:List (Str×Value)):Room k (A.under (.builtin "type.__call__" ⟨.ref C::us,kw⟩)):=
 ⟨r.hd,by have:=r.dp;rw [zHy];omega,by have:=r.un;rw [zIY];omega,zHA.trans r.gd⟩
theorem Room.depth{k:Nat}{A:Around}(r:Room k A):A.depth<recursionLimit:=by have:=r.dp;omega
theorem Room.units{k:Nat}{A:Around}(r:Room k A):A.units+64<cLine:=by have:=r.un;omega
def zCG:TA:=fun _ H Q=>Q [] H
def zAo(ta:TE)(tr:TA):TA:=fun σ H Q=>ta σ H fun x H1=>tr σ H1 fun xs H2=>Q (x::xs) H2
section
variable {X:Cx}{e:Expr}{es:List Expr}{te:TE}{t:TA}{pos:Pos}
theorem zBy:PA X [] zCG:=fun _ _ _ _ H Q I h=>Calls.spliced_nil ⟨[],H,I,.nil,h⟩
theorem zAi(ha:PE X e te)(hr:PA X es t)(hs:starEach (e::es) X.env=(false,eval e X.env)::starEach es X.env:=by rfl):PA X (e::es) (zAo te t):=by
 intro pos pins s σ H Q I h;rw [hs];show wpAny _ _ (spliced ((false,eval e X.env)::backTo pos (starEach es X.env))) _ _ s;refine Calls.spliced_cons (zW (ha pins s σ H _ I h) fun u s1 ⟨x,H1,I1,r1,q1⟩=>?_);exact zW (hr pos pins s1 σ H1 _ I1 q1) fun us s2 ⟨xs,H2,I2,r2,q2⟩=>⟨x::xs,H2,I2,.cons r1 r2,q2⟩
def zNJ(t:TA):TE:=fun σ H Q=>t σ H fun xs H1=>xs.length<=sizeLine/\ ∀p,H1 p=none->Q (.ref p) (upd H1 p (.tup xs))
def zIP(t:TA):TE:=fun σ H Q=>t σ H fun xs H1=>xs.length<=sizeLine/\ ∀p,H1 p=none->Q (.ref p) (upd H1 p (.lst xs))
theorem zNp{x1}(h:PA X es t):PE X (.Tuple es x1 pos) (zNJ t):=by
 intro pins s σ H Q I hq;refine wpAny_Tuple_spliced (zW (h pos pins s σ H _ I hq) fun us s1 ⟨xs,H1,I1,r,z,q⟩=>⟨by rw [<-r.length];exact z,?_⟩);have hf:H1 s1.heap.objs.size=none:=I1.hok.fresh (zOh _);refine ⟨.ref s1.heap.objs.size,upd H1 s1.heap.objs.size (.tup xs),I1.laid (t':=s1.toks) (fun b u e=>zOf _ e) (zOh _) ?_,rfl,q _ hf⟩;exact ⟨z,us,r,⟨_,zOw _ rfl,rfl,⟨_,rfl⟩,rfl⟩⟩
theorem zIy(h:PA X es t):PE X (.List es pos) (zIP t):=by
 intro pins s σ H Q I hq;refine wpAny_List_spliced (zW (h pos pins s σ H _ I hq) fun us s1 ⟨xs,H1,I1,r,z,q⟩=>⟨by rw [<-r.length];exact z,?_⟩);have hf:H1 s1.heap.objs.size=none:=I1.hok.fresh (zOh _);refine ⟨.ref s1.heap.objs.size,upd H1 s1.heap.objs.size (.lst xs),I1.laid (t':=s1.toks) (fun b u e=>zOf _ e) (zOh _) ?_,rfl,q _ hf⟩;exact ⟨z,us,0,r,zOw _ rfl⟩
end
abbrev Sp:=List V->Hp->VK->XK->Prop
abbrev CXT:=List Env->Hp->Shared->XK->Value->Shared->Prop
structure Env0(P:Program)(w:World)(K:zPS)(mg:Str->Option Value)(base:Heap)(A:Around)(outer:List Env)(s:Shared)(H:Hp):Prop where
 frames:A.frames=some outer
 mod:Mod K mg base
 bs: ∀b o,base.get? b=some o->s.heap.get? b=some o/\H b=none
 bsz:base.objs.size<=s.heap.objs.size
 funs:s.heap.FunFrames base outer
 frf: ∀b∈frs outer,H b=none
 hok:HOk P w H s.heap
 bare:AllBare s.gens
def CE(outer:List Env)(P:Program)(w:World)(H:Hp)(s:Shared)(Q:VK)(u:Value)(s':Shared):Prop:=
 ∃v H',s'.os=s.os/\AllBare s'.gens/\Un (frs outer) [] H H' s.heap s'.heap/\HOk P w H' s'.heap/\zj v u/\Q v H'
def CR(CX:CXT)(outer:List Env)(P:Program)(w:World)(H:Hp)(s:Shared)(Q:VK)(E:XK)(r:Result)(s':Shared):Prop:=
 match r with
 | .ok (.ret u)=>CE outer P w H s Q u s'
 | .ok _=>False
 | .error e=>CX outer H s E e s'
structure FnOk(P:Program)(w:World)(K:zPS)(mg:Str->Option Value)(base:Heap)(CX:CXT)(k:Nat)(f:Addr)(fd:FuncData)(ps:List Str)(sp:Sp):Prop where
 len: ∀vs H Q E,sp vs H Q E->vs.length=ps.length
 run: ∀(A:Around) (outer:List Env) (s:Shared) (H:Hp) (args:Args) (us:List Value) (vs:List V) (Q:VK) (E:XK),Room k A->Env0 P w K mg base A outer s H->BindsTo s fd args (ps.zip us)->zP vs us->sp vs H Q E->
  codeAny (model P w) A (.call (.ref f) args) (CR CX outer P w H s Q E) s
theorem Env0.make{P:Program}{w:World}{K:zPS}{mg:Str->Option Value}{base:Heap}{A:Around}{outer:List Env}{s:Shared}{H:Hp}(e:Env0 P w K mg base A outer s H)(C:Addr)(us:List Value)(kw:List (Str×Value)):
  Env0 P w K mg base (A.under (.builtin "type.__call__" ⟨.ref C::us,kw⟩)) outer s H:=⟨by first | exact e.frames |(simpa [Around.under,Code.envs,Code.isFrame,pushEnvs] using e.frames),e.mod,e.bs,e.bsz,e.funs,e.frf,e.hok,e.bare⟩
section
variable {X:Cx}{pins:List (Addr×Obj)}{σ:St}{H:Hp}{s s':Shared}
theorem Inv.env0(I:Inv X pins σ H s):Env0 X.prog X.w X.K X.mg X.base X.A X.stack s H:=
 ⟨I.ok.frames,I.ok.mod,I.bs,zOr I.ok.bsz I.sz,I.stack,I.stkFree,I.hok,I.bare⟩
theorem Inv.after{Q:VK}{u:Value}(I:Inv X pins σ H s)(h:CE X.stack X.prog X.w H s Q u s'):EP X pins σ Q u s':=by
 obtain ⟨v,H',os,bare,un,hok,r,q⟩:=h;obtain ⟨hh,g,d,t,os'⟩:=s';obtain rfl:os'=s.os:=os;exact ⟨v,H',I.call (h':=hh) (g':=g) (d':=d) (t':=t) (ch:= []) un hok bare (fun b z=>absurd z (by simp)),r,q⟩
end
def zII(sp:Sp)(dvs:List V)(E:XK)(t:TA):TE:=fun σ H Q=>t σ H fun vs H1=>sp (vs++dvs) H1 Q E
inductive XMeth (C:Addr) (m:Str) (sp:Sp) (dvs:List V) (E:XK) (t:TA) (x:V) (σ:St) (H1:Hp) (Q:VK):Prop
 | mk (a dx:Addr) (fs:List (Str×V)) (h1:x= .ref a) (h2:H1 a=some (.ins C dx fs)) (h3:fs.lookup m=none) (q:t σ H1 fun vs H2=>sp (x::(vs++dvs)) H2 Q E)
def zGB(C:Addr)(m:Str)(sp:Sp)(dvs:List V)(E:XK)(ta:TE)(t:TA):TE:=fun σ H Q=>ta σ H fun x H1=>XMeth C m sp dvs E t x σ H1 Q
def zIM(C:Addr)(sp:Sp)(dvs:List V)(E:XK)(t:TA):TE:=fun σ H Q=>t σ H fun vs H1=> ∀x dx,H1 x=none->H1 dx=none->dx≠x->
 sp (.ref x::(vs++dvs)) (upd (upd H1 dx (.own x)) x (.ins C dx [])) (fun v H2=>v= .non/\Q (.ref x) H2) E
def zO(K:zPS)(fd:FuncData)(ps:List Str)(ds:List Value):Prop:=
 ∀(s:Shared) (us:List Value),K.In s.heap->(us++ds).length=ps.length->BindsTo s fd ⟨us,[]⟩ (ps.zip (us++ds))
theorem zO.all{K:zPS}{fd:FuncData}{ps:List Str}(h: ∀us:List Value,us.length=ps.length->bindArgs fd ⟨us,[]⟩=pure (ps.zip us)):zO K fd ps [] :=fun s us _ hl=>by
 rw [zPE] at hl⊢;exact .of_eq (h us hl)
def zAT(CX:CXT)(X:Cx)(E:XK):Prop:= ∀(pins:List (Addr×Obj)) (σ:St) (H:Hp) (s:Shared) (e:Value) (s':Shared),Inv X pins σ H s->CX X.stack H s E e s'->X.xe e s'
section
variable {X:Cx}{CX:CXT}{k:Nat}{f C:Addr}{fd:FuncData}{ps:List Str}{sp:Sp}{dvs:List V}{ds:List Value}{E:XK}{x m:Str}{p pos apos:Pos}{e o:Expr}{es:List Expr}{ta:TE}{t:TA}
theorem zGL{pins:List (Addr×Obj)}{σ:St}{H:Hp}{s:Shared}{Q:VK}{us:List Value}{vs:List V}(F:FnOk X.prog X.w X.K X.mg X.base CX k f fd ps sp)(hr:Room k X.A)(hb:zO X.K fd ps ds)(hd:zP dvs ds)(hx:zAT CX X E)
  (I:Inv X pins σ H s) (r:zP vs us) (h:sp (vs++dvs) H Q E):wpAny (model X.prog X.w) X.A (call (.ref f) us) (EP X pins σ Q) X.xe s:=by
 have r2:zP (vs++dvs) (us++ds):=r.append hd;have hl:(us++ds).length=ps.length:=by rw [<-r2.length];exact F.len _ _ _ _ h
 refine wpAny_call (zPQ (F.run X.A X.stack s H ⟨us,[]⟩ (us++ds) (vs++dvs) Q E hr I.env0 (hb s us I.kIn hl) r2 h) fun r s' hq=>?_);cases r with
 | error e=>exact hx pins σ H s e s' I hq
 | ok fl=>
  cases fl with
  | ret u=>exact I.after hq
  | next=>exact False.elim hq
  | brk=>exact False.elim hq
  | cont=>exact False.elim hq
theorem zFS(F:FnOk X.prog X.w X.K X.mg X.base CX k f fd ps sp)(hr:Room k X.A)(hg:Gl X x)(hm:X.mg x=some (.ref f))(hk:PySem.W.keepIn X.K (.ref f)=true)(hb:zO X.K fd ps ds)(hd:zP dvs ds)(hx:zAT CX X E)
  (ha:PA X (e::es) t) (hdb:(x==("__debug__" :Str))=false:=by decide) (he:starEach (e::es) X.env=(false,eval e X.env)::starEach es X.env:=by rfl) (hpl:(backTo pos (starEach es X.env)).any (·.1)=false:=by rfl):
  PE X (.Call (.Name x p) (e::es) [] pos) (zII sp dvs E t):=by
 intro pins s σ H Q I h;refine zPP (zHj I hg hm ?_ hdb);refine PySem.W.callWith_K (h₀:=X.base) I.ok.mod.kin hk (zW (ha pos pins s σ H _ I h) fun us s1 ⟨vs,H1,I1,r,q⟩=>⟨I1.kIn,?_⟩) he hpl;exact zGL F hr hb hd hx I1 r q
theorem zLx{pl:Sem Bool}(he:PE X o ta)(c:Cls X.K C)(hm:Meth X.K C m f)(F:FnOk X.prog X.w X.K X.mg X.base CX k f fd ps sp)(hr:Room k X.A)(hb:zO X.K fd ps ds)(hd:zP dvs ds)(hx:zAT CX X E)(ha:PA X (e::es) t)
  (hst:starEach (e::es) X.env=(false,eval e X.env)::starEach es X.env:=by rfl) (hpl:(backTo pos (starEach es X.env)).any (·.1)=false:=by rfl)
  (ht:eval (.Call (.Attribute o m apos) (e::es) [] pos) X.env=(do
   let ov<-eval o X.env
   standAt apos.atName
   let (f,first)<-holding [ov] (getMethod ov m pl)
   callWith pos f first (backTo pos (starEach (e::es) X.env)) (backToKw pos (keywordEach [] X.env))):=by rfl):
  PE X (.Call (.Attribute o m apos) (e::es) [] pos) (zGB C m sp dvs E ta t):=by
 intro pins s σ H Q I h;refine PySem.W.methodCall_KW (pl:=pl) (zW (he pins s σ H _ I h) fun u s1 ⟨x,H1,I1,rx,a,dx,fs,ex,ea,l,q⟩=>?_) ht;subst ex;obtain rfl:u=Value.ref a:=rx;refine zEd I1 ea c hm l ?_;refine PySem.W.callWith_K (first:= [.ref a]) (h₀:=X.base) I.ok.mod.kin hm.kp (zW (ha pos pins s1 σ H1 _ I1 q) fun us s2 ⟨vs,H2,I2,r,q2⟩=>⟨I2.kIn,?_⟩) hst hpl;exact zGL (us:= .ref a::us) (vs:= .ref a::vs) F hr hb hd hx I2 (.cons rfl r) q2
theorem zKg{pl:Sem Bool}(he:PE X o ta)(c:Cls X.K C)(hm:Meth X.K C m f)(F:FnOk X.prog X.w X.K X.mg X.base CX k f fd ps sp)(hr:Room k X.A)(hb:zO X.K fd ps ds)(hd:zP dvs ds)(hx:zAT CX X E)
  (ht:eval (.Call (.Attribute o m apos) [] [] pos) X.env=(do
   let ov<-eval o X.env
   standAt apos.atName
   let (f,first)<-holding [ov] (getMethod ov m pl)
   callWith pos f first (backTo pos (starEach [] X.env)) (backToKw pos (keywordEach [] X.env))):=by rfl):
  PE X (.Call (.Attribute o m apos) [] [] pos) (zGB C m sp dvs E ta zCG):=by
 intro pins s σ H Q I h;refine PySem.W.methodCall_KW (pl:=pl) (zW (he pins s σ H _ I h) fun u s1 ⟨x,H1,I1,rx,a,dx,fs,ex,ea,l,q⟩=>?_) ht;subst ex;obtain rfl:u=Value.ref a:=rx;refine zEd I1 ea c hm l ?_;exact PySem.W.callWith_K0 (first:= [.ref a]) I1.kIn hm.kp (zGL (us:= [.ref a]) (vs:= [.ref a]) F hr hb hd hx I1 (.cons rfl .nil) q)
structure Mk(K:zPS)(C f:Addr):Prop where
 makes:PySem.W.makesIn K C=true
 init:PySem.W.findIn K (.ref C) "__init__" =some (some (.ref f))
 fn:PySem.W.isFn K (.ref f)=true
 kp:PySem.W.keepIn K (.ref C)=true
theorem zJc{pins:List (Addr×Obj)}{σ:St}{H:Hp}{s:Shared}{Q:VK}{us:List Value}{vs:List V}(M:Mk X.K C f)(F:FnOk X.prog X.w X.K X.mg X.base CX k f fd ps sp)(hr:Room (k+1) X.A)(hb:zO X.K fd ps ds)(hd:zP dvs ds)
  (hx:zAT CX X E) (I:Inv X pins σ H s) (r:zP vs us)
  (h: ∀x dx,H x=none->H dx=none->dx≠x->sp (.ref x::(vs++dvs)) (upd (upd H dx (.own x)) x (.ins C dx [])) (fun v H2=>v= .non/\Q (.ref x) H2) E):
  wpAny (model X.prog X.w) X.A (call (.ref C) us) (EP X pins σ Q) X.xe s:=by
 have hq:=h (s.heap.objs.size+1) s.heap.objs.size (I.hok.fresh (Nat.le_succ _)) (I.hok.fresh (zOh _)) (zOl (Nat.lt_succ_self _));have I2:=Inv.made (C:=C) I;have r2:zP (V.ref (s.heap.objs.size+1)::(vs++dvs)) (Value.ref (s.heap.objs.size+1)::(us++ds)):= .cons rfl (r.append hd);have hl:(Value.ref (s.heap.objs.size+1)::us++ds).length=ps.length:=by
  have e:=r2.length;rw [F.len _ _ _ _ hq] at e;exact e.symm
 refine wpAny_call (zKI (f:=f) I.kIn M.makes M.init (beq_iff_eq.mp M.fn) (zPQ (F.run _ X.stack _ _ ⟨Value.ref (s.heap.objs.size+1)::us,[]⟩ (Value.ref (s.heap.objs.size+1)::(us++ds)) _ _ E (hr.make C us [])
  (I2.env0.make C us []) (hb _ (Value.ref (s.heap.objs.size+1)::us) I2.kIn hl) r2 hq) fun r s' hq'=>?_))
 cases r with
 | error e=>exact hx pins σ _ _ e s' I2 hq'
 | ok fl=>
  cases fl with
  | ret u=>
   obtain ⟨v,H',I3,rv,ev,q3⟩:=I2.after hq';subst ev;exact ⟨rv,⟨V.ref (s.heap.objs.size+1),H',I3,rfl,q3⟩⟩
  | next=>exact False.elim hq'
  | brk=>exact False.elim hq'
  | cont=>exact False.elim hq'
theorem zML(M:Mk X.K C f)(F:FnOk X.prog X.w X.K X.mg X.base CX k f fd ps sp)(hr:Room (k+1) X.A)(hg:Gl X x)(hm:X.mg x=some (.ref C))(hb:zO X.K fd ps ds)(hd:zP dvs ds)(hx:zAT CX X E)
  (ha:PA X (e::es) t) (hdb:(x==("__debug__" :Str))=false:=by decide) (he:starEach (e::es) X.env=(false,eval e X.env)::starEach es X.env:=by rfl) (hpl:(backTo pos (starEach es X.env)).any (·.1)=false:=by rfl):
  PE X (.Call (.Name x p) (e::es) [] pos) (zIM C sp dvs E t):=by
 intro pins s σ H Q I h;refine zPP (zHj I hg hm ?_ hdb);refine PySem.W.callWith_K (h₀:=X.base) I.ok.mod.kin M.kp (zW (ha pos pins s σ H _ I h) fun us s1 ⟨vs,H1,I1,r,q⟩=>⟨I1.kIn,?_⟩) he hpl;exact zJc M F hr hb hd hx I1 r q
end
section
variable {X:Cx}{CX:CXT}{k:Nat}{f C:Addr}{fd:FuncData}{ps ks:List Str}{sp:Sp}{E:XK}{x m:Str}{p pos apos kpos:Pos}{e o:Expr}{es:List Expr}{kws:List Keyword}{te ta:TE}{t tk:TA}{nm:Option Str}
variable {g:List Value->List Value->List Value}{gV:List V->List V->List V}
end
structure FnScope(N P:List Str)(sc:Scope):Prop where
 kind:sc.kind= .function
 co:sc.isCoroutine=false
 gen:sc.isGenerator=false
 nd:N.Nodup
 pre:N.take P.length=P
 par: ∀x∈P,sc.names.lookup x=some .local\/sc.names.lookup x=some .cell
 nofree: ∀y∈sc.names,y.2≠ .free
theorem zFi{kindOf:Str->Option NameKind}{x:Str}: ∀{binds:List (Str×Value)} {m:Str->Option Value},(∀v,(x,v)∉binds)->bindL kindOf binds m x=m x
 | [],_,_=>rfl
 |(n,v)::r,m,h=>by
  unfold bindL;rw [zFi fun w hw=>h w (zPK _ hw)];split
  ·have:x≠n:=by rintro rfl;exact h v List.mem_cons_self
   simp [this]
  ·rfl
theorem zFk{kindOf:Str->Option NameKind}{x:Str}: ∀{binds:List (Str×Value)} {m:Str->Option Value},(∀v,(x,v)∉binds)->bindC kindOf binds m x=m x
 | [],_,_=>rfl
 |(n,v)::r,m,h=>by
  unfold bindC;rw [zFk fun w hw=>h w (zPK _ hw)];split
  ·rfl
  ·have:x≠n:=by rintro rfl;exact h v List.mem_cons_self
   simp [this]
theorem zFj{kindOf:Str->Option NameKind}{x:Str}{v:Value}: ∀{P:List Str} {vs:List Value} {i:Nat} {m:Str->Option Value},P.Nodup->P[i]?=some x->vs[i]?=some v->kindOf x=some .local->
  bindL kindOf (P.zip vs) m x=some v
 | [],_,_,_,_,h,_,_=>by simp at h
 | _::_,[],_,_,_,_,h,_=>by simp at h
 | p::P,w::vs,0,m,nd,h1,h2,hk=>by
  simp at h1 h2;subst h1;subst h2;show bindL kindOf ((p,w)::P.zip vs) m p=_;unfold bindL;rw [zFi fun v hv=>(List.nodup_cons.mp nd).1 (List.of_mem_zip hv).1,if_pos hk];simp
 | p::P,w::vs,i+1,m,nd,h1,h2,hk=>by
  show bindL kindOf ((p,w)::P.zip vs) m x=_;unfold bindL;exact zFj (i:=i) (List.nodup_cons.mp nd).2 (by simpa using h1) (by simpa using h2) hk
theorem zFl{kindOf:Str->Option NameKind}{x:Str}{v:Value}: ∀{P:List Str} {vs:List Value} {i:Nat} {m:Str->Option Value},P.Nodup->P[i]?=some x->vs[i]?=some v->kindOf x≠some .local->
  bindC kindOf (P.zip vs) m x=some v
 | [],_,_,_,_,h,_,_=>by simp at h
 | _::_,[],_,_,_,_,h,_=>by simp at h
 | p::P,w::vs,0,m,nd,h1,h2,hk=>by
  simp at h1 h2;subst h1;subst h2;show bindC kindOf ((p,w)::P.zip vs) m p=_;unfold bindC;rw [zFk fun v hv=>(List.nodup_cons.mp nd).1 (List.of_mem_zip hv).1,if_neg hk];simp
 | p::P,w::vs,i+1,m,nd,h1,h2,hk=>by
  show bindC kindOf ((p,w)::P.zip vs) m x=_;unfold bindC;exact zFl (i:=i) (List.nodup_cons.mp nd).2 (by simpa using h1) (by simpa using h2) hk
def start(N:List Str)(vs:List V):St:=vs.map some++List.replicate (N.length - vs.length) none
def zAx(CX:CXT)(P:Program)(w:World)(K:zPS)(mg:Str->Option Value)(base:Heap)(N:List Str)(qual:Str)(scope:Scope)(f:Addr)(cd:Value)(A:Around)(outer:List Env)(s:Shared)(H:Hp)(E:XK):Cx where
 prog:=P
 w:=w
 K:=K
 mg:=mg
 base:=base
 A:=A.deeper (envOfC qual scope s.heap.objs.size f cd)
 N:=N
 s₀:=s
 H₀:=H
 env:=envOfC qual scope s.heap.objs.size f cd
 outer:=outer
 stack:=envOfC qual scope s.heap.objs.size f cd::outer
 ex:= []
 calm:=true
 fn:=fun _=>true
 pn:= []
 xe:=fun e s'=>wpAny (model P w) (A.deeper (envOfC qual scope s.heap.objs.size f cd)) (leaving (envOfC qual scope s.heap.objs.size f cd) e) (fun _ s''=>CX outer H s E e s'') (fun e' s''=>CX outer H s E e' s'') s'
theorem zGG{sc:Scope}{n:Nat}{x:Str}(h:sc.names.lookup x=some .cell): ∃c,(cellsFrom n sc.names []).lookup x=some c:=by
 have q:=PySem.W.cellsFrom_some sc.names n [] (.inl h);exact Option.isSome_iff_exists.mp q
theorem zIz{CX:CXT}{P:Program}{w:World}{K:zPS}{mg:Str->Option Value}{base:Heap}{N ps:List Str}{qual:Str}{scope:Scope}{f:Addr}{cd:Value}{A:Around}{outer:List Env}{s s1:Shared}{H:Hp}{E:XK}{us:List Value}{vs:List V}
  (S:FnScope N ps scope) (hd:A.handled=none) (e0:Env0 P w K mg base A outer s H) (hl:vs.length=ps.length) (r:zP vs us)
  (x:InCallC s s.heap.objs.size (bindL (envOfC qual scope s.heap.objs.size f cd).kindOf (ps.zip us) fun _=>none) (cellsFrom (s.heap.objs.size+1) scope.names []) (bindC (envOfC qual scope s.heap.objs.size f cd).kindOf (ps.zip us) fun _=>none) s1):
  Inv (zAx CX P w K mg base N qual scope f cd A outer s H E) [] (start N vs) H s1:=by
 have hpl:ps.length<=N.length:=by have:=congrArg List.length S.pre;rw [List.length_take] at this;omega
 obtain ⟨h1,tk,rfl,hk⟩:=x.done;have noA: ∀b:Addr,b∉(zAx CX P w K mg base N qual scope f cd A outer s H E).ex:=fun b z=>absurd (show b∈([] :List Addr) from z) (by simp);refine ⟨⟨e0.mod,S.kind,rfl,rfl,zOh _,fun y z c h1 h2=>?_,fun y hy=>?_,fun y c _ h=>?_,fun _=>hd,Around.frames_deeper e0.frames,.inr ⟨rfl,rfl⟩,fun b z=>absurd z (noA b),e0.bs,e0.bsz,fun b _ _=>noA b,fun b z=>absurd z (noA b),e0.funs,e0.frf⟩,
  rfl,e0.bare,Un.kept hk,⟨_,x.toInCall.ns,fun i y v h1 h2 h3=>?_⟩,fun y c h=>⟨_,x.cell y c h⟩,e0.hok.fresh (zOh _),fun y c h=>?_,fun p hp=>absurd (show p∈([] :List (Addr×Obj)) from hp) (by simp),e0.hok.kept hk,?_⟩
 ·exact name_of_addr x.apart (PySem.mem_of_lookup h1) (PySem.mem_of_lookup h2)
 ·have hy:scope.names.lookup y=some .cell\/scope.names.lookup y=some .free:=hy;rcases hy with hy | hy
  ·exact zGG hy
  ·exact absurd rfl (S.nofree _ (PySem.mem_of_lookup hy))
 ·exact zPL (x.above y c (PySem.mem_of_lookup h))
 ·have hi:i<vs.length:=by
   unfold start at h2;by_cases hi:i<vs.length
   ·exact hi
   ·rw [List.getElem?_append_right (by simpa using hi)] at h2;rw [List.getElem?_replicate] at h2;split at h2<;>cases h2
  have ha:vs[i]?=some v:=by
   unfold start at h2;rw [List.getElem?_append_left (by simpa using hi),zOi] at h2;cases e:vs[i]? with
   | none=>rw [e] at h2;cases h2
   | some a=>rw [e] at h2;cases h2;rfl
  obtain ⟨u,hu,rv⟩:=r.get ha;have hp:ps[i]?=some y:=by
   rw [<-S.pre,List.getElem?_take_of_lt (by omega)];exact h1
  have ndP:ps.Nodup:=by rw [<-S.pre];exact S.nd.sublist (List.take_sublist _ _)
  refine ⟨u,rv,?_⟩;rcases S.par y (zPH hp) with k | k
  ·exact .inl ⟨k,zFj ndP hp hu k⟩
  ·obtain ⟨c,e⟩:=zGG (n:=s.heap.objs.size+1) k;refine .inr ⟨.inl k,c,e,?_⟩;have q:=x.cell y c e;rw [zFl ndP hp hu (by show scope.names.lookup y≠_;rw [k];decide)] at q;exact q
 ·exact e0.hok.fresh (zPL (x.above y c (PySem.mem_of_lookup h)))
 ·unfold start;show _=N.length;rw [zPF,zOk,List.length_replicate];omega
theorem zOD{CX:CXT}{P:Program}{w:World}{K:zPS}{mg:Str->Option Value}{base:Heap}{k:Nat}{f:Addr}{name qual:Str}{params:Arguments}{body:List Stmt}{scope:Scope}{dV kV doc pm cdv ct oc:Value}{an od:Option Addr}
  {osl:Array (Option Value)} {N ps:List Str} {sp:Sp} (lk:K.lookup f=some ⟨oc,od,.func (PySem.W.fnOf name qual params body scope dV kV doc pm an cdv ct),osl⟩) (hcd:PySem.W.codeIn K cdv qual=true) (S:FnScope N ps scope)
  (len: ∀vs H Q E,sp vs H Q E->vs.length=ps.length)
  (hbody: ∀(A:Around) (outer:List Env) (s:Shared) (H:Hp) (vs:List V) (Q:VK) (E:XK),Room k (A.deeper (envOfC qual scope s.heap.objs.size f cdv))->sp vs H Q E->
   ∃t,PSs (zAx CX P w K mg base N qual scope f cdv A outer s H E) body t/\t {nx:=fun _ H'=>Q .non H',rt:=Q} (start N vs) H):
  FnOk P w K mg base CX (k+1) f (PySem.W.fnOf name qual params body scope dV kV doc pm an cdv ct) ps sp:=by
 refine ⟨len,fun A outer s H args us vs Q E hr e0 hb r hsp=>?_⟩;have hl:=len _ _ _ _ hsp;have KX:K.In s.heap:=e0.mod.kin.keeps fun b o e=>(e0.bs b o e).1;have lim:s.heap.NoLimit:=e0.mod.nolimit.keeps fun b o e=>(e0.bs b o e).1;have hkind: ∀y∈ps.zip us,scope.names.lookup y.1=some .local\/(scope.names.lookup y.1=some .cell/\((cellsFrom (s.heap.objs.size+1) scope.names []).lookup y.1).isSome=true):=fun ⟨n,v⟩ hy=>by
  rcases S.par n (List.of_mem_zip hy).1 with q | q
  ·exact .inl q
  ·exact .inr ⟨q,PySem.W.cellsFrom_some _ _ _ (.inl q)⟩
 refine codeAny_call_function hr.depth (KX _ _ lk) rfl S.co S.gen rfl (PySem.W.codeRec_of KX hcd) (hb _ _ _ _ ?_);refine wpAny_newFunctionEnv_cells S.kind hkind fun env he s1 x=>?_;subst he;refine ⟨lim.keeps x.toInCall.keep,codeAny_func ?_⟩;obtain ⟨t,ht,hq⟩:=hbody A outer s H vs Q E (hr.deeper _) hsp;have I:Inv (zAx CX P w K mg base N qual scope f cdv A outer s H E) [] (start N vs) H s1:=zIz S hr.hd e0 hl r x;refine zOy (ht [] s1 (start N vs) H _ I hq) (fun fl s' hs=>?_) fun e s' hs=>hs;have fin: ∀{σ':St} {H':Hp} {v:V} {u:Value},Inv (zAx CX P w K mg base N qual scope f cdv A outer s H E) [] σ' H' s'->zj v u->Q v H'->CE outer P w H s Q u s':=
  fun {σ' H' v u} J rv q=>⟨v,H',J.os,J.bare,J.base,J.hok,rv,q⟩
 cases fl with
 | ret u=>
  obtain ⟨v,σ',H',J,rv,q⟩:=hs;exact fin J rv q
 | next=>
  obtain ⟨σ',H',J,q⟩:=hs;exact fin (v:=V.non) (u:=Value.none) J rfl q
 | brk=>
  obtain ⟨_,_,_,q⟩:=hs;exact False.elim q
 | cont=>
  obtain ⟨_,_,_,q⟩:=hs;exact False.elim q
section
variable {X:Cx}{x:Str}{p pos:Pos}{e:Expr}{es:List Expr}{t:TA}{id T:String}{r:List V->Hp->VK->Prop}
def tCB(r:List V->Hp->VK->Prop)(t:TA):TE:=fun σ H Q=>t σ H fun vs H1=>r vs H1 Q
theorem zGu(hc:yg X (.builtin id) r)(hg:Gl X x)(hm:X.mg x=none)(hv:bootBuiltins x=some (.builtin id))(ha:PA X (e::es) t)(hn:x≠ "__name__" :=by decide)(hdb:(x==("__debug__" :Str))=false:=by decide)
  (he:starEach (e::es) X.env=(false,eval e X.env)::starEach es X.env:=by rfl) (hpl:(backTo pos (starEach es X.env)).any (·.1)=false:=by rfl):PE X (.Call (.Name x p) (e::es) [] pos) (tCB r t):=by
 intro pins s σ H Q I h;refine zPP (zCF I hg hm hv ?_ hn hdb);exact PyProof.Rows.callWith_builtin1 (zW (ha pos pins s σ H _ I h) fun us s1 ⟨vs,H1,I1,r1,q1⟩=>hc pins s1 σ H1 vs us Q I1 r1 q1) he hpl
theorem zJQ(hc:yg X (.type T) r)(hg:Gl X x)(hm:X.mg x=none)(hv:bootBuiltins x=some (.type T))(ha:PA X (e::es) t)(hn:x≠ "__name__" :=by decide)(hdb:(x==("__debug__" :Str))=false:=by decide)
  (he:starEach (e::es) X.env=(false,eval e X.env)::starEach es X.env:=by rfl) (hpl:(backTo pos (starEach es X.env)).any (·.1)=false:=by rfl):PE X (.Call (.Name x p) (e::es) [] pos) (tCB r t):=by
 intro pins s σ H Q I h;refine zPP (zCF I hg hm hv ?_ hn hdb);exact PyProof.Rows.callWith_type1 (zW (ha pos pins s σ H _ I h) fun us s1 ⟨vs,H1,I1,r1,q1⟩=>hc pins s1 σ H1 vs us Q I1 r1 q1) he hpl
end
end L2
namespace HT
open PySem PyProof.Rows
section
open PySem.SeqAt
open PySem.AutoSeq1 (wpAny_loadPart')
open PySem.MeetsSeq PySem.MeetsSeq2 PySem.MeetsSeq3
end
section
variable {prog:Program}{w:World}{A:Around}{E:Value->Shared->Prop}{s:Shared}
def sIx(n d:Nat):Option Int->Nat
 | none=>d
 | some v=>if v<0 then (v+(n:Int)).toNat else min v.toNat n
end
end HT
namespace L2
open PySem PySem.Spec PyProof.Rows
abbrev TO:=St->Hp->(Option Int->Hp->Prop)->Prop
def PO(X:Cx)(e:Option Expr)(t:TO):Prop:=
 ∀(pins:List (Addr×Obj)) (s:Shared) (σ:St) (H:Hp) (Q:Option Int->Hp->Prop),Inv X pins σ H s->t σ H Q->
  wpAny (model X.prog X.w) X.A (evalPart e X.env) (fun u s'=> ∃o H',Inv X pins σ H' s'/\IsPart u o/\Q o H') X.xe s
def zDg:TO:=fun _ H Q=>Q none H
inductive XPart (x:V) (H1:Hp) (Q:Option Int->Hp->Prop):Prop
 | mk (i:Int) (h:x= .int i) (q:Q (some i) H1)
def zFq(t:TE):TO:=fun σ H Q=>t σ H fun x H1=>XPart x H1 Q
theorem zIF{ns:List Int}: ∀{us:List Value},zP (ns.map V.int) us->IntsAre us ns:=by
 induction ns with
 | nil=>intro us r;rw [List.map_nil] at r;cases r;exact .nil
 | cons n ns ih=>
  intro us r;rw [List.map_cons] at r;cases r with
  | cons r1 r2=>
   obtain ⟨t,e⟩:=r1;subst e;exact .cons n t (ih r2)
section
variable {X:Cx}{e:Expr}{te:TE}{lo hi:Option Expr}{tl th:TO}{pos p2:Pos}
theorem zMH:PO X none zDg:=by
 intro pins s σ H Q I h;rw [evalPart_none];exact zOj ⟨none,H,I,.none,h⟩
theorem zHt(h:PE X e te):PO X (some e) (zFq te):=by
 intro pins s σ H Q I hw;rw [evalPart_some];refine zW (h pins s σ H _ I hw) fun u s1 ⟨x,H1,I1,r1,q1⟩=>?_;obtain ⟨i,rfl,q⟩:=q1;obtain ⟨t,rfl⟩:=r1;exact ⟨some i,H1,I1,.int i t,q⟩
def SlR(X:Cx)(r:V->Option Int->Option Int->Hp->VK->Prop):Prop:=
 ∀(pins:List (Addr×Obj)) (s:Shared) (σ:St) (H:Hp) (x:V) (v vl vu:Value) (lo hi:Option Int) (sl:Addr) (Q:VK),Inv X pins σ H s->zj x v->s.heap.IsSliceOf sl vl vu .none->IsPart vl lo->IsPart vu hi->r x lo hi H Q->
  ∃T id,typeLookup (.type T) "__getitem__" =pure (some (.builtin id))/\s.TypeIs v T/\wpAny (model X.prog X.w) X.A (getItem v (.ref sl)) (EP X pins σ Q) X.xe s
def tSl(r:V->Option Int->Option Int->Hp->VK->Prop)(te:TE)(tl th:TO):TE:=fun σ H Q=>te σ H fun x H1=>tl σ H1 fun l H2=>th σ H2 fun u H3=>r x l u H3 Q
theorem zKm{r:V->Option Int->Option Int->Hp->VK->Prop}(hr:SlR X r)(he:PE X e te)(hl:PO X lo tl)(hu:PO X hi th):PE X (.Subscript e (.Slice lo hi none p2) pos) (tSl r te tl th):=by
 intro pins s σ H Q I h;refine Subscript_ (zW (he pins s σ H _ I h) fun v s1 ⟨x,H1,I1,r1,q1⟩=>?_);refine wpAny_Slice (zW (hl pins s1 σ H1 _ I1 q1) fun vl s2 ⟨l,H2,I2,pl,q2⟩=>zW (hu pins s2 σ H2 _ I2 q2) fun vu s3 ⟨u,H3,I3,pu,q3⟩=>?_);rw [evalPart_none];refine zOj ?_;have I4:Inv X pins σ H3 {s3 with heap:=s3.heap.push {cls:= .type "slice",data:= .fields #[vl,vu,.none]}}:=I3.kept (t':=s3.toks) fun b ob q=>zOf _ q;obtain ⟨T,id,hT,ht,hg⟩:=hr pins {s3 with heap:=s3.heap.push {cls:= .type "slice",data:= .fields #[vl,vu,.none]}} σ H3 x v vl vu l u s3.heap.objs.size Q I4 r1 (Heap.IsSliceOf.new ..) pl pu q3;show wpAny (model X.prog X.w) X.A (subscriptTail e (.Slice lo hi none p2) v (.ref s3.heap.objs.size)) (EP X pins σ Q) X.xe {s3 with heap:=s3.heap.push {cls:= .type "slice",data:= .fields #[vl,vu,.none]}};exact tail_any (ops:= [.ref s3.heap.objs.size,v]) ht hT hg (by with_unfolding_all rfl)
def zBR(xs:List V)(lo hi:Option Int):List V:=(xs.drop (HT.sIx xs.length 0 lo)).take (HT.sIx xs.length xs.length hi - HT.sIx xs.length 0 lo)
theorem zHB(xs:List V)(lo hi:Option Int):(zBR xs lo hi).length<=xs.length:=by
 unfold zBR;rw [List.length_take,List.length_drop];omega
end
def ixN(n:Nat)(i:Int):Option Nat:=if 0<=i then (if i<n then some i.toNat else none) else if -(n:Int)<=i then some (i+n).toNat else none
def atI{α:Type}(xs:List α)(i:Int):Option α:=(ixN xs.length i).bind fun j=>xs[j]?
theorem zHJ{n:Nat}{i:Int}{j:Nat}(h:ixN n i=some j):seqIndex? i n=some j/\j<n/\ -(n:Int)<=i/\i<n:=by
 unfold ixN at h;by_cases h0:0<=i
 ·rw [if_pos h0] at h;by_cases h1:i<n
  ·rw [if_pos h1] at h;have e:i.toNat=j:=Option.some.inj h;exact ⟨by rw [seqIndex_of h0 h1,e],by omega,by omega,h1⟩
  ·rw [if_neg h1] at h;cases h
 ·rw [if_neg h0] at h;by_cases h1: -(n:Int)<=i
  ·rw [if_pos h1] at h;have e:(i+n).toNat=j:=Option.some.inj h;exact ⟨by rw [seqIndex_neg (by omega) h1,e],by omega,h1,by omega⟩
  ·rw [if_neg h1] at h;cases h
theorem zHF{α:Type}{xs:List α}{i:Int}{v:α}(h:atI xs i=some v): ∃j,seqIndex? i xs.length=some j/\xs[j]?=some v/\j<xs.length/\ -(xs.length:Int)<=i/\i<xs.length:=by
 unfold atI at h;cases e:ixN xs.length i with
 | none=>rw [e] at h;cases h
 | some j=>
  rw [e] at h;obtain ⟨h1,h2,h3,h4⟩:=zHJ e;exact ⟨j,h1,h,h2,h3,h4⟩
theorem zh{α:Type}{xs:List α}{j:Nat}{v:α}(h:xs[j]?=some v):atI xs (j:Int)=some v:=by
 have hj:j<xs.length:=(List.getElem?_eq_some_iff.mp h).1;have e:ixN xs.length (j:Int)=some j:=by
  unfold ixN;rw [if_pos (by omega),if_pos (by omega)];simp
 unfold atI;rw [e];exact h
def zFN(b:Expr):Prop:= ∀o i,subscripted b false o i=operate [o,i] (getItem o i)
def IxR(X:Cx)(r:R2):Prop:=
 ∀(value slice:Expr) (pins:List (Addr×Obj)) (s:Shared) (σ:St) (H:Hp) (x y:V) (v u:Value) (Q:VK),Inv X pins σ H s->zj x v->zj y u->r x y H Q->
  subscripted slice false v u=operate [v,u] (getItem v u)->wpAny (model X.prog X.w) X.A (subscriptTail value slice v u) (EP X pins σ Q) X.xe s
def MtR(X:Cx)(id:String)(r:V->List V->Hp->VK->Prop):Prop:=
 ∀(pins:List (Addr×Obj)) (s:Shared) (σ:St) (H:Hp) (x:V) (xs:List V) (v:Value) (us:List Value) (Q:VK),Inv X pins σ H s->zj x v->zP xs us->r x xs H Q->
  wpAny (model X.prog X.w) X.A (call (.builtin id) (v::us)) (EP X pins σ Q) X.xe s
section
variable {X:Cx}{a b:Expr}{ta tb:TE}{pos:Pos}
theorem zIO{r:R2}(hr:IxR X r)(ha:PE X a ta)(hb:PE X b tb)(hs:zFN b):PE X (.Subscript a b pos) (yR r ta tb):=by
 intro pins s σ H Q I h;exact Subscript_ (zKj ha hb I h fun v u s2 x y H2 I2 rx ry q=>hr a b pins s2 σ H2 x y v u Q I2 rx ry q (hs _ _))
inductive XIxL (K:zPS) (x y:V) (H:Hp) (Q:VK):Prop
 | mk (p:Addr) (xs:List V) (i:Int) (v:V) (h1:x= .ref p) (h2:y= .int i) (h3:SqL K H p xs) (h4:atI xs i=some v) (q:Q v H)
def zCp(K:zPS):R2:=fun x y H Q=>XIxL K x y H Q
inductive XIxT (K:zPS) (x y:V) (H:Hp) (Q:VK):Prop
 | mk (p:Addr) (xs:List V) (i:Int) (v:V) (h1:x= .ref p) (h2:y= .int i) (h3:SqT K H p xs) (h4:atI xs i=some v) (q:Q v H)
def zNm(K:zPS):R2:=fun x y H Q=>XIxT K x y H Q
theorem zHG:IxR X (zCp X.K):=by
 intro value slice pins s σ H x y v u Q I rx ry h hs;obtain ⟨p,xs,i,z,rfl,rfl,hq,he,q⟩:=h;cases rx;obtain ⟨t,rfl⟩:=ry;obtain ⟨its,r,pl,hz⟩:=I.list hq;obtain ⟨j,h1,h2,h3,h4,h5⟩:=zHF he;obtain ⟨w,ew,rw'⟩:=r.get h2;have hl:=r.length;have hn:=zEZ;have fin:EP X pins σ Q w s:=⟨z,H,I,rw',q⟩;by_cases h0:0<=i
 ·have hj:i.toNat=j:=by
   rw [seqIndex_of h0 h5] at h1;exact Option.some.inj h1
  exact item_listR pl.isList h0 (by omega) (by rw [hj];simpa using ew) fin hs
 ·have hj:(i+(its.toArray.size:Int)).toNat=j:=by
   rw [seqIndex_neg (by omega) h4] at h1;rw [zOx,<-hl];exact Option.some.inj h1
  exact subscriptTail_builtinR (x:=w) pl.isList.typeIs slot_list_getitem.lookup
   (wpAny_getItem_list_neg (Q:=fun r s'=>r=w/\EP X pins σ Q r s') pl.isList (by omega) (by rw [zOx] <;>omega) (by omega) (by rw [hj];simpa using ew) ⟨rfl,fin⟩) hs
theorem zNG:IxR X (zNm X.K):=by
 intro value slice pins s σ H x y v u Q I rx ry h hs;obtain ⟨p,xs,i,z,rfl,rfl,hq,he,q⟩:=h;cases rx;obtain ⟨t,rfl⟩:=ry;obtain ⟨its,r,pl,hz⟩:=I.tuple hq;obtain ⟨j,h1,h2,h3,h4,h5⟩:=zHF he;obtain ⟨w,ew,rw'⟩:=r.get h2;have hl:=r.length;have hn:=zEZ;have fin:EP X pins σ Q w s:=⟨z,H,I,rw',q⟩;exact subscriptTail_builtinR (x:=w) pl.typeIs slot_tuple_getitem.lookup
  (getItem_tuple (j:=j) (Q:=fun r s'=>r=w/\EP X pins σ Q r s') pl (by omega) (by omega) (by rw [zOx,<-hl];exact h1) (by simpa using ew) ⟨rfl,fin⟩) hs
theorem zIH(its:List Value)(n j:Nat)(u:Value):Obj.mapSeq (·.setIfInBounds j u) {cls:= .type "list",data:= .seq its.toArray n}={cls:= .type "list",data:= .seq (its.set j u).toArray n}:=by
 simp [Obj.mapSeq]
theorem Inv.lst{pins:List (Addr×Obj)}{σ:St}{H:Hp}{s:Shared}{p:Addr}{xs:List V}(I:Inv X pins σ H s)(h:H p=some (.lst xs)):
  ∃(its:List Value) (n:Nat),zP xs its/\s.heap.get? p=some {cls:= .type "list",data:= .seq its.toArray n}/\xs.length<=sizeLine:=by
 obtain ⟨z,its,n,r,e⟩:=I.hok p _ h;exact ⟨its,n,r,e,z⟩
theorem Inv.lstUpd{pins:List (Addr×Obj)}{σ:St}{H:Hp}{s:Shared}{p:Addr}{xs ys:List V}{its its':List Value}{n n':Nat}{f:Obj->Obj}(I:Inv X pins σ H s)(h:H p=some (.lst xs))
  (ho:s.heap.get? p=some {cls:= .type "list",data:= .seq its.toArray n}) (hf:f {cls:= .type "list",data:= .seq its.toArray n}={cls:= .type "list",data:= .seq its'.toArray n'}) (r:zP ys its') (hz:ys.length<=sizeLine) (t:Nat):
  Inv X pins σ (upd H p (.lst ys)) {s with heap:=s.heap.update p f,toks:=t}:=by
 have e:(s.heap.update p f).get? p=some {cls:= .type "list",data:= .seq its'.toArray n'}:=by
  rw [Heap.get?_update_self f ho (by rw [hf] <;>rfl),hf]
 refine I.write (x:=p) (e:=p) (by rw [h];trivial) (.inl rfl) (fun b u hb q=>(Heap.get?_update_other _ _ (Ne.symm hb)).trans q) ⟨_,e⟩ ?_;exact ⟨hz,its',n',r,e⟩
def zLK:V->V->V->Hp->(Hp->Prop)->Prop:=fun o i v H Q=> ∃p xs k j,o= .ref p/\i= .int k/\H p=some (.lst xs)/\ixN xs.length k=some j/\Q (upd H p (.lst (xs.set j v)))
theorem zJr:zOZ X zLK:=by
 intro pins s σ H o i v ov iv u Q I ro ri rv h;obtain ⟨p,xs,k,j,rfl,rfl,hp,hj,q⟩:=h;cases ro;obtain ⟨t,rfl⟩:=ri;obtain ⟨its,n,r,ho,hz⟩:=I.lst hp;obtain ⟨h1,h2,h3,h4⟩:=zHJ hj;have hl:=r.length;have hn:=zEZ;have I':Inv X pins σ (upd H p (.lst (xs.set j v))) {s with heap:=s.heap.update p (Obj.mapSeq (·.setIfInBounds j u))}:=
  I.lstUpd hp ho (zIH its n j u) (r.set rv j) (by rw [List.length_set];exact hz) s.toks
 by_cases h0:0<=k
 ·have hk:k.toNat=j:=by
   rw [seqIndex_of h0 h4] at h1;exact Option.some.inj h1
  exact PySem.W.ki_setAt ho h0 (by omega) (by rw [zOx,<-hl];exact h4) (by rw [hk];exact ⟨_,I',q⟩)
 ·have hk:(k+(its.toArray.size:Int)).toNat=j:=by
   rw [seqIndex_neg (by omega) h3] at h1;rw [zOx,<-hl];exact Option.some.inj h1
  exact PySem.W.ki_setBack ho (by omega) (by rw [zOx,<-hl];exact h3) (by omega) (by rw [hk];exact ⟨_,I',q⟩)
theorem zGx(lo hi:Option Int)(n:Nat):(sliceBounds lo hi none n).1=((HT.sIx n 0 lo:Nat):Int)/\(sliceBounds lo hi none n).2.1=((HT.sIx n n hi:Nat):Int)/\(sliceBounds lo hi none n).2.2=1:=by
 refine ⟨?_,?_,rfl⟩
 ·cases lo with
  | none=>simp [sliceBounds,HT.sIx]
  | some i=>
   simp only [sliceBounds,HT.sIx,Option.getD_none,show (1:Int)>0 by decide,if_true];by_cases h:i<0
   ·simp only [h,if_true] <;>omega
   ·simp only [h,if_false] <;>omega
 ·cases hi with
  | none=>simp [sliceBounds,HT.sIx]
  | some i=>
   simp only [sliceBounds,HT.sIx,Option.getD_none,show (1:Int)>0 by decide,if_true];by_cases h:i<0
   ·simp only [h,if_true] <;>omega
   ·simp only [h,if_false] <;>omega
theorem zFn(its:List Value)(lo hi:Option Int):slicePick its.toArray lo hi none=((its.drop (HT.sIx its.length 0 lo)).take (HT.sIx its.length its.length hi - HT.sIx its.length 0 lo)).toArray:=by
 obtain ⟨h1,h2,h3⟩:=zGx lo hi its.toArray.size;unfold slicePick;rw [h1,h2,h3];simp only [sliceRange_one,pick_run,zOx] <;>rfl
def zIL(K:zPS):V->Option Int->Option Int->Hp->VK->Prop:=fun x lo hi H Q=> ∃a xs,x= .ref a/\SqL K H a xs/\ ∀p,H p=none->Q (.ref p) (upd H p (.lst (zBR xs lo hi)))
theorem zLV:SlR X (zIL X.K):=by
 intro pins s σ H x v vl vu lo hi sl Q I rx hs pl pu h;obtain ⟨a,xs,rfl,hx,q⟩:=h;cases rx;obtain ⟨its,r,ht,hz⟩:=I.list hx;have hlen:=r.length;refine ⟨"list",_,slot_list_getitem.lookup,ht.isList.typeIs,?_⟩;refine wpAny_getItem_list_slice ht.isList hs pl pu .none (by simp) ?_ (by rw [zOx] <;>omega);rw [zFn,<-hlen];refine ⟨.ref s.heap.objs.size,_,I.laid (t':=s.toks) (o:= .lst (zBR xs lo hi)) (fun b ob q=>zOf _ q) (zOh _) ?_,rfl,q _ (I.hok.fresh (zOh _))⟩;exact ⟨zOr (zHB xs lo hi) hz,_,0,(r.drop (HT.sIx xs.length 0 lo)).take (HT.sIx xs.length xs.length hi - HT.sIx xs.length 0 lo),zOw _ rfl⟩
theorem zDb:yg X (.builtin "len") (fun xs H Q=> ∃p ys,xs= [.ref p] /\(SqL X.K H p ys\/SqT X.K H p ys)/\Q (.int ys.length) H):=by
 intro pins s σ H xs us Q I r h;obtain ⟨p,ys,rfl,hq,q⟩:=h;obtain ⟨u,rfl,rx⟩:=zBX r;cases rx;have hn:=zEZ;rcases hq with hq | hq
 ·obtain ⟨its,r',pl,hz⟩:=I.list hq;have hlen:=r'.length;exact Calls.call_len_list pl.isList (by simp only [zOx] <;>omega) ⟨.int ys.length,H,I.tok _,⟨s.toks+1,by rw [zOx,hlen]⟩,q⟩
 ·obtain ⟨its,r',pl,hz⟩:=I.tuple hq;have hlen:=r'.length;exact len_tuple pl (by simp only [zOx] <;>omega) ⟨.int ys.length,H,I.tok _,⟨s.toks+1,by rw [zOx,hlen]⟩,q⟩
theorem zGh:yg X (.type "list") (fun xs H Q=> ∃p ys,xs= [.ref p] /\(SqL X.K H p ys\/SqT X.K H p ys)/\ ∀l,H l=none->Q (.ref l) (upd H l (.lst ys))):=by
 intro pins s σ H xs us Q I r h;obtain ⟨p,ys,rfl,hq,q⟩:=h;obtain ⟨u,rfl,rx⟩:=zBX r;cases rx;have fin: ∀(its:List Value),zP ys its->ys.length<=sizeLine-> ∀(h':Heap) (c':Nat),(∀b o',s.heap.get? b=some o'->h'.get? b=some o')->
   h'.get? s.heap.objs.size=some {cls:= .type "list",dict:=none,data:= .seq its.toArray c',slots:= #[]}->EP X pins σ Q (.ref s.heap.objs.size) {s with heap:=h'}:=fun its r' hz h' c' kp e=>
  ⟨.ref s.heap.objs.size,_,I.laid (t':=s.toks) kp (zOh _) (show ym X.prog X.w _ h' _ (.lst ys) from ⟨hz,its,c',r',e⟩),rfl,q _ (I.hok.fresh (zOh _))⟩
 rcases hq with hq | hq
 ·obtain ⟨its,r',pl,hz⟩:=I.list hq;have hlen:=r'.length;obtain ⟨o,ho,hc,n,hd⟩:=pl.isList;exact call_list_seq p (.inl rfl) ho hc hd (fun h' c' kp e=>fin its r' hz h' c' kp e) (by simp only [zOx] <;>omega)
 ·obtain ⟨its,r',pl,hz⟩:=I.tuple hq;have hlen:=r'.length;obtain ⟨o,ho,hc,n,hd⟩:=pl;exact call_list_seq p (.inr rfl) ho hc hd (fun h' c' kp e=>fin its r' hz h' c' kp e) (by simp only [zOx] <;>omega)
def tyV(K:zPS)(T:String)(x:V)(H:Hp):Prop:=match x with
 | .str _=>T= "str"
 | .int _=>T= "int"
 | .ref p=>(T= "list" /\ ∃xs,SqL K H p xs)\/(T= "tuple" /\ ∃o,K.lookup p=some o/\o.cls= .type "tuple" /\o.dict=none)\/
   (T= "dict" /\((∃kvs,H p=some (.dK kvs))\/ ∃kvs,H p=some (.dT kvs)))\/(T= "set" /\ ∃S n,H p=some (.set S n))
 | _=>False
theorem zJT{pins:List (Addr×Obj)}{σ:St}{H:Hp}{s:Shared}{T:String}{x:V}{v:Value}(I:Inv X pins σ H s)(r:zj x v)(ty:tyV X.K T x H):
  s.TypeIs v T/\ ∀a,v= .ref a-> ∃ob,s.heap.get? a=some ob/\ob.dict=none:=by
 cases x with
 | str z=>
  obtain ⟨t,rfl⟩:=r;cases (show T= "str" from ty);exact ⟨typeIs_str s z t,fun _ e=>nomatch e⟩
 | int i=>
  obtain ⟨t,rfl⟩:=r;cases (show T= "int" from ty);exact ⟨typeIs_int s i t,fun _ e=>nomatch e⟩
 | ref p=>
  cases r;rcases ty with ⟨rfl,xs,hq⟩|⟨rfl,o,hk,hc,hd⟩|⟨rfl,hk⟩|⟨rfl,S,n,hk⟩
  ·obtain ⟨its,_,pl,_⟩:=I.list hq;refine ⟨pl.isList.typeIs,fun a e=>?_⟩;cases e;obtain ⟨o,n,e,c,hd,_⟩:=pl;exact ⟨o,e,hd⟩
  ·refine ⟨⟨o,I.kIn p o hk,hc⟩,fun a e=>?_⟩;cases e;exact ⟨o,I.kIn _ o hk,hd⟩
  ·have z: ∃o,s.heap.get? p=some o/\o.ExactDict:=by
    rcases hk with ⟨kvs,hk⟩|⟨kvs,hk⟩
    ·obtain ⟨_,_,_,_,o,_,_,e,ex,_⟩:=I.hok p _ hk;exact ⟨o,e,ex⟩
    ·obtain ⟨_,_,_,_,o,_,_,e,ex,_⟩:=I.hok p _ hk;exact ⟨o,e,ex⟩
   obtain ⟨o,e,ex⟩:=z;refine ⟨⟨o,e,ex.1⟩,fun a e2=>?_⟩;cases e2;exact ⟨o,e,ex.2.1⟩
  ·obtain ⟨o,_,_,_,e,ex,_⟩:=I.hok p _ hk;refine ⟨⟨o,e,ex.1⟩,fun a e2=>?_⟩;cases e2;exact ⟨o,e,ex.2.1⟩
 | _=>exact False.elim ty
def zNO(K:zPS)(T:String)(r:V->List V->Hp->VK->Prop)(to:TE):TE:=fun σ H Q=>to σ H fun x H1=>tyV K T x H1/\r x [] H1 Q
def tBM(K:zPS)(T:String)(r:V->List V->Hp->VK->Prop)(to:TE)(t:TA):TE:=fun σ H Q=>to σ H fun x H1=>tyV K T x H1/\t σ H1 fun xs H2=>r x xs H2 Q
variable {o e:Expr}{es:List Expr}{to:TE}{t:TA}{name:Str}{apos cpos:Pos}{T id:String}{r:V->List V->Hp->VK->Prop}
theorem zMW(pa:PlainAttrs T)(slot:Slot T name id)(hty:typeOf (.builtin id)=pure (.type "method_descriptor"))(hm:MtR X id r)(ho:PE X o to)
  (hbase:attributeBase o name X.env (eval o X.env)=eval o X.env:=by rfl) (hline:(apos.endLine==cpos.line)=true:=by rfl):PE X (.Call (.Attribute o name apos) [] [] cpos) (zNO X.K T r to):=by
 intro pins s σ H Q I h;refine wpAny_Call_method0_late hbase hline (zW (ho pins s σ H _ I h) fun v s1 ⟨x,H1,I1,r1,ty,q1⟩=>?_);obtain ⟨h1,h2⟩:=zJT I1 r1 ty;exact ⟨T,id,pa,slot,hty,h1,h2,Calls.callWith_builtin rfl (PySem.evalArgs_none (hm pins s1 σ H1 x [] v [] Q I1 r1 .nil q1))⟩
theorem zLB(pa:PlainAttrs T)(slot:Slot T name id)(hty:typeOf (.builtin id)=pure (.type "method_descriptor"))(hm:MtR X id r)(ho:PE X o to)(ha:PA X (e::es) t)
  (hbase:attributeBase o name X.env (eval o X.env)=eval o X.env:=by rfl)
  (hfew:((backTo cpos (starEach (e::es) X.env)).all (fun x=>!x.1)&&(backToKw cpos (keywordEach [] X.env)).all (fun x=>x.1.isSome)
   &&decide ((e::es).length+([] :List Keyword).length+(if ([] :List Keyword).isEmpty then 0 else 1)<30))=true:=by rfl)
  (hline:(apos.endLine==cpos.line)=true:=by rfl) (hs:starEach (e::es) X.env=(false,eval e X.env)::starEach es X.env:=by rfl) (hplain:(backTo cpos (starEach es X.env)).any (·.1)=false:=by rfl):
  PE X (.Call (.Attribute o name apos) (e::es) [] cpos) (tBM X.K T r to t):=by
 intro pins s σ H Q I h;refine wpAny_Call_method_late hbase hfew hline rfl (zW (ho pins s σ H _ I h) fun v s1 ⟨x,H1,I1,r1,ty,q1⟩=>?_);obtain ⟨h1,h2⟩:=zJT I1 r1 ty;refine ⟨T,id,pa,slot,hty,h1,h2,?_⟩;have hA:=ha cpos pins s1 σ H1 _ I1 q1;rw [hs] at hA⊢;refine Calls.callWith_builtin (by show (false ||(backTo cpos (starEach es X.env)).any (·.1))=false;rw [hplain] <;>rfl) (Calls.evalArgs_plain ?_);exact zW hA fun us s2 ⟨vs,H2,I2,r2,q2⟩=>hm pins s2 σ H2 x vs v us Q I2 r1 r2 q2
end
def MtM(X:Cx)(id:String)(r:V->List V->Hp->VK->Prop):Prop:=
 ∀(pins:List (Addr×Obj)) (s:Shared) (σ:St) (H:Hp) (x:V) (xs:List V) (v:Value) (us:List Value) (Q:VK),Inv X pins σ H s->zj x v->zP xs us->r x xs H Q->
  wpAny (model X.prog X.w) X.A (call (.builtin id) (v::us)) (EP X pins σ Q) X.xe s
theorem zP.one: ∀{x:V} {us:List Value},zP [x] us-> ∃u,us= [u] /\zj x u
 | _,_,.cons r .nil=>⟨_,rfl,r⟩
theorem zP.two: ∀{x y:V} {us:List Value},zP [x,y] us-> ∃u v,us= [u,v] /\zj x u/\zj y v
 | _,_,_,.cons r (.cons q .nil)=>⟨_,_,rfl,r,q⟩
theorem zP.zero: ∀{us:List Value},zP [] us->us= []
 | _,.nil=>rfl
theorem zP.reverse{xs:List V}{us:List Value}(h:zP xs us):zP xs.reverse us.reverse:=by
 induction h with
 | nil=>exact .nil
 | cons r t ih=>rw [List.reverse_cons,List.reverse_cons];exact zP.append ih (.cons r .nil)
theorem zP.rep{xs:List V}{us:List Value}(h:zP xs us): ∀k:Nat,zP (List.replicate k xs).flatten (List.replicate k us).flatten
 | 0=> .nil
 | k+1=>by
  rw [List.replicate_succ,List.replicate_succ,List.flatten_cons,List.flatten_cons];exact zP.append h (zP.rep h k)
theorem zFm(its:List Value): ∀(k:Nat) (acc:List Value),
  List.foldl (fun x1 x2=>x1++x2) acc.toArray (List.replicate k its.toArray)=(acc++(List.replicate k its).flatten).toArray
 | 0,acc=>by simp
 | k+1,acc=>by
  have e:acc.toArray++its.toArray=(acc++its).toArray:=by simp
  have e2:(acc++its)++(List.replicate k its).flatten=acc++(List.replicate (k+1) its).flatten:=by
   rw [List.replicate_succ,List.flatten_cons,List.append_assoc]
  rw [<-e2,<-zFm its k (acc++its),<-e,List.replicate_succ,List.foldl_cons]
section
variable {X:Cx}{pins:List (Addr×Obj)}{σ:St}{H:Hp}{s:Shared}{l b:Addr}{xs ys zs:List V}
theorem Inv.lset{its its':List Value}{n:Nat}{f:Array Value->Array Value}{t':Nat}(I:Inv X pins σ H s)(hH:H l=some (.lst xs))
  (e:s.heap.get? l=some {cls:= .type "list",data:= .seq its.toArray n}) (hf:f its.toArray=its'.toArray) (hv:zP ys its') (hz:ys.length<=sizeLine):
  Inv X pins σ (upd H l (.lst ys)) {s with heap:=s.heap.update l (Obj.mapSeq f),toks:=t'}:=by
 have q:=PySem.IsL.update e f;rw [hf] at q;refine I.write (x:=l) (e:=l) (by rw [hH];exact trivial) (.inl rfl) (fun b' u hb hu=>(Heap.get?_update_other s.heap (Obj.mapSeq f) (Ne.symm hb)).trans hu) ⟨_,q⟩ ?_;exact ⟨hz,its',_,hv,q⟩
theorem Inv.lnew{its:List Value}{t':Nat}(I:Inv X pins σ H s)(hv:zP ys its)(hz:ys.length<=sizeLine):
  Inv X pins σ (upd H s.heap.objs.size (.lst ys)) {s with heap:=s.heap.push {cls:= .type "list",data:= .seq its.toArray},toks:=t'}:=
 I.laid (fun _ _ q=>zOf _ q) (zOh _) ⟨hz,its,0,hv,zOw _ rfl⟩
theorem Inv.fresh(I:Inv X pins σ H s):H s.heap.objs.size=none:=I.hok.fresh (zOh _)
theorem Inv.lstM(I:Inv X pins σ H s)(hH:H l=some (.lst xs)):xs.length<=sizeLine/\ ∃(its:List Value) (n:Nat),zP xs its/\xs.length=its.length/\s.heap.get? l=some {cls:= .type "list",data:= .seq its.toArray n}:=by
 obtain ⟨z,its,n,r,e⟩:=I.hok l _ hH;exact ⟨z,its,n,r,r.length,e⟩
theorem zKY{n:Nat}(h:n<=sizeLine):Builtin.List.listTooLong n=false:=by
 unfold Builtin.List.listTooLong;exact zPD (by omega)
end
section
variable {X:Cx}
inductive XApp (x:V) (vs:List V) (H:Hp) (Q:VK):Prop
 | mk (l:Addr) (xs:List V) (y:V) (h1:x= .ref l) (h2:vs= [y]) (h3:H l=some (.lst xs)) (h4:xs.length<sizeLine) (q:Q .non (upd H l (.lst (xs++ [y]))))
def zHH:V->List V->Hp->VK->Prop:=fun x vs H Q=>XApp x vs H Q
theorem zBb:MtM X "list.append" zHH:=by
 intro pins s σ H x vs v us Q I rx rv h;obtain ⟨l,xs,y,rfl,rfl,hH,hz,q⟩:=h;cases rx;obtain ⟨u,rfl,ru⟩:=rv.one;obtain ⟨z,its,n,r,hl,e⟩:=I.lstM hH;refine call_meets F.slot_list_append ⟨_,e,rfl⟩ F.entry_list_append (F.args_list_append_2 _ _) (PySem.list_append l its.toArray n u (by rw [zOx];omega)) ⟨e,?_⟩;refine ⟨.non,_,I.lset (its':=its++ [u]) hH e (by simp) (r.append (.cons ru .nil)) ?_,rfl,q⟩;rw [zPF,List.length_singleton];omega
def zJO:V->List V->Hp->VK->Prop:=fun x vs H Q=> ∃l xs,x= .ref l/\vs= [] /\H l=some (.lst xs)/\Q .non (upd H l (.lst []))
theorem zKp:MtM X "list.clear" zJO:=by
 intro pins s σ H x vs v us Q I rx rv h;obtain ⟨l,xs,rfl,rfl,hH,q⟩:=h;cases rx;have hus:=rv.zero;subst hus;obtain ⟨z,its,n,r,hl,e⟩:=I.lstM hH;refine call_meets F.slot_list_clear ⟨_,e,rfl⟩ F.entry_list_clear (F.args_list_clear_1 _) (AutoSeq1.list_clear_list_0 l its.toArray n (by rw [zOx];omega)) ⟨e,?_⟩;exact ⟨.non,_,I.lset (its':= []) (ys:= []) hH e rfl .nil (zOs _),rfl,q⟩
def zFT:R2:=fun x y H Q=> ∃l b xs zs,x= .ref l/\y= .ref b/\H l=some (.lst xs)/\H b=some (.lst zs)/\xs.length+zs.length<=sizeLine/\ ∀p,H p=none->Q (.ref p) (upd H p (.lst (xs++zs)))
theorem zNA:OpR X (binaryOp .Add) zFT:=by
 intro pins s σ H x y v u Q I rx ry h;obtain ⟨l,b,xs,zs,rfl,rfl,hH,hB,hz,q⟩:=h;cases rx;cases ry;obtain ⟨z,its,n,r,hl,e⟩:=I.lstM hH;obtain ⟨z2,its2,n2,r2,hl2,e2⟩:=I.lstM hB;refine PySem.P.add_list e e2 ?_ (by rw [zOx,zOx];omega);have ea:its.toArray++its2.toArray=(its++its2).toArray:=by simp
 rw [ea];exact ⟨.ref _,_,I.lnew (t':=s.toks) (r.append r2) (by rw [zPF];omega),rfl,q _ I.fresh⟩
def zKi:R2:=fun x y H Q=> ∃l k xs,x= .ref l/\y= .int k/\H l=some (.lst xs)/\ -(2^63)<=k/\k<2^63/\xs.length*k.toNat<=sizeLine/\
 ∀p,H p=none->Q (.ref p) (upd H p (.lst (List.replicate k.toNat xs).flatten))
theorem zMC{α:Type}(xs:List α)(k:Nat):(List.replicate k xs).flatten.length=k*xs.length:=by
 induction k with
 | zero=>simp
 | succ k ih=>rw [List.replicate_succ,List.flatten_cons,zPF,ih,Nat.succ_mul,Nat.add_comm]
theorem zMS:OpR X (binaryOp .Mult) zKi:=by
 intro pins s σ H x y v u Q I rx ry h;obtain ⟨l,k,xs,rfl,rfl,hH,h1,h2,hz,q⟩:=h;cases rx;obtain ⟨t,rfl⟩:=ry;obtain ⟨z,its,n,r,hl,e⟩:=I.lstM hH;have hlen:its.toArray.size*k.toNat<=sizeLine:=by rw [zOx,<-hl];exact hz
 have hcap: ¬its.toArray.size*k.toNat>(2^63 - 1)/8:=by
  have:(sizeLine:Nat)<=(2^63 - 1)/8:=by decide
  omega
 have hfit: ¬(!Builtin.List.listFitsIndex k)=true:=by
  rw [fitsIndex_both h1 h2];exact zOq
 have hlong: ¬Builtin.List.listTooLong (its.toArray.size*k.toNat)=true:=by
  rw [zKY hlen];exact zOq
 have hnew:List.foldl (fun x1 x2=>x1++x2) #[] (List.replicate (if its.toArray.isEmpty=true then 0 else k.toNat) its.toArray)=(List.replicate k.toNat its).flatten.toArray:=by
  have f0: ∀m:Nat,List.foldl (fun x1 x2=>x1++x2) #[] (List.replicate m its.toArray)=(List.replicate m its).flatten.toArray:=fun m=>by
   have:=zFm its m [];rw [List.nil_append] at this;exact this
  rw [f0];cases its with
  | nil=>simp
  | cons a r'=>rw [if_neg (by simp)]
 refine wpAny_binaryOp_repeat_ref (T:= "list") (U:= "int") (by decide) ⟨_,e,rfl⟩ (fun s'=>typeIs_int s' k t) noFill_list_mul F.fills_int_mul F.slot_int_rmul repeat_list F.slot_int_index.lookup
  (call_meets F.slot_int_rmul (typeIs_int s k t) F.entry_int_rmul (F.args_int_rmul_2 _ _) (int___rmul___int_list k t l its.toArray n)
   ⟨e,rfl,⟨_,e,rfl⟩,call_meets F.slot_list_mul ⟨_,e,rfl⟩ F.entry_list_mul (F.args_list_mul_2 _ _) (AutoListH.list___mul___list_int_3 l its.toArray n k t hfit hcap hlong) ⟨e,?_⟩⟩)
 rw [hnew];exact ⟨.ref _,_,I.lnew (t':=s.toks) (r.rep k.toNat) (by rw [zMC,Nat.mul_comm];exact hz),rfl,q _ I.fresh⟩
end
section
variable {prog:Program}{w:World}{A:Around}{E:Value->Shared->Prop}{s:Shared}
set_option maxRecDepth 100000 in
end
section
variable {X:Cx}
end
end L2
namespace Att
open PySem PySem.W PySem.Calls PyProof.Rows
theorem zEm{P:Params}{h:Heap}: ∀(ns:List Int) (vs:List Value),WellAll P h vs (ns.map WData.int)->IntsAre vs ns:=by
 intro ns
 induction ns with
 | nil=>
  intro vs w;rw [List.map_nil] at w;cases w;exact .nil
 | cons n ns ih=>
  intro vs w;rw [List.map_cons] at w;cases w with
  | cons a b=>
   cases a;exact .cons _ _ (ih _ b)
theorem zIw{l:OpenLaw}{n:Nat}(hn:l.most=some n){P:Params}{h:Heap}{args:List WData}{vals:List Value}
  (hpre:l.row.toRowW.claim.pre args=true) (hwl:WellAll P h vals args):
  ∃a vs ns,vals= [Value.ref a] /\args= [WData.list (ns.map WData.int)] /\h.get? a=some {cls:= .type "list",data:= .seq vs.toArray}/\IntsAre vs ns/\ns.length<=n:=by
 have hsh:WShape.hasAll [] args [.list .int] =true:=(pre_splitW hpre).1;have hc:l.pre.holds [] {args:=args}=true:=(pre_splitW hpre).2;obtain ⟨d,r,rfl,h1,h2⟩:=hasAllW_cons hsh;obtain rfl:=hasAllW_nil h2;obtain ⟨xs,rfl,h3⟩:=hasW_list h1;obtain ⟨ns,rfl⟩:=items_int h3;have hlen:ns.length<=n:=by
  unfold OpenLaw.pre at hc;have h4:(WTm.not (.lt (.lit (.int (n:Int))) (.len (.arg 0)))).holds [] {args:= [.list (ns.map .int)]}=true:=by
   have h4:=(holds_andW hc).1;rw [hn] at h4;exact h4
  have h5:=condW_of h4 (w_not (w_lt w_lit (w_len_list (w_arg rfl))));rw [zOk] at h5;refine Nat.le_of_not_lt fun q=>?_;have q':(n:Int)<((ns.length:Nat):Int):=by omega
  first
   |(rw [zPB q'] at h5;exact absurd h5 (by decide))
   |(simp at h5;omega)
 cases hwl with
 | cons w1 w2=>
  cases w2;cases w1 with
  | list ho hall=>exact ⟨_,_,ns,rfl,rfl,ho,zEm ns _ hall,hlen⟩
theorem zIg(l:OpenLaw)(args:List WData):l.row.toRowW.claim.post args (.bool true) args=true:=
 postW_of (r:=l.row.toRowW) (X:=(true==true))
  (show WShape.has [] (.bool true) .bool=true by first | rfl | decide | simp [WShape.has,WShape.arms,WShape.armsAll])
  (show (WTm.eq .res (.lit (.bool true))).value [] {args:=args,res:=some (.bool true),after:=args}=some (.bool (true==true)) from w_eq_bool (w_res rfl) w_lit) rfl
theorem attach_call{l:OpenLaw}{n:Nat}{q:Program}{loose:List Str}{XP:(Str->Option Value)->Heap->Prop}{YP:World->Heap->Prop}{d:DefRec}
  (hn:l.most=some n) (hdf:d.params.defaults= [])
  (call: ∀(w:World) (s₀ s₁:Shared) (mg mb:Str->Option Value) (fa:Addr) (o:Obj) (pm cd doc:Value) (a:Addr) (vs:List Value) (ns:List Int),
   Ground q loose [] XP w s₀ mg mb s₁.heap->YP w s₁.heap->
   s₁.heap.get? fa=some o->o.data= .func (docDef d.name d.params d.body d.scope pm cd doc)->s₁.heap.CodeRec cd d.name->mg d.name=some (.ref fa)->
   s₁.heap.get? a=some {cls:= .type "list",data:= .seq vs.toArray}->IntsAre vs ns->ns.length<=n->s₁.gens= #[] ->
   codeAny (model l.prog w) callerA (.call (.ref fa) ⟨[.ref a],[]⟩) (fun r s'=>r= .ok (.ret (.bool true))/\OldK s₁.heap s'.heap/\s'.os=s₁.os/\AllBare s'.gens) s₁):
  WalkO q loose XP YP l.row.toRowW d [] (fun f vs=>PySem.call f vs):=by
 intro w s₀ s₁ mg mb G Y fa o pm cd doc dV kV ho hd hcd hD hmg hg args vals as hpre hlay hrd hwl hlo;obtain rfl:dV= .none:=Dflts.none hD hdf;obtain rfl:kV= .none:=Dflts.noKw hD;obtain ⟨a,vs,ns,rfl,rfl,hobj,hints,hlen⟩:=zIw hn hpre hwl;refine enter_call (zPQ (call w s₀ s₁ mg mb fa o pm cd doc a vs ns G Y ho (fd_plain hd) hcd hmg hobj hints hlen hg) fun r s' hq=>?_);obtain ⟨rfl,h2,h3,h4⟩:=hq;exact ⟨.inl ⟨.bool true,.bool true,[],rfl,fun _=>rfl,.bool true,zIg l _,fun _=>⟨List.Pairwise.nil,fun _ hm=>(nomatch hm)⟩⟩,h2,h3,h4⟩
section
variable {prog:Program}{w:World}{A:Around}{E:Value->Shared->Prop}{s:Shared}{K:Frag}
end
end Att
namespace L2
open PySem PySem.Spec PyProof.Rows
theorem zFd: ∀{vs:List Value} {ns:List Int},IntsAre vs ns->zP (ns.map V.int) vs
 | _,_,.nil=> .nil
 | _,_,.cons n t h=> .cons ⟨t,rfl⟩ (zFd h)
def zKT(H:Hp):Prop:= ∀b,H b=none\/ ∃o xs,H b=some (.frz o (.lst xs))
theorem zKD{P:Program}{w:World}{K:zPS}{mg mb:Str->Option Value}{CX:CXT}{k:Nat}{fa a:Addr}{fd:FuncData}{x:Str}{sp:Sp}{s₁:Shared}{vs:List Value}{ns:List Int}
  (KX:K.In s₁.heap) (hns:s₁.heap.Ns mainGlobals mg) (hb:s₁.heap.Ns builtinsNs mb) (hbb: ∀x:Str,x≠ "__name__" ->mb x=bootBuiltins x) (hlim:s₁.heap.NoLimit) (hse:s₁.heap.NoSeer) (hg:s₁.gens= #[])
  (ha:s₁.heap.get? a=some {cls:= .type "list",data:= .seq vs.toArray}) (hi:IntsAre vs ns) (hl:ns.length<=sizeLine) (hr:Room k callerA)
  (F: ∀base:Heap,K.In base->base.Ns mainGlobals mg->FnOk P w K mg base CX k fa fd [x] sp) (hbind: ∀(s:Shared) (u:Value),BindsTo s fd ⟨[u],[]⟩ [(x,u)])
  (hsp: ∀H:Hp,zKT H->SqL K H a (ns.map V.int)->sp [.ref a] H (fun v _=>v= .bl true) fun _ _ _=>False)
  (hCX: ∀H e s',CX [] H s₁ (fun _ _ _=>False) e s'->False):
  codeAny (model P w) callerA (.call (.ref fa) ⟨[.ref a],[]⟩) (fun r s'=>r= .ok (.ret (.bool true))/\OldK s₁.heap s'.heap/\s'.os=s₁.os/\AllBare s'.gens) s₁:=by
 have rv:=zFd hi;have lenV:=hi.length;have core: ∀H:Hp,zKT H->SqL K H a (ns.map V.int)->HOk P w H s₁.heap->(∀b,H b≠none->b=a)->(H a≠none->K.lookup a=none)->
   codeAny (model P w) callerA (.call (.ref fa) ⟨[.ref a],[]⟩) (fun r s'=>r= .ok (.ret (.bool true))/\OldK s₁.heap s'.heap/\s'.os=s₁.os/\AllBare s'.gens) s₁:=by
  intro H hO hS hok hA hK;have base_of: ∀{b:Addr} {o:Obj},s₁.heap.get? b=some o->H b=none->(zCX s₁.heap H).get? b=some o:=fun e n=>zKU e n;have noA: ∀{b:Addr} {o:Obj} {es:Array DictEntry} {ep:Nat},s₁.heap.get? b=some o->o.data= .dict es ep->H b=none:=fun {b o es ep} e d=>by
   cases q:H b with
   | none=>rfl
   | some u=>
    have e':b=a:=hA b (by rw [q];simp);subst e';rw [ha] at e;cases e;have d':Data.seq vs.toArray _=Data.dict es ep:=d;cases d'
  have nsK: ∀{b:Addr} {m:Str->Option Value},s₁.heap.Ns b m->(zCX s₁.heap H).Ns b m:=fun {b m} ⟨o,es,ep,e,d,r⟩=>⟨o,es,ep,base_of e (noA e d),d,r⟩;have hKb:K.In (zCX s₁.heap H):=fun b o e=>base_of (KX b o e) (by
   cases q:H b with
   | none=>rfl
   | some u=>
    have e':b=a:=hA b (by rw [q];simp);subst e';rw [hK (by rw [q];simp)] at e;cases e)
  have hsb:(zCX s₁.heap H).NoSeer:=by
   obtain ⟨mg',bm,ob,g1,g2,g3,g4,g5⟩:=hse.main;have nb:H bm=none:=by
    cases q:H bm with
    | none=>rfl
    | some u=>
     have e':bm=a:=hA bm (by rw [q];simp);subst e';rw [ha] at g3;cases g3;have g4':Value.type "list" =Value.type "module" :=g4;exact absurd g4' (by decide)
   exact ⟨let ⟨mc,h1,h2⟩:=hse.statics;⟨mc,nsK h1,h2⟩,let ⟨mc,h1,h2⟩:=hse.mods;⟨mc,nsK h1,h2⟩,let ⟨mc,h1,h2⟩:=hse.imp;⟨mc,nsK h1,h2⟩,⟨mg',bm,ob,nsK g1,g2,base_of g3 nb,g4,g5⟩⟩
  have hM:Mod K mg (zCX s₁.heap H):=⟨hKb,nsK hns,⟨mb,nsK hb,hbb⟩,(let ⟨mc,h1,h2⟩:=hlim;⟨mc,nsK h1,h2⟩),hsb⟩;have e0:Env0 P w K mg (zCX s₁.heap H) callerA [] s₁ H:=⟨rfl,hM,fun b o e=>zLz e,Nat.le_of_eq (zIq _ _),trivial,fun b hb=>absurd (show b∈([] :List Addr) from hb) (by simp),hok,.of_eq hg⟩;refine zPQ ((F _ hKb (nsK hns)).run callerA [] s₁ H ⟨[.ref a],[]⟩ [.ref a] [.ref a] _ _ hr e0 (hbind s₁ (.ref a)) (.cons rfl .nil) (hsp H hO hS)) fun r s' h=>?_;cases r with
  | error e=>exact (hCX H e s' h).elim
  | ok fl=>
   cases fl with
   | next=>exact False.elim h
   | brk=>exact False.elim h
   | cont=>exact False.elim h
   | ret u=>
    obtain ⟨v,H',os,bare,un,hok',r',q⟩:=h;have q':v= .bl true:=q;subst q';obtain rfl:u=Value.bool true:=r';refine ⟨rfl,OldK.of_keep fun b o e=>?_,os,bare⟩;cases q:H b with
    | none=>exact un.keep b o e q (by intro z;exact absurd (show b∈([] :List Addr) from z) (by simp)) (by simp)
    | some u=>
     rcases hO b with z |⟨ob,xs,z⟩
     ·rw [q] at z;cases z
     ·have z2:=un.frzs b ob _ z;obtain ⟨e1,_⟩:=hok b _ z;obtain ⟨e2,_⟩:=hok' b _ z2;rw [e] at e1;cases e1;exact e2
 cases hk:K.lookup a with
 | some o=>
  have e:=KX a o hk;rw [ha] at e;cases e;refine core (fun _=>none) (fun _=> .inl rfl) (.inr ⟨_,vs.toArray,_,hk,rfl,rfl,rfl,by rw [zOx,lenV];exact hl,by simpa using rv⟩) (fun b u z=>by have z':(none:Option HO)=some u:=z;cases z') (fun b z=>absurd rfl z) fun z=>absurd rfl z
 | none=>
  refine core (fun b=>if b=a then some (.frz {cls:= .type "list",data:= .seq vs.toArray} (.lst (ns.map V.int))) else none) (fun b=>?_) (.inl (.inr ⟨{cls:= .type "list",data:= .seq vs.toArray},if_pos rfl⟩)) (fun b u z=>?_) (fun b z=>?_) fun _=>hk
  ·by_cases hb:b=a
   ·exact .inr ⟨_,_,if_pos hb⟩
   ·exact .inl (if_neg hb)
  ·by_cases hb:b=a
   ·have z':=(if_pos hb).symm.trans z;cases z';subst hb;exact ⟨ha,by rw [zOk];exact hl,vs,_,rv,ha⟩
   ·have z':=(if_neg hb).symm.trans z;cases z'
  ·by_cases hb:b=a
   ·exact hb
   ·exact absurd (if_neg hb) z
theorem zMG{l:PySem.W.OpenLaw}{n k:Nat}{q:Program}{loose:List Str}{XP:(Str->Option Value)->Heap->Prop}{YP:World->Heap->Prop}{d:DefRec}{K:Params->zPS}{CX:World->CXT}{sp:World->Sp}{x:Str}
  (hn:l.most=some n) (hn2:n<=sizeLine) (hdf:d.params.defaults= []) (hI:importsNone q=true) (hr:Room k callerA)
  (hY: ∀(w:World) (h:Heap),YP w h->(K w.params).In h)
  (F: ∀(w:World) (mg:Str->Option Value) (fa:Addr) (h:Heap),(K w.params).In h->h.Ns mainGlobals mg->mg d.name=some (.ref fa)->
   ∃fd:FuncData,(∀(s:Shared) (u:Value),BindsTo s fd ⟨[u],[]⟩ [(x,u)])/\
    ∀base:Heap,(K w.params).In base->base.Ns mainGlobals mg->FnOk l.prog w (K w.params) mg base (CX w) k fa fd [x] (sp w))
  (hsp: ∀(w:World) (H:Hp) (a:Addr) (ns:List Int),ns.length<=n->zKT H->SqL (K w.params) H a (ns.map V.int)->sp w [.ref a] H (fun v _=>v= .bl true) fun _ _ _=>False)
  (hCX: ∀(w:World) (H:Hp) (s:Shared) (e:Value) (s':Shared),CX w [] H s (fun _ _ _=>False) e s'->False):
  PySem.W.WalkO q loose XP YP l.row.toRowW d [] (fun f vs=>PySem.call f vs):=by
 refine Att.attach_call hn hdf fun w s₀ s₁ mg mb fa o pm cd doc a vs ns G Y ho hd hcd hmg hobj hints hlen hg=>?_;have KX:=hY w _ Y;obtain ⟨fd,hb,hF⟩:=F w mg fa _ KX G.T.g hmg;exact zKD KX G.T.g G.T.b G.T.builtins G.T.nolimit (G.T.seer hI) hg hobj hints (zOr hlen hn2) hr hF hb (fun H hO hS=>hsp w H a ns hlen hO hS) fun H e s'=>hCX w H s₁ e s'
def zy(s:Stmt)(j:Nat):Stmt:=match s with
 | .ClassDef _ _ _ body _ _ _ _ _ _ _=>body.getD j (.Pass ⟨0,0,0,0⟩)
 | _=> .Pass ⟨0,0,0,0⟩
def zBk(s:Stmt):Arguments:=match s with
 | .FunctionDef _ a _ _ _ _ _ _ _ _=>a
 | _=>{posonlyargs:= [],args:= [],vararg:=none,kwonlyargs:= [],kw_defaults:= [],kwarg:=none,defaults:= []}
def zBS(s:Stmt):List Stmt:=match s with
 | .FunctionDef _ _ b _ _ _ _ _ _ _=>b
 | _=> []
def zI(s:Stmt):Scope:=match s with
 | .FunctionDef _ _ _ _ _ _ sc _ _ _=>sc
 | _=>{kind:= .function,names:= [],isGenerator:=false,isCoroutine:=false}
abbrev CX0:CXT:=fun _ _ _ _ _ _=>False
abbrev E0:XK:=fun _ _ _=>False
theorem zL{X:Cx}:zAT CX0 X E0:=fun _ _ _ _ _ _ _ h=>h.elim
structure Fun(K:zPS)(x qual:Str)(st:Stmt)(f:Addr)(fd:FuncData):Prop where
 ex: ∃(oc:Value) (od:Option Addr) (kV doc pm:Value) (an:Option Addr) (cdv ct:Value) (osl:Array (Option Value)),
  fd=PySem.W.fnOf x qual (zBk st) (zBS st) (zI st) .none kV doc pm an cdv ct/\K.lookup f=some ⟨oc,od,.func fd,osl⟩/\PySem.W.codeIn K cdv qual=true
 kp:PySem.W.keepIn K (.ref f)=true
section
variable {P:Program}{w:World}{K:zPS}{mg:Str->Option Value}{base:Heap}
theorem Fun.ok{x qual:Str}{st:Stmt}{f:Addr}{fd:FuncData}{N ps:List Str}{k:Nat}{sp:Sp}(F:Fun K x qual st f fd)(S:FnScope N ps (zI st))(len: ∀vs H Q E,sp vs H Q E->vs.length=ps.length)
  (hbody: ∀(cdv:Value) (A:Around) (outer:List Env) (s:Shared) (H:Hp) (vs:List V) (Q:VK) (E:XK),Room k (A.deeper (envOfC qual (zI st) s.heap.objs.size f cdv))->sp vs H Q E->
   ∃t,PSs (zAx CX0 P w K mg base N qual (zI st) f cdv A outer s H E).nox (zBS st) t/\t {nx:=fun _ H'=>Q .non H',rt:=Q} (start N vs) H):FnOk P w K mg base CX0 (k+1) f fd ps sp:=by
 obtain ⟨oc,od,kV,doc,pm,an,cdv,ct,osl,rfl,lk,hcd⟩:=F.ex;refine zOD lk hcd S len fun A outer s H vs Q E hr hsp=>?_;obtain ⟨t,h,q⟩:=hbody cdv A outer s H vs Q E hr hsp;exact ⟨t,h.nox,q⟩
theorem Fun.binds{x qual:Str}{st:Stmt}{f:Addr}{fd:FuncData}{ps:List Str}(F:Fun K x qual st f fd)
  (h: ∀(kV doc pm:Value) (an:Option Addr) (cdv ct:Value) (us:List Value),us.length=ps.length->bindArgs (PySem.W.fnOf x qual (zBk st) (zBS st) (zI st) .none kV doc pm an cdv ct) ⟨us,[]⟩=pure (ps.zip us)):zO K fd ps [] :=by
 obtain ⟨oc,od,kV,doc,pm,an,cdv,ct,osl,rfl,lk,hcd⟩:=F.ex;exact .all (h kV doc pm an cdv ct)
theorem zi{x qual:Str}{st:Stmt}{f:Addr}{oc:Value}{od an:Option Addr}{osl:Array (Option Value)}{kV doc pm cdv ct:Value}(l:K.lookup f=some ⟨oc,od,.func (PySem.W.fnOf x qual (zBk st) (zBS st) (zI st) .none kV doc pm an cdv ct),osl⟩)
  (c:PySem.W.codeIn K cdv qual=true) (k:PySem.W.keepIn K (.ref f)=true):Fun K x qual st f (PySem.W.fnOf x qual (zBk st) (zBS st) (zI st) .none kV doc pm an cdv ct):=⟨⟨oc,od,kV,doc,pm,an,cdv,ct,osl,rfl,l,c⟩,k⟩
end
theorem zGA{A:Around}{k:Nat}(hr:Room k A):A.units+1<cLine:=zOu (Nat.add_le_add_left (by decide:1<=64) _) hr.units
section
variable {X:Cx}
theorem pv(i:Nat){x:Str}{pos:Pos}(hN:X.N[i]?=some x:=by rfl)(hv:Vis X.env.scope x:=by first | exact Or.inl rfl | exact Or.inr (Or.inl rfl)| exact Or.inr (Or.inr rfl))(hd:(x==("__debug__" :Str))=false:=by decide)
  (hcd:(x==("__classdict__" :Str))=false:=by decide):PE X (.Name x pos) (zp i):=zGj hN hv hd hcd
end
theorem zAW{A B:Prop}(h:B):if false=true then A else B:=by
 rw [if_neg zOq];exact h
theorem yC{A B:Prop}(h:A):if true=true then A else B:=by
 rw [if_pos rfl];exact h
theorem yl{c A B:Prop}[Decidable c](h1:c->A)(h2: ¬c->B):if c then A else B:=by
 by_cases h:c
 ·rw [if_pos h];exact h1 h
 ·rw [if_neg h];exact h2 h
def zC(H H':Hp):Prop:= ∀b o,H b=some o->H' b=some o
theorem zC.refl(H:Hp):zC H H:=fun _ _ h=>h
theorem zC.trans{H H1 H2:Hp}(a:zC H H1)(b:zC H1 H2):zC H H2:=fun c o h=>b c o (a c o h)
theorem zC.seq{K:zPS}{H H':Hp}{a:Addr}{xs:List V}(e:zC H H')(h:SqL K H a xs):SqL K H' a xs:=by
 rcases h with (h |⟨o,h⟩)| h
 ·exact .inl (.inl (e _ _ h))
 ·exact .inl (.inr ⟨o,e _ _ h⟩)
 ·exact .inr h
end L2
namespace FrM
def Sz(n:Nat)(a:Int):Prop:=a.natAbs<2^n
theorem zGs(a b:Int)(_hb:0<b):Int.gcd b (a % b)=Int.gcd a b:=by
 rw [Int.gcd_comm,Int.emod_def,Int.gcd_sub_mul_left_left]
theorem zJx(g:Int)(h:0<=g):((Int.gcd g 0:Nat):Int)=g:=by
 rw [Int.gcd_zero_right];omega
end FrM
namespace L2
open PySem PySem.Spec PyProof.Rows
structure FlyU(fs:List Addr)(H H':Hp)(h B h':Heap):Prop where
 keep: ∀b o,h.get? b=some o->H b=none->b∉fs->B.get? b=some o
 slot: ∀b o,h.get? b=some o->H b=none->b∈fs-> ∃sl,h'.get? b=some {o with slots:=sl}
 inB: ∀b o,h.get? b=some o->b∉fs-> ∃o',B.get? b=some o'
 free: ∀b o,h.get? b=some o->H b=none->H' b=none
 tups: ∀b xs,H b=some (.tup xs)->H' b=some (.tup xs)
 frzs: ∀b o u,H b=some (.frz o u)->H' b=some (.frz o u)
 tbls: ∀b ps,H b=some (.tbl ps)-> ∃more,H' b=some (.tbl (ps++more))
def Fly(P:Program)(w:World):CXT:=fun outer H s E e s'=>
 ∃(ea:Addr) (cls a0:Value) (H':Hp) (B:Heap),e= .ref ea/\s'.os=s.os/\AllBare s'.gens/\Heap.FlyingW B outer ea cls a0 s'.heap/\HOk P w H' B/\FlyU (frs outer) H H' s.heap B s'.heap/\E cls none H'
def zDj(CX:CXT)(X:Cx)(E:St->XK):Prop:= ∀(pins:List (Addr×Obj)) (σ:St) (H:Hp) (s:Shared) (e:Value) (s':Shared),Inv X pins σ H s->CX X.stack H s (E σ) e s'->X.xe e s'
section
variable {P:Program}{w:World}{K:zPS}{mg:Str->Option Value}{base:Heap}{N:List Str}{qual:Str}{scope:Scope}{f:Addr}{cd:Value}{A:Around}{outer:List Env}{s₀:Shared}{H₀:Hp}{E:XK}
theorem zKZ{env:Env}{l:List Env}{b:Addr}(h:b∈frs l):b∈frs (env::l):=by
 obtain ⟨e,he,q⟩:=List.mem_filterMap.mp h;exact List.mem_filterMap.mpr ⟨e,.tail _ he,q⟩
end
section
variable {X:Cx}{CX:CXT}{k:Nat}{f C:Addr}{fd:FuncData}{ps:List Str}{sp:Sp}{dvs:List V}{ds:List Value}{E:St->XK}{x:Str}{p pos:Pos}{e:Expr}{es:List Expr}{t:TA}
end
open FrM
theorem zHP{a:Int}{n:Nat}(h:Sz n a):Builtin.Int.intBits a<=n:=by
 unfold Builtin.Int.intBits;split
 ·exact zOs _
 ·rcases Nat.eq_zero_or_pos a.natAbs with h0 | hp
  ·have hn:0<n:=by
    cases n with
    | zero=>exact absurd (show a=0 by omega) (by rename_i q;simpa using q)
    | succ n=>exact Nat.succ_pos n
   have:a.natAbs.log2=0:=by rw [h0];rfl
   omega
  ·have:a.natAbs.log2<n:=(Nat.log2_lt (zPM hp)).mpr h;omega
section
variable {X:Cx}{pos:Pos}
def zKo:V->Value->Prop
 | .ref a,c=>c= .ref a
 | .ty n,c=>c= .type n
 | _,_=>False
theorem zKo.eq{cv:V}{c v:Value}(h:zKo cv c)(r:zj cv v):v=c:=by
 cases cv<;>first | exact h.elim |(cases (show v=_ from r);cases (show c=_ from h);rfl)
def zMw(K:zPS):List V->Hp->VK->Prop:=fun xs H Q=> ∃x cv t c b,xs= [x,cv] /\zKo cv c/\TyOf K H x t/\PySem.W.kitOne K t c=some b/\Q (.bl b) H
theorem zJb:yg X (.builtin "isinstance") (zMw X.K):=by
 intro pins s σ H xs us Q I r h;obtain ⟨x,cv,t,c,b,rfl,rc,ty,e,q⟩:=h;obtain ⟨u,v,rfl,ru,rv⟩:=zP.two r;have ec:v=c:=rc.eq rv;subst ec;exact zIp I ru ty e fun tk=>⟨.bl b,H,I.tok tk,rfl,q⟩
theorem zGX(hu:X.A.units<cLine):OpR X (compareOp .Eq) (fun x y H Q=> ∃a b xs,x= .ref a/\y= .ref b/\SqL X.K H a xs/\SqL X.K H b [] /\Q (.bl xs.isEmpty) H):=by
 intro pins s σ H x y v u Q I rx ry h;obtain ⟨a,b,xs,rfl,rfl,ha,hb,q⟩:=h;cases rx;cases ry;obtain ⟨its,r,pl,_⟩:=I.list ha;obtain ⟨its',r',pl',_⟩:=I.list hb;cases r';cases r with
 | nil=>exact SeqAt.eq_listAt (e:=fun _=>true) pl.isList pl'.isList rfl hu (fun j h1 _=>absurd h1 (by simp)) ⟨.bl true,H,I,rfl,q⟩
 | cons r1 r2=>exact SeqAt.eq_list_lengthsAt pl.isList pl'.isList (by simp) hu ⟨.bl false,H,I,rfl,q⟩
theorem zEN(hu:X.A.units<cLine):OpR X (compareOp .NotEq) (fun x y H Q=> ∃a b xs,x= .ref a/\y= .ref b/\SqL X.K H a xs/\SqL X.K H b [] /\Q (.bl (!xs.isEmpty)) H):=by
 intro pins s σ H x y v u Q I rx ry h;obtain ⟨a,b,xs,rfl,rfl,ha,hb,q⟩:=h;cases rx;cases ry;obtain ⟨its,r,pl,_⟩:=I.list ha;obtain ⟨its',r',pl',_⟩:=I.list hb;cases r';cases r with
 | nil=>exact SeqAt.RcNeAt.lists (e:=fun _=>true) pl.isList pl'.isList rfl hu (fun j h1 _=>absurd h1 (by simp)) _ _ _ _ ⟨.bl false,H,I,rfl,q⟩
 | cons r1 r2=>exact SeqAt.RcNeAt.lists_lengths pl.isList pl'.isList (by simp) hu _ _ _ _ ⟨.bl true,H,I,rfl,q⟩
theorem zCB(n:Nat):(List.range n).all (fun _=>true)=true:=by
 rw [List.all_eq_true];intro _ _;rfl
end
theorem yA{h:Heap}{b:Addr}{o:Obj}(e:h.get? b=some o): @LT.lt Nat _ b h.objs.size:=zOn e
abbrev Cx.comp(X:Cx)(scope:Scope)(cl:List (Str×Addr))(C:Addr)(N:List Str)(s₂:Shared)(H₂:Hp)(fp:List Addr):Cx:=
 {X with N:=N,s₀:=s₂,H₀:=H₂,env:=compEnvC scope cl C X.env,outer:=X.stack,ex:=fp,fn:=fun _=>false,pn:= [],xe:=fun _ _=>False}
def zX(fr:List Nat)(σ:St):St:=fr.map fun i=>(σ[i]?).getD none
end L2
namespace PySem
open PySem.Spec
section
variable {prog:Program}{w:World}{A:Around}{E:Value->Shared->Prop}{h:Heap}{g:Array GenState}{d:Drawn}{t:Nat}{os:OsState}
variable {nm q:Str}{C N:Addr}{bs bm bmB:List Value}{hdct:Bool}{sn:List Str}{sub:List Value}{ab:Bool}{col:Option Bool}{dd:Option Addr}{k0 k1 k2 k3 k5:Option Value}{B newId initId:String}
end
end PySem
namespace PySem.W
open PySem PySem.Calls PyProof.Rows Builtin Builtin.ObjectAttr Builtin.Getset_descriptor
section
variable {prog:Program}{w:World}{A:Around}{E:Value->Shared->Prop}{s:Shared}{K:Frag}{x C:Addr}{ox:Obj}{od:Option Obj}{name:Str}{R:Result->Shared->Prop}
end
end PySem.W
namespace L2
open PySem PySem.Spec PyProof.Rows
theorem zAz{X:Cx}{K:zPS}(h:X.K=K):yg X (.builtin "isinstance") (zMw K):=by
 subst h;exact zJb
theorem PE.imp{X:Cx}{e:Expr}{t t':TE}(h:PE X e t)(f: ∀σ H Q,t' σ H Q->t σ H Q):PE X e t':=fun pins s σ H Q I q=>h pins s σ H Q I (f σ H Q q)
section
variable {X:Cx}{o e value:Expr}{f:Str}{pos pos':Pos}{ta tv:TE}
end
section
variable {X:Cx}{CX:CXT}{k:Nat}{f C:Addr}{fd:FuncData}{ps:List Str}{sp:Sp}{E:XK}{x:Str}{p pos:Pos}{e:Expr}{es:List Expr}{t:TA}
end
def yM:Expr->Bool
 | .Starred ..=>false
 | _=>true
theorem zq{e:Expr}{es:List Expr}{env:Env}(h:yM e=true):starEach (e::es) env=(false,eval e env)::starEach es env:=by
 cases e<;>first | rfl | cases h
structure QE(X:Cx)(e:Expr)(t:TE):Prop where
 out:PE X e t
structure QA(X:Cx)(es:List Expr)(t:TA):Prop where
 out:PA X es t
section
variable {X:Cx}{a:Expr}{es:List Expr}{ta:TE}{t:TA}{j:Nat}{pos:Pos}
theorem qc(ha:QE X a ta)(hr:QA X es t)(h:yM a=true):QA X (a::es) (zAo ta t):=⟨zAi ha.out hr.out (zq h)⟩
theorem zD:QA X [] zCG:=⟨zBy⟩
theorem zF{i:Int}:QE X (.Constant (.int i) j pos) (tC (.int i)):=⟨zAO⟩
theorem zBO{b:Bool}:QE X (.Constant (.bool b) j pos) (tC (.bl b)):=⟨zOE⟩
theorem zIZ{x:Str}:QE X (.Constant (.str x) j pos) (tC (.str x)):=⟨zNo⟩
theorem zDq:QE X (.Constant .none j pos) (tC .non):=⟨zMR⟩
theorem zAm(h:QA X es t):QE X (.Tuple es j pos) (zNJ t):=⟨zNp h.out⟩
theorem zAB(h:QA X es t):QE X (.List es pos) (zIP t):=⟨zIy h.out⟩
theorem zBW(h:QE X a ta):QE X (.UnaryOp .USub a pos) (tUn (rU fun i=> .int (-i)) ta):=⟨zNy zMl h.out⟩
end
open FrM
structure QT(X:Cx)(e:Expr)(t:TT):Prop where
 out:PT X e t
structure QW(X:Cx)(e:Expr)(t:TT):Prop where
 out:PW X e t
structure QS(X:Cx)(st:Stmt)(t:TS):Prop where
 out:PS X st t
structure QB(X:Cx)(b:List Stmt)(t:TS):Prop where
 out:PSs X b t
structure QI(X:Cx)(tg iter:Expr)(t:TI):Prop where
 out:PI X tg iter t
structure QG(X:Cx)(tg:Expr)(t:TG):Prop where
 out:PG X tg t
structure QGs(X:Cx)(tg:List Expr)(t:TGs):Prop where
 out:PGs X tg t
def zAH:List Expr->Bool
 | [] =>true
 | e::es=>yM e&&zAH es
theorem zAY{pos:Pos}{env:Env}: ∀{es:List Expr},zAH es=true->(backTo pos (starEach es env)).any (·.1)=false
 | [],_=>rfl
 | e::es,h=>by
  have h2:yM e=true/\zAH es=true:=by simpa [zAH] using h
  rw [zq h2.1];show (false ||(backTo pos (starEach es env)).any (·.1))=false;rw [zAY h2.2];rfl
section
variable {X:Cx}{K:zPS}{a b c e o:Expr}{es rest:List Expr}{ta tb tc te to:TE}{tA tB':TT}{t:TA}{x:Str}{p pos pos' apos cpos:Pos}{j i:Nat}
def okV(X:Cx)(i:Nat)(x:Str)(k:NameKind):Bool:=X.N[i]?==some x&&(X.env.scope.names.lookup x==some k&&(!(x==("__debug__" :Str))&&!(x==("__classdict__" :Str))))
theorem zHc{k:NameKind}(h:okV X i x k=true):X.N[i]?=some x/\X.env.scope.names.lookup x=some k/\(x==("__debug__" :Str))=false/\(x==("__classdict__" :Str))=false:=by
 unfold okV at h;rw [Bool.and_eq_true,Bool.and_eq_true,Bool.and_eq_true,beq_iff_eq,beq_iff_eq,Bool.not_eq_true',Bool.not_eq_true'] at h;exact h
theorem qw(i:Nat)(h:okV X i x .local=true):QE X (.Name x pos) (zp i):=let ⟨a,b,c,d⟩:=zHc h;⟨zGj a (.inl b) c d⟩
theorem qx(i:Nat)(h:okV X i x .cell=true):QE X (.Name x pos) (zp i):=let ⟨a,b,c,d⟩:=zHc h;⟨zGj a (.inr (.inl b)) c d⟩
def okB(x:Str)(e:Expr)(es:List Expr):Bool:=!(x==("__name__" :Str))&&(!(x==("__debug__" :Str))&&(yM e&&zAH es))
theorem zHf(h:okB x e es=true):x≠ "__name__" /\(x==("__debug__" :Str))=false/\yM e=true/\zAH es=true:=by
 unfold okB at h;rw [Bool.and_eq_true,Bool.and_eq_true,Bool.and_eq_true,Bool.not_eq_true',Bool.not_eq_true',beq_eq_false_iff_ne] at h;exact h
theorem zCa{v:V}{u:Value}(hg:Gl X x)(hm:X.mg x=none)(hv:bootBuiltins x=some u)(r:zj v u)(hn:x≠ "__name__")(hd:(x==("__debug__" :Str))=false):QE X (.Name x pos) (tC v):=⟨zLQ hg hm hv r hn hd⟩
theorem zCw{op:Operator}{r:R2}(ho:OpR X (binaryOp op) r)(ha:QE X a ta)(hb:QE X b tb):QE X (.BinOp a op b pos) (yR r ta tb):=⟨zAF ho ha.out hb.out⟩
theorem yc(ha:QE X a ta)(hb:QE X b tb):QE X (.BinOp a .Add b pos) (yR (rI0 fun i j=> .int (i+j)) ta tb):=zCw zEq ha hb
theorem zCM(ha:QE X a ta)(hb:QE X b tb):QE X (.BinOp a .Sub b pos) (yR (rI0 fun i j=> .int (i - j)) ta tb):=zCw zMv ha hb
theorem zIQ(ha:QE X a ta)(hb:QE X b tb):QE X (.BinOp a .Mult b pos) (yR (rI zGT fun i j=> .int (i*j)) ta tb):=zCw zCA ha hb
theorem zBL(ha:QE X a ta)(hb:QE X b tb):QE X (.BinOp a .FloorDiv b pos) (yR (rI zKe fun i j=> .int (i/j)) ta tb):=zCw zMJ ha hb
theorem yu(ha:QE X a ta)(hb:QE X b tb):QE X (.BinOp a .Mod b pos) (yR (rI (fun _ j=>0<j) fun i j=> .int (i % j)) ta tb):=zCw zBv ha hb
theorem zAp(ha:QE X a ta)(hb:QE X b tb):QE X (.BinOp a .Add b pos) (yR zFT ta tb):=zCw zNA ha hb
theorem zOH(ha:QE X a ta):QE X (.UnaryOp .Not a pos) (zKv ta):=⟨zNq ha.out⟩
theorem zLF{op:BoolOp}(h:QE X a ta):QE X (.BoolOp op [a] pos) ta:=⟨zNd h.out⟩
theorem zHw(ha:QE X a ta)(hb:QE X (.BoolOp .And (b::rest) pos) tb):QE X (.BoolOp .And (a::b::rest) pos) (zLA ta tb):=⟨zNP ha.out hb.out⟩
theorem zEk(hc:QT X c tA)(ha:QE X a ta)(hb:QE X b tb):QE X (.IfExp c a b pos) (tIf tA ta tb):=⟨zKV hc.out ha.out hb.out⟩
theorem zFy{op:CmpOp}{r:R2}(ho:OpR X (compareOp op) r)(ha:QE X a ta)(hb:QE X b tb)(hm:behindInMarks op b=false):QE X (.Compare a [op] [b] pos) (yR r ta tb):=⟨zLu ho ha.out hb.out hm⟩
theorem zf{op:CmpOp}{r:R2}(ho:OpR X (compareOp op) r)(ha:QE X a ta)(hb:QE X b tb)(hm:behindInMarks op b=false):QT X (.Compare a [op] [b] pos) (zBi (yR r ta tb)):=⟨zEz ho ha.out hb.out hm⟩
theorem zJA(ha:QE X a ta)(h:behindInMarks .IsNot (.Constant .none j pos')=false):QT X (.Compare a [.IsNot] [.Constant .none j pos'] pos) (tB (zKz ta)):=⟨zNF (zLc ha.out) h⟩
theorem zHL{op op':CmpOp}{r r':R2}(ho:OpR X (compareOp op) r)(ho':OpR X (compareOp op') r')(ha:QE X a ta)(hb:QE X b tb)(hc:QE X c tc)(hm:lastMarks [op,op'] [b,c] =false):QT X (.Compare a [op,op'] [b,c] pos) (zBi (zGF r r' ta tb tc)):=⟨zJp ho ho' ha.out hb.out hc.out hm⟩
theorem zBZ(h:QE X e te)(he: ∀whole,isTrue e X.env whole=(do let v<-whole;standAt e.pos;holding [v] (truthy v))):QT X e (tB te):=⟨zNa h.out he⟩
theorem zBG(h:QT X a tA):QT X (.UnaryOp .Not a pos) (zKS tA):=⟨zMm h.out⟩
theorem zDM(h:QT X a tA):QW X (.BoolOp .And [a] pos) tA:=⟨zMI h.out⟩
theorem zCy(h:QT X a tA):QW X (.BoolOp .Or [a] pos) tA:=⟨zMy h.out⟩
theorem zDm(ha:QT X a tA)(hb:QW X (.BoolOp .And (b::rest) pos) tB'):QW X (.BoolOp .And (a::b::rest) pos) (zNh tA tB'):=⟨zNk ha.out hb.out⟩
theorem zCU(ha:QT X a tA)(hb:QW X (.BoolOp .Or (b::rest) pos) tB'):QW X (.BoolOp .Or (a::b::rest) pos) (tOr tA tB'):=⟨zOL ha.out hb.out⟩
theorem t_w(h:QW X e tA):QT X e tA:=⟨h.out.pt⟩
theorem zk(hK:X.K=K)(ha:QE X a ta)(hb:QE X b tb)(hs:zFN b):QE X (.Subscript a b pos) (yR (zCp K) ta tb):=by
 subst hK;exact ⟨zIO zHG ha.out hb.out hs⟩
theorem yV(hK:X.K=K)(ha:QE X a ta)(hb:QE X b tb)(hs:zFN b):QE X (.Subscript a b pos) (yR (zNm K) ta tb):=by
 subst hK;exact ⟨zIO zNG ha.out hb.out hs⟩
section
variable {CX:CXT}{k:Nat}{f C:Addr}{fd:FuncData}{ps:List Str}{sp:Sp}{dvs:List V}{ds:List Value}{E:XK}{ES:St->XK}{id T:String}{r:List V->Hp->VK->Prop}
theorem zK(F:FnOk X.prog X.w X.K X.mg X.base CX k f fd ps sp)(hr:Room k X.A)(hg:Gl X x)(hm:X.mg x=some (.ref f))(hk:PySem.W.keepIn X.K (.ref f)=true)(hb:zO X.K fd ps ds)(hd:zP dvs ds)(hx:zAT CX X E)
  (ha:QA X (e::es) t) (h1:(x==("__debug__" :Str))=false) (h2:yM e=true) (h3:zAH es=true):QE X (.Call (.Name x p) (e::es) [] pos) (zII sp dvs E t):=⟨zFS F hr hg hm hk hb hd hx ha.out h1 (zq h2) (zAY h3)⟩
theorem zLq(hc:yg X (.builtin id) r)(hg:Gl X x)(hm:X.mg x=none)(hv:bootBuiltins x=some (.builtin id))(ha:QA X (e::es) t)(h0:x≠ "__name__")(h1:(x==("__debug__" :Str))=false)(h2:yM e=true)(h3:zAH es=true):
  QE X (.Call (.Name x p) (e::es) [] pos) (tCB r t):=⟨zGu hc hg hm hv ha.out h0 h1 (zq h2) (zAY h3)⟩
theorem zJf(hc:yg X (.type T) r)(hg:Gl X x)(hm:X.mg x=none)(hv:bootBuiltins x=some (.type T))(ha:QA X (e::es) t)(h0:x≠ "__name__")(h1:(x==("__debug__" :Str))=false)(h2:yM e=true)(h3:zAH es=true):
  QE X (.Call (.Name x p) (e::es) [] pos) (tCB r t):=⟨zJQ hc hg hm hv ha.out h0 h1 (zq h2) (zAY h3)⟩
theorem yP(hc:yg X (.builtin id) r)(hg:Gl X x)(hm:X.mg x=none)(hv:bootBuiltins x=some (.builtin id))(ha:QA X (e::es) t)(h:okB x e es=true):QE X (.Call (.Name x p) (e::es) [] pos) (tCB r t):=let ⟨a,b,c,d⟩:=zHf h;zLq hc hg hm hv ha a b c d
theorem zEJ(hc:yg X (.type T) r)(hg:Gl X x)(hm:X.mg x=none)(hv:bootBuiltins x=some (.type T))(ha:QA X (e::es) t)(h:okB x e es=true):QE X (.Call (.Name x p) (e::es) [] pos) (tCB r t):=let ⟨a,b,c,d⟩:=zHf h;zJf hc hg hm hv ha a b c d
end
theorem yK(hK:X.K=K):yg X (.builtin "len") (fun xs H Q=> ∃p ys,xs= [.ref p] /\(SqL K H p ys\/SqT K H p ys)/\Q (.int ys.length) H):=by
 subst hK;exact zDb
theorem zCs(hK:X.K=K)(ho:QE X o to)(ha:QE X e te)(hb:attributeBase o "append" X.env (eval o X.env)=eval o X.env)(h2:yM e=true)(hl:(apos.endLine==cpos.line)=true):
  QE X (.Call (.Attribute o "append" apos) [e] [] cpos) (tBM K "list" zHH to (zAo te zCG)):=by
 subst hK;exact ⟨zLB PySem.F.plainAttrs_list PySem.F.slot_list_append PySem.F.type_list_append zBb ho.out (zAi ha.out zBy (zq h2)) hb (by rw [zq h2];rfl) hl (zq h2) rfl⟩
theorem zIG{t':TE}(h:QE X e te)(f: ∀σ H Q,t' σ H Q->te σ H Q):QE X e t':=⟨PE.imp h.out f⟩
section
variable {st:Stmt}{sts b1 b2:List Stmt}{u v:TS}{g:TG}{gs:TGs}{wi:TI}{tg iter:Expr}
theorem yS:QB X [] zLM:=⟨zHM⟩
theorem zJ(h:QS X st u):QB X [st] u:=⟨zBp h.out⟩
theorem zE(h:QS X st u)(h2:QB X sts v):QB X (st::sts) (zNU u v):=⟨zAa h.out h2.out⟩
theorem zZ(h:QE X e te):QS X (.Return (some e) pos) (zNQ te):=⟨zDQ h.out⟩
theorem zBe(h:QE X e te)(hs:swapsWith e none pos.line X.env=pure false):QS X (.Expr e pos) (zLP te):=⟨zLo h.out hs⟩
theorem yW(hc:QT X c tA)(ha:QB X b1 u)(hb:QB X b2 v):QS X (.If c b1 b2 pos) (zNB tA u v):=⟨zLH hc.out ha.out hb.out⟩
theorem yY(i:Nat)(hN:X.N.Nodup)(hi:X.N[i]?=some x)(hx:Loc X.env.scope x)(he:QE X e te)(hs:swapsWith e (some (.Name x pos')) pos.line X.env=pure false)(hf:X.fn x=true\/X.env.scope.names.lookup x=some .local):
  QS X (.Assign [.Name x pos'] e pos) (zDA te (yH i)):=⟨zBz hN hi hx he.out hs hf⟩
theorem zV(i:Nat)(hN:X.N.Nodup)(h:(X.N[i]?==some x&&X.env.scope.names.lookup x==some .local)=true)(he:QE X e te)(hs:swapsWith e (some (.Name x pos')) pos.line X.env=pure false):QS X (.Assign [.Name x pos'] e pos) (zDA te (yH i)):=by
 rw [Bool.and_eq_true,beq_iff_eq,beq_iff_eq] at h;exact yY i hN h.1 (.inl h.2) he hs (.inr h.2)
theorem zKy(he:QE X e te)(hg:QG X tg g)(hs:swapsWithSole [tg] e pos.line X.env=pure false)(hw:swappedStores [tg] e X.env=pure none)(h1:(assignEach [tg] X.env).map (·.2)= [assign tg X.env]):QS X (.Assign [tg] e pos) (zDA te g):=⟨zMd he.out hg.out hs hw h1⟩
theorem zH(i:Nat)(hN:X.N.Nodup)(hi:X.N[i]?=some x)(hx:Loc X.env.scope x)(hf:X.fn x=true\/X.env.scope.names.lookup x=some .local):QG X (.Name x pos) (yH i):=⟨zLt hN hi hx hf⟩
theorem zAs:QGs X [] zMi:=⟨zLY⟩
theorem yJ(h1:QG X e g)(h2:QGs X es gs)(hs:(assignEach (e::es) X.env).map (·.2)=assign e X.env::(assignEach es X.env).map (·.2)):QGs X (e::es) (zKs g gs):=⟨zKa h1.out h2.out hs⟩
theorem zAt{n:Nat}(hK:X.K=K)(hc:X.calm=true)(h:QGs X es gs)(hn:(assignEach es X.env).length=n)(hst:(assignEach es X.env).findIdx? (·.1)=none):QG X (.Tuple es j pos) (zMb K n gs):=by
 subst hK;exact ⟨zNM hc h.out hn hst⟩
theorem zHN(hp:PassesOwn (model X.prog X.w) X.A X.env X.xe)(hc:QT X c tA)(hb:QB X b1 u):QS X (.While c b1 [] pos) (zGy tA u):=⟨zGD hp hc.out hb.out⟩
theorem zm(hK:X.K=K)(h:QE X e te):QI X tg e (zHx K te):=by
 subst hK;exact ⟨zLv h.out⟩
theorem yj(hg:Gl X "range")(hm:X.mg "range" =none)(h:QA X [a] t)(h2:yM a=true):QI X tg (.Call (.Name "range" p) [a] [] pos) (zLL t):=⟨zIf hg hm h.out (by rw [zq h2];rfl)⟩
theorem zOI(hp:PassesOwn (model X.prog X.w) X.A X.env X.xe)(hc:X.calm=true)(hi:QI X tg iter wi)(hg:QG X tg g)(hb:QB X b1 u)(hs: ∀x,foldedSetIterable iter X.env x=pure x):QS X (.For tg iter b1 [] pos) (zMY wi g u):=⟨zMf hp hc hi.out hg.out hb.out hs⟩
end
end
abbrev zBA(ifs:List Expr)(env:Env):Sem Bool:=forIn ifs true fun c r=>if r=true then do let ok<-isTrue c env (eval c env);pure (ForInStep.yield ok) else pure (ForInStep.yield r)
theorem yO{P:Program}{w:World}{A:Around}{env:Env}{E:Value->Shared->Prop}{α:Type}{t:Sem α}{Q:α->Shared->Prop}{s:Shared}(h:wpAny (model P w) A t Q (fun _ _=>False) s):wpAny (model P w) A t Q (notedBy (model P w) A env E) s:=zOy h (fun _ _ z=>z) fun _ _ z=>z.elim
theorem zEb{P:Program}{w:World}{A:Around}{R:Result->Shared->Prop}{s:Shared}{elt target iter:Expr}{ifs:List Expr}{scope:Scope}{pos:Pos}{it acc:Value}{env:Env}(J:Nat->Shared->Prop)
  (turn: ∀n s,J n s->wpAny (model P w) A (pyNext it) (fun r s1=>match r with
   | none=>R (.ok .next) s1
   | some v=>wpAny (model P w) A (letOwnedTupleGo target it v) (fun _ s1'=>wpAny (model P w) A (assign target env v) (fun _ s2=>wpAny (model P w) A (zBA ifs env) (fun ok s3=>
     if ok=true then wpAny (model P w) A (eval elt env) (fun x s4=>wpAny (model P w) A (call (.builtin "list.append") [acc,x]) (fun _ s5=> ∃m,m<n/\J m s5) (fun _ _=>False) s4) (fun _ _=>False) s3
     else∃m,m<n/\J m s3) (fun _ _=>False) s2) (fun _ _=>False) s1') (fun _ _=>False) s1) (fun _ _=>False) s)
  (n:Nat) (h:J n s):codeAny (model P w) A (.compLoop (.ListComp elt [⟨target,iter,ifs,0⟩] scope pos) 0 it acc env) R s:=by
 refine codeAny_loop rfl J (fun n s hJ=>?_) n h;show wpAny _ A ((compTurn (.ListComp elt [⟨target,iter,ifs,0⟩] scope pos) 0 it acc env).onRaise _) _ _ s;refine wpAny_noted ?_;rw [compTurn_list];refine zOe (wpAny_standAt (zOe (zOy (yO (turn n s hJ)) (fun r s1 h1=>?_) fun _ _ z=>z)));cases r with
 | none=>exact zOj h1
 | some v=>
  refine zOe (zOy (yO h1) (fun _ s2 h3=>zOe (zOy (yO h3) (fun _ s3 h4=>zOe (zOy (yO h4) (fun ok s4 h5=>?_) fun _ _ z=>z)) fun _ _ z=>z)) fun _ _ z=>z);cases ok with
  | false=>exact zOj ⟨rfl,h5⟩
  | true=>exact zOe (zOe (zOy (yO h5) (fun x s5 h6=>zOe (zOy (yO h6) (fun _ s6 h7=>zOj (zOj ⟨rfl,h7⟩)) fun _ _ z=>z)) fun _ _ z=>z))
def PTs(X:Cx)(ifs:List Expr)(t:TT):Prop:=(ifs= [] /\t=fun _ H Q=>Q true H)\/ ∃c,ifs= [c] /\PT X c t
def zCI(wi:TI)(g:TG)(tt:TT)(te:TE)(n:Nat)(fr:List Nat):TE:=fun σ H Q=>wi σ H fun J H1=> ∀D,H1 D=none-> ∃W:Nat->Nat->List V->Hp->Prop,(∃m,W 0 m [] (upd H1 D (.lst [])))/\ ∀i m ys H,W i m ys H->
 H D=some (.lst ys)/\((J.stop i H/\Q (.ref D) H)\/(J.go i H/\ys.length<sizeLine/\ ∃N:List V->Hp->Prop,(∀ys' H',N ys' H'-> ∃m',m'<m/\W (i+1) m' ys' H')/\
  ∀x H',J.yld i H x H'-> ∀pre:St,pre.length=n->g x (pre++zX fr σ) H' fun σ2 H2=>(∃zn:St,zn.length=n/\σ2=zn++zX fr σ)/\
   tt σ2 H2 fun b H3=>if b=true then te σ2 H3 fun y H4=>H4 D=some (.lst ys)/\N (ys++ [y]) (upd H4 D (.lst (ys++ [y]))) else N ys H3))
theorem zKr{X:Cx}{elt iter tg:Expr}{ifs:List Expr}{zs:List Str}{pos:Pos}{scope:Scope}{cl:List (Str×Addr)}{ys:List Str}{fr:List Nat}{wi:TI}{g:TG}{tt:TT}{te:TE}(hcm:X.calm=true)
  (hi:PI X tg iter wi) (hclos:closureFor scope X.env=pure cl) (hcell: ∀y∈scope.names,y.2≠ .cell) (hkind:scope.kind= .function) (hnames: ∀y∈scope.names,y.2= .local->scope.names.lookup y.1=some .local)
  (hcl: ∀y a,cl.lookup y=some a->X.env.cells.lookup y=some a)
  (hlen:ys.length=fr.length) (hfr: ∀(j:Nat) y i,ys[j]?=some y->fr[j]?=some i->X.N[i]?=some y/\X.env.kindOf y=some .cell/\(relabel scope X.env).names.lookup y=some .cell/\ ∃a,cl.lookup y=some a/\X.env.cells.lookup y=some a)
  (hhas: ∀y,((relabel scope X.env).names.lookup y=some .cell\/(relabel scope X.env).names.lookup y=some .free)-> ∃a,cl.lookup y=some a)
  (hg: ∀C s₂ H₂ fp,PG (X.comp scope cl C (zs++ys) s₂ H₂ fp) tg g) (hc: ∀C s₂ H₂ fp,PTs (X.comp scope cl C (zs++ys) s₂ H₂ fp) ifs tt) (he: ∀C s₂ H₂ fp,PE (X.comp scope cl C (zs++ys) s₂ H₂ fp) elt te) (hs: ∀v,foldedSetIterable iter X.env v=pure v:=by intro _;rfl):
  PE X (.ListComp elt [⟨tg,iter,ifs,0⟩] scope pos) (zCI wi g tt te zs.length fr):=by
 intro pins s σ H Q I h;rw [eval_ListComp];refine wpAny_comprehension_free (use:=none) rfl hs hclos hkind hnames (zW (hi pins s σ H _ I h) fun v s1 h1=>zW h1 fun itv s2 h2=>?_);obtain ⟨it,fp,tn,J,H2,e,I2,T,st2,f2,h2⟩:=h2;subst e;have hD:H2 s2.heap.objs.size=none:=I2.hok.fresh (zOh _);obtain ⟨W,⟨m0,w0⟩,turn⟩:=h2 s2.heap.objs.size hD;refine wpAny_newObj_type (wpAny_newFunctionEnv hcell (by intro y hy;simp at hy) (fun h₁ hns₁ hsb₁=>?_) hkind);dsimp only at hns₁ hsb₁⊢;generalize hH3:s2.heap.push {cls:= .type "list",dict:=none,data:= .seq ([] :List Value).toArray}=H3 at hns₁ hsb₁⊢;have hCs:H3.objs.size=s2.heap.objs.size+1:=by rw [<-hH3,Heap.size_push]
 have old: ∀b o,s2.heap.get? b=some o->h₁.get? b=some o:=fun b o e=>
  hsb₁.extBut b o (zOl (by have:=yA e;omega)) (zOf _ (hH3▸zOf _ e))
 have hacc:h₁.get? s2.heap.objs.size=some {cls:= .type "list",dict:=none,data:= .seq ([] :List Value).toArray}:=
  hsb₁.extBut _ _ (zOl (by omega)) (zOf _ (hH3▸zOw _ rfl))
 have fplt: ∀b∈fp,@LT.lt Nat _ b s2.heap.objs.size:=fun b hb=>by
  obtain ⟨o,e,_⟩:=T.obj _ _ st2 b hb;exact yA e
 have okC:(X.comp scope cl H3.objs.size (zs++ys) s2 H2 fp).Ok:=by
  refine ⟨I2.ok.mod,hkind,I2.ok.glob,I2.ok.blt,?_,fun y z a h1 h2=>I2.ok.inj y z a (hcl y a h1) (hcl z a h2),fun y hy=>hhas y hy,fun y a z _=>(nomatch z),I2.ok.hd,I2.ok.frames,.inl rfl,fun b hb=>⟨?_,fun y a e z=>?_⟩,I2.bs,zOr I2.ok.bsz I2.sz,fun b o e hb=>?_,fun b hb z=>?_,I2.stack,I2.stkFree⟩
  ·show s2.heap.objs.size<=H3.objs.size;omega
  ·show b≠H3.objs.size;have:=fplt b hb;exact zOl (by omega)
  ·exact (f2 b hb).2.2.2.2.1 y a (hcl y a e) z
  ·rcases (f2 b hb).2.2.2.1 with z | z
   ·exact I2.ok.noex b o e z
   ·have z': @LE.le Nat _ X.s₀.heap.objs.size b:=z;have: @LT.lt Nat _ b X.base.objs.size:=yA e;have:=I2.ok.bsz;omega
  ·rcases List.mem_cons.mp (I2.stkSub b z) with y | y
   ·exact (f2 b hb).2.1 y
   ·exact (f2 b hb).2.2.1 y
 have fpok: ∀{H':Hp},(∀b∈fp,H' b=none)-> ∀b∈fp,zAy (X.comp scope cl H3.objs.size (zs++ys) s2 H2 fp) [] H' b:=fun hn b hb=>
  ⟨hn b hb,(okC.exf b hb).1,okC.exfs b hb,.inl hb,(okC.exf b hb).2,fun p hp=>absurd hp (by simp)⟩
 have cellC: ∀y a,cl.lookup y=some a-> ∃v,s2.heap.IsCell a v:=fun y a e=>I2.cell y a (hcl y a e);have start:Inv (X.comp scope cl H3.objs.size (zs++ys) s2 H2 fp) [] (List.replicate zs.length none++zX fr σ) (upd H2 s2.heap.objs.size (.lst [])) {s2 with heap:=h₁,toks:=s2.toks+([] :List (Str×Value)).length}:=by
  refine ⟨okC,rfl,I2.bare,Un.laid old (zOh _) hD,⟨_,hns₁,fun j y v e1 e2 e3=>?_⟩,fun y a e=>?_,?_,fun y a e=>?_,fun p hp=>absurd hp (by simp),I2.hok.laid old (zOh _) ⟨zOs _,[],_,.nil,hacc⟩,?_⟩
  ·by_cases hj:j<zs.length
   ·rw [List.getElem?_append_left (by simpa using hj),List.getElem?_replicate] at e2;rw [if_pos hj] at e2;cases e2
   ·obtain ⟨j,rfl⟩: ∃k,j=zs.length+k:=⟨j - zs.length,by omega⟩;have e1':ys[j]?=some y:=by
     have z:=e1;simp only [Cx.comp] at z;rw [List.getElem?_append_right (by omega)] at z;simpa using z
    have e2':(zX fr σ)[j]?=some (some v):=by
     rw [List.getElem?_append_right (by simp)] at e2;simpa using e2
    unfold zX at e2';rw [zOi] at e2';cases q:fr[j]? with
    | none=>rw [q] at e2';cases e2'
    | some i=>
     rw [q] at e2';have e4:(σ[i]?).getD none=some v:=Option.some.inj e2';have e5:σ[i]?=some (some v):=by
      cases q2:σ[i]? with
      | none=>rw [q2] at e4;cases e4
      | some z=>rw [q2] at e4;exact congrArg some e4
     obtain ⟨hN,hk,hl,a,ha,ha'⟩:=hfr j y i e1' q;obtain ⟨m,_,hl2⟩:=I2.loc;obtain ⟨u,r,l⟩:=hl2 i y v hN e5 (.inr (.inl hk));refine ⟨u,r,.inr ⟨.inl hl,a,ha,?_⟩⟩;rcases l with ⟨k,_⟩|⟨_,a2,ea,z⟩
     ·rw [hk] at k;cases k
     ·rw [ha'] at ea;cases ea;obtain ⟨o,ho,hd⟩:=z;exact ⟨o,old _ _ ho,hd⟩
  ·obtain ⟨v,o,ho,hd⟩:=cellC y a e;exact ⟨v,o,old _ _ ho,hd⟩
  ·show upd H2 s2.heap.objs.size (.lst []) H3.objs.size=none;rw [zG (by first | exact zOl (by omega)| exact zPM (by omega))];exact I2.hok.fresh (by omega)
  ·obtain ⟨v,o,ho,hd⟩:=cellC y a e;have:=yA ho;rw [zG (by first | exact zOl (by omega)| exact zPM (by omega))];exact I2.freeC y a (hcl y a e)
  ·show (List.replicate zs.length none++zX fr σ).length=(zs++ys).length;unfold zX;simp [hlen]
 have loop: ∀s₃:Shared,s₃={s2 with heap:=h₁,toks:=s2.toks+([] :List (Str×Value)).length}->
   codeAny (model X.prog X.w) X.A (.compLoop (.ListComp elt [⟨tg,iter,ifs,0⟩] scope pos) 0 (.ref it) (.ref s2.heap.objs.size) (compEnvC scope cl H3.objs.size X.env)) (compPost (model X.prog X.w) X.A X.xe none (EP X pins σ Q) (.ref s2.heap.objs.size) H3.objs.size) s₃:=by
  rintro s₃ rfl;refine zEb (fun n s'=> ∃i pre ys' H',pre.length=zs.length/\Inv (X.comp scope cl H3.objs.size (zs++ys) s2 H2 fp) [] (pre++zX fr σ) H' s'/\tn i s'.heap/\(∀b∈fp,H' b=none)/\W i n ys' H') ?_ m0
   ⟨0,List.replicate zs.length none,[],_,by simp,start,T.keep _ _ _ st2 fun b hb o e=>old b o e,fun b hb=>by
    have:=fplt b hb;rw [zG (by first | exact zOl (by omega)| exact zPM (by omega))];exact (f2 b hb).1,w0⟩
  rintro n s3 ⟨i,pre,ys3,H',hpl,I3,st3,fr3,w3⟩;obtain ⟨hl3,alt⟩:=turn i n ys3 H' w3;rcases alt with ⟨stop,qn⟩|⟨go,hz,N,hN,step⟩
  ·refine zOy (T.done (X.comp scope cl H3.objs.size (zs++ys) s2 H2 fp) rfl rfl rfl hcm i [] s3 _ H' (fun _ _=>False) I3 (fpok fr3) st3 stop) (fun r s4 h4=>?_) fun _ _ z=>z.elim;obtain ⟨hr,I4⟩:=h4;subst hr;obtain ⟨m4,hn4,_⟩:=id I4.loc;refine ⟨m4,hn4,fun h'' hs''=>?_⟩;have hb: ∀b o,b≠H3.objs.size->s4.heap.get? b=some o->h''.get? b=some o:=fun b o hb e=>(hs''.2 b hb).trans e;have I5:Inv X pins σ H' {s4 with heap:=h''}:=by
    refine I2.call' (s':={s4 with heap:=h''}) (ch:=fp) I4.os ⟨fun b o e n hb' hx'=>?_,fun b o e n hb' hx'=>?_,fun b o e n hx'=>I4.base.free b o e n hx',fun b o e hx'=>?_,I4.base.tups,I4.base.frzs,I4.base.tbls⟩ (fun b u e=>?_) I4.bare fun b hb'=>⟨(f2 b hb').2.2.2.1,(f2 b hb').2.1,(f2 b hb').2.2.2.2.1,(f2 b hb').2.2.2.2.2⟩
    ·exact hb b o (zOl (by have:=yA e;omega)) (I4.base.keep b o e n hb' hx')
    ·obtain ⟨sl,q⟩:=I4.base.slot b o e n hb' hx';exact ⟨sl,hb b _ (zOl (by have:=yA e;omega)) q⟩
    ·obtain ⟨o',q⟩:=I4.base.there b o e hx';exact ⟨o',hb b _ (zOl (by have:=yA e;omega)) q⟩
    ·refine (I4.hok b u e).stay (fun c' w' hc' q=>hb c' w' ?_ q) (fun _ q=>q) fun _ _ q=>q;intro z;have fz:H' H3.objs.size=none:=I4.free;rcases hc' with y | y
     ·rw [<-y,z,fz] at e;cases e
     ·rw [z,fz] at y;cases y
   exact ⟨.ref s2.heap.objs.size,H',I5,rfl,qn⟩
  ·refine zOy (T.item (X.comp scope cl H3.objs.size (zs++ys) s2 H2 fp) rfl rfl rfl hcm i [] s3 _ H' (fun _ _=>False) I3 (fpok fr3) st3 go) (fun r s4 h4=>?_) fun _ _ z=>z.elim;obtain ⟨u,hr,h4⟩:=h4;subst hr;dsimp only;have asg:wpAny (model X.prog X.w) X.A (letOwnedTupleGo tg (.ref it) u) (fun _ s5=>wpAny (model X.prog X.w) X.A (assign tg (compEnvC scope cl H3.objs.size X.env) u)
     (fun _ s6=> ∃σ5 H6,(∃pn5,Inv (X.comp scope cl H3.objs.size (zs++ys) s2 H2 fp) pn5 σ5 H6 s6/\(∀b∈fp,∃o,(b,o)∈pn5))/\((∃zn:St,zn.length=zs.length/\σ5=zn++zX fr σ)/\
      tt σ5 H6 fun b H3'=>if b=true then te σ5 H3' fun y H4=>H4 s2.heap.objs.size=some (.lst ys3)/\N (ys3++ [y]) (upd H4 s2.heap.objs.size (.lst (ys3++ [y]))) else N ys3 H3')/\tn (i+1) s6.heap/\ ∀b∈fp,H6 b=none) (fun _ _=>False) s5) (fun _ _=>False) s4:=by
    refine (zW h4 fun _ s5 ⟨x5,H5,I5,r5,y5,st5,fr5⟩=>?_);have I5':=I5.pinned (fpok fr5) (T.obj _ _ st5);refine zOy (hg _ _ _ _ _ s5 _ H5 x5 u _ I5' r5 (step x5 H5 y5 pre hpl)) (fun _ s6 ⟨σ6,H6,I6,q6⟩=>?_) fun _ _ z=>z.elim;exact ⟨σ6,H6,⟨_,I6,fun b hb=>by
     obtain ⟨o,e,_⟩:=T.obj _ _ st5 b hb;exact ⟨o,zOt _ (yI hb e)⟩⟩,q6,T.keep _ _ _ st5 fun b hb o e=>(I6.pin (b,o) (zOt _ (zOt _ (yI hb e)))).1,fun b hb=>by
     obtain ⟨o,e,_⟩:=T.obj _ _ st5 b hb;exact (I6.pin (b,o) (zOt _ (zOt _ (yI hb e)))).2.1⟩
   refine zOy asg (fun _ s5 h5=>zOy h5 (fun _ s6 h6=>?_) fun _ _ z=>z.elim) fun _ _ z=>z.elim;obtain ⟨σ5,H5,⟨pn5,I6,hp6⟩,⟨⟨zn,hl2,rfl⟩,q6⟩,st6,fr5⟩:=h6;have keepTurn: ∀{σ7:St} {H7:Hp} {s7:Shared},Inv (X.comp scope cl H3.objs.size (zs++ys) s2 H2 fp) pn5 σ7 H7 s7->tn (i+1) s7.heap/\ ∀b∈fp,H7 b=none:=fun {σ7 H7 s7} I7=>by
    refine ⟨T.keep _ _ _ st6 fun b hb o e=>?_,fun b hb=>?_⟩
    ·obtain ⟨o',hm⟩:=hp6 b hb;have a1:=(I6.pin (b,o') (zOt _ hm)).1;rw [e] at a1;cases a1;exact (I7.pin (b,_) (zOt _ hm)).1
    ·obtain ⟨o',hm⟩:=hp6 b hb;exact (I7.pin (b,o') (zOt _ hm)).2.1
   have drop: ∀{σ7:St} {H7:Hp} {s7:Shared},Inv (X.comp scope cl H3.objs.size (zs++ys) s2 H2 fp) pn5 σ7 H7 s7->Inv (X.comp scope cl H3.objs.size (zs++ys) s2 H2 fp) [] σ7 H7 s7:=fun I7=>I7.pins_of fun p hp=>absurd hp (by simp);have tests:wpAny (model X.prog X.w) X.A (zBA ifs (compEnvC scope cl H3.objs.size X.env)) (fun b s7=> ∃H7,Inv (X.comp scope cl H3.objs.size (zs++ys) s2 H2 fp) pn5 (zn++zX fr σ) H7 s7/\
     (if b=true then te (zn++zX fr σ) H7 fun y H4=>H4 s2.heap.objs.size=some (.lst ys3)/\N (ys3++ [y]) (upd H4 s2.heap.objs.size (.lst (ys3++ [y]))) else N ys3 H7)) (fun _ _=>False) s6:=by
    rcases hc H3.objs.size s2 H2 fp with ⟨rfl,rfl⟩|⟨c,rfl,hc2⟩
    ·exact wpAny_tests_nil ⟨H5,I6,q6⟩
    ·exact wpAny_tests_one (zOy (hc2 pn5 s6 _ H5 _ I6 q6) (fun b s7 ⟨H7,I7,q7⟩=>⟨H7,I7,q7⟩) fun _ _ z=>z.elim)
   refine zOy tests (fun b s7 h7=>?_) fun _ _ z=>z.elim;obtain ⟨H7,I7,q7⟩:=h7;cases b with
   | false=>
    obtain ⟨m',hm,w'⟩:=hN _ _ q7;obtain ⟨k1,k2⟩:=keepTurn I7;exact ⟨m',hm,i+1,zn,ys3,H7,hl2,drop I7,k1,k2,w'⟩
   | true=>
    refine zOy (he _ _ _ _ pn5 s7 _ H7 _ I7 q7) (fun y s8 h8=>?_) fun _ _ z=>z.elim;obtain ⟨yv,H8,I8,r8,hl8,n8⟩:=h8;refine zOy (zBb (X:=X.comp scope cl H3.objs.size (zs++ys) s2 H2 fp) pn5 s8 _ H8 (.ref s2.heap.objs.size) [yv] (.ref s2.heap.objs.size) [y] (fun z H9=>N (ys3++ [yv]) H9) I8 rfl (.cons r8 .nil) ⟨s2.heap.objs.size,ys3,yv,rfl,rfl,hl8,hz,n8⟩) (fun _ s9 h9=>?_) fun _ _ z=>z.elim;obtain ⟨_,H9,I9,_,n9⟩:=h9;obtain ⟨m',hm,w'⟩:=hN _ _ n9;obtain ⟨k1,k2⟩:=keepTurn I9;exact ⟨m',hm,i+1,zn,ys3++ [yv],H9,hl2,drop I9,k1,k2,w'⟩
 exact codeAny_compStart_list (loop _ rfl) (T.self X.A 0 _ _ _ (T.keep _ _ _ st2 fun b hb o e=>old b o e) (loop _ rfl))
structure QTs(X:Cx)(ifs:List Expr)(t:TT):Prop where
 out:PTs X ifs t
theorem zc{X:Cx}:QTs X [] (fun _ H Q=>Q true H):=⟨.inl ⟨rfl,rfl⟩⟩
theorem zCD{X:Cx}{c:Expr}{t:TT}(h:QT X c t):QTs X [c] t:=⟨.inr ⟨c,rfl,h.out⟩⟩
theorem zLe{X:Cx}{elt iter tg:Expr}{ifs:List Expr}(zs:List Str){pos:Pos}{scope:Scope}{cl:List (Str×Addr)}(ys:List Str)(fr:List Nat){wi:TI}{g:TG}{tt:TT}{te:TE}(hcm:X.calm=true)
  (hi:QI X tg iter wi) (hclos:closureFor scope X.env=pure cl) (hcell: ∀y∈scope.names,y.2≠ .cell) (hkind:scope.kind= .function) (hnames: ∀y∈scope.names,y.2= .local->scope.names.lookup y.1=some .local)
  (hcl: ∀y a,cl.lookup y=some a->X.env.cells.lookup y=some a)
  (hlen:ys.length=fr.length) (hfr: ∀(j:Nat) y i,ys[j]?=some y->fr[j]?=some i->X.N[i]?=some y/\X.env.kindOf y=some .cell/\(relabel scope X.env).names.lookup y=some .cell/\ ∃a,cl.lookup y=some a/\X.env.cells.lookup y=some a)
  (hhas: ∀y,((relabel scope X.env).names.lookup y=some .cell\/(relabel scope X.env).names.lookup y=some .free)-> ∃a,cl.lookup y=some a)
  (hg: ∀C s₂ H₂ fp,QG (X.comp scope cl C (zs++ys) s₂ H₂ fp) tg g) (hc: ∀C s₂ H₂ fp,QTs (X.comp scope cl C (zs++ys) s₂ H₂ fp) ifs tt) (he: ∀C s₂ H₂ fp,QE (X.comp scope cl C (zs++ys) s₂ H₂ fp) elt te) (hs: ∀v,foldedSetIterable iter X.env v=pure v):
  QE X (.ListComp elt [⟨tg,iter,ifs,0⟩] scope pos) (zCI wi g tt te zs.length fr):=
 ⟨zKr hcm hi.out hclos hcell hkind hnames hcl hlen hfr hhas (fun C s H f=>(hg C s H f).out) (fun C s H f=>(hc C s H f).out) (fun C s H f=>(he C s H f).out) hs⟩
section
variable {K:zPS}{g:TG}{tt:TT}{te:TE}{n:Nat}{fr:List Nat}{σ:St}{H:Hp}{Q:VK}
def zED(g:TG)(tt:TT)(te:TE)(n:Nat)(suf:St)(D:Addr)(x:V)(ys:List V)(H:Hp)(N:List V->Hp->Prop):Prop:=
 ∀pre:St,pre.length=n->g x (pre++suf) H fun σ2 H2=>(∃zn:St,zn.length=n/\σ2=zn++suf)/\tt σ2 H2 fun b H3=>if b=true then te σ2 H3 fun y H4=>H4 D=some (.lst ys)/\N (ys++ [y]) (upd H4 D (.lst (ys++ [y]))) else N ys H3
end
section
variable {κ:Type}[DecidableEq κ]
end
section
variable {P:Program}{w:World}{H:Hp}{h:Heap}{a:Addr}
end
section
variable {X:Cx}{pins:List (Addr×Obj)}{σ:St}{H:Hp}{s:Shared}{a:Addr}{y v:V}{u r:Value}{o:Option V}{A:Around}{E:Value->Shared->Prop}
end
section
variable {X:Cx}{pins:List (Addr×Obj)}{σ:St}{H:Hp}{s:Shared}{a:Addr}{kvs:List (Key×V)}{k:Key}{u:Value}{A:Around}{E:Value->Shared->Prop}
end
section
variable {X:Cx}{o i e value:Expr}{pos pos' tpos:Pos}{td ty tv:TE}
end
section
variable {X:Cx}{pos:Pos}
end
section
variable {X:Cx}{pins:List (Addr×Obj)}{σ:St}{H:Hp}{s:Shared}{a:Addr}{y d:V}{u r:Value}{o:Option V}{A:Around}{E:Value->Shared->Prop}
end
section
variable {X:Cx}{o e f:Expr}{apos cpos:Pos}{td ty tx:TE}
end
section
variable {X:Cx}{pins:List (Addr×Obj)}{σ:St}{H:Hp}{s:Shared}{a:Addr}{kvs:List (Key×V)}{A:Around}{E:Value->Shared->Prop}
end
section
variable {X:Cx}{pins:List (Addr×Obj)}{σ:St}{H:Hp}{s:Shared}{a:Addr}{y:V}{u:Value}{A:Around}{E:Value->Shared->Prop}
end
theorem Inv.turnedL{X:Cx}{pins:List (Addr×Obj)}{σ:St}{H:Hp}{s:Shared}{h':Heap}{t':Nat}{ch:List Addr}(I:Inv X pins σ H s)(k: ∀b o,b∉ch->s.heap.get? b=some o->h'.get? b=some o)(hf: ∀b∈ch,zAy X pins H b):
  Inv X pins σ H {s with heap:=h',toks:=t'}:=by
 have nit: ∀b u,H b=some u->b∉ch:=fun b u e z=>by rw [(hf b z).1] at e;cases e
 refine I.step (g':=s.gens) (d':=s.drawn) (ch:=ch) (fun b hb=>?_) (fun b o _ _ hc e _=>k b o hc e) (fun b o _ _ hc e _=>⟨o.slots,k b o hc e⟩) (fun _ _ _ _ n=>n)
  (fun b o hc e=>⟨o,k b o hc e⟩) (fun _ _ e=>e) (fun _ _ _ e=>e) (fun b ps e=>⟨#[],by rw [e];simp⟩) (fun m hm=>?_) (fun b u e=>?_) I.bare
 ·obtain ⟨f0,f1,f2,f3,f4,f5⟩:=hf b hb;exact ⟨f3,f1,f4,f5⟩
 ·obtain ⟨o,es,ep,ho,r⟩:=hm;exact ⟨o,es,ep,k _ o (fun z=>(hf _ z).2.1 rfl) ho,r⟩
 ·refine (I.hok b u e).stay (fun c v hc q=>k c v ?_ q) (fun _ q=>q) fun _ _ q=>q;rcases hc with z | z
  ·rw [z];exact nit b u e
  ·exact nit c _ z
theorem zAy.upd{X:Cx}{pins:List (Addr×Obj)}{H:Hp}{b a:Addr}{o:HO}(f:zAy X pins H b)(h:b≠a):zAy X pins (L2.upd H a o) b:=⟨by rw [zG h];exact f.1,f.2⟩
def Ite(K:zPS)(l:Addr):It:=
 ⟨fun i H=> ∃xs x,SqL K H l xs/\xs[i]?=some x,fun i H x H'=> ∃t y,(∀xs,SqL K H l xs->xs[i]?=some y)/\H t=none/\x= .ref t/\H'=upd H t (.tup [.int i,y]),fun i H=> ∃xs,SqL K H l xs/\xs.length<=i⟩
theorem zJC{P:Program}{w:World}{K:zPS}{elts:List Expr}{x1}{pos:Pos}(l e it:Addr)(hne:e≠it):Turn P w K (.Tuple elts x1 pos) (Ite K l) [e,it] e (fun i h=> ∃old,IsEnum h e it i old/\h.IsListIter it l i) where
 mem:=by simp
 obj:=fun i h st b hb=>by
  obtain ⟨old,e1,o,e2,c,d⟩:=st;rcases List.mem_cons.mp hb with r | r
  ·subst r;exact ⟨_,e1,fun v z=>by
    have z':Data.fields _=Data.cell v:=z;cases z'⟩
  ·have r':b=it:=by simpa using r
   subst r';exact ⟨o,e2,fun v z=>by rw [d] at z;cases z⟩
 keep:=fun i h h' st k=>let ⟨old,e1,e2⟩:=st;⟨old,k e (by simp) _ e1,e2.at fun o z=>k it (by simp) o z⟩
 item:=by
  intro X hP hw hK hc i pins s σ H E I hf st hg;subst hP hw hK;obtain ⟨xs,x,hq,hx⟩:=hg;obtain ⟨old,hen,hit⟩:=st;obtain ⟨its,rv,p,hz⟩:=I.list hq;obtain ⟨u,hu,ru⟩:=rv.get hx;obtain ⟨f0,f1,f2,f3,f4,f5⟩:=hf e (by simp);obtain ⟨g0,g1,g2,g3,g4,g5⟩:=hf it (by simp);refine wpAny_pyNext_enum_item hen hit p.isList (x:=u) (by simpa using hu) hne fun h1 heo hit1 ht hz1 hk=>⟨_,rfl,?_⟩;refine wpAny_letOwnedTupleGo_enum heo fun h2 he2 hs2=>?_;replace hs2:Heap.SameBut e h1 h2:=hs2;have hn1:s.heap.objs.size≠e:=zPM (zOn hen);have hn2:s.heap.objs.size≠it:=by
   obtain ⟨o,z,_⟩:=hit;exact zPM (zOn z)
  have old': ∀b q,b≠e->b≠it->s.heap.get? b=some q->h2.get? b=some q:=fun b q hb hb2 z=>(hs2.2 b hb).trans (hk b q hb hb2 z);have new:h2.get? s.heap.objs.size=some {cls:= .type "tuple",data:= .seq #[.int i s.toks,u]}:=(hs2.2 _ hn1).trans ht;obtain ⟨oi,hoi,hci⟩:=id hit;obtain ⟨oj,hoj,hcj⟩:=id hit1;have hoj2:h2.get? it=some oj:=(hs2.2 it (Ne.symm hne)).trans hoj;have I1:Inv X pins σ (upd H s.heap.objs.size (.tup [.int i,x])) {s with heap:=s.heap.push {cls:= .type "tuple",data:= .seq #[.int i s.toks,u]},toks:=s.toks+1}:=
   I.laid (fun b q e=>zOf _ e) (zOh _) ⟨by show 2<=sizeLine;decide,[.int i s.toks,u],.cons ⟨_,rfl⟩ (.cons ru .nil),_,zOw _ rfl,rfl,⟨_,rfl⟩,rfl⟩
  have I2:=Inv.turnedL (h':=h2) (t':=s.toks+1) (ch:= [e,it]) I1 (fun b q hb z=>by
   have hb1:b≠e:=fun y=>hb (by simp [y]);have hb2:b≠it:=fun y=>hb (by simp [y]);replace z:(s.heap.push {cls:= .type "tuple",data:= .seq #[.int i s.toks,u]}).get? b=some q:=z;by_cases hbs:b=s.heap.objs.size
   ·subst hbs;rw [zOw _ rfl] at z;cases z;exact new
   ·rw [Heap.get?_push_ne _ _ _ hbs] at z;exact old' b q hb1 hb2 z) (fun b hb=>(hf b hb).upd (by
     rcases List.mem_cons.mp hb with r | r
     ·subst r;exact Ne.symm hn1
     ·have r':b=it:=by simpa using r
      subst r';exact Ne.symm hn2))
  refine ⟨.ref s.heap.objs.size,_,I2,rfl,⟨_,x,fun ys hy=>by rw [I.list_inj hy hq];exact hx,I.hok.fresh (zOh _),rfl,rfl⟩,⟨u,?_,oj,hoj2,hcj⟩,fun b hb=>?_⟩
  ·have z:((i+1:Nat):Int)=(i:Int)+1:=by omega
   rw [z];exact he2
  ·rcases List.mem_cons.mp hb with r | r
   ·subst r;rw [zG (Ne.symm hn1)];exact f0
   ·have r':b=it:=by simpa using r
    subst r';rw [zG (Ne.symm hn2)];exact g0
 done:=by
  intro X hP hw hK hc i pins s σ H E I hf st hg;subst hP hw hK;obtain ⟨xs,hq,hx⟩:=hg;obtain ⟨old,hen,hit⟩:=st;obtain ⟨its,rv,p,hz⟩:=I.list hq;obtain ⟨g0,g1,g2,g3,g4,g5⟩:=hf it (by simp);have hl:=rv.length;exact wpAny_pyNext_enum_end (I.ok.hd hc) hen hit p.isList (by simp;omega) fun h' eb=>⟨rfl,I.turned (t':=s.toks) (fun b o hb e=>eb b o hb e) g0 g1 g3 g4 g5⟩
 self:=fun A i s Q E st h=>by
  obtain ⟨old,e1,_⟩:=st;exact wpAny_pyIter_enum e1 h
def zLO(K:zPS)(ta:TA):TI:=fun σ H R=>ta σ H fun vs H1=> ∃a,vs= [.ref a] /\(∃xs,SqL K H1 a xs)/\R (Ite K a) H1
theorem zLU{X:Cx}{a:Expr}{ta:TA}{p pos tpos:Pos}{elts:List Expr}{x1}(hg:Gl X "enumerate")(hm:X.mg "enumerate" =none)(ha:PA X [a] ta)(hs:starEach [a] X.env= [(false,eval a X.env)]):
  PI X (.Tuple elts x1 tpos) (.Call (.Name "enumerate" p) [a] [] pos) (zLO X.K ta):=by
 intro pins s σ H R I h;refine Call_ (zCF I hg hm boot_enumerate (PyProof.Rows.callWith_type1 (zW (ha pos pins s σ H _ I h) fun us s1 ⟨vs,H1,I1,r1,q1⟩=>?_) hs rfl));obtain ⟨l,e,⟨xs,hq⟩,q⟩:=q1;subst e;obtain ⟨u,rfl,ru⟩:=zBX r1;cases ru;obtain ⟨its,rv,pl,hz⟩:=I1.list hq;refine call_enumerate_list pl.isList fun h' he hit hsz hk=>?_;refine wpAny_pyIter_enum he ?_;refine ⟨_,[s1.heap.objs.size+1,s1.heap.objs.size],_,_,H1,rfl,I1.kept (t':=s1.toks) hk,zJC l _ _ (Nat.succ_ne_self _),⟨_,he,hit⟩,fun b hb=>?_,q⟩;rcases List.mem_cons.mp hb with r | r
 ·subst r;exact I1.fpOk (Nat.le_succ _) (I1.hok.fresh (Nat.le_succ _))
 ·have r':b=s1.heap.objs.size:=by simpa using r
  subst r';exact I1.fpOk (zOh _) (I1.hok.fresh (zOh _))
theorem zGt{X:Cx}{K:zPS}{a:Expr}{ta:TA}{p pos tpos:Pos}{elts:List Expr}{x1}(hK:X.K=K)(hg:Gl X "enumerate")(hm:X.mg "enumerate" =none)(ha:QA X [a] ta)(h2:yM a=true):
  QI X (.Tuple elts x1 tpos) (.Call (.Name "enumerate" p) [a] [] pos) (zLO K ta):=by
 subst hK;exact ⟨zLU hg hm ha.out (by rw [zq h2];rfl)⟩
section
variable {X:Cx}
theorem zFL: ∀{bs:List Bool} {us:List Value},zP (bs.map V.bl) us->us=bs.map Value.bool
 | [],_,r=>by cases r;rfl
 | b::bs,_,r=>by
  cases r with
  | cons h t=>
   cases h;rw [zFL t];rfl
theorem zJZ{bs:List Bool}:(List.range bs.length).all (fun i=>bs.getD i false)=bs.all id:=by
 rw [Bool.eq_iff_iff,List.all_eq_true,List.all_eq_true];constructor
 ·intro h b hb;obtain ⟨i,hi,e⟩:=List.getElem_of_mem hb;have:=h i (List.mem_range.mpr hi);rw [List.getD_eq_getElem?_getD,zOd hi] at this;rw [<-e];exact this
 ·intro h i hi;have hi':=List.mem_range.mp hi;rw [List.getD_eq_getElem?_getD,zOd hi'];exact h _ (zPI hi')
theorem zKE(hc:X.calm=true):yg X (.builtin "all") (fun xs H Q=> ∃(a:Addr) (bs:List Bool),xs= [.ref a] /\SqL X.K H a (bs.map V.bl)/\Q (.bl (bs.all id)) H):=by
 intro pins s σ H xs us Q I r h;obtain ⟨a,bs,rfl,hq,q⟩:=h;obtain ⟨u,rfl,ru⟩:=zBX r;cases ru;obtain ⟨its,rv,p,hz⟩:=I.list hq;have e:=zFL rv;subst e;have hlt:a<s.heap.objs.size:=by
  obtain ⟨o,ho,_⟩:=p.isList;exact zOn ho
 refine call_all_walk (wpAny_pyIter_list p.isList ⟨s.heap.objs.size,_,_,_,_,_,fun i=>bs.getD i false,rfl,Walks.list (show X.A.in1.handled=none from I.ok.hd hc) s.heap.objs.size a (zOl hlt) (bs.map Value.bool).toArray,
  ⟨⟨_,zOw _ rfl,rfl,rfl⟩,p.isList.at fun o z=>zOf _ z⟩,fun i v s' Q' E' hP hQ=>?_,fun h' tk hk=>?_⟩)
 ·have e:v= .bool (bs.getD i false):=by
   have hP':((bs.map Value.bool).toArray)[i]?=some v:=hP;rw [List.getElem?_toArray,zOi] at hP';cases q2:bs[i]? with
   | none=>rw [q2] at hP';cases hP'
   | some b=>
    rw [q2] at hP';rw [List.getD_eq_getElem?_getD,q2];exact (Option.some.inj hP').symm
  subst e;exact zOj hQ
 ·have ez:((bs.map Value.bool).toArray).size=bs.length:=by simp
  refine ⟨.bl (bs.all id),H,?_,?_,q⟩
  ·refine I.kept fun b o z=>hk b o (fun y=>?_) (zOf _ z);have y':b=s.heap.objs.size:=by simpa using y
   exact absurd (y'▸zOn z) (Nat.lt_irrefl _)
  ·show Value.bool _=Value.bool _;rw [ez,zJZ]
end
end L2
namespace PySem
end PySem
namespace L2
open PySem PySem.Spec PyProof.Rows
section
variable {X:Cx}{pins:List (Addr×Obj)}{σ:St}{H:Hp}{s:Shared}
end
end L2
namespace PySem
open PyProof.Rows
section
variable {prog:Program}{w:World}{K:Type}[DecidableEq K]{knd:KeyKind prog w K}{A:Around}{E:Value->Shared->Prop}{s:Shared}
end
end PySem
namespace L2
open PySem PySem.Spec PyProof.Rows
section
variable {X:Cx}
end
section
variable {X:Cx}
def zDH:V->Bool
 | .int _=>true
 | .str _=>true
 | _=>false
theorem zFh{A:Around}{s:Shared}{x:V}{u v:Value}(f:zDH x=true)(ru:zj x u)(rv:zj x v):SeqAt.EqAt A s u v true:=by
 cases x with
 | int i=>
  obtain ⟨t,rfl⟩:=ru;obtain ⟨t',rfl⟩:=rv;have z:=SeqAt.EqAt.int_int (A:=A) (s:=s) i t i t';simpa using z
 | str i=>
  obtain ⟨t,rfl⟩:=ru;obtain ⟨t',rfl⟩:=rv;have z:=SeqAt.EqAt.str_str (A:=A) (s:=s) i t i t';simpa using z
 | _=>cases f
theorem zIN{A:Around}{s:Shared}{xs:List V}{us vs:List Value}(f: ∀x∈xs,zDH x=true)(ru:zP xs us)(rv:zP xs vs):
  ∀j (h1:j<us.toArray.size) (h2:j<vs.toArray.size),SeqAt.EqAt A s us.toArray[j] vs.toArray[j] true:=by
 intro j h1 h2;have j1:j<us.length:=by simpa using h1
 have j2:j<vs.length:=by simpa using h2
 have l1:=ru.length;have a1:xs[j]?=some xs[j] :=zOd (by omega);obtain ⟨u1,b1,c1⟩:=ru.get a1;obtain ⟨u2,b2,c2⟩:=rv.get a1;have d1:us[j] =u1:=by rw [zOd j1] at b1;exact Option.some.inj b1
 have d2:vs[j] =u2:=by rw [zOd j2] at b2;exact Option.some.inj b2
 have w:=zFh (A:=A) (s:=s) (f _ (zPI (by omega))) c1 c2;simpa [d1,d2] using w
end
end L2
namespace PySem
open PyProof.Rows
section
variable {prog:Program}{w:World}{K:Type}[DecidableEq K]{knd:KeyKind prog w K}{A:Around}{E:Value->Shared->Prop}{s:Shared}
end
section
variable {prog:Program}{w:World}{K:Type}[DecidableEq K]{knd:KeyKind prog w K}{A:Around}{R:Result->Shared->Prop}{d it l:Addr}{items:Array Value}{ps:List (K×Value)}
end
section
variable {prog:Program}{w:World}{K:Type}[DecidableEq K]{knd:KeyKind prog w K}{A:Around}{E:Value->Shared->Prop}{s:Shared}
end
end PySem
namespace L2
open PySem PySem.Spec PyProof.Rows
section
variable {X:Cx}
end
section
variable {X:Cx}{K:zPS}{o i e f value:Expr}{td ty tx tv:TE}{pos pos' apos cpos:Pos}
theorem zDZ(hK:X.K=K)(hc:X.calm=true):yg X (.builtin "all") (fun xs H Q=> ∃(a:Addr) (bs:List Bool),xs= [.ref a] /\SqL K H a (bs.map V.bl)/\Q (.bl (bs.all id)) H):=by
 subst hK;exact zKE hc
theorem zAd(hK:X.K=K):yg X (.type "list") (fun xs H Q=> ∃p ys,xs= [.ref p] /\(SqL K H p ys\/SqT K H p ys)/\ ∀l,H l=none->Q (.ref l) (upd H l (.lst ys))):=by
 subst hK;exact zGh
end
def zLC(ns:List (Str×NameKind))(cl:List (Str×Addr)):Bool:=ns.all fun p=>match p.2 with
 | .cell=>(cl.lookup p.1).isSome
 | .free=>(cl.lookup p.1).isSome
 | _=>true
theorem zCz{κ β:Type}[BEq κ][LawfulBEq κ]{y:κ}{b:β}: ∀{l:List (κ×β)},l.lookup y=some b->(y,b)∈l
 | [],h=>by cases h
 |(z,c)::l,h=>by
  rw [List.lookup_cons] at h;split at h
  ·rename_i q
   have:y=z:=by simpa using q
   cases h;rw [this];exact List.mem_cons_self
  ·exact zPK _ (zCz h)
theorem zN{ns:List (Str×NameKind)}{cl:List (Str×Addr)}(h:zLC ns cl=true): ∀y,(ns.lookup y=some .cell\/ns.lookup y=some .free)-> ∃a,cl.lookup y=some a:=by
 intro y hy;unfold zLC at h;rw [List.all_eq_true] at h;rcases hy with e | e
 ·exact Option.isSome_iff_exists.mp (h (y,.cell) (zCz e))
 ·exact Option.isSome_iff_exists.mp (h (y,.free) (zCz e))
theorem fr1{Pp:Str->Nat->Prop}{y:Str}{i:Nat}(h:Pp y i): ∀(j:Nat) (y':Str) (i':Nat),[y][j]?=some y'-> [i][j]?=some i'->Pp y' i':=by
 intro j y' i' h1 h2;cases j with
 | zero=>cases h1;cases h2;exact h
 | succ j=>simp at h1
section
variable {g:TG}{tt:TT}{te:TE}{n:Nat}{fr:List Nat}{σ:St}{H:Hp}{Q:VK}{J:It}
theorem zCu(D:Addr)(len:Nat)(Pv:Nat->List V->Hp->Prop)(h0:Pv 0 [] (upd H D (.lst [])))(hb:len<=sizeLine)
  (hk: ∀i ys H',i<=len->Pv i ys H'->ys.length<=i/\H' D=some (.lst ys)/\(i<len->J.go i H')/\(i=len->J.stop i H'))
  (hs: ∀i ys H' x H'',i<len->Pv i ys H'->J.yld i H' x H''->zED g tt te n (zX fr σ) D x ys H'' (Pv (i+1))) (hd: ∀ys H',Pv len ys H'->Q (.ref D) H'):
  ∃W:Nat->Nat->List V->Hp->Prop,(∃m,W 0 m [] (upd H D (.lst [])))/\ ∀i m ys H',W i m ys H'->H' D=some (.lst ys)/\((J.stop i H'/\Q (.ref D) H')\/(J.go i H'/\ys.length<sizeLine/\ ∃N:List V->Hp->Prop,(∀ys' H',N ys' H'-> ∃m',m'<m/\W (i+1) m' ys' H')/\
   ∀x H'',J.yld i H' x H''-> ∀pre:St,pre.length=n->g x (pre++zX fr σ) H'' fun σ2 H2=>(∃zn:St,zn.length=n/\σ2=zn++zX fr σ)/\
    tt σ2 H2 fun b H3=>if b=true then te σ2 H3 fun y H4=>H4 D=some (.lst ys)/\N (ys++ [y]) (upd H4 D (.lst (ys++ [y]))) else N ys H3)):=by
 refine ⟨fun i m ys H'=>i<=len/\m=len - i/\Pv i ys H',⟨_,zOs _,rfl,h0⟩,?_⟩;rintro i m ys H' ⟨hi,rfl,p⟩;obtain ⟨hl,hD,hgo,hst⟩:=hk i ys H' hi p;refine ⟨hD,?_⟩;by_cases hlt:i<len
 ·refine .inr ⟨hgo hlt,by omega,Pv (i+1),fun ys' H'' q=>⟨len -(i+1),by omega,hlt,rfl,q⟩,?_⟩;intro x H'' hy;exact hs i ys H' x H'' hlt p hy
 ·have e:i=len:=by omega
  subst e;exact .inl ⟨hst rfl,hd ys H' p⟩
theorem zLd{tb:TS}{D:Ends}(len:Nat)(Pv:Nat->St->Hp->Prop)(h0:Pv 0 σ H)(hgo: ∀i σ H,i<len->Pv i σ H->J.go i H)(hst: ∀σ H,Pv len σ H->J.stop len H)
  (hs: ∀i σ H x H',i<len->Pv i σ H->J.yld i H x H'->g x σ H' fun σ2 H2=>tb {D with nx:=Pv (i+1),ct:=Pv (i+1),bk:=D.nx} σ2 H2) (hd: ∀σ H,Pv len σ H->D.nx σ H):
  ∃W:Nat->Nat->St->Hp->Prop,(∃m,W 0 m σ H)/\ ∀i m σ H,W i m σ H->
   (J.stop i H/\D.nx σ H)\/(J.go i H/\ ∃N:St->Hp->Prop,(∀σ' H',N σ' H'-> ∃m',m'<m/\W (i+1) m' σ' H')/\ ∀x H',J.yld i H x H'->g x σ H' fun σ2 H2=>tb {D with nx:=N,ct:=N,bk:=D.nx} σ2 H2):=by
 refine ⟨fun i m σ H=>i<=len/\m=len - i/\Pv i σ H,⟨_,zOs _,rfl,h0⟩,?_⟩;rintro i m σ H ⟨hi,rfl,p⟩;by_cases hlt:i<len
 ·exact .inr ⟨hgo i σ H hlt p,Pv (i+1),fun σ' H' q=>⟨len -(i+1),by omega,hlt,rfl,q⟩,fun x H' hy=>hs i σ H x H' hlt p hy⟩
 ·have e:i=len:=by omega
  subst e;exact .inl ⟨hst σ H p,hd σ H p⟩
end
def zOX(wi:TI):TI:=fun σ H R=> ∃Rs:It->Hp->Prop,wi σ H Rs/\ ∀J H1,Rs J H1->R J H1
theorem zEg{X:Cx}{tg iter:Expr}{wi:TI}(h:QI X tg iter wi):QI X tg iter (zOX wi):=by
 refine ⟨fun pins s σ H R I ⟨Rs,h1,h2⟩=>?_⟩;refine zW (h.out pins s σ H Rs I h1) fun v s1 q=>zW q fun itv s2 q2=>?_;obtain ⟨it,fp,tn,J,H',a1,a2,a3,a4,a5,a6⟩:=q2;exact ⟨it,fp,tn,J,H',a1,a2,a3,a4,a5,h2 J H' a6⟩
structure CompInv(J:It)(g:TG)(tt:TT)(te:TE)(n:Nat)(suf:St)(H:Hp)(D:Addr)(Q:VK):Prop where
 ex: ∃(len:Nat) (Pv:Nat->List V->Hp->Prop),Pv 0 [] (upd H D (.lst []))/\len<=sizeLine/\(∀i ys H',i<=len->Pv i ys H'->ys.length<=i/\H' D=some (.lst ys)/\(i<len->J.go i H')/\(i=len->J.stop i H'))/\
  (∀i ys H' x H'',i<len->Pv i ys H'->J.yld i H' x H''->zED g tt te n suf D x ys H'' (Pv (i+1)))/\ ∀ys H',Pv len ys H'->Q (.ref D) H'
theorem zU{J:It}{g:TG}{tt:TT}{te:TE}{n:Nat}{suf:St}{H:Hp}{D:Addr}{Q:VK}(len:Nat)(Pv:Nat->List V->Hp->Prop)(h0:Pv 0 [] (upd H D (.lst [])))(hb:len<=sizeLine)
  (hk: ∀i ys H',i<=len->Pv i ys H'->ys.length<=i/\H' D=some (.lst ys)/\(i<len->J.go i H')/\(i=len->J.stop i H'))
  (hs: ∀i ys H' x H'',i<len->Pv i ys H'->J.yld i H' x H''->zED g tt te n suf D x ys H'' (Pv (i+1))) (hd: ∀ys H',Pv len ys H'->Q (.ref D) H'):CompInv J g tt te n suf H D Q:=⟨len,Pv,h0,hb,hk,hs,hd⟩
def zEl(wi:TI)(g:TG)(tt:TT)(te:TE)(n:Nat)(fr:List Nat):TE:=fun σ H Q=>wi σ H fun J H1=> ∀D,H1 D=none->CompInv J g tt te n (zX fr σ) H1 D Q
theorem ze{X:Cx}{elt iter tg:Expr}{ifs:List Expr}(zs:List Str){pos:Pos}{scope:Scope}{cl:List (Str×Addr)}(ys:List Str)(fr:List Nat){wi:TI}{g:TG}{tt:TT}{te:TE}(hcm:X.calm=true)
  (hi:QI X tg iter wi) (hclos:closureFor scope X.env=pure cl) (hcell: ∀y∈scope.names,y.2≠ .cell) (hkind:scope.kind= .function) (hnames: ∀y∈scope.names,y.2= .local->scope.names.lookup y.1=some .local)
  (hcl: ∀y a,cl.lookup y=some a->X.env.cells.lookup y=some a)
  (hlen:ys.length=fr.length) (hfr: ∀(j:Nat) y i,ys[j]?=some y->fr[j]?=some i->X.N[i]?=some y/\X.env.kindOf y=some .cell/\(relabel scope X.env).names.lookup y=some .cell/\ ∃a,cl.lookup y=some a/\X.env.cells.lookup y=some a)
  (hhas: ∀y,((relabel scope X.env).names.lookup y=some .cell\/(relabel scope X.env).names.lookup y=some .free)-> ∃a,cl.lookup y=some a)
  (hg: ∀C s₂ H₂ fp,QG (X.comp scope cl C (zs++ys) s₂ H₂ fp) tg g) (hc: ∀C s₂ H₂ fp,QTs (X.comp scope cl C (zs++ys) s₂ H₂ fp) ifs tt) (he: ∀C s₂ H₂ fp,QE (X.comp scope cl C (zs++ys) s₂ H₂ fp) elt te) (hs: ∀v,foldedSetIterable iter X.env v=pure v):
  QE X (.ListComp elt [⟨tg,iter,ifs,0⟩] scope pos) (zEl wi g tt te zs.length fr):=
 zIG (zLe zs ys fr hcm (zEg hi) hclos hcell hkind hnames hcl hlen hfr hhas hg hc he hs) fun σ H Q h=>⟨_,h,fun J H1 h1 D hD=>by
  obtain ⟨len,Pv,a0,a1,a2,a3,a4⟩:=(h1 D hD).ex;exact zCu D len Pv a0 a1 a2 a3 a4⟩
structure ForInv(J:It)(g:TG)(tb:TS)(D:Ends)(σ:St)(H:Hp):Prop where
 ex: ∃(len:Nat) (Pv:Nat->St->Hp->Prop),Pv 0 σ H/\(∀i σ H,i<len->Pv i σ H->J.go i H)/\(∀σ H,Pv len σ H->J.stop len H)/\
  (∀i σ H x H',i<len->Pv i σ H->J.yld i H x H'->g x σ H' fun σ2 H2=>tb {D with nx:=Pv (i+1),ct:=Pv (i+1),bk:=D.nx} σ2 H2)/\ ∀σ H,Pv len σ H->D.nx σ H
theorem yd{J:It}{g:TG}{tb:TS}{D:Ends}{σ:St}{H:Hp}(len:Nat)(Pv:Nat->St->Hp->Prop)(h0:Pv 0 σ H)(hgo: ∀i σ H,i<len->Pv i σ H->J.go i H)(hst: ∀σ H,Pv len σ H->J.stop len H)
  (hs: ∀i σ H x H',i<len->Pv i σ H->J.yld i H x H'->g x σ H' fun σ2 H2=>tb {D with nx:=Pv (i+1),ct:=Pv (i+1),bk:=D.nx} σ2 H2) (hd: ∀σ H,Pv len σ H->D.nx σ H):ForInv J g tb D σ H:=⟨len,Pv,h0,hgo,hst,hs,hd⟩
def zNu(wi:TI)(g:TG)(tb:TS):TS:=fun D σ H=>wi σ H fun J H1=>ForInv J g tb D σ H1
theorem zAA{X:Cx}{tg iter:Expr}{b1:List Stmt}{pos:Pos}{wi:TI}{g:TG}{u:TS}(hp:PassesOwn (model X.prog X.w) X.A X.env X.xe)(hc:X.calm=true)(hi:QI X tg iter wi)(hg:QG X tg g)(hb:QB X b1 u)(hs: ∀x,foldedSetIterable iter X.env x=pure x):QS X (.For tg iter b1 [] pos) (zNu wi g u):=by
 have h:=zOI (pos:=pos) hp hc (zEg hi) hg hb hs;refine ⟨fun pins s σ H D I ht=>h.out pins s σ H D I ⟨_,ht,fun J H1 h1=>?_⟩⟩;obtain ⟨len,Pv,a0,a1,a2,a3,a4⟩:=h1.ex;exact zLd len Pv a0 a1 a2 a3 a4
section
variable {X:Cx}
end
section
variable {H H':Hp}{d:Addr}{kvs:List (Key×V)}
end
section
variable {X:Cx}
structure QO(X:Cx)(e:Option Expr)(t:TO):Prop where
 out:PO X e t
theorem zAP:QO X none zDg:=⟨zMH⟩
theorem zAC{e:Expr}{te:TE}(h:QE X e te):QO X (some e) (zFq te):=⟨zHt h.out⟩
section
variable {K:zPS}{o e:Expr}{to te:TE}{apos cpos:Pos}
end
section
variable {CX:CXT}{k:Nat}{f C:Addr}{fd:FuncData}{ps:List Str}{sp:Sp}{dvs:List V}{ds:List Value}{E:XK}{Es:St->XK}{x m:Str}{p pos apos:Pos}{e o:Expr}{es:List Expr}{ta:TE}{t:TA}{pl:Sem Bool}
theorem zNK(he:QE X o ta)(c:Cls X.K C)(hm:Meth X.K C m f)(F:FnOk X.prog X.w X.K X.mg X.base CX k f fd ps sp)(hr:Room k X.A)(hb:zO X.K fd ps ds)(hd:zP dvs ds)(hx:zAT CX X E)(ha:QA X (e::es) t)
  (h2:yM e=true) (h3:zAH es=true)
  (ht:eval (.Call (.Attribute o m apos) (e::es) [] pos) X.env=(do
   let ov<-eval o X.env
   standAt apos.atName
   let (f,first)<-holding [ov] (getMethod ov m pl)
   callWith pos f first (backTo pos (starEach (e::es) X.env)) (backToKw pos (keywordEach [] X.env)))):
  QE X (.Call (.Attribute o m apos) (e::es) [] pos) (zGB C m sp dvs E ta t):=⟨zLx he.out c hm F hr hb hd hx ha.out (zq h2) (zAY h3) ht⟩
end
section
variable {pos:Pos}
end
end
section
variable {P:Program}{w:World}{K:zPS}{mg:Str->Option Value}{base:Heap}
end
section
variable {X:Cx}{k:Nat}{f:Addr}{fd:FuncData}{ps:List Str}{sp:Sp}{x:Str}{p pos:Pos}{e:Expr}{es:List Expr}{t:TA}
end
end L2
namespace PySem
open PyProof.Rows
section
variable {prog:Program}{w:World}{A:Around}{E:Value->Shared->Prop}{s:Shared}
end
end PySem
namespace PySem
open PyProof.Rows
section
variable {prog:Program}{w:World}{A:Around}{R:Result->Shared->Prop}{I:Addr}{fp wr:List Addr}{G:Array GenState->Array GenState->Prop}{n:Nat}{P:Nat->Value->Prop}{St:Nat->Shared->Prop}
end
section
variable {prog:Program}{w:World}{A:Around}{E:Value->Shared->Prop}{s:Shared}
end
end PySem
namespace PySem.F
end PySem.F
namespace PySem
open PyProof.Rows
section
variable {prog:Program}{w:World}{A:Around}{E:Value->Shared->Prop}{s:Shared}
end
end PySem
namespace PySem
open PyProof.Rows
section
variable {prog:Program}{w:World}{A:Around}{E:Value->Shared->Prop}{s:Shared}{it a tp:Addr}{es:Array (Int×Value)}{ep:Nat}{t:SetTable}{order:List Nat}{vals:List Value}{i:Nat}
end
end PySem
namespace PySem
open PyProof.Rows
section
variable {prog:Program}{w:World}{A:Around}{E:Value->Shared->Prop}{s:Shared}{it a tp:Addr}{es:Array (Int×Value)}{ep:Nat}{t:SetTable}{order:List Nat}{vals:List Value}{i:Nat}
end
end PySem
namespace PySem
open PyProof.Rows
section
variable {prog:Program}{w:World}{A:Around}{E:Value->Shared->Prop}{s:Shared}
end
end PySem
namespace L2
open PySem PySem.Spec PyProof.Rows
section
variable {X:Cx}
end
section
variable {X:Cx}
open PySem.Builtin PySem.Builtin.Str in
open PySem.Builtin PySem.Builtin.Str in
theorem zGE{K:zPS}(hK:X.K=K)(hc:X.calm=true):yg X (.builtin "sum") (fun xs H Q=> ∃(p:Addr) (ns:List Int),xs= [.ref p] /\SqL K H p (ns.map V.int)/\Q (.int ns.sum) H):=by
 subst hK;intro pins s σ H xs us Q I r h;obtain ⟨p,ns,rfl,hq,q⟩:=h;obtain ⟨u,rfl,ru⟩:=zBX r;cases ru;obtain ⟨its,rv,pl,_⟩:=I.list hq;have hi:IntsAre its ns:=zIF rv;have hn:=hi.numsOf;obtain ⟨xs,ex⟩:=hi.allInts.items;have hl:s.heap.IsList p (intItems xs):=by rw [<-ex];exact pl.isList
 refine sum_intListG (I.ok.hd hc) hl fun h' tk t' hk=>?_;have e1:preSum (numAt xs) xs.size=ns.sum:=by
  rw [preSum_eq,List.take_of_length_le (by simp),<-nums_intItems,<-ex,<-hn]
 rw [e1];exact ⟨.int _,H,I.kept hk,⟨_,rfl⟩,q⟩
section
variable {K:zPS}{o e:Expr}{to te:TE}{apos cpos:Pos}
theorem zAk{lo hi:Option Expr}{tl th:TO}{pos p2:Pos}(hK:X.K=K)(he:QE X e te)(hl:QO X lo tl)(hu:QO X hi th):QE X (.Subscript e (.Slice lo hi none p2) pos) (tSl (zIL K) te tl th):=by
 subst hK;exact ⟨zKm zLV he.out hl.out hu.out⟩
def zOR(K:zPS)(te:TE):TE:=fun σ H Q=>te σ H fun x H1=> ∃a xs,x= .ref a/\SqL K H1 a xs/\ ∀p,H1 p=none->Q (.ref p) (upd H1 p (.lst xs.reverse))
theorem zOK{st:Expr}{pos p2:Pos}(hK:X.K=K)(he:QE X e te)(hs:QE X st (tC (.int (-1)))):QE X (.Subscript e (.Slice none none (some st) p2) pos) (zOR K te):=by
 subst hK;constructor;intro pins s σ H Q I h;refine Subscript_ (zW (he.out pins s σ H _ I h) fun v s1 ⟨x,H1,I1,r1,q1⟩=>?_);obtain ⟨a,xs,rfl,hx,q⟩:=q1;cases r1;refine wpAny_Slice ?_;rw [evalPart_none];refine zOj ?_;refine zOj ?_;refine zW (zHt hs.out pins s1 σ H1 (fun o H'=>o=some (-1)/\H'=H1) I1 ⟨-1,rfl,rfl,rfl⟩) fun vk s2 ⟨o,H2,I2,pk,e1,e2⟩=>?_;subst e1 e2;have I4:Inv X pins σ H2 {s2 with heap:=s2.heap.push {cls:= .type "slice",data:= .fields #[.none,.none,vk]}}:=I2.kept (t':=s2.toks) fun b ob q=>zOf _ q;obtain ⟨its,r,ht,hz⟩:=I4.list hx;have hlen:=r.length;show wpAny (model X.prog X.w) X.A (subscriptTail e (.Slice none none (some st) p2) (.ref a) (.ref s2.heap.objs.size)) (EP X pins σ Q) X.xe {s2 with heap:=s2.heap.push {cls:= .type "slice",data:= .fields #[.none,.none,vk]}};refine tail_any (T:= "list") (ops:= [.ref a,.ref s2.heap.objs.size]) ht.isList.typeIs slot_list_getitem.lookup ?_ (by with_unfolding_all rfl);refine wpAny_getItem_list_slice ht.isList (Heap.IsSliceOf.new ..) .none .none pk (by decide) ?_ (by rw [zOx] <;>omega);rw [PySem.W.krv_pick];refine ⟨.ref _,_,I4.laid (t':=s2.toks) (o:= .lst xs.reverse) (fun b ob q=>zOf _ q) (zOh _) ?_,rfl,q _ (I4.hok.fresh (zOh _))⟩;exact ⟨by simpa using hz,its.reverse,0,r.reverse,zOw _ rfl⟩
end
end
section
variable {X:Cx}
end
section
variable {X:Cx}{pos:Pos}
theorem zOY{p1 p2:Pos}{j:Nat}:QE X (.UnaryOp .USub (.Constant (.int 1) j p1) p2) (tC (.int (-1))):=zIG (zBW zF) fun σ H Q h=>⟨1,rfl,h⟩
end
section
variable {M:Model}{A:Around}{E:Value->Shared->Prop}{s:Shared}
end
theorem zDU{h h' B B':Heap}(k: ∀b o,B.get? b=none->h.get? b=some o->(∀vs,o.data≠ .fields vs)->h'.get? b=some o)(kb: ∀b,B.get? b=none->B'.get? b=none): ∀{l:List Env},h.FunFrames B l->h'.FunFrames B' l
 | [],_=>trivial
 | _::_,⟨hk,⟨L,o,hf,hn,ho,hd⟩,hr⟩=>⟨hk,⟨L,o,hf,kb L hn,k L o hn ho hd,hd⟩,zDU k kb hr⟩
def zOW(X:Cx)(E:XK)(e:Value)(s':Shared):Prop:=
 ∃(ea:Addr) (cls a0:Value) (H':Hp) (B:Heap) (fl:Value),e= .ref ea/\s'.os=X.s₀.os/\AllBare s'.gens/\B.StaysIn s'.heap/\B.get? ea=none/\s'.heap.FunFrames B X.stack/\s'.heap.TracedAtW B ea cls a0 fl/\
  HOk X.prog X.w H' B/\FlyU X.fs X.H₀ H' X.s₀.heap B s'.heap/\E cls none H'
def zBl(X:Cx)(E:St->XK):Prop:=X.ex= [] /\X.stack=X.env::X.outer/\X.env.frame=some X.env.locals/\ ∀(σ:St) (e:Value) (s':Shared),X.Ok->zOW X (E σ) e s'->X.xe e s'
section
variable {P:Program}{w:World}{K:zPS}{mg:Str->Option Value}{base:Heap}{N:List Str}{qual:Str}{scope:Scope}{f:Addr}{cd:Value}{A:Around}{outer:List Env}{s₀:Shared}{H₀:Hp}{E:XK}
end
section
variable {X:Cx}{scope:Scope}{cl:List (Str×Addr)}{C:Addr}{N:List Str}{s2:Shared}{H2:Hp}{fp:List Addr}{pins pn:List (Addr×Obj)}{σ σ':St}{H:Hp}{s s':Shared}{e acc:Value}{E:St->XK}{Q:Value->Shared->Prop}
theorem zEf(hp:zBl X E)(I2:Inv X pins σ H2 s2)(f2: ∀b∈fp,@LE.le Nat _ X.s₀.heap.objs.size b)(hC: @LE.le Nat _ s2.heap.objs.size C)(I:Inv (X.comp scope cl C N s2 H2 fp) pn σ' H s)(h:Fly X.prog X.w X.stack H s (E σ) e s'):
  notedBy (model X.prog X.w) X.A (compEnvC scope cl C X.env) (fun e s=>compPost (model X.prog X.w) X.A X.xe none Q acc C (.error e) s) e s':=by
 obtain ⟨hex,hst,hfr,hp⟩:=hp;obtain ⟨ea,cls,a0,H',B,rfl,hos,hb,hfl,hok,U,q⟩:=h;show wpAny _ X.A (noteFrame (.ref ea) X.env) _ _ s';have hfl':=hfl;rw [hst] at hfl';refine wpAny_looks_onW (by rw [I2.ok.frames,hst]) hfr hfl' fun h4 x4 u4=>?_;rw [<-hst] at x4;obtain ⟨m,hn,_⟩:=I.loc;obtain ⟨oC,es,ep,hoC,hdC,rC⟩:=hn;have hCfs:C∉frs X.stack:=fun z=>by
  rcases List.mem_cons.mp (I2.stkSub C z) with y | y
  ·have:=I2.lt;have y': @Eq Nat C X.env.locals:=y;have this': @LT.lt Nat _ X.env.locals s2.heap.objs.size:=this;omega
  ·obtain ⟨_,o,ho,_⟩:=I2.ok.funs.mem y;have a1: @LT.lt Nat _ C X.s₀.heap.objs.size:=yA ho;have a2: @LE.le Nat _ X.s₀.heap.objs.size s2.heap.objs.size:=I2.sz;omega
 have hCH:H C=none:=I.free;have hCB:B.get? C=some oC:=U.keep C oC hoC hCH hCfs;obtain ⟨x41,x42,x43,oe,vs,T,oT,ts,he,hcls,hd,h1,hnT,hTe,hT,hdT,h3⟩:=x4;have neC: ∀b,B.get? b=none->b≠C:=fun b hb z=>by rw [z,hCB] at hb;cases hb
 have hC4:h4.get? C=some oC:=x41 C oC hCB;refine ⟨m,⟨oC,es,ep,hC4,hdC,rC⟩,fun h' sb cenv' _=>?_⟩;have kp: ∀b o,b≠C->h4.get? b=some o->h'.get? b=some o:=fun b o hb e=>(sb.2 b hb).trans e;have he':=kp ea oe (neC ea x42) he;have hT':=kp T oT (neC T hnT) hT;have hsz3:3<ts.size:=(Array.getElem?_eq_some_iff.mp h3).1;unfold PySem.passOn;refine zOe (wpAny_field he' hd h1 ?_);rw [if_neg (show¬((Value.ref T==Value.none)=true) from by simp)];unfold setFlight;refine zOe (zOe (wpAny_field he' hd h1 ?_));rw [if_pos (show (Value.ref T !=Value.none)=true from by simp)];refine wpAny_setField hT' hdT hsz3 (wpAny_throw ?_);have other: ∀b,b≠T->(h'.update T (Obj.mapFields (·.setIfInBounds 3 (cenv'.frame.elim Value.none fun f=>rawInt f)))).get? b=h'.get? b:=fun b hb=>Heap.get?_update_other _ _ (Ne.symm hb);have noT: ∀b o,B.get? b=some o->b≠T:=fun b o hb z=>by rw [z,hnT] at hb;cases hb
 have frT: ∀b o,h4.get? b=some o->(∀vs,o.data≠ .fields vs)->b≠T:=fun b o hb hnf z=>by
  rw [z,hT] at hb;injection hb with hb;subst hb;exact hnf ts hdT
 have hH'C:H' C=none:=U.free C oC hoC hCH;have exn: ∀b,b∉X.ex:=fun b=>by rw [hex];simp
 have hlt: ∀b o,X.s₀.heap.get? b=some o->b∉fp/\b≠C:=fun b o e=>by
  have a1: @LT.lt Nat _ b X.s₀.heap.objs.size:=yA e;have a2: @LE.le Nat _ X.s₀.heap.objs.size s2.heap.objs.size:=I2.sz;refine ⟨fun z=>?_,fun z=>?_⟩
  ·have:=f2 b z;omega
  ·have z': @Eq Nat b C:=z;omega
 have nst: ∀b o,X.s₀.heap.get? b=some o->b∉X.fs->b∉frs X.stack:=fun b o e hb z=>by
  rcases List.mem_cons.mp (I2.stkSub b z) with y | y
  ·exact zOl (zOm (zOn e) I2.ok.above) y
  ·exact hb y
 have st1: ∀b,b∈X.fs->b∈frs X.stack:=fun b hb=>by rw [hst];exact zKZ hb
 refine hp σ _ _ I2.ok ⟨ea,cls,a0,H',PySem.W.hideAll B [C],_,rfl,?_,hb,fun b o hbo=>?_,?_,zDU (B:=B) (h:=h4) (fun b o hbn hbo hnf=>?_) (fun b hbn=>?_) x43,
  ⟨oe,vs,T,_,_,(other ea (Ne.symm hTe)).trans he',hcls,hd,h1,?_,hTe,Heap.get?_update_self _ hT' (Obj.isFreed_of_fields (Obj.data_mapFields hdT _)),Obj.data_mapFields hdT _,by simp [hsz3];rfl⟩,?_,⟨fun b o e n hbf=>?_,fun b o e n hbf=>?_,fun b o e hbf=>?_,fun b o e n=>?_,fun b xs e=>?_,fun b o u e=>?_,fun b ps e=>?_⟩,q⟩
 ·exact hos.trans (I.os.trans I2.os)
 ·have hne:b≠C:=fun z=>by rw [z,PySem.W.hideAll_none [C] (by simp)] at hbo;cases hbo
  have hB:=zPR [C] hbo;rw [other b (noT b o hB)];exact kp b o hne (x41 b o hB)
 ·cases z:(PySem.W.hideAll B [C]).get? ea with
  | none=>rfl
  | some o=>have:=zPR [C] z;rw [x42] at this;cases this
 ·rw [other b (frT b o hbo hnf)];exact kp b o (neC b hbn) hbo
 ·cases z:(PySem.W.hideAll B [C]).get? b with
  | none=>rfl
  | some o=>have:=zPR [C] z;rw [hbn] at this;cases this
 ·cases z:(PySem.W.hideAll B [C]).get? T with
  | none=>rfl
  | some o=>have:=zPR [C] z;rw [hnT] at this;cases this
 ·exact fun a o e=>(hok a o e).stay (fun b u hbb e1=>zPJ _ e1 fun hm=>by
   have z:b=C:=by simpa using hm
   rcases hbb with y | y
   ·rw [<-y,z,hH'C] at e;cases e
   ·rw [z,hH'C] at y;cases y) (fun _ q=>q) fun _ _ q=>q
 ·obtain ⟨l1,l2⟩:=hlt b o e;have e1:=I2.base.keep b o e n hbf (exn b);have n1:=I2.base.free b o e n (exn b);have e2:=I.base.keep b o e1 n1 (nst b o e hbf) l1;have n2:=I.base.free b o e1 n1 l1;exact zPJ _ (U.keep b o e2 n2 (nst b o e hbf)) (by simpa using l2)
 ·obtain ⟨l1,l2⟩:=hlt b o e;obtain ⟨sl1,e1⟩:=I2.base.slot b o e n hbf (exn b);have n1:=I2.base.free b o e n (exn b);obtain ⟨sl2,e2⟩:=I.base.slot b _ e1 n1 (st1 b hbf) l1;have n2:=I.base.free b _ e1 n1 l1;obtain ⟨sl3,e3⟩:=U.slot b _ e2 n2 (st1 b hbf);obtain ⟨_,o',e3',hd'⟩:=hfl.2.2.1.mem (st1 b hbf);rw [e3] at e3';cases e3';obtain ⟨sl4,e4⟩:=u4 b _ e3 hd';refine ⟨sl4,?_⟩;rw [other b (frT b _ e4 hd')];exact kp b _ l2 e4
 ·obtain ⟨l1,l2⟩:=hlt b o e;obtain ⟨o1,e1⟩:=I2.base.there b o e (exn b);obtain ⟨o2,e2⟩:=I.base.there b o1 e1 l1;obtain ⟨o3,e3⟩:=U.inB b o2 e2 (nst b o e hbf);exact ⟨o3,zPJ _ e3 (by simpa using l2)⟩
 ·obtain ⟨l1,l2⟩:=hlt b o e;obtain ⟨o1,e1⟩:=I2.base.there b o e (exn b);obtain ⟨o2,e2⟩:=I.base.there b o1 e1 l1;exact U.free b o2 e2 (I.base.free b o1 e1 (I2.base.free b o e n (exn b)) l1)
 ·exact U.tups b xs (I.base.tups b xs (I2.base.tups b xs e))
 ·exact U.frzs b o u (I.base.frzs b o u (I2.base.frzs b o u e))
 ·obtain ⟨m1,e1⟩:=I2.base.tbls b ps e;obtain ⟨m2,e2⟩:=I.base.tbls b _ e1;obtain ⟨m3,e3⟩:=U.tbls b _ e2;exact ⟨m1++(m2++m3),by rw [e3,Array.append_assoc,Array.append_assoc]⟩
end
abbrev Cx.compX(X:Cx)(scope:Scope)(cl:List (Str×Addr))(C:Addr)(N:List Str)(s₂:Shared)(H₂:Hp)(fp:List Addr)(xe:Value->Shared->Prop):Cx:={X.comp scope cl C N s₂ H₂ fp with xe:=xe}
section
variable {X:Cx}{scope:Scope}{cl:List (Str×Addr)}{C:Addr}{N:List Str}{s₂:Shared}{H₂:Hp}{fp:List Addr}{xe:Value->Shared->Prop}{pins:List (Addr×Obj)}{σ:St}{H:Hp}{s:Shared}
theorem Inv.compX(I:Inv (X.comp scope cl C N s₂ H₂ fp) pins σ H s):Inv (X.compX scope cl C N s₂ H₂ fp xe) pins σ H s:=
 ⟨⟨I.ok.mod,I.ok.kind,I.ok.glob,I.ok.blt,I.ok.above,I.ok.inj,I.ok.has,I.ok.cab,I.ok.hd,I.ok.frames,I.ok.stk,I.ok.exf,I.ok.bs,I.ok.bsz,I.ok.noex,I.ok.exfs,I.ok.funs,I.ok.frf⟩,I.os,I.bare,I.base,I.loc,I.cell,I.free,I.freeC,I.pin,I.hok,I.len⟩
theorem Inv.comp(I:Inv (X.compX scope cl C N s₂ H₂ fp xe) pins σ H s):Inv (X.comp scope cl C N s₂ H₂ fp) pins σ H s:=
 ⟨⟨I.ok.mod,I.ok.kind,I.ok.glob,I.ok.blt,I.ok.above,I.ok.inj,I.ok.has,I.ok.cab,I.ok.hd,I.ok.frames,I.ok.stk,I.ok.exf,I.ok.bs,I.ok.bsz,I.ok.noex,I.ok.exfs,I.ok.funs,I.ok.frf⟩,I.os,I.bare,I.base,I.loc,I.cell,I.free,I.freeC,I.pin,I.hok,I.len⟩
end
theorem zDy{P:Program}{w:World}{A:Around}{R:Result->Shared->Prop}{s:Shared}{elt target iter:Expr}{ifs:List Expr}{scope:Scope}{pos:Pos}{it acc:Value}{env:Env}{E0:Value->Shared->Prop}(hE: ∀e s,E0 e s->notedBy (model P w) A env (fun e s=>R (.error e) s) e s)(J:Nat->Shared->Prop)
  (turn: ∀n s,J n s->wpAny (model P w) A (pyNext it) (fun r s1=>match r with
   | none=>R (.ok .next) s1
   | some v=>wpAny (model P w) A (letOwnedTupleGo target it v) (fun _ s1'=>wpAny (model P w) A (assign target env v) (fun _ s2=>wpAny (model P w) A (zBA ifs env) (fun ok s3=>
     if ok=true then wpAny (model P w) A (eval elt env) (fun x s4=>wpAny (model P w) A (call (.builtin "list.append") [acc,x]) (fun _ s5=> ∃m,m<n/\J m s5) (fun _ _=>False) s4) E0 s3
     else∃m,m<n/\J m s3) (fun _ _=>False) s2) (fun _ _=>False) s1') (fun _ _=>False) s1) (fun _ _=>False) s)
  (n:Nat) (h:J n s):codeAny (model P w) A (.compLoop (.ListComp elt [⟨target,iter,ifs,0⟩] scope pos) 0 it acc env) R s:=by
 refine codeAny_loop rfl J (fun n s hJ=>?_) n h;show wpAny _ A ((compTurn (.ListComp elt [⟨target,iter,ifs,0⟩] scope pos) 0 it acc env).onRaise _) _ _ s;refine wpAny_noted ?_;rw [compTurn_list];refine zOe (wpAny_standAt (zOe (zOy (yO (turn n s hJ)) (fun r s1 h1=>?_) fun _ _ z=>z)));cases r with
 | none=>exact zOj h1
 | some v=>
  refine zOe (zOy (yO h1) (fun _ s2 h3=>zOe (zOy (yO h3) (fun _ s3 h4=>zOe (zOy (yO h4) (fun ok s4 h5=>?_) fun _ _ z=>z)) fun _ _ z=>z)) fun _ _ z=>z);cases ok with
  | false=>exact zOj ⟨rfl,h5⟩
  | true=>exact zOe (zOe (zOy h5 (fun x s5 h6=>zOe (zOy (yO h6) (fun _ s6 h7=>zOj (zOj ⟨rfl,h7⟩)) fun _ _ z=>z)) hE))
def zJY(wi:TI)(g:TG)(tt:TT)(te:(St->XK)->TE)(n:Nat)(fr:List Nat)(E:St->XK):TE:=fun σ H Q=>zCI wi g tt (te fun _=>E σ) n fr σ H Q
def zHb(wi:TI)(g:TG)(tt:TT)(te:(St->XK)->TE)(n:Nat)(fr:List Nat)(E:St->XK):TE:=fun σ H Q=>zEl wi g tt (te fun _=>E σ) n fr σ H Q
theorem fr2{Pp:Str->Nat->Prop}{y z:Str}{i k:Nat}(h:Pp y i)(h':Pp z k): ∀(j:Nat) (y':Str) (i':Nat),[y,z][j]?=some y'-> [i,k][j]?=some i'->Pp y' i':=by
 intro j y' i' h1 h2
 match j with
 | 0=>cases h1;cases h2;exact h
 | 1=>cases h1;cases h2;exact h'
 | j+2=>simp at h1
theorem fr3{Pp:Str->Nat->Prop}{y z x:Str}{i k m:Nat}(h:Pp y i)(h':Pp z k)(h'':Pp x m): ∀(j:Nat) (y':Str) (i':Nat),[y,z,x][j]?=some y'-> [i,k,m][j]?=some i'->Pp y' i':=by
 intro j y' i' h1 h2
 match j with
 | 0=>cases h1;cases h2;exact h
 | 1=>cases h1;cases h2;exact h'
 | 2=>cases h1;cases h2;exact h''
 | j+3=>simp at h1
theorem zKW{X:Cx}{i0:Nat}{x:Str}{pos' spos:Pos}{elt iter tg:Expr}{ifs:List Expr}{zs:List Str}{pos:Pos}{scope:Scope}{cl:List (Str×Addr)}{ys:List Str}{fr:List Nat}{wi:TI}{g:TG}{tt:TT}{te:(St->XK)->TE}{E:St->XK}(hcm:X.calm=true)(hp:zBl X E)(hN:X.N.Nodup)(hi0:X.N[i0]?=some x)(hx0:Loc X.env.scope x)(hf0:X.fn x=true\/X.env.scope.names.lookup x=some .local)
  (hsw:swapsWith (.ListComp elt [⟨tg,iter,ifs,0⟩] scope pos) (some (.Name x pos')) spos.line X.env=pure true)
  (hi:PI X tg iter wi) (hclos:closureFor scope X.env=pure cl) (hcell: ∀y∈scope.names,y.2≠ .cell) (hkind:scope.kind= .function) (hnames: ∀y∈scope.names,y.2= .local->scope.names.lookup y.1=some .local)
  (hcl: ∀y a,cl.lookup y=some a->X.env.cells.lookup y=some a)
  (hlen:ys.length=fr.length) (hfr: ∀(j:Nat) y i,ys[j]?=some y->fr[j]?=some i->X.N[i]?=some y/\X.env.kindOf y=some .cell/\(relabel scope X.env).names.lookup y=some .cell/\ ∃a,cl.lookup y=some a/\X.env.cells.lookup y=some a)
  (hhas: ∀y,((relabel scope X.env).names.lookup y=some .cell\/(relabel scope X.env).names.lookup y=some .free)-> ∃a,cl.lookup y=some a)
  (hg: ∀C s₂ H₂ fp,PG (X.comp scope cl C (zs++ys) s₂ H₂ fp) tg g) (hc: ∀C s₂ H₂ fp,PTs (X.comp scope cl C (zs++ys) s₂ H₂ fp) ifs tt) (he: ∀C s₂ H₂ fp xe E',zDj (Fly X.prog X.w) (X.compX scope cl C (zs++ys) s₂ H₂ fp xe) E'->PE (X.compX scope cl C (zs++ys) s₂ H₂ fp xe) elt (te E')) (hs: ∀v,foldedSetIterable iter X.env v=pure v:=by intro _;rfl):
  PS X (.Assign [.Name x pos'] (.ListComp elt [⟨tg,iter,ifs,0⟩] scope pos) spos) (zDA (zJY wi g tt te zs.length fr E) (yH i0)):=by
 intro pins s σ H Dn I h;change zCI wi g tt (te fun _=>E σ) zs.length fr σ H (fun v H1=>yH i0 v σ H1 Dn.nx) at h;rw [exec_Assign_Name_used _ _ _ _ hsw];refine zOe (wpAny_standAt (zOe ?_));show wpAny _ X.A (do let _<-comprehension (.ListComp elt [⟨tg,iter,ifs,0⟩] scope pos) scope X.env _ (newList []) false (eval iter X.env) (some (assign (.Name x pos') X.env))) _ _ s;refine zOe (zOy (wpAny_comprehension_free (use:=some (assign (.Name x pos') X.env)) (Q:=fun _ s'=>SP X pins Dn .next s') rfl hs hclos hkind hnames (zW (hi pins s σ H _ I h) fun v s1 h1=>zW h1 fun itv s2 h2=>?_)) (fun _ s' hq=>zOj (zOj hq)) fun _ _ e=>e);obtain ⟨it,fp,tn,J,H2,e,I2,T,st2,f2,h2⟩:=h2;subst e;have hD:H2 s2.heap.objs.size=none:=I2.hok.fresh (zOh _);obtain ⟨W,⟨m0,w0⟩,turn⟩:=h2 s2.heap.objs.size hD;refine wpAny_newObj_type (wpAny_newFunctionEnv hcell (by intro y hy;simp at hy) (fun h₁ hns₁ hsb₁=>?_) hkind);dsimp only at hns₁ hsb₁⊢;generalize hH3:s2.heap.push {cls:= .type "list",dict:=none,data:= .seq ([] :List Value).toArray}=H3 at hns₁ hsb₁⊢;have hCs:H3.objs.size=s2.heap.objs.size+1:=by rw [<-hH3,Heap.size_push]
 have old: ∀b o,s2.heap.get? b=some o->h₁.get? b=some o:=fun b o e=>
  hsb₁.extBut b o (zOl (by have:=yA e;omega)) (zOf _ (hH3▸zOf _ e))
 have hacc:h₁.get? s2.heap.objs.size=some {cls:= .type "list",dict:=none,data:= .seq ([] :List Value).toArray}:=
  hsb₁.extBut _ _ (zOl (by omega)) (zOf _ (hH3▸zOw _ rfl))
 have fplt: ∀b∈fp,@LT.lt Nat _ b s2.heap.objs.size:=fun b hb=>by
  obtain ⟨o,e,_⟩:=T.obj _ _ st2 b hb;exact yA e
 have okC:(X.comp scope cl H3.objs.size (zs++ys) s2 H2 fp).Ok:=by
  refine ⟨I2.ok.mod,hkind,I2.ok.glob,I2.ok.blt,?_,fun y z a h1 h2=>I2.ok.inj y z a (hcl y a h1) (hcl z a h2),fun y hy=>hhas y hy,fun y a z _=>(nomatch z),I2.ok.hd,I2.ok.frames,.inl rfl,fun b hb=>⟨?_,fun y a e z=>?_⟩,I2.bs,zOr I2.ok.bsz I2.sz,fun b o e hb=>?_,fun b hb z=>?_,I2.stack,I2.stkFree⟩
  ·show s2.heap.objs.size<=H3.objs.size;omega
  ·show b≠H3.objs.size;have:=fplt b hb;exact zOl (by omega)
  ·exact (f2 b hb).2.2.2.2.1 y a (hcl y a e) z
  ·rcases (f2 b hb).2.2.2.1 with z | z
   ·exact I2.ok.noex b o e z
   ·have z': @LE.le Nat _ X.s₀.heap.objs.size b:=z;have: @LT.lt Nat _ b X.base.objs.size:=yA e;have:=I2.ok.bsz;omega
  ·rcases List.mem_cons.mp (I2.stkSub b z) with y | y
   ·exact (f2 b hb).2.1 y
   ·exact (f2 b hb).2.2.1 y
 have fpok: ∀{H':Hp},(∀b∈fp,H' b=none)-> ∀b∈fp,zAy (X.comp scope cl H3.objs.size (zs++ys) s2 H2 fp) [] H' b:=fun hn b hb=>
  ⟨hn b hb,(okC.exf b hb).1,okC.exfs b hb,.inl hb,(okC.exf b hb).2,fun p hp=>absurd hp (by simp)⟩
 have cellC: ∀y a,cl.lookup y=some a-> ∃v,s2.heap.IsCell a v:=fun y a e=>I2.cell y a (hcl y a e);have start:Inv (X.comp scope cl H3.objs.size (zs++ys) s2 H2 fp) [] (List.replicate zs.length none++zX fr σ) (upd H2 s2.heap.objs.size (.lst [])) {s2 with heap:=h₁,toks:=s2.toks+([] :List (Str×Value)).length}:=by
  refine ⟨okC,rfl,I2.bare,Un.laid old (zOh _) hD,⟨_,hns₁,fun j y v e1 e2 e3=>?_⟩,fun y a e=>?_,?_,fun y a e=>?_,fun p hp=>absurd hp (by simp),I2.hok.laid old (zOh _) ⟨zOs _,[],_,.nil,hacc⟩,?_⟩
  ·by_cases hj:j<zs.length
   ·rw [List.getElem?_append_left (by simpa using hj),List.getElem?_replicate] at e2;rw [if_pos hj] at e2;cases e2
   ·obtain ⟨j,rfl⟩: ∃k,j=zs.length+k:=⟨j - zs.length,by omega⟩;have e1':ys[j]?=some y:=by
     have z:=e1;simp only [Cx.comp] at z;rw [List.getElem?_append_right (by omega)] at z;simpa using z
    have e2':(zX fr σ)[j]?=some (some v):=by
     rw [List.getElem?_append_right (by simp)] at e2;simpa using e2
    unfold zX at e2';rw [zOi] at e2';cases q:fr[j]? with
    | none=>rw [q] at e2';cases e2'
    | some i=>
     rw [q] at e2';have e4:(σ[i]?).getD none=some v:=Option.some.inj e2';have e5:σ[i]?=some (some v):=by
      cases q2:σ[i]? with
      | none=>rw [q2] at e4;cases e4
      | some z=>rw [q2] at e4;exact congrArg some e4
     obtain ⟨hN,hk,hl,a,ha,ha'⟩:=hfr j y i e1' q;obtain ⟨m,_,hl2⟩:=I2.loc;obtain ⟨u,r,l⟩:=hl2 i y v hN e5 (.inr (.inl hk));refine ⟨u,r,.inr ⟨.inl hl,a,ha,?_⟩⟩;rcases l with ⟨k,_⟩|⟨_,a2,ea,z⟩
     ·rw [hk] at k;cases k
     ·rw [ha'] at ea;cases ea;obtain ⟨o,ho,hd⟩:=z;exact ⟨o,old _ _ ho,hd⟩
  ·obtain ⟨v,o,ho,hd⟩:=cellC y a e;exact ⟨v,o,old _ _ ho,hd⟩
  ·show upd H2 s2.heap.objs.size (.lst []) H3.objs.size=none;rw [zG (by first | exact zOl (by omega)| exact zPM (by omega))];exact I2.hok.fresh (by omega)
  ·obtain ⟨v,o,ho,hd⟩:=cellC y a e;have:=yA ho;rw [zG (by first | exact zOl (by omega)| exact zPM (by omega))];exact I2.freeC y a (hcl y a e)
  ·show (List.replicate zs.length none++zX fr σ).length=(zs++ys).length;unfold zX;simp [hlen]
 have loop: ∀s₃:Shared,s₃={s2 with heap:=h₁,toks:=s2.toks+([] :List (Str×Value)).length}->
   codeAny (model X.prog X.w) X.A (.compLoop (.ListComp elt [⟨tg,iter,ifs,0⟩] scope pos) 0 (.ref it) (.ref s2.heap.objs.size) (compEnvC scope cl H3.objs.size X.env)) (compPost (model X.prog X.w) X.A X.xe (some (assign (.Name x pos') X.env)) (fun _ s'=>SP X pins Dn .next s') (.ref s2.heap.objs.size) H3.objs.size) s₃:=by
  rintro s₃ rfl;have flown: ∀e s',(∃pn σ' Hx sx,Inv (X.comp scope cl H3.objs.size (zs++ys) s2 H2 fp) pn σ' Hx sx/\Fly X.prog X.w X.stack Hx sx (E σ) e s')->notedBy (model X.prog X.w) X.A (compEnvC scope cl H3.objs.size X.env) (fun e s=>compPost (model X.prog X.w) X.A X.xe (some (assign (.Name x pos') X.env)) (fun _ s'=>SP X pins Dn .next s') (.ref s2.heap.objs.size) H3.objs.size (.error e) s) e s':=by
   rintro e s' ⟨pn,σ',Hx,sx,Ix,hx⟩;refine zEf (Q:=fun _ s'=>SP X pins Dn .next s') (acc:= .ref s2.heap.objs.size) hp I2 (fun b hb=>?_) (by omega) Ix hx;rcases (f2 b hb).2.2.2.1 with z | z
   ·rw [hp.1] at z;cases z
   ·exact z
  refine zDy (E0:=fun e s'=> ∃pn σ' Hx sx,Inv (X.comp scope cl H3.objs.size (zs++ys) s2 H2 fp) pn σ' Hx sx/\Fly X.prog X.w X.stack Hx sx (E σ) e s') flown (fun n s'=> ∃i pre ys' H',pre.length=zs.length/\Inv (X.comp scope cl H3.objs.size (zs++ys) s2 H2 fp) [] (pre++zX fr σ) H' s'/\tn i s'.heap/\(∀b∈fp,H' b=none)/\W i n ys' H') ?_ m0
   ⟨0,List.replicate zs.length none,[],_,by simp,start,T.keep _ _ _ st2 fun b hb o e=>old b o e,fun b hb=>by
    have:=fplt b hb;rw [zG (by first | exact zOl (by omega)| exact zPM (by omega))];exact (f2 b hb).1,w0⟩
  rintro n s3 ⟨i,pre,ys3,H',hpl,I3,st3,fr3,w3⟩;obtain ⟨hl3,alt⟩:=turn i n ys3 H' w3;rcases alt with ⟨stop,qn⟩|⟨go,hz,N,hN,step⟩
  ·refine zOy (T.done (X.comp scope cl H3.objs.size (zs++ys) s2 H2 fp) rfl rfl rfl hcm i [] s3 _ H' (fun _ _=>False) I3 (fpok fr3) st3 stop) (fun r s4 h4=>?_) fun _ _ z=>z.elim;obtain ⟨hr,I4⟩:=h4;subst hr;obtain ⟨m4,hn4,_⟩:=id I4.loc;have back: ∀h'',Heap.SameBut H3.objs.size s4.heap h''->Inv X pins σ H' {s4 with heap:=h''}:=by
    intro h'' hs'';have hb: ∀b o,b≠H3.objs.size->s4.heap.get? b=some o->h''.get? b=some o:=fun b o hb e=>(hs''.2 b hb).trans e;refine I2.call' (s':={s4 with heap:=h''}) (ch:=fp) I4.os ⟨fun b o e n hb' hx'=>?_,fun b o e n hb' hx'=>?_,fun b o e n hx'=>I4.base.free b o e n hx',fun b o e hx'=>?_,I4.base.tups,I4.base.frzs,I4.base.tbls⟩ (fun b u e=>?_) I4.bare fun b hb'=>⟨(f2 b hb').2.2.2.1,(f2 b hb').2.1,(f2 b hb').2.2.2.2.1,(f2 b hb').2.2.2.2.2⟩
    ·exact hb b o (zOl (by have:=yA e;omega)) (I4.base.keep b o e n hb' hx')
    ·obtain ⟨sl,q⟩:=I4.base.slot b o e n hb' hx';exact ⟨sl,hb b _ (zOl (by have:=yA e;omega)) q⟩
    ·obtain ⟨o',q⟩:=I4.base.there b o e hx';exact ⟨o',hb b _ (zOl (by have:=yA e;omega)) q⟩
    ·refine (I4.hok b u e).stay (fun c' w' hc' q=>hb c' w' ?_ q) (fun _ q=>q) fun _ _ q=>q;intro z;have fz:H' H3.objs.size=none:=I4.free;rcases hc' with y | y
     ·rw [<-y,z,fz] at e;cases e
     ·rw [z,fz] at y;cases y
   have I5:Inv X pins σ H' s4:=back s4.heap (Heap.SameBut.refl _ _);have hCs2: @LE.le Nat _ s2.heap.objs.size H3.objs.size:=by omega
   have fz:H' H3.objs.size=none:=I4.free;have cneL:H3.objs.size≠X.env.locals:=fun z=>by
    have z1: @LT.lt Nat _ X.env.locals s2.heap.objs.size:=I2.lt;have z': @Eq Nat H3.objs.size X.env.locals:=z;omega
   have cneC: ∀y c,X.env.cells.lookup y=some c->c≠H3.objs.size:=fun y c e z=>by
    obtain ⟨v,o,ho,_⟩:=I2.cell y c e;have z1:=yA ho;have z': @Eq Nat c H3.objs.size:=z;omega
   show wpAny _ X.A (assign (.Name x pos') X.env (.ref s2.heap.objs.size)) _ _ s4;refine wpAny_assign_Name (zDR I5 hN hi0 hx0 (v:= .ref s2.heap.objs.size) rfl (fun s5 I6 ⟨a,sba,ha⟩=>?_) hf0);have nea:H3.objs.size≠a:=by
    rcases ha with z | z
    ·rw [z];exact cneL
    ·exact fun y=>cneC x a z y.symm
   obtain ⟨oC,es,ep,hoC,rC⟩:=hn4;refine ⟨m4,⟨oC,es,ep,(sba.2 _ nea).trans hoC,rC⟩,fun h'' hs''=>?_⟩;have hb: ∀b o,b≠H3.objs.size->s5.heap.get? b=some o->h''.get? b=some o:=fun b o hb e=>(hs''.2 b hb).trans e;have neb: ∀b:Addr,b∉ [H3.objs.size] ->b≠H3.objs.size:=fun b hb z=>hb (by simp [z]);have I7:Inv X pins (σ.set i0 (some (.ref s2.heap.objs.size))) H' {s5 with heap:=h''}:=by
    refine I6.call' (s':={s5 with heap:=h''}) (ch:= [H3.objs.size]) rfl ⟨fun b o e n hb' hx'=>hb b o (neb b hx') e,fun b o e n hb' hx'=>⟨o.slots,hb b o (neb b hx') e⟩,fun b o e n hx'=>n,fun b o e hx'=>⟨o,hb b o (neb b hx') e⟩,fun b xs e=>e,fun b o u e=>e,fun b ps e=>⟨#[],by simpa using e⟩⟩ (fun b u e=>?_) I6.bare fun b hb'=>?_
    ·refine (I6.hok b u e).stay (fun c' w' hc' q=>hb c' w' ?_ q) (fun _ q=>q) fun _ _ q=>q;intro z;rcases hc' with y | y
     ·rw [<-y,z,fz] at e;cases e
     ·rw [z,fz] at y;cases y
    ·have eb:b=H3.objs.size:=by simpa using hb'
     subst eb;refine ⟨.inr ?_,cneL,cneC,fun p hp z=>?_⟩
     ·have z1: @LE.le Nat _ X.s₀.heap.objs.size s2.heap.objs.size:=I2.sz;show @LE.le Nat _ X.s₀.heap.objs.size H3.objs.size;omega
     ·have z1:=yA (I2.pin p hp).1;have z': @Eq Nat p.1 H3.objs.size:=z;omega
   exact ⟨_,H',I7,qn⟩
  ·refine zOy (T.item (X.comp scope cl H3.objs.size (zs++ys) s2 H2 fp) rfl rfl rfl hcm i [] s3 _ H' (fun _ _=>False) I3 (fpok fr3) st3 go) (fun r s4 h4=>?_) fun _ _ z=>z.elim;obtain ⟨u,hr,h4⟩:=h4;subst hr;dsimp only;have asg:wpAny (model X.prog X.w) X.A (letOwnedTupleGo tg (.ref it) u) (fun _ s5=>wpAny (model X.prog X.w) X.A (assign tg (compEnvC scope cl H3.objs.size X.env) u)
     (fun _ s6=> ∃σ5 H6,(∃pn5,Inv (X.comp scope cl H3.objs.size (zs++ys) s2 H2 fp) pn5 σ5 H6 s6/\(∀b∈fp,∃o,(b,o)∈pn5))/\((∃zn:St,zn.length=zs.length/\σ5=zn++zX fr σ)/\
      tt σ5 H6 fun b H3'=>if b=true then te (fun _=>E σ) σ5 H3' fun y H4=>H4 s2.heap.objs.size=some (.lst ys3)/\N (ys3++ [y]) (upd H4 s2.heap.objs.size (.lst (ys3++ [y]))) else N ys3 H3')/\tn (i+1) s6.heap/\ ∀b∈fp,H6 b=none) (fun _ _=>False) s5) (fun _ _=>False) s4:=by
    refine (zW h4 fun _ s5 ⟨x5,H5,I5,r5,y5,st5,fr5⟩=>?_);have I5':=I5.pinned (fpok fr5) (T.obj _ _ st5);refine zOy (hg _ _ _ _ _ s5 _ H5 x5 u _ I5' r5 (step x5 H5 y5 pre hpl)) (fun _ s6 ⟨σ6,H6,I6,q6⟩=>?_) fun _ _ z=>z.elim;exact ⟨σ6,H6,⟨_,I6,fun b hb=>by
     obtain ⟨o,e,_⟩:=T.obj _ _ st5 b hb;exact ⟨o,zOt _ (yI hb e)⟩⟩,q6,T.keep _ _ _ st5 fun b hb o e=>(I6.pin (b,o) (zOt _ (zOt _ (yI hb e)))).1,fun b hb=>by
     obtain ⟨o,e,_⟩:=T.obj _ _ st5 b hb;exact (I6.pin (b,o) (zOt _ (zOt _ (yI hb e)))).2.1⟩
   refine zOy asg (fun _ s5 h5=>zOy h5 (fun _ s6 h6=>?_) fun _ _ z=>z.elim) fun _ _ z=>z.elim;obtain ⟨σ5,H5,⟨pn5,I6,hp6⟩,⟨⟨zn,hl2,rfl⟩,q6⟩,st6,fr5⟩:=h6;have keepTurn: ∀{σ7:St} {H7:Hp} {s7:Shared},Inv (X.comp scope cl H3.objs.size (zs++ys) s2 H2 fp) pn5 σ7 H7 s7->tn (i+1) s7.heap/\ ∀b∈fp,H7 b=none:=fun {σ7 H7 s7} I7=>by
    refine ⟨T.keep _ _ _ st6 fun b hb o e=>?_,fun b hb=>?_⟩
    ·obtain ⟨o',hm⟩:=hp6 b hb;have a1:=(I6.pin (b,o') (zOt _ hm)).1;rw [e] at a1;cases a1;exact (I7.pin (b,_) (zOt _ hm)).1
    ·obtain ⟨o',hm⟩:=hp6 b hb;exact (I7.pin (b,o') (zOt _ hm)).2.1
   have drop: ∀{σ7:St} {H7:Hp} {s7:Shared},Inv (X.comp scope cl H3.objs.size (zs++ys) s2 H2 fp) pn5 σ7 H7 s7->Inv (X.comp scope cl H3.objs.size (zs++ys) s2 H2 fp) [] σ7 H7 s7:=fun I7=>I7.pins_of fun p hp=>absurd hp (by simp);have tests:wpAny (model X.prog X.w) X.A (zBA ifs (compEnvC scope cl H3.objs.size X.env)) (fun b s7=> ∃H7,Inv (X.comp scope cl H3.objs.size (zs++ys) s2 H2 fp) pn5 (zn++zX fr σ) H7 s7/\
     (if b=true then te (fun _=>E σ) (zn++zX fr σ) H7 fun y H4=>H4 s2.heap.objs.size=some (.lst ys3)/\N (ys3++ [y]) (upd H4 s2.heap.objs.size (.lst (ys3++ [y]))) else N ys3 H7)) (fun _ _=>False) s6:=by
    rcases hc H3.objs.size s2 H2 fp with ⟨rfl,rfl⟩|⟨c,rfl,hc2⟩
    ·exact wpAny_tests_nil ⟨H5,I6,q6⟩
    ·exact wpAny_tests_one (zOy (hc2 pn5 s6 _ H5 _ I6 q6) (fun b s7 ⟨H7,I7,q7⟩=>⟨H7,I7,q7⟩) fun _ _ z=>z.elim)
   refine zOy tests (fun b s7 h7=>?_) fun _ _ z=>z.elim;obtain ⟨H7,I7,q7⟩:=h7;cases b with
   | false=>
    obtain ⟨m',hm,w'⟩:=hN _ _ q7;obtain ⟨k1,k2⟩:=keepTurn I7;exact ⟨m',hm,i+1,zn,ys3,H7,hl2,drop I7,k1,k2,w'⟩
   | true=>
    refine zOy (he _ _ _ _ (fun e s'=> ∃pn σ' Hx sx,Inv (X.comp scope cl H3.objs.size (zs++ys) s2 H2 fp) pn σ' Hx sx/\Fly X.prog X.w X.stack Hx sx (E σ) e s') (fun _=>E σ) (fun pn σ' Hx sx e s' Ix hx=>⟨pn,σ',Hx,sx,Ix.comp,hx⟩) pn5 s7 _ H7 _ I7.compX q7) (fun y s8 h8=>?_) fun _ _ z=>z;obtain ⟨yv,H8,I8',r8,hl8,n8⟩:=h8;have I8:=I8'.comp;refine zOy (zBb (X:=X.comp scope cl H3.objs.size (zs++ys) s2 H2 fp) pn5 s8 _ H8 (.ref s2.heap.objs.size) [yv] (.ref s2.heap.objs.size) [y] (fun z H9=>N (ys3++ [yv]) H9) I8 rfl (.cons r8 .nil) ⟨s2.heap.objs.size,ys3,yv,rfl,rfl,hl8,hz,n8⟩) (fun _ s9 h9=>?_) fun _ _ z=>z.elim;obtain ⟨_,H9,I9,_,n9⟩:=h9;obtain ⟨m',hm,w'⟩:=hN _ _ n9;obtain ⟨k1,k2⟩:=keepTurn I9;exact ⟨m',hm,i+1,zn,ys3++ [yv],H9,hl2,drop I9,k1,k2,w'⟩
 exact codeAny_compStart_list (loop _ rfl) (T.self X.A 0 _ _ _ (T.keep _ _ _ st2 fun b hb o e=>old b o e) (loop _ rfl))
theorem zAh{X:Cx}{x:Str}{pos' spos:Pos}{elt iter tg:Expr}{ifs:List Expr}{E:St->XK}(hp:zBl X E)(i0:Nat)(hN:X.N.Nodup)(hi0:X.N[i0]?=some x)(hx0:Loc X.env.scope x)(hf0:X.fn x=true\/X.env.scope.names.lookup x=some .local)
  (zs:List Str) {pos:Pos} {scope:Scope} {cl:List (Str×Addr)} (ys:List Str) (fr:List Nat) {wi:TI} {g:TG} {tt:TT} {te:(St->XK)->TE} (hcm:X.calm=true)
  (hi:QI X tg iter wi) (hclos:closureFor scope X.env=pure cl) (hcell: ∀y∈scope.names,y.2≠ .cell) (hkind:scope.kind= .function) (hnames: ∀y∈scope.names,y.2= .local->scope.names.lookup y.1=some .local)
  (hcl: ∀y a,cl.lookup y=some a->X.env.cells.lookup y=some a)
  (hlen:ys.length=fr.length) (hfr: ∀(j:Nat) y i,ys[j]?=some y->fr[j]?=some i->X.N[i]?=some y/\X.env.kindOf y=some .cell/\(relabel scope X.env).names.lookup y=some .cell/\ ∃a,cl.lookup y=some a/\X.env.cells.lookup y=some a)
  (hhas: ∀y,((relabel scope X.env).names.lookup y=some .cell\/(relabel scope X.env).names.lookup y=some .free)-> ∃a,cl.lookup y=some a)
  (hg: ∀C s₂ H₂ fp,QG (X.comp scope cl C (zs++ys) s₂ H₂ fp) tg g) (hc: ∀C s₂ H₂ fp,QTs (X.comp scope cl C (zs++ys) s₂ H₂ fp) ifs tt) (he: ∀C s₂ H₂ fp xe E',zDj (Fly X.prog X.w) (X.compX scope cl C (zs++ys) s₂ H₂ fp xe) E'->QE (X.compX scope cl C (zs++ys) s₂ H₂ fp xe) elt (te E')) (hs: ∀v,foldedSetIterable iter X.env v=pure v)
  (hsw:swapsWith (.ListComp elt [⟨tg,iter,ifs,0⟩] scope pos) (some (.Name x pos')) spos.line X.env=pure true):
  QS X (.Assign [.Name x pos'] (.ListComp elt [⟨tg,iter,ifs,0⟩] scope pos) spos) (zDA (zHb wi g tt te zs.length fr E) (yH i0)):=
 ⟨fun pins s σ H D I h=>zKW hcm hp hN hi0 hx0 hf0 hsw (zEg hi).out hclos hcell hkind hnames hcl hlen hfr hhas (fun C s H f=>(hg C s H f).out) (fun C s H f=>(hc C s H f).out) (fun C s H f xe E' hx=>(he C s H f xe E' hx).out) hs pins s σ H D I ⟨_,h,fun J H1 h1 D' hD=>by
  obtain ⟨len,Pv,a0,a1,a2,a3,a4⟩:=(h1 D' hD).ex;exact zCu (Q:=fun v H1=>yH i0 v σ H1 D.nx) D' len Pv a0 a1 a2 a3 a4⟩⟩
section
variable {cells:List (Str×Addr)}
theorem zQ{k:Str}{a:Addr}{l:List (Str×Addr)}(h:cells.lookup k=some a)(t: ∀y b,l.lookup y=some b->cells.lookup y=some b): ∀y b,((k,a)::l).lookup y=some b->cells.lookup y=some b:=by
 intro y b e;rw [List.lookup_cons] at e;cases q:(y==k) with
 | true=>
  rw [q] at e;have:y=k:=by simpa using q
  subst this;rw [h];exact e
 | false=>rw [q] at e;exact t y b e
theorem ye: ∀(y:Str) (b:Addr),([] :List (Str×Addr)).lookup y=some b->cells.lookup y=some b:=fun _ _ h=>nomatch h
end
section
variable {X:Cx}{P:Program}{w:World}
end
end L2
namespace PySem
open PySem.Spec PyProof PyProof.Rows
end PySem
namespace L2
open PySem PySem.Spec PyProof.Rows
section
variable {X:Cx}{K:zPS}{o e:Expr}{to te:TE}{apos cpos:Pos}
theorem zJD(bs:List Bool):(List.range bs.length).any (fun i=>bs.getD i false)=bs.any id:=by
 rw [Bool.eq_iff_iff,List.any_eq_true,List.any_eq_true];constructor
 ·rintro ⟨i,hi,h⟩;have hi':i<bs.length:=by simpa using hi
  rw [List.getD_eq_getElem?_getD,zOd hi'] at h;exact ⟨bs[i],zPI hi',h⟩
 ·rintro ⟨b,hb,h⟩;obtain ⟨i,hi,rfl⟩:=List.mem_iff_getElem.mp hb;exact ⟨i,by simpa using hi,by rw [List.getD_eq_getElem?_getD,zOd hi];exact h⟩
theorem zKb(hc:X.calm=true):yg X (.builtin "any") (fun xs H Q=> ∃(a:Addr) (bs:List Bool),xs= [.ref a] /\SqL X.K H a (bs.map V.bl)/\Q (.bl (bs.any id)) H):=by
 intro pins s σ H xs us Q I r h;obtain ⟨a,bs,rfl,hq,q⟩:=h;obtain ⟨u,rfl,ru⟩:=zBX r;cases ru;obtain ⟨its,rv,p,hz⟩:=I.list hq;have e:=zFL rv;subst e;have hlt:a<s.heap.objs.size:=by
  obtain ⟨o,ho,_⟩:=p.isList;exact zOn ho
 refine call_any_walk (wpAny_pyIter_list p.isList ⟨s.heap.objs.size,_,_,_,_,_,fun i=>bs.getD i false,rfl,Walks.list (show X.A.in1.handled=none from I.ok.hd hc) s.heap.objs.size a (zOl hlt) (bs.map Value.bool).toArray,
  ⟨⟨_,zOw _ rfl,rfl,rfl⟩,p.isList.at fun o z=>zOf _ z⟩,fun i v s' Q' E' hP hQ=>?_,fun h' tk hk=>?_⟩)
 ·have e:v= .bool (bs.getD i false):=by
   have hP':((bs.map Value.bool).toArray)[i]?=some v:=hP;rw [List.getElem?_toArray,zOi] at hP';cases q2:bs[i]? with
   | none=>rw [q2] at hP';cases hP'
   | some b=>
    rw [q2] at hP';rw [List.getD_eq_getElem?_getD,q2];exact (Option.some.inj hP').symm
  subst e;exact zOj hQ
 ·have ez:((bs.map Value.bool).toArray).size=bs.length:=by simp
  refine ⟨.bl (bs.any id),H,?_,?_,q⟩
  ·refine I.kept fun b o z=>hk b o (fun y=>?_) (zOf _ z);have y':b=s.heap.objs.size:=by simpa using y
   exact absurd (y'▸zOn z) (Nat.lt_irrefl _)
  ·show Value.bool _=Value.bool _;rw [ez,zJD]
theorem zIn(hK:X.K=K)(hc:X.calm=true):yg X (.builtin "any") (fun xs H Q=> ∃(a:Addr) (bs:List Bool),xs= [.ref a] /\SqL K H a (bs.map V.bl)/\Q (.bl (bs.any id)) H):=by
 subst hK;exact zKb hc
end
end L2
namespace Fr
open PySem PySem.Spec PyProof.Rows L2
theorem yq{P:Program}{w:World}{K:zPS}{mg:Str->Option Value}{base:Heap}{CX:CXT}{N:List Str}{qual:Str}{scope:Scope}{f:Addr}{cd:Value}{A:Around}{outer:List Env}{s₀:Shared}{H₀:Hp}{E:XK}:
  zBl (zAx CX P w K mg base N qual scope f cd A outer s₀ H₀ E).nox (fun _ _ _ _=>False):=
 ⟨rfl,rfl,rfl,fun σ e s' ok h=>by obtain ⟨_,_,_,_,_,_,_,_,_,_,_,_,_,_,_,q⟩:=h;exact q.elim⟩
end Fr
namespace L2
open PySem PySem.Spec PyProof.Rows
section
variable {P:Program}{w:World}{K:zPS}{mg:Str->Option Value}{base:Heap}{N:List Str}{qual:Str}{scope:Scope}{f:Addr}{cd:Value}{A:Around}{outer:List Env}{s₀:Shared}{H₀:Hp}{E:XK}
end
end L2
namespace PySem
open PySem.Spec
section
variable {M:Model}{A:Around}{E:Value->Shared->Prop}{env:Env}{nm q:Str}{C N:Addr}{bs bm:List Value}{hdct:Bool}{sn:List Str}{sub:List Value}{ab:Bool}{col:Option Bool}{dd:Option Addr}{k0 k1 k2 k3 k5:Option Value}{newId:String}
end
end PySem
namespace L2
open PySem PySem.Spec PyProof.Rows
section
variable {P:Program}{w:World}{K:zPS}{mg:Str->Option Value}{base:Heap}{N:List Str}{qual:Str}{scope:Scope}{f C:Addr}{cd:Value}{A:Around}{outer:List Env}{s₀:Shared}{H₀:Hp}{E:XK}
end
section
variable {X:Cx}{CX:CXT}{k:Nat}{f C:Addr}{fd:FuncData}{ps:List Str}{sp:Sp}{E0:XK}{E:St->XK}{x:Str}{np cpos pos:Pos}{e:Expr}{es:List Expr}{t:TA}
end
section
variable {P:Program}{w:World}{K:zPS}{mg:Str->Option Value}{base:Heap}{N:List Str}{qual:Str}{scope:Scope}{f:Addr}{cd:Value}{A:Around}{outer:List Env}{s₀:Shared}{H₀:Hp}{E:XK}
end
section
variable {X:Cx}{e:Expr}{f:Str}{pos:Pos}{ta:TE}
end
end L2
namespace PySem
open PyProof.Rows
section
variable {prog:Program}{w:World}{K:Type}[DecidableEq K]{knd:KeyKind prog w K}{A:Around}{R:Result->Shared->Prop}{d it l:Addr}{items:Array Value}{ps:List (K×Value)}
end
section
variable {prog:Program}{w:World}{K:Type}[DecidableEq K]{knd:KeyKind prog w K}{A:Around}{E:Value->Shared->Prop}{s:Shared}
end
end PySem
namespace L2
open PySem PySem.Spec PyProof.Rows
section
variable {X:Cx}
end
end L2
namespace PySem
open PyProof.Rows
section
variable {prog:Program}{w:World}{K:Type}[DecidableEq K]{knd:KeyKind prog w K}{A:Around}{E:Value->Shared->Prop}{s:Shared}
end
end PySem
namespace L2
open PySem PySem.Spec PyProof.Rows
section
variable {X:Cx}
end
section
variable {X:Cx}{K:zPS}
end
section
variable {X:Cx}{K:zPS}{o e i value:Expr}{f:Str}{pos pos' apos p:Pos}{ta tv td ty:TE}{CX:CXT}{k:Nat}{g C:Addr}{fd:FuncData}{ps:List Str}{sp:Sp}{dvs:List V}{ds:List Value}{E:XK}{x m:Str}
theorem zo(hK:X.K=K)(he:QE X e ta)(hb:attributeBase e f X.env (eval e X.env)=eval e X.env):QE X (.Attribute e f pos) (zFI K ta f):=by
 subst hK;exact ⟨zMk he.out hb⟩
theorem zBN(hK:X.K=K)(ha:QE X o ta)(hv:QE X value tv)(hs:swapsWith value (some (.Attribute o f pos')) pos.line X.env=pure false):QS X (.Assign [.Attribute o f pos'] value pos) (zNL K ta tv f):=by
 subst hK;exact ⟨zNR ha.out hv.out hs⟩
theorem zLs{pl:Sem Bool}(he:QE X o ta)(c:Cls X.K C)(hm:Meth X.K C m g)(F:FnOk X.prog X.w X.K X.mg X.base CX k g fd ps sp)(hr:Room k X.A)(hb:zO X.K fd ps ds)(hd:zP dvs ds)(hx:zAT CX X E)
  (ht:eval (.Call (.Attribute o m apos) [] [] pos) X.env=(do
   let ov<-eval o X.env
   standAt apos.atName
   let (f,first)<-holding [ov] (getMethod ov m pl)
   callWith pos f first (backTo pos (starEach [] X.env)) (backToKw pos (keywordEach [] X.env)))):
  QE X (.Call (.Attribute o m apos) [] [] pos) (zGB C m sp dvs E ta zCG):=⟨zKg he.out c hm F hr hb hd hx ht⟩
def zOG(td ty tv:TE):TS:=fun D σ H=>tv σ H fun v H1=>td σ H1 fun x H2=>ty σ H2 fun y H3=>zLK x y v H3 fun H4=>D.nx σ H4
theorem zGp(ho:QE X o td)(hi:QE X i ty)(hv:QE X value tv)(hs:swapsWith value (some (.Subscript o i pos')) pos.line X.env=pure false):QS X (.Assign [.Subscript o i pos'] value pos) (zOG td ty tv):=by
 refine ⟨fun pins s σ H D I h=>?_⟩;refine wpAny_Assign_Subscript (zW (hv.out pins s σ H _ I h) fun r s1 ⟨v,H1,I1,rv,q1⟩=>zW (ho.out pins s1 σ H1 _ I1 q1) fun u s2 ⟨x,H2,I2,rx,q2⟩=>zW (hi.out pins s2 σ H2 _ I2 q2) fun iv s3 ⟨y,H3,I3,ry,q3⟩=>?_) hs;exact zW (zJr pins s3 σ H3 x y v u iv r _ I3 rx ry rv q3) fun _ s4 ⟨H4,I4,q4⟩=>⟨σ,H4,I4,q4⟩
end
end L2
namespace PySem
open PyProof.Rows
section
variable {prog:Program}{w:World}{K:Type}[DecidableEq K]{knd:KeyKind prog w K}{A:Around}{E:Value->Shared->Prop}{s:Shared}
end
end PySem
namespace L2
open PySem PySem.Spec PyProof.Rows
theorem zDx{M:Model}{A:Around}{E:Value->Shared->Prop}{s:Shared}{scope:Scope}{globals:Addr}{cl:List (Str×Addr)}{qual:Str}{outer:Env}{Q:Env->Shared->Prop}
  (hQ: ∀h',h'=pushCells (s.heap.push {cls:= .type "dict",data:= .dict #[]}) scope.names->h'.Ns s.heap.objs.size (fun _=>none)->
   Q (newEnv scope s.heap.objs.size globals (cellsFrom (s.heap.objs.size+1) scope.names cl) qual none .none (some outer) builtinsNs) {s with heap:=h',toks:=s.toks+([] :List (Str×Value)).length}):
  wpAny M A (newFunctionEnv scope globals cl [] qual none .none (some outer)) Q E s:=by
 simp only [newFunctionEnv,Option.isSome_some,if_true];refine zOe (wpAny_alloc ?_);refine zOe (wpAny_layCells _ (fun name kind cells=>by cases hkc:kind==NameKind.cell<;>simp [hkc]) _ _ _ _ ?_);rw [show ({s with heap:=s.heap.push {cls:= .type "dict",data:= .dict #[]}}:Shared).heap.objs.size=s.heap.objs.size+1 from Heap.size_push ..];refine zOe ?_;rw [List.forIn_nil];refine zOj (zOj ?_);exact hQ _ rfl ((Heap.Ns.new s.heap (.type "dict")).keeps (pushCells_keeps _ _))
theorem zBV: ∀(names:List (Str×NameKind)) (h:Heap) (acc:List (Str×Addr)) (y:Str) (a:Addr),(cellsFrom h.objs.size names acc).lookup y=some a->acc.lookup y=some a\/(@LE.le Nat _ h.objs.size a/\(pushCells h names).IsCell a none)
 | [],h,acc,y,a,e=> .inl e
 |(name,kind)::r,h,acc,y,a,e=>by
  unfold cellsFrom at e;unfold pushCells;split at e
  ·rename_i hk
   rw [if_pos hk];have ih:=zBV r (h.push {cls:= .type "cell",data:= .cell none}) ((name,h.objs.size)::acc) y a (by rw [Heap.size_push];exact e);rcases ih with z |⟨z1,z2⟩
   ·rw [List.lookup_cons] at z;split at z
    ·cases z;exact .inr ⟨zOh _,⟨_,pushCells_keeps r _ _ _ (zOw h rfl),rfl⟩⟩
    ·exact .inl z
   ·rw [Heap.size_push] at z1;exact .inr ⟨Nat.le_of_succ_le z1,z2⟩
  ·rename_i hk
   rw [if_neg hk];exact zBV r h acc y a e
theorem zCN: ∀(names:List (Str×NameKind)) (b:Nat) (acc:List (Str×Addr)),(∀y a,acc.lookup y=some a-> @LT.lt Nat _ a b)->(∀y z a,acc.lookup y=some a->acc.lookup z=some a->y=z)->
  ∀y z a,(cellsFrom b names acc).lookup y=some a->(cellsFrom b names acc).lookup z=some a->y=z
 | [],b,acc,_,hi=>hi
 |(name,kind)::r,b,acc,hb,hi=>by
  unfold cellsFrom;split
  ·refine zCN r (b+1) ((name,b)::acc) (fun y a e=>?_) (fun y z a e1 e2=>?_)
   ·rw [List.lookup_cons] at e;split at e
    ·cases e;exact Nat.lt_succ_self _
    ·exact Nat.lt_succ_of_lt (hb y a e)
   ·rw [List.lookup_cons] at e1 e2;split at e1<;>split at e2
    ·rename_i b1 h1 b2 h2
     rw [beq_iff_eq] at h1 h2;rw [h1,h2]
    ·cases e1;exact absurd (hb z _ e2) (Nat.lt_irrefl _)
    ·cases e2;exact absurd (hb y _ e1) (Nat.lt_irrefl _)
    ·exact hi y z a e1 e2
  ·exact zCN r b acc hb hi
theorem zCQ: ∀(names:List (Str×NameKind)) (b:Nat) (acc:List (Str×Addr)) (lo:Nat) (x:Str),lo<=b->(names.lookup x=some .cell\/ ∀c,acc.lookup x=some c-> @LE.le Nat _ lo c)-> ∀c,(cellsFrom b names acc).lookup x=some c-> @LE.le Nat _ lo c
 | [],b,acc,lo,x,_,h,c,e=>by
  rcases h with h | h
  ·cases h
  ·exact h c e
 |(name,kind)::r,b,acc,lo,x,hb,h,c,e=>by
  unfold cellsFrom at e;split at e
  ·rename_i hk
   refine zCQ r (b+1) ((name,b)::acc) lo x (Nat.le_succ_of_le hb) ?_ c e;by_cases hx:(x==name)=true
   ·refine .inr fun c' e'=>?_;rw [List.lookup_cons,hx] at e';cases e';exact hb
   ·have hx':(x==name)=false:=by simpa using hx
    rcases h with h | h
    ·rw [List.lookup_cons,hx'] at h;exact .inl h
    ·refine .inr fun c' e'=>?_;rw [List.lookup_cons,hx'] at e';exact h c' e'
  ·rename_i hk
   refine zCQ r b acc lo x hb ?_ c e;rcases h with h | h
   ·rw [List.lookup_cons] at h;split at h
    ·cases h;exact absurd rfl hk
    ·exact .inl h
   ·exact .inr h
abbrev Cx.compN(X:Cx)(scope:Scope)(cl:List (Str×Addr))(C:Addr)(N:List Str)(s₂:Shared)(H₂:Hp)(fp:List Addr):Cx:=
 {X.comp scope (cellsFrom (C+1) scope.names cl) C N s₂ H₂ fp with fn:=fun x=>scope.names.lookup x==some .cell}
theorem zKP{X:Cx}{elt iter tg:Expr}{ifs:List Expr}{zs:List Str}{pos:Pos}{scope:Scope}{cl:List (Str×Addr)}{ys:List Str}{fr:List Nat}{wi:TI}{g:TG}{tt:TT}{te:TE}(hcm:X.calm=true)
  (hi:PI X tg iter wi) (hclos:closureFor scope X.env=pure cl) (hkind:scope.kind= .function) (hnames: ∀y∈scope.names,y.2= .local->scope.names.lookup y.1=some .local)
  (hcl: ∀y a,cl.lookup y=some a->X.env.cells.lookup y=some a)
  (hlen:ys.length=fr.length) (hfr: ∀(j:Nat) y i,ys[j]?=some y->fr[j]?=some i->X.N[i]?=some y/\X.env.kindOf y=some .cell/\(relabel scope X.env).names.lookup y=some .cell/\ ∃a,(∀C:Addr,(cellsFrom (C+1) scope.names cl).lookup y=some a)/\X.env.cells.lookup y=some a)
  (hhas: ∀C:Addr,∀y,((relabel scope X.env).names.lookup y=some .cell\/(relabel scope X.env).names.lookup y=some .free)-> ∃a,(cellsFrom (C+1) scope.names cl).lookup y=some a)
  (hg: ∀C s₂ H₂ fp,PG (X.compN scope cl C (zs++ys) s₂ H₂ fp) tg g) (hc: ∀C s₂ H₂ fp,PTs (X.compN scope cl C (zs++ys) s₂ H₂ fp) ifs tt) (he: ∀C s₂ H₂ fp,PE (X.compN scope cl C (zs++ys) s₂ H₂ fp) elt te) (hs: ∀v,foldedSetIterable iter X.env v=pure v:=by intro _;rfl):
  PE X (.ListComp elt [⟨tg,iter,ifs,0⟩] scope pos) (zCI wi g tt te zs.length fr):=by
 intro pins s σ H Q I h;rw [eval_ListComp];refine wpAny_comprehension_free (use:=none) rfl hs hclos hkind hnames (zW (hi pins s σ H _ I h) fun v s1 h1=>zW h1 fun itv s2 h2=>?_);obtain ⟨it,fp,tn,J,H2,e,I2,T,st2,f2,h2⟩:=h2;subst e;have hD:H2 s2.heap.objs.size=none:=I2.hok.fresh (zOh _);obtain ⟨W,⟨m0,w0⟩,turn⟩:=h2 s2.heap.objs.size hD;refine wpAny_newObj_type (zDx (fun h₁ hh₁ hns₁=>?_));dsimp only at hh₁ hns₁⊢;generalize hH3:s2.heap.push {cls:= .type "list",dict:=none,data:= .seq ([] :List Value).toArray}=H3 at hh₁ hns₁⊢;have hCs:H3.objs.size=s2.heap.objs.size+1:=by rw [<-hH3,Heap.size_push]
 have old: ∀b o,s2.heap.get? b=some o->h₁.get? b=some o:=fun b o e=>
  hh₁▸pushCells_keeps _ _ b o (zOf _ (hH3▸zOf _ e))
 have hacc:h₁.get? s2.heap.objs.size=some {cls:= .type "list",dict:=none,data:= .seq ([] :List Value).toArray}:=
  hh₁▸pushCells_keeps _ _ _ _ (zOf _ (hH3▸zOw _ rfl))
 have fplt: ∀b∈fp,@LT.lt Nat _ b s2.heap.objs.size:=fun b hb=>by
  obtain ⟨o,e,_⟩:=T.obj _ _ st2 b hb;exact yA e
 have hCz:(H3.push {cls:= .type "dict",data:= .dict #[]}).objs.size=H3.objs.size+1:=Heap.size_push ..;have clt: ∀y a,cl.lookup y=some a-> @LT.lt Nat _ a s2.heap.objs.size:=fun y a e=>by
  obtain ⟨v,o,ho,hd⟩:=I2.cell y a (hcl y a e);exact yA ho
 have csp: ∀y a,(cellsFrom (H3.objs.size+1) scope.names cl).lookup y=some a->cl.lookup y=some a\/(@LE.le Nat _ (H3.objs.size+1) a/\h₁.IsCell a none):=fun y a e=>by
  have z:=zBV scope.names (H3.push {cls:= .type "dict",data:= .dict #[]}) cl y a (by rw [hCz];exact e);rw [hCz] at z;rw [hh₁];exact z
 have okC:(X.compN scope cl H3.objs.size (zs++ys) s2 H2 fp).Ok:=by
  refine ⟨I2.ok.mod,hkind,I2.ok.glob,I2.ok.blt,?_,zCN scope.names (H3.objs.size+1) cl (fun y a e=>zOm (clt y a e) (by omega)) (fun y z a h1 h2=>I2.ok.inj y z a (hcl y a h1) (hcl z a h2)),fun y hy=>hhas _ y hy,fun y a z e=>zCQ scope.names (H3.objs.size+1) cl s2.heap.objs.size y (by omega) (.inl (by simpa using z)) a e,I2.ok.hd,I2.ok.frames,.inl rfl,fun b hb=>⟨?_,fun y a e z=>?_⟩,I2.bs,zOr I2.ok.bsz I2.sz,fun b o e hb=>?_,fun b hb z=>?_,I2.stack,I2.stkFree⟩
  ·show s2.heap.objs.size<=H3.objs.size;omega
  ·show b≠H3.objs.size;have:=fplt b hb;exact zOl (by omega)
  ·rcases csp y a e with e |⟨e,_⟩
   ·exact (f2 b hb).2.2.2.2.1 y a (hcl y a e) z
   ·have:=fplt b hb;rw [<-z] at this;have e': @LE.le Nat _ (H3.objs.size+1) a:=e;omega
  ·rcases (f2 b hb).2.2.2.1 with z | z
   ·exact I2.ok.noex b o e z
   ·have z': @LE.le Nat _ X.s₀.heap.objs.size b:=z;have: @LT.lt Nat _ b X.base.objs.size:=yA e;have:=I2.ok.bsz;omega
  ·rcases List.mem_cons.mp (I2.stkSub b z) with y | y
   ·exact (f2 b hb).2.1 y
   ·exact (f2 b hb).2.2.1 y
 have fpok: ∀{H':Hp},(∀b∈fp,H' b=none)-> ∀b∈fp,zAy (X.compN scope cl H3.objs.size (zs++ys) s2 H2 fp) [] H' b:=fun hn b hb=>
  ⟨hn b hb,(okC.exf b hb).1,okC.exfs b hb,.inl hb,(okC.exf b hb).2,fun p hp=>absurd hp (by simp)⟩
 have start:Inv (X.compN scope cl H3.objs.size (zs++ys) s2 H2 fp) [] (List.replicate zs.length none++zX fr σ) (upd H2 s2.heap.objs.size (.lst [])) {s2 with heap:=h₁,toks:=s2.toks+([] :List (Str×Value)).length}:=by
  refine ⟨okC,rfl,I2.bare,Un.laid old (zOh _) hD,⟨_,hns₁,fun j y v e1 e2 e3=>?_⟩,fun y a e=>?_,?_,fun y a e=>?_,fun p hp=>absurd hp (by simp),I2.hok.laid old (zOh _) ⟨zOs _,[],_,.nil,hacc⟩,?_⟩
  ·by_cases hj:j<zs.length
   ·rw [List.getElem?_append_left (by simpa using hj),List.getElem?_replicate] at e2;rw [if_pos hj] at e2;cases e2
   ·obtain ⟨j,rfl⟩: ∃k,j=zs.length+k:=⟨j - zs.length,by omega⟩;have e1':ys[j]?=some y:=by
     have z:=e1;simp only [Cx.comp] at z;rw [List.getElem?_append_right (by omega)] at z;simpa using z
    have e2':(zX fr σ)[j]?=some (some v):=by
     rw [List.getElem?_append_right (by simp)] at e2;simpa using e2
    unfold zX at e2';rw [zOi] at e2';cases q:fr[j]? with
    | none=>rw [q] at e2';cases e2'
    | some i=>
     rw [q] at e2';have e4:(σ[i]?).getD none=some v:=Option.some.inj e2';have e5:σ[i]?=some (some v):=by
      cases q2:σ[i]? with
      | none=>rw [q2] at e4;cases e4
      | some z=>rw [q2] at e4;exact congrArg some e4
     obtain ⟨hN,hk,hl,a,ha,ha'⟩:=hfr j y i e1' q;obtain ⟨m,_,hl2⟩:=I2.loc;obtain ⟨u,r,l⟩:=hl2 i y v hN e5 (.inr (.inl hk));refine ⟨u,r,.inr ⟨.inl hl,a,ha _,?_⟩⟩;rcases l with ⟨k,_⟩|⟨_,a2,ea,z⟩
     ·rw [hk] at k;cases k
     ·rw [ha'] at ea;cases ea;obtain ⟨o,ho,hd⟩:=z;exact ⟨o,old _ _ ho,hd⟩
  ·rcases csp y a e with e |⟨_,e⟩
   ·obtain ⟨v,o,ho,hd⟩:=I2.cell y a (hcl y a e);exact ⟨v,o,old _ _ ho,hd⟩
   ·exact ⟨none,e⟩
  ·show upd H2 s2.heap.objs.size (.lst []) H3.objs.size=none;rw [zG (by first | exact zOl (by omega)| exact zPM (by omega))];exact I2.hok.fresh (by omega)
  ·rcases csp y a e with e |⟨e,_⟩
   ·have:=clt y a e;rw [zG (by first | exact zOl (by omega)| exact zPM (by omega))];exact I2.freeC y a (hcl y a e)
   ·have e': @LE.le Nat _ (H3.objs.size+1) a:=e;rw [zG (by first | exact zOl (by omega)| exact zPM (by omega))];exact I2.hok.fresh (by show @LE.le Nat _ s2.heap.objs.size a;omega)
  ·show (List.replicate zs.length none++zX fr σ).length=(zs++ys).length;unfold zX;simp [hlen]
 have loop: ∀s₃:Shared,s₃={s2 with heap:=h₁,toks:=s2.toks+([] :List (Str×Value)).length}->
   codeAny (model X.prog X.w) X.A (.compLoop (.ListComp elt [⟨tg,iter,ifs,0⟩] scope pos) 0 (.ref it) (.ref s2.heap.objs.size) (compEnvC scope (cellsFrom (H3.objs.size+1) scope.names cl) H3.objs.size X.env)) (compPost (model X.prog X.w) X.A X.xe none (EP X pins σ Q) (.ref s2.heap.objs.size) H3.objs.size) s₃:=by
  rintro s₃ rfl;refine zEb (fun n s'=> ∃i pre ys' H',pre.length=zs.length/\Inv (X.compN scope cl H3.objs.size (zs++ys) s2 H2 fp) [] (pre++zX fr σ) H' s'/\tn i s'.heap/\(∀b∈fp,H' b=none)/\W i n ys' H') ?_ m0
   ⟨0,List.replicate zs.length none,[],_,by simp,start,T.keep _ _ _ st2 fun b hb o e=>old b o e,fun b hb=>by
    have:=fplt b hb;rw [zG (by first | exact zOl (by omega)| exact zPM (by omega))];exact (f2 b hb).1,w0⟩
  rintro n s3 ⟨i,pre,ys3,H',hpl,I3,st3,fr3,w3⟩;obtain ⟨hl3,alt⟩:=turn i n ys3 H' w3;rcases alt with ⟨stop,qn⟩|⟨go,hz,N,hN,step⟩
  ·refine zOy (T.done (X.compN scope cl H3.objs.size (zs++ys) s2 H2 fp) rfl rfl rfl hcm i [] s3 _ H' (fun _ _=>False) I3 (fpok fr3) st3 stop) (fun r s4 h4=>?_) fun _ _ z=>z.elim;obtain ⟨hr,I4⟩:=h4;subst hr;obtain ⟨m4,hn4,_⟩:=id I4.loc;refine ⟨m4,hn4,fun h'' hs''=>?_⟩;have hb: ∀b o,b≠H3.objs.size->s4.heap.get? b=some o->h''.get? b=some o:=fun b o hb e=>(hs''.2 b hb).trans e;have I5:Inv X pins σ H' {s4 with heap:=h''}:=by
    refine I2.call' (s':={s4 with heap:=h''}) (ch:=fp) I4.os ⟨fun b o e n hb' hx'=>?_,fun b o e n hb' hx'=>?_,fun b o e n hx'=>I4.base.free b o e n hx',fun b o e hx'=>?_,I4.base.tups,I4.base.frzs,I4.base.tbls⟩ (fun b u e=>?_) I4.bare fun b hb'=>⟨(f2 b hb').2.2.2.1,(f2 b hb').2.1,(f2 b hb').2.2.2.2.1,(f2 b hb').2.2.2.2.2⟩
    ·exact hb b o (zOl (by have:=yA e;omega)) (I4.base.keep b o e n hb' hx')
    ·obtain ⟨sl,q⟩:=I4.base.slot b o e n hb' hx';exact ⟨sl,hb b _ (zOl (by have:=yA e;omega)) q⟩
    ·obtain ⟨o',q⟩:=I4.base.there b o e hx';exact ⟨o',hb b _ (zOl (by have:=yA e;omega)) q⟩
    ·refine (I4.hok b u e).stay (fun c' w' hc' q=>hb c' w' ?_ q) (fun _ q=>q) fun _ _ q=>q;intro z;have fz:H' H3.objs.size=none:=I4.free;rcases hc' with y | y
     ·rw [<-y,z,fz] at e;cases e
     ·rw [z,fz] at y;cases y
   exact ⟨.ref s2.heap.objs.size,H',I5,rfl,qn⟩
  ·refine zOy (T.item (X.compN scope cl H3.objs.size (zs++ys) s2 H2 fp) rfl rfl rfl hcm i [] s3 _ H' (fun _ _=>False) I3 (fpok fr3) st3 go) (fun r s4 h4=>?_) fun _ _ z=>z.elim;obtain ⟨u,hr,h4⟩:=h4;subst hr;dsimp only;have asg:wpAny (model X.prog X.w) X.A (letOwnedTupleGo tg (.ref it) u) (fun _ s5=>wpAny (model X.prog X.w) X.A (assign tg (compEnvC scope (cellsFrom (H3.objs.size+1) scope.names cl) H3.objs.size X.env) u)
     (fun _ s6=> ∃σ5 H6,(∃pn5,Inv (X.compN scope cl H3.objs.size (zs++ys) s2 H2 fp) pn5 σ5 H6 s6/\(∀b∈fp,∃o,(b,o)∈pn5))/\((∃zn:St,zn.length=zs.length/\σ5=zn++zX fr σ)/\
      tt σ5 H6 fun b H3'=>if b=true then te σ5 H3' fun y H4=>H4 s2.heap.objs.size=some (.lst ys3)/\N (ys3++ [y]) (upd H4 s2.heap.objs.size (.lst (ys3++ [y]))) else N ys3 H3')/\tn (i+1) s6.heap/\ ∀b∈fp,H6 b=none) (fun _ _=>False) s5) (fun _ _=>False) s4:=by
    refine (zW h4 fun _ s5 ⟨x5,H5,I5,r5,y5,st5,fr5⟩=>?_);have I5':=I5.pinned (fpok fr5) (T.obj _ _ st5);refine zOy (hg _ _ _ _ _ s5 _ H5 x5 u _ I5' r5 (step x5 H5 y5 pre hpl)) (fun _ s6 ⟨σ6,H6,I6,q6⟩=>?_) fun _ _ z=>z.elim;exact ⟨σ6,H6,⟨_,I6,fun b hb=>by
     obtain ⟨o,e,_⟩:=T.obj _ _ st5 b hb;exact ⟨o,zOt _ (yI hb e)⟩⟩,q6,T.keep _ _ _ st5 fun b hb o e=>(I6.pin (b,o) (zOt _ (zOt _ (yI hb e)))).1,fun b hb=>by
     obtain ⟨o,e,_⟩:=T.obj _ _ st5 b hb;exact (I6.pin (b,o) (zOt _ (zOt _ (yI hb e)))).2.1⟩
   refine zOy asg (fun _ s5 h5=>zOy h5 (fun _ s6 h6=>?_) fun _ _ z=>z.elim) fun _ _ z=>z.elim;obtain ⟨σ5,H5,⟨pn5,I6,hp6⟩,⟨⟨zn,hl2,rfl⟩,q6⟩,st6,fr5⟩:=h6;have keepTurn: ∀{σ7:St} {H7:Hp} {s7:Shared},Inv (X.compN scope cl H3.objs.size (zs++ys) s2 H2 fp) pn5 σ7 H7 s7->tn (i+1) s7.heap/\ ∀b∈fp,H7 b=none:=fun {σ7 H7 s7} I7=>by
    refine ⟨T.keep _ _ _ st6 fun b hb o e=>?_,fun b hb=>?_⟩
    ·obtain ⟨o',hm⟩:=hp6 b hb;have a1:=(I6.pin (b,o') (zOt _ hm)).1;rw [e] at a1;cases a1;exact (I7.pin (b,_) (zOt _ hm)).1
    ·obtain ⟨o',hm⟩:=hp6 b hb;exact (I7.pin (b,o') (zOt _ hm)).2.1
   have drop: ∀{σ7:St} {H7:Hp} {s7:Shared},Inv (X.compN scope cl H3.objs.size (zs++ys) s2 H2 fp) pn5 σ7 H7 s7->Inv (X.compN scope cl H3.objs.size (zs++ys) s2 H2 fp) [] σ7 H7 s7:=fun I7=>I7.pins_of fun p hp=>absurd hp (by simp);have tests:wpAny (model X.prog X.w) X.A (zBA ifs (compEnvC scope (cellsFrom (H3.objs.size+1) scope.names cl) H3.objs.size X.env)) (fun b s7=> ∃H7,Inv (X.compN scope cl H3.objs.size (zs++ys) s2 H2 fp) pn5 (zn++zX fr σ) H7 s7/\
     (if b=true then te (zn++zX fr σ) H7 fun y H4=>H4 s2.heap.objs.size=some (.lst ys3)/\N (ys3++ [y]) (upd H4 s2.heap.objs.size (.lst (ys3++ [y]))) else N ys3 H7)) (fun _ _=>False) s6:=by
    rcases hc H3.objs.size s2 H2 fp with ⟨rfl,rfl⟩|⟨c,rfl,hc2⟩
    ·exact wpAny_tests_nil ⟨H5,I6,q6⟩
    ·exact wpAny_tests_one (zOy (hc2 pn5 s6 _ H5 _ I6 q6) (fun b s7 ⟨H7,I7,q7⟩=>⟨H7,I7,q7⟩) fun _ _ z=>z.elim)
   refine zOy tests (fun b s7 h7=>?_) fun _ _ z=>z.elim;obtain ⟨H7,I7,q7⟩:=h7;cases b with
   | false=>
    obtain ⟨m',hm,w'⟩:=hN _ _ q7;obtain ⟨k1,k2⟩:=keepTurn I7;exact ⟨m',hm,i+1,zn,ys3,H7,hl2,drop I7,k1,k2,w'⟩
   | true=>
    refine zOy (he _ _ _ _ pn5 s7 _ H7 _ I7 q7) (fun y s8 h8=>?_) fun _ _ z=>z.elim;obtain ⟨yv,H8,I8,r8,hl8,n8⟩:=h8;refine zOy (zBb (X:=X.compN scope cl H3.objs.size (zs++ys) s2 H2 fp) pn5 s8 _ H8 (.ref s2.heap.objs.size) [yv] (.ref s2.heap.objs.size) [y] (fun z H9=>N (ys3++ [yv]) H9) I8 rfl (.cons r8 .nil) ⟨s2.heap.objs.size,ys3,yv,rfl,rfl,hl8,hz,n8⟩) (fun _ s9 h9=>?_) fun _ _ z=>z.elim;obtain ⟨_,H9,I9,_,n9⟩:=h9;obtain ⟨m',hm,w'⟩:=hN _ _ n9;obtain ⟨k1,k2⟩:=keepTurn I9;exact ⟨m',hm,i+1,zn,ys3++ [yv],H9,hl2,drop I9,k1,k2,w'⟩
 exact codeAny_compStart_list (loop _ rfl) (T.self X.A 0 _ _ _ (T.keep _ _ _ st2 fun b hb o e=>old b o e) (loop _ rfl))
theorem zJi{X:Cx}{elt iter tg:Expr}{ifs:List Expr}(zs:List Str){pos:Pos}{scope:Scope}{cl:List (Str×Addr)}(ys:List Str)(fr:List Nat){wi:TI}{g:TG}{tt:TT}{te:TE}(hcm:X.calm=true)
  (hi:QI X tg iter wi) (hclos:closureFor scope X.env=pure cl) (hkind:scope.kind= .function) (hnames: ∀y∈scope.names,y.2= .local->scope.names.lookup y.1=some .local)
  (hcl: ∀y a,cl.lookup y=some a->X.env.cells.lookup y=some a)
  (hlen:ys.length=fr.length) (hfr: ∀(j:Nat) y i,ys[j]?=some y->fr[j]?=some i->X.N[i]?=some y/\X.env.kindOf y=some .cell/\(relabel scope X.env).names.lookup y=some .cell/\ ∃a,(∀C:Addr,(cellsFrom (C+1) scope.names cl).lookup y=some a)/\X.env.cells.lookup y=some a)
  (hhas: ∀C:Addr,∀y,((relabel scope X.env).names.lookup y=some .cell\/(relabel scope X.env).names.lookup y=some .free)-> ∃a,(cellsFrom (C+1) scope.names cl).lookup y=some a)
  (hg: ∀C s₂ H₂ fp,QG (X.compN scope cl C (zs++ys) s₂ H₂ fp) tg g) (hc: ∀C s₂ H₂ fp,QTs (X.compN scope cl C (zs++ys) s₂ H₂ fp) ifs tt) (he: ∀C s₂ H₂ fp,QE (X.compN scope cl C (zs++ys) s₂ H₂ fp) elt te) (hs: ∀v,foldedSetIterable iter X.env v=pure v):
  QE X (.ListComp elt [⟨tg,iter,ifs,0⟩] scope pos) (zCI wi g tt te zs.length fr):=
 ⟨zKP hcm hi.out hclos hkind hnames hcl hlen hfr hhas (fun C s H f=>(hg C s H f).out) (fun C s H f=>(hc C s H f).out) (fun C s H f=>(he C s H f).out) hs⟩
theorem zFF{X:Cx}{elt iter tg:Expr}{ifs:List Expr}(zs:List Str){pos:Pos}{scope:Scope}{cl:List (Str×Addr)}(ys:List Str)(fr:List Nat){wi:TI}{g:TG}{tt:TT}{te:TE}(hcm:X.calm=true)
  (hi:QI X tg iter wi) (hclos:closureFor scope X.env=pure cl) (hkind:scope.kind= .function) (hnames: ∀y∈scope.names,y.2= .local->scope.names.lookup y.1=some .local)
  (hcl: ∀y a,cl.lookup y=some a->X.env.cells.lookup y=some a)
  (hlen:ys.length=fr.length) (hfr: ∀(j:Nat) y i,ys[j]?=some y->fr[j]?=some i->X.N[i]?=some y/\X.env.kindOf y=some .cell/\(relabel scope X.env).names.lookup y=some .cell/\ ∃a,(∀C:Addr,(cellsFrom (C+1) scope.names cl).lookup y=some a)/\X.env.cells.lookup y=some a)
  (hhas: ∀C:Addr,∀y,((relabel scope X.env).names.lookup y=some .cell\/(relabel scope X.env).names.lookup y=some .free)-> ∃a,(cellsFrom (C+1) scope.names cl).lookup y=some a)
  (hg: ∀C s₂ H₂ fp,QG (X.compN scope cl C (zs++ys) s₂ H₂ fp) tg g) (hc: ∀C s₂ H₂ fp,QTs (X.compN scope cl C (zs++ys) s₂ H₂ fp) ifs tt) (he: ∀C s₂ H₂ fp,QE (X.compN scope cl C (zs++ys) s₂ H₂ fp) elt te) (hs: ∀v,foldedSetIterable iter X.env v=pure v):
  QE X (.ListComp elt [⟨tg,iter,ifs,0⟩] scope pos) (zEl wi g tt te zs.length fr):=
 zIG (zJi zs ys fr hcm (zEg hi) hclos hkind hnames hcl hlen hfr hhas hg hc he hs) fun σ H Q h=>⟨_,h,fun J H1 h1 D hD=>by
  obtain ⟨len,Pv,a0,a1,a2,a3,a4⟩:=(h1 D hD).ex;exact zCu D len Pv a0 a1 a2 a3 a4⟩
def Itz(K:zPS)(a b:Addr):It:=
 ⟨fun i H=> ∃xs ys x y,SqL K H a xs/\SqL K H b ys/\xs[i]?=some x/\ys[i]?=some y,fun i H v H'=> ∃t x y,(∀xs,SqL K H a xs->xs[i]?=some x)/\(∀ys,SqL K H b ys->ys[i]?=some y)/\H t=none/\v= .ref t/\H'=upd H t (.tup [x,y]),
  fun i H=> ∃xs ys,SqL K H a xs/\SqL K H b ys/\(xs.length<=i\/ys.length<=i)⟩
theorem zKA{P:Program}{w:World}{K:zPS}{elts:List Expr}{x1}{pos:Pos}(l1 l2 z TI TO i1 i2:Addr)(D:ZipApart z TI TO i1 i2 l1 l2):
  Turn P w K (.Tuple elts x1 pos) (Itz K l1 l2) [z,TI,TO,i1,i2] z (fun i h=>IsZip h z TI TO .none/\IsPair h TI (.ref i1) (.ref i2)/\(∃a b,IsPair h TO a b)/\h.IsListIter i1 l1 i/\h.IsListIter i2 l2 i) where
 mem:=by simp
 obj:=fun i h st b hb=>by
  obtain ⟨e1,e2,⟨a,b',e3⟩,⟨o4,e4,c4,d4⟩,⟨o5,e5,c5,d5⟩⟩:=st;simp only [List.mem_cons,List.not_mem_nil,or_false] at hb;rcases hb with rfl | rfl | rfl | rfl | rfl
  ·exact ⟨_,e1,fun v z=>by have z':Data.fields _=Data.cell v:=z;cases z'⟩
  ·exact ⟨_,e2,fun v z=>by have z':Data.seq _=Data.cell v:=z;cases z'⟩
  ·exact ⟨_,e3,fun v z=>by have z':Data.seq _=Data.cell v:=z;cases z'⟩
  ·exact ⟨o4,e4,fun v z=>by rw [d4] at z;cases z⟩
  ·exact ⟨o5,e5,fun v z=>by rw [d5] at z;cases z⟩
 keep:=fun i h h' st k=>by
  obtain ⟨e1,e2,⟨a,b',e3⟩,e4,e5⟩:=st;exact ⟨k z (by simp) _ e1,k TI (by simp) _ e2,⟨a,b',k TO (by simp) _ e3⟩,e4.at fun o e=>k i1 (by simp) o e,e5.at fun o e=>k i2 (by simp) o e⟩
 item:=by
  intro X hP hw hK hc i pins s σ H E I hf st hg;subst hP hw hK;obtain ⟨xs,ys,x,y,hq1,hq2,hx,hy⟩:=hg;obtain ⟨hz,hTI,⟨a0,b0,hTO⟩,hi1,hi2⟩:=st;obtain ⟨its1,rv1,p1,hz1⟩:=I.list hq1;obtain ⟨its2,rv2,p2,hz2⟩:=I.list hq2;obtain ⟨u,hu,ru⟩:=rv1.get hx;obtain ⟨v,hv,rv⟩:=rv2.get hy;refine wpAny_pyNext_zip_item D hz hTI hTO hi1 hi2 p1.isList p2.isList (x:=u) (y:=v) (by simpa using hu) (by simpa using hv) fun h1 hzo hTO1 hit1 hit2 ht hsz hk=>⟨_,rfl,?_⟩;refine wpAny_letOwnedTupleGo_zip hzo fun h2 he2 hs2=>?_;have lts: ∀c o,s.heap.get? c=some o->s.heap.objs.size≠c:=fun c o e=>zPM (zOn e);have nz:=lts _ _ hz;have nTI:=lts _ _ hTI;have nTO:=lts _ _ hTO;have ni1:s.heap.objs.size≠i1:=by obtain ⟨o,e,_⟩:=hi1;exact lts _ _ e
  have ni2:s.heap.objs.size≠i2:=by obtain ⟨o,e,_⟩:=hi2;exact lts _ _ e
  replace hs2:Heap.SameBut z h1 h2:=hs2;have new:h2.get? s.heap.objs.size=some {cls:= .type "tuple",data:= .seq #[u,v]}:=(hs2.2 _ nz).trans ht;have I1:Inv X pins σ (upd H s.heap.objs.size (.tup [x,y])) {s with heap:=s.heap.push {cls:= .type "tuple",data:= .seq #[u,v]},toks:=s.toks}:=
   I.laid (fun b q e=>zOf _ e) (zOh _) ⟨by show 2<=sizeLine;decide,[u,v],.cons ru (.cons rv .nil),_,zOw _ rfl,rfl,⟨_,rfl⟩,rfl⟩
  have nfp: ∀b∈ [z,TO,i1,i2],b≠s.heap.objs.size:=fun b hb=>by
   simp only [List.mem_cons,List.not_mem_nil,or_false] at hb;rcases hb with rfl | rfl | rfl | rfl
   ·exact Ne.symm nz
   ·exact Ne.symm nTO
   ·exact Ne.symm ni1
   ·exact Ne.symm ni2
  have I2:=Inv.turnedL (h':=h2) (t':=s.toks) (ch:= [z,TO,i1,i2]) I1 (fun b q hb e=>by
   simp only [List.mem_cons,List.not_mem_nil,or_false,not_or] at hb;obtain ⟨b1,b2,b3,b4⟩:=hb;replace e:(s.heap.push {cls:= .type "tuple",data:= .seq #[u,v]}).get? b=some q:=e;by_cases hbs:b=s.heap.objs.size
   ·subst hbs;rw [zOw _ rfl] at e;cases e;exact new
   ·rw [Heap.get?_push_ne _ _ _ hbs] at e;exact (hs2.2 b b1).trans (hk b q b1 b2 b3 b4 e)) (fun b hb=>(hf b (by simp only [List.mem_cons,List.not_mem_nil,or_false] at hb⊢;rcases hb with r | r | r | r<;>simp [r])).upd (nfp b hb))
  refine ⟨.ref s.heap.objs.size,_,I2,rfl,⟨_,x,y,fun zs hzs=>by rw [I.list_inj hzs hq1];exact hx,fun zs hzs=>by rw [I.list_inj hzs hq2];exact hy,I.hok.fresh (zOh _),rfl,rfl⟩,
   ⟨he2,(hs2.2 _ D.TIz).trans (hk _ _ D.TIz D.TITO D.TIi1 D.TIi2 hTI),⟨u,v,(hs2.2 _ D.TOz).trans hTO1⟩,hit1.at fun o e=>(hs2.2 _ D.i1z).trans e,hit2.at fun o e=>(hs2.2 _ D.i2z).trans e⟩,fun b hb=>?_⟩
  have hb':b≠s.heap.objs.size:=by
   simp only [List.mem_cons,List.not_mem_nil,or_false] at hb;rcases hb with rfl | rfl | rfl | rfl | rfl
   ·exact Ne.symm nz
   ·exact Ne.symm nTI
   ·exact Ne.symm nTO
   ·exact Ne.symm ni1
   ·exact Ne.symm ni2
  rw [zG hb'];exact (hf b hb).1
 done:=by
  intro X hP hw hK hc i pins s σ H E I hf st hg;subst hP hw hK;obtain ⟨xs,ys,hq1,hq2,hx⟩:=hg;obtain ⟨hz,hTI,⟨a0,b0,hTO⟩,hi1,hi2⟩:=st;obtain ⟨its1,rv1,p1,hz1⟩:=I.list hq1;obtain ⟨its2,rv2,p2,hz2⟩:=I.list hq2;have hl1:=rv1.length;have hl2:=rv2.length;refine wpAny_pyNext_zip_end (I.ok.hd hc) D hz hTI hTO hi1 hi2 p1.isList p2.isList (hx.imp (fun h=>by simp;omega) (fun h=>by simp;omega)) fun h' hk=>⟨rfl,?_⟩;exact Inv.turnedL (h':=h') (t':=s.toks) (ch:= [z,TO,i1,i2]) I (fun b q hb e=>by
   simp only [List.mem_cons,List.not_mem_nil,or_false,not_or] at hb;obtain ⟨b1,b2,b3,b4⟩:=hb;exact hk b q b1 b2 b3 b4 e) (fun b hb=>hf b (by simp only [List.mem_cons,List.not_mem_nil,or_false] at hb⊢;rcases hb with r | r | r | r<;>simp [r]))
 self:=fun A i s Q E st h=>wpAny_pyIter_zip st.1 h
def zNI(K:zPS)(ta:TA):TI:=fun σ H R=>ta σ H fun vs H1=> ∃a b,vs= [.ref a,.ref b] /\(∃xs,SqL K H1 a xs)/\(∃ys,SqL K H1 b ys)/\R (Itz K a b) H1
theorem zJE:bootBuiltins "zip" =some (.type "zip"):=by decide+kernel
theorem zFH:bootBuiltins "reversed" =some (.type "reversed"):=by decide+kernel
theorem zMo{X:Cx}{a b:Expr}{ta:TA}{p pos tpos:Pos}{elts:List Expr}{x1}(hg:Gl X "zip")(hm:X.mg "zip" =none)(ha:PA X [a,b] ta)(h2:yM a=true)(h3:yM b=true):
  PI X (.Tuple elts x1 tpos) (.Call (.Name "zip" p) [a,b] [] pos) (zNI X.K ta):=by
 intro pins s σ H R I h;refine Call_ (zCF I hg hm zJE (PyProof.Rows.callWith_type1 (zW (ha pos pins s σ H _ I h) fun us s1 ⟨vs,H1,I1,r1,q1⟩=>?_) (zq h2) (zAY (by show (yM b&&true)=true;rw [h3];rfl))));obtain ⟨l1,l2,e,⟨xs,hq1⟩,⟨ys,hq2⟩,q⟩:=q1;subst e;obtain ⟨u,v,rfl,ru,rv⟩:=zP.two r1;cases ru;cases rv;obtain ⟨its1,rv1,pl1,hz1⟩:=I1.list hq1;obtain ⟨its2,rv2,pl2,hz2⟩:=I1.list hq2;have lt1:l1<s1.heap.objs.size:=by obtain ⟨o,e,_⟩:=pl1.isList;exact zOn e
 have lt2:l2<s1.heap.objs.size:=by obtain ⟨o,e,_⟩:=pl2.isList;exact zOn e
 refine call_zip_2 pl1.isList pl2.isList fun h' hz hTI hTO hi1 hi2 hsz hk=>?_;refine wpAny_pyIter_zip hz ?_;refine ⟨_,[s1.heap.objs.size+4,s1.heap.objs.size+2,s1.heap.objs.size+3,s1.heap.objs.size,s1.heap.objs.size+1],_,_,H1,rfl,I1.kept (t':=s1.toks) hk,zKA l1 l2 _ _ _ _ _ (zipApart_new lt1 lt2),⟨hz,hTI,⟨_,_,hTO⟩,hi1,hi2⟩,fun b hb=>?_,q⟩;have up: ∀k,zAy X pins H1 (s1.heap.objs.size+k):=fun k=>I1.fpOk (Nat.le_add_right _ k) (I1.hok.fresh (Nat.le_add_right _ k));simp only [List.mem_cons,List.not_mem_nil,or_false] at hb;rcases hb with rfl | rfl | rfl | rfl | rfl
 ·exact up 4
 ·exact up 2
 ·exact up 3
 ·exact up 0
 ·exact up 1
theorem zDk{X:Cx}{K:zPS}{a b:Expr}{ta:TA}{p pos tpos:Pos}{elts:List Expr}{x1}(hK:X.K=K)(hg:Gl X "zip")(hm:X.mg "zip" =none)(ha:QA X [a,b] ta)(h2:yM a=true)(h3:yM b=true):
  QI X (.Tuple elts x1 tpos) (.Call (.Name "zip" p) [a,b] [] pos) (zNI K ta):=by
 subst hK;exact ⟨zMo hg hm ha.out h2 h3⟩
def zMT(K:zPS)(a:Addr)(n:Nat):It:=
 ⟨fun i H=>i<n/\ ∃xs x,SqL K H a xs/\xs[n - 1 - i]?=some x,fun i H x H'=>H'=H/\ ∀xs,SqL K H a xs->xs[n - 1 - i]?=some x,fun i H=>n<=i⟩
theorem zKf{P:Program}{w:World}{K:zPS}{tg:Expr}(a it:Addr)(n:Nat):Turn P w K tg (zMT K a n) [it] it (fun i h=>i<=n/\h.IsRevIter it a ((n:Int) - 1 -(i:Int))) where
 mem:=by simp
 obj:=fun i h st b hb=>by
  have e:b=it:=by simpa using hb
  subst e;obtain ⟨_,o,e,c,d⟩:=st;exact ⟨o,e,fun v z=>by rw [d] at z;cases z⟩
 keep:=fun i h h' st k=>⟨st.1,st.2.at fun o e=>k it (by simp) o e⟩
 item:=by
  intro X hP hw hK hc i pins s σ H E I hf st hg;subst hP hw hK;obtain ⟨hi,xs,x,hq,hx⟩:=hg;obtain ⟨its,rv,p,hz⟩:=I.list hq;obtain ⟨u,hu,ru⟩:=rv.get hx;obtain ⟨f0,f1,f2,f3,f4,f5⟩:=hf it (by simp);have hit:=st.2;rw [show (n:Int) - 1 -(i:Int)=((n - 1 - i:Nat):Int) by omega] at hit;refine wpAny_pyNext_rev_item hit p.isList (x:=u) (by simpa using hu) fun h' st' sb=>?_;have I1:Inv X pins σ H {s with heap:=h'}:=I.turned (t':=s.toks) (fun b o hb e=>(sb.2 b hb).trans e) f0 f1 f3 f4 f5;obtain ⟨o,e,c,d⟩:=id st';rw [show ((n - 1 - i:Nat):Int) - 1=(n:Int) - 1 -((i+1:Nat):Int) by omega] at st';exact ⟨u,rfl,zIa (s:={s with heap:=h'}) e c d (by decide) ⟨x,H,I1,ru,⟨rfl,fun ys hy=>by rw [I.list_inj hy hq];exact hx⟩,⟨hi,st'⟩,fun b hb=>(hf b hb).1⟩⟩
 done:=by
  intro X hP hw hK hc i pins s σ H E I hf st hg;subst hP hw hK;have hg':n<=i:=hg;obtain ⟨f0,f1,f2,f3,f4,f5⟩:=hf it (by simp);have hit:=st.2;have hi:=st.1;rw [show (n:Int) - 1 -(i:Int)= -1 by omega] at hit;exact wpAny_pyNext_rev_end (I.ok.hd hc) hit fun h' eb=>⟨rfl,I.turned (t':=s.toks) (fun b o hb e=>eb b o hb e) f0 f1 f3 f4 f5⟩
 self:=fun _ _ _ _ _ st h=>wpAny_pyIter_revIter st.2 h
def zMz(K:zPS)(ta:TA):TI:=fun σ H R=>ta σ H fun vs H1=> ∃a xs,vs= [.ref a] /\SqL K H1 a xs/\R (zMT K a xs.length) H1
theorem zNi{X:Cx}{tg a:Expr}{ta:TA}{p pos:Pos}(hg:Gl X "reversed")(hm:X.mg "reversed" =none)(ha:PA X [a] ta)(hs:starEach [a] X.env= [(false,eval a X.env)]):
  PI X tg (.Call (.Name "reversed" p) [a] [] pos) (zMz X.K ta):=by
 intro pins s σ H R I h;refine Call_ (zCF I hg hm zFH (PyProof.Rows.callWith_type1 (zW (ha pos pins s σ H _ I h) fun us s1 ⟨vs,H1,I1,r1,q1⟩=>?_) hs rfl));obtain ⟨l,xs,e,hq,q⟩:=q1;subst e;obtain ⟨u,rfl,ru⟩:=zBX r1;cases ru;obtain ⟨its,rv,pl,hz⟩:=I1.list hq;have hl:=rv.length;refine call_reversed_list pl.isList ?_;have e1:(its.toArray.size:Int) - 1=(xs.length:Int) - 1:=by simp;omega
 rw [e1];have st:(s1.heap.push (revObj l ((xs.length:Int) - 1))).IsRevIter s1.heap.objs.size l ((xs.length:Int) - 1):=⟨_,zOw _ rfl,rfl,rfl⟩;refine wpAny_pyIter_revIter st ?_;refine ⟨_,[s1.heap.objs.size],_,_,H1,rfl,I1.kept (t':=s1.toks) (fun b o e=>zOf _ e),zKf l _ xs.length,⟨zOs _,by simpa using st⟩,fun b hb=>?_,q⟩;have r':b=s1.heap.objs.size:=by simpa using hb
 subst r';exact I1.fpOk (zOh _) (I1.hok.fresh (zOh _))
theorem zIV{X:Cx}{K:zPS}{tg a:Expr}{ta:TA}{p pos:Pos}(hK:X.K=K)(hg:Gl X "reversed")(hm:X.mg "reversed" =none)(ha:QA X [a] ta)(h2:yM a=true):
  QI X tg (.Call (.Name "reversed" p) [a] [] pos) (zMz K ta):=by
 subst hK;exact ⟨zNi hg hm ha.out (by rw [zq h2];rfl)⟩
open PyProof
section
variable {X:Cx}{K:zPS}{o e:Expr}{to te:TE}{apos cpos p0:Pos}{j:Nat}
def zGR:V->List V->Hp->VK->Prop:=fun x vs H Q=> ∃l xs y,x= .ref l/\vs= [.int 0,y] /\H l=some (.lst xs)/\xs.length<sizeLine/\Q .non (upd H l (.lst (y::xs)))
theorem zID:MtM X "list.insert" zGR:=by
 intro pins s σ H x vs v us Q I rx rv h;obtain ⟨l,xs,y,rfl,rfl,hH,hz,q⟩:=h;cases rx;obtain ⟨u0,u,rfl,⟨t,rfl⟩,ru⟩:=zP.two rv;obtain ⟨z,its,n,r,hl,e⟩:=I.lstM hH;refine call_meets F.slot_list_insert ⟨_,e,rfl⟩ F.entry_list_insert (F.args_list_insert_3 _ _ _) (AutoListH.list_insert_list_int_val_1 l its.toArray n 0 t u (by decide) (by rw [zOx];omega)) ⟨e,?_⟩;refine ⟨.non,_,I.lset (its':=u::its) hH e (by simp) (.cons ru r) ?_,rfl,q⟩;rw [List.length_cons];omega
theorem zDF(hK:X.K=K)(ho:QE X o to)(ha:QE X e te)(hb:attributeBase o "insert" X.env (eval o X.env)=eval o X.env)(h2:yM e=true)(hl:(apos.endLine==cpos.line)=true):
  QE X (.Call (.Attribute o "insert" apos) [.Constant (.int 0) j p0,e] [] cpos) (tBM K "list" zGR to (zAo (tC (.int 0)) (zAo te zCG))):=by
 subst hK;have h0:yM (.Constant (.int 0) j p0)=true:=rfl;exact ⟨zLB PySem.F.plainAttrs_list PySem.F.slot_list_insert PySem.F.type_list_insert zID ho.out (zAi zAO (zAi ha.out zBy (zq h2)) (zq h0)) hb (by rw [zq h0,zq h2];rfl) hl (zq h0) (by rw [zq h2];rfl)⟩
theorem zLg{X:Cx}:OpR X (binaryOp .Mult) (rI (fun i j=>FrM.Sz 60000000 i/\FrM.Sz 60000000 j) fun i j=> .int (i*j)):=
 opI fun _ _ _ _ _ _ _ hc q=>mul_int q (IntMulOk.of_le (zHP hc.1) (zHP hc.2) (by decide))
theorem zAX{X:Cx}{a b:Expr}{ta tb:TE}{pos:Pos}(ha:QE X a ta)(hb:QE X b tb):QE X (.BinOp a .Mult b pos) (yR (rI (fun i j=>FrM.Sz 60000000 i/\FrM.Sz 60000000 j) fun i j=> .int (i*j)) ta tb):=zCw zLg ha hb
theorem zIK{X:Cx}{a b:Expr}{ta tb:TE}{pos:Pos}(ha:QE X a ta)(hb:QE X b tb):QE X (.BinOp a .Mult b pos) (yR zKi ta tb):=zCw zMS ha hb
end
abbrev Cx.compNX(X:Cx)(scope:Scope)(cl:List (Str×Addr))(C:Addr)(N:List Str)(s₂:Shared)(H₂:Hp)(fp:List Addr)(xe:Value->Shared->Prop):Cx:={X.compN scope cl C N s₂ H₂ fp with xe:=xe}
section
variable {X:Cx}{scope:Scope}{cl:List (Str×Addr)}{C:Addr}{N:List Str}{s₂:Shared}{H₂:Hp}{fp:List Addr}{xe:Value->Shared->Prop}{pins:List (Addr×Obj)}{σ:St}{H:Hp}{s:Shared}
theorem Inv.compNX(I:Inv (X.compN scope cl C N s₂ H₂ fp) pins σ H s):Inv (X.compNX scope cl C N s₂ H₂ fp xe) pins σ H s:=
 ⟨⟨I.ok.mod,I.ok.kind,I.ok.glob,I.ok.blt,I.ok.above,I.ok.inj,I.ok.has,I.ok.cab,I.ok.hd,I.ok.frames,I.ok.stk,I.ok.exf,I.ok.bs,I.ok.bsz,I.ok.noex,I.ok.exfs,I.ok.funs,I.ok.frf⟩,I.os,I.bare,I.base,I.loc,I.cell,I.free,I.freeC,I.pin,I.hok,I.len⟩
theorem Inv.compN(I:Inv (X.compNX scope cl C N s₂ H₂ fp xe) pins σ H s):Inv (X.compN scope cl C N s₂ H₂ fp) pins σ H s:=
 ⟨⟨I.ok.mod,I.ok.kind,I.ok.glob,I.ok.blt,I.ok.above,I.ok.inj,I.ok.has,I.ok.cab,I.ok.hd,I.ok.frames,I.ok.stk,I.ok.exf,I.ok.bs,I.ok.bsz,I.ok.noex,I.ok.exfs,I.ok.funs,I.ok.frf⟩,I.os,I.bare,I.base,I.loc,I.cell,I.free,I.freeC,I.pin,I.hok,I.len⟩
end
theorem Inv.compN0{X:Cx}{scope:Scope}{cl:List (Str×Addr)}{C:Addr}{N:List Str}{s₂:Shared}{H₂:Hp}{fp:List Addr}{pins:List (Addr×Obj)}{σ:St}{H:Hp}{s:Shared}(I:Inv (X.compN scope cl C N s₂ H₂ fp) pins σ H s):Inv (X.comp scope (cellsFrom (C+1) scope.names cl) C N s₂ H₂ fp) pins σ H s:=
 ⟨⟨I.ok.mod,I.ok.kind,I.ok.glob,I.ok.blt,I.ok.above,I.ok.inj,I.ok.has,fun y a z _=>(nomatch z),I.ok.hd,I.ok.frames,I.ok.stk,I.ok.exf,I.ok.bs,I.ok.bsz,I.ok.noex,I.ok.exfs,I.ok.funs,I.ok.frf⟩,I.os,I.bare,I.base,I.loc,I.cell,I.free,I.freeC,I.pin,I.hok,I.len⟩
theorem zJI{X:Cx}{i0:Nat}{x:Str}{pos' spos:Pos}{elt iter tg:Expr}{ifs:List Expr}{zs:List Str}{pos:Pos}{scope:Scope}{cl:List (Str×Addr)}{ys:List Str}{fr:List Nat}{wi:TI}{g:TG}{tt:TT}{te:(St->XK)->TE}{E:St->XK}(hcm:X.calm=true)(hp:zBl X E)(hN:X.N.Nodup)(hi0:X.N[i0]?=some x)(hx0:Loc X.env.scope x)(hf0:X.fn x=true\/X.env.scope.names.lookup x=some .local)
  (hsw:swapsWith (.ListComp elt [⟨tg,iter,ifs,0⟩] scope pos) (some (.Name x pos')) spos.line X.env=pure true)
  (hi:PI X tg iter wi) (hclos:closureFor scope X.env=pure cl) (hkind:scope.kind= .function) (hnames: ∀y∈scope.names,y.2= .local->scope.names.lookup y.1=some .local)
  (hcl: ∀y a,cl.lookup y=some a->X.env.cells.lookup y=some a)
  (hlen:ys.length=fr.length) (hfr: ∀(j:Nat) y i,ys[j]?=some y->fr[j]?=some i->X.N[i]?=some y/\X.env.kindOf y=some .cell/\(relabel scope X.env).names.lookup y=some .cell/\ ∃a,(∀C:Addr,(cellsFrom (C+1) scope.names cl).lookup y=some a)/\X.env.cells.lookup y=some a)
  (hhas: ∀C:Addr,∀y,((relabel scope X.env).names.lookup y=some .cell\/(relabel scope X.env).names.lookup y=some .free)-> ∃a,(cellsFrom (C+1) scope.names cl).lookup y=some a)
  (hg: ∀C s₂ H₂ fp,PG (X.compN scope cl C (zs++ys) s₂ H₂ fp) tg g) (hc: ∀C s₂ H₂ fp,PTs (X.compN scope cl C (zs++ys) s₂ H₂ fp) ifs tt) (he: ∀C s₂ H₂ fp xe E',zDj (Fly X.prog X.w) (X.compNX scope cl C (zs++ys) s₂ H₂ fp xe) E'->PE (X.compNX scope cl C (zs++ys) s₂ H₂ fp xe) elt (te E')) (hs: ∀v,foldedSetIterable iter X.env v=pure v:=by intro _;rfl):
  PS X (.Assign [.Name x pos'] (.ListComp elt [⟨tg,iter,ifs,0⟩] scope pos) spos) (zDA (zJY wi g tt te zs.length fr E) (yH i0)):=by
 intro pins s σ H Dn I h;change zCI wi g tt (te fun _=>E σ) zs.length fr σ H (fun v H1=>yH i0 v σ H1 Dn.nx) at h;rw [exec_Assign_Name_used _ _ _ _ hsw];refine zOe (wpAny_standAt (zOe ?_));show wpAny _ X.A (do let _<-comprehension (.ListComp elt [⟨tg,iter,ifs,0⟩] scope pos) scope X.env _ (newList []) false (eval iter X.env) (some (assign (.Name x pos') X.env))) _ _ s;refine zOe (zOy (wpAny_comprehension_free (use:=some (assign (.Name x pos') X.env)) (Q:=fun _ s'=>SP X pins Dn .next s') rfl hs hclos hkind hnames (zW (hi pins s σ H _ I h) fun v s1 h1=>zW h1 fun itv s2 h2=>?_)) (fun _ s' hq=>zOj (zOj hq)) fun _ _ e=>e);obtain ⟨it,fp,tn,J,H2,e,I2,T,st2,f2,h2⟩:=h2;subst e;have hD:H2 s2.heap.objs.size=none:=I2.hok.fresh (zOh _);obtain ⟨W,⟨m0,w0⟩,turn⟩:=h2 s2.heap.objs.size hD;refine wpAny_newObj_type (zDx (fun h₁ hh₁ hns₁=>?_));dsimp only at hh₁ hns₁⊢;generalize hH3:s2.heap.push {cls:= .type "list",dict:=none,data:= .seq ([] :List Value).toArray}=H3 at hh₁ hns₁⊢;have hCs:H3.objs.size=s2.heap.objs.size+1:=by rw [<-hH3,Heap.size_push]
 have old: ∀b o,s2.heap.get? b=some o->h₁.get? b=some o:=fun b o e=>
  hh₁▸pushCells_keeps _ _ b o (zOf _ (hH3▸zOf _ e))
 have hacc:h₁.get? s2.heap.objs.size=some {cls:= .type "list",dict:=none,data:= .seq ([] :List Value).toArray}:=
  hh₁▸pushCells_keeps _ _ _ _ (zOf _ (hH3▸zOw _ rfl))
 have fplt: ∀b∈fp,@LT.lt Nat _ b s2.heap.objs.size:=fun b hb=>by
  obtain ⟨o,e,_⟩:=T.obj _ _ st2 b hb;exact yA e
 have hCz:(H3.push {cls:= .type "dict",data:= .dict #[]}).objs.size=H3.objs.size+1:=Heap.size_push ..;have clt: ∀y a,cl.lookup y=some a-> @LT.lt Nat _ a s2.heap.objs.size:=fun y a e=>by
  obtain ⟨v,o,ho,hd⟩:=I2.cell y a (hcl y a e);exact yA ho
 have csp: ∀y a,(cellsFrom (H3.objs.size+1) scope.names cl).lookup y=some a->cl.lookup y=some a\/(@LE.le Nat _ (H3.objs.size+1) a/\h₁.IsCell a none):=fun y a e=>by
  have z:=zBV scope.names (H3.push {cls:= .type "dict",data:= .dict #[]}) cl y a (by rw [hCz];exact e);rw [hCz] at z;rw [hh₁];exact z
 have okC:(X.compN scope cl H3.objs.size (zs++ys) s2 H2 fp).Ok:=by
  refine ⟨I2.ok.mod,hkind,I2.ok.glob,I2.ok.blt,?_,zCN scope.names (H3.objs.size+1) cl (fun y a e=>zOm (clt y a e) (by omega)) (fun y z a h1 h2=>I2.ok.inj y z a (hcl y a h1) (hcl z a h2)),fun y hy=>hhas _ y hy,fun y a z e=>zCQ scope.names (H3.objs.size+1) cl s2.heap.objs.size y (by omega) (.inl (by simpa using z)) a e,I2.ok.hd,I2.ok.frames,.inl rfl,fun b hb=>⟨?_,fun y a e z=>?_⟩,I2.bs,zOr I2.ok.bsz I2.sz,fun b o e hb=>?_,fun b hb z=>?_,I2.stack,I2.stkFree⟩
  ·show s2.heap.objs.size<=H3.objs.size;omega
  ·show b≠H3.objs.size;have:=fplt b hb;exact zOl (by omega)
  ·rcases csp y a e with e |⟨e,_⟩
   ·exact (f2 b hb).2.2.2.2.1 y a (hcl y a e) z
   ·have:=fplt b hb;rw [<-z] at this;have e': @LE.le Nat _ (H3.objs.size+1) a:=e;omega
  ·rcases (f2 b hb).2.2.2.1 with z | z
   ·exact I2.ok.noex b o e z
   ·have z': @LE.le Nat _ X.s₀.heap.objs.size b:=z;have: @LT.lt Nat _ b X.base.objs.size:=yA e;have:=I2.ok.bsz;omega
  ·rcases List.mem_cons.mp (I2.stkSub b z) with y | y
   ·exact (f2 b hb).2.1 y
   ·exact (f2 b hb).2.2.1 y
 have fpok: ∀{H':Hp},(∀b∈fp,H' b=none)-> ∀b∈fp,zAy (X.compN scope cl H3.objs.size (zs++ys) s2 H2 fp) [] H' b:=fun hn b hb=>
  ⟨hn b hb,(okC.exf b hb).1,okC.exfs b hb,.inl hb,(okC.exf b hb).2,fun p hp=>absurd hp (by simp)⟩
 have start:Inv (X.compN scope cl H3.objs.size (zs++ys) s2 H2 fp) [] (List.replicate zs.length none++zX fr σ) (upd H2 s2.heap.objs.size (.lst [])) {s2 with heap:=h₁,toks:=s2.toks+([] :List (Str×Value)).length}:=by
  refine ⟨okC,rfl,I2.bare,Un.laid old (zOh _) hD,⟨_,hns₁,fun j y v e1 e2 e3=>?_⟩,fun y a e=>?_,?_,fun y a e=>?_,fun p hp=>absurd hp (by simp),I2.hok.laid old (zOh _) ⟨zOs _,[],_,.nil,hacc⟩,?_⟩
  ·by_cases hj:j<zs.length
   ·rw [List.getElem?_append_left (by simpa using hj),List.getElem?_replicate] at e2;rw [if_pos hj] at e2;cases e2
   ·obtain ⟨j,rfl⟩: ∃k,j=zs.length+k:=⟨j - zs.length,by omega⟩;have e1':ys[j]?=some y:=by
     have z:=e1;simp only [Cx.comp] at z;rw [List.getElem?_append_right (by omega)] at z;simpa using z
    have e2':(zX fr σ)[j]?=some (some v):=by
     rw [List.getElem?_append_right (by simp)] at e2;simpa using e2
    unfold zX at e2';rw [zOi] at e2';cases q:fr[j]? with
    | none=>rw [q] at e2';cases e2'
    | some i=>
     rw [q] at e2';have e4:(σ[i]?).getD none=some v:=Option.some.inj e2';have e5:σ[i]?=some (some v):=by
      cases q2:σ[i]? with
      | none=>rw [q2] at e4;cases e4
      | some z=>rw [q2] at e4;exact congrArg some e4
     obtain ⟨hN,hk,hl,a,ha,ha'⟩:=hfr j y i e1' q;obtain ⟨m,_,hl2⟩:=I2.loc;obtain ⟨u,r,l⟩:=hl2 i y v hN e5 (.inr (.inl hk));refine ⟨u,r,.inr ⟨.inl hl,a,ha _,?_⟩⟩;rcases l with ⟨k,_⟩|⟨_,a2,ea,z⟩
     ·rw [hk] at k;cases k
     ·rw [ha'] at ea;cases ea;obtain ⟨o,ho,hd⟩:=z;exact ⟨o,old _ _ ho,hd⟩
  ·rcases csp y a e with e |⟨_,e⟩
   ·obtain ⟨v,o,ho,hd⟩:=I2.cell y a (hcl y a e);exact ⟨v,o,old _ _ ho,hd⟩
   ·exact ⟨none,e⟩
  ·show upd H2 s2.heap.objs.size (.lst []) H3.objs.size=none;rw [zG (by first | exact zOl (by omega)| exact zPM (by omega))];exact I2.hok.fresh (by omega)
  ·rcases csp y a e with e |⟨e,_⟩
   ·have:=clt y a e;rw [zG (by first | exact zOl (by omega)| exact zPM (by omega))];exact I2.freeC y a (hcl y a e)
   ·have e': @LE.le Nat _ (H3.objs.size+1) a:=e;rw [zG (by first | exact zOl (by omega)| exact zPM (by omega))];exact I2.hok.fresh (by show @LE.le Nat _ s2.heap.objs.size a;omega)
  ·show (List.replicate zs.length none++zX fr σ).length=(zs++ys).length;unfold zX;simp [hlen]
 have loop: ∀s₃:Shared,s₃={s2 with heap:=h₁,toks:=s2.toks+([] :List (Str×Value)).length}->
   codeAny (model X.prog X.w) X.A (.compLoop (.ListComp elt [⟨tg,iter,ifs,0⟩] scope pos) 0 (.ref it) (.ref s2.heap.objs.size) (compEnvC scope (cellsFrom (H3.objs.size+1) scope.names cl) H3.objs.size X.env)) (compPost (model X.prog X.w) X.A X.xe (some (assign (.Name x pos') X.env)) (fun _ s'=>SP X pins Dn .next s') (.ref s2.heap.objs.size) H3.objs.size) s₃:=by
  rintro s₃ rfl;have flown: ∀e s',(∃pn σ' Hx sx,Inv (X.compN scope cl H3.objs.size (zs++ys) s2 H2 fp) pn σ' Hx sx/\Fly X.prog X.w X.stack Hx sx (E σ) e s')->notedBy (model X.prog X.w) X.A (compEnvC scope (cellsFrom (H3.objs.size+1) scope.names cl) H3.objs.size X.env) (fun e s=>compPost (model X.prog X.w) X.A X.xe (some (assign (.Name x pos') X.env)) (fun _ s'=>SP X pins Dn .next s') (.ref s2.heap.objs.size) H3.objs.size (.error e) s) e s':=by
   rintro e s' ⟨pn,σ',Hx,sx,Ix,hx⟩;refine zEf (Q:=fun _ s'=>SP X pins Dn .next s') (acc:= .ref s2.heap.objs.size) hp I2 (fun b hb=>?_) (by omega) Ix.compN0 hx;rcases (f2 b hb).2.2.2.1 with z | z
   ·rw [hp.1] at z;cases z
   ·exact z
  refine zDy (E0:=fun e s'=> ∃pn σ' Hx sx,Inv (X.compN scope cl H3.objs.size (zs++ys) s2 H2 fp) pn σ' Hx sx/\Fly X.prog X.w X.stack Hx sx (E σ) e s') flown (fun n s'=> ∃i pre ys' H',pre.length=zs.length/\Inv (X.compN scope cl H3.objs.size (zs++ys) s2 H2 fp) [] (pre++zX fr σ) H' s'/\tn i s'.heap/\(∀b∈fp,H' b=none)/\W i n ys' H') ?_ m0
   ⟨0,List.replicate zs.length none,[],_,by simp,start,T.keep _ _ _ st2 fun b hb o e=>old b o e,fun b hb=>by
    have:=fplt b hb;rw [zG (by first | exact zOl (by omega)| exact zPM (by omega))];exact (f2 b hb).1,w0⟩
  rintro n s3 ⟨i,pre,ys3,H',hpl,I3,st3,fr3,w3⟩;obtain ⟨hl3,alt⟩:=turn i n ys3 H' w3;rcases alt with ⟨stop,qn⟩|⟨go,hz,N,hN,step⟩
  ·refine zOy (T.done (X.compN scope cl H3.objs.size (zs++ys) s2 H2 fp) rfl rfl rfl hcm i [] s3 _ H' (fun _ _=>False) I3 (fpok fr3) st3 stop) (fun r s4 h4=>?_) fun _ _ z=>z.elim;obtain ⟨hr,I4⟩:=h4;subst hr;obtain ⟨m4,hn4,_⟩:=id I4.loc;have back: ∀h'',Heap.SameBut H3.objs.size s4.heap h''->Inv X pins σ H' {s4 with heap:=h''}:=by
    intro h'' hs'';have hb: ∀b o,b≠H3.objs.size->s4.heap.get? b=some o->h''.get? b=some o:=fun b o hb e=>(hs''.2 b hb).trans e;refine I2.call' (s':={s4 with heap:=h''}) (ch:=fp) I4.os ⟨fun b o e n hb' hx'=>?_,fun b o e n hb' hx'=>?_,fun b o e n hx'=>I4.base.free b o e n hx',fun b o e hx'=>?_,I4.base.tups,I4.base.frzs,I4.base.tbls⟩ (fun b u e=>?_) I4.bare fun b hb'=>⟨(f2 b hb').2.2.2.1,(f2 b hb').2.1,(f2 b hb').2.2.2.2.1,(f2 b hb').2.2.2.2.2⟩
    ·exact hb b o (zOl (by have:=yA e;omega)) (I4.base.keep b o e n hb' hx')
    ·obtain ⟨sl,q⟩:=I4.base.slot b o e n hb' hx';exact ⟨sl,hb b _ (zOl (by have:=yA e;omega)) q⟩
    ·obtain ⟨o',q⟩:=I4.base.there b o e hx';exact ⟨o',hb b _ (zOl (by have:=yA e;omega)) q⟩
    ·refine (I4.hok b u e).stay (fun c' w' hc' q=>hb c' w' ?_ q) (fun _ q=>q) fun _ _ q=>q;intro z;have fz:H' H3.objs.size=none:=I4.free;rcases hc' with y | y
     ·rw [<-y,z,fz] at e;cases e
     ·rw [z,fz] at y;cases y
   have I5:Inv X pins σ H' s4:=back s4.heap (Heap.SameBut.refl _ _);have hCs2: @LE.le Nat _ s2.heap.objs.size H3.objs.size:=by omega
   have fz:H' H3.objs.size=none:=I4.free;have cneL:H3.objs.size≠X.env.locals:=fun z=>by
    have z1: @LT.lt Nat _ X.env.locals s2.heap.objs.size:=I2.lt;have z': @Eq Nat H3.objs.size X.env.locals:=z;omega
   have cneC: ∀y c,X.env.cells.lookup y=some c->c≠H3.objs.size:=fun y c e z=>by
    obtain ⟨v,o,ho,_⟩:=I2.cell y c e;have z1:=yA ho;have z': @Eq Nat c H3.objs.size:=z;omega
   show wpAny _ X.A (assign (.Name x pos') X.env (.ref s2.heap.objs.size)) _ _ s4;refine wpAny_assign_Name (zDR I5 hN hi0 hx0 (v:= .ref s2.heap.objs.size) rfl (fun s5 I6 ⟨a,sba,ha⟩=>?_) hf0);have nea:H3.objs.size≠a:=by
    rcases ha with z | z
    ·rw [z];exact cneL
    ·exact fun y=>cneC x a z y.symm
   obtain ⟨oC,es,ep,hoC,rC⟩:=hn4;refine ⟨m4,⟨oC,es,ep,(sba.2 _ nea).trans hoC,rC⟩,fun h'' hs''=>?_⟩;have hb: ∀b o,b≠H3.objs.size->s5.heap.get? b=some o->h''.get? b=some o:=fun b o hb e=>(hs''.2 b hb).trans e;have neb: ∀b:Addr,b∉ [H3.objs.size] ->b≠H3.objs.size:=fun b hb z=>hb (by simp [z]);have I7:Inv X pins (σ.set i0 (some (.ref s2.heap.objs.size))) H' {s5 with heap:=h''}:=by
    refine I6.call' (s':={s5 with heap:=h''}) (ch:= [H3.objs.size]) rfl ⟨fun b o e n hb' hx'=>hb b o (neb b hx') e,fun b o e n hb' hx'=>⟨o.slots,hb b o (neb b hx') e⟩,fun b o e n hx'=>n,fun b o e hx'=>⟨o,hb b o (neb b hx') e⟩,fun b xs e=>e,fun b o u e=>e,fun b ps e=>⟨#[],by simpa using e⟩⟩ (fun b u e=>?_) I6.bare fun b hb'=>?_
    ·refine (I6.hok b u e).stay (fun c' w' hc' q=>hb c' w' ?_ q) (fun _ q=>q) fun _ _ q=>q;intro z;rcases hc' with y | y
     ·rw [<-y,z,fz] at e;cases e
     ·rw [z,fz] at y;cases y
    ·have eb:b=H3.objs.size:=by simpa using hb'
     subst eb;refine ⟨.inr ?_,cneL,cneC,fun p hp z=>?_⟩
     ·have z1: @LE.le Nat _ X.s₀.heap.objs.size s2.heap.objs.size:=I2.sz;show @LE.le Nat _ X.s₀.heap.objs.size H3.objs.size;omega
     ·have z1:=yA (I2.pin p hp).1;have z': @Eq Nat p.1 H3.objs.size:=z;omega
   exact ⟨_,H',I7,qn⟩
  ·refine zOy (T.item (X.compN scope cl H3.objs.size (zs++ys) s2 H2 fp) rfl rfl rfl hcm i [] s3 _ H' (fun _ _=>False) I3 (fpok fr3) st3 go) (fun r s4 h4=>?_) fun _ _ z=>z.elim;obtain ⟨u,hr,h4⟩:=h4;subst hr;dsimp only;have asg:wpAny (model X.prog X.w) X.A (letOwnedTupleGo tg (.ref it) u) (fun _ s5=>wpAny (model X.prog X.w) X.A (assign tg (compEnvC scope (cellsFrom (H3.objs.size+1) scope.names cl) H3.objs.size X.env) u)
     (fun _ s6=> ∃σ5 H6,(∃pn5,Inv (X.compN scope cl H3.objs.size (zs++ys) s2 H2 fp) pn5 σ5 H6 s6/\(∀b∈fp,∃o,(b,o)∈pn5))/\((∃zn:St,zn.length=zs.length/\σ5=zn++zX fr σ)/\
      tt σ5 H6 fun b H3'=>if b=true then te (fun _=>E σ) σ5 H3' fun y H4=>H4 s2.heap.objs.size=some (.lst ys3)/\N (ys3++ [y]) (upd H4 s2.heap.objs.size (.lst (ys3++ [y]))) else N ys3 H3')/\tn (i+1) s6.heap/\ ∀b∈fp,H6 b=none) (fun _ _=>False) s5) (fun _ _=>False) s4:=by
    refine (zW h4 fun _ s5 ⟨x5,H5,I5,r5,y5,st5,fr5⟩=>?_);have I5':=I5.pinned (fpok fr5) (T.obj _ _ st5);refine zOy (hg _ _ _ _ _ s5 _ H5 x5 u _ I5' r5 (step x5 H5 y5 pre hpl)) (fun _ s6 ⟨σ6,H6,I6,q6⟩=>?_) fun _ _ z=>z.elim;exact ⟨σ6,H6,⟨_,I6,fun b hb=>by
     obtain ⟨o,e,_⟩:=T.obj _ _ st5 b hb;exact ⟨o,zOt _ (yI hb e)⟩⟩,q6,T.keep _ _ _ st5 fun b hb o e=>(I6.pin (b,o) (zOt _ (zOt _ (yI hb e)))).1,fun b hb=>by
     obtain ⟨o,e,_⟩:=T.obj _ _ st5 b hb;exact (I6.pin (b,o) (zOt _ (zOt _ (yI hb e)))).2.1⟩
   refine zOy asg (fun _ s5 h5=>zOy h5 (fun _ s6 h6=>?_) fun _ _ z=>z.elim) fun _ _ z=>z.elim;obtain ⟨σ5,H5,⟨pn5,I6,hp6⟩,⟨⟨zn,hl2,rfl⟩,q6⟩,st6,fr5⟩:=h6;have keepTurn: ∀{σ7:St} {H7:Hp} {s7:Shared},Inv (X.compN scope cl H3.objs.size (zs++ys) s2 H2 fp) pn5 σ7 H7 s7->tn (i+1) s7.heap/\ ∀b∈fp,H7 b=none:=fun {σ7 H7 s7} I7=>by
    refine ⟨T.keep _ _ _ st6 fun b hb o e=>?_,fun b hb=>?_⟩
    ·obtain ⟨o',hm⟩:=hp6 b hb;have a1:=(I6.pin (b,o') (zOt _ hm)).1;rw [e] at a1;cases a1;exact (I7.pin (b,_) (zOt _ hm)).1
    ·obtain ⟨o',hm⟩:=hp6 b hb;exact (I7.pin (b,o') (zOt _ hm)).2.1
   have drop: ∀{σ7:St} {H7:Hp} {s7:Shared},Inv (X.compN scope cl H3.objs.size (zs++ys) s2 H2 fp) pn5 σ7 H7 s7->Inv (X.compN scope cl H3.objs.size (zs++ys) s2 H2 fp) [] σ7 H7 s7:=fun I7=>I7.pins_of fun p hp=>absurd hp (by simp);have tests:wpAny (model X.prog X.w) X.A (zBA ifs (compEnvC scope (cellsFrom (H3.objs.size+1) scope.names cl) H3.objs.size X.env)) (fun b s7=> ∃H7,Inv (X.compN scope cl H3.objs.size (zs++ys) s2 H2 fp) pn5 (zn++zX fr σ) H7 s7/\
     (if b=true then te (fun _=>E σ) (zn++zX fr σ) H7 fun y H4=>H4 s2.heap.objs.size=some (.lst ys3)/\N (ys3++ [y]) (upd H4 s2.heap.objs.size (.lst (ys3++ [y]))) else N ys3 H7)) (fun _ _=>False) s6:=by
    rcases hc H3.objs.size s2 H2 fp with ⟨rfl,rfl⟩|⟨c,rfl,hc2⟩
    ·exact wpAny_tests_nil ⟨H5,I6,q6⟩
    ·exact wpAny_tests_one (zOy (hc2 pn5 s6 _ H5 _ I6 q6) (fun b s7 ⟨H7,I7,q7⟩=>⟨H7,I7,q7⟩) fun _ _ z=>z.elim)
   refine zOy tests (fun b s7 h7=>?_) fun _ _ z=>z.elim;obtain ⟨H7,I7,q7⟩:=h7;cases b with
   | false=>
    obtain ⟨m',hm,w'⟩:=hN _ _ q7;obtain ⟨k1,k2⟩:=keepTurn I7;exact ⟨m',hm,i+1,zn,ys3,H7,hl2,drop I7,k1,k2,w'⟩
   | true=>
    refine zOy (he _ _ _ _ (fun e s'=> ∃pn σ' Hx sx,Inv (X.compN scope cl H3.objs.size (zs++ys) s2 H2 fp) pn σ' Hx sx/\Fly X.prog X.w X.stack Hx sx (E σ) e s') (fun _=>E σ) (fun pn σ' Hx sx e s' Ix hx=>⟨pn,σ',Hx,sx,Ix.compN,hx⟩) pn5 s7 _ H7 _ I7.compNX q7) (fun y s8 h8=>?_) fun _ _ z=>z;obtain ⟨yv,H8,I8',r8,hl8,n8⟩:=h8;have I8:=I8'.compN;refine zOy (zBb (X:=X.compN scope cl H3.objs.size (zs++ys) s2 H2 fp) pn5 s8 _ H8 (.ref s2.heap.objs.size) [yv] (.ref s2.heap.objs.size) [y] (fun z H9=>N (ys3++ [yv]) H9) I8 rfl (.cons r8 .nil) ⟨s2.heap.objs.size,ys3,yv,rfl,rfl,hl8,hz,n8⟩) (fun _ s9 h9=>?_) fun _ _ z=>z.elim;obtain ⟨_,H9,I9,_,n9⟩:=h9;obtain ⟨m',hm,w'⟩:=hN _ _ n9;obtain ⟨k1,k2⟩:=keepTurn I9;exact ⟨m',hm,i+1,zn,ys3++ [yv],H9,hl2,drop I9,k1,k2,w'⟩
 exact codeAny_compStart_list (loop _ rfl) (T.self X.A 0 _ _ _ (T.keep _ _ _ st2 fun b hb o e=>old b o e) (loop _ rfl))
theorem zHX{X:Cx}{x:Str}{pos' spos:Pos}{elt iter tg:Expr}{ifs:List Expr}{E:St->XK}(hp:zBl X E)(i0:Nat)(hN:X.N.Nodup)(hi0:X.N[i0]?=some x)(hx0:Loc X.env.scope x)(hf0:X.fn x=true\/X.env.scope.names.lookup x=some .local)
  (zs:List Str) {pos:Pos} {scope:Scope} {cl:List (Str×Addr)} (ys:List Str) (fr:List Nat) {wi:TI} {g:TG} {tt:TT} {te:(St->XK)->TE} (hcm:X.calm=true)
  (hi:QI X tg iter wi) (hclos:closureFor scope X.env=pure cl) (hkind:scope.kind= .function) (hnames: ∀y∈scope.names,y.2= .local->scope.names.lookup y.1=some .local)
  (hcl: ∀y a,cl.lookup y=some a->X.env.cells.lookup y=some a)
  (hlen:ys.length=fr.length) (hfr: ∀(j:Nat) y i,ys[j]?=some y->fr[j]?=some i->X.N[i]?=some y/\X.env.kindOf y=some .cell/\(relabel scope X.env).names.lookup y=some .cell/\ ∃a,(∀C:Addr,(cellsFrom (C+1) scope.names cl).lookup y=some a)/\X.env.cells.lookup y=some a)
  (hhas: ∀C:Addr,∀y,((relabel scope X.env).names.lookup y=some .cell\/(relabel scope X.env).names.lookup y=some .free)-> ∃a,(cellsFrom (C+1) scope.names cl).lookup y=some a)
  (hg: ∀C s₂ H₂ fp,QG (X.compN scope cl C (zs++ys) s₂ H₂ fp) tg g) (hc: ∀C s₂ H₂ fp,QTs (X.compN scope cl C (zs++ys) s₂ H₂ fp) ifs tt) (he: ∀C s₂ H₂ fp xe E',zDj (Fly X.prog X.w) (X.compNX scope cl C (zs++ys) s₂ H₂ fp xe) E'->QE (X.compNX scope cl C (zs++ys) s₂ H₂ fp xe) elt (te E')) (hs: ∀v,foldedSetIterable iter X.env v=pure v)
  (hsw:swapsWith (.ListComp elt [⟨tg,iter,ifs,0⟩] scope pos) (some (.Name x pos')) spos.line X.env=pure true):
  QS X (.Assign [.Name x pos'] (.ListComp elt [⟨tg,iter,ifs,0⟩] scope pos) spos) (zDA (zHb wi g tt te zs.length fr E) (yH i0)):=
 ⟨fun pins s σ H D I h=>zJI hcm hp hN hi0 hx0 hf0 hsw (zEg hi).out hclos hkind hnames hcl hlen hfr hhas (fun C s H f=>(hg C s H f).out) (fun C s H f=>(hc C s H f).out) (fun C s H f xe E' hx=>(he C s H f xe E' hx).out) hs pins s σ H D I ⟨_,h,fun J H1 h1 D' hD=>by
  obtain ⟨len,Pv,a0,a1,a2,a3,a4⟩:=(h1 D' hD).ex;exact zCu (Q:=fun v H1=>yH i0 v σ H1 D.nx) D' len Pv a0 a1 a2 a3 a4⟩⟩
structure DeepE(X:Cx):Prop where
 ex: ∃env0 rest,X.stack=env0::rest/\env0.scope.isGenerator=false/\env0.scope.isCoroutine=false/\env0.globals=mainGlobals/\env0.builtins=builtinsNs
 tr:X.prog.given.tree=none
 rm:X.A.depth+100<recursionLimit
theorem DeepE.up{X Y:Cx}(d:DeepE X)(h1:Y.stack=X.stack)(h2:Y.A=X.A)(h3:Y.prog=X.prog):DeepE Y:=⟨by rw [h1];exact d.ex,by rw [h3];exact d.tr,by rw [h2];exact d.rm⟩
theorem DeepE.room{X:Cx}(D:DeepE X){pins:List (Addr×Obj)}{σ:St}{H:Hp}{s:Shared}(I:Inv X pins σ H s):PylongRoom (model X.prog X.w) X.A s:=by
 have hn:s.heap.NoSeer:=I.ok.mod.seer.keeps fun b o e=>I.bk b o e;obtain ⟨env0,rest,h1,h2,h3,h4,h5⟩:=D.ex;exact PylongRoom.of (I.ok.mod.nolimit.keeps fun b o e=>I.bk b o e) D.rm (SeerAt.of hn D.tr (by rw [I.ok.frames,h1]) h2 h3 h5 h4)
theorem zJu{X:Cx}(D:DeepE X):OpR X (binaryOp .FloorDiv) (rI (fun _ j=>0<j) fun i j=> .int (i/j)):=by
 intro pins s σ H x y v u Q I rx ry h;obtain ⟨i,j,rfl,rfl,hc,q⟩:=h;obtain ⟨t,rfl⟩:=rx;obtain ⟨t',rfl⟩:=ry;have hj:(0:Int)<j:=hc;exact floordiv_int (by omega) (by rw [Int.fdiv_eq_ediv_of_nonneg i (by omega)];exact ⟨.int (i/j),H,I.tok _,⟨_,rfl⟩,q⟩) (.inr (D.room I))
theorem yo{X:Cx}{a b:Expr}{ta tb:TE}{pos:Pos}(D:DeepE X)(ha:QE X a ta)(hb:QE X b tb):QE X (.BinOp a .FloorDiv b pos) (yR (rI (fun _ j=>0<j) fun i j=> .int (i/j)) ta tb):=zCw (zJu D) ha hb
theorem zAu{CX:CXT}{P:Program}{w:World}{K:zPS}{mg:Str->Option Value}{base:Heap}{N:List Str}{qual:Str}{scope:Scope}{f:Addr}{cd:Value}{A:Around}{outer:List Env}{s:Shared}{H:Hp}{E:XK}{k:Nat}
  (hr:Room k (A.deeper (envOfC qual scope s.heap.objs.size f cd))) (hk:32<=k) (ht:P.given.tree=none) (hg:scope.isGenerator=false) (hc:scope.isCoroutine=false):
  DeepE (zAx CX P w K mg base N qual scope f cd A outer s H E):=
 ⟨⟨_,_,rfl,hg,hc,rfl,rfl⟩,ht,by have:=hr.dp;show (A.deeper (envOfC qual scope s.heap.objs.size f cd)).depth+100<recursionLimit;omega⟩
section
variable {X:Cx}{K:zPS}{CX:CXT}{k:Nat}{f C:Addr}{fd:FuncData}{ps:List Str}{sp:Sp}{dvs:List V}{ds:List Value}{E:XK}{x:Str}{p pos:Pos}{e:Expr}{es:List Expr}{t:TA}
theorem zBw(M:Mk X.K C f)(F:FnOk X.prog X.w X.K X.mg X.base CX k f fd ps sp)(hr:Room (k+1) X.A)(hg:Gl X x)(hm:X.mg x=some (.ref C))(hb:zO X.K fd ps ds)(hd:zP dvs ds)(hx:zAT CX X E)
  (ha:QA X (e::es) t) (h1:(x==("__debug__" :Str))=false) (h2:yM e=true) (h3:zAH es=true):QE X (.Call (.Name x p) (e::es) [] pos) (zIM C sp dvs E t):=⟨zML M F hr hg hm hb hd hx ha.out h1 (zq h2) (zAY h3)⟩
end
section
variable {X:Cx}{K:zPS}{o i e:Expr}{to ti te:TE}{tl th:TO}{lo hi:Option Expr}{pos p2 tpos:Pos}
end
end L2
namespace FrV
abbrev Vec:=List Int
abbrev Stp:=Nat×Vec
abbrev Fn:=Nat->Int
def zA(v:Vec)(i:Nat):Int:=v.getD i 0
theorem zNH(i:Nat):zA [] i=0:=rfl
theorem zBT(x:Int)(v:Vec):zA (x::v) 0=x:=rfl
theorem zBB(x:Int)(v:Vec)(i:Nat):zA (x::v) (i+1)=zA v i:=by simp [zA]
theorem yE{v:Vec}{i:Nat}(h:v.length<=i):zA v i=0:=by simp [zA,List.getElem?_eq_none h]
theorem zAN{v:Vec}{i:Nat}(h:i<v.length):v[i]?=some (zA v i):=by simp [zA,zOd h]
theorem zEu{u v:Vec}(hl:u.length=v.length)(h: ∀i,zA u i=zA v i):u=v:=by
 refine List.ext_getElem? fun i=>?_;by_cases hi:i<u.length
 ·rw [zAN hi,zAN (by omega),h i]
 ·rw [List.getElem?_eq_none (by omega),List.getElem?_eq_none (by omega)]
def zM(a:Int)(u:Vec)(b:Int)(v:Vec):Vec:=List.zipWith (fun x y=>a*x+b*y) u v
theorem zY{a b:Int}{u v:Vec}{n:Nat}(h1:u.length=n)(h2:v.length=n):(zM a u b v).length=n:=by simp [zM,h1,h2]
theorem yL{a b:Int}{u v:Vec}(h:u.length=v.length)(i:Nat):zA (zM a u b v) i=a*zA u i+b*zA v i:=by
 by_cases hi:i<u.length
 ·have h2:i<v.length:=by omega
  simp [zA,zM,List.getElem?_zipWith,zOd hi,zOd h2]
 ·rw [yE (by simp [zM];omega),yE (by omega),yE (by omega)];simp
def dt:Fn->Vec->Int
 | _,[] =>0
 | x,a::e=>x 0*a+dt (fun i=>x (i+1)) e
theorem zBg(a b:Int): ∀(e:Vec) (x y:Fn),dt (fun i=>a*x i+b*y i) e=a*dt x e+b*dt y e
 | [],_,_=>by simp [dt]
 | c::e,x,y=>by
  simp only [dt];rw [zBg a b e (fun i=>x (i+1)) (fun i=>y (i+1))]
  grind
theorem zEy: ∀(e:Vec) (x:Fn),(∀i,x i=0)->dt x e=0
 | [],_,_=>rfl
 | c::e,x,h=>by simp only [dt];rw [h 0,zEy e _ (fun i=>h (i+1))];simp
theorem zAv{e:Vec}{x y:Fn}(h: ∀i,x i=y i):dt x e=dt y e:=by rw [show x=y from funext h]
theorem zEr{a b:Int}{u v:Vec}(h:u.length=v.length)(e:Vec):dt (zA (zM a u b v)) e=a*dt (zA u) e+b*dt (zA v) e:=by
 rw [<-zBg];exact zAv (yL h)
def Sp:List Stp->Fn->Prop
 | [],x=> ∀i,x i=0
 |(_,v)::S,x=> ∃c:Int,Sp S (fun i=>x i - c*zA v i)
theorem Sp.congr{S:List Stp}{x y:Fn}(h:Sp S x)(e: ∀i,x i=y i):Sp S y:=by rw [<-show x=y from funext e];exact h
theorem Sp.zero: ∀(S:List Stp) {x:Fn},(∀i,x i=0)->Sp S x
 | [],_,h=>h
 |(_,v)::S,x,h=>⟨0,Sp.zero S fun i=>by rw [h i];simp⟩
theorem Sp.lin(a b:Int): ∀{S:List Stp} {x y:Fn},Sp S x->Sp S y->Sp S (fun i=>a*x i+b*y i)
 | [],x,y,h1,h2=>fun i=>by show a*x i+b*y i=0;rw [h1 i,h2 i];simp
 |(_,v)::S,x,y,⟨c,h1⟩,⟨d,h2⟩=>⟨a*c+b*d,(Sp.lin a b h1 h2).congr fun i=>by grind⟩
theorem Sp.add{S:List Stp}{x y:Fn}(h1:Sp S x)(h2:Sp S y):Sp S (fun i=>x i+y i):=(Sp.lin 1 1 h1 h2).congr fun i=>by simp
theorem Sp.sub{S:List Stp}{x y:Fn}(h1:Sp S x)(h2:Sp S y):Sp S (fun i=>x i - y i):=(Sp.lin 1 (-1) h1 h2).congr fun i=>by omega
theorem Sp.smul{S:List Stp}{x:Fn}(a:Int)(h1:Sp S x):Sp S (fun i=>a*x i):=(Sp.lin a 0 h1 h1).congr fun i=>by simp
theorem Sp.tail{p:Nat}{v:Vec}{S:List Stp}{x:Fn}(h:Sp S x):Sp ((p,v)::S) x:=⟨0,h.congr fun i=>by simp⟩
theorem Sp.head{p:Nat}{v:Vec}{S:List Stp}:Sp ((p,v)::S) (zA v):=⟨1,Sp.zero S fun i=>by omega⟩
theorem Sp.mem: ∀{S:List Stp} {q:Stp},q∈S->Sp S (zA q.2)
 |(p,v)::S,q,h=>by
  rcases List.mem_cons.mp h with rfl | h
  ·exact Sp.head
  ·exact (Sp.mem h).tail
theorem Sp.of: ∀{T S:List Stp} {x:Fn},Sp T x->(∀q∈T,Sp S (zA q.2))->Sp S x
 | [],S,x,h,_=>Sp.zero S h
 |(p,v)::T,S,x,⟨c,h⟩,hs=>by
  have h1:=Sp.of h (fun q hq=>hs q (by simp [hq]));exact (Sp.lin 1 c h1 (hs (p,v) (by simp))).congr fun i=>by simp
theorem Sp.dt: ∀{S:List Stp} {x:Fn} {e:Vec},Sp S x->(∀q∈S,dt (zA q.2) e=0)->dt x e=0
 | [],x,e,h,_=>zEy e x h
 |(p,v)::S,x,e,⟨c,h⟩,hs=>by
  have h1:=Sp.dt h (fun q hq=>hs q (by simp [hq]));have h2:=zBg 1 (-c) e x (zA v);rw [hs (p,v) (by simp)] at h2;rw [zAv (y:=fun i=>x i - c*zA v i) (fun i=>by grind),h1] at h2;omega
def Ech(n:Nat):List Stp->Prop
 | [] =>True
 |(p,v)::S=>v.length=n/\p<n/\0<zA v p/\(∀j,j<p->zA v j=0)/\(∀q∈S,p<q.1)/\Ech n S
theorem Ech.mem{n:Nat}: ∀{S:List Stp} {q:Stp},Ech n S->q∈S->q.2.length=n/\q.1<n/\0<zA q.2 q.1/\ ∀j,j<q.1->zA q.2 j=0
 |(p,v)::S,q,⟨h1,h2,h3,h4,h5,h6⟩,hq=>by
  rcases List.mem_cons.mp hq with rfl | hq
  ·exact ⟨h1,h2,h3,h4⟩
  ·exact Ech.mem h6 hq
theorem Sp.ahead: ∀{n:Nat} {S:List Stp} {x:Fn} {j:Nat},Ech n S->Sp S x->(∀q∈S,j<q.1)->x j=0
 | n,[],x,j,_,h,_=>h j
 | n,(p,v)::S,x,j,⟨h1,h2,h3,h4,h5,h6⟩,⟨c,h⟩,hj=>by
  have:=Sp.ahead h6 h (fun q hq=>hj q (by simp [hq]));have h9:=h4 j (hj (p,v) (by simp));rw [h9] at this;simpa using this
theorem Sp.small: ∀{n:Nat} {S:List Stp} {x:Fn},Ech n S->Sp S x->(∀q∈S,- zA q.2 q.1<x q.1/\x q.1<zA q.2 q.1)-> ∀i,x i=0
 | n,[],x,_,h,_=>h
 | n,(p,v)::S,x,⟨h1,h2,h3,h4,h5,h6⟩,⟨c,h⟩,hs=>by
  have e:=Sp.ahead (j:=p) h6 h h5;obtain ⟨a,b⟩:=hs (p,v) (by simp);have hc:c=0:=by
   have e':x p=c*zA v p:=by omega
   simp only at a b;rw [e'] at a b;have a':(-1)*zA v p<c*zA v p:=by omega
   have b':c*zA v p<1*zA v p:=by omega
   have:=Int.lt_of_mul_lt_mul_right a' (by omega);have:=Int.lt_of_mul_lt_mul_right b' (by omega);omega
  subst hc;exact Sp.small h6 (h.congr fun i=>by simp) fun q hq=>hs q (by simp [hq])
def Red:List Stp->Prop
 | [] =>True
 |(_,v)::S=>(∀q∈S,0<=zA v q.1/\zA v q.1<zA q.2 q.1)/\Red S
theorem Sp.rest{n p:Nat}{v:Vec}{S:List Stp}{x:Fn}(h:Ech n ((p,v)::S))(hx:Sp ((p,v)::S) x)(h0:x p=0):Sp S x:=by
 obtain ⟨h1,h2,h3,h4,h5,h6⟩:=h;obtain ⟨c,hx⟩:=hx;have e:=Sp.ahead (j:=p) h6 hx h5;have hc:c*zA v p=0:=by omega
 rcases Int.mul_eq_zero.mp hc with z | z
 ·subst z;exact hx.congr fun i=>by simp
 ·omega
theorem Ech.uniq{n:Nat}: ∀{S T:List Stp},Ech n S->Red S->Ech n T->Red T->(∀x,Sp S x↔Sp T x)->S=T
 | [],[],_,_,_,_,_=>rfl
 | [],(q,u)::T,_,_,⟨h1,h2,h3,_⟩,_,h=>by
  have:=(h (zA u)).mpr Sp.head q;omega
 |(p,v)::S,[],⟨h1,h2,h3,_⟩,_,_,_,h=>by
  have:=(h (zA v)).mp Sp.head p;omega
 |(p,v)::S,(q,u)::T,hS,rS,hT,rT,h=>by
  have hS':=hS;have hT':=hT;obtain ⟨a1,a2,a3,a4,a5,a6⟩:=hS;obtain ⟨b1,b2,b3,b4,b5,b6⟩:=hT;have hpq:p=q:=by
   have k1: ¬p<q:=fun z=>by
    have:=Sp.ahead (j:=p) hT' ((h (zA v)).mp Sp.head) (fun r hr=>by
     rcases List.mem_cons.mp hr with rfl | hr
     ·exact z
     ·exact Nat.lt_trans z (b5 r hr))
    omega
   have k2: ¬q<p:=fun z=>by
    have:=Sp.ahead (j:=q) hS' ((h (zA u)).mpr Sp.head) (fun r hr=>by
     rcases List.mem_cons.mp hr with rfl | hr
     ·exact z
     ·exact Nat.lt_trans z (a5 r hr))
    omega
   omega
  subst hpq;have hr: ∀x,Sp S x↔Sp T x:=fun x=>by
   constructor
   ·intro hx;exact Sp.rest hT' ((h x).mp hx.tail) (Sp.ahead a6 hx a5)
   ·intro hx;exact Sp.rest hS' ((h x).mpr hx.tail) (Sp.ahead b6 hx b5)
  have e:=Ech.uniq a6 rS.2 b6 rT.2 hr;subst e;have hp:zA v p=zA u p:=by
   obtain ⟨c,h1⟩:=(h (zA v)).mp Sp.head;obtain ⟨d,h2⟩:=(h (zA u)).mpr Sp.head;have e1:=Sp.ahead (j:=p) a6 h1 b5;have e2:=Sp.ahead (j:=p) a6 h2 a5;have d1:zA u p∣zA v p:=⟨c,by rw [Int.mul_comm];omega⟩;have d2:zA v p∣zA u p:=⟨d,by rw [Int.mul_comm];omega⟩;have l1:=Int.le_of_dvd a3 d1;have l2:=Int.le_of_dvd b3 d2;omega
  have hd:Sp S (fun i=>zA v i - zA u i):=by
   refine Sp.rest hS' (Sp.sub Sp.head ((h (zA u)).mpr Sp.head)) ?_;show zA v p - zA u p=0;omega
  have z:=Sp.small a6 hd fun q hq=>by
   have x1:=rS.1 q hq;have x2:=rT.1 q hq;show _<zA v q.1 - zA u q.1/\zA v q.1 - zA u q.1<_;omega
  have:v=u:=zEu (a1.trans b1.symm) fun i=>by have:=z i;omega
  rw [this]
def zR:Vec->List Stp->Vec
 | r,[] =>r
 | r,(p,v)::S=>zR (zM 1 r (-(zA r p/zA v p)) v) S
theorem zd{n:Nat}: ∀{S:List Stp} {r:Vec},Ech n S->r.length=n->
  (zR r S).length=n/\Sp S (fun i=>zA r i - zA (zR r S) i)/\(∀q∈S,0<=zA (zR r S) q.1/\zA (zR r S) q.1<zA q.2 q.1)/\ ∀j,(∀q∈S,j<q.1)->zA (zR r S) j=zA r j
 | [],r,_,hr=>⟨hr,fun i=>by simp [zR],fun q hq=>(nomatch hq),fun j _=>rfl⟩
 |(p,v)::S,r,⟨h1,h2,h3,h4,h5,h6⟩,hr=>by
  have hl:(zM 1 r (-(zA r p/zA v p)) v).length=n:=zY hr h1;have hm:=yL (a:=1) (b:= -(zA r p/zA v p)) (u:=r) (v:=v) (by omega);obtain ⟨k1,k2,k3,k4⟩:=zd h6 hl;refine ⟨k1,⟨zA r p/zA v p,k2.congr fun i=>?_⟩,fun q hq=>?_,fun j hj=>?_⟩
  ·show zA (zM 1 r (-(zA r p/zA v p)) v) i - zA (zR (zM 1 r (-(zA r p/zA v p)) v) S) i=zA r i - zA (zR (zM 1 r (-(zA r p/zA v p)) v) S) i - zA r p/zA v p*zA v i;rw [hm i];grind
  ·rcases List.mem_cons.mp hq with rfl | hq
   ·show 0<=zA (zR (zM 1 r (-(zA r p/zA v p)) v) S) p/\zA (zR (zM 1 r (-(zA r p/zA v p)) v) S) p<zA v p;rw [k4 p h5,hm p];have e:=Int.emod_def (zA r p) (zA v p);have n1:=zOv (zA r p) (b:=zA v p) (by omega);have n2:=zOp (zA r p) h3;have e2:1*zA r p+ -(zA r p/zA v p)*zA v p=zA r p % zA v p:=by rw [e];grind
    rw [e2];exact ⟨n1,n2⟩
   ·exact k3 q hq
  ·show zA (zR (zM 1 r (-(zA r p/zA v p)) v) S) j=zA r j;rw [k4 j fun q hq=>hj q (by simp [hq]),hm j,h4 j (hj (p,v) (by simp))];simp
def egl(g l f fb:Int):Int×Int:=
 if h:0<l then egl l (g - g/l*l) fb (f - g/l*fb) else (g,f)
termination_by l.toNat
decreasing_by
 have e:=Int.emod_def g l;have n2:=zOp g h;have:g - g/l*l=g % l:=by rw [e,Int.mul_comm]
 rw [this];have:=zOv g (b:=l) (by omega);omega
theorem zGq(one other:Int): ∀(k:Nat) (g l f fb:Int),l.toNat<=k->0<g->0<=l->(∃c,g=f*one+c*other)->(∃c,l=fb*one+c*other)->
  0<(egl g l f fb).1/\(∃c,(egl g l f fb).1=(egl g l f fb).2*one+c*other)/\(egl g l f fb).1∣g/\(egl g l f fb).1∣l
 | k,g,l,f,fb,hk,hg,hl,⟨c,hc⟩,⟨d,hd⟩=>by
  unfold egl;split
  ·rename_i h
   have e:=Int.emod_def g l;have e':g - g/l*l=g % l:=by rw [e,Int.mul_comm]
   have n2:=zOp g h;have n1:=zOv g (b:=l) (by omega);cases k with
   | zero=>omega
   | succ k=>
    obtain ⟨r1,r2,r3,r4⟩:=zGq one other k l (g - g/l*l) fb (f - g/l*fb) (by rw [e'];omega) h (by rw [e'];omega) ⟨d,hd⟩ ⟨c - g/l*d,by
     generalize hq:g/l=q;rw [hq] at*
     grind⟩
    refine ⟨r1,r2,?_,r3⟩;generalize hz:egl l (g - g/l*l) fb (f - g/l*fb)=z at*;have:g=(g - g/l*l)+l*(g/l):=by grind
    rw [this];exact Int.dvd_add r4 (Int.dvd_mul_of_dvd_left r3)
  ·rename_i h
   have:l=0:=by omega
   subst this;exact ⟨hg,⟨c,hc⟩,Int.dvd_refl _,Int.dvd_zero _⟩
def zv(one other:Int):Int×Int×Int:=
 let r:=egl other (one % other) 0 1
 let least:=r.2 %(other/r.1)
 (r.1,least,(r.1 - least*one)/other)
theorem zAE{one other:Int}(h:0<other):0<(zv one other).1/\(zv one other).1∣one/\(zv one other).1∣other/\(zv one other).2.1*one+(zv one other).2.2*other=(zv one other).1
  /\0<=(zv one other).2.1/\(zv one other).2.1<other/(zv one other).1/\0<other/(zv one other).1:=by
 have e:=Int.emod_def one other;have n1:=zOv one (b:=other) (by omega);obtain ⟨r1,⟨c,r2⟩,r3,r4⟩:=zGq one other (one % other).toNat other (one % other) 0 1 (zOh _) h n1 ⟨1,by simp⟩ ⟨-(one/other),by rw [e];grind⟩;unfold zv;generalize egl other (one % other) 0 1=r at*;obtain ⟨g,f⟩:=r;simp only at*;obtain ⟨m,hm⟩:=r3;have hmp:0<m:=by
  rcases Int.lt_or_le 0 m with z | z
  ·exact z
  ·have:=Int.mul_le_mul_of_nonneg_left z (Int.le_of_lt r1);omega
 have hq:other/g=m:=by rw [hm];exact Int.mul_ediv_cancel_left m (by omega)
 have d1:g∣one:=by
  have:one=one % other+other*(one/other):=by omega
  rw [this];exact Int.dvd_add r4 (Int.dvd_mul_of_dvd_left ⟨m,hm⟩)
 obtain ⟨w,hw⟩:=d1;rw [hq];have ef:=Int.emod_def f m;have f1:=zOv f (b:=m) (by omega);have f2:=zOp f hmp;have hd:other∣g - f % m*one:=⟨c+(f/m)*w,by rw [ef];generalize f/m=t at*;generalize f % m=s at*;grind⟩;refine ⟨r1,⟨w,hw⟩,⟨m,hm⟩,?_,f1,f2,hmp⟩;rw [Int.ediv_mul_cancel hd];omega
def part(e:Vec):List Stp->List Stp×Vec×Int
 | [] =>([],[],0)
 |(p,v)::S=>
  let r:=part e S
  let own:=dt (zA v) e
  if own=0 then ((p,v)::r.1,r.2)
  else if r.2.2=0 then (r.1,(if 0<own then v else zM (-1) v 0 v),(own.natAbs:Int))
  else
   let d:=zv own r.2.2
   let k:=(p,zR (zM (r.2.2/d.1) v (-(own/d.1)) r.2.1) r.1)::r.1
   if d.1<r.2.2 then (k,zR (zM d.2.1 v d.2.2 r.2.1) k,d.1) else (k,r.2)
structure Parted(n:Nat)(e:Vec)(S:List Stp)(k:List Stp)(vec:Vec)(r:Int):Prop where
 ech:Ech n k
 pl: ∀q∈k,∃s∈S,s.1=q.1
 dt0: ∀q∈k,dt (zA q.2) e=0
 r0:0<=r
 same:r=0->k=S
 len:0<r->vec.length=n
 dtv:0<r->dt (zA vec) e=r
 sp:0<r-> ∀x,Sp S x↔ ∃c:Int,Sp k (fun i=>x i - c*zA vec i)
 ahead:0<r-> ∀j,(∀q∈S,j<q.1)->zA vec j=0
theorem zCq{a b:Int}{u v:Vec}{n:Nat}(h1:u.length=n)(h2:v.length=n)(i:Nat):zA (zM a u b v) i=a*zA u i+b*zA v i:=yL (by omega) i
theorem zw{n:Nat}{e:Vec}: ∀{S:List Stp},Ech n S->Parted n e S (part e S).1 (part e S).2.1 (part e S).2.2
 | [],_=>⟨trivial,fun q hq=>(nomatch hq),fun q hq=>(nomatch hq),by simp [part],fun _=>rfl,by simp [part],by simp [part],by simp [part],by simp [part]⟩
 |(p,v)::S,h=>by
  have hE:=h;obtain ⟨h1,h2,h3,h4,h5,h6⟩:=h;have I:=zw (e:=e) h6;simp only [part];generalize part e S=r at I⊢;obtain ⟨k,vec,rc⟩:=r;simp only at I⊢;have hkp: ∀q∈k,p<q.1:=fun q hq=>by
   obtain ⟨s,hs,e1⟩:=I.pl q hq;rw [<-e1];exact h5 s hs
  split
  ·rename_i h0
   refine ⟨⟨h1,h2,h3,h4,hkp,I.ech⟩,fun q hq=>?_,fun q hq=>?_,I.r0,fun z=>by rw [I.same z],I.len,I.dtv,fun hr x=>?_,fun hr j hj=>I.ahead hr j fun q hq=>hj q (by simp [hq])⟩
   ·rcases List.mem_cons.mp hq with rfl | hq
    ·exact ⟨(p,v),by simp,rfl⟩
    ·obtain ⟨s,hs,e1⟩:=I.pl q hq;exact ⟨s,by simp [hs],e1⟩
   ·rcases List.mem_cons.mp hq with rfl | hq
    ·exact h0
    ·exact I.dt0 q hq
   ·constructor
    ·rintro ⟨c,hx⟩;obtain ⟨d,hx⟩:=(I.sp hr _).mp hx;exact ⟨d,c,hx.congr fun i=>by grind⟩
    ·rintro ⟨d,c,hx⟩;exact ⟨c,(I.sp hr _).mpr ⟨d,hx.congr fun i=>by grind⟩⟩
  ·rename_i h0
   split
   ·rename_i hr0
    have ek:=I.same hr0;subst ek;have hv: ∀i,zA (if 0<dt (zA v) e then v else zM (-1) v 0 v) i=(if 0<dt (zA v) e then 1 else -1)*zA v i:=fun i=>by
     split
     ·simp
     ·rw [zCq h1 h1];simp
    have hl:(if 0<dt (zA v) e then v else zM (-1) v 0 v).length=n:=by
     split
     ·exact h1
     ·exact zY h1 h1
    refine ⟨I.ech,fun q hq=>⟨q,by simp [hq],rfl⟩,I.dt0,by simp only;omega,fun z=>by simp only at z;omega,fun _=>hl,fun _=>?_,fun hr x=>?_,fun _ j hj=>?_⟩
    ·show dt (zA (if 0<dt (zA v) e then v else zM (-1) v 0 v)) e=_;split
     ·rename_i z;simp only;omega
     ·rw [zEr rfl];simp only;omega
    ·constructor
     ·rintro ⟨c,hx⟩;refine ⟨(if 0<dt (zA v) e then 1 else -1)*c,hx.congr fun i=>?_⟩;simp only;rw [hv i];split<;>grind
     ·rintro ⟨c,hx⟩;refine ⟨(if 0<dt (zA v) e then 1 else -1)*c,hx.congr fun i=>?_⟩;simp only;rw [hv i];split<;>grind
    ·show zA (if 0<dt (zA v) e then v else zM (-1) v 0 v) j=0;rw [hv j,h4 j (hj (p,v) (by simp))];simp
   ·rename_i hrn
    have hr:0<rc:=by have:=I.r0;omega
    obtain ⟨g1,g2,g3,g4,g5,g6,g7⟩:=zAE (one:=dt (zA v) e) hr;generalize zv (dt (zA v) e) rc=d at g1 g2 g3 g4 g5 g6 g7⊢;obtain ⟨g,x,y⟩:=d;simp only at g1 g2 g3 g4 g5 g6 g7⊢;obtain ⟨ow,how⟩:=g2;obtain ⟨rw',hrw⟩:=g3;have hg0:g≠0:=by omega
    have eo:dt (zA v) e/g=ow:=by rw [how];exact Int.mul_ediv_cancel_left _ hg0
    have er:rc/g=rw':=by rw [hrw];exact Int.mul_ediv_cancel_left _ hg0
    rw [eo,er];rw [er] at g7 g6;have hvl:=I.len hr;have hwl:(zM rw' v (-ow) vec).length=n:=zY h1 hvl;obtain ⟨l1,l2,l3,l4⟩:=zd I.ech hwl;generalize hw:zR (zM rw' v (-ow) vec) k=w at l1 l2 l3 l4⊢;have dow:=I.dtv hr;have hdw:dt (zA w) e=0:=by
     have z1:=Sp.dt l2 I.dt0;have z2:=zBg 1 (-1) e (zA (zM rw' v (-ow) vec)) (zA w);rw [zAv (y:=fun i=>zA (zM rw' v (-ow) vec) i - zA w i) (fun i=>by omega),z1,zEr (by omega),dow,how] at z2
     grind
    have hvp: ∀j,j<=p->zA vec j=0:=fun j hj=>I.ahead hr j fun q hq=>zOu hj (h5 q hq);have hwj: ∀j,j<=p->zA w j=rw'*zA v j:=fun j hj=>by
     rw [l4 j fun q hq=>zOu hj (hkp q hq),zCq h1 hvl,hvp j hj];simp
    have hpos:0<zA w p:=by rw [hwj p (zOh p)];exact Int.mul_pos g7 h3
    have hech:Ech n ((p,w)::k):=⟨l1,h2,hpos,fun j hj=>by rw [hwj j (by omega),h4 j hj];simp,hkp,I.ech⟩;have hpl: ∀q∈(p,w)::k,∃s∈(p,v)::S,s.1=q.1:=fun q hq=>by
     rcases List.mem_cons.mp hq with rfl | hq
     ·exact ⟨(p,v),by simp,rfl⟩
     ·obtain ⟨s,hs,e1⟩:=I.pl q hq;exact ⟨s,by simp [hs],e1⟩
    have hdt: ∀q∈(p,w)::k,dt (zA q.2) e=0:=fun q hq=>by
     rcases List.mem_cons.mp hq with rfl | hq
     ·exact hdw
     ·exact I.dt0 q hq
    have det:rw'*y+ow*x=1:=by
     have z:g*(rw'*y+ow*x)=g*1:=by rw [how,hrw] at g4;grind
     exact Int.eq_of_mul_eq_mul_left hg0 z
    have hwm:Sp k (fun i=>rw'*zA v i - ow*zA vec i - zA w i):=l2.congr fun i=>by rw [zCq h1 hvl];grind
    have hk: ∀q∈k,Sp ((p,v)::S) (zA q.2):=fun q hq=>Sp.tail ((I.sp hr _).mpr ⟨0,(Sp.mem hq).congr fun i=>by simp⟩);have hvec:Sp ((p,v)::S) (zA vec):=Sp.tail ((I.sp hr _).mpr ⟨1,Sp.zero _ fun i=>by omega⟩);have hws:Sp ((p,v)::S) (zA w):=by
     have a:=Sp.of hwm hk;have b:=Sp.lin rw' (-ow) (Sp.head (p:=p) (v:=v) (S:=S)) hvec;exact (b.sub a).congr fun i=>by grind
    have hkw: ∀q∈(p,w)::k,Sp ((p,v)::S) (zA q.2):=fun q hq=>by
     rcases List.mem_cons.mp hq with rfl | hq
     ·exact hws
     ·exact hk q hq
    split
    ·rename_i hlt
     have hnl:(zM x v y vec).length=n:=zY h1 hvl;obtain ⟨m1,m2,m3,m4⟩:=zd hech hnl;generalize hu:zR (zM x v y vec) ((p,w)::k)=u at m1 m2 m3 m4⊢;refine ⟨hech,hpl,hdt,by simp only;omega,fun z=>by simp only at z;omega,fun _=>m1,fun _=>?_,fun _ z=>?_,fun _ j hj=>?_⟩
     ·show dt (zA u) e=g;have z1:=Sp.dt m2 hdt;have z2:=zBg 1 (-1) e (zA (zM x v y vec)) (zA u);rw [zAv (y:=fun i=>zA (zM x v y vec) i - zA u i) (fun i=>by omega),z1,zEr (by omega),dow,how] at z2;rw [how] at g4
      grind
     ·
      have hum:Sp ((p,w)::k) (fun i=>x*zA v i+y*zA vec i - zA u i):=m2.congr fun i=>by rw [zCq h1 hvl]
      have hw1:Sp ((p,w)::k) (fun i=>rw'*zA v i - ow*zA vec i):=by
       have a:=hwm.tail (p:=p) (v:=w);exact (a.add (Sp.head (p:=p) (v:=w) (S:=k))).congr fun i=>by grind
      constructor
      ·rintro ⟨c,hx⟩;obtain ⟨d,hx⟩:=(I.sp hr _).mp hx;refine ⟨c*ow+d*rw',?_⟩;have a:=hx.tail (p:=p) (v:=w);have b:=Sp.lin (c*y - d*x) (c*ow+d*rw') hw1 hum;refine (a.add b).congr fun i=>?_;simp only;have t1:zA v i=(rw'*y+ow*x)*zA v i:=by rw [det];simp
       have t2:zA vec i=(rw'*y+ow*x)*zA vec i:=by rw [det];simp
       generalize zA v i=A at*;generalize zA vec i=B at*;generalize zA u i=C at*
       grind
      ·rintro ⟨d,hx⟩;have a:=Sp.of hx hkw;have b:=Sp.of hum hkw;have c:=Sp.lin x y (Sp.head (p:=p) (v:=v) (S:=S)) hvec;have us:=c.sub b;exact (Sp.lin 1 d a us).congr fun i=>by grind
     ·show zA u j=0;rw [m4 j fun q hq=>by
       obtain ⟨s,hs,e1⟩:=hpl q hq;rw [<-e1];exact hj s hs,zCq h1 hvl,h4 j (hj (p,v) (by simp)),I.ahead hr j fun q hq=>hj q (by simp [hq])]
      simp
    ·rename_i hge
     have hone:rw'=1:=by
      have:rw'<=1:=by
       rcases Int.lt_or_le 1 rw' with z | z
       ·have:=Int.mul_lt_mul_of_pos_left z g1;omega
       ·exact z
      omega
     refine ⟨hech,hpl,hdt,I.r0,fun z=>absurd z hrn,fun _=>hvl,fun _=>dow,fun _ z=>?_,fun _ j hj=>I.ahead hr j fun q hq=>hj q (by simp [hq])⟩;constructor
     ·rintro ⟨c,hx⟩;obtain ⟨d,hx⟩:=(I.sp hr _).mp hx;refine ⟨d+c*ow,c,?_⟩;have a:=Sp.lin 1 c hx hwm;refine a.congr fun i=>?_;rw [hone]
      grind
     ·rintro ⟨d,hx⟩;have a:=Sp.of hx hkw;exact (Sp.lin 1 d a hvec).congr fun i=>by grind
theorem zDs{n:Nat}{e:Vec}: ∀{S:List Stp},Ech n S-> ∀q∈(part e S).1,∃s∈S,s.1=q.1/\zA s.2 s.1<=zA q.2 q.1
 | [],_,q,hq=>by simp [part] at hq
 |(p,v)::S,h,q,hq=>by
  have hE:=h;obtain ⟨h1,h2,h3,h4,h5,h6⟩:=h;have I:=zw (e:=e) h6;have J:=zDs (e:=e) h6;have up:(∃s∈S,s.1=q.1/\zA s.2 s.1<=zA q.2 q.1)-> ∃s∈(p,v)::S,s.1=q.1/\zA s.2 s.1<=zA q.2 q.1:=fun ⟨s,hs,z⟩=>⟨s,by simp [hs],z⟩;simp only [part] at hq;generalize part e S=r at I J hq;obtain ⟨k,vec,rc⟩:=r;simp only at I J hq;have key: ∀(hr:0<rc) (d:Int) (hd:0<d) (hd':d∣rc),zA v p<=zA (zR (zM (rc/d) v (-(dt (zA v) e/d)) vec) k) p:=fun hr d hd hd'=>by
   have hkp: ∀q∈k,p<q.1:=fun q hq=>by
    obtain ⟨s,hs,e1⟩:=I.pl q hq;rw [<-e1];exact h5 s hs
   rw [(zd I.ech (zY h1 (I.len hr))).2.2.2 p hkp,zCq h1 (I.len hr),I.ahead hr p h5];have:0<rc/d:=Int.ediv_pos_of_pos_of_dvd hr (by omega) hd';have:=Int.mul_le_mul_of_nonneg_right (show 1<=rc/d by omega) (Int.le_of_lt h3);omega
  split at hq
  ·rcases List.mem_cons.mp hq with rfl | hq
   ·exact ⟨(p,v),by simp,rfl,Int.le_refl _⟩
   ·exact up (J q hq)
  ·split at hq
   ·exact up (J q hq)
   ·have hr:0<rc:=by have:=I.r0;omega
    obtain ⟨g1,g2,g3,_⟩:=zAE (one:=dt (zA v) e) hr;split at hq
    ·rcases List.mem_cons.mp hq with rfl | hq
     ·exact ⟨(p,v),by simp,rfl,key hr _ g1 g3⟩
     ·exact up (J q hq)
    ·rcases List.mem_cons.mp hq with rfl | hq
     ·exact ⟨(p,v),by simp,rfl,key hr _ g1 g3⟩
     ·exact up (J q hq)
theorem zEO{n:Nat}{e:Vec}: ∀{S:List Stp},Ech n S->Red S->Red (part e S).1
 | [],_,_=>trivial
 |(p,v)::S,h,hR=>by
  have hE:=h;obtain ⟨h1,h2,h3,h4,h5,h6⟩:=h;have I:=zw (e:=e) h6;have J:=zDs (e:=e) h6;have R:=zEO (e:=e) h6 hR.2;simp only [part];generalize part e S=r at I J R⊢;obtain ⟨k,vec,rc⟩:=r;simp only at I J R⊢;split
  ·refine ⟨fun q hq=>?_,R⟩;obtain ⟨s,hs,e1,e2⟩:=J q hq;have:=hR.1 s hs;rw [<-e1] at*;omega
  ·split
   ·exact R
   ·have hr:0<rc:=by have:=I.r0;omega
    have z:=(zd (r:=zM (rc/(zv (dt (zA v) e) rc).1) v (-(dt (zA v) e/(zv (dt (zA v) e) rc).1)) vec) I.ech (zY h1 (I.len hr))).2.2.1;split
    ·exact ⟨z,R⟩
    ·exact ⟨z,R⟩
def lo(z m:Int):Int:=if m=0 then z else z % m
theorem zCC(z m:Int):m∣z - lo z m:=by
 unfold lo;split
 ·simp
 ·exact Int.dvd_self_sub_emod
theorem zDh{z m:Int}:lo z m=0↔m∣z:=by
 unfold lo;split
 ·rename_i h;subst h;exact (Int.zero_dvd).symm
 ·exact (Int.dvd_iff_emod_eq_zero).symm
abbrev Eqn:=Vec×Vec
abbrev Spt:=Nat×Vec×Int
structure Stt where
 steps:List Stp
 fixed:List Vec
 spent:List Spt
def yU(e c:Vec)(fixed:List Vec):List Int:=List.zipWith (fun f own=>dt (zA f) e+own) fixed c
def take(j:Nat)(E:Eqn)(s:Stt):Stt:=
 let r:=part E.1 s.steps
 if r.2.2=0 then s else ⟨r.1,List.zipWith (fun f own=>zR (zM 1 f (-(own/r.2.2)) r.2.1) r.1) s.fixed (yU E.1 E.2 s.fixed),s.spent++ [(j,r.2.1,r.2.2)]⟩
def zBM(E:Eqn)(s:Stt):Bool:=(yU E.1 E.2 s.fixed).all fun z=>lo z (part E.1 s.steps).2.2==0
structure Sol(n m:Nat)(Es:List Eqn)(s:Stt):Prop where
 ech:Ech n s.steps
 red:Red s.steps
 ker: ∀x,Sp s.steps x↔(∀i,n<=i->x i=0)/\ ∀E∈Es,dt x E.1=0
 fl:s.fixed.length=m
 fn: ∀f∈s.fixed,f.length=n
 fr: ∀f∈s.fixed,∀q∈s.steps,0<=zA f q.1/\zA f q.1<zA q.2 q.1
 fx: ∀(k:Nat) (f:Vec),s.fixed[k]?=some f-> ∀E∈Es,dt (zA f) E.1+zA E.2 k=0
theorem zBK(e:Vec)(x y:Fn):dt (fun i=>x i - y i) e=dt x e - dt y e:=by
 have:=zBg 1 (-1) e x y;rw [zAv (y:=fun i=>x i - y i) (fun i=>by omega)] at this;omega
theorem zBU(e:Vec)(c:Int)(x:Fn):dt (fun i=>c*x i) e=c*dt x e:=by
 have:=zBg c 0 e x x;rw [zAv (y:=fun i=>c*x i) (fun i=>by simp)] at this;omega
theorem zCK{e c:Vec}{fixed:List Vec}{k:Nat}{f:Vec}(hc:c.length=fixed.length)(h:fixed[k]?=some f):(yU e c fixed)[k]?=some (dt (zA f) e+zA c k):=by
 have hk:k<fixed.length:=(List.getElem?_eq_some_iff.mp h).1;simp only [yU,List.getElem?_zipWith,h,zAN (show k<c.length by omega)]
theorem zKd{n m:Nat}{Es:List Eqn}{s:Stt}{E:Eqn}{j:Nat}(I:Sol n m Es s)(hc:E.2.length=m)(hf:zBM E s=true):Sol n m (Es++ [E]) (take j E s):=by
 have P:=zw (e:=E.1) I.ech;have R:=zEO (e:=E.1) I.ech I.red;have hs: ∀k f,s.fixed[k]?=some f->lo (dt (zA f) E.1+zA E.2 k) (part E.1 s.steps).2.2=0:=fun k f h=>by
  have z:=List.all_eq_true.mp hf _ (zPH (zCK (e:=E.1) (hc.trans I.fl.symm) h));simpa using z
 unfold take;simp only;generalize part E.1 s.steps=r at P R hs⊢;obtain ⟨kp,vec,rc⟩:=r;simp only at P R hs⊢;split
 ·rename_i h0
  have e:=P.same h0;subst e;refine ⟨I.ech,I.red,fun x=>?_,I.fl,I.fn,I.fr,fun k f hk E' hE=>?_⟩
  ·rw [I.ker x];constructor
   ·rintro ⟨a,b⟩;refine ⟨a,fun E' hE=>?_⟩;rcases List.mem_append.mp hE with z | z
    ·exact b E' z
    ·rw [List.mem_singleton.mp z];exact Sp.dt ((I.ker x).mpr ⟨a,b⟩) P.dt0
   ·rintro ⟨a,b⟩;exact ⟨a,fun E' hE=>b E' (by simp [hE])⟩
  ·rcases List.mem_append.mp hE with z | z
   ·exact I.fx k f hk E' z
   ·rw [List.mem_singleton.mp z];have:=hs k f hk;rw [h0] at this;simpa [lo] using this
 ·rename_i h0
  have hr:0<rc:=by have:=P.r0;omega
  have hl:=P.len hr;have kS: ∀x,Sp kp x->Sp s.steps x:=fun x hx=>(P.sp hr x).mpr ⟨0,hx.congr fun i=>by simp⟩;have vS:Sp s.steps (zA vec):=(P.sp hr _).mpr ⟨1,Sp.zero _ fun i=>by omega⟩;have nf: ∀k f',(List.zipWith (fun f own=>zR (zM 1 f (-(own/rc)) vec) kp) s.fixed (yU E.1 E.2 s.fixed))[k]?=some f'-> ∃f,s.fixed[k]?=some f/\f'=zR (zM 1 f (-((dt (zA f) E.1+zA E.2 k)/rc)) vec) kp:=fun k f' h=>by
   cases hk:s.fixed[k]? with
   | none=>simp [List.getElem?_zipWith,hk] at h
   | some f=>
    have z:=zCK (e:=E.1) (hc.trans I.fl.symm) hk;simp [List.getElem?_zipWith,hk,z] at h;exact ⟨f,rfl,h.symm⟩
  have gt: ∀f'∈List.zipWith (fun f own=>zR (zM 1 f (-(own/rc)) vec) kp) s.fixed (yU E.1 E.2 s.fixed),∃k,(List.zipWith (fun f own=>zR (zM 1 f (-(own/rc)) vec) kp) s.fixed (yU E.1 E.2 s.fixed))[k]?=some f':=fun f' h=>List.mem_iff_getElem?.mp h;refine ⟨P.ech,R,fun x=>?_,?_,fun f' h=>?_,fun f' h=>?_,fun k f' hk E' hE=>?_⟩
  ·constructor
   ·intro hx;obtain ⟨a,b⟩:=(I.ker x).mp (kS x hx);refine ⟨a,fun E' hE=>?_⟩;rcases List.mem_append.mp hE with z | z
    ·exact b E' z
    ·rw [List.mem_singleton.mp z];exact Sp.dt hx P.dt0
   ·rintro ⟨a,b⟩;obtain ⟨c,hx⟩:=(P.sp hr x).mp ((I.ker x).mpr ⟨a,fun E' hE=>b E' (by simp [hE])⟩);have z1:=Sp.dt hx P.dt0;rw [zBK,zBU,b E (by simp),P.dtv hr] at z1;have z2:c*rc=0:=by omega
    rcases Int.mul_eq_zero.mp z2 with z | z
    ·subst z;exact hx.congr fun i=>by simp
    ·omega
  ·simp [yU,I.fl,hc]
  ·obtain ⟨k,hk⟩:=gt f' h;obtain ⟨f,hf',rfl⟩:=nf k f' hk;exact (zd P.ech (zY (I.fn f (zPH hf')) hl)).1
  ·obtain ⟨k,hk⟩:=gt f' h;obtain ⟨f,hf',rfl⟩:=nf k f' hk;exact (zd P.ech (zY (I.fn f (zPH hf')) hl)).2.2.1
  ·obtain ⟨f,hf',rfl⟩:=nf k f' hk;have fl:=I.fn f (zPH hf');have z0:=(zd (r:=zM 1 f (-((dt (zA f) E.1+zA E.2 k)/rc)) vec) P.ech (zY fl hl)).2.1;have hE':dt (fun i=>zA (zM 1 f (-((dt (zA f) E.1+zA E.2 k)/rc)) vec) i - zA (zR (zM 1 f (-((dt (zA f) E.1+zA E.2 k)/rc)) vec) kp) i) E'.1=0:=by
    rcases List.mem_append.mp hE with z | z
    ·exact ((I.ker _).mp (kS _ z0)).2 E' z
    ·rw [List.mem_singleton.mp z];exact Sp.dt z0 P.dt0
   rw [zBK,zEr (by omega)] at hE';rcases List.mem_append.mp hE with z | z
   ·have v0:=((I.ker _).mp vS).2 E' z;have:=I.fx k f hf' E' z;rw [v0] at hE';omega
   ·rw [List.mem_singleton.mp z] at hE'⊢;have hv:=P.dtv hr;have hd:=zDh.mp (hs k f hf');have:=Int.ediv_mul_cancel hd;rw [hv] at hE';have e3: -((dt (zA f) E.1+zA E.2 k)/rc)*rc= -(dt (zA f) E.1+zA E.2 k):=by rw [Int.neg_mul,this]
    omega
theorem zJP{n m:Nat}{Es:List Eqn}{s:Stt}{E:Eqn}(I:Sol n m Es s)(hc:E.2.length=m)(X:Nat->Fn)(h0: ∀k,∀i,n<=i->X k i=0)(hX: ∀k,k<m-> ∀E'∈Es++ [E],dt (X k) E'.1+zA E'.2 k=0):zBM E s=true:=by
 have P:=zw (e:=E.1) I.ech;refine List.all_eq_true.mpr fun z hz=>?_;obtain ⟨k,hk⟩:=List.mem_iff_getElem?.mp hz;cases hf:s.fixed[k]? with
 | none=>simp [yU,List.getElem?_zipWith,hf] at hk
 | some f=>
  have hkl:k<s.fixed.length:=(List.getElem?_eq_some_iff.mp hf).1;rw [zCK (e:=E.1) (hc.trans I.fl.symm) hf] at hk;cases hk;rw [beq_iff_eq,zDh];have hx:Sp s.steps (fun i=>X k i - zA f i):=(I.ker _).mpr ⟨fun i hi=>by rw [h0 k i hi,yE (by rw [I.fn f (zPH hf)];exact hi)];simp,fun E' hE=>by
   rw [zBK];have a:=hX k (by rw [<-I.fl];exact hkl) E' (by simp [hE]);have b:=I.fx k f hf E' hE;omega⟩
  have a:=hX k (by rw [<-I.fl];exact hkl) E (by simp);generalize part E.1 s.steps=r at P⊢;obtain ⟨kp,vec,rc⟩:=r;simp only at P⊢;rcases Int.lt_or_eq_of_le P.r0 with hr | hr
  ·obtain ⟨c,hx⟩:=(P.sp hr _).mp hx;have z:=Sp.dt hx P.dt0;rw [zBK,zBU,zBK,P.dtv hr] at z;exact ⟨-c,by rw [Int.mul_comm,Int.neg_mul];omega⟩
  ·have e:=P.same hr.symm;subst e;have z:=Sp.dt hx P.dt0;rw [zBK] at z;rw [<-hr,Int.zero_dvd];omega
def Chn(n:Nat)(q:Nat->Vec):List Spt->(Fn->Prop)->Prop
 | [],L=> ∀x:Fn,(∀i,n<=i->x i=0)->L x
 |(j,vec,r)::ss,L=> ∃L':Fn->Prop,Chn n q ss L'/\0<r/\vec.length=n/\dt (zA vec) ((q j).take n)=r/\(∀x,L x->dt x ((q j).take n)=0)/\ ∀x,L' x-> ∃c:Int,L (fun i=>x i - c*zA vec i)
theorem Chn.take{n m:Nat}{Es:List Eqn}{s:Stt}{E:Eqn}{j:Nat}{q:Nat->Vec}(I:Sol n m Es s)(h:Chn n q s.spent.reverse (Sp s.steps))(hq:(q j).take n=E.1):Chn n q (take j E s).spent.reverse (Sp (take j E s).steps):=by
 have P:=zw (e:=E.1) I.ech;unfold FrV.take;simp only;generalize part E.1 s.steps=r at P⊢;obtain ⟨kp,vec,rc⟩:=r;simp only at P⊢;split
 ·exact h
 ·have hr:0<rc:=by have:=P.r0;omega
  rw [List.reverse_append];exact ⟨_,h,hr,P.len hr,by rw [hq];exact P.dtv hr,fun x hx=>by rw [hq];exact Sp.dt hx P.dt0,fun x hx=>(P.sp hr x).mp hx⟩
def zT(j n:Nat):Vec:=(List.range n).map fun i=>if i=j then 1 else 0
theorem yQ(j n:Nat):(zT j n).length=n:=by simp [zT]
theorem yh(j n i:Nat):zA (zT j n) i=if i=j/\i<n then 1 else 0:=by
 by_cases h:i<n
 ·simp [zA,zT,h]
 ·rw [yE (by rw [yQ];omega),if_neg (by omega)]
structure Cl where
 fac:Vec
 tot:Vec
 mod:Int
def los(v:Vec)(m:Int):Vec:=v.map fun z=>lo z m
theorem zCH(v:Vec)(m:Int)(i:Nat):zA (los v m) i=lo (zA v i) m:=by
 by_cases h:i<v.length
 ·simp [zA,los,h]
 ·rw [yE (by simp [los];omega),yE (by omega)];simp [lo]
theorem zBE(v:Vec)(m:Int):(los v m).length=v.length:=by simp [los]
def turn(n:Nat)(q:Nat->Vec)(len:Nat)(s:Spt)(c:Cl):Cl:=
 let own:=lo (dt (zA s.2.1) (c.tot.take n)) c.mod
 let scale:=s.2.2/(Int.gcd own s.2.2:Int)
 let times:=own*scale/s.2.2
 ⟨los (zM scale c.fac (-times) (zT s.1 len)) (c.mod*scale),los (zM scale c.tot (-times) (q s.1)) (c.mod*scale),c.mod*scale⟩
def ya(f:Vec)(q:Nat->Vec)(i:Nat):Int:=dt (fun j=>zA (q j) i) f
theorem zDl: ∀(e f:Vec) (x:Fn),e.length=f.length-> ∀a b,dt x (zM a e b f)=a*dt x e+b*dt x f
 | [],[],_,_,_,_=>by simp [dt,zM]
 | c::e,d::f,x,h,a,b=>by
  have z:=zDl e f (fun i=>x (i+1)) (by simpa using h) a b;simp only [zM,List.zipWith_cons_cons,dt] at z⊢;rw [z];grind
theorem zEt{m:Int}: ∀(e f:Vec) (x:Fn),e.length=f.length->(∀i,m∣zA e i - zA f i)->m∣dt x e - dt x f
 | [],[],_,_,_=>by simp [dt]
 | c::e,d::f,x,h,hm=>by
  have z:=zEt e f (fun i=>x (i+1)) (by simpa using h) (fun i=>by have:=hm (i+1);rwa [zBB,zBB] at this);have z0:=hm 0;rw [zBT,zBT] at z0;simp only [dt];have:x 0*c+dt (fun i=>x (i+1)) e -(x 0*d+dt (fun i=>x (i+1)) f)=x 0*(c - d)+(dt (fun i=>x (i+1)) e - dt (fun i=>x (i+1)) f):=by grind
  rw [this];exact Int.dvd_add (Int.dvd_mul_of_dvd_right z0) z
theorem zGM: ∀(j n:Nat) (x:Fn),j<n->dt x (zT j n)=x j
 | j,0,_,h=>by omega
 | 0,n+1,x,_=>by
  have e:zT 0 (n+1)=1::(List.range n).map fun _=>(0:Int):=by
   simp only [zT,List.range_succ_eq_map,List.map_cons,List.map_map];simp [Function.comp_def]
  rw [e];have z: ∀(l:List Nat) (y:Fn),dt y (l.map fun _=>(0:Int))=0:=fun l=>by
   induction l with
   | nil=>intro y;rfl
   | cons a l ih=>intro y;simp only [List.map_cons,dt];rw [ih];simp
  simp only [dt];rw [z];simp
 | j+1,n+1,x,h=>by
  have e:zT (j+1) (n+1)=0::zT j n:=by
   simp only [zT,List.range_succ_eq_map,List.map_cons,List.map_map];simp [Function.comp_def]
  rw [e];simp only [dt];rw [zGM j n (fun i=>x (i+1)) (by omega)];simp
theorem zBr(v:Vec)(n i:Nat):zA (v.take n) i=if i<n then zA v i else 0:=by
 by_cases h:i<n
 ·simp [zA,List.getElem?_take,h]
 ·rw [yE (by simp;omega),if_neg h]
structure ClI(n m:Nat)(q:Nat->Vec)(len:Nat)(F:Fn)(k:Nat)(L:Fn->Prop)(c:Cl):Prop where
 fl:c.fac.length=len
 tl:c.tot.length=n+m
 m0:0<=c.mod
 add: ∀i,c.mod∣ya c.fac q i - zA c.tot i
 van: ∀x,L x->c.mod∣dt x (c.tot.take n)
 not: ¬c.mod∣dt F (c.tot.take n)+zA c.tot (n+k)
theorem zMF{n m len k:Nat}{q:Nat->Vec}{F:Fn}{L L':Fn->Prop}{c:Cl}{s:Spt}(I:ClI n m q len F k L c)(hr:0<s.2.2)(hv:s.2.1.length=n)(hd:dt (zA s.2.1) ((q s.1).take n)=s.2.2)
  (hL: ∀x,L x->dt x ((q s.1).take n)=0) (hL': ∀x,L' x-> ∃c:Int,L (fun i=>x i - c*zA s.2.1 i)) (hj:s.1<len) (hq:(q s.1).length=n+m)
  (hF:dt F ((q s.1).take n)+zA (q s.1) (n+k)=0):ClI n m q len F k L' (turn n q len s c):=by
 obtain ⟨j,vec,r⟩:=s;simp only at hr hv hd hL hL' hj hq hF;have hg0:0<Int.gcd (lo (dt (zA vec) (c.tot.take n)) c.mod) r:=Int.gcd_pos_of_ne_zero_right _ (by omega);unfold turn;simp only;generalize hown:lo (dt (zA vec) (c.tot.take n)) c.mod=own at hg0⊢;obtain ⟨g1,hg1⟩:=Int.gcd_dvd_right own r;obtain ⟨g2,hg2⟩:=Int.gcd_dvd_left own r;generalize hgg:(Int.gcd own r:Int)=g at*;have hgp:0<g:=by omega
 have hsc:r/g=g1:=by
  have:r=g*g1:=hg1;rw [this];exact Int.mul_ediv_cancel_left _ (by omega)
 rw [hsc];have hg1p:0<g1:=by
  rcases Int.lt_or_le 0 g1 with z | z
  ·exact z
  ·have:=Int.mul_le_mul_of_nonneg_left z (Int.le_of_lt hgp);omega
 have ht:own*g1/r=g2:=by
  have:own*g1=r*g2:=by rw [hg2,hg1];grind
  rw [this];exact Int.mul_ediv_cancel_left _ (by omega)
 rw [ht];have ml1:(zM g1 c.tot (-g2) (q j)).length=n+m:=zY I.tl hq;have ml2:(zM g1 c.fac (-g2) (zT j len)).length=len:=zY I.fl (yQ _ _);have tk: ∀x:Fn,(c.mod*g1)∣dt x ((los (zM g1 c.tot (-g2) (q j)) (c.mod*g1)).take n) -(g1*dt x (c.tot.take n) - g2*dt x ((q j).take n)):=fun x=>by
  have e:=zDl (c.tot.take n) ((q j).take n) x (by simp [I.tl,hq]) g1 (-g2);have e':g1*dt x (c.tot.take n) - g2*dt x ((q j).take n)=dt x (zM g1 (c.tot.take n) (-g2) ((q j).take n)):=by rw [e];grind
  rw [e'];refine zEt _ _ x ?_ fun i=>?_
  ·simp [zBE,ml1,zM,I.tl,hq]
  ·rw [zBr,zCH,yL (u:=c.tot) (v:=q j) (by rw [I.tl,hq]),yL (u:=c.tot.take n) (v:=(q j).take n) (by simp [I.tl,hq]),zBr,zBr];split
   ·have:=zCC (g1*zA c.tot i+ -g2*zA (q j) i) (c.mod*g1);rw [<-Int.dvd_neg]
    rwa [Int.neg_sub]
   ·simp
 have shift: ∀{d u v:Int},d∣u - v->d∣v->d∣u:=fun {d u v} h1 h2=>by
  have:=Int.dvd_add h1 h2
  rwa [Int.sub_add_cancel] at this
 have shift': ∀{d u v:Int},d∣u - v->d∣u->d∣v:=fun {d u v} h1 h2=>by
  have:=Int.dvd_sub h2 h1;have e:u -(u - v)=v:=by omega
  rwa [e] at this
 refine ⟨by rw [zBE,ml2],by rw [zBE,ml1],Int.mul_nonneg I.m0 (Int.le_of_lt hg1p),fun i=>?_,fun x hx=>?_,fun hn=>?_⟩
 ·
  have a1:(c.mod*g1)∣ya (los (zM g1 c.fac (-g2) (zT j len)) (c.mod*g1)) q i -(g1*ya c.fac q i - g2*zA (q j) i):=by
   have e:=zDl c.fac (zT j len) (fun j=>zA (q j) i) (by rw [I.fl,yQ]) g1 (-g2);rw [zGM j len _ hj] at e;have e':g1*ya c.fac q i - g2*zA (q j) i=dt (fun j=>zA (q j) i) (zM g1 c.fac (-g2) (zT j len)):=by rw [e];unfold ya;grind
   rw [e'];refine zEt _ _ _ (by rw [zBE]) fun i=>?_;rw [zCH];have:=zCC (zA (zM g1 c.fac (-g2) (zT j len)) i) (c.mod*g1);rw [<-Int.dvd_neg]
   rwa [Int.neg_sub]
  have a2:(c.mod*g1)∣zA (los (zM g1 c.tot (-g2) (q j)) (c.mod*g1)) i -(g1*zA c.tot i - g2*zA (q j) i):=by
   rw [zCH,yL (by rw [I.tl,hq])];have:=zCC (g1*zA c.tot i+ -g2*zA (q j) i) (c.mod*g1);rw [<-Int.dvd_neg];have e: -(lo (g1*zA c.tot i+ -g2*zA (q j) i) (c.mod*g1) -(g1*zA c.tot i - g2*zA (q j) i))=g1*zA c.tot i+ -g2*zA (q j) i - lo (g1*zA c.tot i+ -g2*zA (q j) i) (c.mod*g1):=by grind
   rwa [e]
  have a3:(c.mod*g1)∣g1*(ya c.fac q i - zA c.tot i):=by
   rw [Int.mul_comm c.mod g1];exact Int.mul_dvd_mul_left g1 (I.add i)
  show (c.mod*g1)∣ya (los (zM g1 c.fac (-g2) (zT j len)) (c.mod*g1)) q i - zA (los (zM g1 c.tot (-g2) (q j)) (c.mod*g1)) i;have:=Int.dvd_add (Int.dvd_sub a1 a2) a3;have e:ya (los (zM g1 c.fac (-g2) (zT j len)) (c.mod*g1)) q i -(g1*ya c.fac q i - g2*zA (q j) i) -(zA (los (zM g1 c.tot (-g2) (q j)) (c.mod*g1)) i -(g1*zA c.tot i - g2*zA (q j) i))+g1*(ya c.fac q i - zA c.tot i)=ya (los (zM g1 c.fac (-g2) (zT j len)) (c.mod*g1)) q i - zA (los (zM g1 c.tot (-g2) (q j)) (c.mod*g1)) i:=by grind
  rwa [e] at this
 ·refine shift (tk x) ?_;obtain ⟨t,ht⟩:=hL' x hx;have v1:=I.van _ ht;have v2:=hL _ ht;rw [zBK,zBU] at v1 v2;rw [hd] at v2;have e1:dt x ((q j).take n)=t*r:=by omega
  have e2:c.mod∣dt (zA vec) (c.tot.take n) - own:=by rw [<-hown];exact zCC _ _
  rw [e1];have e3:g1*dt x (c.tot.take n) - g2*(t*r)=g1*(dt x (c.tot.take n) - t*dt (zA vec) (c.tot.take n)+t*(dt (zA vec) (c.tot.take n) - own)):=by
   have:g2*r=g1*own:=by rw [hg2,hg1];grind
   have:g2*(t*r)=t*(g1*own):=by rw [<-this];grind
   rw [this];grind
  rw [e3,Int.mul_comm c.mod g1];exact Int.mul_dvd_mul_left g1 (Int.dvd_add v1 (Int.dvd_mul_of_dvd_right e2))
 ·have h1:=tk F;simp only at hn;rw [zCH,yL (by rw [I.tl,hq])] at hn;have h2:=zCC (g1*zA c.tot (n+k)+ -g2*zA (q j) (n+k)) (c.mod*g1);have h3:(c.mod*g1)∣g1*(dt F (c.tot.take n)+zA c.tot (n+k)):=by
   have:=Int.dvd_add (Int.dvd_sub hn h1) h2;generalize lo (g1*zA c.tot (n+k)+ -g2*zA (q j) (n+k)) (c.mod*g1)=z at*;generalize dt F ((los (zM g1 c.tot (-g2) (q j)) (c.mod*g1)).take n)=y at*;have e:y+z -(y -(g1*dt F (c.tot.take n) - g2*dt F ((q j).take n)))+(g1*zA c.tot (n+k)+ -g2*zA (q j) (n+k) - z)=g1*(dt F (c.tot.take n)+zA c.tot (n+k)):=by
    have:zA (q j) (n+k)= - dt F ((q j).take n):=by omega
    rw [this];grind
   rwa [e] at this
  rw [Int.mul_comm c.mod g1] at h3;exact I.not (Int.dvd_of_mul_dvd_mul_left (by omega) h3)
theorem zFK{n m len k:Nat}{q:Nat->Vec}{F:Fn}: ∀{ss:List Spt} {L:Fn->Prop} {c:Cl},Chn n q ss L->ClI n m q len F k L c->(∀s∈ss,s.1<len/\(q s.1).length=n+m/\dt F ((q s.1).take n)+zA (q s.1) (n+k)=0)->
  ∃L',(∀x:Fn,(∀i,n<=i->x i=0)->L' x)/\ClI n m q len F k L' (ss.foldl (fun c s=>turn n q len s c) c)
 | [],L,c,h,I,_=>⟨L,h,I⟩
 |(j,vec,r)::ss,L,c,⟨L',h1,h2,h3,h4,h5,h6⟩,I,hs=>by
  obtain ⟨a1,a2,a3⟩:=hs (j,vec,r) (by simp);rw [List.foldl_cons];exact zFK (ss:=ss) h1 (zMF (s:=(j,vec,r)) I h2 h3 h4 h5 h6 a1 a2 a3) fun s hs'=>hs s (by simp [hs'])
theorem zCh: ∀(e:Vec) (i:Nat),dt (fun t=>if t=i then 1 else 0) e=zA e i
 | [],i=>rfl
 | c::e,0=>by
  simp only [dt];rw [zEy e _ fun i=>by simp];simp [zBT]
 | c::e,i+1=>by
  simp only [dt];rw [zBB,<-zCh e i];simp
structure Clash(n k len:Nat)(q:Nat->Vec)(f:Vec)(m:Int):Prop where
 fl:f.length=len
 m0:0<=m
 all: ∀i,i<n->m∣ya f q i
 one: ¬m∣ya f q (n+k)
theorem Clash.of{n m len k:Nat}{q:Nat->Vec}{F:Fn}{L:Fn->Prop}{c:Cl}(I:ClI n m q len F k L c)(hL: ∀x:Fn,(∀i,n<=i->x i=0)->L x)(hF: ∀i,n<=i->F i=0):Clash n k len q c.fac c.mod:=by
 refine ⟨I.fl,I.m0,fun i hi=>?_,fun h=>?_⟩
 ·have v:=I.van (fun t=>if t=i then 1 else 0) (hL _ fun t ht=>if_neg (by omega));rw [zCh,zBr,if_pos hi] at v;have:=Int.dvd_add (I.add i) v
  rwa [Int.sub_add_cancel] at this
 ·have v:=I.van F (hL F hF);refine I.not (Int.dvd_add v ?_);have:=Int.dvd_sub h (I.add (n+k));have e:ya c.fac q (n+k) -(ya c.fac q (n+k) - zA c.tot (n+k))=zA c.tot (n+k):=by omega
  rwa [e] at this
def yx(d f:Int):Int:=if f=0 then d else if d=0 then (f.natAbs:Int) else (Int.gcd f d:Int)
theorem zNe{d f:Int}(h:0<=d):0<=yx d f/\yx d f∣d/\yx d f∣f/\(yx d f=0->d=0/\f=0):=by
 unfold yx;split
 ·rename_i z;subst z;exact ⟨h,Int.dvd_refl _,Int.dvd_zero _,fun z=>⟨z,rfl⟩⟩
 ·split
  ·rename_i z1 z;subst z;exact ⟨by omega,Int.dvd_zero _,Int.natAbs_dvd.mpr (Int.dvd_refl _),fun z=>by omega⟩
  ·rename_i z1 z;exact ⟨by omega,Int.gcd_dvd_right _ _,Int.gcd_dvd_left _ _,fun y=>by have:=Int.gcd_pos_of_ne_zero_left d z1;omega⟩
theorem zFU: ∀(fs:Vec) {d:Int},0<=d->0<=fs.foldl yx d/\fs.foldl yx d∣d/\(∀f∈fs,fs.foldl yx d∣f)/\(fs.foldl yx d=0->d=0/\ ∀f∈fs,f=0)
 | [],d,h=>⟨h,Int.dvd_refl _,fun f hf=>(nomatch hf),fun z=>⟨z,fun f hf=>(nomatch hf)⟩⟩
 | f::fs,d,h=>by
  obtain ⟨a1,a2,a3,a4⟩:=zNe (f:=f) h;obtain ⟨b1,b2,b3,b4⟩:=zFU fs a1;refine ⟨b1,Int.dvd_trans b2 a2,fun g hg=>?_,fun z=>?_⟩
  ·rcases List.mem_cons.mp hg with rfl | hg
   ·exact Int.dvd_trans b2 a3
   ·exact b3 g hg
  ·obtain ⟨c1,c2⟩:=b4 z;obtain ⟨d1,d2⟩:=a4 c1;refine ⟨d1,fun g hg=>?_⟩;rcases List.mem_cons.mp hg with rfl | hg
   ·exact d2
   ·exact c2 g hg
def zAI(z m:Int):Int:=if 0<m/\m<2*lo z m then lo z m - m else lo z m
theorem zKH(z m:Int):m∣z - zAI z m:=by
 unfold zAI;split
 ·have:=Int.dvd_add (zCC z m) (Int.dvd_refl m);have e:z - lo z m+m=z -(lo z m - m):=by omega
  rwa [e] at this
 ·exact zCC z m
def short(f:Vec)(m:Int):Vec×Int:=
 let d:=f.foldl yx m
 (f.map fun x=>zAI (x/d) (m/d),m/d)
theorem zEQ(c:Int): ∀(f:Vec) (x:Fn),dt x (f.map fun z=>c*z)=c*dt x f
 | [],_=>by simp [dt]
 | a::f,x=>by simp only [List.map_cons,dt];rw [zEQ c f];grind
theorem zDX(g:Int->Int)(h0:g 0=0)(v:Vec)(i:Nat):zA (v.map g) i=g (zA v i):=by
 by_cases h:i<v.length
 ·simp [zA,h]
 ·rw [yE (by simp;omega),yE (by omega),h0]
theorem Clash.short{n k len:Nat}{q:Nat->Vec}{f:Vec}{m:Int}(h:Clash n k len q f m):Clash n k len q (short f m).1 (short f m).2/\0<f.foldl yx m:=by
 obtain ⟨a1,a2,a3,a4⟩:=zFU f h.m0;have hp:0<f.foldl yx m:=by
  rcases Int.lt_or_eq_of_le a1 with z | z
  ·exact z
  ·obtain ⟨b1,b2⟩:=a4 z.symm;refine absurd ?_ h.one;have e:f=f.map fun z=>0*z:=by
    refine (List.map_id f).symm.trans (List.map_congr_left fun x hx=>?_);rw [b2 x hx];rfl
   have:ya f q (n+k)=0:=by
    unfold ya;rw [e,zEQ];simp
   rw [this];exact Int.dvd_zero _
 refine ⟨?_,hp⟩;unfold FrV.short;simp only;generalize f.foldl yx m=d at*;obtain ⟨m',hm⟩:=a2;have em:m/d=m':=by rw [hm];exact Int.mul_ediv_cancel_left _ (by omega)
 rw [em];have ef:f=(f.map fun x=>x/d).map fun z=>d*z:=by
  rw [List.map_map];refine (List.map_id f).symm.trans (List.map_congr_left fun x hx=>?_);obtain ⟨y,hy⟩:=a3 x hx;simp only [id,Function.comp];rw [hy,Int.mul_ediv_cancel_left _ (by omega)]
 have ad: ∀i,ya f q i=d*ya (f.map fun x=>x/d) q i:=fun i=>by
  unfold ya;rw [<-zEQ,<-ef]
 have nr: ∀i,m'∣ya (f.map fun x=>x/d) q i - ya (f.map fun x=>zAI (x/d) m') q i:=fun i=>by
  refine zEt _ _ _ (by simp) fun i=>?_;have n0:zAI (0/d) m'=0:=by
   have l0:lo 0 m'=0:=zDh.mpr (Int.dvd_zero _);rw [Int.zero_ediv];unfold zAI;rw [l0,if_neg (by omega)]
  rw [zDX (fun x=>x/d) (Int.zero_ediv d),zDX (fun x=>zAI (x/d) m') n0];exact zKH _ _
 refine ⟨by simp [h.fl],?_,fun i hi=>?_,fun z=>?_⟩
 ·rcases Int.lt_or_le m' 0 with z | z
  ·have:=Int.mul_lt_mul_of_pos_left z hp;have:=h.m0;omega
  ·exact z
 ·have:=h.all i hi;rw [ad i,hm] at this;have:=Int.dvd_of_mul_dvd_mul_left (by omega) this;have:=Int.dvd_sub this (nr i)
  rwa [show ya (f.map fun x=>x/d) q i -(ya (f.map fun x=>x/d) q i - ya (f.map fun x=>zAI (x/d) m') q i)=ya (f.map fun x=>zAI (x/d) m') q i by omega] at this
 ·refine h.one ?_;rw [ad,hm];refine Int.mul_dvd_mul_left d ?_;have:=Int.dvd_add (nr (n+k)) z
  rwa [Int.sub_add_cancel] at this
def zAq(n m:Nat):Stt:=⟨(List.range n).map fun p=>(p,zT p n),List.replicate m (List.replicate n 0),[]⟩
theorem zDz{n:Nat}: ∀(a b:Nat),a+b=n-> ∀x:Fn,Sp ((List.range' a b).map fun p=>(p,zT p n)) x↔(∀i,n<=i->x i=0)/\ ∀i,i<a->x i=0
 | a,0,h,x=>by
  simp only [List.range'_zero,List.map_nil];show (∀i,x i=0)↔_;constructor
  ·exact fun z=>⟨fun i _=>z i,fun i _=>z i⟩
  ·rintro ⟨z1,z2⟩ i;by_cases hi:i<a
   ·exact z2 i hi
   ·exact z1 i (by omega)
 | a,b+1,h,x=>by
  rw [List.range'_succ,List.map_cons];have ih:=zDz (n:=n) (a+1) b (by omega);constructor
  ·rintro ⟨c,hx⟩;obtain ⟨z1,z2⟩:=(ih _).mp hx;refine ⟨fun i hi=>?_,fun i hi=>?_⟩
   ·have:=z1 i hi;rw [yh,if_neg (by omega)] at this;simpa using this
   ·have:=z2 i (by omega);rw [yh,if_neg (by omega)] at this;simpa using this
  ·rintro ⟨z1,z2⟩;refine ⟨x a,(ih _).mpr ⟨fun i hi=>?_,fun i hi=>?_⟩⟩
   ·rw [yh,if_neg (by omega),z1 i hi];simp
   ·rw [yh];by_cases e:i=a
    ·rw [if_pos ⟨e,by omega⟩,e];simp
    ·rw [if_neg (by omega),z2 i (by omega)];simp
theorem zFb{n:Nat}: ∀(a b:Nat),a+b=n->Ech n ((List.range' a b).map fun p=>(p,zT p n))/\Red ((List.range' a b).map fun p=>(p,zT p n))
 | a,0,h=>⟨trivial,trivial⟩
 | a,b+1,h=>by
  rw [List.range'_succ,List.map_cons];obtain ⟨i1,i2⟩:=zFb (n:=n) (a+1) b (by omega);have hm: ∀q∈(List.range' (a+1) b).map fun p=>(p,zT p n),a<q.1/\q.1<n/\q.2=zT q.1 n:=fun q hq=>by
   obtain ⟨p,hp,rfl⟩:=List.mem_map.mp hq;have:=List.mem_range'_1.mp hp;exact ⟨by show a<p;omega,by show p<n;omega,rfl⟩
  refine ⟨⟨yQ _ _,by omega,?_,fun j hj=>?_,fun q hq=>(hm q hq).1,i1⟩,fun q hq=>?_,i2⟩
  ·rw [yh,if_pos ⟨rfl,by omega⟩];decide
  ·rw [yh,if_neg (by omega)]
  ·obtain ⟨z1,z2,z3⟩:=hm q hq;rw [z3,yh,yh,if_neg (by omega),if_pos ⟨rfl,z2⟩];decide
theorem zIJ(n i:Nat):zA (List.replicate n 0) i=0:=by
 by_cases h:i<n
 ·simp [zA,h]
 ·exact yE (by simp;omega)
theorem zJa(n m:Nat):Sol n m [] (zAq n m):=by
 have h:=zFb (n:=n) 0 n (by omega);have hs:=zDz (n:=n) 0 n (by omega);rw [<-List.range_eq_range'] at h hs;have hf: ∀f∈(zAq n m).fixed,f=List.replicate n 0:=fun f hf=>List.eq_of_mem_replicate hf;refine ⟨h.1,h.2,fun x=>(hs x).trans ⟨fun ⟨a,_⟩=>⟨a,fun E hE=>(nomatch hE)⟩,fun ⟨a,_⟩=>⟨a,fun i hi=>by omega⟩⟩,by simp [zAq],fun f h'=>by rw [hf f h'];simp,fun f h' q hq=>?_,fun k f _ E hE=>(nomatch hE)⟩;rw [hf f h',zIJ];exact ⟨Int.le_refl _,(h.1.mem hq).2.2.1⟩
theorem zKJ(n m:Nat)(q:Nat->Vec):Chn n q (zAq n m).spent.reverse (Sp (zAq n m).steps):=by
 have hs:=zDz (n:=n) 0 n (by omega);rw [<-List.range_eq_range'] at hs;exact fun x hx=>(hs x).mpr ⟨hx,fun i hi=>by omega⟩
theorem zDt{n m len:Nat}{q:Nat->Vec}{Es:List Eqn}{s:Stt}{E:Eqn}{j:Nat}(I:Sol n m Es s)(hc:E.2.length=m)(he:E.1.length=n)(hq:q j=E.1++E.2)(hj:j<len)(hf:zBM E s=false):
  ∃k F,s.fixed[k]?=some F/\ClI n m q len (zA F) k (Sp s.steps) ⟨zT j len,q j,(part E.1 s.steps).2.2⟩:=by
 have P:=zw (e:=E.1) I.ech;obtain ⟨z,hz,hn⟩:=List.all_eq_false.mp hf;obtain ⟨k,hk⟩:=List.mem_iff_getElem?.mp hz;cases hF:s.fixed[k]? with
 | none=>simp [yU,List.getElem?_zipWith,hF] at hk
 | some F=>
  rw [zCK (e:=E.1) (hc.trans I.fl.symm) hF] at hk;cases hk;have hn': ¬(part E.1 s.steps).2.2∣dt (zA F) E.1+zA E.2 k:=fun d=>hn (by rw [beq_iff_eq];exact zDh.mpr d);have tk:(q j).take n=E.1:=by rw [hq,<-he];simp
  refine ⟨k,F,hF,yQ _ _,by rw [hq];simp [hc,he],P.r0,fun i=>?_,fun x hx=>?_,?_⟩
  ·unfold ya;rw [zGM j len _ hj];simp
  ·show _∣dt x ((q j).take n);rw [tk];rcases Int.lt_or_eq_of_le P.r0 with hr | hr
   ·obtain ⟨c,h1⟩:=(P.sp hr x).mp hx;have z:=Sp.dt h1 P.dt0;rw [zBK,zBU,P.dtv hr] at z;exact ⟨c,by show _=(part E.1 s.steps).2.2*c;rw [Int.mul_comm];omega⟩
   ·have e:=P.same hr.symm;have z:=Sp.dt hx (e▸P.dt0);rw [z];exact Int.dvd_zero _
  ·show¬_∣dt (zA F) ((q j).take n)+zA (q j) (n+k);rw [tk];have:zA (q j) (n+k)=zA E.2 k:=by
    rw [hq];simp only [zA,List.getD_eq_getElem?_getD];rw [List.getElem?_append_right (by omega)];congr 2;omega
   rw [this];exact hn'
def Bt(b:Nat)(x:Int):Prop:=x.natAbs<=2^b
def Bts(b:Nat)(v:Vec):Prop:= ∀i,Bt b (zA v i)
theorem Bt.mono{a b:Nat}{x:Int}(h:Bt a x)(hab:a<=b):Bt b x:=zOr h (Nat.pow_le_pow_right (by decide) hab)
theorem Bts.mono{a b:Nat}{v:Vec}(h:Bts a v)(hab:a<=b):Bts b v:=fun i=>(h i).mono hab
theorem Bt.mul{a b:Nat}{x y:Int}(h1:Bt a x)(h2:Bt b y):Bt (a+b) (x*y):=by
 unfold Bt at*;rw [Int.natAbs_mul,Nat.pow_add];exact Nat.mul_le_mul h1 h2
theorem Bt.add{a:Nat}{x y:Int}(h1:Bt a x)(h2:Bt a y):Bt (a+1) (x+y):=by
 unfold Bt at*;rw [Nat.pow_succ];have:=Int.natAbs_add_le x y;omega
theorem Bt.neg{a:Nat}{x:Int}(h:Bt a x):Bt a (-x):=by
 unfold Bt at*;rwa [Int.natAbs_neg]
theorem Bt.zero{a:Nat}:Bt a 0:=zOs _
theorem Bt.one{a:Nat}:Bt a 1:=Nat.one_le_two_pow
theorem Bt.le{a:Nat}{x y:Int}(h:Bt a y)(hx:x.natAbs<=y.natAbs):Bt a x:=zOr hx h
theorem Bt.mixed{a b:Nat}{x y z w:Int}(h1:Bt a x)(h2:Bt b y)(h3:Bt a z)(h4:Bt b w):Bt (a+b+1) (x*y+z*w):=(h1.mul h2).add (h3.mul h4)
theorem zEW{a b k l:Nat}{x y:Int}{u v:Vec}(h:u.length=v.length)(h1:Bt a x)(h2:Bts b u)(h3:Bt a y)(h4:Bts b v):Bts (a+b+1) (zM x u y v):=fun i=>by
 rw [yL h];exact Bt.mixed h1 (h2 i) h3 (h4 i)
theorem zDp{a b:Nat}: ∀(e:Vec) (x:Fn) (k:Nat),e.length<=2^k->(∀i,Bt a (x i))->Bts b e->Bt (a+b+k) (dt x e):=by
 have key: ∀(e:Vec) (x:Fn),(∀i,Bt a (x i))->Bts b e->(dt x e).natAbs<=e.length*2^(a+b):=by
  intro e
  induction e with
  | nil=>intro x _ _;simp [dt]
  | cons c e ih=>
   intro x hx he;have z:=ih (fun i=>x (i+1)) (fun i=>hx (i+1)) (fun i=>by have:=he (i+1);rwa [zBB] at this);have z0:Bt (a+b) (x 0*c):=(hx 0).mul (he 0);unfold Bt at z0;have:=Int.natAbs_add_le (x 0*c) (dt (fun i=>x (i+1)) e);simp only [dt,List.length_cons];rw [Nat.succ_mul];omega
 intro e x k hk hx he;unfold Bt;have:=key e x hx he;rw [Nat.pow_add,Nat.mul_comm];exact zOr this (Nat.mul_le_mul_right _ hk)
def cross(e1:Vec)(q:Nat)(e:Vec):Vec:=zM (zA e1 q) e (-(zA e q)) e1
theorem zDE{n q:Nat}{e1 e:Vec}(h1:e1.length=n)(h2:e.length=n):(cross e1 q e).length=n:=zY h2 h1
theorem zCo{n q:Nat}{e1 e:Vec}(h1:e1.length=n)(h2:e.length=n)(x:Fn):dt x (cross e1 q e)=zA e1 q*dt x e - zA e q*dt x e1:=by
 unfold cross;rw [zDl _ _ _ (by omega)];grind
theorem zCv{n q:Nat}{e1 e:Vec}(h1:e1.length=n)(h2:e.length=n)(i:Nat):zA (cross e1 q e) i=zA e1 q*zA e i - zA e q*zA e1 i:=by
 unfold cross;rw [yL (by omega)];grind
theorem zEH{n q b:Nat}{e1 e:Vec}(h1:e1.length=n)(h2:e.length=n)(b1:Bts b e1)(b2:Bts b e):Bts (2*b+1) (cross e1 q e):=by
 have:=zEW (k:=0) (l:=0) (x:=zA e1 q) (y:= -(zA e q)) (u:=e) (v:=e1) (by omega) (b1 q) b2 (b2 q).neg b1;rw [show 2*b+1=b+b+1 by omega];exact this
def Inj(N:List Nat)(Es:List Vec):Prop:= ∀y:Fn,(∀i,i∉N->y i=0)->(∀e∈Es,dt y e=0)-> ∀i,y i=0
theorem zEX(e:Vec)(x:Fn)(q:Nat)(c:Int):dt (fun i=>x i+c*(if i=q then 1 else 0)) e=dt x e+c*zA e q:=by
 have:=zBg 1 c e x (fun i=>if i=q then 1 else 0);rw [zCh] at this;rw [<-Int.one_mul (dt x e),<-this];exact zAv fun i=>by simp
theorem Inj.pick{q:Nat}{N:List Nat}{Es:List Vec}(h:Inj (q::N) Es): ∃e1∈Es,zA e1 q≠0:=by
 refine Classical.byContradiction fun hn=>?_;have:=h (fun i=>if i=q then 1 else 0) (fun i hi=>if_neg fun z=>hi (by simp [z])) (fun e he=>by
  rw [zCh];exact Classical.byContradiction fun z=>hn ⟨e,he,z⟩) q
 simp at this
theorem Inj.cross{n q:Nat}{N:List Nat}{Es:List Vec}{e1:Vec}(h:Inj (q::N) Es)(hq:q∉N)(hl: ∀e∈Es,e.length=n)(h1:e1∈Es)(h0:zA e1 q≠0):Inj N (Es.map (cross e1 q)):=by
 intro y hy he;have z:=h (fun i=>zA e1 q*y i+(-(dt y e1))*(if i=q then 1 else 0)) (fun i hi=>?_) (fun e hE=>?_)
 ·intro i;by_cases e:i=q
  ·rw [e];exact hy q hq
  ·have:=z i;rw [if_neg e] at this;have:zA e1 q*y i=0:=by omega
   rcases Int.mul_eq_zero.mp this with t | t
   ·exact absurd t h0
   ·exact t
 ·have a:i∉N:=fun t=>hi (by simp [t]);have b:i≠q:=fun t=>hi (by simp [t]);show zA e1 q*y i+ -(dt y e1)*(if i=q then 1 else 0)=0;rw [hy i a,if_neg b];simp
 ·have:=zEX e (fun i=>zA e1 q*y i) q (-(dt y e1));rw [this,zBU];have z:=he (FrV.cross e1 q e) (List.mem_map_of_mem hE);rw [zCo (hl e1 h1) (hl e hE)] at z;rw [Int.neg_mul,Int.mul_comm (dt y e1)];omega
def ub:Nat->Nat->Nat->Nat
 | 0,_,_=>0
 | k+1,l,b=>l+b+ub k l (2*b+1)
theorem zIs{n l:Nat}(hn:n<=2^l): ∀(N:List Nat) (Es:List Vec) (b B:Nat) (x:Fn),N.Nodup->(∀e∈Es,e.length=n/\Bts b e)->Inj N Es->(∀e∈Es,dt x e=0)->(∀i,i∉N->Bt B (x i))-> ∀i,Bt (ub N.length l b+B) (x i)
 | [],Es,b,B,x,_,_,_,_,hB=>fun i=>(hB i (by simp)).mono (by simp)
 | q::N,Es,b,B,x,nd,hE,hI,hx,hB=>by
  rw [List.nodup_cons] at nd;obtain ⟨e1,he1,h0⟩:=hI.pick;have hl: ∀e∈Es,e.length=n:=fun e he=>(hE e he).1;have ih:=zIs hn N (Es.map (cross e1 q)) (2*b+1) B (fun i=>x i+(-(x q))*(if i=q then 1 else 0)) nd.2 (fun e he=>?_) (hI.cross nd.1 hl he1 h0) (fun e he=>?_) (fun i hi=>?_)
  ·have hd:Bt (ub N.length l (2*b+1)+B+b+l) (dt (fun i=>x i+(-(x q))*(if i=q then 1 else 0)) e1):=zDp e1 _ l (by rw [hl e1 he1];exact hn) ih (hE e1 he1).2;rw [zEX,hx e1 he1] at hd;have hq:Bt (ub N.length l (2*b+1)+B+b+l) (x q):=by
    refine hd.le ?_;rw [Int.zero_add,Int.natAbs_mul,Int.natAbs_neg];exact Nat.le_mul_of_pos_right _ (by omega)
   intro i;by_cases e:i=q
   ·rw [e];exact hq.mono (by simp only [List.length_cons,ub];omega)
   ·have:=ih i;rw [if_neg e] at this;have:Bt (ub N.length l (2*b+1)+B) (x i):=by simpa using this
    exact this.mono (by simp only [List.length_cons,ub];omega)
  ·obtain ⟨e',he',rfl⟩:=List.mem_map.mp he;exact ⟨zDE (hl e1 he1) (hl e' he'),zEH (hl e1 he1) (hl e' he') (hE e1 he1).2 (hE e' he').2⟩
  ·obtain ⟨e',he',rfl⟩:=List.mem_map.mp he;rw [zEX,zCo (hl e1 he1) (hl e' he'),hx e' he',hx e1 he1,zCv (hl e1 he1) (hl e' he')]
   grind
  ·show Bt B (x i+ -(x q)*(if i=q then 1 else 0));by_cases e:i=q
   ·rw [if_pos e,e];have:x q+ -x q*1=0:=by omega
    rw [this];exact Bt.zero
   ·rw [if_neg e];have:=hB i (by simp [e,hi]);simpa using this
theorem zJX{n:Nat}{N0:List Nat}{K:Fn->Prop}(hK: ∀f:Vec,f.length=n->(∀q∈N0,zA f q=0)->(∀x,K x->dt x f=0)-> ∀i,zA f i=0){p:Nat}(hp:p<n)(hp0:p∉N0): ∀(N:List Nat) (Es:List Vec) (b:Nat),N.Nodup->(∀q∈N,q∈N0/\q<n)->(∀e∈Es,e.length=n/\Bts b e)->Inj N Es->(∀x,K x-> ∀e∈Es,dt x e=0)->(∀e∈Es,∀q∈N0,q∉N->zA e q=0)->
  ∃y:Fn,y p≠0/\Bt (ub N.length 0 b) (y p)/\(∀e∈Es,dt y e=0)/\(∀i,i∉N0->i≠p->y i=0)/\ ∀i,n<=i->y i=0
 | [],Es,b,_,_,hE,_,hx,hz=>by
  refine ⟨fun i=>if i=p then 1 else 0,by simp,by simp;exact Bt.one,fun e he=>?_,fun i _ hi=>if_neg hi,fun i hi=>if_neg (by omega)⟩;rw [zCh];exact hK e (hE e he).1 (fun q hq=>hz e he q hq (by simp)) (fun x hx'=>hx x hx' e he) p
 | q::N,Es,b,nd,hN,hE,hI,hx,hz=>by
  rw [List.nodup_cons] at nd;obtain ⟨e1,he1,h0⟩:=hI.pick;have hl: ∀e∈Es,e.length=n:=fun e he=>(hE e he).1;obtain ⟨y,y1,y2,y3,y4,y5⟩:=zJX hK hp hp0 N (Es.map (cross e1 q)) (2*b+1) nd.2 (fun r hr=>hN r (by simp [hr])) (fun e he=>by
   obtain ⟨e',he',rfl⟩:=List.mem_map.mp he;exact ⟨zDE (hl e1 he1) (hl e' he'),zEH (hl e1 he1) (hl e' he') (hE e1 he1).2 (hE e' he').2⟩) (hI.cross nd.1 hl he1 h0) (fun x hx' e he=>by
   obtain ⟨e',he',rfl⟩:=List.mem_map.mp he;rw [zCo (hl e1 he1) (hl e' he'),hx x hx' e' he',hx x hx' e1 he1];simp) (fun e he r hr hrN=>by
   obtain ⟨e',he',rfl⟩:=List.mem_map.mp he;rw [zCv (hl e1 he1) (hl e' he')];by_cases e:r=q
   ·rw [e];grind
   ·rw [hz e' he' r hr (by simp [e,hrN]),hz e1 he1 r hr (by simp [e,hrN])];simp)
  have hpq:p≠q:=fun z=>hp0 (by rw [z];exact (hN q (by simp)).1);refine ⟨fun i=>zA e1 q*y i+(-(dt y e1))*(if i=q then 1 else 0),?_,?_,fun e he=>?_,fun i hi hip=>?_,fun i hi=>?_⟩
  ·show zA e1 q*y p+ -(dt y e1)*(if p=q then 1 else 0)≠0;rw [if_neg hpq,Int.mul_zero,Int.add_zero];exact fun z=>(Int.mul_eq_zero.mp z).elim h0 y1
  ·show Bt _ (zA e1 q*y p+ -(dt y e1)*(if p=q then 1 else 0));rw [if_neg hpq,Int.mul_zero,Int.add_zero];exact (((hE e1 he1).2 q).mul y2).mono (by simp only [List.length_cons,ub];omega)
  ·rw [zEX,zBU];have z:=y3 (cross e1 q e) (List.mem_map_of_mem he);rw [zCo (hl e1 he1) (hl e he)] at z;rw [Int.neg_mul,Int.mul_comm (dt y e1)];omega
  ·show zA e1 q*y i+ -(dt y e1)*(if i=q then 1 else 0)=0;rw [y4 i hi hip,if_neg (fun z=>hi (by rw [z];exact (hN q (by simp)).1))];simp
  ·show zA e1 q*y i+ -(dt y e1)*(if i=q then 1 else 0)=0;rw [y5 i hi,if_neg (fun z=>by have:=(hN q (by simp)).2;omega)];simp
theorem Sp.dvd{n:Nat}: ∀{S:List Stp} {y:Fn} {q:Stp},Ech n S->Sp S y->q∈S->(∀s∈S,s.1<q.1->y s.1=0)->zA q.2 q.1∣y q.1
 |(p,v)::S,y,q,h,hy,hq,hz=>by
  have h':=h;obtain ⟨h1,h2,h3,h4,h5,h6⟩:=h;rcases List.mem_cons.mp hq with rfl | hq
  ·obtain ⟨c,hc⟩:=hy;have e:=Sp.ahead (j:=p) h6 hc h5;exact ⟨c,by show y p=zA v p*c;rw [Int.mul_comm];omega⟩
  ·exact Sp.dvd h6 (Sp.rest h' hy (hz (p,v) (by simp) (h5 q hq))) hq fun s hs=>hz s (by simp [hs])
theorem zFg: ∀(f:Vec) (x:Fn) (p:Nat),(∀i,i≠p->x i*zA f i=0)->dt x f=x p*zA f p
 | [],x,p,_=>by simp [dt,zNH]
 | c::f,x,0,h=>by
  simp only [dt];rw [zBT];have: ∀(f:Vec) (y:Fn),(∀i,y i*zA f i=0)->dt y f=0:=by
   intro f
   induction f with
   | nil=>intro y _;rfl
   | cons d f ih=>
    intro y hy;simp only [dt];have a:=hy 0;rw [zBT] at a;rw [a,ih _ fun i=>by have:=hy (i+1);rwa [zBB] at this];rfl
  rw [this f _ fun i=>by have:=h (i+1) (by omega);rwa [zBB] at this];simp
 | c::f,x,p+1,h=>by
  simp only [dt];have a:=h 0 (by omega);rw [zBT] at a;rw [zBB,zFg f (fun i=>x (i+1)) p fun i hi=>by have:=h (i+1) (by omega);rwa [zBB] at this,a];simp
theorem zMx{n:Nat}{f:Vec}: ∀{S:List Stp},Ech n S->(∀q∈S,dt (zA q.2) f=0)-> ∀(h0: ∀i,(∀q∈S,i≠q.1)->(∃q∈S,q.1<=i)->zA f i=0),∀q∈S,zA f q.1=0
 | [],_,_,_,q,hq=>(nomatch hq)
 |(p,v)::S,⟨h1,h2,h3,h4,h5,h6⟩,hd,h0,q,hq=>by
  have ih:=zMx h6 (fun q hq=>hd q (by simp [hq])) fun i hi ⟨s,hs,hsi⟩=>h0 i (fun r hr=>by
   rcases List.mem_cons.mp hr with rfl | hr
   ·have:=h5 s hs;show i≠p;omega
   ·exact hi r hr) ⟨s,by simp [hs],hsi⟩
  rcases List.mem_cons.mp hq with rfl | hq
  ·have z:=hd (p,v) (by simp);rw [zFg f (zA v) p fun i hi=>by
    by_cases hip:i<p
    ·rw [h4 i hip];simp
    ·by_cases hS: ∃s∈S,i=s.1
     ·obtain ⟨s,hs,rfl⟩:=hS;rw [ih s hs];simp
     ·rw [h0 i (fun r hr=>by
       rcases List.mem_cons.mp hr with rfl | hr
       ·exact hi
       ·exact fun e=>hS ⟨r,hr,e⟩) ⟨(p,v),by simp,by show p<=i;omega⟩]
      simp] at z
   rcases Int.mul_eq_zero.mp z with z | z
   ·have h3':0<zA v p:=h3;omega
   ·exact z
  ·exact ih q hq
def bare(n:Nat)(S:List Stp):List Nat:=(List.range n).filter fun i=>S.all fun q=>q.1 !=i
theorem zAL{n:Nat}{S:List Stp}{i:Nat}:i∈bare n S↔i<n/\ ∀q∈S,q.1≠i:=by
 simp [bare,List.mem_filter]
theorem zHQ(n:Nat)(S:List Stp):(bare n S).Nodup:=List.Pairwise.filter _ List.nodup_range
theorem zGm(n:Nat)(S:List Stp):(bare n S).length<=n:=by
 have:=List.length_filter_le (fun i=>S.all fun q=>q.1 !=i) (List.range n);simpa [bare] using this
theorem zBo{l l':Nat}(hl:l<=l'): ∀{k k' b b':Nat},k<=k'->b<=b'->ub k l b<=ub k' l' b'
 | 0,_,_,_,_,_=>zOs _
 | k+1,0,_,_,h,_=>by omega
 | k+1,k'+1,b,b',h,hb=>by
  have:=zBo hl (k:=k) (k':=k') (b:=2*b+1) (b':=2*b'+1) (by omega) (by omega);simp only [ub];omega
structure Kern(n:Nat)(Es:List Vec)(b:Nat)(S:List Stp):Prop where
 ech:Ech n S
 ker: ∀x,Sp S x↔(∀i,n<=i->x i=0)/\ ∀e∈Es,dt x e=0
 el: ∀e∈Es,e.length=n/\Bts b e
theorem Kern.inj{n b:Nat}{Es:List Vec}{S:List Stp}(h:Kern n Es b S):Inj (bare n S) Es:=by
 intro y hy he;have hs:Sp S y:=(h.ker y).mpr ⟨fun i hi=>hy i fun z=>by have:=(zAL.mp z).1;omega,he⟩;refine Sp.small h.ech hs fun q hq=>?_;have:=hy q.1 fun z=>(zAL.mp z).2 q hq rfl;have:=(h.ech.mem hq).2.2.1;omega
theorem Kern.pivot{n b:Nat}{Es:List Vec}{S:List Stp}(h:Kern n Es b S){q:Stp}(hq:q∈S):Bt (ub n 0 b) (zA q.2 q.1):=by
 have hm:=h.ech.mem hq;obtain ⟨y,y1,y2,y3,y4,y5⟩:=zJX (n:=n) (N0:=bare n S) (K:=Sp S) (fun f hf hz hv i=>by
  by_cases hi: ∃s∈S,i=s.1
  ·obtain ⟨s,hs,rfl⟩:=hi;exact zMx h.ech (fun r hr=>hv _ (Sp.mem hr)) (fun j hj _=>by
    by_cases hjn:j<n
    ·exact hz j (zAL.mpr ⟨hjn,fun r hr z=>hj r hr z.symm⟩)
    ·exact yE (by omega)) s hs
  ·by_cases hin:i<n
   ·exact hz i (zAL.mpr ⟨hin,fun r hr z=>hi ⟨r,hr,z.symm⟩⟩)
   ·exact yE (by omega)) (p:=q.1) hm.2.1 (fun z=>(zAL.mp z).2 q hq rfl) (bare n S) Es b (zHQ n S) (fun r hr=>⟨hr,(zAL.mp hr).1⟩) h.el h.inj (fun x hx=>((h.ker x).mp hx).2) (fun e _ r hr hn=>absurd hr hn)
 have hs:Sp S y:=(h.ker y).mpr ⟨y5,y3⟩;have hd:=Sp.dvd h.ech hs hq fun s hs' hlt=>y4 s.1 (fun z=>(zAL.mp z).2 s hs' rfl) (by omega);refine (y2.mono (zBo (zOh 0) (zGm n S) (zOh b))).le ?_;exact Nat.le_of_dvd (by omega) (Int.natAbs_dvd_natAbs.mpr hd)
theorem Kern.grow{n b l B:Nat}{Es:List Vec}{S:List Stp}(h:Kern n Es b S)(hl:n+1<=2^l){x:Fn}{c:Vec->Int}{z:Int}(hx: ∀i,n<=i->x i=0)(he: ∀e∈Es,dt x e+c e*z=0)(hc: ∀e∈Es,Bt b (c e))(hz:Bt B z)(hp: ∀q∈S,Bt B (x q.1)): ∀i,Bt (ub n l b+B) (x i):=by
 have app: ∀(e:Vec) (y:Fn) (d:Int),dt y (e++ [d])=dt y e+y e.length*d:=by
  intro e
  induction e with
  | nil=>intro y d;simp [dt]
  | cons a e ih=>intro y d;simp only [List.cons_append,dt,List.length_cons];rw [ih];omega
 have low: ∀(e:Vec) (y y':Fn),(∀i,i<e.length->y i=y' i)->dt y e=dt y' e:=by
  intro e
  induction e with
  | nil=>intro y y' _;rfl
  | cons a e ih=>intro y y' hy;simp only [dt];rw [hy 0 (by simp),ih _ _ fun i hi=>hy (i+1) (by simp;omega)]
 have key:=zIs (n:=n+1) (l:=l) hl (bare n S) (Es.map fun e=>e++ [c e]) b B (fun i=>if i=n then z else x i) (zHQ n S) (fun e he'=>by
  obtain ⟨e',h1,rfl⟩:=List.mem_map.mp he';obtain ⟨a1,a2⟩:=h.el e' h1;refine ⟨by simp [a1],fun i=>?_⟩;by_cases hi:i<n
  ·have:zA (e'++ [c e']) i=zA e' i:=by simp [zA,List.getElem?_append_left (show i<e'.length by omega)]
   rw [this];exact a2 i
  ·by_cases hi':i=n
   ·have:zA (e'++ [c e']) i=c e':=by rw [hi'];simp [zA,<-a1]
    rw [this];exact hc e' h1
   ·rw [yE (by simp;omega)];exact Bt.zero) (fun y hy he'=>h.inj y hy fun e h1=>by
   have:=he' (e++ [c e]) (List.mem_map_of_mem h1);rw [app,(h.el e h1).1,hy n (fun t=>by have:=(zAL.mp t).1;omega)] at this;simpa using this) (fun e he'=>by
   obtain ⟨e',h1,rfl⟩:=List.mem_map.mp he';rw [app,(h.el e' h1).1,low e' _ x fun i hi=>if_neg (by have:=(h.el e' h1).1;omega)];have:=he e' h1;rw [if_pos rfl,Int.mul_comm z];omega) (fun i hi=>by
   show Bt B (if i=n then z else x i);split
   ·exact hz
   ·by_cases hin:i<n
    ·by_cases hS: ∃q∈S,q.1=i
     ·obtain ⟨q,hq,rfl⟩:=hS;exact hp q hq
     ·exact absurd (zAL.mpr ⟨hin,fun q hq e=>hS ⟨q,hq,e⟩⟩) hi
    ·rw [hx i (by omega)];exact Bt.zero)
 intro i;by_cases hi:i=n
 ·rw [hi,hx n (zOh n)];exact Bt.zero
 ·have:=key i;rw [if_neg hi] at this;exact this.mono (Nat.add_le_add_right (zBo (zOh l) (zGm n S) (zOh b)) B)
theorem zFQ{n:Nat}: ∀{S:List Stp},Ech n S->Red S-> ∀q∈S,∀r∈S,0<=zA q.2 r.1/\zA q.2 r.1<=zA r.2 r.1
 | [],_,_,q,hq,_,_=>(nomatch hq)
 |(p,v)::S,⟨h1,h2,h3,h4,h5,h6⟩,⟨r1,r2⟩,q,hq,r,hr=>by
  rcases List.mem_cons.mp hq with rfl | hq<;>rcases List.mem_cons.mp hr with rfl | hr
  ·exact ⟨Int.le_of_lt h3,Int.le_refl _⟩
  ·have:=r1 r hr;exact ⟨this.1,Int.le_of_lt this.2⟩
  ·have z:=(h6.mem hq).2.2.2 p (h5 q hq);show 0<=zA q.2 p/\zA q.2 p<=zA v p;omega
  ·exact zFQ h6 r2 q hq r hr
theorem zEp{b:Nat}{x y:Int}(h:Bt b y)(h1: -y<=x)(h2:x<=y):Bt b x:=h.le (by omega)
theorem Kern.steps{n b l:Nat}{Es:List Vec}{S:List Stp}(h:Kern n Es b S)(hr:Red S)(hl:n+1<=2^l){q:Stp}(hq:q∈S):Bts (ub n l b+ub n 0 b) q.2:=by
 have hm:=(h.ker _).mp (Sp.mem hq);refine h.grow hl (x:=zA q.2) (c:=fun _=>0) (z:=0) hm.1 (fun e he=>by rw [hm.2 e he];simp) (fun _ _=>Bt.zero) Bt.zero fun r hr'=>?_;have:=zFQ h.ech hr q hq r hr';exact zEp (h.pivot hr') (by omega) this.2
theorem zGK{e:Vec}: ∀{S S':List Stp},S'<:+S-> ∀q∈(part e S').1,q∈(part e S).1
 | [],S',h,q,hq=>by rw [List.suffix_nil.mp h] at hq;exact hq
 |(p,v)::S,S',h,q,hq=>by
  rcases List.suffix_cons_iff.mp h with rfl | h
  ·exact hq
  ·have ih:=zGK (e:=e) h q hq;simp only [part];split
   ·exact zPK _ ih
   ·split
    ·exact ih
    ·split<;>exact zPK _ ih
theorem zGW{n:Nat}{e:Vec}: ∀{S S':List Stp},Ech n S->S'<:+S-> ∀q∈(part e S).1,q∈(part e S').1\/ ∀s∈S',q.1<s.1
 | [],S',_,h,q,hq=>by rw [List.suffix_nil.mp h];exact .inl hq
 |(p,v)::S,S',⟨h1,h2,h3,h4,h5,h6⟩,h,q,hq=>by
  rcases List.suffix_cons_iff.mp h with rfl | h
  ·exact .inl hq
  ·have ih:=zGW (e:=e) h6 h q;have hd:q.1=p->q∈(part e S').1\/ ∀s∈S',q.1<s.1:=fun z=> .inr fun s hs=>by rw [z];exact h5 s (h.subset hs)
   simp only [part] at hq;split at hq
   ·rcases List.mem_cons.mp hq with rfl | hq
    ·exact hd rfl
    ·exact ih hq
   ·split at hq
    ·exact ih hq
    ·split at hq
     ·rcases List.mem_cons.mp hq with rfl | hq
      ·exact hd rfl
      ·exact ih hq
     ·rcases List.mem_cons.mp hq with rfl | hq
      ·exact hd rfl
      ·exact ih hq
theorem zGJ{n:Nat}{e:Vec}: ∀{S:List Stp},Ech n S->Red S->0<(part e S).2.2-> ∀q∈(part e S).1,- zA q.2 q.1<zA (part e S).2.1 q.1/\zA (part e S).2.1 q.1<zA q.2 q.1
 | [],_,_,hr=>by simp [part] at hr
 |(p,v)::S,h,hR,hr=>by
  have hE:=h;obtain ⟨h1,h2,h3,h4,h5,h6⟩:=h;have I:=zw (e:=e) h6;have J:=zGJ (e:=e) h6 hR.2;simp only [part] at hr⊢;generalize part e S=r at I J hr⊢;obtain ⟨k,vec,rc⟩:=r;simp only at I J hr⊢;by_cases h0:dt (zA v) e=0
  ·rw [if_pos h0] at hr⊢;simp only at hr⊢;intro q hq;rcases List.mem_cons.mp hq with rfl | hq
   ·have:=I.ahead hr p h5;have h3':0<zA v p:=h3;show - zA v p<zA vec p/\zA vec p<zA v p;omega
   ·exact J hr q hq
  ·rw [if_neg h0] at hr⊢;by_cases hr0:rc=0
   ·rw [if_pos hr0] at hr⊢;simp only at hr⊢;have ek:=I.same hr0;subst ek;intro q hq;have:=hR.1 q hq;split
    ·omega
    ·rw [zCq h1 h1];omega
   ·rw [if_neg hr0] at hr⊢;have hrp:0<rc:=by have:=I.r0;omega
    obtain ⟨g1,g2,g3,_⟩:=zAE (one:=dt (zA v) e) hrp;have P:=zw (e:=e) hE;have hvl:=I.len hrp;have hkp: ∀q∈k,p<q.1:=fun q hq=>by
     obtain ⟨s,hs,e1⟩:=I.pl q hq;rw [<-e1];exact h5 s hs
    have hg:0<rc/(zv (dt (zA v) e) rc).1:=Int.ediv_pos_of_pos_of_dvd hrp (by omega) g3;have hpw:0<zA (zR (zM (rc/(zv (dt (zA v) e) rc).1) v (-(dt (zA v) e/(zv (dt (zA v) e) rc).1)) vec) k) p:=by
     rw [(zd I.ech (zY h1 hvl)).2.2.2 p hkp,zCq h1 hvl,I.ahead hrp p h5];have:=Int.mul_pos hg h3;omega
    have hech:Ech n ((p,zR (zM (rc/(zv (dt (zA v) e) rc).1) v (-(dt (zA v) e/(zv (dt (zA v) e) rc).1)) vec) k)::k):=by
     obtain ⟨l1,l2,l3,l4⟩:=zd (r:=zM (rc/(zv (dt (zA v) e) rc).1) v (-(dt (zA v) e/(zv (dt (zA v) e) rc).1)) vec) I.ech (zY h1 hvl);refine ⟨l1,h2,hpw,fun j hj=>?_,hkp,I.ech⟩;rw [l4 j fun q hq=>Nat.lt_trans hj (hkp q hq),zCq h1 hvl,h4 j hj,I.ahead hrp j fun q hq=>Nat.lt_trans hj (h5 q hq)];simp
    split
    ·intro q hq;have z:=(zd (r:=zM (zv (dt (zA v) e) rc).2.1 v (zv (dt (zA v) e) rc).2.2 vec) hech (zY h1 hvl)).2.2.1 q hq;have:=(hech.mem hq).2.2.1;show - zA q.2 q.1<zA (zR _ _) q.1/\zA (zR _ _) q.1<zA q.2 q.1;omega
    ·intro q hq;rcases List.mem_cons.mp hq with rfl | hq
     ·have:=I.ahead hrp p h5;simp only;omega
     ·exact J hrp q hq
theorem zEs{n R:Nat}{e:Vec}: ∀{S:List Stp},Ech n S->(∀q∈S,Bt R (dt (zA q.2) e))->Bt R (part e S).2.2
 | [],_,_=>Bt.zero
 |(p,v)::S,h,hB=>by
  have h6:=h.2.2.2.2.2;have I:=zw (e:=e) h6;have ih:=zEs (e:=e) h6 fun q hq=>hB q (by simp [hq]);have hv:=hB (p,v) (by simp);simp only [part];generalize part e S=r at I ih⊢;obtain ⟨k,vec,rc⟩:=r;simp only at I ih⊢;split
  ·exact ih
  ·split
   ·exact hv.le (by simp)
   ·rename_i h0 hr0
    have hr:0<rc:=by have:=I.r0;omega
    obtain ⟨g1,_⟩:=zAE (one:=dt (zA v) e) hr;split
    ·rename_i hlt
     exact ih.le (by simp only;omega)
    ·exact ih
theorem zGg{e:Vec}: ∀{n:Nat} {S:List Stp},Ech n S->(part e S).2.2=0->(part e S).2.1= []
 | n,[],_,_=>rfl
 | n,(p,v)::S,h,hr=>by
  have h6:=h.2.2.2.2.2;have I:=zw (e:=e) h6;have ih:=zGg (e:=e) h6;simp only [part] at hr⊢;generalize part e S=r at I ih hr⊢;obtain ⟨k,vec,rc⟩:=r;simp only at I ih hr⊢;by_cases h0:dt (zA v) e=0
  ·rw [if_pos h0] at hr⊢;exact ih hr
  ·rw [if_neg h0] at hr⊢;by_cases hr0:rc=0
   ·rw [if_pos hr0] at hr;simp only at hr;omega
   ·rw [if_neg hr0] at hr⊢;have hrp:0<rc:=by have:=I.r0;omega
    obtain ⟨g1,_⟩:=zAE (one:=dt (zA v) e) hrp;split at hr
    ·simp only at hr;omega
    ·exact absurd hr hr0
theorem zAK{n:Nat}: ∀{S S':List Stp},Ech n S->S'<:+S->Ech n S'
 | [],S',_,h=>by rw [List.suffix_nil.mp h];trivial
 |(p,v)::S,S',hE,h=>by
  rcases List.suffix_cons_iff.mp h with rfl | h
  ·exact hE
  ·exact zAK hE.2.2.2.2.2 h
theorem zEU: ∀{S S':List Stp},Red S->S'<:+S->Red S'
 | [],S',_,h=>by rw [List.suffix_nil.mp h];trivial
 |(p,v)::S,S',hE,h=>by
  rcases List.suffix_cons_iff.mp h with rfl | h
  ·exact hE
  ·exact zEU hE.2 h
theorem Kern.part{n b:Nat}{Es:List Vec}{S:List Stp}{e:Vec}(h:Kern n Es b S)(he:e.length=n/\Bts b e):Kern n (Es++ [e]) b (part e S).1:=by
 have P:=zw (e:=e) h.ech;refine ⟨P.ech,fun x=>?_,fun e' h'=>?_⟩
 ·rcases Int.lt_or_eq_of_le P.r0 with hr | hr
  ·constructor
   ·intro hx;obtain ⟨a,b⟩:=(h.ker x).mp ((P.sp hr x).mpr ⟨0,hx.congr fun i=>by simp⟩);refine ⟨a,fun e' h'=>?_⟩;rcases List.mem_append.mp h' with z | z
    ·exact b e' z
    ·rw [List.mem_singleton.mp z];exact Sp.dt hx P.dt0
   ·rintro ⟨a,b⟩;obtain ⟨c,hx⟩:=(P.sp hr x).mp ((h.ker x).mpr ⟨a,fun e' h'=>b e' (by simp [h'])⟩);have z1:=Sp.dt hx P.dt0;rw [zBK,zBU,b e (by simp),P.dtv hr] at z1;have z2:c*(FrV.part e S).2.2=0:=by omega
    rcases Int.mul_eq_zero.mp z2 with z | z
    ·subst z;exact hx.congr fun i=>by simp
    ·omega
  ·have ek:=P.same hr.symm;constructor
   ·intro hx;have hx':=hx;rw [ek] at hx';obtain ⟨a,b⟩:=(h.ker x).mp hx';refine ⟨a,fun e' h'=>?_⟩;rcases List.mem_append.mp h' with z | z
    ·exact b e' z
    ·rw [List.mem_singleton.mp z];exact Sp.dt hx P.dt0
   ·rintro ⟨a,b⟩;rw [ek];exact (h.ker x).mpr ⟨a,fun e' h'=>b e' (by simp [h'])⟩
 ·rcases List.mem_append.mp h' with z | z
  ·exact h.el e' z
  ·rw [List.mem_singleton.mp z];exact he
def VV(n l b:Nat):Nat:=3*ub n l b+b+l
structure PartOk(V:Nat)(e:Vec)(S:List Stp):Prop where
 eq:Bts V e
 s: ∀q∈S,Bts V q.2
 k: ∀S',S'<:+S-> ∀q∈(part e S').1,Bts V q.2
 v: ∀S',S'<:+S->Bts V (part e S').2.1
 r: ∀S',S'<:+S->Bt V (part e S').2.2
theorem zMM{n b l:Nat}{Es:List Vec}{S:List Stp}{e:Vec}(h:Kern n Es b S)(hR:Red S)(he:e.length=n/\Bts b e)(hl:n+1<=2^l):PartOk (VV n l b) e S:=by
 have u0:ub n 0 b<=ub n l b:=zBo (zOs l) (zOh n) (zOh b);have hk:=h.part he;have hkR:=zEO (e:=e) h.ech hR;have hs: ∀q∈S,Bts (ub n l b+ub n 0 b) q.2:=fun q hq=>h.steps hR hl hq;have hown: ∀q∈S,Bt (ub n l b+ub n 0 b+b+l) (dt (zA q.2) e):=fun q hq=>zDp e _ l (by rw [he.1];omega) (hs q hq) he.2;have hr: ∀S',S'<:+S->Bt (ub n l b+ub n 0 b+b+l) (part e S').2.2:=fun S' h'=>zEs (zAK h.ech h') fun q hq=>hown q (h'.subset hq);refine ⟨he.2.mono (by unfold VV;omega),fun q hq=>(hs q hq).mono (by unfold VV;omega),fun S' h' q hq=>(hk.steps hkR hl (zGK h' q hq)).mono (by unfold VV;omega),fun S' h'=>?_,fun S' h'=>(hr S' h').mono (by unfold VV;omega)⟩;have E':=zAK h.ech h';have P:=zw (e:=e) E';rcases Int.lt_or_eq_of_le P.r0 with hp | hp
 ·have spx:Sp S (zA (part e S').2.1):=by
   have a:Sp S' (zA (part e S').2.1):=(P.sp hp _).mpr ⟨1,Sp.zero _ fun i=>by omega⟩;exact Sp.of a fun q hq=>Sp.mem (h'.subset hq)
  have kx:=(h.ker _).mp spx;have g:=hk.grow hl (x:=zA (part e S').2.1) (c:=fun e'=>if dt (zA (part e S').2.1) e'=0 then 0 else -1) (z:=(part e S').2.2) (B:=ub n l b+ub n 0 b+b+l) kx.1 (fun e' h1=>by
   show _+(if dt (zA (part e S').2.1) e'=0 then 0 else -1)*_=0;rcases List.mem_append.mp h1 with z | z
   ·rw [if_pos (kx.2 e' z),kx.2 e' z];simp
   ·rw [List.mem_singleton.mp z];have:=P.dtv hp;rw [if_neg (by omega),this];omega) (fun e' _=>by
   show Bt b (if dt (zA (part e S').2.1) e'=0 then 0 else -1);split
   ·exact Bt.zero
   ·exact Bt.one.neg) (hr S' h') (fun q hq=>by
   rcases zGW h.ech h' q hq with z | z
   ·have:=zGJ E' (zEU hR h') hp q z;exact (zEp (hk.pivot hq) (by omega) (by omega)).mono (by omega)
   ·rw [P.ahead hp q.1 z];exact Bt.zero)
  exact fun i=>(g i).mono (by unfold VV;omega)
 ·rw [zGg E' hp.symm];exact fun i=>Bt.zero
end FrV
namespace Fr
open PySem PySem.Spec PyProof.Rows L2 FrM
def top(i:Nat):Stmt:=PySem.Challenge.pw_measurewise_k10_normal_form.main.body.getD i (.Pass ⟨0,0,0,0⟩)
abbrev zFC:Stmt:=top 2
abbrev zBI:Stmt:=top 3
abbrev zCj:Stmt:=top 4
abbrev zBu:Stmt:=top 5
abbrev zEM:Stmt:=top 6
abbrev zDn:Stmt:=top 7
abbrev zBY:Stmt:=top 8
abbrev zDe:Stmt:=top 9
abbrev zDJ:Stmt:=top 11
abbrev zEa:Stmt:=top 12
abbrev zCe:Stmt:=top 13
abbrev zCm:Stmt:=top 14
abbrev zFD:Stmt:=top 16
abbrev zCO:Stmt:=top 18
abbrev zDI:Stmt:=top 19
abbrev zEe:Stmt:=top 22
abbrev zCZ:Stmt:=top 23
abbrev zEj:Stmt:=top 24
abbrev zCb:Stmt:=top 25
abbrev zGC:Stmt:=top 26
abbrev zGl:Stmt:=top 28
abbrev zGw:Stmt:=top 30
abbrev zDD:Stmt:=top 31
abbrev zCc:Stmt:=top 32
abbrev zBq:Stmt:=top 33
abbrev zDL:Stmt:=top 34
abbrev zEo:Stmt:=top 35
abbrev zDT:Stmt:=top 36
abbrev zBx:Stmt:=top 37
abbrev zDY:Stmt:=top 38
abbrev zEP:Stmt:=top 39
theorem zAg:bootBuiltins "list" =some (.type "list"):=by decide+kernel
theorem zIk:bootBuiltins "max" =some (.builtin "max"):=by decide+kernel
theorem zGb:bootBuiltins "all" =some (.builtin "all"):=by decide+kernel
theorem zMq:bootBuiltins "any" =some (.builtin "any"):=by decide+kernel
theorem zIx:bootBuiltins "sum" =some (.builtin "sum"):=by decide+kernel
theorem yz:bootBuiltins "isinstance" =some (.builtin "isinstance"):=by decide+kernel
theorem yk:bootBuiltins "len" =some (.builtin "len"):=by decide+kernel
theorem zJV:bootBuiltins "abs" =some (.builtin "abs"):=by decide+kernel
theorem zJK:bootBuiltins "int" =some (.type "int"):=by decide+kernel
theorem zLm:bootBuiltins "bool" =some (.type "bool"):=by decide+kernel
theorem zKC:bootBuiltins "tuple" =some (.type "tuple"):=by decide+kernel
theorem zIj(K:zPS):PySem.W.kitOne K (.type "int") (.type "int")=some true:=by kernel_rfl
theorem zIC(K:zPS):PySem.W.kitOne K (.type "int") (.type "bool")=some false:=by kernel_rfl
theorem zFo(K:zPS):PySem.W.kitOne K (.type "tuple") (.type "tuple")=some true:=by kernel_rfl
structure Bn(mg:Str->Option Value):Prop where
 isi:mg "isinstance" =none
 int:mg "int" =none
 bool:mg "bool" =none
 tuple:mg "tuple" =none
 len:mg "len" =none
 range:mg "range" =none
 str:mg "str" =none
 abs:mg "abs" =none
 list:mg "list" =none
 all:mg "all" =none
 any:mg "any" =none
 sum:mg "sum" =none
 zip:mg "zip" =none
 reversed:mg "reversed" =none
 enumerate:mg "enumerate" =none
 max:mg "max" =none
section
variable {P:Program}{w:World}{K:zPS}{mg:Str->Option Value}{base:Heap}
def zFr:Sp:=fun vs H Q _=> ∃a b:Int,vs= [.int a,.int b] /\0<b/\Q (.int ((Int.gcd a b:Nat):Int)) H
theorem zDf:FnScope ["above","below","greater","lesser","rest"] ["above","below"] (zI zFD):=⟨rfl,rfl,rfl,by decide+kernel,rfl,by decide+kernel,by decide+kernel⟩
theorem zNC{f:Addr}{fd:FuncData}(F:Fun K "common_divisor" "common_divisor" zFD f fd):FnOk P w K mg base CX0 1 f fd ["above","below"] zFr:=by
 refine F.ok zDf (fun vs H Q E h=>?_) (fun cdv A outer s H vs Q E hr h=>?_)
 ·obtain ⟨a,b,rfl,_⟩:=h;rfl
 ·obtain ⟨a,b,rfl,hb,q⟩:=h;refine ⟨_,zAa (zBz (i:=2) zDf.nd rfl (Or.inl rfl) (pv 1)) (zAa (zBz (i:=3) zDf.nd rfl (Or.inl rfl) (zAF zBv (pv 0) (pv 1)))
   (zAa (zGD PassesOwn.never (zEz zAf (pv 3) zAO (zId _))
    (zAa (zBz (i:=4) zDf.nd rfl (Or.inl rfl) (zAF zBv (pv 2) (pv 3))) (zAa (zBz (i:=2) zDf.nd rfl (Or.inl rfl) (pv 3)) (zBp (zBz (i:=3) zDf.nd rfl (Or.inl rfl) (pv 4))))))
   (zBp (zDQ (pv 2))))),?_⟩
  refine ⟨_,rfl,_,rfl,_,rfl,_,_,rfl,rfl,hb,?_⟩;refine zEI (fun σ H'=>H'=H/\ ∃(g l:Int) (r:Option V),σ= [some (.int a),some (.int b),some (.int g),some (.int l),r] /\0<g/\0<=l/\Int.gcd g l=Int.gcd a b)
   (fun (σ:L2.St) _=>match σ[3]? with | some (some (V.int l))=>l.toNat | _=>0) ⟨rfl,b,a % b,none,rfl,hb,zOv _ (by omega),zGs a b hb⟩ ?_ ?_
  ·rintro σ H' ⟨rfl,g,l,r,rfl,hg,hl,e⟩;refine ⟨_,rfl,_,_,rfl,rfl,_,rfl,?_⟩;refine yl (fun z=>?_) (fun z=>?_)
   ·have hp:0<l:=by simpa using z
    refine ⟨_,rfl,_,rfl,_,_,rfl,rfl,hp,_,rfl,_,rfl,⟨rfl,l,g % l,_,rfl,hp,zOv _ (by omega),?_⟩,?_⟩
    ·rw [zGs g l hp,e]
    ·show (g % l).toNat<l.toNat;have:=zOp g hp;have:=zOv g (by omega:l≠0);omega
   ·have hz:l=0:=by
     have: ¬0<l:=by simpa using z
     omega
    subst hz;refine ⟨_,rfl,?_⟩;rw [<-e,zJx g (by omega)] at q;exact q
  ·rintro σ H' R R' hR ⟨v,e1,i,j,e2,e3,k,e4,q'⟩;exact ⟨v,e1,i,j,e2,e3,k,e4,hR _ _ q'⟩
end
open FrV
theorem zC.upd{H:Hp}{p:Addr}{o:HO}(hp:H p=none):zC H (L2.upd H p o):=fun b u e=>by rw [zG (yn e hp)];exact e
theorem zC.store{H H':Hp}{D:Addr}{o:HO}(s:zC H H')(hD:H D=none):zC H (L2.upd H' D o):=fun b u e=>by rw [zG (yn e hD)];exact s b u e
theorem zC.none{H H':Hp}(s:zC H H'){a:Addr}(h:H' a=none):H a=none:=by
 cases z:H a with
 | none=>rfl
 | some o=>rw [s _ _ z] at h;cases h
theorem zJd{H:Hp}{a:Addr}(h:H a=none)(o:HO): ∃G,L2.upd H a o=G/\zC H G/\G a=some o:=⟨_,rfl,zC.upd h,zB⟩
theorem bs(n:Nat)(h:n<=60:=by decide):n<=sizeLine:=by rw [zOo];omega
theorem zAR{b:Bool}{p q:Prop}(h:b=false)(hq:q):if b=true then p else q:=by rw [h];exact hq
theorem zEY{b:Bool}{p q:Prop}(h:b=true)(hq:p):if b=true then p else q:=by rw [h];exact hq
theorem yX{σ:L2.St}(h:σ.length=1): ∃a,σ= [a] :=List.length_eq_one_iff.mp h
theorem zn{σ:L2.St}(h:σ.length=2): ∃a b,σ= [a,b] :=by
 cases σ with
 | nil=>cases h
 | cons a r=>
  obtain ⟨b,rfl⟩:=List.length_eq_one_iff.mp (show r.length=1 by simpa using h);exact ⟨a,b,rfl⟩
theorem Paired.get'{α β:Type}{F:α->β->Prop}{xs:List α}{ys:List β}(h:Paired F xs ys){i:Nat}{x:α}(e:xs[i]?=some x): ∃y,ys[i]?=some y/\F x y:=by
 induction h generalizing i with
 | nil=>simp at e
 | @cons a b l1 l2 h1 _ ih=>
  cases i with
  | zero=>simp at e;subst e;exact ⟨b,rfl,h1⟩
  | succ i=>exact ih (by simpa using e)
theorem Paired.getR{α β:Type}{F:α->β->Prop}{xs:List α}{ys:List β}(h:Paired F xs ys){i:Nat}{y:β}(e:ys[i]?=some y): ∃x,xs[i]?=some x/\F x y:=by
 induction h generalizing i with
 | nil=>simp at e
 | @cons a b l1 l2 h1 _ ih=>
  cases i with
  | zero=>simp at e;subst e;exact ⟨a,rfl,h1⟩
  | succ i=>exact ih (by simpa using e)
theorem Paired.snoc'{α β:Type}{F:α->β->Prop}{xs:List α}{ys:List β}{a:α}{b:β}(h:Paired F xs ys)(k:F a b):Paired F (xs++ [a]) (ys++ [b]):=by
 induction h with
 | nil=>exact .cons k .nil
 | cons r _ ih=>exact .cons r ih
theorem Paired.app{α β:Type}{F:α->β->Prop}{xs zs:List α}{ys ws:List β}(h:Paired F xs ys)(k:Paired F zs ws):Paired F (xs++zs) (ys++ws):=by
 induction h with
 | nil=>exact k
 | cons r _ ih=>exact .cons r ih
theorem Paired.len{α β:Type}{F:α->β->Prop}{xs:List α}{ys:List β}(h:Paired F xs ys):xs.length=ys.length:=by
 induction h with
 | nil=>rfl
 | cons _ _ ih=>simp [ih]
theorem Paired.mapM{α β:Type}{F G:α->β->Prop}{xs:List α}{ys:List β}(h:Paired F xs ys)(f: ∀a b,a∈xs->F a b->G a b):Paired G xs ys:=by
 induction h with
 | nil=>exact .nil
 | cons r _ ih=>exact .cons (f _ _ (by simp) r) (ih fun a b ha=>f a b (by simp [ha]))
def LI(H:Hp)(a:Addr)(v:Vec):Prop:=H a=some (.lst (v.map V.int))
theorem LI.same{H H':Hp}{a:Addr}{v:Vec}(h:LI H a v)(s:zC H H'):LI H' a v:=s _ _ h
abbrev LIs(H:Hp)(as:List Addr)(vs:List Vec):Prop:=Paired (LI H) as vs
def LL(H:Hp)(l:Addr)(vs:List Vec):Prop:= ∃as,H l=some (.lst (as.map V.ref))/\LIs H as vs
theorem LIs.same{H H':Hp}{as:List Addr}{vs:List Vec}(h:LIs H as vs)(s:zC H H'):LIs H' as vs:=Paired.mapP h fun a v e=>s _ _ e
theorem LL.same{H H':Hp}{l:Addr}{vs:List Vec}(h:LL H l vs)(s:zC H H'):LL H' l vs:=let ⟨as,e,p⟩:=h;⟨as,s _ _ e,LIs.same p s⟩
abbrev Mk2:=Nat×Int
def zCR(e:Vec):List Mk2:=((List.range e.length).map fun i=>(i,zA e i)).filter fun p=>p.2 !=0
abbrev MkA(H:Hp)(ts:List Addr)(ms:List Mk2):Prop:=Paired (fun t (p:Mk2)=>H t=some (.tup [.int (p.1:Int),.int p.2])) ts ms
def MkL(H:Hp)(l:Addr)(ms:List Mk2):Prop:= ∃ts:List Addr,H l=some (.lst (ts.map V.ref))/\MkA H ts ms
theorem MkA.same{H H':Hp}{ts:List Addr}{ms:List Mk2}(h:MkA H ts ms)(s:zC H H'):MkA H' ts ms:=Paired.mapP h fun a v e=>s _ _ e
theorem MkL.same{H H':Hp}{l:Addr}{ms:List Mk2}(h:MkL H l ms)(s:zC H H'):MkL H' l ms:=let ⟨as,e,p⟩:=h;⟨as,s _ _ e,MkA.same p s⟩
def StO(C:Addr)(H:Hp)(o:Addr)(q:Stp):Prop:= ∃dx a,H o=some (.ins C dx [("place",.int (q.1:Int)),("vector",.ref a)])/\LI H a q.2
theorem StO.same{C:Addr}{H H':Hp}{o:Addr}{q:Stp}(h:StO C H o q)(s:zC H H'):StO C H' o q:=let ⟨dx,a,e,p⟩:=h;⟨dx,a,s _ _ e,p.same s⟩
abbrev StA(C:Addr)(H:Hp)(os:List Addr)(S:List Stp):Prop:=Paired (StO C H) os S
def StL(C:Addr)(H:Hp)(l:Addr)(S:List Stp):Prop:= ∃os,H l=some (.lst (os.map V.ref))/\StA C H os S
theorem StA.same{C:Addr}{H H':Hp}{os:List Addr}{S:List Stp}(h:StA C H os S)(s:zC H H'):StA C H' os S:=Paired.mapP h fun a v e=>e.same s
theorem StL.same{C:Addr}{H H':Hp}{l:Addr}{S:List Stp}(h:StL C H l S)(s:zC H H'):StL C H' l S:=let ⟨os,e,p⟩:=h;⟨os,s _ _ e,StA.same p s⟩
theorem yr{b:Nat}{x:Int}(h:Bt b x)(hb:b<60000000):Sz 60000000 x:=by
 unfold Sz;exact zOu h (Nat.pow_lt_pow_right (by decide) hb)
theorem zS{v:Vec}{i:Nat}(h:i<v.length):(v.map V.int)[i]?=some (.int (zA v i)):=by
 rw [zOi,zAN h];rfl
theorem zBm{v:Vec}{i:Nat}(h:i<v.length):v.take (i+1)=v.take i++ [zA v i] :=by
 rw [zPA,zAN h];rfl
section
variable {P:Program}{w:World}{K:zPS}{mg:Str->Option Value}{base:Heap}
def zKO(H:Hp)(Q:VK)(v:Vec):Prop:= ∀l H',zC H H'->H l=none->LI H' l v->Q (.ref l) H'
def zFu:Sp:=fun vs H Q _=> ∃p n:Nat,vs= [.int (p:Int),.int (n:Int)] /\n<=1000/\zKO H Q (zT p n)
theorem zOA:FnScope ["place","length"] ["place","length"] (zI zFC):=⟨rfl,rfl,rfl,by decide+kernel,rfl,by decide+kernel,by decide+kernel⟩
theorem zIB{p n i:Nat}(h:i<n):(zT p n).take (i+1)=(zT p n).take i++ [if i=p then 1 else 0] :=by
 rw [zBm (by rw [yQ];exact h),yh];simp [h]
theorem zNY{f:Addr}{fd:FuncData}(F:Fun K "one_at" "one_at" zFC f fd)(B:Bn mg):FnOk P w K mg base CX0 1 f fd ["place","length"] zFu:=by
 refine F.ok zOA (fun vs H Q E h=>?_) (fun cdv A outer s H vs Q E hr h=>?_)
 ·obtain ⟨p,n,rfl,_⟩:=h;rfl
 ·obtain ⟨p,n,rfl,hn,q⟩:=h;refine ⟨_,QB.out (zJ
   (zZ (ze ["other"] ["place"] [0] rfl (yj rfl B.range (qc (qw 1 rfl) zD rfl) rfl) rfl (by decide+kernel) rfl (by decide+kernel) (zQ rfl ye) rfl (fr1 ⟨rfl,rfl,rfl,_,rfl,rfl⟩) (zN rfl) (fun _ _ _ _=>(zH 0 (show (["other","place"] :List Str).Nodup by decide+kernel) rfl (.inl rfl) (.inr rfl))) (fun _ _ _ _=>zc) (fun _ _ _ _=>(zEk (zf zAn (qw 0 rfl) (qx 1 rfl) rfl) zF zF)) (fun _=>rfl)))),?_⟩
  refine ⟨_,rfl,n,rfl,by omega,by omega,fun D hD=>?_⟩;refine zU n (fun i ys H'=>i<=n/\ys=((zT p n).take i).map V.int/\H'=L2.upd H D (.lst ys)) ⟨zOs _,by simp,rfl⟩ (by rw [zOo];omega) ?_ ?_ ?_
  ·rintro i ys H' hi ⟨_,rfl,rfl⟩;exact ⟨by simp;omega,zB,fun h=>h,fun h=>Nat.le_of_eq h.symm⟩
  ·rintro i ys H' x H'' hi ⟨_,rfl,rfl⟩ ⟨rfl,rfl⟩ pre hpre;obtain ⟨p0,rfl⟩:=yX hpre;refine ⟨⟨[some (.int ((0:Int)+(i:Int)))],rfl,rfl⟩,yC ?_⟩;refine ⟨_,rfl,_,rfl,rfl,_,rfl,?_⟩;have fin: ∀z:Int,z=(if i=p then 1 else 0)->L2.upd H D (.lst (((zT p n).take i).map V.int)) D=some (.lst (((zT p n).take i).map V.int))/\(i+1<=n/\((zT p n).take i).map V.int++ [.int z] =((zT p n).take (i+1)).map V.int/\L2.upd (L2.upd H D (.lst (((zT p n).take i).map V.int))) D (.lst (((zT p n).take i).map V.int++ [.int z]))=L2.upd H D (.lst (((zT p n).take i).map V.int++ [.int z]))):=fun z hz=>by
    refine ⟨zB,hi,?_,by rw [zx]⟩;rw [zIB hi,zOz,hz];rfl
   refine yl (fun c=>?_) (fun c=>?_)
   ·refine fin 1 ?_;have:(0:Int)+(i:Int)=(p:Int):=by simpa using c
    rw [if_pos (by omega)]
   ·refine fin 0 ?_;have: ¬(0:Int)+(i:Int)=(p:Int):=by simpa using c
    rw [if_neg (by omega)]
  ·rintro ys H' ⟨_,rfl,rfl⟩;refine q _ _ (zC.upd hD) hD ?_;show L2.upd H D _ D=_;rw [zB,List.take_of_length_le (by rw [yQ];exact zOh _)]
def zBP:Sp:=fun vs H Q _=> ∃(a b:Int) (p r:Addr) (u v:Vec),vs= [.int a,.ref p,.int b,.ref r] /\LI H p u/\LI H r v/\u.length=v.length/\u.length<=1000/\Bt 50000000 a/\Bt 50000000 b/\Bts 50000000 u/\Bts 50000000 v/\zKO H Q (zM a u b v)
theorem zLi:FnScope ["factor","one","other_factor","other"] ["factor","one","other_factor","other"] (zI zBI):=⟨rfl,rfl,rfl,by decide+kernel,rfl,by decide+kernel,by decide+kernel⟩
theorem zEK{f:Addr}{fd:FuncData}(F:Fun K "mixed" "mixed" zBI f fd)(B:Bn mg):FnOk P w K mg base CX0 1 f fd ["factor","one","other_factor","other"] zBP:=by
 refine F.ok zLi (fun vs H Q E h=>?_) (fun cdv A outer s H vs Q E hr h=>?_)
 ·obtain ⟨a,b,p,r,u,v,rfl,_⟩:=h;rfl
 ·obtain ⟨a,b,p,r,u,v,rfl,hp,hv,hl,hn,ba,bb,bu,bv,q⟩:=h;refine ⟨_,QB.out (zJ
   (zZ (ze ["mine","yours"] ["factor","other_factor"] [0,2] rfl (zDk (K:=K) rfl rfl B.zip (qc (qw 1 rfl) (qc (qw 3 rfl) zD rfl) rfl) rfl rfl) rfl (by decide+kernel) rfl (by decide+kernel) (zQ rfl (zQ rfl ye)) rfl (fr2 ⟨rfl,rfl,rfl,_,rfl,rfl⟩ ⟨rfl,rfl,rfl,_,rfl,rfl⟩) (zN rfl) (fun _ _ _ _=>(zAt (K:=K) (n:=2) rfl rfl (yJ (zH 0 (show (["mine","yours","factor","other_factor"] :List Str).Nodup by decide+kernel) rfl (.inl rfl) (.inr rfl)) (yJ (zH 1 (show (["mine","yours","factor","other_factor"] :List Str).Nodup by decide+kernel) rfl (.inl rfl) (.inr rfl)) zAs rfl) rfl) rfl rfl)) (fun _ _ _ _=>zc) (fun _ _ _ _=>(yc (zAX (qx 2 rfl) (qw 0 rfl)) (zAX (qx 3 rfl) (qw 1 rfl)))) (fun _=>rfl)))),?_⟩
  refine ⟨_,rfl,_,rfl,p,r,rfl,⟨_,SqL.of hp⟩,⟨_,SqL.of hv⟩,fun D hD=>?_⟩;have hm:(zM a u b v).length=u.length:=zY rfl hl.symm;refine zU u.length (fun i ys H'=>i<=u.length/\ys=((zM a u b v).take i).map V.int/\zC H H'/\H' D=some (.lst ys)) ⟨zOs _,by simp,zC.upd hD,zB⟩ (by rw [zOo];omega) ?_ ?_ ?_
  ·rintro i ys H' hi ⟨_,rfl,s1,e1⟩;refine ⟨by simp;omega,e1,fun h=>⟨_,_,_,_,SqL.of (hp.same s1),SqL.of (hv.same s1),zS h,zS (by omega)⟩,fun h=>⟨_,_,SqL.of (hp.same s1),SqL.of (hv.same s1),.inl (by simp;omega)⟩⟩
  ·rintro i ys H' x H'' hi ⟨_,rfl,s1,e1⟩ ⟨t,x1,y1,hx,hy,ht,rfl,rfl⟩ pre hpre;obtain ⟨p0,p1,rfl⟩:=zn hpre;have hx':=hx _ (SqL.of (hp.same s1));have hy':=hy _ (SqL.of (hv.same s1));rw [zS hi] at hx';rw [zS (show i<v.length by omega)] at hy';cases hx';cases hy';have st:=zC.upd ht (o:= .tup [.int (zA u i),.int (zA v i)]);refine ⟨t,_,rfl,SqT.of zB,rfl,_,_,rfl,_,_,rfl,rfl,⟨[some (.int (zA u i)),some (.int (zA v i))],rfl,rfl⟩,yC ?_⟩;refine ⟨_,rfl,_,rfl,_,_,rfl,rfl,⟨yr ba (by decide),yr (bu i) (by decide)⟩,_,rfl,_,rfl,_,_,rfl,rfl,⟨yr bb (by decide),yr (bv i) (by decide)⟩,_,_,rfl,rfl,st _ _ e1,hi,?_,zC.store (s1.trans st) hD,zB⟩;rw [zBm (by rw [hm];exact hi),yL hl,zOz];rfl
  ·rintro ys H' ⟨_,rfl,s1,e1⟩;refine q _ _ s1 hD ?_;show H' D=_;rw [e1,List.take_of_length_le (by rw [hm];exact zOh _)]
def zDo:Sp:=fun vs H Q _=> ∃(p:Addr) (e:Vec),vs= [.ref p] /\LI H p e/\e.length<=1000/\ ∀l H',zC H H'->MkL H' l (zCR e)->Q (.ref l) H'
theorem zLX:FnScope ["vector"] ["vector"] (zI zCj):=⟨rfl,rfl,rfl,by decide+kernel,rfl,by decide+kernel,by decide+kernel⟩
def zBj(e:Vec)(i:Nat):List Mk2:=((List.range i).map fun i=>(i,zA e i)).filter fun p=>p.2 !=0
theorem zDS(e:Vec)(i:Nat):zBj e (i+1)=zBj e i++(if zA e i=0 then [] else [(i,zA e i)]):=by
 unfold zBj;rw [List.range_succ,zOz,List.filter_append];congr 1;by_cases h:zA e i=0
 ·simp [h]
 ·simp [h]
theorem zDr(e:Vec)(i:Nat):(zBj e i).length<=i:=by
 have:=List.length_filter_le (fun p:Mk2=>p.2 !=0) ((List.range i).map fun i=>(i,zA e i));simpa [zBj] using this
theorem zJe{f:Addr}{fd:FuncData}(F:Fun K "marks_of" "marks_of" zCj f fd)(B:Bn mg):FnOk P w K mg base CX0 1 f fd ["vector"] zDo:=by
 refine F.ok zLX (fun vs H Q E h=>?_) (fun cdv A outer s H vs Q E hr h=>?_)
 ·obtain ⟨p,e,rfl,_⟩:=h;rfl
 ·obtain ⟨p,e,rfl,hp,hn,q⟩:=h;refine ⟨_,QB.out (zJ
   (zZ (ze (cl:= []) ["place","number"] [] [] rfl (zGt (K:=K) rfl rfl B.enumerate (qc (qw 0 rfl) zD rfl) rfl) rfl (by decide+kernel) rfl (by decide+kernel) (fun _ _ h=>nomatch h) rfl (fun j y i h=>nomatch h) (zN rfl) (fun _ _ _ _=>(zAt (K:=K) (n:=2) rfl rfl (yJ (zH 0 (show (["place","number"] :List Str).Nodup by decide+kernel) rfl (.inl rfl) (.inr rfl)) (yJ (zH 1 (show (["place","number"] :List Str).Nodup by decide+kernel) rfl (.inl rfl) (.inr rfl)) zAs rfl) rfl) rfl rfl)) (fun _ _ _ _=>(zCD (zf zAr (qw 1 rfl) zF rfl))) (fun _ _ _ _=>(zAm (qc (qw 0 rfl) (qc (qw 1 rfl) zD rfl) rfl))) (fun _=>rfl)))),?_⟩
  refine ⟨_,rfl,p,rfl,⟨_,SqL.of hp⟩,fun D hD=>?_⟩;refine zU e.length (fun i ys H'=> ∃ts:List Addr,i<=e.length/\ys=ts.map V.ref/\MkA H' ts (zBj e i)/\zC H H'/\H' D=some (.lst ys)) ⟨[],zOs _,rfl,.nil,zC.upd hD,zB⟩ (by rw [zOo];omega) ?_ ?_ ?_
  ·rintro i ys H' hi ⟨ts,_,rfl,hm,s1,e1⟩;have:=Paired.len hm;have:=zDr e i;refine ⟨by simp;omega,e1,fun h=>⟨_,_,SqL.of (hp.same s1),zS h⟩,fun h=>⟨_,SqL.of (hp.same s1),by simp;omega⟩⟩
  ·rintro i ys H' x H'' hi ⟨ts,_,rfl,hm,s1,e1⟩ ⟨t,y,hy,ht,rfl,rfl⟩ pre hpre;obtain ⟨p0,p1,rfl⟩:=zn hpre;have hy':=hy _ (SqL.of (hp.same s1));rw [zS hi] at hy';cases hy';have st:=zC.upd ht (o:= .tup [.int (i:Int),.int (zA e i)]);refine ⟨t,_,rfl,SqT.of zB,rfl,_,_,rfl,_,_,rfl,rfl,⟨[some (.int (i:Int)),some (.int (zA e i))],rfl,rfl⟩,?_⟩;refine ⟨_,rfl,rfl,_,rfl,?_⟩;refine yl (fun c=>?_) (fun c=>?_)
   ·have hne: ¬zA e i=0:=fun z=>by rw [z] at c;simp at c
    refine ⟨_,rfl,_,rfl,by show 2<=sizeLine;decide,fun t2 ht2=>⟨?_,ts++ [t2],hi,by simp,?_,?_,zB⟩⟩
    ·exact zC.upd ht2 _ _ (st _ _ e1)
    ·rw [zDS,if_neg hne];have st2:=st.trans (zC.upd ht2 (o:= .tup [.int (i:Int),.int (zA e i)]));have hDt:t2≠D:=fun z=>by rw [z,st _ _ e1] at ht2;cases ht2
     refine Paired.snoc' (Paired.mapP hm fun a m ea=>?_) ?_
     ·have:=st2 _ _ ea;rw [zG fun z=>by rw [z] at this;have z2:=zC.upd ht2 (o:= .tup [.int (i:Int),.int (zA e i)]) _ _ (st _ _ e1);rw [z2] at this;cases this];exact this
     ·rw [zG hDt];exact zB
    ·exact zC.store ((s1.trans st).trans (zC.upd ht2)) hD
   ·have hz:zA e i=0:=by simpa using c
    refine ⟨ts,hi,rfl,?_,s1.trans st,st _ _ e1⟩;rw [zDS,if_pos hz,zPE];exact MkA.same hm st
  ·rintro ys H' ⟨ts,_,rfl,hm,s1,e1⟩;exact q _ _ s1 ⟨ts,e1,hm⟩
end
section
variable {P:Program}{w:World}{K:zPS}{mg:Str->Option Value}{base:Heap}
theorem zGd: ∀(e:Vec) (x:Fn),dt x e=((List.range e.length).map fun i=>x i*zA e i).sum
 | [],_=>rfl
 | c::e,x=>by
  simp only [dt];rw [zGd e,List.length_cons,List.range_succ_eq_map,List.map_cons,List.sum_cons,List.map_map,zBT];congr 2
theorem zKQ(e:Vec)(x:Fn):((zCR e).map fun p=>x p.1*p.2).sum=dt x e:=by
 rw [zGd];unfold zCR;generalize List.range e.length=l
 induction l with
 | nil=>rfl
 | cons i l ih=>
  rw [List.map_cons,List.map_cons,List.sum_cons];by_cases h:zA e i=0
  ·rw [List.filter_cons_of_neg (by simp [h]),ih,h];simp
  ·rw [List.filter_cons_of_pos (by simp [h]),List.map_cons,List.sum_cons,ih]
theorem zJL{e:Vec}{p:Mk2}(h:p∈zCR e):p.1<e.length/\p.2=zA e p.1:=by
 obtain ⟨h1,_⟩:=List.mem_filter.mp h;obtain ⟨i,hi,rfl⟩:=List.mem_map.mp h1;exact ⟨by simpa using hi,rfl⟩
theorem zIm(e:Vec):(zCR e).length<=e.length:=zDr e e.length
def zCl:Sp:=fun vs H Q _=> ∃(p m:Addr) (v e:Vec),vs= [.ref p,.ref m] /\LI H p v/\MkL H m (zCR e)/\e.length<=v.length/\v.length<=1000/\Bts 50000000 v/\Bts 50000000 e/\ ∀H',zC H H'->Q (.int (dt (zA v) e)) H'
theorem zLj:FnScope ["vector","marks"] ["vector","marks"] (zI zBu):=⟨rfl,rfl,rfl,by decide+kernel,rfl,by decide+kernel,by decide+kernel⟩
theorem zGa{f:Addr}{fd:FuncData}(F:Fun K "reach_of" "reach_of" zBu f fd)(B:Bn mg):FnOk P w K mg base CX0 1 f fd ["vector","marks"] zCl:=by
 refine F.ok zLj (fun vs H Q E h=>?_) (fun cdv A outer s H vs Q E hr h=>?_)
 ·obtain ⟨p,m,v,e,rfl,_⟩:=h;rfl
 ·obtain ⟨p,m,v,e,rfl,hp,⟨ts,em,hm⟩,hl,hn,bv,be,q⟩:=h;have lm:=Paired.len hm;have lk:=zIm e;refine ⟨_,QB.out (zJ
   (zZ (yP (zGE (K:=K) rfl rfl) rfl B.sum zIx (qc (ze ["place","number"] ["vector"] [0] rfl (zm (K:=K) rfl (qw 1 rfl)) rfl (by decide+kernel) rfl (by decide+kernel) (zQ rfl ye) rfl (fr1 ⟨rfl,rfl,rfl,_,rfl,rfl⟩) (zN rfl) (fun _ _ _ _=>(zAt (K:=K) (n:=2) rfl rfl (yJ (zH 0 (show (["place","number","vector"] :List Str).Nodup by decide+kernel) rfl (.inl rfl) (.inr rfl)) (yJ (zH 1 (show (["place","number","vector"] :List Str).Nodup by decide+kernel) rfl (.inl rfl) (.inr rfl)) zAs rfl) rfl) rfl rfl)) (fun _ _ _ _=>zc) (fun _ _ _ _=>(zAX (zk (K:=K) rfl (qx 2 rfl) (qw 0 rfl) (fun _ _=>rfl)) (qw 1 rfl))) (fun _=>rfl)) zD rfl) rfl))),?_⟩
  refine ⟨_,rfl,m,rfl,⟨_,SqL.of em⟩,fun D hD=>?_⟩;refine zU ts.length (fun i ys H'=>i<=ts.length/\ys=(((zCR e).take i).map fun p=>zA v p.1*p.2).map V.int/\zC H H'/\H' D=some (.lst ys)) ⟨zOs _,by simp,zC.upd hD,zB⟩ (by rw [zOo];omega) ?_ ?_ ?_
  ·rintro i ys H' hi ⟨_,rfl,s1,e1⟩;refine ⟨by simp;omega,e1,fun h=>⟨_,_,SqL.of (s1 _ _ em),zOd (by simpa using h)⟩,fun h=>⟨_,SqL.of (s1 _ _ em),by simp;omega⟩⟩
  ·rintro i ys H' x H'' hi ⟨_,rfl,s1,e1⟩ ⟨rfl,hx⟩ pre hpre;obtain ⟨p0,p1,rfl⟩:=zn hpre;have hx':=hx _ (SqL.of (s1 _ _ em));rw [zOi,zOd hi] at hx';cases hx';obtain ⟨mk,emk,et⟩:=Paired.get' hm (zOd hi);obtain ⟨m1,m2⟩:=zJL (zPH emk);have b2:Bt 50000000 mk.2:=by rw [m2];exact be _
   refine ⟨ts[i],_,rfl,SqT.of (s1 _ _ et),rfl,_,_,rfl,_,_,rfl,rfl,⟨[some (.int (mk.1:Int)),some (.int mk.2)],rfl,rfl⟩,yC ?_⟩;refine ⟨_,rfl,_,rfl,p,_,_,_,rfl,rfl,SqL.of (hp.same s1),zh (zS (show mk.1<v.length by omega)),_,rfl,_,_,rfl,rfl,⟨yr (bv _) (by decide),yr b2 (by decide)⟩,e1,hi,?_,zC.store s1 hD,zB⟩;rw [zPA,emk];simp
  ·rintro ys H' ⟨_,rfl,s1,e1⟩;refine ⟨D,_,rfl,SqL.of e1,?_⟩;rw [lm,zPC,zKQ];exact q _ s1
theorem zFP(a:Int){b:Int}(h:0<b):(a/b).natAbs<=a.natAbs:=by
 have h1:=Int.emod_def a b;have h2:=zOv a (b:=b) (by omega);have h3:=zOp a h;rcases Int.lt_or_le a 0 with z | z
 ·have k1:a/b<0:=Int.ediv_lt_of_lt_mul h (by omega);have k2:a<=a/b:=by
   rcases Int.lt_or_le (a/b) a with y | y
   ·have k3:=Int.mul_le_mul_of_nonneg_left (show a/b<=a - 1 by omega) (Int.le_of_lt h);have k4:=Int.mul_le_mul_of_nonpos_right (show 1<=b by omega) (show a<=0 by omega);rw [Int.mul_sub,Int.mul_one] at k3;omega
   ·exact y
  omega
 ·have k1:0<=a/b:=Int.ediv_nonneg z (Int.le_of_lt h);have k2:a/b<=a:=Int.ediv_le_self _ z;omega
theorem Bt.div{k:Nat}{a b:Int}(h:Bt k a)(hb:0<b):Bt k (a/b):=h.le (zFP a hb)
def zFz:Sp:=fun vs H Q _=> ∃(a b:Int),vs= [.int a,.int b] /\0<b/\Bt 25000000 a/\Bt 25000000 b/\ ∀t H',zC H H'->H' t=some (.tup [.int (zv a b).1,.int (zv a b).2.1,.int (zv a b).2.2])->Q (.ref t) H'
theorem zAe:FnScope ["one","other","greater","lesser","factor","factor_behind","times","rest","factor_ahead","least"] ["one","other"] (zI zEM):=⟨rfl,rfl,rfl,by decide+kernel,rfl,by decide+kernel,by decide+kernel⟩
theorem zLn{g l f fb:Int}(h:0<l):egl g l f fb=egl l (g - g/l*l) fb (f - g/l*fb):=by
 rw [egl,dif_pos h]
theorem zKl{g f fb:Int}:egl g 0 f fb=(g,f):=by
 rw [egl,dif_neg (by decide)]
structure Eg(b g l f fb:Int):Prop where
 g0:0<g
 l0:0<=l
 gb:g<=b
 lb:l<=b
 s:f.natAbs*l.natAbs+fb.natAbs*g.natAbs<=b.natAbs
theorem Eg.step{b g l f fb:Int}(I:Eg b g l f fb)(h:0<l):Eg b l (g - g/l*l) fb (f - g/l*fb)/\(g - g/l*l).toNat<l.toNat/\(g/l).natAbs<=b.natAbs/\fb.natAbs<=b.natAbs:=by
 have e:=Int.emod_def g l;have e':g - g/l*l=g % l:=by rw [e,Int.mul_comm]
 have n2:=zOp g h;have n1:=zOv g (b:=l) (by omega);have q0:0<=g/l:=Int.ediv_nonneg (Int.le_of_lt I.g0) (Int.le_of_lt h);have q1:g/l<=g:=Int.ediv_le_self _ (Int.le_of_lt I.g0);have gb:=I.gb;have fbb:fb.natAbs<=b.natAbs:=by
  have h1:=I.s;have h2:fb.natAbs*1<=fb.natAbs*g.natAbs:=Nat.mul_le_mul_left _ (by have:=I.g0;omega);omega
 refine ⟨⟨h,by rw [e'];exact n1,I.lb,by rw [e'];have:=I.lb;omega,?_⟩,by rw [e'];omega,by omega,fbb⟩;rw [e'];have t1:(f - g/l*fb).natAbs<=f.natAbs+(g/l).natAbs*fb.natAbs:=by
  have:=Int.natAbs_sub_le f (g/l*fb);rw [Int.natAbs_mul] at this;exact this
 have t2:g.natAbs=(g % l).natAbs+(g/l).natAbs*l.natAbs:=by
  have:g=g % l+g/l*l:=by rw [e];grind
  have h3:(g/l*l).natAbs=(g/l).natAbs*l.natAbs:=Int.natAbs_mul _ _;have h4:0<=g/l*l:=Int.mul_nonneg q0 (Int.le_of_lt h);omega
 have s:=I.s;have m1:(f - g/l*fb).natAbs*l.natAbs<=(f.natAbs+(g/l).natAbs*fb.natAbs)*l.natAbs:=Nat.mul_le_mul_right _ t1;generalize (g/l).natAbs=Q at*;generalize (g % l).natAbs=R at*;generalize f.natAbs=F at*;generalize fb.natAbs=G at*;generalize l.natAbs=L at*;generalize g.natAbs=N at*;subst t2;have:F*L+G*(R+Q*L)=G*R+(F+Q*G)*L:=by grind
 omega
theorem zJM{f:Addr}{fd:FuncData}(F:Fun K "divisor_of" "divisor_of" zEM f fd)(ht:P.given.tree=none):FnOk P w K mg base CX0 34 f fd ["one","other"] zFz:=by
 refine F.ok zAe (fun vs H Q E h=>?_) (fun cdv A outer s H vs Q E hr h=>?_)
 ·obtain ⟨a,b,rfl,_⟩:=h;rfl
 ·obtain ⟨a,b,rfl,hb,za,zb,q⟩:=h;have deep:DeepE (zAx CX0 P w K mg base ["one","other","greater","lesser","factor","factor_behind","times","rest","factor_ahead","least"] "divisor_of" (zI zEM) f cdv A outer s H E):=zAu hr (by decide) ht rfl rfl;have ok: ∀x:Int,x.natAbs<=b.natAbs->Sz 60000000 x:=fun x hx=>yr (zb.le hx) (by decide);refine ⟨_,QB.out (zE
   (zV 2 zAe.nd rfl (qw 1 rfl) rfl) (zE
   (zV 3 zAe.nd rfl (yu (qw 0 rfl) (qw 1 rfl)) rfl) (zE
   (zV 4 zAe.nd rfl zF rfl) (zE
   (zV 5 zAe.nd rfl zF rfl) (zE
   (zHN PassesOwn.never (zf zAf (qw 3 rfl) zF rfl) (zE
    (zV 6 zAe.nd rfl (yo (deep.up rfl rfl rfl) (qw 2 rfl) (qw 3 rfl)) rfl) (zE
    (zV 7 zAe.nd rfl (zCM (qw 2 rfl) (zAX (qw 6 rfl) (qw 3 rfl))) rfl) (zE
    (zV 2 zAe.nd rfl (qw 3 rfl) rfl) (zE
    (zV 3 zAe.nd rfl (qw 7 rfl) rfl) (zE
    (zV 8 zAe.nd rfl (qw 4 rfl) rfl) (zE
    (zV 4 zAe.nd rfl (qw 5 rfl) rfl) (zJ
    (zV 5 zAe.nd rfl (zCM (qw 8 rfl) (zAX (qw 6 rfl) (qw 4 rfl))) rfl))))))))) (zE
   (zV 9 zAe.nd rfl (yu (qw 4 rfl) (yo (deep.up rfl rfl rfl) (qw 1 rfl) (qw 2 rfl))) rfl) (zJ
   (zZ (zAm (qc (qw 2 rfl) (qc (qw 9 rfl) (qc (yo (deep.up rfl rfl rfl) (zCM (qw 2 rfl) (zAX (qw 9 rfl) (qw 0 rfl))) (qw 1 rfl)) zD rfl) rfl) rfl)))))))))),?_⟩
  refine ⟨_,rfl,_,rfl,_,rfl,_,_,rfl,rfl,hb,?_⟩;have n2:=zOp a hb;have n1:=zOv a (b:=b) (by omega);refine zEI (fun σ H'=>H'=H/\ ∃(g l f fb:Int) (r1 r2 r3:Option V),σ= [some (.int a),some (.int b),some (.int g),some (.int l),some (.int f),some (.int fb),r1,r2,r3,none] /\Eg b g l f fb/\egl g l f fb=egl b (a % b) 0 1)
   (fun (σ:L2.St) _=>match σ[3]? with | some (some (V.int l))=>l.toNat | _=>0) ⟨rfl,b,a % b,0,1,none,none,none,rfl,⟨hb,n1,Int.le_refl b,by omega,by simp⟩,rfl⟩ ?_ ?_
  ·rintro σ H' ⟨rfl,g,l,f,fb,r1,r2,r3,rfl,I,e⟩;refine ⟨_,rfl,_,_,rfl,rfl,_,rfl,?_⟩;refine yl (fun z=>?_) (fun z=>?_)
   ·have hp:0<l:=by simpa using z
    obtain ⟨I',mu,t1,t2⟩:=I.step hp;have bl:l.natAbs<=b.natAbs:=by have:=I.lb;omega
    refine ⟨_,rfl,_,rfl,_,_,rfl,rfl,hp,_,rfl,_,rfl,_,rfl,_,_,rfl,rfl,⟨ok _ t1,ok _ bl⟩,_,_,rfl,rfl,_,rfl,_,rfl,_,rfl,_,rfl,_,rfl,_,rfl,_,rfl,_,_,rfl,rfl,⟨ok _ t1,ok _ t2⟩,_,_,rfl,rfl,⟨rfl,l,_,fb,_,_,_,_,rfl,I',?_⟩,mu⟩;rw [<-e,zLn hp]
   ·have hz:l=0:=by
     have: ¬0<l:=by simpa using z
     have:=I.l0;omega
    subst hz;rw [zKl] at e;have D:=zAE (one:=a) hb;have e1:(zv a b).1=g:=by show (egl b (a % b) 0 1).1=g;rw [<-e]
    have e2:(zv a b).2.1=f %(b/g):=by show (egl b (a % b) 0 1).2 %(b/(egl b (a % b) 0 1).1)=_;rw [<-e]
    have e3:(zv a b).2.2=(g - f %(b/g)*a)/b:=by show ((egl b (a % b) 0 1).1 -(egl b (a % b) 0 1).2 %(b/(egl b (a % b) 0 1).1)*a)/b=_;rw [<-e]
    rw [e1,e2] at D;obtain ⟨g0,_,_,_,l0,l1,w0⟩:=D;have bl:(f %(b/g)).natAbs<=b.natAbs:=by
     have:b/g<=b:=Int.ediv_le_self _ (Int.le_of_lt hb);omega
    rw [e1,e2,e3] at q;refine ⟨_,rfl,_,rfl,_,rfl,_,_,rfl,rfl,g0,_,_,rfl,rfl,w0,?_⟩;refine ⟨_,rfl,_,rfl,_,rfl,_,rfl,_,rfl,_,_,rfl,rfl,⟨ok _ bl,yr za (by decide)⟩,_,_,rfl,rfl,_,rfl,_,_,rfl,rfl,hb,by show 3<=sizeLine;decide,fun t ht=>?_⟩;exact q t _ (zC.upd ht) zB
  ·rintro σ H' R R' hR ⟨v,e1,i,j,e2,e3,k,e4,q'⟩;exact ⟨v,e1,i,j,e2,e3,k,e4,hR _ _ q'⟩
end
structure SC(K:zPS)(C:Addr):Prop where
 cl:Cls K C
 n1:yp K C "place"
 n2:yp K C "vector"
theorem zDa: ∀(S:List Stp) (r:Vec) (p:Nat) (v:Vec),zR r (S++ [(p,v)])=zM 1 (zR r S) (-(zA (zR r S) p/zA v p)) v
 | [],_,_,_=>rfl
 |(q,u)::S,r,p,v=>zDa S (zM 1 r (-(zA r q/zA u q)) u) p v
theorem zHu{u v:Vec}(h:u.length=v.length):zM 1 u 0 v=u:=zEu (zY rfl h.symm) fun i=>by rw [yL h];omega
theorem zCt{n:Nat}: ∀{S:List Stp} {r:Vec},r.length=n->(∀q∈S,q.2.length=n)->(zR r S).length=n
 | [],_,h,_=>h
 |(p,v)::S,r,h,hs=>zCt (S:=S) (zY h (hs (p,v) (by simp))) fun q hq=>hs q (by simp [hq])
theorem zHg{n R W:Nat}: ∀{S:List Stp} {r:Vec},r.length=n->(∀q∈S,q.2.length=n/\0<zA q.2 q.1/\Bts W q.2)->Bts R r->Bts (R+S.length*(W+1)) (zR r S)
 | [],_,_,_,h=>h.mono (by omega)
 |(p,v)::S,r,hl,hs,h=>by
  obtain ⟨h1,h2,h3⟩:=hs (p,v) (by simp);simp only at h1 h2 h3;have hm:Bts (R+W+1) (zM 1 r (-(zA r p/zA v p)) v):=fun i=>by
   rw [yL (by omega),Int.one_mul];exact Bt.add ((h i).mono (by omega)) ((Bt.div (h p) h2).neg.mul (h3 i))
  have:=zHg (S:=S) (W:=W) (zY hl h1) (fun q hq=>hs q (by simp [hq])) hm;refine Bts.mono this ?_;rw [List.length_cons,Nat.succ_mul];omega
section
variable {P:Program}{w:World}{K:zPS}{mg:Str->Option Value}{base:Heap}
def zCJ(C:Addr):Sp:=fun vs H Q _=> ∃(r l:Addr) (v:Vec) (S:List Stp) (n R W:Nat),vs= [.ref r,.ref l] /\LI H r v/\StL C H l S/\v.length=n/\n<=1000/\S.length<=1000/\(∀q∈S,q.2.length=n/\q.1<n/\0<zA q.2 q.1/\Bts W q.2)/\Bts R v/\R+S.length*(W+1)+W<=50000000/\
 ∀l' H',zC H H'->(l'=r\/H l'=none)->LI H' l' (zR v S)->Q (.ref l') H'
theorem zDK:FnScope ["vector","steps","rest","step","times"] ["vector","steps"] (zI zBY):=⟨rfl,rfl,rfl,by decide+kernel,rfl,by decide+kernel,by decide+kernel⟩
theorem zHD{f fM C:Addr}{fd fdM:FuncData}(F:Fun K "lessened" "lessened" zBY f fd)(B:Bn mg)(ht:P.given.tree=none)(T:SC K C)
  (FM:Fun K "mixed" "mixed" zBI fM fdM) (bM:zO K fdM ["factor","one","other_factor","other"] []) (mM:mg "mixed" =some (.ref fM)):FnOk P w K mg base CX0 34 f fd ["vector","steps"] (zCJ C):=by
 have GM:FnOk P w K mg base CX0 1 fM fdM ["factor","one","other_factor","other"] zBP:=zEK FM B;refine F.ok zDK (fun vs H Q E h=>?_) (fun cdv A outer s H vs Q E hr h=>?_)
 ·obtain ⟨r,l,v,S,n,R,W,rfl,_⟩:=h;rfl
 ·obtain ⟨r,l,v,S,n,R,W,rfl,hv,⟨os,el,hs⟩,hn,hn0,hS,hq,bR,hz,q⟩:=h;have deep:DeepE (zAx CX0 P w K mg base ["vector","steps","rest","step","times"] "lessened" (zI zBY) f cdv A outer s H E):=zAu hr (by decide) ht rfl rfl;have hr1:Room 1 _:=hr.mono (by decide);have lS:=Paired.len hs;refine ⟨_,QB.out (zE
   (zV 2 zDK.nd rfl (qw 0 rfl) rfl) (zE
   (zAA PassesOwn.never rfl (zm (K:=K) rfl (qw 1 rfl)) (zH 3 zDK.nd rfl (Or.inl rfl) (.inr rfl)) (zE
    (zV 4 zDK.nd rfl (yo (deep.up rfl rfl rfl) (zk (K:=K) rfl (qw 2 rfl) (zo (K:=K) rfl (qw 3 rfl) rfl) (fun _ _=>rfl)) (zk (K:=K) rfl (zo (K:=K) rfl (qw 3 rfl) rfl) (zo (K:=K) rfl (qw 3 rfl) rfl) (fun _ _=>rfl))) rfl) (zJ
    (yW (zf zAr (qw 4 rfl) zF rfl) (zJ
     (zV 2 zDK.nd rfl (zK GM hr1 rfl mM FM.kp bM .nil zL (qc zF (qc (qw 2 rfl) (qc (zBW (qw 4 rfl)) (qc (zo (K:=K) rfl (qw 3 rfl) rfl) zD rfl) rfl) rfl) rfl) rfl rfl rfl) rfl)) yS))) (fun _=>rfl)) (zJ
   (zZ (qw 2 rfl))))),?_⟩
  refine ⟨_,rfl,_,rfl,l,rfl,⟨_,SqL.of el⟩,?_⟩;refine yd S.length (fun i σ H'=> ∃(rr:Addr) (sv tv:Option V),σ= [some (.ref r),some (.ref l),some (.ref rr),sv,tv] /\i<=S.length/\zC H H'/\LI H' rr (zR v (S.take i))/\(rr=r\/H rr=none)) ⟨r,none,none,rfl,zOs _,zC.refl H,hv,.inl rfl⟩ ?_ ?_ ?_ ?_
  ·rintro i σ H' hi ⟨rr,sv,tv,rfl,_,s1,hl,hfr⟩;exact ⟨_,_,SqL.of (s1 _ _ el),zOd (by simp;omega)⟩
  ·rintro σ H' ⟨rr,sv,tv,rfl,_,s1,hl,hfr⟩;exact ⟨_,SqL.of (s1 _ _ el),by simp;omega⟩
  ·rintro i σ H' x H'' hi ⟨rr,sv,tv,rfl,_,s1,hl,hfr⟩ ⟨rfl,hx⟩;have hx':=hx _ (SqL.of (s1 _ _ el));rw [zOi,zOd (show i<os.length by omega)] at hx';cases hx';obtain ⟨⟨p,u⟩,eS,⟨dx,a,ho,hu⟩⟩:=Paired.get' hs (zOd (show i<os.length by omega));obtain ⟨u1,u2,u3,u4⟩:=hq (p,u) (zPH eS);simp only at u1 u2 u3 u4;have eT:S.take (i+1)=S.take i++ [(p,u)] :=by rw [zPA,eS];rfl
   have hmem: ∀q∈S.take i,q.2.length=n/\0<zA q.2 q.1/\Bts W q.2:=fun q hm=>let ⟨z1,_,z3,z4⟩:=hq q (List.mem_of_mem_take hm);⟨z1,z3,z4⟩;have ll:(zR v (S.take i)).length=n:=zCt hn fun q hm=>(hmem q hm).1;have lb:=zHg (S:=S.take i) (W:=W) hn hmem bR;have lz:R+(S.take i).length*(W+1)<=R+S.length*(W+1):=Nat.add_le_add_left (Nat.mul_le_mul_right _ (by simp;omega)) R;generalize hL:zR v (S.take i)=L at hl ll lb;have b1:Bts 50000000 L:=lb.mono (by omega);have ho1:=s1 _ _ ho;have hu1:=hu.same s1;refine ⟨_,rfl,_,rfl,os[i],C,dx,_,_,rfl,ho1,T.cl,T.n1,rfl,rr,_,_,_,rfl,rfl,SqL.of hl,zh (zS (show p<L.length by omega)),_,rfl,os[i],C,dx,_,_,rfl,ho1,T.cl,T.n2,rfl,_,rfl,os[i],C,dx,_,_,rfl,ho1,T.cl,T.n1,rfl,a,_,_,_,rfl,rfl,SqL.of hu1,zh (zS (show p<u.length by omega)),_,_,rfl,rfl,u3,?_⟩;refine ⟨_,rfl,rfl,_,rfl,?_⟩;refine yl (fun c=>?_) (fun c=>?_)
   ·refine ⟨_,rfl,_,rfl,_,rfl,_,rfl,os[i],C,dx,_,_,rfl,ho1,T.cl,T.n2,rfl,1,-(zA L p/zA u p),rr,a,L,u,rfl,hl,hu1,by omega,by omega,Bt.one,(Bt.div (b1 p) u3).neg,b1,u4.mono (by omega),fun l' H2 s2 hn2 h2=>?_⟩;refine ⟨l',_,_,rfl,hi,s1.trans s2,?_,.inr (zC.none s1 hn2)⟩;rw [eT,zDa,hL];exact h2
   ·refine ⟨rr,_,_,rfl,hi,s1,?_,hfr⟩;have hz:zA L p/zA u p=0:=by simpa using c
    rw [eT,zDa,hL,hz];show LI H'' rr (zM 1 L (-0) u);rw [Int.neg_zero,zHu (by omega)];exact hl
  ·rintro σ H' ⟨rr,sv,tv,rfl,_,s1,hl,hfr⟩;refine ⟨_,rfl,?_⟩;rw [zPC] at hl;exact q _ _ s1 hfr hl
def zg(vs:List Vec)(n:Nat):List Vec:=(List.range n).map fun i=>vs.map fun v=>zA v i
def zEn:Sp:=fun vs H Q _=> ∃(l:Addr) (us:List Vec) (n:Nat),vs= [.ref l,.int (n:Int)] /\LL H l us/\(∀u∈us,u.length=n)/\n<=1000/\us.length<=1000/\ ∀r H',zC H H'->H r=none->LL H' r (zg us n)->Q (.ref r) H'
theorem zNc:FnScope ["vectors","count"] ["vectors","count"] (zI zDn):=⟨rfl,rfl,rfl,by decide+kernel,rfl,by decide+kernel,by decide+kernel⟩
theorem zDv{us:List Vec}{n i:Nat}(h:i<n):(zg us n).take (i+1)=(zg us n).take i++ [us.map fun v=>zA v i] :=by
 rw [zPA];congr 1;simp [zg,h]
theorem zLS{f:Addr}{fd:FuncData}(F:Fun K "rows_of" "rows_of" zDn f fd)(B:Bn mg):FnOk P w K mg base CX0 1 f fd ["vectors","count"] zEn:=by
 refine F.ok zNc (fun vs H Q E h=>?_) (fun cdv A outer s H vs Q E hr h=>?_)
 ·obtain ⟨l,us,n,rfl,_⟩:=h;rfl
 ·obtain ⟨l,us,n,rfl,⟨as,el,ha⟩,hu,hn,hl,q⟩:=h;have la:=Paired.len ha;refine ⟨_,QB.out (zJ
   (zZ (zFF ["place"] ["vectors"] [0] rfl (yj rfl B.range (qc (qw 1 rfl) zD rfl) rfl) rfl rfl (by decide+kernel) (zQ rfl ye) rfl (fr1 ⟨rfl,rfl,rfl,_,fun _=>rfl,rfl⟩) (fun _=>zN rfl) (fun _ _ _ _=>(zH 0 (show (["place","vectors"] :List Str).Nodup by decide+kernel) rfl (.inr rfl) (.inl rfl))) (fun _ _ _ _=>zc) (fun _ _ _ _=>(ze ["vector"] ["place"] [0] rfl (zm (K:=K) rfl (qx 1 rfl)) rfl (by decide+kernel) rfl (by decide+kernel) (zQ rfl ye) rfl (fr1 ⟨rfl,rfl,rfl,_,rfl,rfl⟩) (zN rfl) (fun _ _ _ _=>(zH 0 (show (["vector","place"] :List Str).Nodup by decide+kernel) rfl (.inl rfl) (.inr rfl))) (fun _ _ _ _=>zc) (fun _ _ _ _=>(zk (K:=K) rfl (qw 0 rfl) (qx 1 rfl) (fun _ _=>rfl))) (fun _=>rfl))) (fun _=>rfl)))),?_⟩
  refine ⟨_,rfl,n,rfl,by omega,by omega,fun D hD=>?_⟩;refine zU n (fun i ys H'=> ∃rs:List Addr,i<=n/\ys=rs.map V.ref/\LIs H' rs ((zg us n).take i)/\rs.length=i/\D∉rs/\zC H H'/\H' D=some (.lst ys)) ⟨[],zOs _,rfl,by rw [List.take_zero];exact .nil,rfl,by simp,zC.upd hD,zB⟩ (by rw [zOo];omega) ?_ ?_ ?_
  ·rintro i ys H' hi ⟨rs,_,rfl,_,hrl,_,s1,e1⟩;exact ⟨by simp;omega,e1,fun h=>h,fun h=>Nat.le_of_eq h.symm⟩
  ·rintro i ys H' x H'' hi ⟨rs,_,rfl,hrs,hrl,hnd,s1,e1⟩ ⟨rfl,rfl⟩ pre hpre;obtain ⟨p0,rfl⟩:=yX hpre;refine ⟨⟨[some (.int ((0:Int)+(i:Int)))],rfl,rfl⟩,yC ?_⟩;refine ⟨_,rfl,l,rfl,⟨_,SqL.of (s1 _ _ el)⟩,fun D2 hD2=>?_⟩;refine zU as.length (fun j ys H2=>j<=as.length/\ys=((us.map fun v=>zA v i).take j).map V.int/\H2=L2.upd H'' D2 (.lst ys)) ⟨zOs _,by simp,rfl⟩ (by rw [zOo];omega) ?_ ?_ ?_
   ·rintro j ys H2 hj ⟨_,rfl,rfl⟩;have e2:=zC.upd hD2 (o:= .lst (((us.map fun v=>zA v i).take j).map V.int)) _ _ (s1 _ _ el);exact ⟨by simp;omega,zB,fun h=>⟨_,_,SqL.of e2,zOd (by simpa using h)⟩,fun h=>⟨_,SqL.of e2,by simp;omega⟩⟩
   ·rintro j ys H2 x H3 hj ⟨_,rfl,rfl⟩ ⟨rfl,hx⟩ pre hpre;obtain ⟨p1,rfl⟩:=yX hpre;have s2:=s1.trans (zC.upd hD2 (o:= .lst (((us.map fun v=>zA v i).take j).map V.int)));have hx':=hx _ (SqL.of (s2 _ _ el));rw [zOi,zOd hj] at hx';cases hx';obtain ⟨u,eu,hu1⟩:=Paired.get' ha (zOd hj);have lu:=hu u (zPH eu);refine ⟨⟨[some (.ref as[j])],rfl,rfl⟩,yC ?_⟩;refine ⟨_,rfl,_,rfl,as[j],_,_,_,rfl,rfl,SqL.of (hu1.same s2),by rw [Int.zero_add];exact zh (zS (show i<u.length by omega)),zB,hj,?_,by rw [zx]⟩;rw [zPA,zOi,eu];simp
   ·rintro ys H2 ⟨_,rfl,rfl⟩;have sD:=zC.upd hD2 (o:= .lst (((us.map fun v=>zA v i).take as.length).map V.int));have hne:D2≠D:=fun z=>by rw [z,e1] at hD2;cases hD2
    refine ⟨sD _ _ e1,rs++ [D2],hi,by simp,?_,by simp [hrl],by simp [hnd,Ne.symm hne],zC.store (s1.trans sD) hD,zB⟩;rw [zDv hi];refine Paired.snoc' (Paired.mapM hrs fun a v hm ea=>?_) ?_
    ·have z:=sD _ _ ea;show L2.upd _ D _ a=_;rw [zG fun haD=>hnd (by rw [<-haD];exact hm)];exact z
    ·show L2.upd _ D _ D2=_;rw [zG hne,zB,la,<-zOk (f:=fun v=>zA v i),zPC]
  ·rintro ys H' ⟨rs,_,rfl,hrs,_,_,s1,e1⟩;rw [List.take_of_length_le (by simp [zg])] at hrs;exact q _ _ s1 hD ⟨rs,e1,hrs⟩
end
section
variable {P:Program}{w:World}{K:zPS}{mg:Str->Option Value}{base:Heap}
def zBQ(C:Addr):Sp:=fun vs H Q _=> ∃(x dx:Addr) (p v:V),vs= [.ref x,p,v] /\H x=some (.ins C dx [])/\Q .non (L2.upd H x (.ins C dx [("place",p),("vector",v)]))
theorem zLp:FnScope ["self","place","vector"] ["self","place","vector"] (zI (zy (top 1) 0)):=⟨rfl,rfl,rfl,by decide+kernel,rfl,by decide+kernel,by decide+kernel⟩
theorem zGO{f C:Addr}{fd:FuncData}(F:Fun K "__init__" "Step.__init__" (zy (top 1) 0) f fd)(T:SC K C):FnOk P w K mg base CX0 1 f fd ["self","place","vector"] (zBQ C):=by
 refine F.ok zLp (fun vs H Q E h=>?_) (fun cdv A outer s H vs Q E hr h=>?_)
 ·obtain ⟨x,dx,p,v,rfl,_⟩:=h;rfl
 ·obtain ⟨x,dx,p,v,rfl,hx,q⟩:=h;refine ⟨_,QB.out (zE
   (zBN (K:=K) rfl (qw 0 rfl) (qw 1 rfl) rfl) (zJ
   (zBN (K:=K) rfl (qw 0 rfl) (qw 2 rfl) rfl))),?_⟩
  refine ⟨_,rfl,_,rfl,x,C,dx,[],rfl,hx,T.cl,T.n1,by show 0<1000;decide,?_⟩;refine ⟨_,rfl,_,rfl,x,C,dx,[("place",p)],rfl,zB,T.cl,T.n2,by show 1<1000;decide,?_⟩;rw [zx];exact q
theorem LI.store{H:Hp}{k a:Addr}{v:Vec}{os:List Addr}{o:HO}(h:LI H a v)(hv:v≠ [])(hk:H k=some (.lst (os.map V.ref))):LI (L2.upd H k o) a v:=by
 unfold LI at*;rw [zG fun z=>?_]
 ·exact h
 ·rw [z,hk] at h;cases v with
  | nil=>exact hv rfl
  | cons x v=>
   cases os with
   | nil=>cases h
   | cons y os=>cases h
theorem StO.store{C:Addr}{H:Hp}{k x:Addr}{q:Stp}{os:List Addr}{o:HO}(h:StO C H x q)(hv:q.2≠ [])(hk:H k=some (.lst (os.map V.ref))):StO C (L2.upd H k o) x q:=by
 obtain ⟨dx,a,e,p⟩:=h;exact ⟨dx,a,by rw [zG fun z=>by rw [z,hk] at e;cases e];exact e,p.store hv hk⟩
theorem StA.store{C:Addr}{H:Hp}{k:Addr}{xs:List Addr}{S:List Stp}{os:List Addr}{o:HO}(h:StA C H xs S)(hv: ∀q∈S,q.2≠ [])(hk:H k=some (.lst (os.map V.ref))):StA C (L2.upd H k o) xs S:=by
 induction h with
 | nil=>exact .nil
 | cons r _ ih=>exact .cons (r.store (hv _ (by simp)) hk) (ih fun q hq=>hv q (by simp [hq]))
theorem zNr{V':Nat}{own r:Int}(hr:0<r)(b1:Bt (2*V'+10) own)(b2:Bt V' r):Bt (3*V'+11) (zv own r).2.2/\Bt V' (zv own r).2.1/\Bt V' (zv own r).1:=by
 obtain ⟨g1,g2,g3,g4,g5,g6,g7⟩:=zAE (one:=own) hr;generalize zv own r=d at*;obtain ⟨g,x,y⟩:=d;simp only at*;have gr:g<=r:=Int.le_of_dvd hr g3;have bg:Bt V' g:=b2.le (by omega);have bx:Bt V' x:=b2.le (by
  have:r/g<=r:=Int.ediv_le_self _ (Int.le_of_lt hr);omega)
 refine ⟨?_,bx,bg⟩;have e:y*r=g+(-x)*own:=by grind
 have b3:Bt (3*V'+11) (y*r):=by
  rw [e];exact Bt.add (bg.mono (by omega)) ((bx.neg.mul b1).mono (by omega))
 refine b3.le ?_;rw [Int.natAbs_mul];exact Nat.le_mul_of_pos_right _ (by omega)
theorem zME{e:Vec}{p:Nat}{u:Vec}{S:List Stp}(h:dt (zA u) e=0):FrV.part e ((p,u)::S)=((p,u)::(FrV.part e S).1,(FrV.part e S).2):=by simp [FrV.part,h]
theorem zHV{e:Vec}{p:Nat}{u:Vec}{S:List Stp}(h:dt (zA u) e≠0)(h0:(FrV.part e S).2.2=0):FrV.part e ((p,u)::S)=((FrV.part e S).1,(if 0<dt (zA u) e then u else zM (-1) u 0 u),((dt (zA u) e).natAbs:Int)):=by simp [FrV.part,h,h0]
def zBh(e:Vec)(p:Nat)(u:Vec)(S:List Stp):Stp:=(p,zR (zM ((FrV.part e S).2.2/(zv (dt (zA u) e) (FrV.part e S).2.2).1) u (-(dt (zA u) e/(zv (dt (zA u) e) (FrV.part e S).2.2).1)) (FrV.part e S).2.1) (FrV.part e S).1)
theorem zHq{e:Vec}{p:Nat}{u:Vec}{S:List Stp}(h:dt (zA u) e≠0)(h0:(FrV.part e S).2.2≠0)(hl:(zv (dt (zA u) e) (FrV.part e S).2.2).1<(FrV.part e S).2.2):
  FrV.part e ((p,u)::S)=(zBh e p u S::(FrV.part e S).1,zR (zM (zv (dt (zA u) e) (FrV.part e S).2.2).2.1 u (zv (dt (zA u) e) (FrV.part e S).2.2).2.2 (FrV.part e S).2.1) (zBh e p u S::(FrV.part e S).1),(zv (dt (zA u) e) (FrV.part e S).2.2).1):=by
 simp only [FrV.part,if_neg h,if_neg h0,if_pos hl];rfl
theorem zHe{e:Vec}{p:Nat}{u:Vec}{S:List Stp}(h:dt (zA u) e≠0)(h0:(FrV.part e S).2.2≠0)(hl: ¬(zv (dt (zA u) e) (FrV.part e S).2.2).1<(FrV.part e S).2.2):
  FrV.part e ((p,u)::S)=(zBh e p u S::(FrV.part e S).1,(FrV.part e S).2):=by
 simp only [FrV.part,if_neg h,if_neg h0,if_neg hl];rfl
theorem zCn{e:Vec}: ∀(S:List Stp),(FrV.part e S).1.length<=S.length
 | [] =>zOh _
 |(p,u)::S=>by
  have ih:=zCn (e:=e) S;simp only [FrV.part];split
  ·simp only [List.length_cons];omega
  ·split
   ·simp only [List.length_cons];omega
   ·split<;>(simp only [List.length_cons];omega)
structure RPt(C:Addr)(H0 H:Hp)(t:Addr)(k:List Stp)(vec:Vec)(r:Int):Prop where
 ex: ∃(kl:Addr) (vv:V),H t=some (.tup [.ref kl,vv,.int r])/\H0 kl=none/\StL C H kl k/\(0<r-> ∃va,vv= .ref va/\LI H va vec)
def zGH(C:Addr):Sp:=fun vs H Q _=> ∃(l m:Addr) (S:List Stp) (e:Vec) (n V':Nat),vs= [.ref l,.ref m] /\StL C H l S/\MkL H m (zCR e)/\Ech n S/\e.length=n/\n<=1000/\S.length<=12/\PartOk V' e S/\V'<=2500000/\
 ∀t H',zC H H'->RPt C H H' t (FrV.part e S).1 (FrV.part e S).2.1 (FrV.part e S).2.2->Q (.ref t) H'
theorem zAM:FnScope ["steps","marks","kept","vector","reach","step","own","found","without"] ["steps","marks"] (zI zDe):=⟨rfl,rfl,rfl,by decide+kernel,rfl,by decide+kernel,by decide+kernel⟩
theorem zOV{n:Nat}{S S':List Stp}(h:Ech n S)(k:S'<:+S):Ech n S':=zAK h k
structure PW(C:Addr)(l m:Addr)(tr:List Stp×Vec×Int)(H0:Hp)(σ:L2.St)(H:Hp):Prop where
 ex: ∃(kl:Addr) (vv:V) (os:List Addr) (s5 s6 s7 s8:Option V),σ= [some (.ref l),some (.ref m),some (.ref kl),some vv,some (.int tr.2.2),s5,s6,s7,s8] /\H0 kl=none/\zC H0 H/\H kl=some (.lst (os.map V.ref))/\StA C H os tr.1/\(0<tr.2.2-> ∃va,vv= .ref va/\LI H va tr.2.1)
theorem zLT{f fR fM fD fL fS C:Addr}{fd fdR fdM fdD fdL fdS:FuncData}(F:Fun K "parted" "parted" zDe f fd)(B:Bn mg)(ht:P.given.tree=none)(T:SC K C)
  (FR:Fun K "reach_of" "reach_of" zBu fR fdR) (bR:zO K fdR ["vector","marks"] []) (mR:mg "reach_of" =some (.ref fR))
  (FM:Fun K "mixed" "mixed" zBI fM fdM) (bM:zO K fdM ["factor","one","other_factor","other"] []) (mM:mg "mixed" =some (.ref fM))
  (FD:Fun K "divisor_of" "divisor_of" zEM fD fdD) (bD:zO K fdD ["one","other"] []) (mD:mg "divisor_of" =some (.ref fD))
  (FL:Fun K "lessened" "lessened" zBY fL fdL) (bL:zO K fdL ["vector","steps"] []) (mL:mg "lessened" =some (.ref fL))
  (FS:Fun K "__init__" "Step.__init__" (zy (top 1) 0) fS fdS) (bS:zO K fdS ["self","place","vector"] []) (MS:Mk K C fS) (mS:mg "Step" =some (.ref C)):FnOk P w K mg base CX0 35 f fd ["steps","marks"] (zGH C):=by
 have GR:FnOk P w K mg base CX0 1 fR fdR ["vector","marks"] zCl:=zGa FR B;have GM:FnOk P w K mg base CX0 1 fM fdM ["factor","one","other_factor","other"] zBP:=zEK FM B;have GD:FnOk P w K mg base CX0 34 fD fdD ["one","other"] zFz:=zJM FD ht;have GL:FnOk P w K mg base CX0 34 fL fdL ["vector","steps"] (zCJ C):=zHD FL B ht T FM bM mM;have GS:FnOk P w K mg base CX0 1 fS fdS ["self","place","vector"] (zBQ C):=zGO FS T;refine F.ok zAM (fun vs H Q E h=>?_) (fun cdv A outer s H vs Q E hr h=>?_)
 ·obtain ⟨l,m,S,e,n,V',rfl,_⟩:=h;rfl
 ·obtain ⟨l,m,S,e,n,V',rfl,⟨os,el,hs⟩,hm,hE,he,hn0,hS,ok,hV,q⟩:=h;have deep:DeepE (zAx CX0 P w K mg base ["steps","marks","kept","vector","reach","step","own","found","without"] "parted" (zI zDe) f cdv A outer s H E):=zAu hr (by decide) ht rfl rfl;have hr1:Room 1 _:=hr.mono (by decide);have hr2:Room 2 _:=hr.mono (by decide);have hr34:Room 34 _:=hr;have lS:=Paired.len hs;refine ⟨_,QB.out (zE
   (zV 2 zAM.nd rfl (zAB zD) rfl) (zE
   (zV 3 zAM.nd rfl zDq rfl) (zE
   (zV 4 zAM.nd rfl zF rfl) (zE
   (zAA PassesOwn.never rfl (zIV (K:=K) rfl rfl B.reversed (qc (qw 0 rfl) zD rfl) rfl) (zH 5 zAM.nd rfl (Or.inl rfl) (.inr rfl)) (zE
    (zV 6 zAM.nd rfl (zK GR hr1 rfl mR FR.kp bR .nil zL (qc (zo (K:=K) rfl (qw 5 rfl) rfl) (qc (qw 1 rfl) zD rfl) rfl) rfl rfl rfl) rfl) (zJ
    (yW (zf zAn (qw 6 rfl) zF rfl) (zJ
     (zBe (zDF (K:=K) rfl (qw 2 rfl) (qw 5 rfl) rfl rfl rfl) rfl)) (zJ
     (yW (zf zAn (qw 4 rfl) zF rfl) (zE
      (zV 4 zAM.nd rfl (yP zGn rfl B.abs zJV (qc (qw 6 rfl) zD rfl) rfl) rfl) (zJ
      (zV 3 zAM.nd rfl (zEk (zf zAf (qw 6 rfl) zF rfl) (zo (K:=K) rfl (qw 5 rfl) rfl) (zK GM hr1 rfl mM FM.kp bM .nil zL (qc (zBW zF) (qc (zo (K:=K) rfl (qw 5 rfl) rfl) (qc zF (qc (zo (K:=K) rfl (qw 5 rfl) rfl) zD rfl) rfl) rfl) rfl) rfl rfl rfl)) rfl))) (zE
      (zV 7 zAM.nd rfl (zK GD hr34 rfl mD FD.kp bD .nil zL (qc (qw 6 rfl) (qc (qw 4 rfl) zD rfl) rfl) rfl rfl rfl) rfl) (zE
      (zV 8 zAM.nd rfl (zK GM hr1 rfl mM FM.kp bM .nil zL (qc (yo (deep.up rfl rfl rfl) (qw 4 rfl) (yV (K:=K) rfl (qw 7 rfl) zF (fun _ _=>rfl))) (qc (zo (K:=K) rfl (qw 5 rfl) rfl) (qc (zBW (yo (deep.up rfl rfl rfl) (qw 6 rfl) (yV (K:=K) rfl (qw 7 rfl) zF (fun _ _=>rfl)))) (qc (qw 3 rfl) zD rfl) rfl) rfl) rfl) rfl rfl rfl) rfl) (zE
      (zBe (zDF (K:=K) rfl (qw 2 rfl) (zBw MS GS hr2 rfl mS bS .nil zL (qc (zo (K:=K) rfl (qw 5 rfl) rfl) (qc (zK GL hr34 rfl mL FL.kp bL .nil zL (qc (qw 8 rfl) (qc (qw 2 rfl) zD rfl) rfl) rfl rfl rfl) zD rfl) rfl) rfl rfl rfl) rfl rfl rfl) rfl) (zJ
      (yW (zf zEV (yV (K:=K) rfl (qw 7 rfl) zF (fun _ _=>rfl)) (qw 4 rfl) rfl) (zE
       (zV 4 zAM.nd rfl (yV (K:=K) rfl (qw 7 rfl) zF (fun _ _=>rfl)) rfl) (zJ
       (zV 3 zAM.nd rfl (zK GL hr34 rfl mL FL.kp bL .nil zL (qc (zK GM hr1 rfl mM FM.kp bM .nil zL (qc (yV (K:=K) rfl (qw 7 rfl) zF (fun _ _=>rfl)) (qc (zo (K:=K) rfl (qw 5 rfl) rfl) (qc (yV (K:=K) rfl (qw 7 rfl) zF (fun _ _=>rfl)) (qc (qw 3 rfl) zD rfl) rfl) rfl) rfl) rfl rfl rfl) (qc (qw 2 rfl) zD rfl) rfl) rfl rfl rfl) rfl))) yS)))))))))) (fun _=>rfl)) (zJ
   (zZ (zAm (qc (qw 2 rfl) (qc (qw 3 rfl) (qc (qw 4 rfl) zD rfl) rfl) rfl)))))))),?_⟩
  refine ⟨bs 0,fun kl hkl=>?_⟩;refine ⟨_,rfl,l,_,rfl,SqL.of (zC.upd hkl _ _ el),?_⟩;refine yd S.length (fun i σ H'=>i<=S.length/\PW C l m (FrV.part e (S.drop (S.length - i))) H σ H') ⟨zOs _,⟨kl,.non,[],none,none,none,none,by rw [Nat.sub_zero,List.drop_length];rfl,hkl,zC.upd hkl,zB,by rw [Nat.sub_zero,List.drop_length];exact .nil,by rw [Nat.sub_zero,List.drop_length];simp [FrV.part]⟩⟩ ?_ ?_ ?_ ?_
  ·rintro i σ H' hi ⟨_,⟨kl,vv,os',s5,s6,s7,s8,rfl,hk0,s1,ek,hk,hv⟩⟩;exact ⟨by simp;omega,_,_,SqL.of (s1 _ _ el),zOd (by simp;omega)⟩
  ·rintro σ H' ⟨_,_⟩;show (os.map V.ref).length<=S.length;simp;omega
  ·rintro i σ H' x H'' hi ⟨_,⟨kl,vv,os',s5,s6,s7,s8,rfl,hk0,s1,ek,hk,hv⟩⟩ ⟨rfl,hx⟩;have hx':=hx _ (SqL.of (s1 _ _ el));have hlen:(os.map V.ref).length=S.length:=by simp;omega
   rw [hlen] at hx';have hj:S.length - 1 - i<os.length:=by omega
   rw [zOi,zOd hj] at hx';cases hx';obtain ⟨⟨p,u⟩,eS,hso⟩:=Paired.get' hs (zOd hj);generalize os[S.length - 1 - i] =o at hso⊢;have hso':=hso;obtain ⟨dx,a,ho,hu⟩:=hso;have eD:S.drop (S.length -(i+1))=(p,u)::S.drop (S.length - i):=by
    have h1:S.length -(i+1)=S.length - 1 - i:=by omega
    rw [h1,List.drop_eq_getElem_cons (show S.length - 1 - i<S.length by omega)];rw [zOd (show S.length - 1 - i<S.length by omega)] at eS;rw [Option.some.inj eS];congr 2;omega
   have sf:S.drop (S.length -(i+1))<:+S:=List.drop_suffix _ _;have sf0:S.drop (S.length - i)<:+S:=List.drop_suffix _ _;have hE1:=zAK hE sf;have hmemS:(p,u)∈S:=zPH eS;obtain ⟨u1,u2,u3,u4⟩:=hE.mem hmemS;simp only at u1 u2 u3 u4;have bu:=ok.s (p,u) hmemS;have b0:=ok.k _ sf0;have bv:=ok.v _ sf0;have brc:=ok.r _ sf0;have I:=zw (e:=e) (zAK hE sf0);have kle:(FrV.part e (S.drop (S.length - i))).1.length<=12:=by
    have:=zCn (e:=e) (S.drop (S.length - i));rw [List.length_drop] at this;omega
   have lk:=Paired.len hk;generalize hS':S.drop (S.length - i)=S' at*;have hE':Ech n S':=zOV hE sf0;have n1:1<=n:=by omega
   have une:u≠ [] :=fun z=>by rw [z] at u1;simp at u1;omega
   have kne: ∀q∈(FrV.part e S').1,q.2≠ [] :=fun q hq z=>by
    have:=(I.ech.mem hq).1;rw [z] at this;simp at this;omega
   have rle: ∀x:Nat,x<=12->x<sizeLine:=fun x hx=>by rw [zOo];omega
   have bo:Bt (V'+V'+10) (dt (zA u) e):=zDp e _ 10 (by rw [he];exact zOr hn0 (by decide)) bu ok.eq;have eD':S.drop (S.length -(i+1))=(p,u)::S':=eD;have ho1:=s1 _ _ ho;have hu1:=hu.same s1;refine ⟨_,rfl,o,C,dx,_,_,rfl,ho1,T.cl,T.n2,rfl,_,rfl,a,m,u,e,rfl,hu1,hm.same s1,by omega,by omega,bu.mono (by omega),ok.eq.mono (by omega),fun H2 s2=>?_⟩;have s12:=s1.trans s2;replace ho1:=s2 _ _ ho1;replace hu1:=hu1.same s2;replace ek:=s2 _ _ ek;replace hk:=StA.same hk s2;have hso2:StO C H2 o (p,u):=⟨dx,a,ho1,hu1⟩;refine ⟨_,rfl,rfl,_,rfl,?_⟩;refine yl (fun c=>?_) (fun c=>?_)
   ·have c0:dt (zA u) e=0:=by simpa using c
    refine ⟨_,rfl,.inl ⟨rfl,_,SqL.of ek⟩,_,rfl,kl,_,_,rfl,rfl,ek,rle _ (by simp;omega),hi,?_⟩;rw [eD',zME c0];refine ⟨kl,vv,o::os',_,_,_,_,rfl,hk0,zC.store s12 hk0,zB,.cons (hso2.store une ek) (StA.store hk kne ek),fun hr0=>?_⟩;obtain ⟨va,z1,z2⟩:=hv hr0;exact ⟨va,z1,(z2.same s2).store (fun z=>by have:=I.len hr0;rw [z] at this;simp at this;omega) ek⟩
   ·have c0:dt (zA u) e≠0:=by simpa using c
    refine ⟨_,rfl,rfl,_,rfl,?_⟩;refine yl (fun c=>?_) (fun c=>?_)
    ·have r0:(FrV.part e S').2.2=0:=by simpa using c
     have eab:(if dt (zA u) e<0 then -(dt (zA u) e) else dt (zA u) e)=((dt (zA u) e).natAbs:Int):=by split<;>omega
     refine ⟨_,rfl,_,rfl,_,rfl,_,_,rfl,rfl,_,rfl,?_⟩;refine yl (fun c=>?_) (fun c=>?_)
     ·have c1:0<dt (zA u) e:=by simpa using c
      refine ⟨_,rfl,o,C,dx,_,_,rfl,ho1,T.cl,T.n2,rfl,hi,?_⟩;rw [eD',zHV c0 r0,if_pos c1];exact ⟨kl,.ref a,os',_,_,_,_,by rw [eab];rfl,hk0,s12,ek,hk,fun _=>⟨a,rfl,hu1⟩⟩
     ·have c1: ¬0<dt (zA u) e:=by simpa using c
      refine ⟨_,rfl,_,rfl,o,C,dx,_,_,rfl,ho1,T.cl,T.n2,rfl,_,rfl,o,C,dx,_,_,rfl,ho1,T.cl,T.n2,rfl,-1,0,a,a,u,u,rfl,hu1,hu1,rfl,by omega,Bt.one.neg,Bt.zero,bu.mono (by omega),bu.mono (by omega),fun vl H3 s3 _ hl3=>?_⟩;refine ⟨hi,?_⟩;rw [eD',zHV c0 r0,if_neg c1];exact ⟨kl,.ref vl,os',_,_,_,_,by rw [eab];rfl,hk0,s12.trans s3,s3 _ _ ek,StA.same hk s3,fun _=>⟨vl,rfl,hl3⟩⟩
    ·have r0:(FrV.part e S').2.2≠0:=by simpa using c
     have rp:0<(FrV.part e S').2.2:=by have:=I.r0;omega
     obtain ⟨va,rfl,hva⟩:=hv rp;replace hva:=hva.same s2;have lva:=I.len rp;have vne:(FrV.part e S').2.1≠ [] :=fun z=>by rw [z] at lva;simp at lva;omega
     obtain ⟨g1,g2,g3,g4,g5,g6,g7⟩:=zAE (one:=dt (zA u) e) rp;have bo2:Bt (2*V'+10) (dt (zA u) e):=bo.mono (by omega);obtain ⟨by',bx',bg'⟩:=zNr rp bo2 brc;have hEn:=zw (e:=e) hE1;have bkn:=ok.k _ sf;have lkn:=zCn (e:=e) (S.drop (S.length -(i+1)));rw [eD'] at hEn bkn lkn;have lkn2:(FrV.part e ((p,u)::S')).1.length<=12:=by
      have:S'.length<=S.length - 1:=by
       have:=congrArg List.length eD';rw [List.length_drop,List.length_cons] at this;omega
      rw [List.length_cons] at lkn;omega
     have eK:(FrV.part e ((p,u)::S')).1=zBh e p u S'::(FrV.part e S').1:=by
      by_cases hl:(zv (dt (zA u) e) (FrV.part e S').2.2).1<(FrV.part e S').2.2
      ·rw [zHq c0 r0 hl]
      ·rw [zHe c0 r0 hl]
     rw [eK] at bkn lkn2;have hEk:=hEn.ech;rw [eK] at hEk;have hqk: ∀q∈(FrV.part e S').1,q.2.length=n/\q.1<n/\0<zA q.2 q.1/\Bts V' q.2:=fun q hq=>let ⟨z1,z2,z3,_⟩:=I.ech.mem hq;⟨z1,z2,z3,b0 q hq⟩;have hqn: ∀q∈zBh e p u S'::(FrV.part e S').1,q.2.length=n/\q.1<n/\0<zA q.2 q.1/\Bts V' q.2:=fun q hq=>let ⟨z1,z2,z3,_⟩:=hEk.mem hq;⟨z1,z2,z3,bkn q hq⟩;have mulk: ∀x:Nat,x<=12->x*(V'+1)<=12*(V'+1):=fun x hx=>Nat.mul_le_mul_right _ hx;have hNS:zBh e p u S'=(p,zR (zM ((FrV.part e S').2.2/(zv (dt (zA u) e) (FrV.part e S').2.2).1) u (-(dt (zA u) e/(zv (dt (zA u) e) (FrV.part e S').2.2).1)) (FrV.part e S').2.1) (FrV.part e S').1):=rfl;refine ⟨_,rfl,_,rfl,_,_,rfl,rp,bo2.mono (by omega),brc.mono (by omega),fun t H3 s3 et=>?_⟩;have hgd:Bt (2*V'+10) ((FrV.part e S').2.2/(zv (dt (zA u) e) (FrV.part e S').2.2).1):=(Bt.div brc g1).mono (by omega);have hod:Bt (2*V'+10) (-(dt (zA u) e/(zv (dt (zA u) e) (FrV.part e S').2.2).1)):=(Bt.div bo2 g1).neg;have hmx:=zEW (k:=0) (l:=0) (u:=u) (v:=(FrV.part e S').2.1) (by omega) hgd bu hod bv;refine ⟨_,rfl,_,rfl,t,_,_,_,rfl,rfl,SqT.of et,rfl,_,_,rfl,rfl,g1,_,rfl,o,C,dx,_,_,rfl,s3 _ _ ho1,T.cl,T.n2,rfl,_,rfl,_,rfl,t,_,_,_,rfl,rfl,SqT.of et,rfl,_,_,rfl,rfl,g1,_,rfl,_,rfl,_,_,a,va,u,(FrV.part e S').2.1,rfl,hu1.same s3,hva.same s3,by omega,by omega,hgd.mono (by omega),hod.mono (by omega),bu.mono (by omega),bv.mono (by omega),fun wl H4 s4 _ hw=>?_⟩;have s34:=s3.trans s4;refine ⟨_,rfl,.inl ⟨rfl,_,SqL.of (s34 _ _ ek)⟩,_,rfl,o,C,dx,_,_,rfl,s34 _ _ ho1,T.cl,T.n1,rfl,_,rfl,_,rfl,wl,kl,_,(FrV.part e S').1,n,2*V'+10+V'+1,V',rfl,hw,⟨os',s34 _ _ ek,StA.same hk s34⟩,zY u1 lva,hn0,by omega,hqk,hmx,by have:=mulk _ kle;omega,fun ll H5 s5 _ hl5=>?_⟩;intro x dx2 hx5 hdx5 hne5;have sx:zC H5 (L2.upd (L2.upd (L2.upd H5 dx2 (.own x)) x (.ins C dx2 [])) x (.ins C dx2 [("place",.int (p:Int)),("vector",.ref ll)])):=zC.store (zC.store (zC.upd hdx5) hx5) hx5;have ex:(L2.upd (L2.upd (L2.upd H5 dx2 (.own x)) x (.ins C dx2 [])) x (.ins C dx2 [("place",.int (p:Int)),("vector",.ref ll)])) x=some (.ins C dx2 [("place",.int (p:Int)),("vector",.ref ll)]):=zB;refine ⟨x,dx2,_,_,rfl,zB,rfl,?_⟩;generalize L2.upd (L2.upd (L2.upd H5 dx2 (.own x)) x (.ins C dx2 [])) x (.ins C dx2 [("place",.int (p:Int)),("vector",.ref ll)])=H6 at sx ex⊢;have s26:zC H2 H6:=(s34.trans s5).trans sx;have s46:zC H4 H6:=s5.trans sx;have ek6:=s26 _ _ ek;refine ⟨kl,_,_,rfl,rfl,ek6,rle _ (by simp;omega),?_⟩;have et6:=(s4.trans s46) _ _ et;have hN6:StO C H6 x (zBh e p u S'):=⟨dx2,ll,ex,hl5.same sx⟩;have hnne:(zBh e p u S').2≠ [] :=fun z=>by
      have:=(hqn (zBh e p u S') (by simp)).1;rw [z] at this;simp at this;omega
     have hk6:StA C H6 (x::os') (zBh e p u S'::(FrV.part e S').1):= .cons hN6 (StA.same hk s26);have hne7: ∀q∈zBh e p u S'::(FrV.part e S').1,q.2≠ [] :=fun q hq z=>by
      have:=(hqn q hq).1;rw [z] at this;simp at this;omega
     have hk7:=StA.store (o:= .lst (.ref x::os'.map V.ref)) hk6 hne7 ek6;have et7:L2.upd H6 kl (.lst (.ref x::os'.map V.ref)) t=_:=(zG fun z=>by rw [z,ek6] at et6;cases et6).trans et6;have ho7:L2.upd H6 kl (.lst (.ref x::os'.map V.ref)) o=_:=(zG fun z=>by have h6:=s26 _ _ ho1;rw [z,ek6] at h6;cases h6).trans (s26 _ _ ho1);have hu7:=(hu1.same s26).store (o:= .lst (.ref x::os'.map V.ref)) une ek6;have hva7:=(hva.same s26).store (o:= .lst (.ref x::os'.map V.ref)) vne ek6;have ek7:L2.upd H6 kl (.lst (.ref x::os'.map V.ref)) kl=some (.lst ((x::os').map V.ref)):=zB;have s7:zC H (L2.upd H6 kl (.lst (.ref x::os'.map V.ref))):=zC.store (s12.trans s26) hk0;generalize L2.upd H6 kl (.lst (.ref x::os'.map V.ref))=H7 at hk7 et7 ho7 hu7 hva7 ek7 s7⊢;refine ⟨_,rfl,t,_,_,_,rfl,rfl,SqT.of et7,rfl,_,rfl,_,_,rfl,rfl,_,rfl,?_⟩;refine yl (fun c=>?_) (fun c=>?_)
     ·have hlt:(zv (dt (zA u) e) (FrV.part e S').2.2).1<(FrV.part e S').2.2:=by simpa using c
      have hm2:=zEW (k:=0) (l:=0) (u:=u) (v:=(FrV.part e S').2.1) (by omega) (bx'.mono (show V'<=3*V'+11 by omega)) bu by' bv;refine ⟨_,rfl,t,_,_,_,rfl,rfl,SqT.of et7,rfl,?_⟩;refine ⟨_,rfl,t,_,_,_,rfl,rfl,SqT.of et7,rfl,_,rfl,o,C,dx,_,_,rfl,ho7,T.cl,T.n2,rfl,_,rfl,t,_,_,_,rfl,rfl,SqT.of et7,rfl,_,rfl,_,_,a,va,u,(FrV.part e S').2.1,rfl,hu7,hva7,by omega,by omega,bx'.mono (by omega),by'.mono (by omega),bu.mono (by omega),bv.mono (by omega),fun ml H8 s8 _ hm8=>?_⟩;refine ⟨_,rfl,ml,kl,_,zBh e p u S'::(FrV.part e S').1,n,3*V'+11+V'+1,V',rfl,hm8,⟨x::os',s8 _ _ ek7,StA.same hk7 s8⟩,zY u1 lva,hn0,by omega,hqn,hm2,by have:=mulk _ lkn2;omega,fun vl H9 s9 _ hv9=>?_⟩;refine ⟨hi,?_⟩;rw [eD',zHq c0 r0 hlt];have s79:=s8.trans s9;exact ⟨kl,.ref vl,x::os',_,_,_,_,rfl,hk0,s7.trans s79,s79 _ _ ek7,StA.same hk7 s79,fun _=>⟨vl,rfl,hv9⟩⟩
     ·have hge: ¬(zv (dt (zA u) e) (FrV.part e S').2.2).1<(FrV.part e S').2.2:=by simpa using c
      refine ⟨hi,?_⟩;rw [eD',zHe c0 r0 hge];exact ⟨kl,.ref va,x::os',_,_,_,_,rfl,hk0,s7,ek7,hk7,fun _=>⟨va,rfl,hva7⟩⟩
  ·rintro σ H' ⟨_,⟨kl,vv,os',s5,s6,s7,s8,rfl,hk0,s1,ek,hk,hv⟩⟩;rw [Nat.sub_self,List.drop_zero] at hk hv⊢;refine ⟨_,rfl,_,rfl,_,rfl,by show 3<=sizeLine;decide,fun t ht=>?_⟩;have st:=zC.upd ht (o:= .tup [.ref kl,vv,.int (FrV.part e S).2.2]);exact q t _ (s1.trans st) ⟨kl,vv,zB,hk0,⟨os',st _ _ ek,StA.same hk st⟩,fun h=>let ⟨va,z1,z2⟩:=hv h;⟨va,z1,z2.same st⟩⟩
end
theorem zGP{xs:List V}{i:Int}(h0:0<=i)(hi:i<=xs.length):zBR xs (some i) none=xs.drop i.toNat:=by
 have e1:HT.sIx xs.length 0 (some i)=i.toNat:=by
  unfold HT.sIx;simp only;rw [if_neg (by omega)];omega
 have e2:HT.sIx xs.length xs.length none=xs.length:=by unfold HT.sIx;rfl
 unfold zBR;rw [e1,e2,List.take_of_length_le (by rw [List.length_drop];omega)]
theorem zGU{xs:List V}{i:Int}(h0:0<=i)(hi:i<=xs.length):zBR xs none (some i)=xs.take i.toNat:=by
 have e1:HT.sIx xs.length xs.length (some i)=i.toNat:=by
  unfold HT.sIx;simp only;rw [if_neg (by omega)];omega
 have e2:HT.sIx xs.length 0 none=0:=by unfold HT.sIx;rfl
 unfold zBR;rw [e1,e2,List.drop_zero,Nat.sub_zero]
theorem zCL{v:Vec}{n:Nat}(h:n<=v.length):zBR (v.map V.int) (some (n:Int)) none=(v.drop n).map V.int:=by
 rw [zGP (by omega) (by simp;omega),List.map_drop];rfl
theorem zCf{v:Vec}{n:Nat}(h:n<=v.length):zBR (v.map V.int) none (some (n:Int))=(v.take n).map V.int:=by
 rw [zGU (by omega) (by simp;omega),List.map_take];rfl
def But(ex:List Addr)(H H':Hp):Prop:= ∀b u,H b=some u->b∉ex->H' b=some u
theorem zC.but{H H':Hp}(s:zC H H')(ex:List Addr):But ex H H':=fun b u e _=>s b u e
theorem But.trans{ex:List Addr}{H H1 H2:Hp}(a:But ex H H1)(b:But ex H1 H2):But ex H H2:=fun c u e z=>b c u (a c u e z) z
theorem But.same{ex:List Addr}{H0 H H':Hp}(s:zC H0 H)(b:But ex H H')(hn: ∀a∈ex,H0 a=none):zC H0 H':=fun c u e=>b c u (s c u e) fun z=>by rw [hn c z] at e;cases e
structure PC(K:zPS)(C:Addr):Prop where
 cl:Cls K C
 n1:yp K C "number"
 n2:yp K C "vector"
 n3:yp K C "reach"
structure LC(K:zPS)(C:Addr):Prop where
 cl:Cls K C
 n1:yp K C "unknowns"
 n2:yp K C "steps"
 n3:yp K C "fixed"
 n4:yp K C "spent"
def SpO(C:Addr)(H:Hp)(o:Addr)(q:Spt):Prop:= ∃dx a,H o=some (.ins C dx [("number",.int (q.1:Int)),("vector",.ref a),("reach",.int q.2.2)])/\LI H a q.2.1
theorem SpO.same{C:Addr}{H H':Hp}{o:Addr}{q:Spt}(h:SpO C H o q)(s:zC H H'):SpO C H' o q:=let ⟨dx,a,e,p⟩:=h;⟨dx,a,s _ _ e,p.same s⟩
abbrev SpA(C:Addr)(H:Hp)(os:List Addr)(S:List Spt):Prop:=Paired (SpO C H) os S
theorem SpA.same{C:Addr}{H H':Hp}{os:List Addr}{S:List Spt}(h:SpA C H os S)(s:zC H H'):SpA C H' os S:=Paired.mapP h fun a v e=>e.same s
structure SoO(CS CP CL:Addr)(H:Hp)(o pl:Addr)(n:Nat)(s:Stt):Prop where
 ex: ∃dx sl fl os,H o=some (.ins CL dx [("unknowns",.int (n:Int)),("steps",.ref sl),("fixed",.ref fl),("spent",.ref pl)])/\StL CS H sl s.steps/\LL H fl s.fixed/\H pl=some (.lst (os.map V.ref))/\SpA CP H os s.spent
theorem SoO.same{CS CP CL:Addr}{H H':Hp}{o pl:Addr}{n:Nat}{s:Stt}(h:SoO CS CP CL H o pl n s)(z:zC H H'):SoO CS CP CL H' o pl n s:=by
 obtain ⟨dx,sl,fl,os,e1,e2,e3,e4,e5⟩:=h;exact ⟨dx,sl,fl,os,z _ _ e1,e2.same z,e3.same z,z _ _ e4,SpA.same e5 z⟩
section
variable {P:Program}{w:World}{K:zPS}{mg:Str->Option Value}{base:Heap}
def zCk:Sp:=fun vs H Q _=> ∃z m:Int,vs= [.int z,.int m] /\0<=m/\Q (.int (FrV.lo z m)) H
theorem zMp:FnScope ["number","modulus"] ["number","modulus"] (zI zCO):=⟨rfl,rfl,rfl,by decide+kernel,rfl,by decide+kernel,by decide+kernel⟩
theorem zHp{f:Addr}{fd:FuncData}(F:Fun K "left_over" "left_over" zCO f fd):FnOk P w K mg base CX0 1 f fd ["number","modulus"] zCk:=by
 refine F.ok zMp (fun vs H Q E h=>?_) (fun cdv A outer s H vs Q E hr h=>?_)
 ·obtain ⟨z,m,rfl,_⟩:=h;rfl
 ·obtain ⟨z,m,rfl,hm,q⟩:=h;refine ⟨_,QB.out (zE
   (yW (zf zAn (qw 1 rfl) zF rfl) (zJ
    (zZ (qw 0 rfl))) yS) (zJ
   (zZ (yu (qw 0 rfl) (qw 1 rfl))))),?_⟩
  refine ⟨_,rfl,rfl,_,rfl,?_⟩;unfold FrV.lo at q;refine yl (fun c=>?_) (fun c=>?_)
  ·have c0:m=0:=by simpa using c
   rw [if_pos c0] at q;exact ⟨_,rfl,q⟩
  ·have c0:m≠0:=by simpa using c
   rw [if_neg c0] at q;exact ⟨_,rfl,_,rfl,_,_,rfl,rfl,(by show 0<m;omega),q⟩
def zFB:Sp:=fun vs H Q _=> ∃(p:Addr) (v:Vec) (m:Int),vs= [.ref p,.int m] /\LI H p v/\v.length<=1000/\0<=m/\zKO H Q (los v m)
theorem zLf:FnScope ["vector","modulus"] ["vector","modulus"] (zI zDI):=⟨rfl,rfl,rfl,by decide+kernel,rfl,by decide+kernel,by decide+kernel⟩
theorem zJv{f fO:Addr}{fd fdO:FuncData}(F:Fun K "all_left_over" "all_left_over" zDI f fd)(FO:Fun K "left_over" "left_over" zCO fO fdO)(bO:zO K fdO ["number","modulus"] [])(mO:mg "left_over" =some (.ref fO)):FnOk P w K mg base CX0 2 f fd ["vector","modulus"] zFB:=by
 have GO:FnOk P w K mg base CX0 1 fO fdO ["number","modulus"] zCk:=zHp FO;refine F.ok zLf (fun vs H Q E h=>?_) (fun cdv A outer s H vs Q E hr h=>?_)
 ·obtain ⟨p,v,m,rfl,_⟩:=h;rfl
 ·obtain ⟨p,v,m,rfl,hp,hn,hm,q⟩:=h;have hr1:Room 1 _:=hr;refine ⟨_,QB.out (zJ
   (zZ (ze ["number"] ["modulus"] [1] rfl (zm (K:=K) rfl (qw 0 rfl)) rfl (by decide+kernel) rfl (by decide+kernel) (zQ rfl ye) rfl (fr1 ⟨rfl,rfl,rfl,_,rfl,rfl⟩) (zN rfl) (fun _ _ _ _=>(zH 0 (show (["number","modulus"] :List Str).Nodup by decide+kernel) rfl (.inl rfl) (.inr rfl))) (fun _ _ _ _=>zc) (fun _ _ _ _=>(zK GO hr1 rfl mO FO.kp bO .nil zL (qc (qw 0 rfl) (qc (qx 1 rfl) zD rfl) rfl) rfl rfl rfl)) (fun _=>rfl)))),?_⟩
  refine ⟨_,rfl,p,rfl,⟨_,SqL.of hp⟩,fun D hD=>?_⟩;refine zU v.length (fun i ys H'=>i<=v.length/\ys=((los v m).take i).map V.int/\H'=L2.upd H D (.lst ys)) ⟨zOs _,by simp,rfl⟩ (by rw [zOo];omega) ?_ ?_ ?_
  ·rintro i ys H' hi ⟨_,rfl,rfl⟩;have e2:=hp.same (zC.upd hD (o:= .lst (((los v m).take i).map V.int)));exact ⟨by simp;omega,zB,fun h=>⟨_,_,SqL.of e2,zS h⟩,fun h=>⟨_,SqL.of e2,by simp;omega⟩⟩
  ·rintro i ys H' x H'' hi ⟨_,rfl,rfl⟩ ⟨rfl,hx⟩ pre hpre;obtain ⟨p0,rfl⟩:=yX hpre;have hx':=hx _ (SqL.of (hp.same (zC.upd hD (o:= .lst (((los v m).take i).map V.int)))));rw [zS hi] at hx';cases hx';refine ⟨⟨[some (.int (zA v i))],rfl,rfl⟩,yC ?_⟩;refine ⟨_,rfl,_,rfl,_,_,rfl,hm,zB,hi,?_,by rw [zx]⟩;rw [zBm (by rw [zBE];exact hi),zCH,zOz];rfl
  ·rintro ys H' ⟨_,rfl,rfl⟩;refine q _ _ (zC.upd hD) hD ?_;show L2.upd H D _ D=_;rw [zB,List.take_of_length_le (by rw [zBE];exact zOh _)]
def zES(C:Addr):Sp:=fun vs H Q _=> ∃(x dx:Addr) (j v r:V),vs= [.ref x,j,v,r] /\H x=some (.ins C dx [])/\Q .non (L2.upd H x (.ins C dx [("number",j),("vector",v),("reach",r)]))
theorem zKX:FnScope ["self","number","vector","reach"] ["self","number","vector","reach"] (zI (zy (top 20) 0)):=⟨rfl,rfl,rfl,by decide+kernel,rfl,by decide+kernel,by decide+kernel⟩
theorem zJF{f C:Addr}{fd:FuncData}(F:Fun K "__init__" "Spent.__init__" (zy (top 20) 0) f fd)(T:PC K C):FnOk P w K mg base CX0 1 f fd ["self","number","vector","reach"] (zES C):=by
 refine F.ok zKX (fun vs H Q E h=>?_) (fun cdv A outer s H vs Q E hr h=>?_)
 ·obtain ⟨x,dx,j,v,r,rfl,_⟩:=h;rfl
 ·obtain ⟨x,dx,j,v,r,rfl,hx,q⟩:=h;refine ⟨_,QB.out (zE
   (zBN (K:=K) rfl (qw 0 rfl) (qw 1 rfl) rfl) (zE
   (zBN (K:=K) rfl (qw 0 rfl) (qw 2 rfl) rfl) (zJ
   (zBN (K:=K) rfl (qw 0 rfl) (qw 3 rfl) rfl)))),?_⟩
  refine ⟨_,rfl,_,rfl,x,C,dx,[],rfl,hx,T.cl,T.n1,by show 0<1000;decide,?_⟩;refine ⟨_,rfl,_,rfl,x,C,dx,[("number",j)],rfl,zB,T.cl,T.n2,by show 1<1000;decide,?_⟩;refine ⟨_,rfl,_,rfl,x,C,dx,[("number",j),("vector",v)],rfl,zB,T.cl,T.n3,by show 2<1000;decide,?_⟩;rw [zx,zx];exact q
def zGr(C:Addr):Sp:=fun vs H Q _=> ∃(x dx:Addr) (u s f:V),vs= [.ref x,u,s,f] /\H x=some (.ins C dx [])/\ ∀pl,H pl=none->Q .non (L2.upd (L2.upd H pl (.lst [])) x (.ins C dx [("unknowns",u),("steps",s),("fixed",f),("spent",.ref pl)]))
theorem zNN:FnScope ["self","unknowns","steps","fixed"] ["self","unknowns","steps","fixed"] (zI (zy (top 21) 0)):=⟨rfl,rfl,rfl,by decide+kernel,rfl,by decide+kernel,by decide+kernel⟩
theorem zLb{f C:Addr}{fd:FuncData}(F:Fun K "__init__" "Solution.__init__" (zy (top 21) 0) f fd)(T:LC K C):FnOk P w K mg base CX0 1 f fd ["self","unknowns","steps","fixed"] (zGr C):=by
 refine F.ok zNN (fun vs H Q E h=>?_) (fun cdv A outer s H vs Q E hr h=>?_)
 ·obtain ⟨x,dx,u,s,f,rfl,_⟩:=h;rfl
 ·obtain ⟨x,dx,u,s',f',rfl,hx,q⟩:=h;refine ⟨_,QB.out (zE
   (zBN (K:=K) rfl (qw 0 rfl) (qw 1 rfl) rfl) (zE
   (zBN (K:=K) rfl (qw 0 rfl) (qw 2 rfl) rfl) (zE
   (zBN (K:=K) rfl (qw 0 rfl) (qw 3 rfl) rfl) (zJ
   (zBN (K:=K) rfl (qw 0 rfl) (zAB zD) rfl))))),?_⟩
  refine ⟨_,rfl,_,rfl,x,C,dx,[],rfl,hx,T.cl,T.n1,by show 0<1000;decide,?_⟩;refine ⟨_,rfl,_,rfl,x,C,dx,[("unknowns",u)],rfl,zB,T.cl,T.n2,by show 1<1000;decide,?_⟩;refine ⟨_,rfl,_,rfl,x,C,dx,[("unknowns",u),("steps",s')],rfl,zB,T.cl,T.n3,by show 2<1000;decide,?_⟩;refine ⟨bs 0,fun pl hpl=>?_⟩;rw [zx,zx] at hpl;have hne:pl≠x:=fun z=>by rw [z,zB] at hpl;cases hpl
  refine ⟨_,rfl,x,C,dx,[("unknowns",u),("steps",s'),("fixed",f')],rfl,by rw [zG (Ne.symm hne),zB];rfl,T.cl,T.n4,by show 3<1000;decide,?_⟩;rw [zG hne] at hpl;have e:=q pl hpl;have e2:L2.upd (L2.upd (L2.upd (L2.upd (L2.upd H x (.ins C dx (yT "unknowns" u []))) x (.ins C dx (yT "steps" s' [("unknowns",u)]))) x (.ins C dx (yT "fixed" f' [("unknowns",u),("steps",s')]))) pl (.lst [])) x (.ins C dx (yT "spent" (.ref pl) [("unknowns",u),("steps",s'),("fixed",f')]))=L2.upd (L2.upd H pl (.lst [])) x (.ins C dx [("unknowns",u),("steps",s'),("fixed",f'),("spent",.ref pl)]):=by
   funext b
   unfold L2.upd;by_cases z1:b=x
   ·simp [z1];rfl
   ·by_cases z2:b=pl
    ·simp [z1,z2,hne]
    ·simp [z1,z2]
  rw [<-e2] at e;exact e
end
theorem LI.but{H H':Hp}{o pl a:Addr}{CL dx:Addr}{fs:List (Str×V)}{os:List Addr}{v:Vec}(h:LI H a v)(hv:v≠ [])(ho:H o=some (.ins CL dx fs))(hp:H pl=some (.lst (os.map V.ref)))(b:But [o,pl] H H'):LI H' a v:=by
 refine b a _ h fun z=>?_;simp only [List.mem_cons,List.not_mem_nil,or_false] at z;unfold LI at h;rcases z with z | z
 ·rw [z,ho] at h;cases h
 ·rw [z,hp] at h;cases v with
  | nil=>exact hv rfl
  | cons x v=>
   cases os with
   | nil=>cases h
   | cons y os=>cases h
theorem StO.but{H H':Hp}{C o pl x:Addr}{CL dx:Addr}{u:V}{fs:List (Str×V)}{os:List Addr}{q:Stp}(h:StO C H x q)(hv:q.2≠ [])(ho:H o=some (.ins CL dx (("unknowns",u)::fs)))(hp:H pl=some (.lst (os.map V.ref)))(b:But [o,pl] H H'):StO C H' x q:=by
 obtain ⟨dx',a,e,p⟩:=h;refine ⟨dx',a,b x _ e fun z=>?_,p.but hv ho hp b⟩;simp only [List.mem_cons,List.not_mem_nil,or_false] at z;rcases z with z | z
 ·rw [z,ho] at e;injection e with e;injection e with _ _ e;injection e with e;injection e with e;exact absurd e (by decide)
 ·rw [z,hp] at e;cases e
theorem StA.but{H H':Hp}{C o pl:Addr}{CL dx:Addr}{u:V}{fs:List (Str×V)}{os xs:List Addr}{S:List Stp}(h:StA C H xs S)(hv: ∀q∈S,q.2≠ [])(ho:H o=some (.ins CL dx (("unknowns",u)::fs)))(hp:H pl=some (.lst (os.map V.ref)))(b:But [o,pl] H H'):StA C H' xs S:=by
 induction h with
 | nil=>exact .nil
 | cons r _ ih=>exact .cons (r.but (hv _ (by simp)) ho hp b) (ih fun q hq=>hv q (by simp [hq]))
theorem SpO.but{H H':Hp}{C o pl x:Addr}{CL dx:Addr}{u:V}{fs:List (Str×V)}{os:List Addr}{q:Spt}(h:SpO C H x q)(hv:q.2.1≠ [])(ho:H o=some (.ins CL dx (("unknowns",u)::fs)))(hp:H pl=some (.lst (os.map V.ref)))(b:But [o,pl] H H'):SpO C H' x q:=by
 obtain ⟨dx',a,e,p⟩:=h;refine ⟨dx',a,b x _ e fun z=>?_,p.but hv ho hp b⟩;simp only [List.mem_cons,List.not_mem_nil,or_false] at z;rcases z with z | z
 ·rw [z,ho] at e;injection e with e;injection e with _ _ e;injection e with e;injection e with e;exact absurd e (by decide)
 ·rw [z,hp] at e;cases e
theorem SpA.but{H H':Hp}{C o pl:Addr}{CL dx:Addr}{u:V}{fs:List (Str×V)}{os xs:List Addr}{S:List Spt}(h:SpA C H xs S)(hv: ∀q∈S,q.2.1≠ [])(ho:H o=some (.ins CL dx (("unknowns",u)::fs)))(hp:H pl=some (.lst (os.map V.ref)))(b:But [o,pl] H H'):SpA C H' xs S:=by
 induction h with
 | nil=>exact .nil
 | cons r _ ih=>exact .cons (r.but (hv _ (by simp)) ho hp b) (ih fun q hq=>hv q (by simp [hq]))
theorem LIs.but{H H':Hp}{o pl:Addr}{CL dx:Addr}{fs:List (Str×V)}{os xs:List Addr}{S:List Vec}(h:LIs H xs S)(hv: ∀q∈S,q≠ [])(ho:H o=some (.ins CL dx fs))(hp:H pl=some (.lst (os.map V.ref)))(b:But [o,pl] H H'):LIs H' xs S:=by
 induction h with
 | nil=>exact .nil
 | cons r _ ih=>exact .cons (LI.but r (hv _ (by simp)) ho hp b) (ih fun q hq=>hv q (by simp [hq]))
theorem zFV{H:Hp}{a:Addr}{o:HO}{ex:List Addr}(h:a∈ex):But ex H (L2.upd H a o):=fun b u e z=>by rw [zG fun y=>z (by rw [y];exact h)];exact e
section
variable {P:Program}{w:World}{K:zPS}{mg:Str->Option Value}{base:Heap}
structure TkOk(n m V':Nat)(E:Eqn)(s:Stt):Prop where
 e1:E.1.length=n
 e2:E.2.length=m
 nn:n<=12
 mm:m<=1000
 ech:Ech n s.steps
 sl:s.steps.length<=12
 fl:s.fixed.length=m
 fn: ∀f∈s.fixed,f.length=n/\Bts V' f
 ok:PartOk V' E.1 s.steps
 bc:Bts V' E.2
 pl:s.spent.length<=1000
 pn: ∀q∈s.spent,q.2.1.length=n
def zGv(CS CP CL:Addr):Sp:=fun vs H Q _=> ∃(o pl q:Addr) (j n m V':Nat) (E:Eqn) (st:Stt),vs= [.ref o,.int (j:Int),.ref q] /\SoO CS CP CL H o pl n st/\LI H q (E.1++E.2)/\TkOk n m V' E st/\V'<=2500000/\
 (zBM E st=true-> ∀H',But [o,pl] H H'->SoO CS CP CL H' o pl n (take j E st)->Q .non H')/\(zBM E st=false-> ∀H',zC H H'->Q (.int (FrV.part E.1 st.steps).2.2) H')
theorem zDC:FnScope ["self","number","equation","marks","found","reach","sums"] ["self","number","equation"] (zI (zy (top 21) 1)):=⟨rfl,rfl,rfl,by decide+kernel,rfl,by decide+kernel,by decide+kernel⟩
theorem zLW{f fK fQ fR fO fL fM fP CS CP CL:Addr}{fd fdK fdQ fdR fdO fdL fdM fdP:FuncData}(F:Fun K "take_in" "Solution.take_in" (zy (top 21) 1) f fd)(B:Bn mg)(ht:P.given.tree=none)(T:LC K CL)(TP:PC K CP)
  (FK:Fun K "marks_of" "marks_of" zCj fK fdK) (bK:zO K fdK ["vector"] []) (mK:mg "marks_of" =some (.ref fK)) (GK:FnOk P w K mg base CX0 1 fK fdK ["vector"] zDo)
  (FQ:Fun K "parted" "parted" zDe fQ fdQ) (bQ:zO K fdQ ["steps","marks"] []) (mQ:mg "parted" =some (.ref fQ)) (GQ:FnOk P w K mg base CX0 35 fQ fdQ ["steps","marks"] (zGH CS))
  (FR:Fun K "reach_of" "reach_of" zBu fR fdR) (bR:zO K fdR ["vector","marks"] []) (mR:mg "reach_of" =some (.ref fR)) (GR:FnOk P w K mg base CX0 1 fR fdR ["vector","marks"] zCl)
  (FO:Fun K "left_over" "left_over" zCO fO fdO) (bO:zO K fdO ["number","modulus"] []) (mO:mg "left_over" =some (.ref fO)) (GO:FnOk P w K mg base CX0 1 fO fdO ["number","modulus"] zCk)
  (FL:Fun K "lessened" "lessened" zBY fL fdL) (bL:zO K fdL ["vector","steps"] []) (mL:mg "lessened" =some (.ref fL)) (GL:FnOk P w K mg base CX0 34 fL fdL ["vector","steps"] (zCJ CS))
  (FM:Fun K "mixed" "mixed" zBI fM fdM) (bM:zO K fdM ["factor","one","other_factor","other"] []) (mM:mg "mixed" =some (.ref fM)) (GM:FnOk P w K mg base CX0 1 fM fdM ["factor","one","other_factor","other"] zBP)
  (FP:Fun K "__init__" "Spent.__init__" (zy (top 20) 0) fP fdP) (bP:zO K fdP ["self","number","vector","reach"] []) (MP:Mk K CP fP) (mP:mg "Spent" =some (.ref CP)) (GP:FnOk P w K mg base CX0 1 fP fdP ["self","number","vector","reach"] (zES CP)):FnOk P w K mg base CX0 36 f fd ["self","number","equation"] (zGv CS CP CL):=by
 refine F.ok zDC (fun vs H Q E h=>?_) (fun cdv A outer s H vs Q E hr h=>?_)
 ·obtain ⟨o,pl,q,j,n,m,V',E',st,rfl,_⟩:=h;rfl
 ·obtain ⟨o,pl,q,j,n,m,V',⟨e,c⟩,st,rfl,⟨dx,sl,fl,os,eo,hsl,hfl,epl,hos⟩,hq,ok,hV,q1,q2⟩:=h;have deep:DeepE (zAx CX0 P w K mg base ["self","number","equation","marks","found","reach","sums"] "Solution.take_in" (zI (zy (top 21) 1)) f cdv A outer s H E):=zAu hr (by decide) ht rfl rfl;have hr1:Room 1 _:=hr.mono (by decide);have hr2:Room 2 _:=hr.mono (by decide);have hr34:Room 34 _:=hr.mono (by decide);have hr35:Room 35 _:=hr;have le:e.length=n:=ok.e1;have lc:c.length=m:=ok.e2;have nn:=ok.nn;have mm:=ok.mm;have P':=zw (e:=e) ok.ech;refine ⟨_,QB.out (zE
   (yY 3 zDC.nd rfl (Or.inr rfl) (zK GK hr1 rfl mK FK.kp bK .nil zL (qc (zAk (K:=K) rfl (qw 2 rfl) zAP (zAC (zo (K:=K) rfl (qx 0 rfl) rfl))) zD rfl) rfl rfl rfl) rfl (.inl rfl)) (zE
   (yY 4 zDC.nd rfl (Or.inr rfl) (zK GQ hr35 rfl mQ FQ.kp bQ .nil zL (qc (zo (K:=K) rfl (qx 0 rfl) rfl) (qc (qx 3 rfl) zD rfl) rfl) rfl rfl rfl) rfl (.inl rfl)) (zE
   (yY 5 zDC.nd rfl (Or.inr rfl) (yV (K:=K) rfl (qx 4 rfl) zF (fun _ _=>rfl)) rfl (.inl rfl)) (zE
   (zAh yq 6 (by exact zDC.nd) rfl (Or.inl rfl) (.inr rfl) ["vector","own"] ["marks"] [3] rfl (zDk (K:=K) rfl rfl B.zip (qc (zo (K:=K) rfl (qx 0 rfl) rfl) (qc (zAk (K:=K) rfl (qw 2 rfl) (zAC (zo (K:=K) rfl (qx 0 rfl) rfl)) zAP) zD rfl) rfl) rfl rfl) rfl (by decide+kernel) rfl (by decide+kernel) (zQ rfl ye) rfl (fr1 ⟨rfl,rfl,rfl,_,rfl,rfl⟩) (zN rfl) (fun _ _ _ _=>(zAt (K:=K) (n:=2) rfl rfl (yJ (zH 0 (show (["vector","own","marks"] :List Str).Nodup by decide+kernel) rfl (.inl rfl) (.inr rfl)) (yJ (zH 1 (show (["vector","own","marks"] :List Str).Nodup by decide+kernel) rfl (.inl rfl) (.inr rfl)) zAs rfl) rfl) rfl rfl)) (fun _ _ _ _=>zc) (fun C s₂ H₂ fp xe E hp=>(yc (zK GR hr1 rfl mR FR.kp bR .nil zL (qc (qw 0 rfl) (qc (qx 2 rfl) zD rfl) rfl) rfl rfl rfl) (qw 1 rfl))) (fun _=>rfl) rfl) (zE
   (yW (zBZ (yP (zIn (K:=K) rfl rfl) rfl B.any zMq (qc (ze ["own"] ["reach"] [5] rfl (zm (K:=K) rfl (qw 6 rfl)) rfl (by decide+kernel) rfl (by decide+kernel) (zQ rfl ye) rfl (fr1 ⟨rfl,rfl,rfl,_,rfl,rfl⟩) (zN rfl) (fun _ _ _ _=>(zH 0 (show (["own","reach"] :List Str).Nodup by decide+kernel) rfl (.inl rfl) (.inr rfl))) (fun _ _ _ _=>zc) (fun _ _ _ _=>(zFy zAr (zK GO hr1 rfl mO FO.kp bO .nil zL (qc (qw 0 rfl) (qc (qx 1 rfl) zD rfl) rfl) rfl rfl rfl) zF rfl)) (fun _=>rfl)) zD rfl) rfl) (fun _=>rfl)) (zJ
    (zZ (qx 5 rfl))) yS) (zE
   (yW (zf zAf (qx 5 rfl) zF rfl) (zE
    (zBN (K:=K) rfl (qx 0 rfl) (yV (K:=K) rfl (qx 4 rfl) zF (fun _ _=>rfl)) rfl) (zE
    (zBN (K:=K) rfl (qx 0 rfl) (ze ["vector","own"] ["self","found","reach"] [0,4,5] rfl (zDk (K:=K) rfl rfl B.zip (qc (zo (K:=K) rfl (qx 0 rfl) rfl) (qc (qw 6 rfl) zD rfl) rfl) rfl rfl) rfl (by decide+kernel) rfl (by decide+kernel) (zQ rfl (zQ rfl (zQ rfl ye))) rfl (fr3 ⟨rfl,rfl,rfl,_,rfl,rfl⟩ ⟨rfl,rfl,rfl,_,rfl,rfl⟩ ⟨rfl,rfl,rfl,_,rfl,rfl⟩) (zN rfl) (fun _ _ _ _=>(zAt (K:=K) (n:=2) rfl rfl (yJ (zH 0 (show (["vector","own","self","found","reach"] :List Str).Nodup by decide+kernel) rfl (.inl rfl) (.inr rfl)) (yJ (zH 1 (show (["vector","own","self","found","reach"] :List Str).Nodup by decide+kernel) rfl (.inl rfl) (.inr rfl)) zAs rfl) rfl) rfl rfl)) (fun _ _ _ _=>zc) (fun _ _ _ _=>(zK GL hr34 rfl mL FL.kp bL .nil zL (qc (zK GM hr1 rfl mM FM.kp bM .nil zL (qc zF (qc (qw 0 rfl) (qc (zBW (yo (deep.up rfl rfl rfl) (qw 1 rfl) (qx 4 rfl))) (qc (yV (K:=K) rfl (qx 3 rfl) zF (fun _ _=>rfl)) zD rfl) rfl) rfl) rfl) rfl rfl rfl) (qc (zo (K:=K) rfl (qx 2 rfl) rfl) zD rfl) rfl) rfl rfl rfl)) (fun _=>rfl)) rfl) (zJ
    (zBe (zCs (K:=K) rfl (zo (K:=K) rfl (qx 0 rfl) rfl) (zBw MP GP hr2 rfl mP bP .nil zL (qc (qw 1 rfl) (qc (yV (K:=K) rfl (qx 4 rfl) zF (fun _ _=>rfl)) (qc (qx 5 rfl) zD rfl) rfl) rfl) rfl rfl rfl) rfl rfl rfl) rfl)))) yS) (zJ
   (zZ zDq)))))))),?_⟩
  refine ⟨_,rfl,_,rfl,o,CL,dx,_,_,rfl,eo,T.cl,T.n1,rfl,_,rfl,q,_,rfl,SqL.of hq,fun p1 hp1=>?_⟩;rw [zCf (by simp;omega),List.take_left' le] at*;obtain ⟨H1,g1,s1,e1⟩:=zJd hp1 (.lst (e.map V.int));rw [g1];refine ⟨p1,e,rfl,e1,by omega,fun ml H2 s2 hml=>?_⟩;have s02:=s1.trans s2;refine ⟨_,rfl,o,CL,dx,_,_,rfl,s02 _ _ eo,T.cl,T.n2,rfl,_,rfl,sl,ml,st.steps,e,n,V',rfl,hsl.same s02,hml,ok.ech,le,by omega,ok.sl,ok.ok,hV,fun t H3 s3 ⟨kl,vv,et,hkl,hkk,hvv⟩=>?_⟩;have s03:=s02.trans s3;refine ⟨_,rfl,t,_,_,_,rfl,rfl,SqT.of et,rfl,?_⟩;generalize hpt:FrV.part e st.steps=pt at*;obtain ⟨k,vec,rc⟩:=pt;simp only at*;have r0:0<=rc:=P'.r0;obtain ⟨as,efl,has⟩:=hfl;have la:=Paired.len has;have lf:=ok.fl;have bo: ∀f'∈st.fixed,Bt (V'+V'+10) (dt (zA f') e):=fun f' hf=>zDp e _ 10 (by rw [le];omega) (ok.fn f' hf).2 ok.ok.eq;refine ⟨_,rfl,o,CL,dx,_,_,rfl,s03 _ _ eo,T.cl,T.n3,rfl,_,rfl,_,rfl,o,CL,dx,_,_,rfl,s03 _ _ eo,T.cl,T.n1,rfl,_,rfl,q,_,rfl,SqL.of (hq.same s03),fun p2 hp2=>?_⟩;rw [zCL (by simp;omega),List.drop_left' le] at*;obtain ⟨H4,g4,s4,e4⟩:=zJd hp2 (.lst (c.map V.int));rw [g4];have s04:=s03.trans s4;have hp2':LI H4 p2 c:=e4;refine ⟨fl,p2,rfl,⟨_,SqL.of (s04 _ _ efl)⟩,⟨_,SqL.of e4⟩,fun D hD=>?_⟩;have lsum:(yU e c st.fixed).length=m:=by simp [yU,lf,lc]
  have gsum: ∀i f',st.fixed[i]?=some f'->(yU e c st.fixed)[i]?=some (dt (zA f') e+zA c i):=fun i f' hf=>zCK (e:=e) (by omega) hf;refine zU m (fun i ys H'=>i<=m/\ys=((yU e c st.fixed).take i).map V.int/\zC H4 H'/\H' D=some (.lst ys)) ⟨zOs _,by simp,zC.upd hD,zB⟩ (by rw [zOo];omega) ?_ ?_ ?_
  ·rintro i ys H' hi ⟨_,rfl,s5,e5⟩;refine ⟨by simp;omega,e5,fun h=>⟨_,_,_,_,SqL.of (s5 _ _ (s04 _ _ efl)),SqL.of (hp2'.same s5),zOd (by simp;omega),zS (by omega)⟩,fun h=>⟨_,_,SqL.of (s5 _ _ (s04 _ _ efl)),SqL.of (hp2'.same s5),.inl (by simp;omega)⟩⟩
  ·rintro i ys H' x H'' hi ⟨_,rfl,s5,e5⟩ ⟨t2,x1,y1,hx,hy,ht2,rfl,rfl⟩ pre hpre;obtain ⟨p0,p1',rfl⟩:=zn hpre;have hx':=hx _ (SqL.of (s5 _ _ (s04 _ _ efl)));have hy':=hy _ (SqL.of (hp2'.same s5));have hia:i<as.length:=by omega
   rw [zOi,zOd hia] at hx';rw [zS (show i<c.length by omega)] at hy';cases hx';cases hy';obtain ⟨f',ef,hf⟩:=Paired.get' has (zOd hia);obtain ⟨lf',bf⟩:=ok.fn f' (zPH ef);have st2:=zC.upd ht2 (o:= .tup [.ref as[i],.int (zA c i)]);have s05:=(s04.trans s5).trans st2;refine ⟨t2,_,rfl,SqT.of zB,rfl,_,_,rfl,_,_,rfl,rfl,⟨[some (.ref as[i]),some (.int (zA c i))],rfl,rfl⟩,yC ?_⟩;refine ⟨_,rfl,_,rfl,as[i],ml,f',e,rfl,hf.same s05,hml.same (((s3.trans s4).trans s5).trans st2),by omega,by omega,bf.mono (by omega),ok.ok.eq.mono (by omega),fun H6 s6=>?_⟩;refine ⟨_,rfl,_,_,rfl,rfl,(st2.trans s6) _ _ e5,hi,?_,zC.store ((s5.trans st2).trans s6) hD,zB⟩;rw [zPA,gsum i f' ef];simp
  rintro ys H5 ⟨_,rfl,s5,e5⟩;rw [List.take_of_length_le (by omega)] at e5;have s05:=s04.trans s5;have hany:((yU e c st.fixed).map fun z=>!decide (V.int (FrV.lo z rc)=V.int 0)).any id=!zBM (e,c) st:=by
   unfold zBM;simp only [hpt]
   induction (yU e c st.fixed) with
   | nil=>rfl
   | cons z l ih=>
    rw [List.map_cons,List.any_cons,ih,List.all_cons,Bool.not_and];congr 1;by_cases h0:FrV.lo z rc=0
    ·simp [h0]
    ·simp [h0]
  refine ⟨_,rfl,D,rfl,⟨_,SqL.of e5⟩,fun D2 hD2=>?_⟩;refine zU m (fun i ys H'=>i<=m/\ys=(((yU e c st.fixed).take i).map fun z=>!decide (V.int (FrV.lo z rc)=V.int 0)).map V.bl/\H'=L2.upd H5 D2 (.lst ys)) ⟨zOs _,by simp,rfl⟩ (by rw [zOo];omega) ?_ ?_ ?_
  ·rintro i ys H' hi ⟨_,rfl,rfl⟩;have e6:=zC.upd hD2 (o:= .lst ((((yU e c st.fixed).take i).map fun z=>!decide (V.int (FrV.lo z rc)=V.int 0)).map V.bl)) _ _ e5;refine ⟨by simp;omega,zB,fun h=>⟨_,_,SqL.of e6,zOd (by simp;omega)⟩,fun h=>⟨_,SqL.of e6,by simp;omega⟩⟩
  ·rintro i ys H' x H'' hi ⟨_,rfl,rfl⟩ ⟨rfl,hx⟩ pre hpre;obtain ⟨p0,rfl⟩:=yX hpre;have e6:=zC.upd hD2 (o:= .lst ((((yU e c st.fixed).take i).map fun z=>!decide (V.int (FrV.lo z rc)=V.int 0)).map V.bl)) _ _ e5;have hx':=hx _ (SqL.of e6);rw [zOi,zOd (show i<(yU e c st.fixed).length by omega)] at hx';cases hx';refine ⟨⟨[some (.int (yU e c st.fixed)[i])],rfl,rfl⟩,yC ?_⟩;refine ⟨_,rfl,_,rfl,_,_,rfl,r0,rfl,zB,hi,?_,by rw [zx]⟩;rw [zPA,zOd (show i<(yU e c st.fixed).length by omega),zOz,zOz];rfl
  rintro ys H6 ⟨_,rfl,rfl⟩;rw [List.take_of_length_le (show (yU e c st.fixed).length<=m by omega)];have sD2:=zC.upd hD2 (o:= .lst (((yU e c st.fixed).map fun z=>!decide (V.int (FrV.lo z rc)=V.int 0)).map V.bl));refine ⟨D2,_,rfl,SqL.of zB,_,rfl,?_⟩;rw [hany];generalize L2.upd H5 D2 (.lst (((yU e c st.fixed).map fun z=>!decide (V.int (FrV.lo z rc)=V.int 0)).map V.bl))=H6 at sD2⊢;have s06:=s05.trans sD2;cases hfit:zBM (e,c) st with
  | false=>exact yC ⟨_,rfl,q2 hfit _ s06⟩
  | true=>
  refine zAW ?_;refine ⟨_,rfl,_,_,rfl,rfl,_,rfl,?_⟩;refine yl (fun cc=>?_) (fun cc=>?_)
  ·have rp:0<rc:=by simpa using cc
   obtain ⟨va,rfl,hva⟩:=hvv rp;have lv:vec.length=n:=P'.len rp;have n1:1<=n:=by
    rcases Nat.eq_zero_or_pos n with z | z
    ·have ee:e= [] :=List.length_eq_zero_iff.mp (by omega);have:=P'.dtv rp;rw [ee] at this;simp [dt] at this;omega
    ·exact z
   have lne: ∀v:Vec,v.length=n->v≠ [] :=fun v hl z=>by rw [z] at hl;simp at hl;omega
   have kne: ∀q∈k,q.2≠ [] :=fun q hq=>lne _ (P'.ech.mem hq).1;have bk:=ok.ok.k _ List.suffix_rfl;have bvec:=ok.ok.v _ List.suffix_rfl;have brc:=ok.ok.r _ List.suffix_rfl;have lkk:=zCn (e:=e) st.steps;rw [hpt] at bk bvec brc lkk;simp only at bk bvec brc lkk;have lk12:k.length<=12:=zOr lkk ok.sl;obtain ⟨ks,ekl,hks⟩:=hkk;have s36:=(s4.trans s5).trans sD2;have eo6:=s06 _ _ eo;have et6:=s36 _ _ et;have epl6:=s06 _ _ epl;have ekl6:=s36 _ _ ekl;have hks6:=StA.same hks s36;have hva6:=hva.same s36;have hos6:=SpA.same hos s06;have efl6:=s06 _ _ efl;have has6:=LIs.same has s06;have e56:=sD2 _ _ e5;have klpl:kl≠pl:=fun z=>by rw [z,s02 _ _ epl] at hkl;cases hkl
   refine ⟨_,rfl,t,_,_,_,rfl,rfl,SqT.of et6,rfl,_,rfl,o,CL,dx,_,rfl,eo6,T.cl,T.n2,by show 4<1000;decide,?_⟩;have nO: ∀{a:Addr} {xs:List V},H6 a=some (.lst xs)->a≠o:=fun h z=>by rw [z,eo6] at h;cases h
   have b7:But [o,pl] H6 (L2.upd H6 o (.ins CL dx (yT "steps" (.ref kl) [("unknowns",.int (n:Int)),("steps",.ref sl),("fixed",.ref fl),("spent",.ref pl)]))):=zFV (by simp);have eo7:(L2.upd H6 o (.ins CL dx (yT "steps" (.ref kl) [("unknowns",.int (n:Int)),("steps",.ref sl),("fixed",.ref fl),("spent",.ref pl)]))) o=some (.ins CL dx [("unknowns",.int (n:Int)),("steps",.ref kl),("fixed",.ref fl),("spent",.ref pl)]):=zB;have st7: ∀{a:Addr} {xs:List V},H6 a=some (.lst xs)->(L2.upd H6 o (.ins CL dx (yT "steps" (.ref kl) [("unknowns",.int (n:Int)),("steps",.ref sl),("fixed",.ref fl),("spent",.ref pl)]))) a=some (.lst xs):=fun h=>by rw [zG (nO h)];exact h
   have et7:(L2.upd H6 o (.ins CL dx (yT "steps" (.ref kl) [("unknowns",.int (n:Int)),("steps",.ref sl),("fixed",.ref fl),("spent",.ref pl)]))) t=_:=(zG fun z=>by rw [z,eo6] at et6;cases et6).trans et6;generalize L2.upd H6 o (.ins CL dx (yT "steps" (.ref kl) [("unknowns",.int (n:Int)),("steps",.ref sl),("fixed",.ref fl),("spent",.ref pl)]))=H7 at b7 eo7 st7 et7⊢;have ekl7:=st7 ekl6;have efl7:=st7 efl6;have e57:=st7 e56;have epl7:=st7 epl6;have hks7:=StA.but hks6 kne eo6 epl6 b7;have hva7:=LI.but hva6 (lne _ lv) eo6 epl6 b7;have hos7:=SpA.but hos6 (fun q hq=>lne _ (ok.pn q hq)) eo6 epl6 b7;have has7:=LIs.but has6 (fun q hq=>lne _ (ok.fn q hq).1) eo6 epl6 b7;refine ⟨_,rfl,o,CL,dx,_,_,rfl,eo7,T.cl,T.n3,rfl,_,rfl,fl,D,rfl,⟨_,SqL.of efl7⟩,⟨_,SqL.of e57⟩,fun D3 hD3=>?_⟩;have hnf: ∀i f',st.fixed[i]?=some f'->(List.zipWith (fun f own=>zR (zM 1 f (-(own/rc)) vec) k) st.fixed (yU e c st.fixed))[i]?=some (zR (zM 1 f' (-((dt (zA f') e+zA c i)/rc)) vec) k):=fun i f' hf=>by
    rw [List.getElem?_zipWith,hf,gsum i f' hf]
   have lnf:(List.zipWith (fun f own=>zR (zM 1 f (-(own/rc)) vec) k) st.fixed (yU e c st.fixed)).length=m:=by simp [lf,lsum]
   refine zU m (fun i ys H'=> ∃rs:List Addr,i<=m/\ys=rs.map V.ref/\LIs H' rs ((List.zipWith (fun f own=>zR (zM 1 f (-(own/rc)) vec) k) st.fixed (yU e c st.fixed)).take i)/\rs.length=i/\D3∉rs/\zC H7 H'/\H' D3=some (.lst ys)) ⟨[],zOs _,rfl,by rw [List.take_zero];exact .nil,rfl,by simp,zC.upd hD3,zB⟩ (by rw [zOo];omega) ?_ ?_ ?_
   ·rintro i ys H' hi ⟨rs,_,rfl,_,hrl,_,s8,e8⟩;refine ⟨by simp;omega,e8,fun h=>⟨_,_,_,_,SqL.of (s8 _ _ efl7),SqL.of (s8 _ _ e57),zOd (by simp;omega),zOd (by simp;omega)⟩,fun h=>⟨_,_,SqL.of (s8 _ _ efl7),SqL.of (s8 _ _ e57),.inl (by simp;omega)⟩⟩
   ·rintro i ys H' x H'' hi ⟨rs,_,rfl,hrs,hrl,hnd,s8,e8⟩ ⟨t2,x1,y1,hx,hy,ht2,rfl,rfl⟩ pre hpre;obtain ⟨p0,p1',rfl⟩:=zn hpre;have hx':=hx _ (SqL.of (s8 _ _ efl7));have hy':=hy _ (SqL.of (s8 _ _ e57));have hia:i<as.length:=by omega
    rw [zOi,zOd hia] at hx';cases hx';obtain ⟨f',ef,hf⟩:=Paired.get' has7 (zOd hia);rw [zOi,gsum i f' ef] at hy';cases hy';obtain ⟨lf',bf⟩:=ok.fn f' (zPH ef);have bz:Bt (2*V'+11) (dt (zA f') e+zA c i):=Bt.mono (Bt.add (bo f' (zPH ef)) ((ok.bc i).mono (show V'<=V'+V'+10 by omega))) (by omega);have bz2:Bt (2*V'+11) (-((dt (zA f') e+zA c i)/rc)):=(Bt.div bz rp).neg;have st2:=zC.upd ht2 (o:= .tup [.ref as[i],.int (dt (zA f') e+zA c i)]);have s79:=s8.trans st2;have hmx:=zEW (k:=0) (l:=0) (x:=1) (u:=f') (v:=vec) (by omega) (Bt.one (a:=2*V'+11)) bf bz2 bvec;refine ⟨t2,_,rfl,SqT.of zB,rfl,_,_,rfl,_,_,rfl,rfl,⟨[some (.ref as[i]),some (.int (dt (zA f') e+zA c i))],rfl,rfl⟩,yC ?_⟩;refine ⟨_,rfl,_,rfl,_,rfl,_,_,rfl,rfl,rp,_,rfl,_,rfl,t,_,_,_,rfl,rfl,SqT.of (s79 _ _ et7),rfl,1,_,as[i],va,f',vec,rfl,hf.same s79,hva7.same s79,by omega,by omega,Bt.one,bz2.mono (by omega),bf.mono (by omega),bvec.mono (by omega),fun ml2 H8 s8' _ hm8=>?_⟩;have s78:=s79.trans s8';refine ⟨_,rfl,o,CL,dx,_,_,rfl,s78 _ _ eo7,T.cl,T.n2,rfl,ml2,kl,_,k,n,2*V'+11+V'+1,V',rfl,hm8,⟨ks,s78 _ _ ekl7,StA.same hks7 s78⟩,zY lf' lv,by omega,by omega,fun q hq=>let ⟨z1,z2,z3,_⟩:=P'.ech.mem hq;⟨z1,z2,z3,bk q hq⟩,hmx,by have:=Nat.mul_le_mul_right (V'+1) lk12;omega,fun ll H9 s9 _ hl9=>?_⟩;have s89:=(st2.trans s8').trans s9;have sll:zC H7 H9:=s78.trans s9;by_cases hDl:ll=D3
    ·exfalso;have z:=s89 _ _ e8;rw [<-hDl,hl9] at z;have l9:(zR (zM 1 f' (-((dt (zA f') e+zA c i)/rc)) vec) k).length=n:=zCt (zY lf' lv) fun q hq=>(P'.ech.mem hq).1;generalize zR (zM 1 f' (-((dt (zA f') e+zA c i)/rc)) vec) k=L at l9 z;cases L with
     | nil=>simp at l9;omega
     | cons a L=>
      cases rs with
      | nil=>cases z
      | cons b rs=>cases z
    refine ⟨s89 _ _ e8,rs++ [ll],hi,by simp,?_,by simp [hrl],by simp [hnd,Ne.symm hDl],zC.store sll hD3,zB⟩;rw [zPA,hnf i f' ef];refine Paired.snoc' (Paired.mapM hrs fun a v hm ea=>?_) ?_
    ·show L2.upd _ D3 _ a=_;rw [zG fun z=>hnd (by rw [<-z];exact hm)];exact s89 _ _ ea
    ·show L2.upd _ D3 _ ll=_;rw [zG hDl];exact hl9
   rintro ys H8 ⟨rs,_,rfl,hrs,hrl,hnd,s8,e8⟩;rw [List.take_of_length_le (by omega)] at hrs;have eo8:=s8 _ _ eo7;have epl8:=s8 _ _ epl7;have D3pl:D3≠pl:=fun z=>by rw [z,epl7] at hD3;cases hD3
   refine ⟨_,rfl,o,CL,dx,_,rfl,eo8,T.cl,T.n3,by show 4<1000;decide,?_⟩;have nO8: ∀{a:Addr} {xs:List V},H8 a=some (.lst xs)->a≠o:=fun h z=>by rw [z,eo8] at h;cases h
   have b9:But [o,pl] H8 (L2.upd H8 o (.ins CL dx (yT "fixed" (.ref D3) [("unknowns",.int (n:Int)),("steps",.ref kl),("fixed",.ref fl),("spent",.ref pl)]))):=zFV (by simp);have eo9:(L2.upd H8 o (.ins CL dx (yT "fixed" (.ref D3) [("unknowns",.int (n:Int)),("steps",.ref kl),("fixed",.ref fl),("spent",.ref pl)]))) o=some (.ins CL dx [("unknowns",.int (n:Int)),("steps",.ref kl),("fixed",.ref D3),("spent",.ref pl)]):=zB;have st9: ∀{a:Addr} {xs:List V},H8 a=some (.lst xs)->(L2.upd H8 o (.ins CL dx (yT "fixed" (.ref D3) [("unknowns",.int (n:Int)),("steps",.ref kl),("fixed",.ref fl),("spent",.ref pl)]))) a=some (.lst xs):=fun h=>by rw [zG (nO8 h)];exact h
   have et8:=s8 _ _ et7;have et9:(L2.upd H8 o (.ins CL dx (yT "fixed" (.ref D3) [("unknowns",.int (n:Int)),("steps",.ref kl),("fixed",.ref fl),("spent",.ref pl)]))) t=_:=(zG fun z=>by rw [z,eo8] at et8;cases et8).trans et8;generalize L2.upd H8 o (.ins CL dx (yT "fixed" (.ref D3) [("unknowns",.int (n:Int)),("steps",.ref kl),("fixed",.ref fl),("spent",.ref pl)]))=H9 at b9 eo9 st9 et9⊢;have hnl: ∀v∈List.zipWith (fun f own=>zR (zM 1 f (-(own/rc)) vec) k) st.fixed (yU e c st.fixed),v.length=n:=fun v hv=>by
    obtain ⟨i,hi⟩:=List.mem_iff_getElem?.mp hv;cases hf:st.fixed[i]? with
    | none=>simp [List.getElem?_zipWith,hf] at hi
    | some f'=>
     rw [hnf i f' hf] at hi;cases hi;exact zCt (zY (ok.fn f' (zPH hf)).1 lv) fun q hq=>(P'.ech.mem hq).1
   have ekl9:=st9 (s8 _ _ ekl7);have epl9:=st9 epl8;have eD9:=st9 e8;have hks9:=StA.but (StA.same hks7 s8) kne eo8 epl8 b9;have hva9:=LI.but (hva7.same s8) (lne _ lv) eo8 epl8 b9;have hos9:=SpA.but (SpA.same hos7 s8) (fun q hq=>lne _ (ok.pn q hq)) eo8 epl8 b9;have hrs9:=LIs.but hrs (fun v hv=>lne _ (hnl v hv)) eo8 epl8 b9;refine ⟨_,rfl,o,CL,dx,_,_,rfl,eo9,T.cl,T.n4,rfl,.inl ⟨rfl,_,SqL.of epl9⟩,_,rfl,_,rfl,t,_,_,_,rfl,rfl,SqT.of et9,rfl,_,rfl,?_⟩;intro x dx2 hx9 hdx9 hne9;have sx:zC H9 (L2.upd (L2.upd (L2.upd H9 dx2 (.own x)) x (.ins CP dx2 [])) x (.ins CP dx2 [("number",.int (j:Int)),("vector",.ref va),("reach",.int rc)])):=zC.store (zC.store (zC.upd hdx9) hx9) hx9;have ex:(L2.upd (L2.upd (L2.upd H9 dx2 (.own x)) x (.ins CP dx2 [])) x (.ins CP dx2 [("number",.int (j:Int)),("vector",.ref va),("reach",.int rc)])) x=some (.ins CP dx2 [("number",.int (j:Int)),("vector",.ref va),("reach",.int rc)]):=zB;refine ⟨x,dx2,_,_,_,rfl,zB,rfl,?_⟩;generalize L2.upd (L2.upd (L2.upd H9 dx2 (.own x)) x (.ins CP dx2 [])) x (.ins CP dx2 [("number",.int (j:Int)),("vector",.ref va),("reach",.int rc)])=H10 at sx ex⊢;have epl10:=sx _ _ epl9;have eo10:=sx _ _ eo9;have lo':=Paired.len hos;have lpl:=ok.pl;refine ⟨pl,_,_,rfl,rfl,epl10,by rw [zOo];simp;omega,?_⟩;have b11:But [o,pl] H10 (L2.upd H10 pl (.lst (os.map V.ref++ [.ref x]))):=zFV (by simp);have opl:o≠pl:=fun z=>by rw [z,epl] at eo;cases eo
   have eo11:(L2.upd H10 pl (.lst (os.map V.ref++ [.ref x]))) o=_:=(zG opl).trans eo10;have ekl11:(L2.upd H10 pl (.lst (os.map V.ref++ [.ref x]))) kl=_:=(zG klpl).trans (sx _ _ ekl9);have eD11:(L2.upd H10 pl (.lst (os.map V.ref++ [.ref x]))) D3=_:=(zG D3pl).trans (sx _ _ eD9);have ep11:(L2.upd H10 pl (.lst (os.map V.ref++ [.ref x]))) pl=some (.lst ((os++ [x]).map V.ref)):=by rw [zB,zOz];rfl
   have hks11:=StA.but (StA.same hks9 sx) kne eo10 epl10 b11;have hos11:=SpA.but (SpA.same hos9 sx) (fun q hq=>lne _ (ok.pn q hq)) eo10 epl10 b11;have hrs11:=LIs.but (LIs.same hrs9 sx) (fun v hv=>lne _ (hnl v hv)) eo10 epl10 b11;have hx11:SpO CP (L2.upd H10 pl (.lst (os.map V.ref++ [.ref x]))) x (j,vec,rc):=SpO.but (q:=(j,vec,rc)) ⟨dx2,va,ex,hva9.same sx⟩ (lne _ lv) eo10 epl10 b11;generalize L2.upd H10 pl (.lst (os.map V.ref++ [.ref x]))=H11 at b11 eo11 ekl11 eD11 ep11 hks11 hos11 hrs11 hx11⊢;refine q1 hfit _ ((((((zC.but s06 _).trans b7).trans (zC.but s8 _)).trans b9).trans (zC.but sx _)).trans b11) ?_;have etk:take j (e,c) st=⟨k,List.zipWith (fun f own=>zR (zM 1 f (-(own/rc)) vec) k) st.fixed (yU e c st.fixed),st.spent++ [(j,vec,rc)]⟩:=by
    unfold take;simp only [hpt];rw [if_neg (by omega)]
   rw [etk];exact ⟨dx,kl,D3,os++ [x],eo11,⟨ks,ekl11,hks11⟩,⟨rs,eD11,hrs11⟩,ep11,Paired.snoc' hos11 hx11⟩
  ·have rz:rc=0:=by
    have: ¬0<rc:=by simpa using cc
    omega
   refine q1 hfit _ (zC.but s06 _) ?_;have:take j (e,c) st=st:=by simp [take,hpt,rz]
   rw [this];exact SoO.same ⟨dx,sl,fl,os,eo,hsl,⟨as,efl,has⟩,epl,hos⟩ s06
end
end Fr
namespace FrV
def zBf(n:Nat)(q:Nat->Vec)(len:Nat)(j:Nat)(E:Eqn)(s:Stt):Cl:=s.spent.reverse.foldl (fun c s=>turn n q len s c) ⟨zT j len,q j,(part E.1 s.steps).2.2⟩
def zAZ(n:Nat)(q:Nat->Vec)(len:Nat):Nat->List Eqn->Stt->Stt ⊕(Vec×Int)
 | _,[],s=> .inl s
 | j,E::r,s=>if zBM E s=true then zAZ n q len (j+1) r (take j E s) else .inr (short (zBf n q len j E s).fac (zBf n q len j E s).mod)
theorem zEG{n len j:Nat}{q:Nat->Vec}{E:Eqn}{r:List Eqn}{s:Stt}(h:zBM E s=true):zAZ n q len j (E::r) s=zAZ n q len (j+1) r (take j E s):=by
 rw [zAZ,if_pos h]
theorem zEA{n len j:Nat}{q:Nat->Vec}{E:Eqn}{r:List Eqn}{s:Stt}(h:zBM E s=false):zAZ n q len j (E::r) s= .inr (short (zBf n q len j E s).fac (zBf n q len j E s).mod):=by
 rw [zAZ,if_neg (by rw [h];exact zOq)]
def whole(Es:List Eqn)(j:Nat):Vec:=((Es[j]?).map fun E=>E.1++E.2).getD []
theorem zAU{Es:List Eqn}{j:Nat}{E:Eqn}(h:Es[j]?=some E):whole Es j=E.1++E.2:=by simp [whole,h]
structure EqOk(n m b:Nat)(Es:List Eqn):Prop where
 l1: ∀E∈Es,E.1.length=n
 l2: ∀E∈Es,E.2.length=m
 b1: ∀E∈Es,Bts b E.1
 b2: ∀E∈Es,Bts b E.2
def VB6(b:Nat):Nat:=190*b+228
theorem zKx{n b:Nat}(h:n<=6):VV n 3 b<=VB6 b:=by
 have h1:ub n 3 b<=ub 6 3 b:=zBo (zOh 3) h (zOh b);have h2:ub 6 3 b=63*b+75:=by simp only [ub];omega
 unfold VV VB6;omega
theorem Sol.kern{n m b:Nat}{Es:List Eqn}{s:Stt}(I:Sol n m Es s)(ok:EqOk n m b Es):Kern n (Es.map (·.1)) b s.steps:=by
 refine ⟨I.ech,fun x=>(I.ker x).trans ?_,fun e he=>?_⟩
 ·constructor
  ·rintro ⟨a,c⟩;refine ⟨a,fun e he=>?_⟩;obtain ⟨E,hE,rfl⟩:=List.mem_map.mp he;exact c E hE
  ·rintro ⟨a,c⟩;exact ⟨a,fun E hE=>c E.1 (List.mem_map_of_mem hE)⟩
 ·obtain ⟨E,hE,rfl⟩:=List.mem_map.mp he;exact ⟨ok.l1 E hE,ok.b1 E hE⟩
theorem Sol.fixedB{n m b:Nat}{Es:List Eqn}{s:Stt}(I:Sol n m Es s)(ok:EqOk n m b Es)(hn:n<=6){f:Vec}(hf:f∈s.fixed):Bts (VB6 b) f:=by
 have Kn:=I.kern ok;obtain ⟨k,hk⟩:=List.mem_iff_getElem?.mp hf;have hl:=I.fn f hf;have g:=Kn.grow (l:=3) (by show n+1<=8;omega) (x:=zA f) (c:=fun e=> -(dt (zA f) e)) (z:=1) (B:=ub n 0 b) (fun i hi=>yE (by omega)) (fun e he=>by omega) (fun e he=>by
  obtain ⟨E,hE,rfl⟩:=List.mem_map.mp he;have:=I.fx k f hk E hE;have e2: -(dt (zA f) E.1)=zA E.2 k:=by omega
  show Bt b (-(dt (zA f) E.1));rw [e2];exact ok.b2 E hE k) Bt.one (fun r hr=>by
  have:=I.fr f hf r hr;exact zEp (Kn.pivot hr) (by omega) (by omega))
 have u0:ub n 0 b<=ub n 3 b:=zBo (zOs 3) (zOh n) (zOh b);have:=zKx (b:=b) hn;unfold VV at this;exact fun i=>(g i).mono (by omega)
structure Run(n m b:Nat)(Es:List Eqn)(j:Nat)(s:Stt):Prop where
 jl:j<=Es.length
 sol:Sol n m (Es.take j) s
 chn:Chn n (whole Es) s.spent.reverse (Sp s.steps)
 sp: ∀x∈s.spent,x.1<j/\0<x.2.2/\x.2.1.length=n/\Bts (VB6 b) x.2.1/\Bt (VB6 b) x.2.2
 sl:s.spent.length<=j
theorem Run.start(n m b:Nat)(Es:List Eqn):Run n m b Es 0 (zAq n m):=⟨zOs _,zJa n m,zKJ n m _,fun x hx=>(nomatch hx),zOh _⟩
theorem EqOk.take{n m b:Nat}{Es:List Eqn}(ok:EqOk n m b Es)(j:Nat):EqOk n m b (Es.take j):=⟨fun E h=>ok.l1 E (List.mem_of_mem_take h),fun E h=>ok.l2 E (List.mem_of_mem_take h),fun E h=>ok.b1 E (List.mem_of_mem_take h),fun E h=>ok.b2 E (List.mem_of_mem_take h)⟩
theorem Run.partOk{n m b j:Nat}{Es:List Eqn}{s:Stt}{E:Eqn}(R:Run n m b Es j s)(ok:EqOk n m b Es)(hn:n<=6)(hE:E∈Es):PartOk (VB6 b) E.1 s.steps:=by
 have p:=zMM (l:=3) (R.sol.kern (ok.take j)) R.sol.red ⟨ok.l1 E hE,ok.b1 E hE⟩ (by show n+1<=8;omega);have v:=zKx (b:=b) hn;exact ⟨p.eq.mono v,fun q hq=>(p.s q hq).mono v,fun S' h q hq=>(p.k S' h q hq).mono v,fun S' h=>(p.v S' h).mono v,fun S' h=>(p.r S' h).mono v⟩
theorem Run.next{n m b j:Nat}{Es:List Eqn}{s:Stt}{E:Eqn}(R:Run n m b Es j s)(ok:EqOk n m b Es)(hn:n<=6)(hE:Es[j]?=some E)(hf:zBM E s=true):Run n m b Es (j+1) (take j E s):=by
 have hj:j<Es.length:=(List.getElem?_eq_some_iff.mp hE).1;have hm:=zPH hE;have et:Es.take (j+1)=Es.take j++ [E] :=by rw [zPA,hE];rfl
 have pk:=R.partOk ok hn hm;have P:=zw (e:=E.1) R.sol.ech;refine ⟨hj,by rw [et];exact zKd R.sol (ok.l2 E hm) hf,R.chn.take R.sol (by rw [zAU hE,<-ok.l1 E hm];simp),fun x hx=>?_,?_⟩
 ·unfold FrV.take at hx;simp only at hx;split at hx
  ·have:=R.sp x hx;exact ⟨by omega,this.2⟩
  ·rename_i h0
   rcases List.mem_append.mp hx with z | z
   ·have:=R.sp x z;exact ⟨by omega,this.2⟩
   ·rw [List.mem_singleton.mp z];have hr:0<(part E.1 s.steps).2.2:=by have:=P.r0;omega
    exact ⟨Nat.lt_succ_self j,hr,P.len hr,pk.v _ List.suffix_rfl,pk.r _ List.suffix_rfl⟩
 ·have:=R.sl;unfold FrV.take;simp only;split
  ·omega
  ·simp;omega
theorem zGQ{n m b:Nat}{Es:List Eqn}(ok:EqOk n m b Es)(hn:n<=6): ∀(r:List Eqn) (j:Nat) (s:Stt),Run n m b Es j s->Es.drop j=r->
  match zAZ n (whole Es) Es.length j r s with
  | .inl s'=>Run n m b Es Es.length s'
  | .inr (f,d)=> ∃k,k<m/\Clash n k Es.length (whole Es) f d
 | [],j,s,R,h=>by
  have:j=Es.length:=by
   have:=List.drop_eq_nil_iff.mp h;have:=R.jl;omega
  rw [zAZ];simp only;rw [<-this];exact R
 | E::r,j,s,R,h=>by
  have hE:Es[j]?=some E:=by
   have:=congrArg (fun l=>l[0]?) h;simpa using this
  have hj:j<Es.length:=(List.getElem?_eq_some_iff.mp hE).1;have hm:=zPH hE;have hd:Es.drop (j+1)=r:=by
   rw [<-List.drop_drop,h];rfl
  cases hf:zBM E s with
  | true=>
   rw [zEG hf];exact zGQ ok hn r (j+1) _ (R.next ok hn hE hf) hd
  | false=>
   rw [zEA hf];simp only;obtain ⟨k,F,hF,I⟩:=zDt (len:=Es.length) (q:=whole Es) (j:=j) R.sol (ok.l2 E hm) (ok.l1 E hm) (zAU hE) hj hf;have hkm:k<m:=by
    have:=(List.getElem?_eq_some_iff.mp hF).1;have:=R.sol.fl;omega
   obtain ⟨L',hL',I'⟩:=zFK (ss:=s.spent.reverse) R.chn I (fun x hx=>by
    obtain ⟨x1,_⟩:=R.sp x (List.mem_reverse.mp hx);have hx':x.1<Es.length:=by omega
    have eE:Es[x.1]?=some Es[x.1] :=zOd hx';have hEm:=zPI hx';refine ⟨hx',by rw [zAU eE];simp [ok.l1 _ hEm,ok.l2 _ hEm],?_⟩;have:=R.sol.fx k F hF Es[x.1] (by
     refine zPH (i:=x.1) ?_;rw [List.getElem?_take,if_pos x1,eE])
    rw [zAU eE];have t1:(Es[x.1].1++Es[x.1].2).take n=Es[x.1].1:=by rw [<-ok.l1 _ hEm];simp
    have t2:zA (Es[x.1].1++Es[x.1].2) (n+k)=zA Es[x.1].2 k:=by
     simp only [zA,List.getD_eq_getElem?_getD];rw [List.getElem?_append_right (by rw [ok.l1 _ hEm];omega)];congr 2;rw [ok.l1 _ hEm];omega
    rw [t1,t2];exact this)
   exact ⟨k,hkm,(Clash.of I' hL' (fun i hi=>yE (by rw [R.sol.fn F (zPH hF)];exact hi))).short.1⟩
structure ClB(M:Nat)(c:Cl):Prop where
 f:Bts M c.fac
 t:Bts M c.tot
 m:Bt M c.mod
 m0:0<=c.mod
theorem zOC{M:Nat}{z m:Int}(hz:Bt M z)(hm:0<=m):Bt M (lo z m)\/(0<m/\(lo z m).natAbs<=m.natAbs):=by
 unfold lo;split
 ·exact .inl hz
 ·have h1:=zOv z (b:=m) (by omega);have h2:=zOp z (b:=m) (by omega);exact .inr ⟨by omega,by omega⟩
theorem zCd{M:Nat}{z m:Int}(hz:Bt M z)(hm:0<=m)(bm:Bt M m):Bt M (lo z m):=by
 rcases zOC hz hm with h |⟨_,h⟩
 ·exact h
 ·exact bm.le h
end FrV
namespace Fr
open PySem PySem.Spec PyProof.Rows L2 FrM FrV
section
variable {P:Program}{w:World}{K:zPS}{mg:Str->Option Value}{base:Heap}
def zGI(CS CP CL:Addr):Sp:=fun vs H Q _=> ∃(o pl:Addr) (n:Nat) (st:Stt),vs= [.ref o] /\SoO CS CP CL H o pl n st/\n<=1000/\st.steps.length<=500/\st.fixed.length<=500/\(∀q∈st.steps,q.2.length=n)/\(∀f∈st.fixed,f.length=n)/\
 ∀r H',zC H H'->LL H' r (zg (st.steps.map (·.2)++st.fixed) n)->Q (.ref r) H'
theorem zMU:FnScope ["self"] ["self"] (zI (zy (top 21) 2)):=⟨rfl,rfl,rfl,by decide+kernel,rfl,by decide+kernel,by decide+kernel⟩
theorem zMN{f fW CS CP CL:Addr}{fd fdW:FuncData}(F:Fun K "rows_told" "Solution.rows_told" (zy (top 21) 2) f fd)(B:Bn mg)(T:LC K CL)(TS:SC K CS)
  (FW:Fun K "rows_of" "rows_of" zDn fW fdW) (bW:zO K fdW ["vectors","count"] []) (mW:mg "rows_of" =some (.ref fW)) (GW:FnOk P w K mg base CX0 1 fW fdW ["vectors","count"] zEn):FnOk P w K mg base CX0 2 f fd ["self"] (zGI CS CP CL):=by
 refine F.ok zMU (fun vs H Q E h=>?_) (fun cdv A outer s H vs Q E hr h=>?_)
 ·obtain ⟨o,pl,n,st,rfl,_⟩:=h;rfl
 ·obtain ⟨o,pl,n,st,rfl,⟨dx,sl,fl,os,eo,⟨ss,esl,hss⟩,⟨as,efl,has⟩,epl,hos⟩,hn,l1,l2,n1,n2,q⟩:=h;have hr1:Room 1 _:=hr;have ls:=Paired.len hss;have la:=Paired.len has;refine ⟨_,QB.out (zJ
   (zZ (zK GW hr1 rfl mW FW.kp bW .nil zL (qc (zAp (ze (cl:= []) ["step"] [] [] rfl (zm (K:=K) rfl (zo (K:=K) rfl (qw 0 rfl) rfl)) rfl (by decide+kernel) rfl (by decide+kernel) (fun _ _ h=>nomatch h) rfl (fun j y i h=>nomatch h) (zN rfl) (fun _ _ _ _=>(zH 0 (show (["step"] :List Str).Nodup by decide+kernel) rfl (.inl rfl) (.inr rfl))) (fun _ _ _ _=>zc) (fun _ _ _ _=>(zo (K:=K) rfl (qw 0 rfl) rfl)) (fun _=>rfl)) (zo (K:=K) rfl (qw 0 rfl) rfl)) (qc (zo (K:=K) rfl (qw 0 rfl) rfl) zD rfl) rfl) rfl rfl rfl))),?_⟩
  refine ⟨_,rfl,o,CL,dx,_,_,rfl,eo,T.cl,T.n2,rfl,sl,rfl,⟨_,SqL.of esl⟩,fun D hD=>?_⟩;refine zU ss.length (fun i ys H'=> ∃vs:List Addr,i<=ss.length/\ys=vs.map V.ref/\vs.length=i/\LIs H vs ((st.steps.map (·.2)).take i)/\H'=L2.upd H D (.lst ys)) ⟨[],zOs _,rfl,rfl,by rw [List.take_zero];exact .nil,rfl⟩ (by rw [zOo];omega) ?_ ?_ ?_
  ·rintro i ys H' hi ⟨vs,_,rfl,hl,_,rfl⟩;have e2:=zC.upd hD (o:= .lst (vs.map V.ref)) _ _ esl;exact ⟨by simp;omega,zB,fun h=>⟨_,_,SqL.of e2,zOd (by simpa using h)⟩,fun h=>⟨_,SqL.of e2,by simp;omega⟩⟩
  ·rintro i ys H' x H'' hi ⟨vs,_,rfl,hl,hvs,rfl⟩ ⟨rfl,hx⟩ pre hpre;obtain ⟨p0,rfl⟩:=yX hpre;have e2:=zC.upd hD (o:= .lst (vs.map V.ref));have hx':=hx _ (SqL.of (e2 _ _ esl));rw [zOi,zOd hi] at hx';cases hx';obtain ⟨⟨p,u⟩,eS,⟨dx',a,ho,hu⟩⟩:=Paired.get' hss (zOd hi);refine ⟨⟨[some (.ref ss[i])],rfl,rfl⟩,yC ?_⟩;refine ⟨_,rfl,ss[i],CS,dx',_,_,rfl,e2 _ _ ho,TS.cl,TS.n2,rfl,zB,vs++ [a],hi,by simp,by simp [hl],?_,by rw [zx]⟩;rw [zPA,zOi,eS];exact Paired.snoc' hvs hu
  ·rintro ys H' ⟨vs,_,rfl,hl,hvs,rfl⟩;rw [List.take_of_length_le (by simp;omega)] at hvs;have sD:=zC.upd hD (o:= .lst (vs.map V.ref));have eD:(L2.upd H D (.lst (vs.map V.ref))) D=_:=zB;refine ⟨_,rfl,o,CL,dx,_,_,rfl,sD _ _ eo,T.cl,T.n3,rfl,D,fl,_,_,rfl,rfl,eD,sD _ _ efl,by rw [zOo];simp;omega,fun p hp=>?_⟩;have sp:=zC.upd hp (o:= .lst (vs.map V.ref++as.map V.ref));have s2:=sD.trans sp;refine ⟨_,rfl,o,CL,dx,_,_,rfl,s2 _ _ eo,T.cl,T.n1,rfl,p,_,n,rfl,⟨vs++as,by rw [zB,zOz],LIs.same (Paired.app hvs has) s2⟩,fun u hu=>?_,hn,by simp;omega,fun r H3 s3 _ h3=>q r H3 (s2.trans s3) h3⟩;rcases List.mem_append.mp hu with z | z
   ·obtain ⟨q',hq',rfl⟩:=List.mem_map.mp z;exact n1 q' hq'
   ·exact n2 u z
def zGf(CS CP CL:Addr):Sp:=fun vs H Q _=> ∃n m:Nat,vs= [.int (n:Int),.int (m:Int)] /\n<=1000/\m<=1000/\ ∀o pl H',zC H H'->H o=none->H pl=none->SoO CS CP CL H' o pl n (zAq n m)->Q (.ref o) H'
theorem zJH:FnScope ["unknowns","names","steps"] ["unknowns","names"] (zI zEe):=⟨rfl,rfl,rfl,by decide+kernel,rfl,by decide+kernel,by decide+kernel⟩
theorem zFW(n:Nat):(List.replicate (n:Int).toNat [V.int 0]).flatten=(List.replicate n (0:Int)).map V.int:=by
 rw [Int.toNat_natCast]
 induction n with
 | zero=>rfl
 | succ n ih=>rw [List.replicate_succ,List.flatten_cons,ih,List.replicate_succ];rfl
theorem zLa{f fA fS fI CS CP CL:Addr}{fd fdA fdS fdI:FuncData}(F:Fun K "open_solution" "open_solution" zEe f fd)(B:Bn mg)(T:LC K CL)(TS:SC K CS)
  (FA:Fun K "one_at" "one_at" zFC fA fdA) (bA:zO K fdA ["place","length"] []) (mA:mg "one_at" =some (.ref fA)) (GA:FnOk P w K mg base CX0 1 fA fdA ["place","length"] zFu)
  (bS:zO K fdS ["self","place","vector"] []) (MS:Mk K CS fS) (mS:mg "Step" =some (.ref CS)) (GS:FnOk P w K mg base CX0 1 fS fdS ["self","place","vector"] (zBQ CS))
  (bLs:zO K fdI ["self","unknowns","steps","fixed"] []) (MLs:Mk K CL fI) (mLs:mg "Solution" =some (.ref CL)) (GLs:FnOk P w K mg base CX0 1 fI fdI ["self","unknowns","steps","fixed"] (zGr CL)):FnOk P w K mg base CX0 3 f fd ["unknowns","names"] (zGf CS CP CL):=by
 refine F.ok zJH (fun vs H Q E h=>?_) (fun cdv A outer s H vs Q E hr h=>?_)
 ·obtain ⟨n,m,rfl,_⟩:=h;rfl
 ·obtain ⟨n,m,rfl,hn,hm,q⟩:=h;have hr1:Room 1 _:=hr.mono (by decide);have hr2:Room 2 _:=hr;refine ⟨_,QB.out (zE
   (zAh yq 2 (by exact zJH.nd) rfl (Or.inl rfl) (.inr rfl) ["place"] ["unknowns"] [0] rfl (yj rfl B.range (qc (qx 0 rfl) zD rfl) rfl) rfl (by decide+kernel) rfl (by decide+kernel) (zQ rfl ye) rfl (fr1 ⟨rfl,rfl,rfl,_,rfl,rfl⟩) (zN rfl) (fun _ _ _ _=>(zH 0 (show (["place","unknowns"] :List Str).Nodup by decide+kernel) rfl (.inl rfl) (.inr rfl))) (fun _ _ _ _=>zc) (fun C s₂ H₂ fp xe E hp=>(zBw MS GS (hr2.mono (by decide)) rfl mS bS .nil zL (qc (qw 0 rfl) (qc (zK GA hr1 rfl mA FA.kp bA .nil zL (qc (qw 0 rfl) (qc (qx 1 rfl) zD rfl) rfl) rfl rfl rfl) zD rfl) rfl) rfl rfl rfl)) (fun _=>rfl) rfl) (zJ
   (zZ (zBw MLs GLs (hr2.mono (by decide)) rfl mLs bLs .nil zL (qc (qx 0 rfl) (qc (qw 2 rfl) (qc (ze ["name"] ["unknowns"] [0] rfl (yj rfl B.range (qc (qw 1 rfl) zD rfl) rfl) rfl (by decide+kernel) rfl (by decide+kernel) (zQ rfl ye) rfl (fr1 ⟨rfl,rfl,rfl,_,rfl,rfl⟩) (zN rfl) (fun _ _ _ _=>(zH 0 (show (["name","unknowns"] :List Str).Nodup by decide+kernel) rfl (.inl rfl) (.inr rfl))) (fun _ _ _ _=>zc) (fun _ _ _ _=>(zIK (zAB (qc zF zD rfl)) (qx 1 rfl))) (fun _=>rfl)) zD rfl) rfl) rfl) rfl rfl rfl)))),?_⟩
  refine ⟨_,rfl,n,rfl,by omega,by omega,fun D hD=>?_⟩;refine zU n (fun i ys H'=> ∃os:List Addr,i<=n/\ys=os.map V.ref/\os.length=i/\StA CS H' os (((List.range n).map fun p=>(p,zT p n)).take i)/\zC H H'/\H' D=some (.lst ys)) ⟨[],zOs _,rfl,rfl,by rw [List.take_zero];exact .nil,zC.upd hD,zB⟩ (by rw [zOo];omega) ?_ ?_ ?_
  ·rintro i ys H' hi ⟨os,_,rfl,hl,_,s1,e1⟩;exact ⟨by simp;omega,e1,fun h=>h,fun h=>Nat.le_of_eq h.symm⟩
  ·rintro i ys H' x H'' hi ⟨os,_,rfl,hl,hos,s1,e1⟩ ⟨rfl,hx⟩ pre hpre;obtain ⟨p0,rfl⟩:=yX hpre;rw [Int.zero_add] at hx;subst hx;refine ⟨⟨[some (.int (i:Int))],rfl,rfl⟩,yC ?_⟩;refine ⟨_,rfl,_,rfl,_,rfl,i,n,rfl,hn,fun l H2 s2 _ hl2=>?_⟩;intro x dx hx hdx hne;have sx:zC H2 (L2.upd (L2.upd (L2.upd H2 dx (.own x)) x (.ins CS dx [])) x (.ins CS dx [("place",.int (i:Int)),("vector",.ref l)])):=zC.store (zC.store (zC.upd hdx) hx) hx;have ex:(L2.upd (L2.upd (L2.upd H2 dx (.own x)) x (.ins CS dx [])) x (.ins CS dx [("place",.int (i:Int)),("vector",.ref l)])) x=some (.ins CS dx [("place",.int (i:Int)),("vector",.ref l)]):=zB;refine ⟨x,dx,_,_,rfl,zB,rfl,?_⟩;generalize L2.upd (L2.upd (L2.upd H2 dx (.own x)) x (.ins CS dx [])) x (.ins CS dx [("place",.int (i:Int)),("vector",.ref l)])=H3 at sx ex⊢;have s23:=s2.trans sx;have e3:=s23 _ _ e1;refine ⟨e3,os++ [x],hi,by simp,by simp [hl],?_,zC.store (s1.trans s23) hD,zB⟩;have hne: ∀p:Nat,zT p n≠ [] :=fun p z=>by have:=yQ p n;rw [z] at this;simp at this;omega
   rw [zPA,show ((List.range n).map fun p=>(p,zT p n))[i]?=some (i,zT i n) by simp [hi]];refine Paired.snoc' (StA.store (StA.same hos s23) (fun q hq=>?_) e3) (StO.store (q:=(i,zT i n)) ⟨dx,l,ex,hl2.same sx⟩ (hne i) e3);obtain ⟨p,_,rfl⟩:=List.mem_map.mp (List.mem_of_mem_take hq);exact hne p
  rintro ys H1 ⟨os,_,rfl,hl,hos,s1,e1⟩;rw [List.take_of_length_le (by simp)] at hos;refine ⟨_,rfl,_,rfl,_,rfl,m,rfl,by omega,by omega,fun D2 hD2=>?_⟩;refine zU m (fun i ys H'=> ∃as:List Addr,i<=m/\ys=as.map V.ref/\as.length=i/\D2∉as/\LIs H' as (List.replicate i (List.replicate n 0))/\zC H1 H'/\H' D2=some (.lst ys)) ⟨[],zOs _,rfl,rfl,by simp,.nil,zC.upd hD2,zB⟩ (by rw [zOo];omega) ?_ ?_ ?_
  ·rintro i ys H' hi ⟨as,_,rfl,hl,_,_,s2,e2⟩;exact ⟨by simp;omega,e2,fun h=>h,fun h=>Nat.le_of_eq h.symm⟩
  ·rintro i ys H' x H'' hi ⟨as,_,rfl,hl,hnd,has,s2,e2⟩ ⟨rfl,hx⟩ pre hpre;obtain ⟨p0,rfl⟩:=yX hpre;subst hx;refine ⟨⟨[some (.int ((0:Int)+(i:Int)))],rfl,rfl⟩,yC ?_⟩;refine ⟨bs 1,fun l hl'=>?_⟩;have sl:=zC.upd hl' (o:= .lst [.int 0]);refine ⟨_,rfl,l,_,_,rfl,rfl,zB,by omega,by omega,by rw [zOo];simp;omega,fun p hp=>?_⟩;rw [zFW];have sp:=sl.trans (zC.upd hp (o:= .lst ((List.replicate n (0:Int)).map V.int)));have hpD:p≠D2:=fun z=>by rw [z,sl _ _ e2] at hp;cases hp
   refine ⟨sp _ _ e2,as++ [p],hi,by simp,by simp [hl],by simp [hnd,Ne.symm hpD],?_,zC.store (s2.trans sp) hD2,zB⟩;rw [List.replicate_succ'];refine Paired.snoc' (Paired.mapM has fun a v hm ea=>?_) ?_
   ·show L2.upd _ D2 _ a=_;rw [zG fun z=>hnd (by rw [<-z];exact hm)];exact sp _ _ ea
   ·show L2.upd _ D2 _ p=_;rw [zG hpD];exact zB
  rintro ys H2 ⟨as,_,rfl,hl,_,has,s2,e2⟩;intro x dx hx hdx hne;have sx0:zC H2 (L2.upd (L2.upd H2 dx (.own x)) x (.ins CL dx [])):=zC.store (zC.upd hdx) hx;have ex0:(L2.upd (L2.upd H2 dx (.own x)) x (.ins CL dx [])) x=some (.ins CL dx []):=zB;refine ⟨x,dx,_,_,_,rfl,ex0,fun pl hpl=>⟨rfl,?_⟩⟩;have hpx:pl≠x:=fun z=>by rw [z,ex0] at hpl;cases hpl
  have hpl2:=zC.none sx0 hpl;have s3:zC H2 (L2.upd (L2.upd (L2.upd (L2.upd H2 dx (.own x)) x (.ins CL dx [])) pl (.lst [])) x (.ins CL dx [("unknowns",.int (n:Int)),("steps",.ref D),("fixed",.ref D2),("spent",.ref pl)])):=zC.store (sx0.trans (zC.upd hpl)) hx;have s13:=(s1.trans s2).trans s3;exact q x pl _ s13 (zC.none (s1.trans s2) hx) (zC.none (s1.trans s2) hpl2) ⟨dx,D,D2,[],zB,⟨os,(s2.trans s3) _ _ e1,StA.same hos (s2.trans s3)⟩,⟨as,s3 _ _ e2,LIs.same has s3⟩,by rw [zG hpx,zB];rfl,.nil⟩
def zGS:Sp:=fun vs H Q _=> ∃z m:Int,vs= [.int z,.int m] /\0<=m/\Bt 50000000 z/\Bt 50000000 m/\Q (.int (zAI z m)) H
theorem zJG:FnScope ["number","modulus","rest"] ["number","modulus"] (zI zEj):=⟨rfl,rfl,rfl,by decide+kernel,rfl,by decide+kernel,by decide+kernel⟩
theorem zLy{f fO:Addr}{fd fdO:FuncData}(F:Fun K "nearest" "nearest" zEj f fd)(FO:Fun K "left_over" "left_over" zCO fO fdO)(bO:zO K fdO ["number","modulus"] [])(mO:mg "left_over" =some (.ref fO))(GO:FnOk P w K mg base CX0 1 fO fdO ["number","modulus"] zCk):FnOk P w K mg base CX0 2 f fd ["number","modulus"] zGS:=by
 refine F.ok zJG (fun vs H Q E h=>?_) (fun cdv A outer s H vs Q E hr h=>?_)
 ·obtain ⟨z,m,rfl,_⟩:=h;rfl
 ·obtain ⟨z,m,rfl,hm,bz,bm,q⟩:=h;have hr1:Room 1 _:=hr;have bl:=zCd bz hm bm;refine ⟨_,QB.out (zE
   (zV 2 zJG.nd rfl (zK GO hr1 rfl mO FO.kp bO .nil zL (qc (qw 0 rfl) (qc (qw 1 rfl) zD rfl) rfl) rfl rfl rfl) rfl) (zJ
   (zZ (zEk (t_w (zDm (zf zAf (qw 1 rfl) zF rfl) (zDM (zf zAf (zAX zF (qw 2 rfl)) (qw 1 rfl) rfl)))) (zCM (qw 2 rfl) (qw 1 rfl)) (qw 2 rfl))))),?_⟩
  refine ⟨_,rfl,_,rfl,z,m,rfl,hm,?_⟩;refine ⟨_,rfl,_,_,rfl,rfl,_,rfl,?_⟩;unfold zAI at q;refine yl (fun c=>?_) (fun c=>?_)
  ·have c1:0<m:=by simpa using c
   refine ⟨_,rfl,_,_,rfl,rfl,⟨yr (Bt.one.add Bt.one:Bt 2 (1+1)) (by decide),yr bl (by decide)⟩,_,rfl,_,_,rfl,rfl,_,rfl,?_⟩;refine yl (fun c=>?_) (fun c=>?_)
   ·have c2:m<2*FrV.lo z m:=by simpa using c
    rw [if_pos ⟨c1,c2⟩] at q;exact ⟨_,rfl,_,rfl,_,_,rfl,rfl,q⟩
   ·have c2: ¬m<2*FrV.lo z m:=by simpa using c
    rw [if_neg (fun h=>c2 h.2)] at q;exact ⟨_,rfl,q⟩
  ·have c1: ¬0<m:=by simpa using c
   rw [if_neg (fun h=>c1 h.1)] at q;exact ⟨_,rfl,q⟩
end
section
variable {P:Program}{w:World}{K:zPS}{mg:Str->Option Value}{base:Heap}
def zFZ:Sp:=fun vs H Q _=> ∃(p:Addr) (f:Vec) (m:Int),vs= [.ref p,.int m] /\LI H p f/\f.length<=1000/\0<=m/\0<f.foldl yx m/\Bts 50000000 f/\Bt 50000000 m/\ ∀t l H',zC H H'->H' t=some (.tup [.ref l,.int (short f m).2])->LI H' l (short f m).1->Q (.ref t) H'
theorem zCi:FnScope ["factors","modulus","divisor","factor","least"] ["factors","modulus"] (zI zCb):=⟨rfl,rfl,rfl,by decide+kernel,rfl,by decide+kernel,by decide+kernel⟩
theorem zKL{f fG fN:Addr}{fd fdG fdN:FuncData}(F:Fun K "shortened" "shortened" zCb f fd)(B:Bn mg)(ht:P.given.tree=none)
  (FG:Fun K "common_divisor" "common_divisor" zFD fG fdG) (bG:zO K fdG ["above","below"] []) (mG:mg "common_divisor" =some (.ref fG)) (GG:FnOk P w K mg base CX0 1 fG fdG ["above","below"] zFr)
  (FN:Fun K "nearest" "nearest" zEj fN fdN) (bN:zO K fdN ["number","modulus"] []) (mN:mg "nearest" =some (.ref fN)) (GN:FnOk P w K mg base CX0 2 fN fdN ["number","modulus"] zGS):FnOk P w K mg base CX0 34 f fd ["factors","modulus"] zFZ:=by
 refine F.ok zCi (fun vs H Q E h=>?_) (fun cdv A outer s H vs Q E hr h=>?_)
 ·obtain ⟨p,f,m,rfl,_⟩:=h;rfl
 ·obtain ⟨p,f',m,rfl,hp,hn,hm,hd,bf,bm,q⟩:=h;have deep:DeepE (zAx CX0 P w K mg base ["factors","modulus","divisor","factor","least"] "shortened" (zI zCb) f cdv A outer s H E):=zAu hr (by decide) ht rfl rfl;have hr1:Room 1 _:=hr.mono (by decide);have hr2:Room 2 _:=hr.mono (by decide);refine ⟨_,QB.out (zE
   (yY 2 zCi.nd rfl (Or.inr rfl) (qw 1 rfl) rfl (.inl rfl)) (zE
   (zAA PassesOwn.never rfl (zm (K:=K) rfl (qw 0 rfl)) (zH 3 zCi.nd rfl (Or.inl rfl) (.inr rfl)) (zJ
    (yW (zf zAr (qw 3 rfl) zF rfl) (zJ
     (yY 2 zCi.nd rfl (Or.inr rfl) (zEk (zf zAn (qx 2 rfl) zF rfl) (yP zGn rfl B.abs zJV (qc (qw 3 rfl) zD rfl) rfl) (zK GG hr1 rfl mG FG.kp bG .nil zL (qc (qw 3 rfl) (qc (qx 2 rfl) zD rfl) rfl) rfl rfl rfl)) rfl (.inl rfl))) yS)) (fun _=>rfl)) (zE
   (yY 4 zCi.nd rfl (Or.inr rfl) (yo (deep.up rfl rfl rfl) (qw 1 rfl) (qx 2 rfl)) rfl (.inl rfl)) (zJ
   (zZ (zAm (qc (ze ["factor"] ["divisor","least"] [2,4] rfl (zm (K:=K) rfl (qw 0 rfl)) rfl (by decide+kernel) rfl (by decide+kernel) (zQ rfl (zQ rfl ye)) rfl (fr2 ⟨rfl,rfl,rfl,_,rfl,rfl⟩ ⟨rfl,rfl,rfl,_,rfl,rfl⟩) (zN rfl) (fun _ _ _ _=>(zH 0 (show (["factor","divisor","least"] :List Str).Nodup by decide+kernel) rfl (.inl rfl) (.inr rfl))) (fun _ _ _ _=>zc) (fun _ _ _ _=>(zK GN hr2 rfl mN FN.kp bN .nil zL (qc (yo (deep.up rfl rfl rfl) (qw 0 rfl) (qx 1 rfl)) (qc (qx 2 rfl) zD rfl) rfl) rfl rfl rfl)) (fun _=>rfl)) (qc (qx 4 rfl) zD rfl) rfl))))))),?_⟩
  refine ⟨_,rfl,_,rfl,p,rfl,⟨_,SqL.of hp⟩,?_⟩;refine yd f'.length (fun i σ H'=> ∃s3:Option V,σ= [some (.ref p),some (.int m),some (.int ((f'.take i).foldl yx m)),s3,none] /\i<=f'.length/\H'=H) ⟨none,rfl,zOs _,rfl⟩ ?_ ?_ ?_ ?_
  ·rintro i σ H' hi ⟨s3,rfl,_,rfl⟩;exact ⟨_,_,SqL.of hp,zS hi⟩
  ·rintro σ H' ⟨s3,rfl,_,rfl⟩;exact ⟨_,SqL.of hp,by simp⟩
  ·rintro i σ H' x H'' hi ⟨s3,rfl,_,rfl⟩ ⟨rfl,hx⟩;have hx':=hx _ (SqL.of hp);rw [zS hi] at hx';cases hx';have ed:(f'.take (i+1)).foldl yx m=yx ((f'.take i).foldl yx m) (zA f' i):=by rw [zBm hi,List.foldl_append];rfl
   have d0:0<=(f'.take i).foldl yx m:=(zFU (f'.take i) hm).1;generalize (f'.take i).foldl yx m=d at ed d0⊢;refine ⟨_,rfl,rfl,_,rfl,?_⟩;rw [show yx d (zA f' i)=(if zA f' i=0 then d else if d=0 then ((zA f' i).natAbs:Int) else (Int.gcd (zA f' i) d:Int)) from rfl] at ed;refine yl (fun c=>?_) (fun c=>?_)
   ·have c0:zA f' i≠0:=by simpa using c
    rw [if_neg c0] at ed;refine ⟨_,rfl,rfl,_,rfl,?_⟩;refine yl (fun c=>?_) (fun c=>?_)
    ·have c1:d=0:=by simpa using c
     rw [if_pos c1] at ed;refine ⟨_,rfl,_,rfl,⟨some (.int (zA f' i)),?_,hi,rfl⟩⟩;rw [ed];have:(if zA f' i<0 then -(zA f' i) else zA f' i)=((zA f' i).natAbs:Int):=by split<;>omega
     rw [<-this];rfl
    ·have c1:d≠0:=by simpa using c
     rw [if_neg c1] at ed;refine ⟨_,rfl,_,rfl,_,_,rfl,by omega,⟨some (.int (zA f' i)),?_,hi,rfl⟩⟩;rw [ed];rfl
   ·have c0:zA f' i=0:=by simpa using c
    rw [if_pos c0] at ed;refine ⟨some (.int (zA f' i)),?_,hi,rfl⟩;rw [ed];rfl
  rintro σ H' ⟨s3,rfl,_,rfl⟩;rw [zPC];have e1:(short f' m).2=m/f'.foldl yx m:=rfl;have e2:(short f' m).1=f'.map fun x=>zAI (x/f'.foldl yx m) (m/f'.foldl yx m):=rfl;rw [e1,e2] at q;generalize f'.foldl yx m=d at hd q⊢;have hm2:0<=m/d:=Int.ediv_nonneg hm (Int.le_of_lt hd);have bm2:=Bt.div bm hd;refine ⟨_,rfl,_,rfl,_,_,rfl,rfl,hd,?_⟩;refine ⟨_,rfl,p,rfl,⟨_,SqL.of hp⟩,fun D hD=>?_⟩;refine zU f'.length (fun i ys H2=>i<=f'.length/\ys=((f'.map fun x=>zAI (x/d) (m/d)).take i).map V.int/\H2=L2.upd H' D (.lst ys)) ⟨zOs _,by simp,rfl⟩ (by rw [zOo];omega) ?_ ?_ ?_
  ·rintro i ys H2 hi ⟨_,rfl,rfl⟩;have e2:=hp.same (zC.upd hD (o:= .lst (((f'.map fun x=>zAI (x/d) (m/d)).take i).map V.int)));exact ⟨by simp;omega,zB,fun h=>⟨_,_,SqL.of e2,zS h⟩,fun h=>⟨_,SqL.of e2,by simp;omega⟩⟩
  ·rintro i ys H2 x H3 hi ⟨_,rfl,rfl⟩ ⟨rfl,hx⟩ pre hpre;obtain ⟨p0,rfl⟩:=yX hpre;have hx':=hx _ (SqL.of (hp.same (zC.upd hD (o:= .lst (((f'.map fun x=>zAI (x/d) (m/d)).take i).map V.int)))));rw [zS hi] at hx';cases hx';refine ⟨⟨[some (.int (zA f' i))],rfl,rfl⟩,yC ?_⟩;refine ⟨_,rfl,_,rfl,_,_,rfl,rfl,hd,_,rfl,_,_,rfl,hm2,Bt.div (bf i) hd,bm2,zB,hi,?_,by rw [zx]⟩;rw [zPA,zOi,zAN hi];simp
  ·rintro ys H2 ⟨_,rfl,rfl⟩;rw [List.take_of_length_le (by simp)];have sD:=zC.upd hD (o:= .lst ((f'.map fun x=>zAI (x/d) (m/d)).map V.int));refine ⟨_,rfl,by show 2<=sizeLine;decide,fun t ht=>?_⟩;have st:=zC.upd ht (o:= .tup [.ref D,.int (m/d)]);exact q t D _ (sD.trans st) zB (st _ _ zB)
theorem zMV{n m len M V':Nat}{q:Nat->Vec}{s:Spt}{c:Cl}(h:ClB M c)(lf:c.fac.length=len)(lt:c.tot.length=n+m)(hn:n<=12)(hq:(q s.1).length=n+m)(bq:Bts V' (q s.1))(hr:0<s.2.2)(bv:Bts V' s.2.1)(br:Bt V' s.2.2)(hM:V'<=M):
  ClB (M+3*V'+6) (turn n q len s c)/\(turn n q len s c).fac.length=len/\(turn n q len s c).tot.length=n+m:=by
 have bown:Bt (M+V'+4) (FrV.lo (dt (zA s.2.1) (c.tot.take n)) c.mod):=by
  refine zCd ?_ h.m0 (h.m.mono (by omega));have:=zDp (a:=V') (b:=M) (c.tot.take n) (zA s.2.1) 4 (by simp;omega) bv (fun i=>by
   rw [zBr];split
   ·exact h.t i
   ·exact Bt.zero)
  exact this.mono (by omega)
 have hg:0<(Int.gcd (FrV.lo (dt (zA s.2.1) (c.tot.take n)) c.mod) s.2.2:Int):=by
  have:=Int.gcd_pos_of_ne_zero_right (FrV.lo (dt (zA s.2.1) (c.tot.take n)) c.mod) (show s.2.2≠0 by omega);omega
 have hgd:(Int.gcd (FrV.lo (dt (zA s.2.1) (c.tot.take n)) c.mod) s.2.2:Int)∣s.2.2:=Int.gcd_dvd_right _ _;unfold turn;simp only;generalize FrV.lo (dt (zA s.2.1) (c.tot.take n)) c.mod=own at*;have bs':Bt V' (s.2.2/(Int.gcd own s.2.2:Int)):=Bt.div br hg;have s0:0<=s.2.2/(Int.gcd own s.2.2:Int):=Int.ediv_nonneg (Int.le_of_lt hr) (Int.le_of_lt hg);generalize s.2.2/(Int.gcd own s.2.2:Int)=scale at*;have bt:Bt (M+2*V'+4) (-(own*scale/s.2.2)):=(Bt.div ((bown.mul bs').mono (by omega)) hr).neg;have b0:0<=c.mod*scale:=Int.mul_nonneg h.m0 s0;have bm:Bt (M+3*V'+6) (c.mod*scale):=(h.m.mul bs').mono (by omega);refine ⟨⟨fun i=>?_,fun i=>?_,bm,b0⟩,by rw [zBE,zY lf (yQ _ _)],by rw [zBE,zY lt hq]⟩
 ·rw [zCH,yL (by rw [lf,yQ])];refine zCd (Bt.mono (Bt.add (a:=M+2*V'+5) ((bs'.mul (h.f i)).mono (by omega)) ?_) (by omega)) b0 bm;rw [yh];split
  ·rw [Int.mul_one];exact bt.mono (by omega)
  ·rw [Int.mul_zero];exact Bt.zero
 ·rw [zCH,yL (by rw [lt,hq])];exact zCd (Bt.mono (Bt.add (a:=M+3*V'+5) ((bs'.mul (h.t i)).mono (by omega)) ((bt.mul (bq i)).mono (by omega))) (by omega)) b0 bm
theorem zHK{n m len V':Nat}{q:Nat->Vec}(hn:n<=12): ∀(ss:List Spt) (M:Nat) (c:Cl),ClB M c->c.fac.length=len->c.tot.length=n+m->V'<=M->(∀s∈ss,(q s.1).length=n+m/\Bts V' (q s.1)/\0<s.2.2/\Bts V' s.2.1/\Bt V' s.2.2)->
  ClB (M+ss.length*(3*V'+6)) (ss.foldl (fun c s=>turn n q len s c) c)/\(ss.foldl (fun c s=>turn n q len s c) c).fac.length=len/\(ss.foldl (fun c s=>turn n q len s c) c).tot.length=n+m
 | [],M,c,h,lf,lt,_,_=>⟨by simpa using h,lf,lt⟩
 | s::ss,M,c,h,lf,lt,hM,hs=>by
  obtain ⟨h1,h2,h3,h4,h5⟩:=hs s (by simp);obtain ⟨t1,t2,t3⟩:=zMV (m:=m) h lf lt hn h1 h2 h3 h4 h5 hM;obtain ⟨r1,r2,r3⟩:=zHK hn ss (M+3*V'+6) (turn n q len s c) t1 t2 t3 (by omega) fun s' hs'=>hs s' (by simp [hs']);rw [List.foldl_cons];refine ⟨?_,r2,r3⟩;have:M+(s::ss).length*(3*V'+6)=M+3*V'+6+ss.length*(3*V'+6):=by rw [List.length_cons,Nat.succ_mul];omega
  rw [this];exact r1
end
section
variable {P:Program}{w:World}{K:zPS}{mg:Str->Option Value}{base:Heap}
abbrev zBd(Es:List Eqn):List Vec:=Es.map fun E=>E.1++E.2
theorem zFf{Es:List Eqn}{j:Nat}(h:j<Es.length):(zBd Es)[j]?=some (whole Es j):=by
 rw [zOi,zOd h,zAU (zOd h)];rfl
structure CkOk(n m V':Nat)(Es:List Eqn)(st:Stt):Prop where
 nn:n<=12
 mm:m<=500
 le:Es.length<=500
 w: ∀j,j<Es.length->(whole Es j).length=n+m/\Bts V' (whole Es j)
 sp: ∀x∈st.spent,x.1<Es.length/\0<x.2.2/\x.2.1.length=n/\Bts V' x.2.1/\Bt V' x.2.2
 sl:st.spent.length<=12
def zEx(CS CP CL:Addr):Sp:=fun vs H Q _=> ∃(o pl l:Addr) (j n m V':Nat) (r:Int) (Es:List Eqn) (st:Stt),vs= [.ref o,.ref l,.int (j:Int),.int r] /\SoO CS CP CL H o pl n st/\LL H l (zBd Es)/\j<Es.length/\CkOk n m V' Es st/\V'<=1000000/\0<=r/\Bt V' r/\
 ∀t fl H',zC H H'->H' t=some (.tup [.ref fl,.int (st.spent.reverse.foldl (fun c s=>turn n (whole Es) Es.length s c) ⟨zT j Es.length,whole Es j,r⟩).mod])->LI H' fl (st.spent.reverse.foldl (fun c s=>turn n (whole Es) Es.length s c) ⟨zT j Es.length,whole Es j,r⟩).fac->
  ClB 40000000 (st.spent.reverse.foldl (fun c s=>turn n (whole Es) Es.length s c) ⟨zT j Es.length,whole Es j,r⟩)->Q (.ref t) H'
theorem zAJ:FnScope ["solution","equations","number","reach","factors","total","modulus","spent","own","scale","times"] ["solution","equations","number","reach"] (zI zCZ):=⟨rfl,rfl,rfl,by decide+kernel,rfl,by decide+kernel,by decide+kernel⟩
theorem zJh{f fA fO fR fK fG fT fM CS CP CL:Addr}{fd fdA fdO fdR fdK fdG fdT fdM:FuncData}(F:Fun K "clash_of" "clash_of" zCZ f fd)(B:Bn mg)(ht:P.given.tree=none)(T:LC K CL)(TP:PC K CP)
  (FA:Fun K "one_at" "one_at" zFC fA fdA) (bA:zO K fdA ["place","length"] []) (mA:mg "one_at" =some (.ref fA)) (GA:FnOk P w K mg base CX0 1 fA fdA ["place","length"] zFu)
  (FO:Fun K "left_over" "left_over" zCO fO fdO) (bO:zO K fdO ["number","modulus"] []) (mO:mg "left_over" =some (.ref fO)) (GO:FnOk P w K mg base CX0 1 fO fdO ["number","modulus"] zCk)
  (FR:Fun K "reach_of" "reach_of" zBu fR fdR) (bR:zO K fdR ["vector","marks"] []) (mR:mg "reach_of" =some (.ref fR)) (GR:FnOk P w K mg base CX0 1 fR fdR ["vector","marks"] zCl)
  (FK:Fun K "marks_of" "marks_of" zCj fK fdK) (bK:zO K fdK ["vector"] []) (mK:mg "marks_of" =some (.ref fK)) (GK:FnOk P w K mg base CX0 1 fK fdK ["vector"] zDo)
  (FG:Fun K "common_divisor" "common_divisor" zFD fG fdG) (bG:zO K fdG ["above","below"] []) (mG:mg "common_divisor" =some (.ref fG)) (GG:FnOk P w K mg base CX0 1 fG fdG ["above","below"] zFr)
  (FT:Fun K "all_left_over" "all_left_over" zDI fT fdT) (bT:zO K fdT ["vector","modulus"] []) (mT:mg "all_left_over" =some (.ref fT)) (GT:FnOk P w K mg base CX0 2 fT fdT ["vector","modulus"] zFB)
  (FM:Fun K "mixed" "mixed" zBI fM fdM) (bM:zO K fdM ["factor","one","other_factor","other"] []) (mM:mg "mixed" =some (.ref fM)) (GM:FnOk P w K mg base CX0 1 fM fdM ["factor","one","other_factor","other"] zBP):FnOk P w K mg base CX0 34 f fd ["solution","equations","number","reach"] (zEx CS CP CL):=by
 refine F.ok zAJ (fun vs H Q E h=>?_) (fun cdv A outer s H vs Q E hr h=>?_)
 ·obtain ⟨o,pl,l,j,n,m,V',r,Es,st,rfl,_⟩:=h;rfl
 ·obtain ⟨o,pl,l,j,n,m,V',r,Es,st,rfl,⟨dx,sl,fl,os,eo,hsl,hfl,epl,hos⟩,⟨as,el,has⟩,hj,ok,hV,r0,br,q⟩:=h;have deep:DeepE (zAx CX0 P w K mg base ["solution","equations","number","reach","factors","total","modulus","spent","own","scale","times"] "clash_of" (zI zCZ) f cdv A outer s H E):=zAu hr (by decide) ht rfl rfl;have hr1:Room 1 _:=hr.mono (by decide);have hr2:Room 2 _:=hr.mono (by decide);have nn:=ok.nn;have mm:=ok.mm;have lE:=ok.le;have sl12:=ok.sl;have la:as.length=Es.length:=by have:=Paired.len has;simpa using this
  have lo':=Paired.len hos;refine ⟨_,QB.out (zE
   (zV 4 zAJ.nd rfl (zK GA hr1 rfl mA FA.kp bA .nil zL (qc (qw 2 rfl) (qc (yP (yK (K:=K) rfl) rfl B.len yk (qc (qw 1 rfl) zD rfl) rfl) zD rfl) rfl) rfl rfl rfl) rfl) (zE
   (zV 5 zAJ.nd rfl (zk (K:=K) rfl (qw 1 rfl) (qw 2 rfl) (fun _ _=>rfl)) rfl) (zE
   (zV 6 zAJ.nd rfl (qw 3 rfl) rfl) (zE
   (zAA PassesOwn.never rfl (zIV (K:=K) rfl rfl B.reversed (qc (zo (K:=K) rfl (qw 0 rfl) rfl) zD rfl) rfl) (zH 7 zAJ.nd rfl (Or.inl rfl) (.inr rfl)) (zE
    (zV 8 zAJ.nd rfl (zK GO hr1 rfl mO FO.kp bO .nil zL (qc (zK GR hr1 rfl mR FR.kp bR .nil zL (qc (zo (K:=K) rfl (qw 7 rfl) rfl) (qc (zK GK hr1 rfl mK FK.kp bK .nil zL (qc (zAk (K:=K) rfl (qw 5 rfl) zAP (zAC (zo (K:=K) rfl (qw 0 rfl) rfl))) zD rfl) rfl rfl rfl) zD rfl) rfl) rfl rfl rfl) (qc (qw 6 rfl) zD rfl) rfl) rfl rfl rfl) rfl) (zE
    (zV 9 zAJ.nd rfl (yo (deep.up rfl rfl rfl) (zo (K:=K) rfl (qw 7 rfl) rfl) (zK GG hr1 rfl mG FG.kp bG .nil zL (qc (qw 8 rfl) (qc (zo (K:=K) rfl (qw 7 rfl) rfl) zD rfl) rfl) rfl rfl rfl)) rfl) (zE
    (zV 10 zAJ.nd rfl (yo (deep.up rfl rfl rfl) (zAX (qw 8 rfl) (qw 9 rfl)) (zo (K:=K) rfl (qw 7 rfl) rfl)) rfl) (zE
    (zV 6 zAJ.nd rfl (zAX (qw 6 rfl) (qw 9 rfl)) rfl) (zE
    (zV 5 zAJ.nd rfl (zK GT hr2 rfl mT FT.kp bT .nil zL (qc (zK GM hr1 rfl mM FM.kp bM .nil zL (qc (qw 9 rfl) (qc (qw 5 rfl) (qc (zBW (qw 10 rfl)) (qc (zk (K:=K) rfl (qw 1 rfl) (zo (K:=K) rfl (qw 7 rfl) rfl) (fun _ _=>rfl)) zD rfl) rfl) rfl) rfl) rfl rfl rfl) (qc (qw 6 rfl) zD rfl) rfl) rfl rfl rfl) rfl) (zJ
    (zV 4 zAJ.nd rfl (zK GT hr2 rfl mT FT.kp bT .nil zL (qc (zK GM hr1 rfl mM FM.kp bM .nil zL (qc (qw 9 rfl) (qc (qw 4 rfl) (qc (zBW (qw 10 rfl)) (qc (zK GA hr1 rfl mA FA.kp bA .nil zL (qc (zo (K:=K) rfl (qw 7 rfl) rfl) (qc (yP (yK (K:=K) rfl) rfl B.len yk (qc (qw 1 rfl) zD rfl) rfl) zD rfl) rfl) rfl rfl rfl) zD rfl) rfl) rfl) rfl) rfl rfl rfl) (qc (qw 6 rfl) zD rfl) rfl) rfl rfl rfl) rfl))))))) (fun _=>rfl)) (zJ
   (zZ (zAm (qc (qw 4 rfl) (qc (qw 6 rfl) zD rfl) rfl)))))))),?_⟩
  refine ⟨_,rfl,_,rfl,l,_,rfl,.inl (SqL.of el),j,Es.length,by rw [zOk,la];rfl,by omega,fun fa H1 s1 _ hfa=>?_⟩;obtain ⟨wj,ewj,hwj⟩:=Paired.getR has (zFf hj);refine ⟨_,rfl,_,rfl,l,_,_,_,rfl,rfl,SqL.of (s1 _ _ el),zh (by rw [zOi,ewj];rfl),?_⟩;refine ⟨_,rfl,?_⟩;refine ⟨_,rfl,o,CL,dx,_,_,rfl,s1 _ _ eo,T.cl,T.n4,rfl,pl,_,rfl,SqL.of (s1 _ _ epl),?_⟩;have hlen:(os.map V.ref).length=st.spent.length:=by simp;omega
  rw [hlen];have c0:ClB V' ⟨zT j Es.length,whole Es j,r⟩:=⟨fun i=>by
   show Bt V' (zA (zT j Es.length) i);rw [yh];split
   ·exact Bt.one
   ·exact Bt.zero,(ok.w j hj).2,br,r0⟩
  have hss: ∀s∈st.spent.reverse,(whole Es s.1).length=n+m/\Bts V' (whole Es s.1)/\0<s.2.2/\Bts V' s.2.1/\Bt V' s.2.2:=fun s hs=>by
   obtain ⟨z1,z2,z3,z4,z5⟩:=ok.sp s (List.mem_reverse.mp hs);exact ⟨(ok.w _ z1).1,(ok.w _ z1).2,z2,z4,z5⟩
  have bnd: ∀i,i<=12->V'+i*(3*V'+6)<=38000000:=fun i hi=>by
   have:=Nat.mul_le_mul_right (3*V'+6) hi;omega
  have turnsI: ∀i,i<=st.spent.length->ClB 38000000 ((st.spent.reverse.take i).foldl (fun c s=>turn n (whole Es) Es.length s c) ⟨zT j Es.length,whole Es j,r⟩)/\((st.spent.reverse.take i).foldl (fun c s=>turn n (whole Es) Es.length s c) ⟨zT j Es.length,whole Es j,r⟩).fac.length=Es.length/\((st.spent.reverse.take i).foldl (fun c s=>turn n (whole Es) Es.length s c) ⟨zT j Es.length,whole Es j,r⟩).tot.length=n+m:=fun i hi=>by
   obtain ⟨t1,t2,t3⟩:=zHK (m:=m) (V':=V') (len:=Es.length) (q:=whole Es) nn (st.spent.reverse.take i) V' ⟨zT j Es.length,whole Es j,r⟩ c0 (yQ _ _) (ok.w j hj).1 (zOh _) (fun s hs=>hss s (List.mem_of_mem_take hs));have b:=bnd (st.spent.reverse.take i).length (by simp;omega);exact ⟨⟨t1.f.mono b,t1.t.mono b,t1.m.mono b,t1.m0⟩,t2,t3⟩
  refine yd st.spent.length (fun i σ H'=> ∃(c:Cl) (fa ta:Addr) (s7 s8 s9 s10:Option V),c=(st.spent.reverse.take i).foldl (fun c s=>turn n (whole Es) Es.length s c) ⟨zT j Es.length,whole Es j,r⟩/\σ= [some (.ref o),some (.ref l),some (.int (j:Int)),some (.int r),some (.ref fa),some (.ref ta),some (.int c.mod),s7,s8,s9,s10] /\i<=st.spent.length/\zC H H'/\LI H' fa c.fac/\LI H' ta c.tot) ⟨_,fa,wj,none,none,none,none,rfl,rfl,zOs _,s1,hfa,hwj.same s1⟩ ?_ ?_ ?_ ?_
  ·rintro i σ H' hi ⟨c,fa,ta,s7,s8,s9,s10,hc,rfl,_,s2,hf,htt⟩;exact ⟨hi,_,_,SqL.of (s2 _ _ epl),zOd (by simp;omega)⟩
  ·rintro σ H' _;exact zOh _
  ·rintro i σ H' x H'' hi ⟨c,fa,ta,s7,s8,s9,s10,hc,rfl,_,s2,hf,htt⟩ ⟨rfl,hx⟩;have hx':=hx _ (SqL.of (s2 _ _ epl));have hjo:st.spent.length - 1 - i<os.length:=by omega
   rw [zOi,zOd hjo] at hx';cases hx';obtain ⟨⟨js,vec,rs⟩,eS,hso⟩:=Paired.get' hos (zOd hjo);obtain ⟨dx',va,eso,hva⟩:=hso;obtain ⟨z1,z2,z3,z4,z5⟩:=ok.sp (js,vec,rs) (zPH eS);simp only at z1 z2 z3 z4 z5;have eR:st.spent.reverse[i]?=some (js,vec,rs):=by rw [List.getElem?_reverse (by omega)];exact eS
   have eT:(st.spent.reverse.take (i+1)).foldl (fun c s=>turn n (whole Es) Es.length s c) ⟨zT j Es.length,whole Es j,r⟩=turn n (whole Es) Es.length (js,vec,rs) c:=by
    rw [zPA,eR,List.foldl_append,<-hc];rfl
   obtain ⟨tb,tf,tt⟩:=turnsI i (by omega);obtain ⟨tb',_⟩:=turnsI (i+1) hi;rw [<-hc] at tb tf tt;rw [eT] at tb';obtain ⟨ws,ews,hws⟩:=Paired.getR has (zFf z1);obtain ⟨wl,wb⟩:=ok.w js z1;have eo2:=s2 _ _ eo;have eso2:=s2 _ _ eso;refine ⟨_,rfl,os[st.spent.length - 1 - i],CP,dx',_,_,rfl,eso2,TP.cl,TP.n2,rfl,_,rfl,_,rfl,o,CL,dx,_,_,rfl,eo2,T.cl,T.n1,rfl,_,rfl,ta,_,rfl,SqL.of htt,fun p1 hp1=>?_⟩;rw [zCf (by omega)] at*;obtain ⟨H3,g3,s3,e3⟩:=zJd hp1 (.lst ((c.tot.take n).map V.int));rw [g3];refine ⟨p1,c.tot.take n,rfl,e3,by simp;omega,fun mk H4 s4 hmk=>?_⟩;have s34:=s3.trans s4;have btk:Bts 38000000 (c.tot.take n):=fun i=>by
    rw [zBr];split
    ·exact tb.t i
    ·exact Bt.zero
   refine ⟨va,mk,vec,c.tot.take n,rfl,(hva.same s2).same s34,hmk,by simp;omega,by omega,z4.mono (by omega),btk.mono (by omega),fun H5 s5=>?_⟩;have s35:=s34.trans s5;refine ⟨_,rfl,_,_,rfl,tb.m0,?_⟩;have etr:turn n (whole Es) Es.length (js,vec,rs) c=⟨los (zM (rs/(Int.gcd (FrV.lo (dt (zA vec) (c.tot.take n)) c.mod) rs:Int)) c.fac (-(FrV.lo (dt (zA vec) (c.tot.take n)) c.mod*(rs/(Int.gcd (FrV.lo (dt (zA vec) (c.tot.take n)) c.mod) rs:Int))/rs)) (zT js Es.length)) (c.mod*(rs/(Int.gcd (FrV.lo (dt (zA vec) (c.tot.take n)) c.mod) rs:Int))),los (zM (rs/(Int.gcd (FrV.lo (dt (zA vec) (c.tot.take n)) c.mod) rs:Int)) c.tot (-(FrV.lo (dt (zA vec) (c.tot.take n)) c.mod*(rs/(Int.gcd (FrV.lo (dt (zA vec) (c.tot.take n)) c.mod) rs:Int))/rs)) (whole Es js)) (c.mod*(rs/(Int.gcd (FrV.lo (dt (zA vec) (c.tot.take n)) c.mod) rs:Int))),c.mod*(rs/(Int.gcd (FrV.lo (dt (zA vec) (c.tot.take n)) c.mod) rs:Int))⟩:=rfl;have bown:Bt 40000000 (FrV.lo (dt (zA vec) (c.tot.take n)) c.mod):=by
    refine zCd ?_ tb.m0 (tb.m.mono (by omega));exact (zDp (c.tot.take n) (zA vec) 4 (by simp;omega) z4 btk).mono (by omega)
   generalize FrV.lo (dt (zA vec) (c.tot.take n)) c.mod=own at etr bown⊢;have hg:0<(Int.gcd own rs:Int):=by
    have:=Int.gcd_pos_of_ne_zero_right own (show rs≠0 by omega);omega
   have bsc:Bt V' (rs/(Int.gcd own rs:Int)):=Bt.div z5 hg;have sc0:0<=rs/(Int.gcd own rs:Int):=Int.ediv_nonneg (Int.le_of_lt z2) (Int.le_of_lt hg);have s25:=s2.trans s35;refine ⟨_,rfl,os[st.spent.length - 1 - i],CP,dx',_,_,rfl,s35 _ _ eso2,TP.cl,TP.n3,rfl,_,rfl,_,rfl,os[st.spent.length - 1 - i],CP,dx',_,_,rfl,s35 _ _ eso2,TP.cl,TP.n3,rfl,_,_,rfl,z2,_,_,rfl,rfl,hg,?_⟩;generalize rs/(Int.gcd own rs:Int)=scale at etr bsc sc0⊢;refine ⟨_,rfl,_,rfl,_,_,rfl,rfl,⟨yr bown (by decide),yr (b:=V') bsc (by omega)⟩,_,rfl,os[st.spent.length - 1 - i],CP,dx',_,_,rfl,s35 _ _ eso2,TP.cl,TP.n3,rfl,_,_,rfl,rfl,z2,?_⟩;have bti:Bt 41000000 (-(own*scale/rs)):=(Bt.div ((bown.mul bsc).mono (by omega)) z2).neg;refine ⟨_,rfl,_,rfl,_,_,rfl,rfl,⟨yr tb.m (by decide),yr (b:=V') bsc (by omega)⟩,?_⟩;have m0:0<=c.mod*scale:=Int.mul_nonneg tb.m0 sc0;refine ⟨_,rfl,_,rfl,_,rfl,_,rfl,_,rfl,_,rfl,os[st.spent.length - 1 - i],CP,dx',_,_,rfl,s35 _ _ eso2,TP.cl,TP.n1,rfl,l,_,_,_,rfl,rfl,SqL.of (s25 _ _ el),zh (by rw [zOi,ews];rfl),scale,-(own*scale/rs),ta,ws,c.tot,whole Es js,rfl,htt.same s35,hws.same s25,by omega,by omega,bsc.mono (by omega),bti.mono (by omega),tb.t.mono (by omega),wb.mono (by omega),fun mt H6 s6 _ hmt=>?_⟩;refine ⟨_,rfl,mt,_,_,rfl,hmt,by rw [zY tt wl];omega,m0,fun nt H7 s7 _ hnt=>?_⟩;have s27:=(s25.trans s6).trans s7;have s57:=s6.trans s7;refine ⟨_,rfl,_,rfl,_,rfl,_,rfl,_,rfl,os[st.spent.length - 1 - i],CP,dx',_,_,rfl,(s35.trans s57) _ _ eso2,TP.cl,TP.n1,rfl,_,rfl,l,_,rfl,.inl (SqL.of (s27 _ _ el)),js,Es.length,by rw [zOk,la];rfl,by omega,fun oa H8 s8 _ hoa=>?_⟩;refine ⟨scale,-(own*scale/rs),fa,oa,c.fac,zT js Es.length,rfl,(hf.same (s35.trans s57)).same s8,hoa,by rw [tf,yQ],by omega,bsc.mono (by omega),bti.mono (by omega),tb.f.mono (by omega),fun i=>?_,fun mf H9 s9 _ hmf=>?_⟩
   ·rw [yh];split
    ·exact Bt.one
    ·exact Bt.zero
   refine ⟨_,rfl,mf,_,_,rfl,hmf,by rw [zY tf (yQ _ _)];omega,m0,fun nf H10 s10 _ hnf=>?_⟩;have s710:=(s8.trans s9).trans s10;refine ⟨_,nf,nt,_,_,_,_,eT.symm,by rw [etr];rfl,hi,s27.trans s710,by rw [etr];exact hnf,by rw [etr];exact hnt.same s710⟩
  ·rintro σ H' ⟨c,fa,ta,s7,s8,s9,s10,hc,rfl,_,s2,hf,htt⟩;rw [List.take_of_length_le (by simp)] at hc;obtain ⟨tb,_⟩:=turnsI st.spent.length (zOh _);rw [List.take_of_length_le (by simp)] at tb;refine ⟨_,rfl,_,rfl,by show 2<=sizeLine;decide,fun t ht=>?_⟩;have stt:=zC.upd ht (o:= .tup [.ref fa,.int c.mod]);refine q t fa _ (s2.trans stt) (by rw [<-hc];exact zB) (by rw [<-hc];exact hf.same stt) ⟨tb.f.mono (by decide),tb.t.mono (by decide),tb.m.mono (by decide),tb.m0⟩
end
section
variable {P:Program}{w:World}{K:zPS}{mg:Str->Option Value}{base:Heap}
structure SvOk(n m b:Nat)(Es:List Eqn):Prop where
 ok:EqOk n m b Es
 nn:n<=6
 mm:m<=100
 le:Es.length<=12
 bb:b<=5000
theorem zMO{M:Nat}{z l:Int}(hz:Bt M z)(hl:Bt M l)(l0:0<=l):Bt M (zAI z l):=by
 have h:=zCd hz l0 hl;unfold zAI;split
 ·rename_i c
  have h1:=zOv z (b:=l) (by omega);have h2:=zOp z (b:=l) (by omega);have e:FrV.lo z l=z % l:=by unfold FrV.lo;rw [if_neg (by omega)]
  rw [e];exact hl.le (by omega)
 ·exact h
theorem zKK{M:Nat}{f:Vec}{m:Int}(hf:Bts M f)(hm:Bt M m)(m0:0<=m)(hd:0<f.foldl yx m):Bts M (short f m).1:=fun i=>by
 rw [show (short f m).1=f.map fun x=>zAI (x/f.foldl yx m) (m/f.foldl yx m) from rfl];show Bt M (((f.map fun x=>zAI (x/f.foldl yx m) (m/f.foldl yx m))[i]?).getD 0);rw [zOi];cases e:f[i]? with
 | none=>exact zOs _
 | some x=>
  have hx:Bt M x:=by have:=hf i;simpa [zA,e] using this
  exact zMO (Bt.div hx hd) (Bt.div hm hd) (Int.ediv_nonneg m0 (Int.le_of_lt hd))
def zFp(H:Hp)(Q:VK)(n m:Nat)(Es:List Eqn):Prop:=match zAZ n (whole Es) Es.length 0 Es (zAq n m) with
 | .inl st=> ∀t r H',zC H H'->H' t=some (.tup [.str "solved",.int (st.steps.length:Int),.ref r])->LL H' r (zg (st.steps.map (·.2)++st.fixed) n)->Q (.ref t) H'
 | .inr (f,d)=> ∀t fl H',zC H H'->H' t=some (.tup [.str "clash",.ref fl,.int d])->LI H' fl f->Bts 50000000 f->Q (.ref t) H'
def zIA:Sp:=fun vs H Q _=> ∃(l:Addr) (n m b:Nat) (Es:List Eqn),vs= [.int (n:Int),.int (m:Int),.ref l] /\LL H l (zBd Es)/\SvOk n m b Es/\zFp H Q n m Es
theorem zCx:FnScope ["unknowns","names","equations","solution","number","equation","reach","found","short"] ["unknowns","names","equations"] (zI zGC):=⟨rfl,rfl,rfl,by decide+kernel,rfl,by decide+kernel,by decide+kernel⟩
theorem zMP{b:Nat}{u v:Vec}(h1:Bts b u)(h2:Bts b v):Bts b (u++v):=fun i=>by
 by_cases h:i<u.length
 ·have:zA (u++v) i=zA u i:=by simp [zA,List.getElem?_append_left h]
  rw [this];exact h1 i
 ·have:zA (u++v) i=zA v (i - u.length):=by simp [zA,List.getElem?_append_right (show u.length<=i by omega)]
  rw [this];exact h2 _
theorem zHo{n:Nat}: ∀{S:List Stp} {a:Nat},Ech n S->(∀q∈S,a<=q.1)->S.length+a<=n\/S= []
 | [],_,_,_=> .inr rfl
 |(p,v)::S,a,⟨h1,h2,h3,h4,h5,h6⟩,ha=>by
  have hp:=ha (p,v) (by simp);simp only at hp;rcases zHo (a:=p+1) h6 (fun q hq=>h5 q hq) with h | h
  ·exact .inl (by simp only [List.length_cons];omega)
  ·subst h;exact .inl (by simp;omega)
theorem zIl{n:Nat}{S:List Stp}(h:Ech n S):S.length<=n:=by
 rcases zHo (a:=0) h (fun _ _=>zOs _) with h | h
 ·omega
 ·rw [h];exact zOs _
theorem zMs{f fU fC fH fT fW CS CP CL:Addr}{fd fdU fdC fdH fdT fdW:FuncData}(F:Fun K "solution_of" "solution_of" zGC f fd)(B:Bn mg)(T:LC K CL)
  (FU:Fun K "open_solution" "open_solution" zEe fU fdU) (bU:zO K fdU ["unknowns","names"] []) (mU:mg "open_solution" =some (.ref fU)) (GU:FnOk P w K mg base CX0 3 fU fdU ["unknowns","names"] (zGf CS CP CL))
  (FC:Fun K "clash_of" "clash_of" zCZ fC fdC) (bC:zO K fdC ["solution","equations","number","reach"] []) (mC:mg "clash_of" =some (.ref fC)) (GC:FnOk P w K mg base CX0 34 fC fdC ["solution","equations","number","reach"] (zEx CS CP CL))
  (FH:Fun K "shortened" "shortened" zCb fH fdH) (bH:zO K fdH ["factors","modulus"] []) (mH:mg "shortened" =some (.ref fH)) (GH:FnOk P w K mg base CX0 34 fH fdH ["factors","modulus"] zFZ)
  (mtT:Meth K CL "take_in" fT) (bT:zO K fdT ["self","number","equation"] []) (GT:FnOk P w K mg base CX0 36 fT fdT ["self","number","equation"] (zGv CS CP CL))
  (mtW:Meth K CL "rows_told" fW) (bW:zO K fdW ["self"] []) (GW:FnOk P w K mg base CX0 2 fW fdW ["self"] (zGI CS CP CL)):FnOk P w K mg base CX0 37 f fd ["unknowns","names","equations"] zIA:=by
 have cl:=T.cl;refine F.ok zCx (fun vs H Q E h=>?_) (fun cdv A outer s H vs Q E hr h=>?_)
 ·obtain ⟨l,n,m,b,Es,rfl,_⟩:=h;rfl
 ·obtain ⟨l,n,m,b,Es,rfl,⟨as,el,has⟩,ok,q⟩:=h;have hr2:Room 2 _:=hr.mono (by decide);have hr3:Room 3 _:=hr.mono (by decide);have hr34:Room 34 _:=hr.mono (by decide);have hr36:Room 36 _:=hr;have la:as.length=Es.length:=by have:=Paired.len has;simpa using this
  have nn:=ok.nn;have mm:=ok.mm;have lE:=ok.le;have bb:=ok.bb;have eo:=ok.ok;have hV:VB6 b<=1000000:=by unfold VB6;omega
  have hbV:b<=VB6 b:=by unfold VB6;omega
  refine ⟨_,QB.out (zE
   (zV 3 zCx.nd rfl (zK GU hr3 rfl mU FU.kp bU .nil zL (qc (qw 0 rfl) (qc (qw 1 rfl) zD rfl) rfl) rfl rfl rfl) rfl) (zE
   (zAA PassesOwn.never rfl (zGt (K:=K) rfl rfl B.enumerate (qc (qw 2 rfl) zD rfl) rfl) (zAt (K:=K) (n:=2) rfl rfl (yJ (zH 4 zCx.nd rfl (Or.inl rfl) (.inr rfl)) (yJ (zH 5 zCx.nd rfl (Or.inl rfl) (.inr rfl)) zAs rfl) rfl) rfl rfl) (zE
    (zV 6 zCx.nd rfl (zNK (qw 3 rfl) cl mtT GT hr36 bT .nil zL (qc (qw 4 rfl) (qc (qw 5 rfl) zD rfl) rfl) rfl rfl rfl) rfl) (zJ
    (yW (zJA (qw 6 rfl) rfl) (zE
     (zV 7 zCx.nd rfl (zK GC hr34 rfl mC FC.kp bC .nil zL (qc (qw 3 rfl) (qc (qw 2 rfl) (qc (qw 4 rfl) (qc (qw 6 rfl) zD rfl) rfl) rfl) rfl) rfl rfl rfl) rfl) (zE
     (zV 8 zCx.nd rfl (zK GH hr34 rfl mH FH.kp bH .nil zL (qc (yV (K:=K) rfl (qw 7 rfl) zF (fun _ _=>rfl)) (qc (yV (K:=K) rfl (qw 7 rfl) zF (fun _ _=>rfl)) zD rfl) rfl) rfl rfl rfl) rfl) (zJ
     (zZ (zAm (qc zIZ (qc (yV (K:=K) rfl (qw 8 rfl) zF (fun _ _=>rfl)) (qc (yV (K:=K) rfl (qw 8 rfl) zF (fun _ _=>rfl)) zD rfl) rfl) rfl)))))) yS))) (fun _=>rfl)) (zJ
   (zZ (zAm (qc zIZ (qc (yP (yK (K:=K) rfl) rfl B.len yk (qc (zo (K:=K) rfl (qw 3 rfl) rfl) zD rfl) rfl) (qc (zLs (qw 3 rfl) cl mtW GW hr2 bW .nil zL rfl) zD rfl) rfl) rfl)))))),?_⟩
  refine ⟨_,rfl,_,rfl,n,m,rfl,by omega,by omega,fun o pl H1 s1 ho hpl hso=>?_⟩;refine ⟨_,rfl,l,rfl,⟨_,SqL.of (s1 _ _ el)⟩,?_⟩;refine yd Es.length (fun i σ H'=> ∃(st:Stt) (s4 s5 s6 s7 s8:Option V),σ= [some (.int (n:Int)),some (.int (m:Int)),some (.ref l),some (.ref o),s4,s5,s6,s7,s8] /\zC H H'/\SoO CS CP CL H' o pl n st/\Run n m b Es i st/\zAZ n (whole Es) Es.length 0 Es (zAq n m)=zAZ n (whole Es) Es.length i (Es.drop i) st) ⟨_,none,none,none,none,none,rfl,s1,hso,Run.start n m b Es,rfl⟩ ?_ ?_ ?_ ?_
  ·rintro i σ H' hi ⟨st,s4,s5,s6,s7,s8,rfl,s2,hs,hR,hrun⟩;exact ⟨_,_,SqL.of (s2 _ _ el),zOd (by simp;omega)⟩
  ·rintro σ H' ⟨st,s4,s5,s6,s7,s8,rfl,s2,hs,hR,hrun⟩;exact ⟨_,SqL.of (s2 _ _ el),by simp;omega⟩
  ·rintro i σ H' x H'' hi ⟨st,s4,s5,s6,s7,s8,rfl,s2,hs,hR,hrun⟩ ⟨t,y,hy,ht,rfl,rfl⟩;have hy':=hy _ (SqL.of (s2 _ _ el));have hia:i<as.length:=by omega
   rw [zOi,zOd hia] at hy';cases hy';obtain ⟨wv,ew,hw⟩:=Paired.get' has (zOd hia);have hE:Es[i]?=some Es[i] :=zOd hi;have hEm:Es[i] ∈Es:=zPI hi;rw [zOi,hE] at ew;cases ew;have st2:=zC.upd ht (o:= .tup [.int (i:Int),.ref as[i]]);have s3:=s2.trans st2;have pk:=hR.partOk eo nn hEm;have tk:TkOk n m (VB6 b) Es[i] st:=⟨eo.l1 _ hEm,eo.l2 _ hEm,by omega,by omega,hR.sol.ech,zOr (zIl hR.sol.ech) (by omega),hR.sol.fl,fun f' hf=>⟨hR.sol.fn f' hf,hR.sol.fixedB (eo.take i) nn hf⟩,pk,(eo.b2 _ hEm).mono hbV,by have:=hR.sl;omega,fun x hx=>(hR.sp x hx).2.2.1⟩;have hd:Es.drop i=Es[i] ::Es.drop (i+1):=List.drop_eq_getElem_cons hi;refine ⟨t,_,rfl,SqT.of zB,rfl,_,_,rfl,_,_,rfl,rfl,?_⟩;obtain ⟨dx,sl,fl,os,eo',z2,z3,z4,z5⟩:=SoO.same hs st2;have hs3:SoO CS CP CL _ o pl n st:=⟨dx,sl,fl,os,eo',z2,z3,z4,z5⟩;refine ⟨_,rfl,o,dx,_,rfl,eo',rfl,_,rfl,_,rfl,o,pl,as[i],i,n,m,VB6 b,Es[i],st,rfl,hs3,hw.same s3,tk,by omega,fun hf H4 b4 hs4=>?_,fun hf H4 s4'=>?_⟩
   ·
    have s4':zC H H4:=But.same s3 b4 (by intro a ha;simp at ha;rcases ha with rfl | rfl;exact ho;exact hpl);refine ⟨_,rfl,_,rfl,zAR (by rfl) ?_⟩;refine ⟨_,_,_,_,_,_,rfl,s4',hs4,hR.next eo nn hE hf,?_⟩;rw [hrun,hd,zEG hf]
   ·
    have s5':=s3.trans s4';have hr0:0<=(FrV.part Es[i].1 st.steps).2.2:=(zw (e:=Es[i].1) hR.sol.ech).r0;have hrb:=pk.r _ List.suffix_rfl;have hck:CkOk n m (VB6 b) Es st:=⟨by omega,by omega,by omega,fun j hj=>by
     have hjm:Es[j] ∈Es:=zPI hj;rw [zAU (zOd hj)];exact ⟨by simp [eo.l1 _ hjm,eo.l2 _ hjm],(zMP (eo.b1 _ hjm) (eo.b2 _ hjm)).mono hbV⟩,fun x hx=>by
     obtain ⟨y1,y2⟩:=hR.sp x hx;exact ⟨by omega,y2⟩,by have:=hR.sl;omega⟩
    have hrs:=zGQ eo nn (Es.drop i) i st hR rfl;rw [hd,zEA hf] at hrs;obtain ⟨k,hk,hcl⟩:=hrs;rw [hd,zEA hf] at hrun;refine ⟨_,rfl,_,rfl,zEY (by rfl) ?_⟩;refine ⟨_,rfl,_,rfl,_,rfl,_,rfl,o,pl,l,i,n,m,VB6 b,_,Es,st,rfl,SoO.same hs3 s4',LL.same ⟨as,el,has⟩ s5',hi,hck,hV,hr0,hrb,fun t2 fa H5 s5 et2 hfa hcb=>?_⟩;have hC:st.spent.reverse.foldl (fun c s=>turn n (whole Es) Es.length s c) ⟨zT i Es.length,whole Es i,(FrV.part Es[i].1 st.steps).2.2⟩=zBf n (whole Es) Es.length i Es[i] st:=rfl;rw [hC] at et2 hfa hcb;have hcl0: ∃k,Clash n k Es.length (whole Es) (zBf n (whole Es) Es.length i Es[i] st).fac (zBf n (whole Es) Es.length i Es[i] st).mod:=by
     obtain ⟨k,Fv,hF,I⟩:=zDt (len:=Es.length) (q:=whole Es) (j:=i) hR.sol (eo.l2 _ hEm) (eo.l1 _ hEm) (zAU hE) hi hf;obtain ⟨L',hL',I'⟩:=zFK (ss:=st.spent.reverse) hR.chn I (fun x hx=>by
      obtain ⟨x1,_⟩:=hR.sp x (List.mem_reverse.mp hx);have hx':x.1<Es.length:=by omega
      have eE:Es[x.1]?=some Es[x.1] :=zOd hx';have hEm':=zPI hx';refine ⟨hx',(hck.w _ hx').1,?_⟩;have:=hR.sol.fx k Fv hF Es[x.1] (by
       refine zPH (i:=x.1) ?_;rw [List.getElem?_take,if_pos x1,eE])
      rw [zAU eE];have t1:(Es[x.1].1++Es[x.1].2).take n=Es[x.1].1:=by rw [<-eo.l1 _ hEm'];simp
      have t2:zA (Es[x.1].1++Es[x.1].2) (n+k)=zA Es[x.1].2 k:=by
       simp only [zA,List.getD_eq_getElem?_getD];rw [List.getElem?_append_right (by rw [eo.l1 _ hEm'];omega)];congr 2;rw [eo.l1 _ hEm'];omega
      rw [t1,t2];exact this)
     exact ⟨k,Clash.of I' hL' (fun i hi=>yE (by rw [hR.sol.fn Fv (zPH hF)];exact hi))⟩
    obtain ⟨k0,hcl0⟩:=hcl0;have hdv:=hcl0.short.2;have lfa:=hcl0.fl;generalize zBf n (whole Es) Es.length i Es[i] st=c at et2 hfa hcb hdv lfa hrun;refine ⟨_,rfl,t2,_,_,_,rfl,rfl,SqT.of et2,rfl,_,rfl,t2,_,_,_,rfl,rfl,SqT.of et2,rfl,fa,c.fac,c.mod,rfl,hfa,by omega,hcb.m0,hdv,hcb.f.mono (by decide),hcb.m.mono (by decide),fun t3 ls H6 s6 et3 hls=>?_⟩;refine ⟨_,rfl,t3,_,_,_,rfl,rfl,SqT.of et3,rfl,_,rfl,t3,_,_,_,rfl,rfl,SqT.of et3,rfl,by show 3<=sizeLine;decide,fun t4 ht4=>?_⟩;unfold zFp at q;rw [hrun] at q;have st4:=zC.upd ht4 (o:= .tup [.str "clash",.ref ls,.int (short c.fac c.mod).2]);exact q t4 ls _ (((s5'.trans s5).trans s6).trans st4) zB (hls.same st4) (zKK (hcb.f.mono (by decide)) (hcb.m.mono (by decide)) hcb.m0 hdv)
  ·rintro σ H' ⟨st,s4,s5,s6,s7,s8,rfl,s2,hs,hR,hrun⟩;rw [List.drop_length,zAZ] at hrun;unfold zFp at q;rw [hrun] at q;simp only at q;have hs':=hs;obtain ⟨dx,sl,fl,os,eo',⟨ss,esl,hss⟩,z3,z4,z5⟩:=hs';have lss:=Paired.len hss;refine ⟨_,rfl,o,CL,dx,_,_,rfl,eo',T.cl,T.n2,rfl,sl,_,rfl,.inl (SqL.of esl),_,rfl,o,dx,_,rfl,eo',rfl,o,pl,n,st,rfl,hs,by omega,zOr (zIl hR.sol.ech) (by omega),by rw [hR.sol.fl];omega,fun q' hq=>(hR.sol.ech.mem hq).1,hR.sol.fn,fun r H3 s3 hr3=>?_⟩;refine ⟨by show 3<=sizeLine;decide,fun t ht=>?_⟩;have e1:((ss.map V.ref).length:Int)=(st.steps.length:Int):=by rw [zOk,lss]
   rw [e1];have st4:=zC.upd ht (o:= .tup [.str "solved",.int (st.steps.length:Int),.ref r]);exact q t r _ ((s2.trans s3).trans st4) zB (hr3.same st4)
end
section
variable {P:Program}{w:World}{K:zPS}{mg:Str->Option Value}{base:Heap}
def zAw(k m:Nat)(r w:Vec):Eqn:=(r.take k,(List.range m).map fun j=>zA r (k+j) - zA w j)
def yt(k m:Nat)(rows wanted:List Vec):List Eqn:=List.zipWith (zAw k m) rows wanted
def zFw(H:Hp)(Q:VK)(n m:Nat)(Es:List Eqn):Prop:=match zAZ n (whole Es) Es.length 0 Es (zAq n m) with
 | .inl st=> ∀r H',zC H H'->LL H' r ((zg (st.steps.map (·.2)++st.fixed) n).map fun v=>v.drop st.steps.length)->Q (.ref r) H'
 | .inr _=> ∀H',zC H H'->Q .non H'
def zIX:Sp:=fun vs H Q _=> ∃(l wl:Addr) (rows wanted:List Vec) (k m b:Nat),vs= [.ref l,.int (k:Int),.int (m:Int),.ref wl] /\LL H l rows/\LL H wl wanted/\rows.length=wanted.length/\(∀r∈rows,r.length=k+m)/\(∀x∈wanted,x.length=m)/\
 SvOk k m b (yt k m rows wanted)/\zFw H Q k m (yt k m rows wanted)
theorem zHv:FnScope ["rows","free","names","wanted","equations","told"] ["rows","free","names","wanted"] (zI zGl):=⟨rfl,rfl,rfl,by decide+kernel,rfl,by decide+kernel,by decide+kernel⟩
theorem zMh{f fS:Addr}{fd fdS:FuncData}(F:Fun K "met_by" "met_by" zGl f fd)(B:Bn mg)
  (FS:Fun K "solution_of" "solution_of" zGC fS fdS) (bS:zO K fdS ["unknowns","names","equations"] []) (mS:mg "solution_of" =some (.ref fS)) (GS:FnOk P w K mg base CX0 37 fS fdS ["unknowns","names","equations"] zIA):FnOk P w K mg base CX0 38 f fd ["rows","free","names","wanted"] zIX:=by
 refine F.ok zHv (fun vs H Q E h=>?_) (fun cdv A outer s H vs Q E hr37 h=>?_)
 ·obtain ⟨l,wl,rows,wanted,k,m,b,rfl,_⟩:=h;rfl
 ·obtain ⟨l,wl,rows,wanted,k,m,b,rfl,⟨as,el,has⟩,⟨bs',ew,hbs⟩,hlen,hrow,hwan,ok,q⟩:=h;refine ⟨_,QB.out (zE
   (zHX yq 4 (by exact zHv.nd) rfl (Or.inl rfl) (.inr rfl) ["row","exponents"] ["free","names"] [1,2] rfl (zDk (K:=K) rfl rfl B.zip (qc (qw 0 rfl) (qc (qw 3 rfl) zD rfl) rfl) rfl rfl) rfl rfl (by decide+kernel) (zQ rfl (zQ rfl ye)) rfl (fr2 ⟨rfl,rfl,rfl,_,fun _=>rfl,rfl⟩ ⟨rfl,rfl,rfl,_,fun _=>rfl,rfl⟩) (fun _=>zN rfl) (fun _ _ _ _=>(zAt (K:=K) (n:=2) rfl rfl (yJ (zH 0 (show (["row","exponents","free","names"] :List Str).Nodup by decide+kernel) rfl (.inr rfl) (.inl rfl)) (yJ (zH 1 (show (["row","exponents","free","names"] :List Str).Nodup by decide+kernel) rfl (.inr rfl) (.inl rfl)) zAs rfl) rfl) rfl rfl)) (fun _ _ _ _=>zc) (fun C s₂ H₂ fp xe E hp=>(zAp (zAk (K:=K) rfl (qx 0 rfl) zAP (zAC (qx 2 rfl))) (ze ["name"] ["row","exponents","free"] [0,1,2] rfl (yj rfl B.range (qc (qx 3 rfl) zD rfl) rfl) rfl (by decide+kernel) rfl (by decide+kernel) (zQ rfl (zQ rfl (zQ rfl ye))) rfl (fr3 ⟨rfl,rfl,rfl,_,rfl,rfl⟩ ⟨rfl,rfl,rfl,_,rfl,rfl⟩ ⟨rfl,rfl,rfl,_,rfl,rfl⟩) (zN rfl) (fun _ _ _ _=>(zH 0 (show (["name","row","exponents","free"] :List Str).Nodup by decide+kernel) rfl (.inl rfl) (.inr rfl))) (fun _ _ _ _=>zc) (fun _ _ _ _=>(zCM (zk (K:=K) rfl (qx 1 rfl) (yc (qx 3 rfl) (qw 0 rfl)) (fun _ _=>rfl)) (zk (K:=K) rfl (qx 2 rfl) (qw 0 rfl) (fun _ _=>rfl)))) (fun _=>rfl)))) (fun _=>rfl) rfl) (zE
   (yY 5 zHv.nd rfl (Or.inr rfl) (zK GS hr37 rfl mS FS.kp bS .nil zL (qc (qx 1 rfl) (qc (qx 2 rfl) (qc (qw 4 rfl) zD rfl) rfl) rfl) rfl rfl rfl) rfl (.inl rfl)) (zE
   (yW (zf zAn (yV (K:=K) rfl (qx 5 rfl) zF (fun _ _=>rfl)) zIZ rfl) (zJ
    (zZ zDq)) yS) (zJ
   (zZ (ze ["row"] ["told"] [5] rfl (zm (K:=K) rfl (yV (K:=K) rfl (qx 5 rfl) zF (fun _ _=>rfl))) rfl (by decide+kernel) rfl (by decide+kernel) (zQ rfl ye) rfl (fr1 ⟨rfl,rfl,rfl,_,rfl,rfl⟩) (zN rfl) (fun _ _ _ _=>(zH 0 (show (["row","told"] :List Str).Nodup by decide+kernel) rfl (.inl rfl) (.inr rfl))) (fun _ _ _ _=>zc) (fun _ _ _ _=>(zAk (K:=K) rfl (qw 0 rfl) (zAC (yV (K:=K) rfl (qx 1 rfl) zF (fun _ _=>rfl))) zAP)) (fun _=>rfl))))))),?_⟩
  have la:=Paired.len has;have lb:=Paired.len hbs;have k6:=ok.nn;have m100:=ok.mm;have lE:(yt k m rows wanted).length=rows.length:=by simp [yt,hlen]
  have l12:=ok.le;have gE: ∀(i:Nat) (u v:Vec),rows[i]?=some u->wanted[i]?=some v->(zBd (yt k m rows wanted))[i]?=some (u.take k++(List.range m).map fun j=>zA u (k+j) - zA v j):=fun i u v h1 h2=>by
   simp only [zBd,yt,zOi,List.getElem?_zipWith,h1,h2,Option.map_some,zAw]
  have lW:(zBd (yt k m rows wanted)).length=rows.length:=by rw [zBd,zOk,lE]
  generalize yt k m rows wanted=Es at lE l12 gE lW ok q;refine ⟨_,rfl,_,rfl,l,wl,rfl,⟨_,SqL.of el⟩,⟨_,SqL.of ew⟩,fun D hD=>?_⟩;refine zU rows.length (fun i ys H'=> ∃rs:List Addr,i<=rows.length/\ys=rs.map V.ref/\LIs H' rs ((zBd Es).take i)/\rs.length=i/\D∉rs/\zC H H'/\H' D=some (.lst ys)) ⟨[],zOs _,rfl,by rw [List.take_zero];exact .nil,rfl,by simp,zC.upd hD,zB⟩ (by rw [zOo];omega) ?_ ?_ ?_
  ·rintro i ys H1 hi ⟨rs,_,rfl,_,hrl,_,s1,e1⟩;exact ⟨by simp;omega,e1,fun h=>⟨_,_,_,_,SqL.of (s1 _ _ el),SqL.of (s1 _ _ ew),zOd (by simp;omega),zOd (by simp;omega)⟩,fun h=>⟨_,_,SqL.of (s1 _ _ el),SqL.of (s1 _ _ ew),.inl (by simp;omega)⟩⟩
  ·rintro i ys H1 x H2 hi ⟨rs,_,rfl,hrs,hrl,hnd,s1,e1⟩ ⟨t,x1,y1,hx,hy,ht,rfl,rfl⟩ pre hpre;obtain ⟨p0,p1,rfl⟩:=zn hpre;have hx':=hx _ (SqL.of (s1 _ _ el));have hy':=hy _ (SqL.of (s1 _ _ ew));have hia:i<as.length:=by omega
   have hib:i<bs'.length:=by omega
   rw [zOi,zOd hia] at hx';rw [zOi,zOd hib] at hy';cases hx';cases hy';obtain ⟨u,eu,hu⟩:=Paired.get' has (zOd hia);obtain ⟨v,ev,hv⟩:=Paired.get' hbs (zOd hib);have lu:=hrow u (zPH eu);have lv:=hwan v (zPH ev);have gW:=gE i u v eu ev;have st:=zC.upd ht (o:= .tup [.ref as[i],.ref bs'[i]]);have s2:=s1.trans st;refine ⟨t,_,rfl,SqT.of zB,rfl,_,_,rfl,_,_,rfl,rfl,⟨[some (.ref as[i]),some (.ref bs'[i])],rfl,rfl⟩,yC ?_⟩;refine ⟨_,rfl,_,rfl,_,rfl,as[i],_,rfl,SqL.of (hu.same s2),fun pa hpa=>?_⟩;rw [zCf (by omega)];have sa:=zC.upd hpa (o:= .lst ((u.take k).map V.int));have s3:=s2.trans sa;refine ⟨_,rfl,(m:Int),rfl,by omega,by omega,fun D2 hD2=>?_⟩;refine zU m (fun j ys H4=>j<=m/\ys=(((List.range m).map fun j=>zA u (k+j) - zA v j).take j).map V.int/\H4=L2.upd _ D2 (.lst ys)) ⟨zOs _,by simp,rfl⟩ (by rw [zOo];omega) ?_ ?_ ?_
   ·rintro j ys H4 hj ⟨_,rfl,rfl⟩;exact ⟨by simp;omega,zB,fun h=>h,fun h=>Nat.le_of_eq h.symm⟩
   ·rintro j ys H4 x H5 hj ⟨_,rfl,rfl⟩ ⟨rfl,rfl⟩ pre hpre;obtain ⟨p2,rfl⟩:=yX hpre;have s4:=s3.trans (zC.upd hD2 (o:= .lst ((((List.range m).map fun j=>zA u (k+j) - zA v j).take j).map V.int)));refine ⟨⟨[some (.int ((0:Int)+(j:Int)))],rfl,rfl⟩,yC ?_⟩;refine ⟨_,rfl,_,rfl,_,rfl,(k:Int),(0:Int)+(j:Int),rfl,rfl,as[i],_,_,_,rfl,rfl,SqL.of (hu.same s4),by rw [Int.zero_add,<-Int.natCast_add];exact zh (zS (show k+j<u.length by omega)),?_⟩;refine ⟨_,rfl,_,rfl,bs'[i],_,_,_,rfl,rfl,SqL.of (hv.same s4),by rw [Int.zero_add];exact zh (zS (show j<v.length by omega)),_,_,rfl,rfl,zB,hj,?_,by rw [zx]⟩;rw [zPA,zOi,List.getElem?_range hj];simp
   ·rintro ys H4 ⟨_,rfl,rfl⟩;rw [List.take_of_length_le (show ((List.range m).map fun j=>zA u (k+j) - zA v j).length<=m by simp)];have sb:=zC.upd hD2 (o:= .lst (((List.range m).map fun j=>zA u (k+j) - zA v j).map V.int));refine ⟨pa,D2,_,_,rfl,rfl,sb _ _ zB,zB,by rw [zOo];simp;omega,fun p hp=>?_⟩;rw [<-zOz];have sc:=zC.upd hp (o:= .lst ((u.take k++(List.range m).map fun j=>zA u (k+j) - zA v j).map V.int));have sx:=(st.trans sa).trans (sb.trans sc);have hne:p≠D:=fun z=>by
     have:=(st.trans sa).trans sb _ _ e1;rw [z] at hp;rw [this] at hp;cases hp
    refine ⟨sx _ _ e1,rs++ [p],hi,by simp,?_,by simp [hrl],by simp [hnd,Ne.symm hne],zC.store (s1.trans sx) hD,zB⟩;rw [zPA,gW];refine Paired.snoc' (Paired.mapM hrs fun a v hm ea=>?_) ?_
    ·have z:=sx _ _ ea;show L2.upd _ D _ a=_;rw [zG fun haD=>hnd (by rw [<-haD];exact hm)];exact z
    ·show L2.upd _ D _ p=_;rw [zG hne,zB]
  ·rintro ys H1 ⟨rs,_,rfl,hrs,_,_,s1,e1⟩;rw [List.take_of_length_le (Nat.le_of_eq lW)] at hrs;refine ⟨_,rfl,_,rfl,_,rfl,D,k,m,b,Es,rfl,⟨rs,e1,hrs⟩,ok,?_⟩;unfold zFw at q;unfold zFp;generalize zAZ k (whole Es) Es.length 0 Es (zAq k m)=z at q⊢;cases z with
   | inr fd=>
    intro t fl H2 s2 et _ _;refine ⟨_,rfl,t,_,_,_,rfl,rfl,SqT.of et,rfl,rfl,_,rfl,zEY (by rfl) ?_⟩;exact q _ (s1.trans s2)
   | inl st=>
    simp only at q;intro t r H2 s2 et hr;obtain ⟨cs,ec,hcs⟩:=hr;refine ⟨_,rfl,t,_,_,_,rfl,rfl,SqT.of et,rfl,rfl,_,rfl,zAR (by rfl) ?_⟩;refine ⟨_,rfl,t,_,_,_,rfl,rfl,SqT.of et,rfl,r,rfl,⟨_,SqL.of ec⟩,fun D3 hD3=>?_⟩;have lc:=Paired.len hcs;have lr:(zg (st.steps.map (·.2)++st.fixed) k).length=k:=by simp [zg]
    have hrl': ∀x∈zg (st.steps.map (·.2)++st.fixed) k,st.steps.length<=x.length:=fun x hx=>by
     obtain ⟨y,_,rfl⟩:=List.mem_map.mp hx;simp
    generalize zg (st.steps.map (·.2)++st.fixed) k=R at hcs lc lr hrl' q;refine zU cs.length (fun i ys H'=> ∃rs:List Addr,i<=cs.length/\ys=rs.map V.ref/\LIs H' rs ((R.map fun v=>v.drop st.steps.length).take i)/\rs.length=i/\D3∉rs/\zC H2 H'/\H' D3=some (.lst ys)) ⟨[],zOs _,rfl,by rw [List.take_zero];exact .nil,rfl,by simp,zC.upd hD3,zB⟩ (by rw [zOo];omega) ?_ ?_ ?_
    ·rintro i ys H3 hi ⟨rs,_,rfl,_,hrl,_,s3,e3⟩;have e4:=s3 _ _ ec;exact ⟨by simp;omega,e3,fun h=>⟨_,_,SqL.of e4,zOd (by simpa using h)⟩,fun h=>⟨_,SqL.of e4,by simp;omega⟩⟩
    ·rintro i ys H3 x H4 hi ⟨rs,_,rfl,hrs,hrl,hnd,s3,e3⟩ ⟨rfl,hx⟩ pre hpre;obtain ⟨p0,rfl⟩:=yX hpre;have hx':=hx _ (SqL.of (s3 _ _ ec));rw [zOi,zOd hi] at hx';cases hx';obtain ⟨u,eu,hu⟩:=Paired.get' hcs (zOd hi);refine ⟨⟨[some (.ref cs[i])],rfl,rfl⟩,yC ?_⟩;refine ⟨_,rfl,_,rfl,t,_,_,_,rfl,rfl,SqT.of (s3 _ _ et),rfl,_,rfl,cs[i],_,rfl,SqL.of (hu.same s3),fun p hp=>?_⟩;rw [zCL (hrl' u (zPH eu))];have sc:=zC.upd hp (o:= .lst ((u.drop st.steps.length).map V.int));have hne:p≠D3:=fun z=>by rw [z,e3] at hp;cases hp
     refine ⟨sc _ _ e3,rs++ [p],hi,by simp,?_,by simp [hrl],by simp [hnd,Ne.symm hne],zC.store (s3.trans sc) hD3,zB⟩;rw [zPA,zOi,eu];refine Paired.snoc' (Paired.mapM hrs fun a v hm ea=>?_) ?_
     ·have z:=sc _ _ ea;show L2.upd _ D3 _ a=_;rw [zG fun haD=>hnd (by rw [<-haD];exact hm)];exact z
     ·show L2.upd _ D3 _ p=_;rw [zG hne,zB]
    ·rintro ys H3 ⟨rs,_,rfl,hrs,_,_,s3,e3⟩;rw [List.take_of_length_le (by simp;omega)] at hrs;exact q _ _ ((s1.trans s2).trans s3) ⟨rs,e3,hrs⟩
end
section
variable {P:Program}{w:World}{K:zPS}{mg:Str->Option Value}{base:Heap}
theorem zCY(K:zPS):PySem.W.kitOne K (.type "list") (.type "list")=some true:=by kernel_rfl
def zKt:Sp:=fun vs H Q _=> ∃n k:Int,vs= [.int n,.int k] /\0<=k/\k<=1000/\ ∀r:Int,0<=r->r<2147483629->Q (.int r) H
theorem zLJ:FnScope ["_law_number_here","_law_k"] ["_law_number_here","_law_k"] (zI zGw):=⟨rfl,rfl,rfl,by decide+kernel,rfl,by decide+kernel,by decide+kernel⟩
theorem zNS{f:Addr}{fd:FuncData}(F:Fun K "_law_mixed" "_law_mixed" zGw f fd):FnOk P w K mg base CX0 1 f fd ["_law_number_here","_law_k"] zKt:=by
 refine F.ok zLJ (fun vs H Q E h=>?_) (fun cdv A outer s H vs Q E hr h=>?_)
 ·obtain ⟨n,k,rfl,_⟩:=h;rfl
 ·obtain ⟨n,k,rfl,h0,h1,q⟩:=h;refine ⟨_,zAa (zBz (i:=0) zLJ.nd rfl (Or.inl rfl) (zAF zBv (zAF zCA (zAF zEq (zAF zEq (zAF zBv (pv 0) zAO) (zAF zCA (zAF zCA zAO (pv 1)) (pv 1))) (zAF zCA zAO (pv 1))) zAO) zAO))
   (zBp (zDQ (zAF zBv (zAF zCA (pv 0) (zAF zEq zAO (zAF zCA zAO (pv 1)))) zAO))),?_⟩
  refine ⟨_,rfl,_,_,rfl,rfl,(by show (0:Int)<2147483647;decide),_,rfl,_,_,rfl,rfl,.inl ⟨by decide,by decide⟩,_,rfl,_,_,rfl,rfl,.inr ⟨by omega,by omega⟩,_,_,rfl,rfl,_,rfl,_,_,rfl,rfl,.inl ⟨by decide,by decide⟩,_,_,rfl,rfl,
   _,_,rfl,rfl,.inr ⟨by decide,by decide⟩,_,_,rfl,rfl,(by show (0:Int)<2147483647;decide),?_⟩
  refine ⟨_,rfl,_,rfl,_,_,rfl,rfl,.inl ⟨by decide,by decide⟩,_,_,rfl,rfl,_,_,rfl,rfl,.inr ⟨by omega,by omega⟩,_,_,rfl,rfl,(by show (0:Int)<2147483629;decide),?_⟩;exact q _ (zOv _ (by decide)) (zOp _ (by decide))
def zDi(K:zPS):Sp:=fun vs H Q _=> ∃(a:Addr) (ns:List Int) (k:Int),vs= [.ref a,.int k] /\SqL K H a (ns.map V.int)/\ns.length<=63/\0<=k/\k<=1000/\ ∀(r:Int) H',zC H H'->0<=r->r<2147483629->Q (.int r) H'
theorem zNv:FnScope ["_law_script","_law_k"] ["_law_script","_law_k"] (zI zDD):=⟨rfl,rfl,rfl,by decide+kernel,rfl,by decide+kernel,by decide+kernel⟩
theorem zNl{f fM:Addr}{fd fdM:FuncData}(F:Fun K "_law_number" "_law_number" zDD f fd)(B:Bn mg)(FM:Fun K "_law_mixed" "_law_mixed" zGw fM fdM)(bM:zO K fdM ["_law_number_here","_law_k"] [])(mM:mg "_law_mixed" =some (.ref fM)):
  FnOk P w K mg base CX0 2 f fd ["_law_script","_law_k"] (zDi K):=by
 have GM:FnOk P w K mg base CX0 1 fM fdM ["_law_number_here","_law_k"] zKt:=zNS FM;refine F.ok zNv (fun vs H Q E h=>?_) (fun cdv A outer s H vs Q E hr h=>?_)
 ·obtain ⟨a,ns,k,rfl,_⟩:=h;rfl
 ·obtain ⟨a,ns,k,rfl,hs,hl,h0,h1,q⟩:=h;have hu:=zGA hr;refine ⟨_,zAa (zLH (zEz (zGX (Nat.lt_of_succ_lt hu)) (pv 0) (zIy zBy) (zId _)) (zBp (zDQ (zFS GM hr (by rfl) mM FM.kp bM .nil zL (zAi zAO (zAi (pv 1) zBy))))) zHM)
   (zBp (zDQ (zFS GM hr (by rfl) mM FM.kp bM .nil zL (zAi (zIO zHG (pv 0) (zAF zBv (pv 1) (zGu zDb (by rfl) B.len yk (zAi (pv 0) zBy))) (fun _ _=>rfl)) (zAi (pv 1) zBy))))),?_⟩
  refine ⟨_,rfl,zOs _,fun p hp=>?_⟩;have s1:zC H (L2.upd H p (.lst [])):=zC.upd hp;refine ⟨a,p,_,rfl,rfl,s1.seq hs,SqL.of zB,_,rfl,?_⟩;cases ns with
  | nil=>
   refine yC ?_;exact ⟨_,rfl,17,k,rfl,h0,h1,fun r r0 r1=>q r _ s1 r0 r1⟩
  | cons n ns=>
   refine zAW ?_;have hlen:(0:Int)<(((n::ns).map V.int).length:Int):=by simp
   have m0:=zOv k (by omega:(((n::ns).map V.int).length:Int)≠0);have m1:=zOp k hlen;obtain ⟨j,hj⟩: ∃j:Nat,k %(((n::ns).map V.int).length:Int)=j:=⟨(k %(((n::ns).map V.int).length:Int)).toNat,by omega⟩;have hj2:j<(n::ns).length:=by
    rw [hj,zOk] at m1;omega
   refine ⟨_,rfl,_,rfl,_,rfl,a,_,rfl,.inl (s1.seq hs),_,_,rfl,rfl,hlen,a,_,_,.int ((n::ns)[j]),rfl,rfl,s1.seq hs,?_,_,rfl,_,k,rfl,h0,h1,fun r r0 r1=>q r _ s1 r0 r1⟩;rw [hj];refine zh ?_;rw [zOi,zOd hj2];rfl
def zIE:Sp:=fun vs H Q _=> ∃i:Int,vs= [.int i] /\Q (.bl true) H
theorem zOb:FnScope ["_law_found"] ["_law_found"] (zI zCc):=⟨rfl,rfl,rfl,by decide+kernel,rfl,by decide+kernel,by decide+kernel⟩
theorem zNx{f:Addr}{fd:FuncData}(F:Fun K "_law_whole" "_law_whole" zCc f fd)(B:Bn mg):FnOk P w K mg base CX0 1 f fd ["_law_found"] zIE:=by
 refine F.ok zOb (fun vs H Q E h=>?_) (fun cdv A outer s H vs Q E hr h=>?_)
 ·obtain ⟨x,rfl,_⟩:=h;rfl
 ·obtain ⟨x,rfl,q⟩:=h;refine ⟨_,QB.out (zJ
   (zZ (zHw (yP (zAz (K:=K) rfl) rfl B.isi yz (qc (qw 0 rfl) (qc (zCa (v:= .ty "int") rfl B.int zJK rfl (by decide) rfl) zD rfl) rfl) rfl) (zLF (zOH (yP (zAz (K:=K) rfl) rfl B.isi yz (qc (qw 0 rfl) (qc (zCa (v:= .ty "bool") rfl B.bool zLm rfl (by decide) rfl) zD rfl) rfl) rfl)))))),?_⟩
  refine ⟨_,rfl,_,.ty "int",_,.type "int",_,rfl,rfl,.int x,zIj K,_,rfl,yC ?_⟩;exact ⟨_,rfl,_,.ty "bool",_,.type "bool",_,rfl,rfl,.int x,zIC K,_,rfl,q⟩
def zET:Sp:=fun vs H Q _=> ∃(a:Addr) (v:Vec) (n:Nat),vs= [.ref a,.int (n:Int)] /\LI H a v/\v.length=n/\n<=1000/\ ∀H',zC H H'->Q (.bl true) H'
theorem zNw:FnScope ["_law_found","_law_size"] ["_law_found","_law_size"] (zI zBq):=⟨rfl,rfl,rfl,by decide+kernel,rfl,by decide+kernel,by decide+kernel⟩
theorem zMn{f fWh:Addr}{fd fdWh:FuncData}(F:Fun K "_law_wholes" "_law_wholes" zBq f fd)(B:Bn mg)
  (FWh:Fun K "_law_whole" "_law_whole" zCc fWh fdWh) (bWh:zO K fdWh ["_law_found"] []) (mWh:mg "_law_whole" =some (.ref fWh)) (GWh:FnOk P w K mg base CX0 1 fWh fdWh ["_law_found"] zIE):FnOk P w K mg base CX0 2 f fd ["_law_found","_law_size"] zET:=by
 refine F.ok zNw (fun vs H Q E h=>?_) (fun cdv A outer s H vs Q E hr1 h=>?_)
 ·obtain ⟨a,v,n,rfl,_⟩:=h;rfl
 ·obtain ⟨a,v,n,rfl,ha,hn,h1000,q⟩:=h;refine ⟨_,QB.out (zJ
   (zZ (zHw (yP (zAz (K:=K) rfl) rfl B.isi yz (qc (qw 0 rfl) (qc (zCa (v:= .ty "list") rfl B.list zAg rfl (by decide) rfl) zD rfl) rfl) rfl) (zHw (zFy zAn (yP (yK (K:=K) rfl) rfl B.len yk (qc (qw 0 rfl) zD rfl) rfl) (qw 1 rfl) rfl) (zLF (yP (zDZ (K:=K) rfl rfl) rfl B.all zGb (qc (ze (cl:= []) ["_law_number_here"] [] [] rfl (zm (K:=K) rfl (qw 0 rfl)) rfl (by decide+kernel) rfl (by decide+kernel) (fun _ _ h=>nomatch h) rfl (fun j y i h=>nomatch h) (zN rfl) (fun _ _ _ _=>(zH 0 (show (["_law_number_here"] :List Str).Nodup by decide+kernel) rfl (.inl rfl) (.inr rfl))) (fun _ _ _ _=>zc) (fun _ _ _ _=>(zK GWh hr1 rfl mWh FWh.kp bWh .nil zL (qc (qw 0 rfl) zD rfl) rfl rfl rfl)) (fun _=>rfl)) zD rfl) rfl)))))),?_⟩
  refine ⟨_,rfl,_,.ty "list",_,.type "list",_,rfl,rfl,.lst ha,zCY K,_,rfl,yC ?_⟩;refine ⟨_,rfl,a,_,rfl,.inl (SqL.of ha),_,rfl,rfl,_,rfl,?_⟩;refine zEY (by rw [zOk,hn,zPB rfl]) ?_;refine ⟨_,rfl,a,rfl,⟨_,SqL.of ha⟩,fun D hD=>?_⟩;refine zU v.length (fun i ys H'=>i<=v.length/\ys=(List.replicate i true).map V.bl/\H'=L2.upd H D (.lst ys)) ⟨zOs _,rfl,rfl⟩ (by rw [zOo];omega) ?_ ?_ ?_
  ·rintro i ys H2 hi ⟨_,rfl,rfl⟩;have e2:=ha.same (zC.upd hD (o:= .lst ((List.replicate i true).map V.bl)));exact ⟨by simp,zB,fun h=>⟨_,_,SqL.of e2,zS h⟩,fun h=>⟨_,SqL.of e2,by simp;omega⟩⟩
  ·rintro i ys H2 x H3 hi ⟨_,rfl,rfl⟩ ⟨rfl,hx⟩ pre hpre;obtain ⟨p0,rfl⟩:=yX hpre;have hx':=hx _ (SqL.of (ha.same (zC.upd hD (o:= .lst ((List.replicate i true).map V.bl)))));rw [zS hi] at hx';cases hx';refine ⟨⟨[some (.int (zA v i))],rfl,rfl⟩,yC ?_⟩;refine ⟨_,rfl,_,rfl,zB,hi,?_,by rw [zx]⟩;rw [List.replicate_succ',zOz];rfl
  ·rintro ys H2 ⟨_,rfl,rfl⟩;refine ⟨D,List.replicate v.length true,rfl,SqL.of zB,?_⟩;rw [show (List.replicate v.length true).all id=true by simp];exact q _ (zC.upd hD)
theorem SqL.but{K:zPS}{H H':Hp}{p a:Addr}{xs:List V}(h:SqL K H a xs)(b:But [p] H H')(hn:a≠p):SqL K H' a xs:=by
 rcases h with (h |⟨o,h⟩)| h
 ·exact .inl (.inl (b _ _ h (by simpa using hn)))
 ·exact .inl (.inr ⟨o,b _ _ h (by simpa using hn)⟩)
 ·exact .inr h
theorem But.upd{H:Hp}{p:Addr}{o:HO}:But [p] H (L2.upd H p o):=fun b u e z=>by rw [zG (by simpa using z)];exact e
def Scr(K:zPS)(H:Hp)(a p:Addr)(ns:List Int):Prop:=(SqL K H a (ns.map V.int)/\a≠p)\/ ∀H',SqL K H' a (ns.map V.int)
theorem Scr.sq{K:zPS}{H:Hp}{a p:Addr}{ns:List Int}(h:Scr K H a p ns):SqL K H a (ns.map V.int):=h.elim (fun h=>h.1) fun h=>h H
theorem Scr.but{K:zPS}{H H':Hp}{a p:Addr}{ns:List Int}(h:Scr K H a p ns)(b:But [p] H H'):Scr K H' a p ns:=h.elim (fun h=> .inl ⟨SqL.but h.1 b h.2,h.2⟩) .inr
theorem Scr.of{K:zPS}{H:Hp}{a p:Addr}{ns:List Int}(h:SqL K H a (ns.map V.int))(hp:H p=none):Scr K H a p ns:=by
 rcases id h with (e |⟨o,e⟩)| e
 ·exact .inl ⟨h,fun z=>by rw [z,hp] at e;cases e⟩
 ·exact .inl ⟨h,fun z=>by rw [z,hp] at e;cases e⟩
 ·exact .inr fun _=> .inr e
def zKM(K:zPS):Sp:=fun vs H Q _=> ∃(a p:Addr) (ns:List Int) (c:Int) (n:Nat) (m:Int),vs= [.ref a,.ref p,.int (n:Int),.int m] /\Scr K H a p ns/\ns.length<=63/\H p=some (.lst [.int c])/\0<=c/\c+n<=1000/\0<=m/\m<=4/\
 ∀l v H',But [p] H H'->H' p=some (.lst [.int (c+n)])->H l=none->LI H' l v->v.length=n->(∀i,(zA v i).natAbs<=4)->Q (.ref l) H'
theorem zIU:FnScope ["_law_script","_law_spot","_law_size","_law_most","_law_found","_law_k","_law_number_here"] ["_law_script","_law_spot","_law_size","_law_most"] (zI zDL):=⟨rfl,rfl,rfl,by decide+kernel,rfl,by decide+kernel,by decide+kernel⟩
theorem zNt{f fN:Addr}{fd fdN:FuncData}(F:Fun K "_law_drawn" "_law_drawn" zDL f fd)(B:Bn mg)
  (FN:Fun K "_law_number" "_law_number" zDD fN fdN) (bN:zO K fdN ["_law_script","_law_k"] []) (mN:mg "_law_number" =some (.ref fN)) (GN:FnOk P w K mg base CX0 2 fN fdN ["_law_script","_law_k"] (zDi K)):FnOk P w K mg base CX0 3 f fd ["_law_script","_law_spot","_law_size","_law_most"] (zKM K):=by
 refine F.ok zIU (fun vs H Q E h=>?_) (fun cdv A outer s H vs Q E hr2 h=>?_)
 ·obtain ⟨a,p,ns,c,n,m,rfl,_⟩:=h;rfl
 ·obtain ⟨a,p,ns,c,n,m,rfl,ha,hns,hp,c0,c1,m0,m1,q⟩:=h;refine ⟨_,QB.out (zE
   (zV 4 zIU.nd rfl (zAB zD) rfl) (zE
   (zAA PassesOwn.never rfl (yj rfl B.range (qc (qw 2 rfl) zD rfl) rfl) (zH 5 zIU.nd rfl (Or.inl rfl) (.inr rfl)) (zE
    (zGp (qw 1 rfl) zF (yc (zk (K:=K) rfl (qw 1 rfl) zF (fun _ _=>rfl)) zF) rfl) (zE
    (zV 6 zIU.nd rfl (zK GN hr2 rfl mN FN.kp bN .nil zL (qc (qw 0 rfl) (qc (zk (K:=K) rfl (qw 1 rfl) zF (fun _ _=>rfl)) zD rfl) rfl) rfl rfl rfl) rfl) (zJ
    (zBe (zCs (K:=K) rfl (qw 4 rfl) (zIQ (zCM (yu (zBL (qw 6 rfl) zF) (yc (zIQ zF (qw 3 rfl)) zF)) (qw 3 rfl)) (zEJ zJU rfl B.int zJK (qc (zFy zAf (yu (qw 6 rfl) zF) zF rfl) zD rfl) rfl)) rfl rfl rfl) rfl)))) (fun _=>rfl)) (zJ
   (zZ (qw 4 rfl))))),?_⟩
  refine ⟨zOs _,fun l hl=>?_⟩;have hlp:l≠p:=fun z=>by rw [z,hp] at hl;cases hl
  have sl:=zC.upd hl (o:= .lst []);refine ⟨_,rfl,(n:Int),rfl,by omega,by omega,?_⟩;refine yd n (fun i σ H'=> ∃(s5 s6:Option V) (v:Vec),σ= [some (.ref a),some (.ref p),some (.int (n:Int)),some (.int m),some (.ref l),s5,s6] /\i<=n/\v.length=i/\(∀i,(zA v i).natAbs<=4)/\H' l=some (.lst (v.map V.int))/\H' p=some (.lst [.int (c+i)])/\But [p] H H') ⟨none,none,[],rfl,zOs _,rfl,fun _=>by simp [zA],zB,by rw [show c+((0:Nat):Int)=c by omega];exact sl _ _ hp,zC.but sl _⟩ ?_ ?_ ?_ ?_
  ·rintro i σ H1 hi ⟨s5,s6,v,rfl,_⟩;exact hi
  ·rintro σ H1 ⟨s5,s6,v,rfl,_⟩;exact zOh _
  ·rintro i σ H1 x H2 hi ⟨s5,s6,v,rfl,_,lv,bv,el,ep,bt⟩ ⟨rfl,rfl⟩;refine ⟨_,rfl,p,_,_,_,rfl,rfl,SqL.of ep,rfl,_,_,rfl,rfl,_,rfl,p,_,0,0,rfl,rfl,ep,rfl,?_⟩;have b1:But [p] H2 (L2.upd H2 p (.lst [.int (c+i+1)])):=But.upd;refine ⟨_,rfl,_,rfl,p,_,_,_,rfl,rfl,SqL.of zB,rfl,a,ns,c+i+1,rfl,((ha.but bt).but b1).sq,hns,by omega,by omega,fun r H3 s3 r0 r1=>?_⟩;have el3:=s3 _ _ (b1 _ _ el (by simpa using hlp));have ep3:H3 p=some (.lst [.int (c+i+1)]):=s3 _ _ zB;have mp:(0:Int)<2*m+1:=by omega
   have y0:=zOv (r/3) (show (2*m+1:Int)≠0 by omega);have y1:=zOp (r/3) mp;refine ⟨_,rfl,.inl ⟨rfl,_,SqL.of el3⟩,_,rfl,r,3,rfl,rfl,⟨by decide,by decide⟩,_,rfl,2,m,rfl,rfl,.inl ⟨by decide,by decide⟩,_,_,rfl,rfl,_,_,rfl,rfl,mp,_,rfl,_,_,rfl,rfl,_,rfl,r,3,rfl,rfl,by decide,_,_,rfl,rfl,.inr ⟨_,rfl,_,_,rfl,rfl,.inl ⟨by omega,by omega⟩,l,_,_,rfl,rfl,el3,?_,?_⟩⟩
   ·rw [zOk,zOo];omega
   ·generalize r/3 %(2*m+1)=y at y0 y1⊢;refine ⟨_,_,v++ [(y - m)*(if decide (0<r % 3)=true then 1 else 0)],rfl,hi,by simp [lv],fun j=>?_,?_,?_,?_⟩
    ·have hz:((y - m)*(if decide (0<r % 3)=true then 1 else 0)).natAbs<=4:=by split<;>omega
     generalize (y - m)*(if decide (0<r % 3)=true then 1 else 0)=z at hz⊢;by_cases hj:j<v.length
     ·rw [show zA (v++ [z]) j=zA v j from by simp [zA,List.getElem?_append_left hj]];exact bv j
     ·by_cases hj2:j=v.length
      ·subst hj2;rw [show zA (v++ [z]) v.length=z from by simp [zA]];exact hz
      ·rw [show zA (v++ [z]) j=0 from yE (by simp;omega)];omega
    ·rw [zB,zOz];rfl
    ·rw [zG (Ne.symm hlp),ep3,show c+((i+1:Nat):Int)=c+i+1 by omega]
    ·exact fun b u e z=>by rw [zG (yn e hl)];exact (bt.trans (b1.trans (zC.but s3 _))) b u e z
  ·rintro σ H1 ⟨s5,s6,v,rfl,_,lv,bv,el,ep,bt⟩;exact ⟨_,rfl,q l v H1 bt ep hl el lv bv⟩
end
end Fr
namespace L2
open PySem PySem.Spec PyProof.Rows
section
variable {X:Cx}{K:zPS}
def zHd(K:zPS)(b:Bool):R2:=fun x y H Q=> ∃(p q:Addr) (as bs:List Addr) (f:Nat->List V),x= .ref p/\y= .ref q/\SqL K H p (as.map V.ref)/\SqL K H q (bs.map V.ref)/\as.length=bs.length/\
 (∀i a,as[i]?=some a->SqL K H a (f i))/\(∀i a,bs[i]?=some a->SqL K H a (f i))/\(∀i,∀x∈f i,zDH x=true)/\Q (.bl b) H
theorem zJB{as:List Addr}{us:List Value}(r:zP (as.map V.ref) us){j:Nat}(h:j<us.length): ∃a,as[j]?=some a/\us[j] = .ref a:=by
 have l:=r.length;rw [zOk] at l;have ha:as[j]?=some as[j] :=zOd (by omega);obtain ⟨u,b,c⟩:=r.get (i:=j) (show (as.map V.ref)[j]?=some (.ref as[j]) by rw [zOi,ha];rfl);rw [zOd h] at b;cases c;exact ⟨_,ha,Option.some.inj b⟩
theorem zEi{A:Around}{pins:List (Addr×Obj)}{σ:St}{H:Hp}{s:Shared}{as bs:List Addr}{f:Nat->List V}{us vs:List Value}(I:Inv X pins σ H s)(hu:A.units+1<cLine)
  (h1: ∀i a,as[i]?=some a->SqL X.K H a (f i)) (h2: ∀i a,bs[i]?=some a->SqL X.K H a (f i)) (hf: ∀i,∀x∈f i,zDH x=true) (r1:zP (as.map V.ref) us) (r2:zP (bs.map V.ref) vs):
  ∀j (h1:j<us.toArray.size) (h2:j<vs.toArray.size),SeqAt.EqAt A.in1 s us.toArray[j] vs.toArray[j] ((fun _=>true) j):=by
 intro j g1 g2;obtain ⟨a,ea,ua⟩:=zJB r1 (show j<us.length by simpa using g1);obtain ⟨b,eb,ub⟩:=zJB r2 (show j<vs.length by simpa using g2);show SeqAt.EqAt A.in1 s us[j] vs[j] true;rw [ua,ub];by_cases hab:a=b
 ·subst hab;exact SeqAt.EqAt.same _
 ·obtain ⟨us',q1,t1,_⟩:=I.list (h1 j a ea);obtain ⟨vs',q2,t2,_⟩:=I.list (h2 j b eb);have l1:=q1.length;have l2:=q2.length;refine SeqAt.EqAt.of_refs hab ?_;have z:=SeqAt.RcAt.lists (A:=A.in1) (e:=fun _=>true) t1.isList t2.isList (by simp;omega) (show A.units+1<cLine from hu) (zIN (hf j) q1 q2);rw [zCB] at z;exact z
theorem zMK(hK:X.K=K)(hu:X.A.units+1<cLine):OpR X (compareOp .NotEq) (zHd K false):=by
 subst hK;intro pins s σ H x y v u Q I rx ry h;obtain ⟨p,q,as,bs,f,rfl,rfl,e1,e2,hl,h1,h2,hf,hq⟩:=h;cases rx;cases ry;obtain ⟨us,r1,t1,_⟩:=I.list e1;obtain ⟨vs,r2,t2,_⟩:=I.list e2;have l1:=r1.length;have l2:=r2.length;rw [zOk] at l1 l2;have es:us.toArray.size=vs.toArray.size:=by simp;omega
 have z:=SeqAt.RcNeAt.lists (A:=X.A) (e:=fun _=>true) t1.isList t2.isList es (by omega) (zEi I hu h1 h2 hf r1 r2);rw [zCB] at z;refine z _ _ _ _ ?_;exact ⟨.bl false,H,I,rfl,hq⟩
end
end L2
namespace FrV
theorem zHs{n m b:Nat}{Es:List Eqn}(ok:EqOk n m b Es)(hn:n<=6)(X:Nat->Fn)(h0: ∀k i,n<=i->X k i=0)(hX: ∀k,k<m-> ∀E∈Es,dt (X k) E.1+zA E.2 k=0):
  ∀(r:List Eqn) (j:Nat) (s:Stt),Run n m b Es j s->Es.drop j=r-> ∃s',zAZ n (whole Es) Es.length j r s= .inl s'/\Run n m b Es Es.length s'
 | [],j,s,R,h=>by
  have:j=Es.length:=by
   have:=List.drop_eq_nil_iff.mp h;have:=R.jl;omega
  refine ⟨s,by rw [zAZ],?_⟩;rw [<-this];exact R
 | E::r,j,s,R,h=>by
  have hE:Es[j]?=some E:=by
   have:=congrArg (fun l=>l[0]?) h;simpa using this
  have hm:=zPH hE;have hd:Es.drop (j+1)=r:=by
   rw [<-List.drop_drop,h];rfl
  have et:Es.take (j+1)=Es.take j++ [E] :=by rw [zPA,hE];rfl
  have hf:zBM E s=true:=zJP R.sol (ok.l2 E hm) X h0 fun k hk E' hE'=>hX k hk E' (List.mem_of_mem_take (by rw [<-et] at hE';exact hE'));rw [zEG hf];exact zHs ok hn X h0 hX r (j+1) _ (R.next ok hn hE hf) hd
theorem zIT{n m b:Nat}{Es:List Eqn}(ok:EqOk n m b Es)(hn:n<=6)(X:Nat->Fn)(h0: ∀k i,n<=i->X k i=0)(hX: ∀k,k<m-> ∀E∈Es,dt (X k) E.1+zA E.2 k=0):
  ∃s,zAZ n (whole Es) Es.length 0 Es (zAq n m)= .inl s/\Run n m b Es Es.length s:=zHs ok hn X h0 hX Es 0 _ (Run.start n m b Es) rfl
theorem Run.all{n m b:Nat}{Es:List Eqn}{s:Stt}(R:Run n m b Es Es.length s):Sol n m Es s:=by
 have:=R.sol
 rwa [zPC] at this
def zu:List Stp->List Stp
 | [] => []
 |(p,v)::S=>(p,zR v (zu S))::zu S
theorem zCW: ∀(S:List Stp),(zu S).length=S.length
 | [] =>rfl
 |(p,v)::S=>by simp [zu,zCW S]
theorem zEh: ∀{S:List Stp} {q:Stp},q∈zu S-> ∃s∈S,s.1=q.1
 |(p,v)::S,q,h=>by
  rcases List.mem_cons.mp h with rfl | h
  ·exact ⟨(p,v),by simp,rfl⟩
  ·obtain ⟨s,hs,e⟩:=zEh h;exact ⟨s,by simp [hs],e⟩
theorem Sp.cons_iff{p p':Nat}{v v':Vec}{S T:List Stp}(h: ∀x,Sp T x↔Sp S x)(hv:Sp S (fun i=>zA v i - zA v' i))(x:Fn):Sp ((p',v')::T) x↔Sp ((p,v)::S) x:=by
 constructor
 ·rintro ⟨c,hc⟩;exact ⟨c,(Sp.lin 1 (-c) ((h _).mp hc) hv).congr fun i=>by grind⟩
 ·rintro ⟨c,hc⟩;exact ⟨c,(h _).mpr ((Sp.lin 1 c hc hv).congr fun i=>by grind)⟩
theorem zCE{n:Nat}: ∀{S:List Stp},Ech n S->Ech n (zu S)/\Red (zu S)/\ ∀x,Sp (zu S) x↔Sp S x
 | [],h=>⟨trivial,trivial,fun x=>Iff.rfl⟩
 |(p,v)::S,⟨h1,h2,h3,h4,h5,h6⟩=>by
  obtain ⟨e,r,s⟩:=zCE h6;obtain ⟨k1,k2,k3,k4⟩:=zd (r:=v) e h1;have hp: ∀q∈zu S,p<q.1:=fun q hq=>by
   obtain ⟨s,hs,e⟩:=zEh hq;rw [<-e];exact h5 s hs
  refine ⟨⟨k1,h2,by rw [k4 p hp];exact h3,fun j hj=>?_,hp,e⟩,⟨k3,r⟩,fun x=>Sp.cons_iff s ((s _).mp k2) x⟩;rw [k4 j fun q hq=>Nat.lt_trans hj (hp q hq)];exact h4 j hj
theorem zCS{n:Nat}(p:Nat): ∀{k:List Stp},Ech n k->k=k.filter (fun q=>decide (q.1<p))++k.filter (fun q=>decide (q.1=p))++k.filter (fun q=>decide (p<q.1))/\
  ((k.filter fun q=>decide (q.1=p))= [] \/ ∃v,(k.filter fun q=>decide (q.1=p))= [(p,v)])
 | [],_=>⟨rfl,.inl rfl⟩
 |(a,v)::k,⟨h1,h2,h3,h4,h5,h6⟩=>by
  obtain ⟨e,o⟩:=zCS p h6;have none:p<=a->k.filter (fun q=>decide (q.1<p))= [] /\k.filter (fun q=>decide (q.1=p))= [] /\k.filter (fun q=>decide (p<q.1))=k:=fun hpa=>by
   refine ⟨List.filter_eq_nil_iff.mpr fun q hq=>?_,List.filter_eq_nil_iff.mpr fun q hq=>?_,List.filter_eq_self.mpr fun q hq=>?_⟩
   all_goals have:=h5 q hq;simp;omega
  rcases Nat.lt_trichotomy a p with h | h | h
  ·have t: ¬a=p:=by omega
   have u: ¬p<a:=by omega
   simp only [List.filter_cons,h,t,u,decide_true,decide_false,if_true,Bool.false_eq_true,if_false,List.cons_append];exact ⟨by rw [<-e],o⟩
  ·subst h;obtain ⟨n1,n2,n3⟩:=none (zOh _);simp [List.filter_cons,n1,n2,n3]
  ·have t: ¬a=p:=by omega
   have u: ¬a<p:=by omega
   obtain ⟨n1,n2,n3⟩:=none (zPL h);simp [List.filter_cons,n1,n2,n3,t,u,h]
theorem zHh{n:Nat}: ∀{A B:List Stp},Ech n A->Ech n B->(∀a∈A,∀b∈B,a.1<b.1)->Ech n (A++B)
 | [],B,_,hB,_=>hB
 |(p,v)::A,B,⟨h1,h2,h3,h4,h5,h6⟩,hB,h=>⟨h1,h2,h3,h4,fun q hq=>by
   rcases List.mem_append.mp hq with z | z
   ·exact h5 q z
   ·exact h (p,v) (by simp) q z,zHh h6 hB fun a ha b hb=>h a (by simp [ha]) b hb⟩
theorem zAj{n:Nat}(f:Stp->Bool): ∀{k:List Stp},Ech n k->Ech n (k.filter f)
 | [],_=>trivial
 |(p,v)::k,⟨h1,h2,h3,h4,h5,h6⟩=>by
  rw [List.filter_cons];split
  ·exact ⟨h1,h2,h3,h4,fun q hq=>h5 q (List.mem_filter.mp hq).1,zAj f h6⟩
  ·exact zAj f h6
def zAD(k:List Stp)(p:Nat)(w:Vec):List Stp:=k.filter (fun q=>decide (q.1<p))++(p,w)::k.filter (fun q=>decide (p<q.1))
theorem zAQ{k:List Stp}{p:Nat}{w:Vec}{q:Stp}:q∈zAD k p w↔q=(p,w)\/(q∈k/\q.1≠p):=by
 simp only [zAD,List.mem_append,List.mem_cons,List.mem_filter,decide_eq_true_eq];constructor
 ·rintro (⟨h,z⟩| rfl |⟨h,z⟩)
  ·exact .inr ⟨h,by omega⟩
  ·exact .inl rfl
  ·exact .inr ⟨h,by omega⟩
 ·rintro (rfl |⟨h,z⟩)
  ·exact .inr (.inl rfl)
  ·rcases Nat.lt_or_gt_of_ne z with y | y
   ·exact .inl ⟨h,y⟩
   ·exact .inr (.inr ⟨h,y⟩)
theorem zHE{n:Nat}{k:List Stp}{p:Nat}{w:Vec}(h:Ech n k)(l:w.length=n)(hp:p<n)(h0:0<zA w p)(hz: ∀j,j<p->zA w j=0):Ech n (zAD k p w):=by
 refine zHh (zAj _ h) ⟨l,hp,h0,hz,fun q hq=>?_,zAj _ h⟩ fun a ha b hb=>?_
 ·simpa using (List.mem_filter.mp hq).2
 ·have h1:a.1<p:=by simpa using (List.mem_filter.mp ha).2
  rcases List.mem_cons.mp hb with rfl | hb
  ·exact h1
  ·have h2:p<b.1:=by simpa using (List.mem_filter.mp hb).2
   omega
theorem zLr{n:Nat}{k:List Stp}{p:Nat}{r:Vec}(hr:r.length=n)(hn: ∀q∈k,q.1≠p){sg:Int}(hs:sg=1\/sg= -1)(x:Fn):Sp (zAD k p (zM sg r 0 r)) x↔Sp ((0,r)::k) x:=by
 have e: ∀i,zA (zM sg r 0 r) i=sg*zA r i:=fun i=>by rw [yL rfl];simp
 constructor
 ·intro h;refine h.of fun q hq=>?_;rcases zAQ.mp hq with rfl |⟨hq,_⟩
  ·exact (Sp.smul sg Sp.head).congr fun i=>(e i).symm
  ·exact (Sp.mem hq).tail
 ·intro h;refine h.of fun q hq=>?_;rcases List.mem_cons.mp hq with rfl | hq
  ·refine (Sp.smul sg (Sp.mem (zAQ.mpr (.inl rfl)))).congr fun i=>?_;show sg*zA (zM sg r 0 r) i=zA r i;rw [e];rcases hs with rfl | rfl<;>grind
  ·exact Sp.mem (zAQ.mpr (.inr ⟨hq,hn q hq⟩))
theorem zMB{n:Nat}{k:List Stp}{p:Nat}{r own:Vec}(hk:Ech n k)(hr:r.length=n)(ho:(p,own)∈k)(hz: ∀j,j<p->zA r j=0){g f1 f2:Int}(g0:0<g)(d1:g∣zA r p)(d2:g∣zA own p)(hf:f1*zA r p+f2*zA own p=g):
  Ech n (zAD k p (zM f1 r f2 own))/\(zR (zM (zA own p/g) r (-(zA r p/g)) own) (k.filter fun q=>decide (p<q.1))).length=n/\
  (∀j,j<=p->zA (zR (zM (zA own p/g) r (-(zA r p/g)) own) (k.filter fun q=>decide (p<q.1))) j=0)/\
  ∀x,Sp ((0,zR (zM (zA own p/g) r (-(zA r p/g)) own) (k.filter fun q=>decide (p<q.1)))::zAD k p (zM f1 r f2 own)) x↔Sp ((0,r)::k) x:=by
 obtain ⟨o1,o2,o3,o4⟩:=hk.mem ho;simp only at o1 o2 o3 o4;obtain ⟨s,es⟩:=d1;obtain ⟨t,et⟩:=d2;have hs:zA r p/g=s:=by rw [es];exact Int.mul_ediv_cancel_left _ (by omega)
 have ht:zA own p/g=t:=by rw [et];exact Int.mul_ediv_cancel_left _ (by omega)
 have one:f1*s+f2*t=1:=by
  have:g*(f1*s+f2*t)=g*1:=by rw [es,et] at hf;grind
  exact Int.eq_of_mul_eq_mul_left (by omega) this
 rw [hs,ht];have eN:=fun i=>yL (a:=f1) (b:=f2) (u:=r) (v:=own) (by omega) i;have eM:=fun i=>yL (a:=t) (b:= -s) (u:=r) (v:=own) (by omega) i;have lM:(zM t r (-s) own).length=n:=zY hr o1;have hB:=zAj (fun q=>decide (p<q.1)) hk;obtain ⟨k1,k2,k3,k4⟩:=zd (r:=zM t r (-s) own) hB lM;have mB: ∀q∈k.filter (fun q=>decide (p<q.1)),q∈k/\p<q.1:=fun q hq=>by
  have:=List.mem_filter.mp hq;exact ⟨this.1,by simpa using this.2⟩
 refine ⟨zHE hk (zY hr o1) o2 (by rw [eN,hf];exact g0) (fun j hj=>by rw [eN,hz j hj,o4 j hj];simp),k1,fun j hj=>?_,fun x=>⟨fun h=>h.of fun q hq=>?_,fun h=>h.of fun q hq=>?_⟩⟩
 ·rw [k4 j fun q hq=>by have:=(mB q hq).2;omega,eM];rcases Nat.lt_or_eq_of_le hj with z | rfl
  ·rw [hz j z,o4 j z];simp
  ·rw [es,et];grind
 ·rcases List.mem_cons.mp hq with rfl | hq
  ·have b:Sp ((0,r)::k) (fun i=>zA (zM t r (-s) own) i - zA (zR (zM t r (-s) own) (k.filter fun q=>decide (p<q.1))) i):=k2.of fun q hq=>(Sp.mem (mB q hq).1).tail;have a:Sp ((0,r)::k) (fun i=>t*zA r i+ -s*zA own i):=Sp.lin t (-s) Sp.head (Sp.mem ho).tail;exact (Sp.sub a b).congr fun i=>by simp only;rw [eM];grind
  ·rcases zAQ.mp hq with rfl |⟨hq,_⟩
   ·exact (Sp.lin f1 f2 Sp.head (Sp.mem ho).tail).congr fun i=>(eN i).symm
   ·exact (Sp.mem hq).tail
 ·have cN:Sp ((0,zR (zM t r (-s) own) (k.filter fun q=>decide (p<q.1)))::zAD k p (zM f1 r f2 own)) (zA (zM f1 r f2 own)):=(Sp.mem (zAQ.mpr (.inl rfl))).tail;have cM:Sp ((0,zR (zM t r (-s) own) (k.filter fun q=>decide (p<q.1)))::zAD k p (zM f1 r f2 own)) (zA (zM t r (-s) own)):=by
   have b:Sp ((0,zR (zM t r (-s) own) (k.filter fun q=>decide (p<q.1)))::zAD k p (zM f1 r f2 own)) (fun i=>zA (zM t r (-s) own) i - zA (zR (zM t r (-s) own) (k.filter fun q=>decide (p<q.1))) i):=k2.of fun q hq=>(Sp.mem (zAQ.mpr (.inr ⟨(mB q hq).1,by have:=(mB q hq).2;omega⟩))).tail;exact (Sp.add b Sp.head).congr fun i=>by omega
  rcases List.mem_cons.mp hq with rfl | hq
  ·refine (Sp.lin s f2 cN cM).congr fun i=>?_;rw [eN,eM];have:zA r i*(f1*s+f2*t)=zA r i:=by rw [one];simp
   grind
  ·by_cases hp:q.1=p
   ·have:q=(p,own):=by
     obtain ⟨_,o⟩:=zCS p hk;have m1:q∈k.filter (fun q=>decide (q.1=p)):=List.mem_filter.mpr ⟨hq,by simpa using hp⟩;have m2:(p,own)∈k.filter (fun q=>decide (q.1=p)):=List.mem_filter.mpr ⟨ho,by simp⟩;rcases o with o |⟨v,o⟩
     ·rw [o] at m1;cases m1
     ·rw [o] at m1 m2;rw [List.mem_singleton.mp m1,List.mem_singleton.mp m2]
    subst this;refine (Sp.lin t (-f1) cN cM).congr fun i=>?_;rw [eN,eM];have:zA own i*(f1*s+f2*t)=zA own i:=by rw [one];simp
    grind
   ·exact (Sp.mem (zAQ.mpr (.inr ⟨hq,hp⟩))).tail
theorem zEB{n V:Nat}: ∀{S:List Stp} {r:Vec} {b:Nat},Ech n S->r.length=n->Bts b r->(∀q∈S,Bts V q.2)->Bts (b+S.length*(V+1)) (zR r S)
 | [],r,b,_,_,hb,_=>by simpa [zR] using hb
 |(p,v)::S,r,b,⟨h1,h2,h3,h4,h5,h6⟩,hr,hb,hV=>by
  have hv:=hV (p,v) (by simp);have hm:Bts (b+(V+1)) (zM 1 r (-(zA r p/zA v p)) v):=fun i=>by
   rw [yL (by omega)];have hq:(-(zA r p/zA v p)).natAbs<=(zA r p).natAbs:=by
    rw [Int.natAbs_neg];exact Int.natAbs_ediv_le_natAbs _ _
   have t1:Bt (b+V) (1*zA r i):=by rw [Int.one_mul];exact (hb i).mono (by omega)
   have t2:Bt (b+V) (-(zA r p/zA v p)*zA v i):=Bt.mul (Bt.le (hb p) hq) (hv i);exact (t1.add t2).mono (by omega)
  have:=zEB (b:=b+(V+1)) h6 (zY hr h1) hm fun q hq=>hV q (by simp [hq]);show Bts _ (zR (zM 1 r (-(zA r p/zA v p)) v) S);refine this.mono ?_;simp only [List.length_cons,Nat.add_mul,Nat.one_mul];omega
theorem zBD{n:Nat}{S:List Stp}(h:Ech n S):S.length<=n:=by
 have: ∀{S:List Stp} {a:Nat},Ech n S->(∀q∈S,a<=q.1)->S.length+a<=n\/S= [] :=fun {S}=>by
  induction S with
  | nil=>exact fun _ _=> .inr rfl
  | cons q S ih=>
   obtain ⟨p,v⟩:=q;rintro a ⟨h1,h2,h3,h4,h5,h6⟩ ha;have hp:=ha (p,v) (by simp);simp only at hp;rcases ih (a:=p+1) h6 (fun q hq=>h5 q hq) with h | h
   ·exact .inl (by simp only [List.length_cons];omega)
   ·subst h;exact .inl (by simp;omega)
 rcases this (a:=0) h (fun _ _=>zOs _) with h | h
 ·omega
 ·rw [h];exact zOs _
theorem zMr{a c:Nat}{x y:Int}(hx:Bt a x)(hy:Bt c y)(h:0<y):Bt c (zv x y).1/\Bt c (zv x y).2.1/\Bt (a+1) (zv x y).2.2:=by
 obtain ⟨g0,d1,d2,e,f0,f1,q0⟩:=zAE (one:=x) h;have gy:(zv x y).1<=y:=Int.le_of_dvd h d2;have qy:y/(zv x y).1<=y:=Int.ediv_le_self _ (by omega);refine ⟨hy.le (by omega),hy.le (by omega),?_⟩;generalize (zv x y).2.1=f at*;generalize (zv x y).2.2=t at*;generalize (zv x y).1=g at*;have h1:(t*y).natAbs<=y.natAbs*(x.natAbs+1):=by
  have:t*y=g - f*x:=by omega
  rw [this];have a1:(g - f*x).natAbs<=g.natAbs+(f*x).natAbs:=by omega
  have a2:(f*x).natAbs<=y.natAbs*x.natAbs:=by rw [Int.natAbs_mul];exact Nat.mul_le_mul (by omega) (zOh _)
  rw [Nat.mul_add];omega
 rw [Int.natAbs_mul,Nat.mul_comm] at h1;have h2:=Nat.le_of_mul_le_mul_left h1 (by omega);have hx':x.natAbs<=2^a:=hx;have one:1<=2^a:=Nat.one_le_two_pow;show t.natAbs<=2^(a+1);rw [Nat.pow_succ];omega
theorem zHC{u v:Vec}{x y:Int}{k l b c:Nat}(h:u.length=v.length)(h1:Bt k x)(h2:Bts b u)(h3:Bt l y)(h4:Bts c v):Bts (Nat.max (k+b) (l+c)+1) (zM x u y v):=fun i=>by
 rw [yL h];exact ((h1.mul (h2 i)).mono (Nat.le_max_left _ _)).add ((h3.mul (h4 i)).mono (Nat.le_max_right _ _))
def Cs(G:List Vec):List Stp:=G.map (Prod.mk 0)
theorem zGz{n p:Nat}{e:Vec}(he:e.length=n): ∀{G:List Vec} {y:Fn},(∀g∈G,g.length=n)->Sp (Cs G) y->Sp (Cs (G.map (cross e p))) (fun i=>zA e p*y i - y p*zA e i)
 | [],y,_,h=>fun i=>by show zA e p*y i - y p*zA e i=0;rw [h i,h p];simp
 | g::G,y,hl,⟨c,h⟩=>by
  have ih:=zGz (p:=p) he (fun g hg=>hl g (by simp [hg])) h;refine ⟨c,ih.congr fun i=>?_⟩;show zA e p*(y i - c*zA g i) -(y p - c*zA g p)*zA e i=zA e p*y i - y p*zA e i - c*zA (cross e p g) i;rw [zCv he (hl g (by simp))]
  grind
def pw:Nat->Nat->Nat
 | 0,_=>0
 | k+1,b=>b+2+pw k (2*b+1)
def pvb:Nat->Nat->Nat
 | 0,b=>b
 | k+1,b=>pvb k (2*b+1)
theorem zIi: ∀(k:Nat) (b:Nat),b<=pvb k b
 | 0,_=>zOh _
 | k+1,b=>zOr (by omega) (zIi k (2*b+1))
theorem zDG{n:Nat}: ∀(S:List Stp) (G:List Vec) (b:Nat),Ech n S->(∀g∈G,g.length=n/\Bts b g)->(∀g∈G,Sp S (zA g))->(∀x,Sp S x-> ∃d:Int,d≠0/\Sp (Cs G) (fun i=>d*x i))->
  (∀q∈S,Bt (pvb S.length b) (zA q.2 q.1))/\ ∀(x:Fn) (B:Nat),Sp S x->(∀q∈S,Bt B (x q.1))-> ∀i,Bt (B+pw S.length b) (x i)
 | [],G,b,_,_,_,_=>⟨fun q hq=>(nomatch hq),fun x B h _ i=>by rw [h i];exact Bt.zero⟩
 |(p,v)::S,G,b,hE,hG,hS,hQ=>by
  have hE':=hE;obtain ⟨h1,h2,h3,h4,h5,h6⟩:=hE;obtain ⟨e,he,hp⟩: ∃e∈G,zA e p≠0:=by
   refine Classical.byContradiction fun z=>?_;have zz: ∀g∈G,zA g p=0:=fun g hg=>Classical.byContradiction fun y=>z ⟨g,hg,y⟩;obtain ⟨d,hd,hs⟩:=hQ (zA v) Sp.head;have: ∀{G:List Vec} {y:Fn},(∀g∈G,zA g p=0)->Sp (Cs G) y->y p=0:=fun {G}=>by
    induction G with
    | nil=>exact fun _ h=>h p
    | cons g G ih=>
     rintro y hg ⟨c,h⟩;have:=ih (fun g h=>hg g (by simp [h])) h;simp only [hg g (by simp),Int.mul_zero,Int.sub_zero] at this;exact this
   have:=this zz hs;rcases Int.mul_eq_zero.mp this with y | y
   ·exact hd y
   ·omega
  obtain ⟨le,be⟩:=hG e he;have hlin: ∀x,Sp ((p,v)::S) x->Sp S (fun i=>zA e p*x i - x p*zA e i):=fun x hx=>
   Sp.rest hE' ((Sp.lin (zA e p) (-(x p)) hx (hS e he)).congr fun i=>by grind) (by grind)
  obtain ⟨i1,i2⟩:=zDG S (G.map (cross e p)) (2*b+1) h6 (fun g' hg'=>by
    obtain ⟨g,hg,rfl⟩:=List.mem_map.mp hg';exact ⟨zDE le (hG g hg).1,zEH le (hG g hg).1 be (hG g hg).2⟩) (fun g' hg'=>by
    obtain ⟨g,hg,rfl⟩:=List.mem_map.mp hg';exact (hlin _ (hS g hg)).congr fun i=>by rw [zCv le (hG g hg).1]) (fun x hx=>by
    obtain ⟨d,hd,hs⟩:=hQ x hx.tail;have hx0:x p=0:=Sp.ahead (j:=p) h6 hx h5;refine ⟨zA e p*d,Int.mul_ne_zero hp hd,(zGz le (fun g hg=>(hG g hg).1) hs).congr fun i=>?_⟩;rw [hx0];grind)
  refine ⟨fun q hq=>?_,fun x B hx hB i=>?_⟩
  ·rcases List.mem_cons.mp hq with rfl | hq
   ·have dv:=Sp.dvd hE' (hS e he) (q:=(p,v)) (by simp) (fun s hs hlt=>by
     rcases List.mem_cons.mp hs with rfl | hs
     ·exact absurd hlt (Nat.lt_irrefl _)
     ·have h1:=h5 s hs;have h2:s.1<p:=hlt;omega)
    have:(zA v p).natAbs<=(zA e p).natAbs:=Nat.le_of_dvd (by omega) (Int.natAbs_dvd_natAbs.mpr dv);exact ((be p).le this).mono (zIi _ _)
   ·exact i1 q hq
  ·have k:=i2 _ (B+b+1) (hlin x hx) (fun q hq=>by
    have t1:Bt (B+b) (zA e p*x q.1):=((be p).mul (hB q (by simp [hq]))).mono (by omega);have t2:Bt (B+b) (x p*zA e q.1):=(hB (p,v) (by simp)).mul (be q.1);have:=t1.add t2.neg
    rwa [<-Int.sub_eq_add_neg] at this) i
   have t3:Bt (B+b) (x p*zA e i):=(hB (p,v) (by simp)).mul (be i);have t4:=(k.mono (show _<=B+b+1+pw S.length (2*b+1) by omega)).add (t3.mono (show _<=B+b+1+pw S.length (2*b+1) by omega));have e2:zA e p*x i - x p*zA e i+x p*zA e i=zA e p*x i:=by omega
   rw [e2] at t4;have:(x i).natAbs<=(zA e p*x i).natAbs:=by
    rw [Int.natAbs_mul];exact Nat.le_mul_of_pos_left _ (by omega)
   refine (t4.le this).mono ?_;show _<=B+(b+2+pw S.length (2*b+1));omega
structure NF(n:Nat)(G:List Vec)(T:List Stp):Prop where
 ech:Ech n T
 red:Red T
 sp: ∀x,Sp T x↔Sp (Cs G) x
 len:T.length<=G.length
def NB(b:Nat):Nat:=127*b+140
theorem zFx{n b:Nat}{G:List Vec}{T:List Stp}(he:Ech n T)(hr:Red T)(hs: ∀x,Sp T x↔Sp (Cs G) x)(hn:n<=6)(hG: ∀g∈G,g.length=n/\Bts b g): ∀q∈T,Bts (NB b) q.2:=fun q hq i=>by
 have l6:T.length<=6:=zOr (zBD he) hn;obtain ⟨k1,k2⟩:=zDG T G b he hG (fun g hg=>(hs _).mpr (Sp.mem (q:=(0,g)) (List.mem_map.mpr ⟨g,hg,rfl⟩))) (fun x hx=>⟨1,by decide,((hs x).mp hx).congr fun i=>by simp⟩);have hp: ∀k,k<=6-> ∀b,pvb k b<=64*b+63/\pw k b<=63*b+69:=fun k hk b=>by
  have:k=0\/k=1\/k=2\/k=3\/k=4\/k=5\/k=6:=by omega
  rcases this with rfl | rfl | rfl | rfl | rfl | rfl | rfl<;>simp only [pvb,pw] <;>omega
 have h1:=hp _ l6 b;have:=k2 (zA q.2) (64*b+63) (Sp.mem hq) (fun r hr'=>by
  have m:=zFQ he hr q hq r hr';exact zEp ((k1 r hr').mono h1.1) (by omega) m.2) i
 exact this.mono (by unfold NB;omega)
theorem zMj{n b:Nat}{G:List Vec}{T:List Stp}(he:Ech n T)(hr:Red T)(hs: ∀x,Sp T x↔Sp (Cs G) x)(hn:n<=6)(hG: ∀g∈G,g.length=n/\Bts b g){f:Vec}(lf:f.length=n)(bf:Bts b f):Bts (NB b+2) (zR f T):=fun i=>by
 have l6:T.length<=6:=zOr (zBD he) hn;obtain ⟨k1,k2⟩:=zDG T G b he hG (fun g hg=>(hs _).mpr (Sp.mem (q:=(0,g)) (List.mem_map.mpr ⟨g,hg,rfl⟩))) (fun x hx=>⟨1,by decide,((hs x).mp hx).congr fun i=>by simp⟩);have hp: ∀k,k<=6-> ∀b,pvb k b<=64*b+63/\pw k b<=63*b+69:=fun k hk b=>by
  have:k=0\/k=1\/k=2\/k=3\/k=4\/k=5\/k=6:=by omega
  rcases this with rfl | rfl | rfl | rfl | rfl | rfl | rfl<;>simp only [pvb,pw] <;>omega
 have h1:=hp _ l6 b;obtain ⟨m1,m2,m3,m4⟩:=zd (r:=f) he lf;have x:=k2 _ (64*b+64) m2 (fun q hq=>by
  have m:=m3 q hq;have t1:Bt (64*b+63) (zA f q.1):=(bf q.1).mono (by omega);have t2:Bt (64*b+63) (zA (zR f T) q.1):=zEp ((k1 q hq).mono h1.1) (by omega) (by omega);have:=t1.add t2.neg
  rwa [<-Int.sub_eq_add_neg] at this) i
 have t3:=(x.mono (show _<=127*b+133 by omega)).neg;have t4:=((bf i).mono (show b<=127*b+133 by omega)).add t3;rw [show zA f i+ -(zA f i - zA (zR f T) i)=zA (zR f T) i by omega] at t4;exact t4.mono (by unfold NB;omega)
theorem Sp.perm{A B:List Stp}(h: ∀q,q∈A↔q∈B)(x:Fn):Sp A x↔Sp B x:=⟨fun z=>z.of fun q hq=>Sp.mem ((h q).mp hq),fun z=>z.of fun q hq=>Sp.mem ((h q).mpr hq)⟩
theorem zNn(n:Nat):NF n [] [] :=⟨trivial,trivial,fun x=>Iff.rfl,zOh _⟩
theorem zHI{n:Nat}{G:List Vec}{T T':List Stp}{v:Vec}(h:NF n G T)(s: ∀x,Sp T' x↔Sp ((0,v)::T) x)(x:Fn):Sp T' x↔Sp (Cs (G++ [v])) x:=by
 refine (s x).trans ((Sp.cons_iff (v:=v) (p:=0) (p':=0) (S:=Cs G) h.sp (Sp.zero _ fun i=>by omega) x).trans (Sp.perm (fun q=>?_) x));simp only [Cs,zOz,List.map_cons,List.map_nil,List.mem_append,List.mem_cons,List.not_mem_nil,or_false];exact Or.comm
theorem NF.uniq{n:Nat}{G G':List Vec}{T T':List Stp}(h:NF n G T)(h':NF n G' T')(e: ∀x,Sp (Cs G) x↔Sp (Cs G') x):T=T':=
 Ech.uniq h.ech h.red h'.ech h'.red fun x=>(h.sp x).trans ((e x).trans (h'.sp x).symm)
theorem zJN{n:Nat}{T:List Stp}{f g:Vec}(h:Ech n T)(hf:f.length=n)(hg:g.length=n)(e:Sp T (fun i=>zA f i - zA g i)):zR f T=zR g T:=by
 obtain ⟨a1,a2,a3,a4⟩:=zd h hf;obtain ⟨b1,b2,b3,b4⟩:=zd h hg;refine zEu (by omega) fun i=>?_;have:Sp T (fun i=>zA (zR f T) i - zA (zR g T) i):=(Sp.lin 1 1 (Sp.sub e a2) b2).congr fun i=>by omega
 have:=Sp.small h this (fun q hq=>by
  have:=a3 q hq;have:=b3 q hq;constructor<;>omega) i
 omega
end FrV
namespace Fr
open PySem PySem.Spec PyProof.Rows L2 FrM FrV
section
variable {P:Program}{w:World}{K:zPS}{mg:Str->Option Value}{base:Heap}
theorem LIs.butp{H H':Hp}{as:List Addr}{vs:List Vec}{p:Addr}(h:LIs H as vs)(b:But [p] H H')(hp:p∉as):LIs H' as vs:=
 Paired.mapM h fun a v ha e=>b _ _ e (by simp only [List.mem_singleton];exact fun z=>hp (z▸ha))
def zl(W:List Vec)(j:Nat):Vec:=W.map fun x=>zA x j
theorem yB{W:List Vec}{j:Nat}:(zl W j).length=W.length:=by simp [zl]
theorem zEC{K:zPS}{H:Hp}{l D:Addr}{as:List Addr}{R:List Vec}{j:Nat}{jv:Int}{suf rest:L2.St}{Q:VK}(el:H l=some (.lst (as.map V.ref)))(has:LIs H as R)(hj: ∀x∈R,j<x.length)(hl:R.length<=1000)(hD:H D=none)(hv:jv=(j:Int))(hs:suf=some (.int jv)::rest)
  (q:Q (.ref D) (L2.upd H D (.lst ((zl R j).map V.int)))):CompInv (Itl K l) (yH 0) (fun _ H Q=>Q true H) (yR (zCp K) (zp 0) (zp 1)) 1 suf H D Q:=by
 subst hs hv;have la:=Paired.len has;refine zU as.length (fun i ys H'=>i<=as.length/\ys=((zl R j).take i).map V.int/\H'=L2.upd H D (.lst ys)) ⟨zOs _,by simp,rfl⟩ (by rw [zOo];omega) ?_ ?_ ?_
 ·rintro i ys H2 hi ⟨_,rfl,rfl⟩;have e2:=zC.upd hD (o:= .lst (((zl R j).take i).map V.int)) _ _ el;exact ⟨by simp;omega,zB,fun h=>⟨_,_,SqL.of e2,zOd (by simpa using h)⟩,fun h=>⟨_,SqL.of e2,by simp;omega⟩⟩
 ·rintro i ys H2 x H3 hi ⟨_,rfl,rfl⟩ ⟨rfl,hx⟩ pre hpre;obtain ⟨p0,rfl⟩:=yX hpre;have s2:=zC.upd hD (o:= .lst (((zl R j).take i).map V.int));have hx':=hx _ (SqL.of (s2 _ _ el));rw [zOi,zOd hi] at hx';cases hx';obtain ⟨u,eu,hu⟩:=Paired.get' has (zOd hi);refine ⟨⟨[some (.ref as[i])],rfl,rfl⟩,yC ?_⟩;refine ⟨_,rfl,_,rfl,as[i],_,_,_,rfl,rfl,SqL.of (hu.same s2),zh (zS (hj u (zPH eu))),zB,hi,?_,by rw [zx]⟩;rw [zPA,zl,zOi,eu];simp
 ·rintro ys H2 ⟨_,rfl,rfl⟩;rw [List.take_of_length_le (by rw [yB];omega)];exact q
theorem Bts.take'{b:Nat}{v:Vec}(h:Bts b v)(k:Nat):Bts b (v.take k):=fun i=>by
 by_cases hi:i<k
 ·rw [show zA (v.take k) i=zA v i by simp [zA,List.getElem?_take,hi]];exact h i
 ·rw [show zA (v.take k) i=0 by simp [zA,List.getElem?_take,hi]];exact zOs _
theorem Bts.col{b:Nat}{W:List Vec}(h: ∀x∈W,Bts b x)(j:Nat):Bts b (zl W j):=fun i=>by
 by_cases hi:i<W.length
 ·rw [show zA (zl W j) i=zA W[i] j by simp [zA,zl,zOd hi]];exact h _ (zPI hi) j
 ·rw [yE (by rw [yB];omega)];exact zOs _
theorem zLh{b:Bool}{ta tb:TE}{σ:L2.St}{H:Hp}{Q:VK}(v:V)(h1:b=true-> ∀Q':VK,Q' v H->ta σ H Q')(h2:b=false-> ∀Q':VK,Q' v H->tb σ H Q')(q:Q v H):if b=true then ta σ H Q else tb σ H Q:=by
 cases b
 ·exact zAW (h2 rfl Q q)
 ·exact yC (h1 rfl Q q)
theorem zHn{b:Bool}{t u:TS}{D:Ends}{σ:L2.St}{H:Hp}(P:L2.St->Hp->Prop)(h1:b=true-> ∀N:L2.St->Hp->Prop,(∀σ' H',P σ' H'->N σ' H')->t {D with nx:=N} σ H)(h2:b=false-> ∀N:L2.St->Hp->Prop,(∀σ' H',P σ' H'->N σ' H')->u {D with nx:=N} σ H)(q: ∀σ' H',P σ' H'->D.nx σ' H'):if b=true then t D σ H else u D σ H:=by
 cases b
 ·exact zAW (h2 rfl D.nx q)
 ·exact yC (h1 rfl D.nx q)
theorem zLl{K:zPS}{H:Hp}{l D:Addr}{v:Vec}{suf:L2.St}{Q:VK}(hv:LI H l v)(hl:v.length<=1000)(hD:H D=none)
  (q:Q (.ref D) (L2.upd H D (.lst ((v.filter fun z=>!decide (z=0)).map V.int)))):CompInv (Itl K l) (yH 0) (zBi (yR rNe (zp 0) (tC (V.int 0)))) (zp 0) 1 suf H D Q:=by
 refine zU v.length (fun i ys H'=>i<=v.length/\ys=((v.take i).filter fun z=>!decide (z=0)).map V.int/\H'=L2.upd H D (.lst ys)) ⟨zOs _,by simp,rfl⟩ (by rw [zOo];omega) ?_ ?_ ?_
 ·rintro i ys H2 hi ⟨_,rfl,rfl⟩;have e2:=hv.same (zC.upd hD (o:= .lst (((v.take i).filter fun z=>!decide (z=0)).map V.int)));have:=List.length_filter_le (fun z=>!decide (z=0)) (v.take i);rw [List.length_take] at this;exact ⟨by rw [zOk];omega,zB,fun h=>⟨_,_,SqL.of e2,zS h⟩,fun h=>⟨_,SqL.of e2,by simp;omega⟩⟩
 ·rintro i ys H2 x H3 hi ⟨_,rfl,rfl⟩ ⟨rfl,hx⟩ pre hpre;obtain ⟨p0,rfl⟩:=yX hpre;have hx':=hx _ (SqL.of (hv.same (zC.upd hD (o:= .lst (((v.take i).filter fun z=>!decide (z=0)).map V.int)))));rw [zS hi] at hx';cases hx';refine ⟨⟨[some (.int (zA v i))],rfl,rfl⟩,?_⟩;refine ⟨_,rfl,rfl,_,rfl,yl (fun c=>?_) (fun c=>?_)⟩
  ·have c':zA v i≠0:=by simpa using c
   refine ⟨_,rfl,zB,hi,?_,by rw [zx]⟩;rw [zBm hi,List.filter_append];simp [c']
  ·have c':zA v i=0:=by simpa using c
   refine ⟨hi,?_,rfl⟩;rw [zBm hi,List.filter_append];simp [c']
 ·rintro ys H2 ⟨_,rfl,rfl⟩;rw [zPC];exact q
theorem zBF{K:zPS}{H:Hp}{l D:Addr}{R:List Vec}{suf:L2.St}{Q:VK}(hR:LL H l R)(hl:R.length<=1000)(hD:H D=none)
  (q: ∀rs H',zC H H'->H' D=some (.lst (rs.map V.ref))->LIs H' rs R->(∀a∈rs,H a=none)/\rs.Nodup/\D∉rs->Q (.ref D) H'):CompInv (Itl K l) (yH 0) (fun _ H Q=>Q true H) (tCB (fun xs H Q=> ∃p ys,xs= [V.ref p] /\(SqL K H p ys\/SqT K H p ys)/\ ∀l,H l=none->Q (V.ref l) (upd H l (HO.lst ys))) (zAo (zp 0) zCG)) 1 suf H D Q:=by
 obtain ⟨as,el,has⟩:=hR;have la:=Paired.len has;refine zU as.length (fun i ys H'=> ∃rs:List Addr,i<=as.length/\ys=rs.map V.ref/\LIs H' rs (R.take i)/\rs.length=i/\D∉rs/\(∀a∈rs,H a=none)/\rs.Nodup/\zC H H'/\H' D=some (.lst ys)) ⟨[],zOs _,rfl,by rw [List.take_zero];exact .nil,rfl,by simp,by simp,.nil,zC.upd hD,zB⟩ (by rw [zOo];omega) ?_ ?_ ?_
 ·rintro i ys H1 hi ⟨rs,_,rfl,_,hrl,_,_,_,s1,e1⟩;have e2:=s1 _ _ el;exact ⟨by simp;omega,e1,fun h=>⟨_,_,SqL.of e2,zOd (by simpa using h)⟩,fun h=>⟨_,SqL.of e2,by simp;omega⟩⟩
 ·rintro i ys H1 x H2 hi ⟨rs,_,rfl,hrs,hrl,hnd,hno,hdp,s1,e1⟩ ⟨rfl,hx⟩ pre hpre;obtain ⟨p0,rfl⟩:=yX hpre;have hx':=hx _ (SqL.of (s1 _ _ el));rw [zOi,zOd hi] at hx';cases hx';obtain ⟨u,eu,hu⟩:=Paired.get' has (zOd hi);refine ⟨⟨[some (.ref as[i])],rfl,rfl⟩,yC ?_⟩;refine ⟨_,rfl,as[i],_,rfl,.inl (SqL.of (hu.same s1)),fun p hp=>?_⟩;have sc:=zC.upd hp (o:= .lst (u.map V.int));have hne:p≠D:=fun z=>by rw [z,e1] at hp;cases hp
  refine ⟨sc _ _ e1,rs++ [p],hi,by simp,?_,by simp [hrl],by simp [hnd,Ne.symm hne],fun a ha=>?_,?_,zC.store (s1.trans sc) hD,zB⟩
  ·rw [zPA,eu];refine Paired.snoc' (Paired.mapM hrs fun a v hm ea=>?_) ?_
   ·have z:=sc _ _ ea;show L2.upd _ D _ a=_;rw [zG fun haD=>hnd (by rw [<-haD];exact hm)];exact z
   ·show L2.upd _ D _ p=_;rw [zG hne,zB]
  ·rcases List.mem_append.mp ha with h | h
   ·exact hno a h
   ·rw [List.mem_singleton.mp h];exact zC.none s1 hp
  ·refine List.nodup_append.mpr ⟨hdp,by simp,fun a ha b hb=>?_⟩;rw [List.mem_singleton.mp hb];obtain ⟨j,hj⟩:=List.mem_iff_getElem?.mp ha;obtain ⟨v,_,hv⟩:=Paired.get' hrs hj;exact fun z=>by rw [<-z,show _=some _ from hv] at hp;cases hp
 ·rintro ys H1 ⟨rs,_,rfl,hrs,_,hnd,hno,hdp,s1,e1⟩;rw [List.take_of_length_le (by omega)] at hrs;exact q rs _ s1 e1 hrs ⟨hno,hdp,hnd⟩
theorem zMZ{K:zPS}{H:Hp}{p q:Addr}{R:List Vec}{b:Bool}{Q:VK}(h1:LL H p R)(h2:LL H q R)(hq:Q (.bl b) H):zHd K b (.ref p) (.ref q) H Q:=by
 obtain ⟨as,e1,hs1⟩:=h1;obtain ⟨bs',e2,hs2⟩:=h2;refine ⟨p,q,as,bs',fun i=>(R.getD i []).map V.int,rfl,rfl,SqL.of e1,SqL.of e2,by rw [Paired.len hs1,Paired.len hs2],fun i a h=>?_,fun i a h=>?_,fun i x hx=>?_,hq⟩
 ·obtain ⟨v,ev,hv⟩:=Paired.get' hs1 h;show SqL K H a (((R[i]?).getD []).map V.int);rw [ev];exact SqL.of hv
 ·obtain ⟨v,ev,hv⟩:=Paired.get' hs2 h;show SqL K H a (((R[i]?).getD []).map V.int);rw [ev];exact SqL.of hv
 ·obtain ⟨z,_,rfl⟩:=List.mem_map.mp hx;rfl
theorem LL.at{H:Hp}{l:Addr}{vs:List Vec}(h:LL H l vs): ∃ys,H l=some (.lst ys)/\ys.length=vs.length:=let ⟨as,e,p⟩:=h;⟨_,e,by rw [zOk,Paired.len p]⟩
theorem zIo(k i:Nat):zA (List.replicate k (0:Int)) i=0:=by
 by_cases h:i<k
 ·simp [zA,List.getElem?_replicate,h]
 ·exact yE (by simp;omega)
theorem zJk{v:Vec}{n i:Nat}:zA (v.take n) i=if i<n then zA v i else 0:=by
 by_cases h:i<n
 ·simp [zA,List.getElem?_take,h]
 ·simp [zA,List.getElem?_take,h]
theorem zCg{b1:Bool}{u:TT}{σ:L2.St}{H:Hp}{Q:Bool->Hp->Prop}(b2:Bool)(h:b1=true-> ∀Q':Bool->Hp->Prop,Q' b2 H->u σ H Q')(q:Q (b1&&b2) H):if b1=true then u σ H Q else Q false H:=by
 cases b1
 ·exact zAW q
 ·exact yC (h rfl Q q)
theorem zIe{n j:Nat}(h:j<n):ixN n (j:Int)=some j:=by
 rw [ixN,if_pos (by omega),if_pos (by omega)];rfl
end
section
variable {P:Program}{w:World}{K:zPS}{mg:Str->Option Value}{base:Heap}
def zHY(v:Vec)(pv:V):Prop:=(pv= .non/\ ∀i,zA v i=0)\/ ∃p:Nat,pv= .int (p:Int)/\p<v.length/\zA v p≠0/\ ∀j,j<p->zA v j=0
def zFA:Sp:=fun vs H Q _=> ∃(a:Addr) (v:Vec),vs= [.ref a] /\LI H a v/\v.length<=1000/\ ∀pv H',zC H H'->zHY v pv->Q pv H'
theorem zEw:FnScope ["vector","place","number"] ["vector"] (zI zDJ):=⟨rfl,rfl,rfl,by decide+kernel,rfl,by decide+kernel,by decide+kernel⟩
theorem zJo{f:Addr}{fd:FuncData}(F:Fun K "first_place" "first_place" zDJ f fd)(B:Bn mg):FnOk P w K mg base CX0 1 f fd ["vector"] zFA:=by
 refine F.ok zEw (fun vs H Q E h=>?_) (fun cdv A outer s H vs Q E hr h=>?_)
 ·obtain ⟨a,v,rfl,_⟩:=h;rfl
 ·obtain ⟨a,v,rfl,ha,hl,q⟩:=h;refine ⟨_,QB.out (zE
   (zAA PassesOwn.never rfl (zGt (K:=K) rfl rfl B.enumerate (qc (qw 0 rfl) zD rfl) rfl) (zAt (K:=K) (n:=2) rfl rfl (yJ (zH 1 zEw.nd rfl (Or.inl rfl) (.inr rfl)) (yJ (zH 2 zEw.nd rfl (Or.inl rfl) (.inr rfl)) zAs rfl) rfl) rfl rfl) (zJ
    (yW (zf zAr (qw 2 rfl) zF rfl) (zJ
     (zZ (qw 1 rfl))) yS)) (fun _=>rfl)) (zJ
   (zZ zDq))),?_⟩
  refine ⟨_,rfl,a,rfl,⟨_,SqL.of ha⟩,?_⟩;refine yd v.length (fun i σ H'=> ∃s1 s2:Option V,σ= [some (.ref a),s1,s2] /\i<=v.length/\zC H H'/\ ∀j,j<i->zA v j=0) ⟨none,none,rfl,zOs _,zC.refl H,fun j h=>absurd h (Nat.not_lt_zero _)⟩ ?_ ?_ ?_ ?_
  ·rintro i σ H' hi ⟨_,_,rfl,_,s1,_⟩;exact ⟨_,_,SqL.of (ha.same s1),zS hi⟩
  ·rintro σ H' ⟨_,_,rfl,_,s1,_⟩;exact ⟨_,SqL.of (ha.same s1),by simp⟩
  ·rintro i σ H' x H'' hi ⟨_,_,rfl,_,s1,z⟩ ⟨t,y,hy,ht,rfl,rfl⟩;have hy':=hy _ (SqL.of (ha.same s1));rw [zS hi] at hy';cases hy';have st:=zC.upd ht (o:= .tup [.int (i:Int),.int (zA v i)]);refine ⟨t,_,rfl,SqT.of zB,rfl,_,_,rfl,_,_,rfl,rfl,?_⟩;refine ⟨_,rfl,rfl,_,rfl,?_⟩;refine yl (fun c=>?_) (fun c=>?_)
   ·exact ⟨_,rfl,q _ _ (s1.trans st) (.inr ⟨i,rfl,hi,by simpa using c,z⟩)⟩
   ·refine ⟨_,_,rfl,hi,s1.trans st,fun j hj=>?_⟩;rcases Nat.lt_or_eq_of_le (Nat.le_of_lt_succ hj) with h | rfl
    ·exact z j h
    ·simpa using c
  ·rintro σ H' ⟨_,_,rfl,_,s1,z⟩;refine q _ _ s1 (.inl ⟨rfl,fun i=>?_⟩)
   ·by_cases h:i<v.length
    ·exact z i h
    ·exact yE (by omega)
def zGc(C:Addr):Sp:=fun vs H Q _=> ∃(l:Addr) (S:List Stp) (n R W:Nat),vs= [.ref l] /\StL C H l S/\Ech n S/\n<=12/\(∀q∈S,Bts R q.2)/\(∀q∈zu S,Bts W q.2)/\R+12*(W+1)+W<=50000000/\ ∀l' H',zC H H'->StL C H' l' (zu S)->Q (.ref l') H'
theorem zGo:FnScope ["steps","kept","step"] ["steps"] (zI zEa):=⟨rfl,rfl,rfl,by decide+kernel,rfl,by decide+kernel,by decide+kernel⟩
theorem zDN: ∀(S:List Stp) (i:Nat),zu (S.drop i)=(zu S).drop i
 | [],i=>by simp [zu]
 |(p,v)::S,0=>rfl
 |(p,v)::S,i+1=>by rw [List.drop_succ_cons,zDN S i,zu,List.drop_succ_cons]
theorem zMQ{f fL fS C:Addr}{fd fdL fdS:FuncData}(F:Fun K "all_lessened" "all_lessened" zEa f fd)(B:Bn mg)(T:SC K C)
  (FL:Fun K "lessened" "lessened" zBY fL fdL) (bL:zO K fdL ["vector","steps"] []) (mL:mg "lessened" =some (.ref fL)) (GL:FnOk P w K mg base CX0 34 fL fdL ["vector","steps"] (zCJ C))
  (bS:zO K fdS ["self","place","vector"] []) (MS:Mk K C fS) (mS:mg "Step" =some (.ref C)) (GS:FnOk P w K mg base CX0 1 fS fdS ["self","place","vector"] (zBQ C)):FnOk P w K mg base CX0 35 f fd ["steps"] (zGc C):=by
 refine F.ok zGo (fun vs H Q E h=>?_) (fun cdv A outer s H vs Q E hr34 h=>?_)
 ·obtain ⟨l,S,n,R,W,rfl,_⟩:=h;rfl
 ·obtain ⟨l,S,n,R,W,rfl,⟨os,el,hs⟩,hE,hn,bR,bW,hz,q⟩:=h;have hr2:Room 2 _:=hr34.mono (by decide);have lS:=Paired.len hs;have S12:S.length<=12:=zOr (zBD hE) hn;refine ⟨_,QB.out (zE
   (zV 1 zGo.nd rfl (zAB zD) rfl) (zE
   (zAA PassesOwn.never rfl (zIV (K:=K) rfl rfl B.reversed (qc (qw 0 rfl) zD rfl) rfl) (zH 2 zGo.nd rfl (Or.inl rfl) (.inr rfl)) (zJ
    (zBe (zDF (K:=K) rfl (qw 1 rfl) (zBw MS GS hr2 rfl mS bS .nil zL (qc (zo (K:=K) rfl (qw 2 rfl) rfl) (qc (zK GL hr34 rfl mL FL.kp bL .nil zL (qc (zo (K:=K) rfl (qw 2 rfl) rfl) (qc (qw 1 rfl) zD rfl) rfl) rfl rfl rfl) zD rfl) rfl) rfl rfl rfl) rfl rfl rfl) rfl)) (fun _=>rfl)) (zJ
   (zZ (qw 1 rfl))))),?_⟩
  refine ⟨bs 0,fun kl hkl=>?_⟩;refine ⟨_,rfl,l,_,rfl,SqL.of (zC.upd hkl _ _ el),?_⟩;refine yd S.length (fun i σ H'=> ∃(os':List Addr) (s2:Option V),σ= [some (.ref l),some (.ref kl),s2] /\i<=S.length/\zC H H'/\H' kl=some (.lst (os'.map V.ref))/\StA C H' os' (zu (S.drop (S.length - i)))) ⟨[],none,rfl,zOs _,zC.upd hkl,zB,by rw [Nat.sub_zero,List.drop_length];exact .nil⟩ ?_ ?_ ?_ ?_
  ·rintro i σ H' hi ⟨os',s2,rfl,_,s1,ek,hk⟩;exact ⟨by simp;omega,_,_,SqL.of (s1 _ _ el),zOd (by simp;omega)⟩
  ·rintro σ H' ⟨os',s2,rfl,_⟩;show (os.map V.ref).length<=S.length;simp;omega
  ·rintro i σ H' x H'' hi ⟨os',s2,rfl,_,s1,ek,hk⟩ ⟨rfl,hx⟩;have hx':=hx _ (SqL.of (s1 _ _ el));have hlen:(os.map V.ref).length=S.length:=by simp;omega
   rw [hlen] at hx';have hj:S.length - 1 - i<os.length:=by omega
   rw [zOi,zOd hj] at hx';cases hx';obtain ⟨⟨p,u⟩,eS,hso⟩:=Paired.get' hs (zOd hj);generalize os[S.length - 1 - i] =o at hso⊢;obtain ⟨dx,a,ho,hu⟩:=hso;have eD:S.drop (S.length -(i+1))=(p,u)::S.drop (S.length - i):=by
    have h1:S.length -(i+1)=S.length - 1 - i:=by omega
    rw [h1,List.drop_eq_getElem_cons (show S.length - 1 - i<S.length by omega)];rw [zOd (show S.length - 1 - i<S.length by omega)] at eS;rw [Option.some.inj eS];congr 2;omega
   have hmemS:(p,u)∈S:=zPH eS;obtain ⟨u1,u2,u3,u4⟩:=hE.mem hmemS;simp only at u1 u2 u3 u4;have hE':Ech n (S.drop (S.length - i)):=zAK hE (List.drop_suffix _ _);have hA:=(zCE hE').1;have lA:(zu (S.drop (S.length - i))).length<=12:=by rw [zCW,List.length_drop];omega
   have bA: ∀q∈zu (S.drop (S.length - i)),Bts W q.2:=fun q hq=>bW q (by rw [zDN] at hq;exact List.mem_of_mem_drop hq);rw [eD];generalize S.drop (S.length - i)=S' at*;have lk:=Paired.len hk;have ho1:=s1 _ _ ho;have hu1:=hu.same s1;have mulk:(zu S').length*(W+1)<=12*(W+1):=Nat.mul_le_mul_right _ lA;refine ⟨_,rfl,.inl ⟨rfl,_,SqL.of ek⟩,_,rfl,o,C,dx,_,_,rfl,ho1,T.cl,T.n1,rfl,_,rfl,o,C,dx,_,_,rfl,ho1,T.cl,T.n2,rfl,_,rfl,a,kl,u,zu S',n,R,W,rfl,hu1,⟨os',ek,hk⟩,u1,by omega,by omega,fun q hq=>let ⟨z1,z2,z3,_⟩:=hA.mem hq;⟨z1,z2,z3,bA q hq⟩,bR _ hmemS,by omega,fun ll H5 s5 _ hl5=>?_⟩;intro x dx2 hx5 hdx5 hne5;have sx:zC H5 (L2.upd (L2.upd (L2.upd H5 dx2 (.own x)) x (.ins C dx2 [])) x (.ins C dx2 [("place",.int (p:Int)),("vector",.ref ll)])):=zC.store (zC.store (zC.upd hdx5) hx5) hx5;have ex:(L2.upd (L2.upd (L2.upd H5 dx2 (.own x)) x (.ins C dx2 [])) x (.ins C dx2 [("place",.int (p:Int)),("vector",.ref ll)])) x=some (.ins C dx2 [("place",.int (p:Int)),("vector",.ref ll)]):=zB;refine ⟨x,dx2,_,_,rfl,zB,rfl,?_⟩;generalize L2.upd (L2.upd (L2.upd H5 dx2 (.own x)) x (.ins C dx2 [])) x (.ins C dx2 [("place",.int (p:Int)),("vector",.ref ll)])=H6 at sx ex⊢;have s16:zC H'' H6:=s5.trans sx;have ek6:=s16 _ _ ek;refine ⟨kl,_,_,rfl,rfl,ek6,by rw [zOo];simp;omega,?_⟩;have hk6:StA C H6 (x::os') ((p,zR u (zu S'))::zu S'):= .cons ⟨dx2,ll,ex,hl5.same sx⟩ (StA.same hk s16);have lne:=zd hA u1;refine ⟨x::os',_,rfl,hi,zC.store (s1.trans s16) hkl,zB,StA.store hk6 (fun q hq z=>?_) ek6⟩;rcases List.mem_cons.mp hq with rfl | hq
   ·have:=lne.1;rw [show zR u (zu S')= [] from z] at this;simp at this;omega
   ·have:=(hA.mem hq).1;rw [z] at this;simp at this;omega
  ·rintro σ H' ⟨os',s2,rfl,_,s1,ek,hk⟩;rw [Nat.sub_self,List.drop_zero] at hk;exact ⟨_,rfl,q kl _ s1 ⟨os',ek,hk⟩⟩
end
section
variable {P:Program}{w:World}{K:zPS}{mg:Str->Option Value}{base:Heap}
structure W1Ok(n b Y W:Nat)(S:List Stp)(v:Vec):Prop where
 ech:Ech n S
 vl:v.length=n
 nn:n<=6
 bS: ∀q∈S,Bts Y q.2
 bv:Bts b v
 bT: ∀T,Ech n T->Red T->(∀x,Sp T x↔Sp ((0,v)::S) x)-> ∀q∈T,Bts W q.2
 sz:b+60*(Y+1)+14*(W+1)<=20000000
def zFR(C:Addr):Sp:=fun vs H Q _=> ∃(l r:Addr) (S:List Stp) (v:Vec) (n b Y W:Nat),vs= [.ref l,.ref r] /\StL C H l S/\LI H r v/\W1Ok n b Y W S v/\
 ∀T l' H',zC H H'->StL C H' l' T->Ech n T->Red T->(∀x,Sp T x↔Sp ((0,v)::S) x)->T.length<=S.length+1->Q (.ref l') H'
theorem yZ:FnScope ["steps","vector","kept","rest","place","ahead","behind","there","sign","own","found"] ["steps","vector"] (zI zCe):=⟨rfl,rfl,rfl,by decide+kernel,rfl,by decide+kernel,by decide+kernel⟩
structure W1I(C:Addr)(n b Y:Nat)(S:List Stp)(v:Vec)(H0 H:Hp)(kl rl:Addr)(pv:V)(k:List Stp)(rest:Vec):Prop where
 sm:zC H0 H
 ok:StL C H kl k
 or:LI H rl rest
 ech:Ech n k
 len:rest.length=n
 bk: ∀q∈k,Bts (b+48*(Y+1)) q.2
 at_:(pv= .non/\(∀x,Sp k x↔Sp ((0,v)::S) x)/\k.length<=S.length+1)\/
  ∃p t:Nat,pv= .int (p:Int)/\(∀x,Sp ((0,rest)::k) x↔Sp ((0,v)::S) x)/\k.length<=S.length/\p<n/\zA rest p≠0/\(∀j,j<p->zA rest j=0)/\t<=p/\Bts (b+6*(Y+1)+t*(7*(Y+1))) rest/\ ∀q∈k,p<=q.1->Bts Y q.2
theorem zFc{k:List Stp}{r:Vec}(h: ∀i,zA r i=0)(x:Fn):Sp ((0,r)::k) x↔Sp k x:=⟨fun ⟨c,z⟩=>z.congr fun i=>by rw [h];simp,fun z=>z.tail⟩
theorem W1I.of{C:Addr}{n b Y:Nat}{S:List Stp}{v:Vec}{H0 H:Hp}{kl rl:Addr}{pv:V}{k:List Stp}{rest:Vec}{t a:Nat}(f:zHY rest pv)(sm:zC H0 H)(ok:StL C H kl k)(or:LI H rl rest)(ech:Ech n k)(len:rest.length=n)(bk: ∀q∈k,Bts (b+48*(Y+1)) q.2)
  (sp: ∀x,Sp ((0,rest)::k) x↔Sp ((0,v)::S) x) (kl':k.length<=S.length) (hz: ∀j,j<a->zA rest j=0) (ht:t<=a) (hb:Bts (b+6*(Y+1)+t*(7*(Y+1))) rest) (hY: ∀q∈k,a<=q.1->Bts Y q.2):W1I C n b Y S v H0 H kl rl pv k rest:=by
 refine ⟨sm,ok,or,ech,len,bk,?_⟩;rcases f with ⟨e,z⟩|⟨p,e,h1,h2,h3⟩
 ·exact .inl ⟨e,fun x=>(zFc z x).symm.trans (sp x),by omega⟩
 ·have:a<=p:=by
   rcases Nat.lt_or_ge p a with h | h
   ·exact absurd (hz p h) h2
   ·exact h
  exact .inr ⟨p,t,e,sp,kl',by omega,h2,h3,by omega,hb,fun q hq h=>hY q hq (by omega)⟩
theorem zGk{K:zPS}{C:Addr}(T:SC K C)(R:Int->Int->Bool){H:Hp}{l D:Addr}{os:List Addr}{k:List Stp}{p:Nat}{suf rest:L2.St}{Q:VK}(el:H l=some (.lst (os.map V.ref)))(hk:StA C H os k)(hl:k.length<=100)(hD:H D=none)(hs:suf=some (.int (p:Int))::rest)
  (q: ∀os',StA C H os' (k.filter fun q=>R (q.1:Int) (p:Int))->Q (.ref D) (L2.upd H D (.lst (os'.map V.ref)))):
  CompInv (Itl K l) (yH 0) (zBi (yR (rI0 fun i j=>V.bl (R i j)) (zFI K (zp 0) "place") (zp 1))) (zp 0) 1 suf H D Q:=by
 subst hs;have lo:=Paired.len hk;refine zU os.length (fun i ys H'=> ∃os',i<=os.length/\ys=os'.map V.ref/\os'.length<=i/\StA C H os' ((k.take i).filter fun q=>R (q.1:Int) (p:Int))/\H'=L2.upd H D (.lst ys)) ⟨[],zOs _,rfl,zOh _,.nil,rfl⟩ (by rw [zOo];omega) ?_ ?_ ?_
 ·rintro i ys H2 hi ⟨os',_,rfl,l',_,rfl⟩;have e2:=zC.upd hD (o:= .lst (os'.map V.ref)) _ _ el;exact ⟨by rw [zOk];omega,zB,fun h=>⟨_,_,SqL.of e2,zOd (by simpa using h)⟩,fun h=>⟨_,SqL.of e2,by simp;omega⟩⟩
 ·rintro i ys H2 x H3 hi ⟨os',_,rfl,l',hf,rfl⟩ ⟨rfl,hx⟩ pre hpre;obtain ⟨p0,rfl⟩:=yX hpre;have s2:=zC.upd hD (o:= .lst (os'.map V.ref));have hx':=hx _ (SqL.of (s2 _ _ el));rw [zOi,zOd hi] at hx';cases hx';obtain ⟨⟨a,u⟩,eu,hso⟩:=Paired.get' hk (zOd hi);have hso':=hso;obtain ⟨dx,va,ho,hu⟩:=hso;have et:k.take (i+1)=k.take i++ [(a,u)] :=by rw [zPA,eu];rfl
  refine ⟨⟨[some (.ref os[i])],rfl,rfl⟩,?_⟩;refine ⟨_,rfl,os[i],C,dx,_,_,rfl,s2 _ _ ho,T.cl,T.n1,rfl,_,rfl,_,_,rfl,rfl,_,rfl,yl (fun c=>?_) (fun c=>?_)⟩
  ·refine ⟨_,rfl,zB,os'++ [os[i]],hi,by simp,by simp;omega,?_,by rw [zx]⟩;rw [et,List.filter_append];simp only [List.filter_cons,c,if_true,List.filter_nil];exact Paired.snoc' hf hso'
  ·refine ⟨os',hi,rfl,by omega,?_,rfl⟩;rw [et,List.filter_append];simp only [List.filter_cons,c,Bool.false_eq_true,if_false,List.filter_nil,zPE];exact hf
 ·rintro ys H2 ⟨os',_,rfl,_,hf,rfl⟩;rw [List.take_of_length_le (by omega)] at hf;exact q os' hf
theorem zIW{K:zPS}{C:Addr}(T:SC K C){H:Hp}{l D:Addr}{os:List Addr}{k:List Stp}{p:Nat}{suf rest:L2.St}{Q:VK}(el:H l=some (.lst (os.map V.ref)))(hk:StA C H os k)(hl:k.length<=100)(hD:H D=none)(hs:suf=some (.int (p:Int))::rest)
  (q: ∀as,LIs H as ((k.filter fun q=>decide (q.1=p)).map (·.2))->Q (.ref D) (L2.upd H D (.lst (as.map V.ref)))):
  CompInv (Itl K l) (yH 0) (zBi (yR rEq (zFI K (zp 0) "place") (zp 1))) (zFI K (zp 0) "vector") 1 suf H D Q:=by
 subst hs;have lo:=Paired.len hk;refine zU os.length (fun i ys H'=> ∃as:List Addr,i<=os.length/\ys=as.map V.ref/\as.length<=i/\LIs H as (((k.take i).filter fun q=>decide (q.1=p)).map (·.2))/\H'=L2.upd H D (.lst ys)) ⟨[],zOs _,rfl,zOh _,.nil,rfl⟩ (by rw [zOo];omega) ?_ ?_ ?_
 ·rintro i ys H2 hi ⟨as,_,rfl,l',_,rfl⟩;have e2:=zC.upd hD (o:= .lst (as.map V.ref)) _ _ el;exact ⟨by rw [zOk];omega,zB,fun h=>⟨_,_,SqL.of e2,zOd (by simpa using h)⟩,fun h=>⟨_,SqL.of e2,by simp;omega⟩⟩
 ·rintro i ys H2 x H3 hi ⟨as,_,rfl,l',hf,rfl⟩ ⟨rfl,hx⟩ pre hpre;obtain ⟨p0,rfl⟩:=yX hpre;have s2:=zC.upd hD (o:= .lst (as.map V.ref));have hx':=hx _ (SqL.of (s2 _ _ el));rw [zOi,zOd hi] at hx';cases hx';obtain ⟨⟨a,u⟩,eu,dx,va,ho,hu⟩:=Paired.get' hk (zOd hi);have et:k.take (i+1)=k.take i++ [(a,u)] :=by rw [zPA,eu];rfl
  refine ⟨⟨[some (.ref os[i])],rfl,rfl⟩,?_⟩;refine ⟨_,rfl,os[i],C,dx,_,_,rfl,s2 _ _ ho,T.cl,T.n1,rfl,_,rfl,rfl,_,rfl,yl (fun c=>?_) (fun c=>?_)⟩
  ·have c':a=p:=Int.ofNat_inj.mp (by simpa using c);refine ⟨_,rfl,os[i],C,dx,_,_,rfl,s2 _ _ ho,T.cl,T.n2,rfl,zB,as++ [va],hi,by simp,by simp;omega,?_,by rw [zx]⟩;rw [et,List.filter_append,zOz];simp only [List.filter_cons,c',decide_true,if_true,List.filter_nil];exact Paired.snoc' hf hu
  ·have c': ¬a=p:=fun z=>absurd (Int.ofNat_inj.mpr z) (by simpa using c);refine ⟨as,hi,rfl,by omega,?_,rfl⟩;rw [et,List.filter_append];simp only [List.filter_cons,c',decide_false,Bool.false_eq_true,if_false,List.filter_nil,zPE];exact hf
 ·rintro ys H2 ⟨as,_,rfl,_,hf,rfl⟩;rw [List.take_of_length_le (by omega)] at hf;exact q as hf
theorem zHT{C:Addr}{σ:L2.St}{H:Hp}{Q:VK}{p:Nat}{D5 D6:Addr}{o5 o6:List Addr}{k:List Stp}{w:Vec}{tw:TE}(h4:σ[4]?=some (some (.int (p:Int))))(h5:σ[5]?=some (some (.ref D5)))(h6:σ[6]?=some (some (.ref D6)))
  (e5:H D5=some (.lst (o5.map V.ref))) (e6:H D6=some (.lst (o6.map V.ref))) (s5:StA C H o5 (k.filter fun q=>decide (q.1<p))) (s6:StA C H o6 (k.filter fun q=>decide (p<q.1))) (l5:o5.length<=12) (l6:o6.length<=12)
  (htw: ∀Q':VK,(∀wl H',zC H H'->LI H' wl w->Q' (.ref wl) H')->tw σ H Q') (q: ∀r H',zC H H'->StL C H' r (zAD k p w)->Q (.ref r) H'):
  yR zFT (yR zFT (zp 5) (zIP (zAo (zIM C (zBQ C) [] E0 (zAo (zp 4) (zAo tw zCG))) zCG))) (zp 6) σ H Q:=by
 refine ⟨_,h5,_,h4,htw _ fun wl H1 s1 hw=>?_⟩;intro x dx hx hdx hne;have sx:zC H1 (L2.upd (L2.upd (L2.upd H1 dx (.own x)) x (.ins C dx [])) x (.ins C dx [("place",.int (p:Int)),("vector",.ref wl)])):=zC.store (zC.store (zC.upd hdx) hx) hx;have ex:(L2.upd (L2.upd (L2.upd H1 dx (.own x)) x (.ins C dx [])) x (.ins C dx [("place",.int (p:Int)),("vector",.ref wl)])) x=some (.ins C dx [("place",.int (p:Int)),("vector",.ref wl)]):=zB;refine ⟨x,dx,_,_,rfl,zB,rfl,?_⟩;generalize L2.upd (L2.upd (L2.upd H1 dx (.own x)) x (.ins C dx [])) x (.ins C dx [("place",.int (p:Int)),("vector",.ref wl)])=H2 at sx ex⊢;have s2:=s1.trans sx;refine ⟨bs 1,fun a hp=>?_⟩;have sp:=zC.upd hp (o:= .lst [V.ref x]);refine ⟨D5,a,_,_,rfl,rfl,(s2.trans sp) _ _ e5,zB,by rw [zOo];simp;omega,fun r1 hr1=>?_⟩;have sr:=zC.upd hr1 (o:= .lst (o5.map V.ref++ [V.ref x]));refine ⟨_,h6,r1,D6,_,_,rfl,rfl,zB,((s2.trans sp).trans sr) _ _ e6,by rw [zOo];simp;omega,fun r2 hr2=>?_⟩;have sr2:=zC.upd hr2 (o:= .lst (o5.map V.ref++ [V.ref x] ++o6.map V.ref));have st:=((s2.trans sp).trans sr).trans sr2;exact q r2 _ st ⟨o5++x::o6,by rw [zB];simp,Paired.app (StA.same s5 st) (.cons ⟨dx,wl,((sp.trans sr).trans sr2) _ _ ex,hw.same (((sx.trans sp).trans sr).trans sr2)⟩ (StA.same s6 st))⟩
theorem zHl{n:Nat}{k:List Stp}{p:Nat}{w:Vec}(h:Ech n k):(zAD k p w).length+(k.filter fun q=>decide (q.1=p)).length=k.length+1:=by
 have e:k.length=(k.filter fun q=>decide (q.1<p)).length+(k.filter fun q=>decide (q.1=p)).length+(k.filter fun q=>decide (p<q.1)).length:=by
  have e:=congrArg List.length (zCS p h).1
  rwa [zPF,zPF] at e
 have l:(zAD k p w).length=(k.filter fun q=>decide (q.1<p)).length+((k.filter fun q=>decide (p<q.1)).length+1):=by
  rw [zAD,zPF,List.length_cons]
 omega
theorem zJt{f fL fP fM fD fA fS C:Addr}{fd fdL fdP fdM fdD fdA fdS:FuncData}(F:Fun K "with_one_more" "with_one_more" zCe f fd)(B:Bn mg)(ht:P.given.tree=none)(T:SC K C)
  (FL:Fun K "lessened" "lessened" zBY fL fdL) (bL:zO K fdL ["vector","steps"] []) (mL:mg "lessened" =some (.ref fL)) (GL:FnOk P w K mg base CX0 34 fL fdL ["vector","steps"] (zCJ C))
  (FP:Fun K "first_place" "first_place" zDJ fP fdP) (bP:zO K fdP ["vector"] []) (mP:mg "first_place" =some (.ref fP)) (GP:FnOk P w K mg base CX0 1 fP fdP ["vector"] zFA)
  (FM:Fun K "mixed" "mixed" zBI fM fdM) (bM:zO K fdM ["factor","one","other_factor","other"] []) (mM:mg "mixed" =some (.ref fM)) (GM:FnOk P w K mg base CX0 1 fM fdM ["factor","one","other_factor","other"] zBP)
  (FD:Fun K "divisor_of" "divisor_of" zEM fD fdD) (bD:zO K fdD ["one","other"] []) (mD:mg "divisor_of" =some (.ref fD)) (GD:FnOk P w K mg base CX0 34 fD fdD ["one","other"] zFz)
  (FA:Fun K "all_lessened" "all_lessened" zEa fA fdA) (bA:zO K fdA ["steps"] []) (mA:mg "all_lessened" =some (.ref fA)) (GA:FnOk P w K mg base CX0 35 fA fdA ["steps"] (zGc C))
  (bS:zO K fdS ["self","place","vector"] []) (MS:Mk K C fS) (mS:mg "Step" =some (.ref C)) (GS:FnOk P w K mg base CX0 1 fS fdS ["self","place","vector"] (zBQ C)):FnOk P w K mg base CX0 36 f fd ["steps","vector"] (zFR C):=by
 refine F.ok yZ (fun vs H Q E h=>?_) (fun cdv A outer s H vs Q E hr35 h=>?_)
 ·obtain ⟨l,r,S,v,n,b,Y,W,rfl,_⟩:=h;rfl
 ·obtain ⟨l,r,S,v,n,b,Y,W,rfl,hS,hv,ok,q⟩:=h;have deep:DeepE (zAx CX0 P w K mg base ["steps","vector","kept","rest","place","ahead","behind","there","sign","own","found"] "with_one_more" (zI zCe) f cdv A outer s H E):=zAu hr35 (by decide) ht rfl rfl;have hr1:Room 1 _:=hr35.mono (by decide);have hr2:Room 2 _:=hr35.mono (by decide);have hr34:Room 34 _:=hr35.mono (by decide);have n6:=ok.nn;have sz:=ok.sz;have lS:S.length<=6:=zOr (zBD ok.ech) n6;have hq0: ∀q∈S,q.2.length=n/\q.1<n/\0<zA q.2 q.1/\Bts Y q.2:=fun q hq=>let ⟨z1,z2,z3,_⟩:=ok.ech.mem hq;⟨z1,z2,z3,ok.bS q hq⟩;have mS6:S.length*(Y+1)<=6*(Y+1):=Nat.mul_le_mul_right _ lS;refine ⟨_,QB.out (zE
   (zV 2 yZ.nd rfl (qw 0 rfl) rfl) (zE
   (zV 3 yZ.nd rfl (zK GL hr34 rfl mL FL.kp bL .nil zL (qc (qw 1 rfl) (qc (qw 2 rfl) zD rfl) rfl) rfl rfl rfl) rfl) (zE
   (yY 4 yZ.nd rfl (Or.inr rfl) (zK GP hr1 rfl mP FP.kp bP .nil zL (qc (qw 3 rfl) zD rfl) rfl rfl rfl) rfl (.inl rfl)) (zE
   (zHN PassesOwn.never (zJA (qx 4 rfl) rfl) (zE
    (zAh yq 5 (by exact yZ.nd) rfl (Or.inl rfl) (.inr rfl) ["step"] ["place"] [4] rfl (zm (K:=K) rfl (qw 2 rfl)) rfl (by decide+kernel) rfl (by decide+kernel) (zQ rfl ye) rfl (fr1 ⟨rfl,rfl,rfl,_,rfl,rfl⟩) (zN rfl) (fun _ _ _ _=>(zH 0 (show (["step","place"] :List Str).Nodup by decide+kernel) rfl (.inl rfl) (.inr rfl))) (fun _ _ _ _=>(zCD (zf zEV (zo (K:=K) rfl (qw 0 rfl) rfl) (qx 1 rfl) rfl))) (fun C s₂ H₂ fp xe E hp=>(qw 0 rfl)) (fun _=>rfl) rfl) (zE
    (zAh yq 6 (by exact yZ.nd) rfl (Or.inl rfl) (.inr rfl) ["step"] ["place"] [4] rfl (zm (K:=K) rfl (qw 2 rfl)) rfl (by decide+kernel) rfl (by decide+kernel) (zQ rfl ye) rfl (fr1 ⟨rfl,rfl,rfl,_,rfl,rfl⟩) (zN rfl) (fun _ _ _ _=>(zH 0 (show (["step","place"] :List Str).Nodup by decide+kernel) rfl (.inl rfl) (.inr rfl))) (fun _ _ _ _=>(zCD (zf zAf (zo (K:=K) rfl (qw 0 rfl) rfl) (qx 1 rfl) rfl))) (fun C s₂ H₂ fp xe E hp=>(qw 0 rfl)) (fun _=>rfl) rfl) (zE
    (zAh yq 7 (by exact yZ.nd) rfl (Or.inl rfl) (.inr rfl) ["step"] ["place"] [4] rfl (zm (K:=K) rfl (qw 2 rfl)) rfl (by decide+kernel) rfl (by decide+kernel) (zQ rfl ye) rfl (fr1 ⟨rfl,rfl,rfl,_,rfl,rfl⟩) (zN rfl) (fun _ _ _ _=>(zH 0 (show (["step","place"] :List Str).Nodup by decide+kernel) rfl (.inl rfl) (.inr rfl))) (fun _ _ _ _=>(zCD (zf zAn (zo (K:=K) rfl (qw 0 rfl) rfl) (qx 1 rfl) rfl))) (fun C s₂ H₂ fp xe E hp=>(zo (K:=K) rfl (qw 0 rfl) rfl)) (fun _=>rfl) rfl) (zJ
    (yW (zf zAn (yP (yK (K:=K) rfl) rfl B.len yk (qc (qw 7 rfl) zD rfl) rfl) zF rfl) (zE
     (zV 8 yZ.nd rfl (zEk (zf zAf (zk (K:=K) rfl (qw 3 rfl) (qx 4 rfl) (fun _ _=>rfl)) zF rfl) zF (zBW zF)) rfl) (zE
     (zV 2 yZ.nd rfl (zAp (zAp (qw 5 rfl) (zAB (qc (zBw MS GS hr2 rfl mS bS .nil zL (qc (qx 4 rfl) (qc (zK GM hr1 rfl mM FM.kp bM .nil zL (qc (qw 8 rfl) (qc (qw 3 rfl) (qc zF (qc (qw 3 rfl) zD rfl) rfl) rfl) rfl) rfl rfl rfl) zD rfl) rfl) rfl rfl rfl) zD rfl))) (qw 6 rfl)) rfl) (zJ
     (yY 4 yZ.nd rfl (Or.inr rfl) zDq rfl (.inl rfl))))) (zE
     (zV 9 yZ.nd rfl (zk (K:=K) rfl (qw 7 rfl) zF (fun _ _=>rfl)) rfl) (zE
     (zV 10 yZ.nd rfl (zK GD hr34 rfl mD FD.kp bD .nil zL (qc (zk (K:=K) rfl (qw 3 rfl) (qx 4 rfl) (fun _ _=>rfl)) (qc (zk (K:=K) rfl (qw 9 rfl) (qx 4 rfl) (fun _ _=>rfl)) zD rfl) rfl) rfl rfl rfl) rfl) (zE
     (zV 2 yZ.nd rfl (zAp (zAp (qw 5 rfl) (zAB (qc (zBw MS GS hr2 rfl mS bS .nil zL (qc (qx 4 rfl) (qc (zK GM hr1 rfl mM FM.kp bM .nil zL (qc (yV (K:=K) rfl (qw 10 rfl) zF (fun _ _=>rfl)) (qc (qw 3 rfl) (qc (yV (K:=K) rfl (qw 10 rfl) zF (fun _ _=>rfl)) (qc (qw 9 rfl) zD rfl) rfl) rfl) rfl) rfl rfl rfl) zD rfl) rfl) rfl rfl rfl) zD rfl))) (qw 6 rfl)) rfl) (zE
     (zV 3 yZ.nd rfl (zK GL hr34 rfl mL FL.kp bL .nil zL (qc (zK GM hr1 rfl mM FM.kp bM .nil zL (qc (yo (deep.up rfl rfl rfl) (zk (K:=K) rfl (qw 9 rfl) (qx 4 rfl) (fun _ _=>rfl)) (yV (K:=K) rfl (qw 10 rfl) zF (fun _ _=>rfl))) (qc (qw 3 rfl) (qc (zBW (yo (deep.up rfl rfl rfl) (zk (K:=K) rfl (qw 3 rfl) (qx 4 rfl) (fun _ _=>rfl)) (yV (K:=K) rfl (qw 10 rfl) zF (fun _ _=>rfl)))) (qc (qw 9 rfl) zD rfl) rfl) rfl) rfl) rfl rfl rfl) (qc (qw 6 rfl) zD rfl) rfl) rfl rfl rfl) rfl) (zJ
     (yY 4 yZ.nd rfl (Or.inr rfl) (zK GP hr1 rfl mP FP.kp bP .nil zL (qc (qw 3 rfl) zD rfl) rfl rfl rfl) rfl (.inl rfl))))))))))))) (zJ
   (zZ (zK GA hr35 rfl mA FA.kp bA .nil zL (qc (qw 2 rfl) zD rfl) rfl rfl rfl))))))),?_⟩
  refine ⟨_,rfl,?_⟩;refine ⟨_,rfl,_,rfl,r,l,v,S,n,b,Y,rfl,hv,hS,ok.vl,by omega,by omega,hq0,ok.bv,by omega,fun rl H1 s1 _ hr1'=>?_⟩;obtain ⟨k1,k2,k3,k4⟩:=zd (r:=v) ok.ech ok.vl;have br:Bts (b+6*(Y+1)) (zR v S):=(zEB ok.ech ok.vl ok.bv ok.bS).mono (by omega);have sp0: ∀x,Sp ((0,zR v S)::S) x↔Sp ((0,v)::S) x:=fun x=>Sp.cons_iff (fun _=>Iff.rfl) k2 x;refine ⟨_,rfl,rl,zR v S,rfl,hr1',by omega,fun pv H2 s2 hf=>?_⟩;refine zEI (fun σ H'=> ∃(kl rl:Addr) (pv:V) (s5 s6 s7 s8 s9 s10:Option V) (k:List Stp) (rest:Vec),σ= [some (.ref l),some (.ref r),some (.ref kl),some (.ref rl),some pv,s5,s6,s7,s8,s9,s10] /\W1I C n b Y S v H H' kl rl pv k rest)
   (fun (σ:L2.St) _=>match σ[4]? with | some (some (V.int p))=>7 - p.toNat | _=>0) ⟨l,rl,pv,none,none,none,none,none,none,S,zR v S,rfl,W1I.of (t:=0) (a:=0) hf (s1.trans s2) (hS.same (s1.trans s2)) (hr1'.same s2) ok.ech k1 (fun q hq=>(ok.bS q hq).mono (by omega)) sp0 (zOh _) (fun j h=>absurd h (Nat.not_lt_zero _)) (zOh _) (br.mono (by omega)) fun q hq _=>ok.bS q hq⟩ ?_ ?_
  ·clear hf br sp0 k1 k2 k3 k4 hr1' s1 s2;rintro σ H1 ⟨kl,rl,pv,s5,s6,s7,s8,s9,s10,k,rest,rfl,sm,⟨os,ek,hk⟩,hr,hE,lr,bk,at_⟩;rcases at_ with ⟨rfl,sp,lk⟩|⟨p,t,rfl,sp,lk,hp,hp0,hpz,tp,br,bY⟩
   ·refine ⟨_,rfl,_,rfl,zAW ?_⟩;obtain ⟨z1,z2,z3⟩:=zCE hE;have zs: ∀x,Sp (zu k) x↔Sp ((0,v)::S) x:=fun x=>(z3 x).trans (sp x);exact ⟨_,rfl,kl,k,n,_,W,rfl,⟨os,ek,hk⟩,hE,by omega,bk,ok.bT _ z1 z2 zs,by omega,fun l' H' s' hl'=>q _ _ _ (sm.trans s') hl' z1 z2 zs (by rw [zCW];exact lk)⟩
   ·refine ⟨_,rfl,_,rfl,yC ?_⟩;have k6:k.length<=6:=by omega
    refine ⟨_,rfl,kl,rfl,⟨_,SqL.of ek⟩,fun D5 hD5=>zGk T (fun i j=>decide (i<j)) ek hk (by omega) hD5 rfl fun o5 h5=>?_⟩;have t5:=zC.upd hD5 (o:= .lst (o5.map V.ref));have e5:L2.upd H1 D5 (.lst (o5.map V.ref)) D5=_:=zB;generalize L2.upd H1 D5 (.lst (o5.map V.ref))=H5 at t5 e5⊢;refine ⟨_,rfl,kl,rfl,⟨_,SqL.of (t5 _ _ ek)⟩,fun D6 hD6=>zGk T (fun i j=>decide (j<i)) (t5 _ _ ek) (StA.same hk t5) (by omega) hD6 rfl fun o6 h6=>?_⟩;have t6:=zC.upd hD6 (o:= .lst (o6.map V.ref));have e6:L2.upd H5 D6 (.lst (o6.map V.ref)) D6=_:=zB;generalize L2.upd H5 D6 (.lst (o6.map V.ref))=H6 at t6 e6⊢;refine ⟨_,rfl,kl,rfl,⟨_,SqL.of ((t5.trans t6) _ _ ek)⟩,fun D7 hD7=>zIW T ((t5.trans t6) _ _ ek) (StA.same hk (t5.trans t6)) (by omega) hD7 rfl fun a7 h7=>?_⟩;have t7:=zC.upd hD7 (o:= .lst (a7.map V.ref));have e7:L2.upd H6 D7 (.lst (a7.map V.ref)) D7=_:=zB;generalize L2.upd H6 D7 (.lst (a7.map V.ref))=H7 at t7 e7⊢;have t17:=(t5.trans t6).trans t7;have hr7:=hr.same t17;have e57:=(t6.trans t7) _ _ e5;have e67:=t7 _ _ e6;have h57:=StA.same h5 t17;have h67:=StA.same h6 (t6.trans t7);have f5:(k.filter fun q=>decide ((q.1:Int)<(p:Int)))=k.filter fun q=>decide (q.1<p):=by congr 1;funext q;simp
    have f6:(k.filter fun q=>decide ((p:Int)<(q.1:Int)))=k.filter fun q=>decide (p<q.1):=by congr 1;funext q;simp
    simp only [f5] at h57;simp only [f6] at h67;replace h7:=LIs.same h7 t7;have l5:=Paired.len h57;have l6:=Paired.len h67;have lf5:=List.length_filter_le (fun q:Stp=>decide (q.1<p)) k;have lf6:=List.length_filter_le (fun q:Stp=>decide (p<q.1)) k;clear t5 t6 t7 h5 h6 hD5 hD6 hD7 e5 e6;have t5:t*(7*(Y+1))<=5*(7*(Y+1)):=Nat.mul_le_mul_right _ (by omega);refine ⟨_,rfl,D7,_,rfl,.inl (SqL.of e7),rfl,_,rfl,yl (fun c=>?_) (fun c=>?_)⟩
    ·have c0:a7= [] :=by
      have:a7.length=0:=by
       have:((a7.map V.ref).length:Int)=0:=by simpa using c
       rw [zOk] at this;omega
      exact List.length_eq_zero_iff.mp this
     have th:(k.filter fun q=>decide (q.1=p))= [] :=by
      have:=Paired.len h7;rw [c0,zOk] at this;exact List.length_eq_zero_iff.mp this.symm
     have hn: ∀q∈k,q.1≠p:=fun q hq z=>by
      have:q∈k.filter (fun q=>decide (q.1=p)):=List.mem_filter.mpr ⟨hq,zPB z⟩;rw [th] at this;cases this
     obtain ⟨sg,hsg,h1,h2⟩: ∃sg:Int,(sg=1\/sg= -1)/\(0<zA rest p->sg=1)/\(¬0<zA rest p->sg= -1):=by
      by_cases h:0<zA rest p
      ·exact ⟨1,.inl rfl,fun _=>rfl,fun z=>absurd h z⟩
      ·exact ⟨-1,.inr rfl,fun z=>absurd z h,fun _=>rfl⟩
     have bsg:Bt 50000000 sg:=by
      rcases hsg with rfl | rfl
      ·exact Bt.one
      ·exact Bt.one.neg
     refine ⟨_,rfl,_,rfl,rl,_,_,_,rfl,rfl,SqL.of hr7,zh (zS (show p<rest.length by omega)),_,_,rfl,rfl,_,rfl,zLh (.int sg) (fun c Q' h=>?_) (fun c Q' h=>?_) ?_⟩
     ·rw [h1 (by simpa using c)] at h;exact h
     ·rw [h2 (by simpa using c)] at h;exact ⟨_,rfl,h⟩
     have eN: ∀i,zA (zM sg rest 0 rest) i=sg*zA rest i:=fun i=>by rw [yL rfl];simp
     refine zHT (k:=k) (w:=zM sg rest 0 rest) rfl rfl rfl e57 e67 h57 h67 (by omega) (by omega) (fun Q' h=>?_) fun r2 H9 s9 hk9=>?_
     ·exact ⟨_,rfl,_,rfl,_,rfl,sg,0,rl,rl,rest,rest,rfl,hr7,hr7,rfl,by omega,bsg,Bt.zero,br.mono (by omega),br.mono (by omega),fun wl H8 s8 _ hw=>h wl H8 s8 hw⟩
     ·refine ⟨⟨r2,rl,.non,_,_,_,_,_,_,zAD k p (zM sg rest 0 rest),rest,rfl,(sm.trans t17).trans s9,hk9,hr7.same s9,zHE hE (zY lr lr) hp ?_ (fun j hj=>by rw [eN,hpz j hj];simp),lr,fun q hq=>?_,.inl ⟨rfl,fun x=>(zLr lr hn hsg x).trans (sp x),by have:=zHl (p:=p) (w:=zM sg rest 0 rest) hE;rw [th] at this;simp only [List.length_nil] at this;omega⟩⟩,?_⟩
      ·rw [eN];by_cases h:0<zA rest p
       ·rw [h1 h];omega
       ·rw [h2 h];omega
      ·rcases zAQ.mp hq with rfl |⟨hq,_⟩
       ·refine fun i=>?_;show Bt _ (zA (zM sg rest 0 rest) i);rw [eN];have:=(br i).mono (show _<=b+48*(Y+1) by omega);rcases hsg with rfl | rfl
        ·rw [Int.one_mul];exact this
        ·rw [Int.neg_mul,Int.one_mul];exact this.neg
       ·exact bk q hq
      ·show 0<7 -((p:Int)).toNat;omega
    ·obtain ⟨_,o⟩:=zCS p hE;rcases o with o |⟨own,o⟩
     ·have:=Paired.len h7;rw [o] at this;have c': ¬(((a7.map V.ref).length:Int)=0):=by simpa using c
      rw [zOk,this] at c';exact absurd rfl c'
     ·rw [o] at h7;obtain ⟨va,rfl⟩: ∃va,a7= [va] :=List.length_eq_one_iff.mp (Paired.len h7);have hown:LI H7 va own:=by
       obtain ⟨y,ey,hy⟩:=Paired.get' h7 (i:=0) rfl;cases ey;exact hy
      have mo:(p,own)∈k:=by
       have:(p,own)∈k.filter fun q=>decide (q.1=p):=by rw [o];simp
       exact (List.mem_filter.mp this).1
      obtain ⟨o1,o2,o3,o4⟩:=hE.mem mo;simp only at o1 o2 o3 o4;have bo:=bY (p,own) mo (zOh _);simp only at bo;obtain ⟨g0,d1,d2,ef,_⟩:=zAE (one:=zA rest p) o3;obtain ⟨bg,b1,b2⟩:=zMr (br p) (bo p) o3;obtain ⟨n1,n2,n3,n4⟩:=zMB hE lr mo hpz g0 d1 d2 ef;refine ⟨_,rfl,D7,_,_,_,rfl,rfl,SqL.of e7,rfl,?_⟩;refine ⟨_,rfl,_,rfl,rl,_,_,_,rfl,rfl,SqL.of hr7,zh (zS (show p<rest.length by omega)),_,rfl,_,rfl,va,_,_,_,rfl,rfl,SqL.of hown,zh (zS (show p<own.length by omega)),_,_,rfl,o3,(br p).mono (by omega),(bo p).mono (by omega),fun tu H8 s8 et=>?_⟩;generalize zv (zA rest p) (zA own p)=f at*;obtain ⟨g,f1,f2⟩:=f;simp only at*;refine zHT (k:=k) (w:=zM f1 rest f2 own) rfl rfl rfl (s8 _ _ e57) (s8 _ _ e67) (StA.same h57 s8) (StA.same h67 s8) (by omega) (by omega) (fun Q' h=>?_) fun r2 H9 s9 hk9=>?_
      ·exact ⟨_,rfl,tu,_,_,_,rfl,rfl,SqT.of et,rfl,_,rfl,_,rfl,tu,_,_,_,rfl,rfl,SqT.of et,rfl,_,rfl,f1,f2,rl,va,rest,own,rfl,hr7.same s8,hown.same s8,by omega,by omega,b1.mono (by omega),b2.mono (by omega),br.mono (by omega),bo.mono (by omega),fun wl H8 s8 _ hw=>h wl H8 s8 hw⟩
      have s79:=s8.trans s9;have et9:=s9 _ _ et;have bx:Bt Y (zA own p/g):=Bt.div (bo p) g0;have by':=(Bt.div (br p) g0).neg;have bm:Bts (b+6*(Y+1)+t*(7*(Y+1))+Y+1) (zM (zA own p/g) rest (-(zA rest p/g)) own):=(zHC (show rest.length=own.length by omega) bx br by' bo).mono (Nat.succ_le_succ (Nat.max_le.mpr ⟨by omega,by omega⟩));have hB:=zAj (fun q=>decide (p<q.1)) hE;have mB: ∀q∈k.filter (fun q=>decide (p<q.1)),q∈k/\p<q.1:=fun q hq=>by
       have:=List.mem_filter.mp hq;exact ⟨this.1,by simpa using this.2⟩
      have bB: ∀q∈k.filter (fun q=>decide (p<q.1)),Bts Y q.2:=fun q hq=>bY q (mB q hq).1 (zPL (mB q hq).2);have mul6:(k.filter fun q=>decide (p<q.1)).length*(Y+1)<=6*(Y+1):=Nat.mul_le_mul_right _ (by omega);refine ⟨_,rfl,_,rfl,va,_,_,_,rfl,rfl,SqL.of (hown.same s79),zh (zS (show p<own.length by omega)),_,rfl,tu,_,_,_,rfl,rfl,SqT.of et9,rfl,_,_,rfl,rfl,g0,_,rfl,_,rfl,_,rfl,rl,_,_,_,rfl,rfl,SqL.of (hr7.same s79),zh (zS (show p<rest.length by omega)),_,rfl,tu,_,_,_,rfl,rfl,SqT.of et9,rfl,_,_,rfl,rfl,g0,_,rfl,_,rfl,_,_,rl,va,rest,own,rfl,hr7.same s79,hown.same s79,by omega,by omega,bx.mono (by omega),by'.mono (by omega),br.mono (by omega),bo.mono (by omega),fun ml H10 s10 _ hm=>?_⟩;refine ⟨_,rfl,ml,D6,_,k.filter (fun q=>decide (p<q.1)),n,_,Y,rfl,hm,⟨o6,(s79.trans s10) _ _ e67,StA.same h67 (s79.trans s10)⟩,zY lr o1,by omega,by omega,fun q hq=>let ⟨z1,z2,z3,_⟩:=hB.mem hq;⟨z1,z2,z3,bB q hq⟩,bm,by omega,fun rl' H11 s11 _ hr11=>?_⟩;have br':=zEB hB (zY lr o1) bm bB;refine ⟨_,rfl,rl',_,rfl,hr11,by omega,fun pv H12 s12 hf=>?_⟩;have s912:=(s10.trans s11).trans s12;have et':(t+1)*(7*(Y+1))=t*(7*(Y+1))+7*(Y+1):=Nat.succ_mul _ _;refine ⟨⟨r2,rl',pv,_,_,_,_,_,_,_,_,rfl,W1I.of (t:=t+1) (a:=p+1) hf (((sm.trans t17).trans s79).trans s912) (hk9.same s912) (hr11.same s12) n1 n2 (fun q hq=>?_) (fun x=>(n4 x).trans (sp x)) (by have:=zHl (p:=p) (w:=zM f1 rest f2 own) hE;rw [o] at this;simp only [List.length_cons,List.length_nil] at this;omega) (fun j hj=>n3 j (Nat.le_of_lt_succ hj)) (by omega) (br'.mono (by omega)) fun q hq hqp=>?_⟩,?_⟩
      ·rcases zAQ.mp hq with rfl |⟨hq,_⟩
       ·exact (zHC (show rest.length=own.length by omega) b1 br b2 bo).mono (by
         have:Nat.max (Y+(b+6*(Y+1)+t*(7*(Y+1)))) (b+6*(Y+1)+t*(7*(Y+1))+1+Y)<=Y+(b+6*(Y+1)+t*(7*(Y+1)))+1:=Nat.max_le.mpr ⟨by omega,by omega⟩;omega)
       ·exact bk q hq
      ·rcases zAQ.mp hq with rfl |⟨hq,_⟩
       ·exact absurd hqp (by simp)
       ·exact bY q hq (by omega)
      ·rcases hf with ⟨rfl,_⟩|⟨p',rfl,hp',hne,_⟩
       ·show 0<7 -((p:Int)).toNat;omega
       ·show 7 -((p':Int)).toNat<7 -((p:Int)).toNat;have:p<p':=by
         rcases Nat.lt_or_ge p p' with h | h
         ·exact h
         ·exact absurd (n3 p' h) hne
        rw [n2] at hp';omega
  ·intro σ H' Q Q' h hc;obtain ⟨v',e,c',e',hq⟩:=hc;exact ⟨v',e,c',e',h _ _ hq⟩
end
section
variable {P:Program}{w:World}{K:zPS}{mg:Str->Option Value}{base:Heap}
def zt(k:Nat)(R:List Vec):List Vec:=(List.range k).map (zl R)
theorem zDW(k:Nat)(R:List Vec):zt (k+1) R=zt k R++ [zl R k] :=by simp [zt,List.range_succ]
theorem zBn{k b:Nat}{R:List Vec}(h: ∀x∈R,Bts b x): ∀g∈zt k R,g.length=R.length/\Bts b g:=fun g hg=>by
 obtain ⟨j,_,rfl⟩:=List.mem_map.mp hg;exact ⟨yB,Bts.col h j⟩
def yy(k m:Nat)(R:List Vec)(T:List Stp):List Vec:=(List.range m).map fun j=>zR (zl R (k+j)) T
theorem zIb{K:zPS}{H:Hp}{l D:Addr}{as:List Addr}{R:List Vec}{j k:Nat}{jv:Int}{suf rest:L2.St}{Q:VK}(el:H l=some (.lst (as.map V.ref)))(has:LIs H as R)(hj: ∀x∈R,k+j<x.length)(hl:R.length<=1000)(hD:H D=none)(hv:jv=(j:Int))(hs:suf=some (.int jv)::some (.int (k:Int))::rest)
  (q:Q (.ref D) (L2.upd H D (.lst ((zl R (k+j)).map V.int)))):CompInv (Itl K l) (yH 0) (fun _ H Q=>Q true H) (yR (zCp K) (zp 0) (yR (rI0 fun i j=>V.int (i+j)) (zp 2) (zp 1))) 1 suf H D Q:=by
 subst hs hv;have la:=Paired.len has;refine zU as.length (fun i ys H'=>i<=as.length/\ys=((zl R (k+j)).take i).map V.int/\H'=L2.upd H D (.lst ys)) ⟨zOs _,by simp,rfl⟩ (by rw [zOo];omega) ?_ ?_ ?_
 ·rintro i ys H2 hi ⟨_,rfl,rfl⟩;have e2:=zC.upd hD (o:= .lst (((zl R (k+j)).take i).map V.int)) _ _ el;exact ⟨by simp;omega,zB,fun h=>⟨_,_,SqL.of e2,zOd (by simpa using h)⟩,fun h=>⟨_,SqL.of e2,by simp;omega⟩⟩
 ·rintro i ys H2 x H3 hi ⟨_,rfl,rfl⟩ ⟨rfl,hx⟩ pre hpre;obtain ⟨p0,rfl⟩:=yX hpre;have s2:=zC.upd hD (o:= .lst (((zl R (k+j)).take i).map V.int));have hx':=hx _ (SqL.of (s2 _ _ el));rw [zOi,zOd hi] at hx';cases hx';obtain ⟨u,eu,hu⟩:=Paired.get' has (zOd hi);refine ⟨⟨[some (.ref as[i])],rfl,rfl⟩,yC ?_⟩;refine ⟨_,rfl,_,rfl,_,rfl,_,_,rfl,rfl,as[i],_,_,_,rfl,rfl,SqL.of (hu.same s2),by rw [<-Int.natCast_add];exact zh (zS (hj u (zPH eu))),zB,hi,?_,by rw [zx]⟩;rw [zPA,zl,zOi,eu];simp
 ·rintro ys H2 ⟨_,rfl,rfl⟩;rw [List.take_of_length_le (by rw [yB];omega)];exact q
theorem zKn{K:zPS}{C:Addr}(T:SC K C){H:Hp}{l D:Addr}{os:List Addr}{k:List Stp}{suf:L2.St}{Q:VK}(el:H l=some (.lst (os.map V.ref)))(hk:StA C H os k)(hl:k.length<=100)(hD:H D=none)
  (q: ∀as:List Addr,LIs H as (k.map (·.2))->Q (.ref D) (L2.upd H D (.lst (as.map V.ref)))):
  CompInv (Itl K l) (yH 0) (fun _ H Q=>Q true H) (zFI K (zp 0) "vector") 1 suf H D Q:=by
 have lo:=Paired.len hk;refine zU os.length (fun i ys H'=> ∃as:List Addr,i<=os.length/\ys=as.map V.ref/\as.length=i/\LIs H as ((k.take i).map (·.2))/\H'=L2.upd H D (.lst ys)) ⟨[],zOs _,rfl,rfl,.nil,rfl⟩ (by rw [zOo];omega) ?_ ?_ ?_
 ·rintro i ys H2 hi ⟨as,_,rfl,l',_,rfl⟩;have e2:=zC.upd hD (o:= .lst (as.map V.ref)) _ _ el;exact ⟨by rw [zOk];omega,zB,fun h=>⟨_,_,SqL.of e2,zOd (by simpa using h)⟩,fun h=>⟨_,SqL.of e2,by simp;omega⟩⟩
 ·rintro i ys H2 x H3 hi ⟨as,_,rfl,l',hf,rfl⟩ ⟨rfl,hx⟩ pre hpre;obtain ⟨p0,rfl⟩:=yX hpre;have s2:=zC.upd hD (o:= .lst (as.map V.ref));have hx':=hx _ (SqL.of (s2 _ _ el));rw [zOi,zOd hi] at hx';cases hx';obtain ⟨⟨a,u⟩,eu,dx,va,ho,hu⟩:=Paired.get' hk (zOd hi);refine ⟨⟨[some (.ref os[i])],rfl,rfl⟩,yC ?_⟩;refine ⟨_,rfl,os[i],C,dx,_,_,rfl,s2 _ _ ho,T.cl,T.n2,rfl,zB,as++ [va],hi,by simp,by simp [l'],?_,by rw [zx]⟩;rw [zPA,eu,zOz];exact Paired.snoc' hf hu
 ·rintro ys H2 ⟨as,_,rfl,_,hf,rfl⟩;rw [List.take_of_length_le (by omega)] at hf;exact q as hf
def zEE(C:Addr):Sp:=fun vs H Q _=> ∃(l:Addr) (R:List Vec) (k m b:Nat),vs= [.int (k:Int),.int (m:Int),.ref l] /\LL H l R/\(∀x∈R,x.length=k+m/\Bts b x)/\R.length<=6/\k<=100/\m<=100/\b<=2000/\
 ∀(T:List Stp) (t r:Addr) H',zC H H'->H' t=some (.tup [.int (T.length:Int),.ref r])->H r=none->LL H' r (zg (T.map (·.2)++yy k m R T) R.length)->NF R.length (zt k R) T->Q (.ref t) H'
theorem zBs:FnScope ["free","names","rows","steps","place","fixed"] ["free","names","rows"] (zI zCm):=⟨rfl,rfl,rfl,by decide+kernel,rfl,by decide+kernel,by decide+kernel⟩
theorem zJR{f fO fL fW C:Addr}{fd fdO fdL fdW:FuncData}(F:Fun K "normal" "normal" zCm f fd)(B:Bn mg)(T:SC K C)
  (FO:Fun K "with_one_more" "with_one_more" zCe fO fdO) (bO:zO K fdO ["steps","vector"] []) (mO:mg "with_one_more" =some (.ref fO)) (GO:FnOk P w K mg base CX0 36 fO fdO ["steps","vector"] (zFR C))
  (FL:Fun K "lessened" "lessened" zBY fL fdL) (bL:zO K fdL ["vector","steps"] []) (mL:mg "lessened" =some (.ref fL)) (GL:FnOk P w K mg base CX0 34 fL fdL ["vector","steps"] (zCJ C))
  (FW:Fun K "rows_of" "rows_of" zDn fW fdW) (bW:zO K fdW ["vectors","count"] []) (mW:mg "rows_of" =some (.ref fW)) (GW:FnOk P w K mg base CX0 1 fW fdW ["vectors","count"] zEn):FnOk P w K mg base CX0 37 f fd ["free","names","rows"] (zEE C):=by
 refine F.ok zBs (fun vs H Q E h=>?_) (fun cdv A outer s H vs Q E hr36 h=>?_)
 ·obtain ⟨l,R,k,m,b,rfl,_⟩:=h;rfl
 ·obtain ⟨l,R,k,m,b,rfl,⟨as,el,has⟩,hR,n6,hk,hm,hb,q⟩:=h;have hr1:Room 1 _:=hr36.mono (by decide);have hr34:Room 34 _:=hr36.mono (by decide);have la:=Paired.len has;have bR: ∀x∈R,Bts b x:=fun x hx=>(hR x hx).2;have eNB:NB b=127*b+140:=rfl;refine ⟨_,QB.out (zE
   (yY 3 zBs.nd rfl (Or.inr rfl) (zAB zD) rfl (.inl rfl)) (zE
   (zAA PassesOwn.never rfl (yj rfl B.range (qc (qx 0 rfl) zD rfl) rfl) (zH 4 zBs.nd rfl (Or.inr rfl) (.inl rfl)) (zJ
    (yY 3 zBs.nd rfl (Or.inr rfl) (zK GO hr36 rfl mO FO.kp bO .nil zL (qc (qx 3 rfl) (qc (ze ["row"] ["place"] [4] rfl (zm (K:=K) rfl (qx 2 rfl)) rfl (by decide+kernel) rfl (by decide+kernel) (zQ rfl ye) rfl (fr1 ⟨rfl,rfl,rfl,_,rfl,rfl⟩) (zN rfl) (fun _ _ _ _=>(zH 0 (show (["row","place"] :List Str).Nodup by decide+kernel) rfl (.inl rfl) (.inr rfl))) (fun _ _ _ _=>zc) (fun _ _ _ _=>(zk (K:=K) rfl (qw 0 rfl) (qx 1 rfl) (fun _ _=>rfl))) (fun _=>rfl)) zD rfl) rfl) rfl rfl rfl) rfl (.inl rfl))) (fun _=>rfl)) (zE
   (zHX yq 5 (by exact zBs.nd) rfl (Or.inl rfl) (.inr rfl) ["name"] ["free","rows","steps"] [0,2,3] rfl (yj rfl B.range (qc (qw 1 rfl) zD rfl) rfl) rfl rfl (by decide+kernel) (zQ rfl (zQ rfl (zQ rfl ye))) rfl (fr3 ⟨rfl,rfl,rfl,_,fun _=>rfl,rfl⟩ ⟨rfl,rfl,rfl,_,fun _=>rfl,rfl⟩ ⟨rfl,rfl,rfl,_,fun _=>rfl,rfl⟩) (fun _=>zN rfl) (fun _ _ _ _=>(zH 0 (show (["name","free","rows","steps"] :List Str).Nodup by decide+kernel) rfl (.inr rfl) (.inl rfl))) (fun _ _ _ _=>zc) (fun C s₂ H₂ fp xe E hp=>(zK GL hr34 rfl mL FL.kp bL .nil zL (qc (ze ["row"] ["name","free"] [0,1] rfl (zm (K:=K) rfl (qx 2 rfl)) rfl (by decide+kernel) rfl (by decide+kernel) (zQ rfl (zQ rfl ye)) rfl (fr2 ⟨rfl,rfl,rfl,_,rfl,rfl⟩ ⟨rfl,rfl,rfl,_,rfl,rfl⟩) (zN rfl) (fun _ _ _ _=>(zH 0 (show (["row","name","free"] :List Str).Nodup by decide+kernel) rfl (.inl rfl) (.inr rfl))) (fun _ _ _ _=>zc) (fun _ _ _ _=>(zk (K:=K) rfl (qw 0 rfl) (yc (qx 2 rfl) (qx 1 rfl)) (fun _ _=>rfl))) (fun _=>rfl)) (qc (qx 3 rfl) zD rfl) rfl) rfl rfl rfl)) (fun _=>rfl) rfl) (zJ
   (zZ (zAm (qc (yP (yK (K:=K) rfl) rfl B.len yk (qc (qx 3 rfl) zD rfl) rfl) (qc (zK GW hr1 rfl mW FW.kp bW .nil zL (qc (zAp (ze (cl:= []) ["step"] [] [] rfl (zm (K:=K) rfl (qx 3 rfl)) rfl (by decide+kernel) rfl (by decide+kernel) (fun _ _ h=>nomatch h) rfl (fun j y i h=>nomatch h) (zN rfl) (fun _ _ _ _=>(zH 0 (show (["step"] :List Str).Nodup by decide+kernel) rfl (.inl rfl) (.inr rfl))) (fun _ _ _ _=>zc) (fun _ _ _ _=>(zo (K:=K) rfl (qw 0 rfl) rfl)) (fun _=>rfl)) (qw 5 rfl)) (qc (yP (yK (K:=K) rfl) rfl B.len yk (qc (qx 2 rfl) zD rfl) rfl) zD rfl) rfl) rfl rfl rfl) zD rfl) rfl))))))),?_⟩
  refine ⟨bs 0,fun s0 hs0=>?_⟩;have t0:=zC.upd hs0 (o:= .lst []);refine ⟨_,rfl,(k:Int),rfl,by omega,by omega,?_⟩;refine yd k (fun i σ H'=> ∃(sl:Addr) (S:List Stp) (s4:Option V),σ= [some (.int (k:Int)),some (.int (m:Int)),some (.ref l),some (.ref sl),s4,none] /\i<=k/\zC H H'/\StL C H' sl S/\NF R.length (zt i R) S) ⟨s0,[],none,rfl,zOs _,t0,⟨[],zB,.nil⟩,zNn _⟩ ?_ ?_ ?_ ?_
  ·rintro i σ H1 hi ⟨sl,S,s4,rfl,_⟩;exact hi
  ·rintro σ H1 ⟨sl,S,s4,rfl,_⟩;exact zOh _
  ·rintro i σ H0 x H1 hi ⟨sl,S,s4,rfl,_,s1,hS,nf⟩ ⟨rfl,rfl⟩;refine ⟨_,rfl,_,rfl,l,rfl,⟨_,SqL.of (s1 _ _ el)⟩,fun D hD=>?_⟩;refine zEC (j:=i) (s1 _ _ el) (LIs.same has s1) (fun x hx=>by rw [(hR x hx).1];omega) (by omega) hD (Int.zero_add _) rfl ?_;have tD:=zC.upd hD (o:= .lst ((zl R i).map V.int));have bn: ∀T',Ech R.length T'->Red T'->(∀x,Sp T' x↔Sp ((0,zl R i)::S) x)-> ∀q∈T',Bts (NB b) q.2:=fun T' h1 h2 h3=>zFx h1 h2 (zHI nf h3) n6 (by rw [<-zDW];exact zBn bR);refine ⟨sl,D,S,zl R i,R.length,b,NB b,NB b,rfl,hS.same tD,zB,⟨nf.ech,yB,n6,zFx nf.ech nf.red nf.sp n6 (zBn bR),Bts.col bR i,bn,by omega⟩,fun T' l' H' s' hl' h1 h2 h3 h4=>?_⟩;refine ⟨l',T',_,rfl,hi,(s1.trans tD).trans s',hl',h1,h2,fun x=>by rw [zDW];exact zHI nf h3 x,?_⟩;have:=nf.len;rw [zDW,zPF];simp only [List.length_cons,List.length_nil];omega
  ·rintro σ H1 ⟨sl,S,s4,rfl,_,s1,⟨os,es,hos⟩,nf⟩;have bS:=zFx nf.ech nf.red nf.sp n6 (zBn bR);have lS:S.length<=6:=zOr (zBD nf.ech) n6;refine ⟨_,rfl,(m:Int),rfl,by omega,by omega,fun D hD=>?_⟩;refine zU m (fun i ys H'=> ∃rs:List Addr,i<=m/\ys=rs.map V.ref/\LIs H' rs ((yy k m R S).take i)/\rs.length=i/\D∉rs/\zC H1 H'/\H' D=some (.lst ys)) ⟨[],zOs _,rfl,by rw [List.take_zero];exact .nil,rfl,by simp,zC.upd hD,zB⟩ (by rw [zOo];omega) ?_ ?_ ?_
   ·rintro i ys H' hi ⟨rs,_,rfl,_,hrl,_,s2,e2⟩;exact ⟨by simp;omega,e2,fun h=>h,fun h=>Nat.le_of_eq h.symm⟩
   ·rintro i ys H' x H'' hi ⟨rs,_,rfl,hrs,hrl,hnd,s2,e2⟩ ⟨rfl,rfl⟩ pre hpre;obtain ⟨p0,rfl⟩:=yX hpre;have s12:=s1.trans s2;refine ⟨⟨[some (.int ((0:Int)+(i:Int)))],rfl,rfl⟩,yC ?_⟩;refine ⟨_,rfl,l,rfl,⟨_,SqL.of (s12 _ _ el)⟩,fun D2 hD2=>zIb (j:=i) (k:=k) (s12 _ _ el) (LIs.same has s12) (fun x hx=>by rw [(hR x hx).1];omega) (by omega) hD2 (Int.zero_add _) rfl ?_⟩;have tD:=zC.upd hD2 (o:= .lst ((zl R (k+i)).map V.int));have mul6:S.length*(NB b+1)<=6*(NB b+1):=Nat.mul_le_mul_right _ lS;refine ⟨_,rfl,D2,sl,zl R (k+i),S,R.length,b,NB b,rfl,zB,⟨os,(s2.trans tD) _ _ es,StA.same hos (s2.trans tD)⟩,yB,by omega,by omega,fun q hq=>let ⟨z1,z2,z3,_⟩:=nf.ech.mem hq;⟨z1,z2,z3,bS q hq⟩,Bts.col bR _,by omega,fun l' H3 s3 hfr hl'=>?_⟩;have sD:=tD.trans s3;have hne:l'≠D:=fun z=>by
     rcases hfr with h | h
     ·rw [<-h,z,e2] at hD2;cases hD2
     ·rw [z,tD _ _ e2] at h;cases h
    refine ⟨sD _ _ e2,rs++ [l'],hi,by simp,?_,by simp [hrl],by simp [hnd,Ne.symm hne],zC.store (s2.trans sD) hD,zB⟩;rw [zPA,show (yy k m R S)[i]?=some (zR (zl R (k+i)) S) by simp [yy,hi]];refine Paired.snoc' (Paired.mapM hrs fun a v hm ea=>?_) ?_
    ·have z:=sD _ _ ea;show L2.upd _ D _ a=_;rw [zG fun haD=>hnd (by rw [<-haD];exact hm)];exact z
    ·show L2.upd _ D _ l'=_;rw [zG hne];exact hl'
   ·rintro ys H2 ⟨rs,_,rfl,hrs,_,_,s2,e2⟩;rw [List.take_of_length_le (by simp [yy])] at hrs;have lr:=Paired.len hrs;have lfx:(yy k m R S).length=m:=by simp [yy]
    refine ⟨_,rfl,sl,_,rfl,.inl (SqL.of (s2 _ _ es)),?_⟩;refine ⟨_,rfl,sl,rfl,⟨_,SqL.of (s2 _ _ es)⟩,fun D4 hD4=>zKn T (s2 _ _ es) (StA.same hos s2) (by omega) hD4 fun vs hvs=>?_⟩;have t4:=zC.upd hD4 (o:= .lst (vs.map V.ref));have lv:=Paired.len hvs;rw [zOk] at lv;refine ⟨_,rfl,D4,D,_,_,rfl,rfl,zB,t4 _ _ e2,by rw [zOo];simp;omega,fun p hp=>?_⟩;have t5:=zC.upd hp (o:= .lst (vs.map V.ref++rs.map V.ref));have s5:=(s2.trans t4).trans t5;have s15:=s1.trans s5;refine ⟨_,rfl,l,_,rfl,.inl (SqL.of (s15 _ _ el)),p,S.map (·.2)++yy k m R S,R.length,by rw [zOk,la];rfl,⟨vs++rs,by rw [zB,zOz],LIs.same (Paired.app (LIs.same hvs t4) (LIs.same hrs t4)) t5⟩,fun u hu=>?_,by omega,by simp;omega,fun r H6 s6 hr6 h6=>?_⟩
    ·rcases List.mem_append.mp hu with z | z
     ·obtain ⟨q',hq',rfl⟩:=List.mem_map.mp z;exact (nf.ech.mem hq').1
     ·obtain ⟨j,_,rfl⟩:=List.mem_map.mp z;exact (zd nf.ech yB).1
    ·refine ⟨bs 2,fun t ht=>?_⟩;have lo:=Paired.len hos;have t7:=zC.upd ht (o:= .tup [.int (((os.map V.ref).length:Nat):Int),.ref r]);refine q S t r _ ((s15.trans s6).trans t7) ?_ (zC.none s15 hr6) (h6.same t7) nf;rw [zB,zOk,lo]
end
section
variable {P:Program}{w:World}{K:zPS}{mg:Str->Option Value}{base:Heap}
def zKq(K:zPS):Sp:=fun vs H Q _=> ∃(a p:Addr) (ns:List Int) (c:Int) (k m n:Nat),vs= [.ref a,.ref p,.int (k:Int),.int (m:Int),.int (n:Int)] /\Scr K H a p ns/\ns.length<=63/\H p=some (.lst [.int c])/\0<=c/\c<=300/\k<=3/\m<=2/\n<=4/\
 ∀l R H',But [p] H H'->H l=none->LL H' l R->R.length=n->(∀x∈R,x.length=k+m/\Bts 7 x)->Q (.ref l) H'
theorem zFG:FnScope ["_law_script","_law_spot","_law_free","_law_names","_law_many","_law_found","_law_k","_law_row","_law_number_here"] ["_law_script","_law_spot","_law_free","_law_names","_law_many"] (zI zEo):=⟨rfl,rfl,rfl,by decide+kernel,rfl,by decide+kernel,by decide+kernel⟩
theorem zJm{K:zPS}{H:Hp}{l D:Addr}{v:Vec}{r:Int}{b:Nat}{suf rest:L2.St}{Q:VK}(hv:LI H l v)(hl:v.length<=1000)(bv:Bts b v)(hb:b<=20)(hD:H D=none)(hs:suf=some (.int r)::rest)
  (q: ∀u,u.length=v.length->Bts (b+1) u->Q (.ref D) (L2.upd H D (.lst (u.map V.int)))):
  CompInv (Itl K l) (yH 0) (fun _ H Q=>Q true H) (yR (rI zGT fun i j=>V.int (i*j)) (zp 0) (yR (rI (fun _ j=>0<j) fun i j=>V.int (i % j)) (yR (rI zKe fun i j=>V.int (i/j)) (zp 1) (tC (V.int 4))) (tC (V.int 3)))) 1 suf H D Q:=by
 subst hs;have z0:=zOv (r/4) (show (3:Int)≠0 by decide);have z1:=zOp (r/4) (show (0:Int)<3 by decide);refine zU v.length (fun i ys H'=>i<=v.length/\ys=((v.map fun x=>x*(r/4 % 3)).take i).map V.int/\H'=L2.upd H D (.lst ys)) ⟨zOs _,by simp,rfl⟩ (by rw [zOo];omega) ?_ ?_ ?_
 ·rintro i ys H2 hi ⟨_,rfl,rfl⟩;have e2:=hv.same (zC.upd hD (o:= .lst (((v.map fun x=>x*(r/4 % 3)).take i).map V.int)));exact ⟨by simp;omega,zB,fun h=>⟨_,_,SqL.of e2,zS h⟩,fun h=>⟨_,SqL.of e2,by simp;omega⟩⟩
 ·rintro i ys H2 x H3 hi ⟨_,rfl,rfl⟩ ⟨rfl,hx⟩ pre hpre;obtain ⟨p0,rfl⟩:=yX hpre;have hx':=hx _ (SqL.of (hv.same (zC.upd hD (o:= .lst (((v.map fun x=>x*(r/4 % 3)).take i).map V.int)))));rw [zS hi] at hx';cases hx';refine ⟨⟨[some (.int (zA v i))],rfl,rfl⟩,yC ?_⟩;refine ⟨_,rfl,_,rfl,r,4,rfl,rfl,⟨by decide,by decide⟩,_,_,rfl,rfl,by decide,_,_,rfl,rfl,.inr ⟨by omega,by omega⟩,zB,hi,?_,by rw [zx]⟩;rw [zPA,zOi,zAN hi];simp
 ·rintro ys H2 ⟨_,rfl,rfl⟩;rw [List.take_of_length_le (by simp)];refine q _ (by simp) fun i=>?_;rw [zDX (fun x=>x*(r/4 % 3)) (by simp)];exact (bv i).mul (show Bt 1 _ by show (r/4 % 3).natAbs<=2;omega)
theorem zOB{f fD fN:Addr}{fd fdD fdN:FuncData}(F:Fun K "_law_rows" "_law_rows" zEo f fd)(B:Bn mg)
  (FD:Fun K "_law_drawn" "_law_drawn" zDL fD fdD) (bD:zO K fdD ["_law_script","_law_spot","_law_size","_law_most"] []) (mD:mg "_law_drawn" =some (.ref fD)) (GD:FnOk P w K mg base CX0 3 fD fdD ["_law_script","_law_spot","_law_size","_law_most"] (zKM K))
  (FN:Fun K "_law_number" "_law_number" zDD fN fdN) (bN:zO K fdN ["_law_script","_law_k"] []) (mN:mg "_law_number" =some (.ref fN)) (GN:FnOk P w K mg base CX0 2 fN fdN ["_law_script","_law_k"] (zDi K)):FnOk P w K mg base CX0 4 f fd ["_law_script","_law_spot","_law_free","_law_names","_law_many"] (zKq K):=by
 refine F.ok zFG (fun vs H Q E h=>?_) (fun cdv A outer s H vs Q E hr3 h=>?_)
 ·obtain ⟨a,p,ns,c,k,m,n,rfl,_⟩:=h;rfl
 ·obtain ⟨a,p,ns,c,k,m,n,rfl,ha,hns,hp,c0,c1,k3,m2,n4,q⟩:=h;have hr2:Room 2 _:=hr3.mono (by decide);have huN:=Nat.lt_of_succ_lt (zGA hr2);refine ⟨_,QB.out (zE
   (zV 5 zFG.nd rfl (zAB zD) rfl) (zE
   (zAA PassesOwn.never rfl (yj rfl B.range (qc (qw 4 rfl) zD rfl) rfl) (zH 6 zFG.nd rfl (Or.inl rfl) (.inr rfl)) (zE
    (zV 7 zFG.nd rfl (zK GD hr3 rfl mD FD.kp bD .nil zL (qc (qw 0 rfl) (qc (qw 1 rfl) (qc (yc (qw 2 rfl) (qw 3 rfl)) (qc zF zD rfl) rfl) rfl) rfl) rfl rfl rfl) rfl) (zE
    (yY 8 zFG.nd rfl (Or.inr rfl) (zK GN hr2 rfl mN FN.kp bN .nil zL (qc (qw 0 rfl) (qc (yc zF (qw 6 rfl)) zD rfl) rfl) rfl rfl rfl) rfl (.inl rfl)) (zE
    (yW (t_w (zDm (zf (zEN huN) (qw 5 rfl) (zAB zD) rfl) (zDM (zf zAn (yu (qx 8 rfl) zF) zF rfl)))) (zJ
     (zAh yq 7 (by exact zFG.nd) rfl (Or.inl rfl) (.inr rfl) ["_law_here"] ["_law_number_here"] [8] rfl (zm (K:=K) rfl (zk (K:=K) rfl (qw 5 rfl) (yu (zBL (qx 8 rfl) zF) (yP (yK (K:=K) rfl) rfl B.len yk (qc (qw 5 rfl) zD rfl) rfl)) (fun _ _=>rfl))) rfl (by decide+kernel) rfl (by decide+kernel) (zQ rfl ye) rfl (fr1 ⟨rfl,rfl,rfl,_,rfl,rfl⟩) (zN rfl) (fun _ _ _ _=>(zH 0 (show (["_law_here","_law_number_here"] :List Str).Nodup by decide+kernel) rfl (.inl rfl) (.inr rfl))) (fun _ _ _ _=>zc) (fun C s₂ H₂ fp xe E hp=>(zIQ (qw 0 rfl) (yu (zBL (qx 1 rfl) zF) zF))) (fun _=>rfl) rfl)) yS) (zJ
    (zBe (zCs (K:=K) rfl (qw 5 rfl) (qw 7 rfl) rfl rfl rfl) rfl))))) (fun _=>rfl)) (zJ
   (zZ (qw 5 rfl))))),?_⟩
  refine ⟨zOs _,fun l hl=>?_⟩;have hlp:l≠p:=fun z=>by rw [z,hp] at hl;cases hl
  have sl:=zC.upd hl (o:= .lst []);refine ⟨_,rfl,(n:Int),rfl,by omega,by omega,?_⟩;refine yd n (fun i σ H'=> ∃(s6 s7 s8:Option V) (R:List Vec) (rs:List Addr) (c':Int),σ= [some (.ref a),some (.ref p),some (.int (k:Int)),some (.int (m:Int)),some (.int (n:Int)),some (.ref l),s6,s7,s8] /\i<=n/\R.length=i/\(∀x∈R,x.length=k+m/\Bts (2+i) x)/\H' l=some (.lst (rs.map V.ref))/\LIs H' rs R/\p∉rs/\l∉rs/\H' p=some (.lst [.int c'])/\0<=c'/\c'<=300+5*i/\But [p] H H')
   ⟨none,none,none,[],[],c,rfl,zOs _,rfl,by simp,zB,.nil,by simp,by simp,sl _ _ hp,c0,by omega,zC.but sl _⟩ ?_ ?_ ?_ ?_
  ·rintro i σ H1 hi ⟨s6,s7,s8,R,rs,c',rfl,_⟩;exact hi
  ·rintro σ H1 ⟨s6,s7,s8,R,rs,c',rfl,_⟩;exact zOh _
  ·rintro i σ H0 x H1 hi ⟨s6,s7,s8,R,rs,c',rfl,_,lR,hR,el,hrs,hpr,hlr,ep,d0,d1,bt⟩ ⟨rfl,rfl⟩;have lrs:rs.length=i:=by rw [Paired.len hrs];exact lR
   refine ⟨_,rfl,_,rfl,_,rfl,_,rfl,_,_,rfl,rfl,a,p,ns,c',k+m,4,by simp,ha.but bt,hns,ep,d0,by omega,by decide,by decide,fun l1 v H2 b2 ep2 hl1 hv lv bv=>?_⟩;have nl1:l1≠l:=fun z=>by rw [z,el] at hl1;cases hl1
   have np1:l1≠p:=fun z=>by rw [z,ep] at hl1;cases hl1
   have el2:=b2 _ _ el (by simpa using hlp);have hrs2:=LIs.butp hrs b2 hpr;have bv2:Bts 2 v:=bv;refine ⟨_,rfl,_,rfl,_,_,rfl,rfl,a,ns,_,rfl,((ha.but bt).but b2).sq,hns,by omega,by omega,fun r H3 s3 r0 r1=>?_⟩;refine ⟨_,rfl,zOs _,fun pb hpb=>?_⟩;have t3:=zC.upd hpb (o:= .lst []);have s23:=s3.trans t3;refine ⟨l,pb,_,rfl,rfl,SqL.of (s23 _ _ el2),SqL.of zB,_,rfl,?_⟩;refine zCg (decide (V.int (r % 4)=V.int 1)) (fun c Q' h=>⟨_,rfl,r,4,rfl,rfl,by decide,rfl,_,rfl,h⟩) ?_;generalize L2.upd H3 pb (.lst [])=H4 at*;refine zHn (fun σ' H'=> ∃(rl:Addr) (u:Vec),σ'= [some (.ref a),some (.ref p),some (.int (k:Int)),some (.int (m:Int)),some (.int (n:Int)),some (.ref l),some (.int ((0:Int)+(i:Int))),some (.ref rl),some (.int r)] /\zC H2 H'/\LI H' rl u/\u.length=k+m/\Bts (3+i) u/\rl≠l/\rl≠p) (fun c N hN=>?_) (fun c N hN=>?_) ?_
   ·have hne:rs≠ [] :=fun z=>by rw [z] at c;simp at c
    have hpos:0<rs.length:=List.length_pos_iff.mpr hne;have hpi:(0:Int)<((rs.map V.ref).length:Int):=by rw [zOk];omega
    have i0:=zOv (r/12) (show ((rs.map V.ref).length:Int)≠0 by omega);have i1:=zOp (r/12) hpi;obtain ⟨j,ej⟩: ∃j:Nat,r/12 %((rs.map V.ref).length:Int)=j:=⟨(r/12 %((rs.map V.ref).length:Int)).toNat,by omega⟩;have hj:j<rs.length:=by rw [ej,zOk] at i1;omega
    obtain ⟨u,eu,hu⟩:=Paired.get' hrs2 (zOd hj);obtain ⟨lu,bu⟩:=hR u (zPH eu);refine ⟨_,rfl,_,rfl,r,12,rfl,rfl,⟨by decide,by decide⟩,_,rfl,l,_,rfl,.inl (SqL.of (s23 _ _ el2)),_,_,rfl,rfl,hpi,l,_,_,_,rfl,rfl,SqL.of (s23 _ _ el2),by rw [ej];exact zh (by rw [zOi,zOd hj];rfl),rs[j],rfl,⟨_,SqL.of (hu.same s23)⟩,fun D hD=>zJm (hu.same s23) (by omega) bu (by omega) hD rfl fun u' lu' bu'=>?_⟩;refine hN _ _ ⟨D,u',rfl,s23.trans (zC.upd hD),zB,by omega,bu'.mono (by omega),fun z=>?_,fun z=>?_⟩
    ·rw [z,s23 _ _ el2] at hD;cases hD
    ·rw [z,s23 _ _ ep2] at hD;cases hD
   ·exact hN _ _ ⟨l1,v,rfl,s23,hv.same s23,lv,bv2.mono (by omega),nl1,np1⟩
   ·rintro σ' H' ⟨rl,u,rfl,s4,hu,lu,bu,n1,n2⟩;refine ⟨_,rfl,.inl ⟨rfl,_,SqL.of (s4 _ _ el2)⟩,_,rfl,l,_,_,rfl,rfl,s4 _ _ el2,by rw [zOo];simp;omega,?_⟩;refine ⟨_,_,_,R++ [u],rs++ [rl],_,rfl,hi,by simp [lR],fun x hx=>?_,by rw [zB,zOz];rfl,?_,by simp [hpr,Ne.symm n2],by simp [hlr,Ne.symm n1],by rw [zG (Ne.symm hlp)];exact s4 _ _ ep2,by omega,by omega,?_⟩
    ·rcases List.mem_append.mp hx with h | h
     ·exact ⟨(hR x h).1,(hR x h).2.mono (by omega)⟩
     ·rw [List.mem_singleton.mp h];exact ⟨lu,bu.mono (by omega)⟩
    ·refine Paired.snoc' (Paired.mapM hrs2 fun a v hm ea=>?_) ?_
     ·show L2.upd _ l _ a=_;rw [zG fun z=>hlr (by rw [<-z];exact hm)];exact s4 _ _ ea
     ·show L2.upd _ l _ rl=_;rw [zG n1];exact hu
    ·exact fun b u e z=>by rw [zG (yn e hl)];exact (bt.trans (b2.trans (zC.but s4 _))) b u e z
  ·rintro σ H1 ⟨s6,s7,s8,R,rs,c',rfl,_,lR,hR,el,hrs,hpr,hlr,ep,d0,d1,bt⟩;exact ⟨_,rfl,q l R H1 bt hl ⟨rs,el,hrs⟩ lR fun x hx=>⟨(hR x hx).1,(hR x hx).2.mono (by omega)⟩⟩
end
section
variable {P:Program}{w:World}{K:zPS}{mg:Str->Option Value}{base:Heap}
theorem zKG{vs:List Vec}{n c:Nat}{v:Vec}(h:vs[c]?=some v){i:Nat}(hi:i<n):zA (zl (zg vs n) c) i=zA v i:=by
 simp [zA,zl,zg,hi,h]
theorem yi{vs:List Vec}{n:Nat}:(zg vs n).length=n:=by simp [zg]
theorem zBC{vs:List Vec}{n c:Nat}{v:Vec}(h:vs[c]?=some v)(hv:v.length=n):zl (zg vs n) c=v:=
 zEu (by rw [yB,yi,hv]) fun i=>by
  by_cases hi:i<n
  ·exact zKG h hi
  ·rw [yE (by rw [yB,yi];omega),yE (by omega)]
theorem zIc{vs:List Vec}{n i:Nat}(hi:i<n):(zg vs n)[i]?=some (vs.map fun v=>zA v i):=by simp [zg,hi]
theorem zEL{vs:List Vec}{n:Nat}{x:Vec}(h:x∈zg vs n):x.length=vs.length:=by
 obtain ⟨i,_,rfl⟩:=List.mem_map.mp h;simp
theorem zKN{v:Vec}{a b:Nat}(h1:a<=v.length)(h2:b<=v.length):zBR (v.map V.int) (some (a:Int)) (some (b:Int))=((v.drop a).take (b - a)).map V.int:=by
 have e1:HT.sIx (v.map V.int).length 0 (some (a:Int))=a:=by
  unfold HT.sIx;simp only [zOk];rw [if_neg (by omega)];omega
 have e2:HT.sIx (v.map V.int).length (v.map V.int).length (some (b:Int))=b:=by
  unfold HT.sIx;simp only [zOk];rw [if_neg (by omega)];omega
 unfold zBR;rw [e1,e2,List.map_take,List.map_drop]
theorem zLZ{K:zPS}{H:Hp}{l D:Addr}{v:Vec}{n:Nat}{nv:Int}{suf rest:L2.St}{Q:VK}(hv:LI H l v)(hn:v.length=n)(h0:nv=(n:Int))(hl:n<=1000)(hD:H D=none)(hs:suf=some (.ref l)::rest)
  (q:Q (.ref D) (L2.upd H D (.lst (((List.range n).filter fun i=>!decide (zA v i=0)).map fun i:Nat=>V.int (i:Int))))):
  CompInv (Itr 0 nv.toNat) (yH 0) (zBi (yR rNe (yR (zCp K) (zp 1) (zp 0)) (tC (V.int 0)))) (zp 0) 1 suf H D Q:=by
 subst hs h0;refine zU n (fun i ys H'=>i<=n/\ys=(((List.range i).filter fun i=>!decide (zA v i=0)).map fun i:Nat=>V.int (i:Int))/\H'=L2.upd H D (.lst ys)) ⟨zOs _,by simp,rfl⟩ (by rw [zOo];omega) ?_ ?_ ?_
 ·rintro i ys H2 hi ⟨_,rfl,rfl⟩;have:=List.length_filter_le (fun i=>!decide (zA v i=0)) (List.range i);rw [List.length_range] at this;exact ⟨by rw [zOk];omega,zB,fun h=>h,fun h=>Nat.le_of_eq h.symm⟩
 ·rintro i ys H2 x H3 hi ⟨_,rfl,rfl⟩ ⟨rfl,rfl⟩ pre hpre;obtain ⟨p0,rfl⟩:=yX hpre;have e2:=hv.same (zC.upd hD (o:= .lst (((List.range i).filter fun i=>!decide (zA v i=0)).map fun i:Nat=>V.int (i:Int))));refine ⟨⟨[some (.int ((0:Int)+(i:Int)))],rfl,rfl⟩,?_⟩;refine ⟨_,rfl,_,rfl,l,_,_,_,rfl,rfl,SqL.of e2,by rw [Int.zero_add];exact zh (zS (by omega)),rfl,_,rfl,yl (fun c=>?_) (fun c=>?_)⟩
  ·have c':zA v i≠0:=by simpa using c
   refine ⟨_,rfl,zB,hi,?_,by rw [zx]⟩;rw [List.range_succ,List.filter_append];simp [c']
  ·have c':zA v i=0:=by simpa using c
   refine ⟨hi,?_,rfl⟩;rw [List.range_succ,List.filter_append];simp [c']
 ·rintro ys H2 ⟨_,rfl,rfl⟩;exact q
theorem zJg{v:Vec}{n p:Nat}(hp:p<n)(h0:zA v p≠0)(hz: ∀j,j<p->zA v j=0):((List.range n).filter fun i=>!decide (zA v i=0)).take 1= [p] :=by
 have e:List.range n=List.range p++(p::(List.range' (p+1) (n - p - 1))):=by
  rw [List.range_eq_range',List.range_eq_range',show n=p+((n - p - 1)+1) by omega,<-List.range'_append_1];simp [List.range'_succ]
 rw [e,List.filter_append,List.filter_eq_nil_iff.mpr fun i hi=>by simpa using hz i (List.mem_range.mp hi),List.nil_append,List.filter_cons];simp [h0]
theorem zJl{K:zPS}{H:Hp}{l D:Addr}{v:Vec}{z:Int}{suf rest:L2.St}{Q:VK}(hv:LI H l v)(hl:v.length<=1000)(hD:H D=none)(hs:suf=some (.int z)::rest)(ok: ∀x∈v,0<=x/\x<z)
  (q:Q (.ref D) (L2.upd H D (.lst []))):CompInv (Itl K l) (yH 0) (zKS (zBi (zGF (rI0 fun i j=>V.bl (decide (i<=j))) (rI0 fun i j=>V.bl (decide (i<j))) (tC (V.int 0)) (zp 0) (zp 1)))) (zp 0) 1 suf H D Q:=by
 subst hs;refine zU v.length (fun i ys H'=>i<=v.length/\ys= [] /\H'=L2.upd H D (.lst [])) ⟨zOs _,rfl,rfl⟩ (by rw [zOo];omega) ?_ ?_ ?_
 ·rintro i ys H2 hi ⟨_,rfl,rfl⟩;have e2:=hv.same (zC.upd hD (o:= .lst []));exact ⟨zOs _,zB,fun h=>⟨_,_,SqL.of e2,zS h⟩,fun h=>⟨_,SqL.of e2,by simp;omega⟩⟩
 ·rintro i ys H2 x H3 hi ⟨_,rfl,rfl⟩ ⟨rfl,hx⟩ pre hpre;obtain ⟨p0,rfl⟩:=yX hpre;have hx':=hx _ (SqL.of (hv.same (zC.upd hD (o:= .lst []))));rw [zS hi] at hx';cases hx';obtain ⟨o1,o2⟩:=ok (zA v i) (zPH (zAN hi));refine ⟨⟨[some (.int (zA v i))],rfl,rfl⟩,?_⟩;refine ⟨_,rfl,0,zA v i,rfl,rfl,_,rfl,zEY (zPB o1) ⟨_,rfl,zA v i,z,rfl,rfl,_,rfl,zAR (by rw [zPB o2];rfl) ⟨hi,rfl,rfl⟩⟩⟩
 ·rintro ys H2 ⟨_,rfl,rfl⟩;exact q
def zKB:Sp:=fun vs H Q _=> ∃(l:Addr) (T:List Stp) (fx:List Vec) (n m:Nat),vs= [.int (T.length:Int),.int (m:Int),.ref l] /\LL H l (zg (T.map (·.2)++fx) n)/\Ech n T/\Red T/\fx.length=m/\(∀f∈fx,∀q∈T,0<=zA f q.1/\zA f q.1<zA q.2 q.1)/\n<=100/\m<=100/\ ∀H',zC H H'->Q (.bl true) H'
theorem zCr:FnScope ["_law_free","_law_names","_law_rows_here","_law_last","_law_at","_law_numbers","_law_first","_law_pivot","_law_behind","_law_ahead"] ["_law_free","_law_names","_law_rows_here"] (zI zDT):=⟨rfl,rfl,rfl,by decide+kernel,rfl,by decide+kernel,by decide+kernel⟩
theorem zFY{n:Nat}: ∀{T:List Stp} {i j:Nat} {q r:Stp},Ech n T->T[i]?=some q->T[j]?=some r->i<j->q.1<r.1
 |(p,v)::T,0,j+1,q,r,h,hi,hj,_=>by
  cases hi;exact h.2.2.2.2.1 r (zPH hj)
 |(p,v)::T,i+1,j+1,q,r,h,hi,hj,hlt=>zFY h.2.2.2.2.2 hi hj (by omega)
theorem zHR: ∀{T:List Stp} {i j:Nat} {q r:Stp},Red T->T[i]?=some q->T[j]?=some r->i<j->0<=zA q.2 r.1/\zA q.2 r.1<zA r.2 r.1
 |(p,v)::T,0,j+1,q,r,h,hi,hj,_=>by
  cases hi;exact h.1 r (zPH hj)
 |(p,v)::T,i+1,j+1,q,r,h,hi,hj,hlt=>zHR h.2 hi hj (by omega)
theorem zOF{f:Addr}{fd:FuncData}(F:Fun K "_law_shape" "_law_shape" zDT f fd)(B:Bn mg):FnOk P w K mg base CX0 1 f fd ["_law_free","_law_names","_law_rows_here"] zKB:=by
 refine F.ok zCr (fun vs H Q E h=>?_) (fun cdv A outer s H vs Q E hr h=>?_)
 ·obtain ⟨l,T,fx,n,m,rfl,_⟩:=h;rfl
 ·obtain ⟨l,T,fx,n,m,rfl,⟨as,el,has⟩,hE,hR,lf,hf,n100,m100,q⟩:=h;have huN:=Nat.lt_of_succ_lt (zGA hr);have la:as.length=n:=by rw [Paired.len has,yi]
  have lT:T.length<=n:=zBD hE;have lU:(T.map (·.2)++fx).length=T.length+m:=by simp [lf]
  refine ⟨_,QB.out (zE
   (zV 3 zCr.nd rfl (zBW zF) rfl) (zE
   (zAA PassesOwn.never rfl (yj rfl B.range (qc (qw 0 rfl) zD rfl) rfl) (zH 4 zCr.nd rfl (Or.inr rfl) (.inl rfl)) (zE
    (yY 5 zCr.nd rfl (Or.inr rfl) (ze ["_law_row"] ["_law_at"] [4] rfl (zm (K:=K) rfl (qw 2 rfl)) rfl (by decide+kernel) rfl (by decide+kernel) (zQ rfl ye) rfl (fr1 ⟨rfl,rfl,rfl,_,rfl,rfl⟩) (zN rfl) (fun _ _ _ _=>(zH 0 (show (["_law_row","_law_at"] :List Str).Nodup by decide+kernel) rfl (.inl rfl) (.inr rfl))) (fun _ _ _ _=>zc) (fun _ _ _ _=>(zk (K:=K) rfl (qw 0 rfl) (qx 1 rfl) (fun _ _=>rfl))) (fun _=>rfl)) rfl (.inl rfl)) (zE
    (zV 6 zCr.nd rfl (zAk (K:=K) rfl (ze ["_law_k"] ["_law_numbers"] [5] rfl (yj rfl B.range (qc (yP (yK (K:=K) rfl) rfl B.len yk (qc (qw 2 rfl) zD rfl) rfl) zD rfl) rfl) rfl (by decide+kernel) rfl (by decide+kernel) (zQ rfl ye) rfl (fr1 ⟨rfl,rfl,rfl,_,rfl,rfl⟩) (zN rfl) (fun _ _ _ _=>(zH 0 (show (["_law_k","_law_numbers"] :List Str).Nodup by decide+kernel) rfl (.inl rfl) (.inr rfl))) (fun _ _ _ _=>(zCD (zf zAr (zk (K:=K) rfl (qx 1 rfl) (qw 0 rfl) (fun _ _=>rfl)) zF rfl))) (fun _ _ _ _=>(qw 0 rfl)) (fun _=>rfl)) zAP (zAC zF)) rfl) (zE
    (yW (t_w (zCU (zf (zGX huN) (qw 6 rfl) (zAB zD) rfl) (zCU (zf zFt (zk (K:=K) rfl (qw 6 rfl) zF (fun _ _=>rfl)) (qw 3 rfl) rfl) (zCy (zf zEV (zk (K:=K) rfl (qx 5 rfl) (zk (K:=K) rfl (qw 6 rfl) zF (fun _ _=>rfl)) (fun _ _=>rfl)) zF rfl))))) (zJ
     (zZ zBO)) yS) (zE
    (zV 3 zCr.nd rfl (zk (K:=K) rfl (qw 6 rfl) zF (fun _ _=>rfl)) rfl) (zE
    (yY 7 zCr.nd rfl (Or.inr rfl) (zk (K:=K) rfl (qx 5 rfl) (qw 3 rfl) (fun _ _=>rfl)) rfl (.inl rfl)) (zE
    (zV 8 zCr.nd rfl (zAk (K:=K) rfl (zk (K:=K) rfl (qw 2 rfl) (qw 3 rfl) (fun _ _=>rfl)) (zAC (yc (qx 4 rfl) zF)) (zAC (qw 0 rfl))) rfl) (zE
    (zV 9 zCr.nd rfl (zAp (zAk (K:=K) rfl (zk (K:=K) rfl (qw 2 rfl) (qw 3 rfl) (fun _ _=>rfl)) zAP (zAC (qx 4 rfl))) (zAk (K:=K) rfl (zk (K:=K) rfl (qw 2 rfl) (qw 3 rfl) (fun _ _=>rfl)) (zAC (qw 0 rfl)) zAP)) rfl) (zJ
    (yW (t_w (zCU (zf (zEN huN) (ze (cl:= []) ["_law_one"] [] [] rfl (zm (K:=K) rfl (qw 8 rfl)) rfl (by decide+kernel) rfl (by decide+kernel) (fun _ _ h=>nomatch h) rfl (fun j y i h=>nomatch h) (zN rfl) (fun _ _ _ _=>(zH 0 (show (["_law_one"] :List Str).Nodup by decide+kernel) rfl (.inl rfl) (.inr rfl))) (fun _ _ _ _=>(zCD (zf zAr (qw 0 rfl) zF rfl))) (fun _ _ _ _=>(qw 0 rfl)) (fun _=>rfl)) (zAB zD) rfl) (zCy (zf (zEN huN) (ze ["_law_one"] ["_law_pivot"] [7] rfl (zm (K:=K) rfl (qw 9 rfl)) rfl (by decide+kernel) rfl (by decide+kernel) (zQ rfl ye) rfl (fr1 ⟨rfl,rfl,rfl,_,rfl,rfl⟩) (zN rfl) (fun _ _ _ _=>(zH 0 (show (["_law_one","_law_pivot"] :List Str).Nodup by decide+kernel) rfl (.inl rfl) (.inr rfl))) (fun _ _ _ _=>(zCD (zBG (zHL zFt zEV zF (qw 0 rfl) (qx 1 rfl) rfl)))) (fun _ _ _ _=>(qw 0 rfl)) (fun _=>rfl)) (zAB zD) rfl)))) (zJ
     (zZ zBO)) yS))))))))) (fun _=>rfl)) (zJ
   (zZ zBO)))),?_⟩
  refine ⟨_,rfl,_,rfl,(T.length:Int),rfl,by omega,by omega,?_⟩;refine yd T.length (fun i σ H'=> ∃(la:Int) (s4 s5 s6 s7 s8 s9:Option V),σ= [some (.int (T.length:Int)),some (.int (m:Int)),some (.ref l),some (.int la),s4,s5,s6,s7,s8,s9] /\i<=T.length/\zC H H'/\ ∀q,T[i]?=some q->la<(q.1:Int)) ⟨-1,none,none,none,none,none,none,rfl,zOs _,zC.refl H,fun q _=>by omega⟩ ?_ ?_ ?_ ?_
  ·rintro i σ H1 hi ⟨la,s4,s5,s6,s7,s8,s9,rfl,_⟩;exact hi
  ·rintro σ H1 ⟨la,s4,s5,s6,s7,s8,s9,rfl,_⟩;exact zOh _
  ·rintro i σ H0 x H1 hi ⟨la',s4,s5,s6,s7,s8,s9,rfl,_,s1,hla⟩ ⟨rfl,rfl⟩;obtain ⟨⟨p,v⟩,eT⟩: ∃q,T[i]?=some q:=⟨_,zOd hi⟩;obtain ⟨v1,v2,v3,v4⟩:=hE.mem (zPH eT);simp only at v1 v2 v3 v4;have hla':=hla _ eT;simp only at hla';have eU:(T.map (·.2)++fx)[i]?=some v:=by rw [List.getElem?_append_left (by simpa using hi),zOi,eT];rfl
   have ec:=zBC (n:=n) eU v1;refine ⟨_,rfl,l,rfl,⟨_,SqL.of (s1 _ _ el)⟩,fun D5 hD5=>?_⟩;refine zEC (j:=i) (s1 _ _ el) (LIs.same has s1) (fun x hx=>by rw [zEL hx,lU];omega) (by rw [yi];omega) hD5 (Int.zero_add _) rfl ?_;rw [ec];have t5:=zC.upd hD5 (o:= .lst (v.map V.int));have e5:LI (L2.upd H1 D5 (.lst (v.map V.int))) D5 v:=zB;generalize L2.upd H1 D5 (.lst (v.map V.int))=H5 at t5 e5⊢;have s15:=s1.trans t5;refine ⟨_,rfl,l,_,rfl,.inl (SqL.of (s15 _ _ el)),_,rfl,by omega,by simp;omega,fun D6 hD6=>?_⟩;refine zLZ e5 v1 (by simp [la]) (by omega) hD6 rfl ?_;have t6:=zC.upd hD6 (o:= .lst (((List.range n).filter fun i=>!decide (zA v i=0)).map fun i:Nat=>V.int (i:Int)));refine ⟨_,rfl,D6,_,rfl,SqL.of zB,fun D7 hD7=>?_⟩;have fp:=zJg v2 (by omega) v4;have f1:zBR (((List.range n).filter fun i=>!decide (zA v i=0)).map fun i:Nat=>V.int (i:Int)) none (some 1)= [V.int (p:Int)] :=by
    rw [zGU (by decide) ?_,<-List.map_take,show ((1:Int)).toNat=1 from rfl,fp];rfl;have:=congrArg List.length fp;rw [List.length_take,List.length_singleton] at this;rw [zOk];omega
   rw [f1];have t7:=t6.trans (zC.upd hD7 (o:= .lst [V.int (p:Int)]));have e7:L2.upd (L2.upd H5 D6 (.lst (((List.range n).filter fun i=>!decide (zA v i=0)).map fun i:Nat=>V.int (i:Int)))) D7 (.lst [V.int (p:Int)]) D7=_:=zB;generalize L2.upd (L2.upd H5 D6 (.lst (((List.range n).filter fun i=>!decide (zA v i=0)).map fun i:Nat=>V.int (i:Int)))) D7 (.lst [V.int (p:Int)])=H7 at t7 e7⊢;clear t6 hD6 hD7;refine ⟨_,rfl,zOs _,fun pb hpb=>?_⟩;have tb:=zC.upd hpb (o:= .lst []);refine ⟨D7,pb,_,rfl,rfl,SqL.of (tb _ _ e7),SqL.of zB,_,rfl,zAW ?_⟩;have t8:=t7.trans tb;replace e7:=tb _ _ e7;replace e5:=e5.same t8;generalize L2.upd H7 pb (.lst [])=H8 at t8 e7 e5⊢;have s18:=s15.trans t8;refine ⟨_,rfl,D7,_,_,_,rfl,rfl,SqL.of e7,rfl,_,rfl,_,_,rfl,rfl,_,rfl,zAR (zPD (by omega)) ?_⟩;refine ⟨_,rfl,_,rfl,D7,_,_,_,rfl,rfl,SqL.of e7,rfl,D5,_,_,_,rfl,rfl,SqL.of e5,zh (zS (by omega)),_,_,rfl,rfl,_,rfl,zAR (zPD (by omega)) ?_⟩;refine ⟨_,rfl,D7,_,_,_,rfl,rfl,SqL.of e7,rfl,?_⟩;refine ⟨_,rfl,_,rfl,D5,_,_,_,rfl,rfl,SqL.of e5,zh (zS (by omega)),?_⟩;have hpa:p<as.length:=by omega
   obtain ⟨rw',erw,hrw⟩:=Paired.get' has (zOd hpa);rw [zIc v2] at erw;cases erw;have lrw:((T.map (·.2)++fx).map fun v=>zA v p).length=T.length+m:=by rw [zOk,lU]
   have g1: ∀x∈(((T.map (·.2)++fx).map fun v=>zA v p).drop (i+1)).take (T.length -(i+1)),x=0:=fun x hx=>by
    obtain ⟨j,hj⟩:=List.mem_iff_getElem?.mp hx;rw [List.getElem?_take] at hj;split at hj
    ·rename_i hlt
     rw [List.getElem?_drop,zOi,List.getElem?_append_left (by simp;omega),zOi] at hj;cases h:T[i+1+j]? with
     | none=>rw [h] at hj;cases hj
     | some r=>
      rw [h] at hj;cases hj;exact (hE.mem (zPH h)).2.2.2 p (zFY hE eT h (by omega))
    ·cases hj
   have g2: ∀x∈(((T.map (·.2)++fx).map fun v=>zA v p).take i)++(((T.map (·.2)++fx).map fun v=>zA v p).drop T.length),0<=x/\x<zA v p:=fun x hx=>by
    rcases List.mem_append.mp hx with hx | hx
    ·obtain ⟨j,hj⟩:=List.mem_iff_getElem?.mp hx;rw [List.getElem?_take] at hj;split at hj
     ·rename_i hlt
      rw [zOi,List.getElem?_append_left (by simp;omega),zOi] at hj;cases h:T[j]? with
      | none=>rw [h] at hj;cases hj
      | some r=>
       rw [h] at hj;cases hj;exact zHR hR h eT hlt
     ·cases hj
    ·rw [<-List.map_drop,List.drop_left' (by simp)] at hx;obtain ⟨f',hf',rfl⟩:=List.mem_map.mp hx;exact hf f' hf' _ (zPH eT)
   generalize ((T.map (·.2)++fx).map fun v=>zA v p)=rw' at hrw lrw g1 g2;have ga:(as.map V.ref)[p]?=some (.ref as[p]):=by rw [zOi,zOd hpa];rfl
   have hrw8:=hrw.same s18;have el8:=s18 _ _ el;refine ⟨_,rfl,_,rfl,l,_,_,_,rfl,rfl,SqL.of el8,zh ga,_,rfl,_,_,rfl,rfl,_,rfl,_,rfl,_,rfl,as[p],_,rfl,SqL.of hrw8,fun D8 hD8=>?_⟩;rw [show (0:Int)+(i:Int)+1=((i+1:Nat):Int) by omega,zKN (by omega) (by omega)];have t9:=zC.upd hD8 (o:= .lst (((rw'.drop (i+1)).take (T.length -(i+1))).map V.int));have e8:LI (L2.upd H8 D8 (.lst (((rw'.drop (i+1)).take (T.length -(i+1))).map V.int))) D8 _:=zB;generalize L2.upd H8 D8 (.lst (((rw'.drop (i+1)).take (T.length -(i+1))).map V.int))=H9 at t9 e8⊢;refine ⟨_,rfl,_,rfl,l,_,_,_,rfl,rfl,SqL.of (t9 _ _ el8),zh ga,_,rfl,_,rfl,as[p],_,rfl,SqL.of (hrw8.same t9),fun Da hDa=>?_⟩;rw [Int.zero_add,zCf (by omega)];have ta:=zC.upd hDa (o:= .lst ((rw'.take i).map V.int));have t9a:=t9.trans ta;refine ⟨_,rfl,_,rfl,l,_,_,_,rfl,rfl,SqL.of (t9a _ _ el8),zh ga,_,rfl,_,rfl,as[p],_,rfl,SqL.of (hrw8.same t9a),fun Db hDb=>?_⟩;rw [zCL (by omega)];have tb':=zC.upd hDb (o:= .lst ((rw'.drop T.length).map V.int));refine ⟨Da,Db,_,_,rfl,rfl,tb' _ _ zB,zB,by rw [zOo];simp;omega,fun Dc hDc=>?_⟩;rw [<-zOz];have tc:=(ta.trans tb').trans (zC.upd hDc (o:= .lst ((rw'.take i++rw'.drop T.length).map V.int)));have ec':LI (L2.upd (L2.upd (L2.upd H9 Da (.lst ((rw'.take i).map V.int))) Db (.lst ((rw'.drop T.length).map V.int))) Dc (.lst ((rw'.take i++rw'.drop T.length).map V.int))) Dc _:=zB;generalize L2.upd (L2.upd (L2.upd H9 Da (.lst ((rw'.take i).map V.int))) Db (.lst ((rw'.drop T.length).map V.int))) Dc (.lst ((rw'.take i++rw'.drop T.length).map V.int))=H10 at tc ec'⊢;have e8':=e8.same tc;refine ⟨_,rfl,D8,rfl,⟨_,SqL.of e8'⟩,fun Dd hDd=>zLl e8' (by simp;omega) hDd ?_⟩;rw [List.filter_eq_nil_iff.mpr fun x hx=>by rw [g1 x hx];decide];have td:=zC.upd hDd (o:= .lst (([] :Vec).map V.int));refine ⟨zOs _,fun pe hpe=>?_⟩;have te:=zC.upd hpe (o:= .lst []);refine ⟨Dd,pe,_,rfl,rfl,SqL.of (te _ _ zB),SqL.of zB,_,rfl,zAR (by rfl) ?_⟩;have tde:=td.trans te;refine ⟨_,rfl,Dc,rfl,⟨_,SqL.of (ec'.same tde)⟩,fun Df hDf=>zJl (ec'.same tde) (by simp;omega) hDf rfl g2 ?_⟩;have tf:=zC.upd hDf (o:= .lst []);refine ⟨zOs _,fun pg hpg=>?_⟩;have tg:=zC.upd hpg (o:= .lst []);refine ⟨Df,pg,_,rfl,rfl,SqL.of (tg _ _ zB),SqL.of zB,_,rfl,zAR (by rfl) ?_⟩;exact ⟨p,_,_,_,_,_,_,rfl,hi,(((s18.trans t9).trans tc).trans tde).trans (tf.trans tg),fun r hr=>by have:=zFY hE eT hr (by omega);simp only at this;omega⟩
  ·rintro σ H1 ⟨la',s4,s5,s6,s7,s8,s9,rfl,_,s1,_⟩;exact q _ s1
end
section
variable {P:Program}{w:World}{K:zPS}{mg:Str->Option Value}{base:Heap}
theorem zJS: ∀(e:Vec) (x:Fn),dt x e=((List.range e.length).map fun i=>zA e i*x i).sum
 | [],_=>rfl
 | a::e,x=>by
  simp only [dt];rw [zJS e,List.length_cons,List.range_succ_eq_map,List.map_cons,List.sum_cons,List.map_map];rw [show zA (a::e) 0=a from rfl,Int.mul_comm];congr 1
def zAG(k o:Nat)(r:Vec):Vec:=r.take k++List.replicate o 0++r.drop k
theorem zER{k o m:Nat}{r:Vec}(h:r.length=k+m):(zAG k o r).length=k+(o+m):=by
 simp only [zAG,zPF,List.length_take,List.length_replicate,List.length_drop,h];omega
theorem zHr{k o m:Nat}{r:Vec}(h:r.length=k+m)(i:Nat):zA (zAG k o r) i=if i<k then zA r i else if i<k+o then 0 else zA r (i - o):=by
 show (((r.take k++List.replicate o 0++r.drop k)[i]?).getD 0)=_;by_cases h1:i<k
 ·rw [if_pos h1,List.append_assoc,List.getElem?_append_left (by rw [List.length_take];omega),List.getElem?_take,if_pos h1];rfl
 ·rw [if_neg h1];by_cases h2:i<k+o
  ·rw [if_pos h2,List.getElem?_append_left (by rw [zPF,List.length_take,List.length_replicate];omega),List.getElem?_append_right (by rw [List.length_take];omega),List.getElem?_replicate];split<;>rfl
  ·rw [if_neg h2,List.getElem?_append_right (by rw [zPF,List.length_take,List.length_replicate];omega),List.getElem?_drop];show _=(r[i - o]?).getD 0;congr 2;rw [zPF,List.length_take,List.length_replicate];omega
theorem zFJ{k o m b:Nat}{r:Vec}(h:r.length=k+m)(hb:Bts b r):Bts b (zAG k o r):=fun i=>by
 rw [zHr h];split
 ·exact hb i
 ·split
  ·exact Bt.zero
  ·exact hb _
theorem zJJ{K:zPS}{H:Hp}{l D:Addr}{R:List Vec}{k o m:Nat}{suf rest:L2.St}{Q:VK}(hR:LL H l R)(hl:R.length<=1000)(hx: ∀x∈R,x.length=k+m)(hk:k<=100)(ho:o<=100)(hm:m<=100)(hD:H D=none)(hs:suf=some (.int (k:Int))::some (.int (o:Int))::rest)
  (q: ∀H',zC H H'->LL H' D (R.map (zAG k o))->Q (.ref D) H'):CompInv (Itl K l) (yH 0) (fun _ H Q=>Q true H) (yR zFT (yR zFT (tSl (zIL K) (zp 0) zDg (zFq (zp 1))) (yR zKi (zIP (zAo (tC (V.int 0)) zCG)) (zp 2))) (tSl (zIL K) (zp 0) (zFq (zp 1)) zDg)) 1 suf H D Q:=by
 subst hs;obtain ⟨as,el,has⟩:=hR;have la:=Paired.len has;refine zU as.length (fun i ys H'=> ∃rs:List Addr,i<=as.length/\ys=rs.map V.ref/\LIs H' rs ((R.map (zAG k o)).take i)/\rs.length=i/\D∉rs/\zC H H'/\H' D=some (.lst ys)) ⟨[],zOs _,rfl,by rw [List.take_zero];exact .nil,rfl,by simp,zC.upd hD,zB⟩ (by rw [zOo];omega) ?_ ?_ ?_
 ·rintro i ys H1 hi ⟨rs,_,rfl,_,hrl,_,s1,e1⟩;have e2:=s1 _ _ el;exact ⟨by simp;omega,e1,fun h=>⟨_,_,SqL.of e2,zOd (by simpa using h)⟩,fun h=>⟨_,SqL.of e2,by simp;omega⟩⟩
 ·rintro i ys H1 x H2 hi ⟨rs,_,rfl,hrs,hrl,hnd,s1,e1⟩ ⟨rfl,hx'⟩ pre hpre;obtain ⟨p0,rfl⟩:=yX hpre;have hx':=hx' _ (SqL.of (s1 _ _ el));rw [zOi,zOd hi] at hx';cases hx';obtain ⟨u,eu,hu⟩:=Paired.get' has (zOd hi);have lu:=hx u (zPH eu);refine ⟨⟨[some (.ref as[i])],rfl,rfl⟩,yC ?_⟩;refine ⟨_,rfl,_,rfl,_,rfl,as[i],_,rfl,SqL.of (hu.same s1),fun pa hpa=>?_⟩;rw [zCf (by omega)];have ta:=zC.upd hpa (o:= .lst ((u.take k).map V.int));refine ⟨bs 1,fun pb hpb=>?_⟩;have tb:=zC.upd hpb (o:= .lst [V.int 0]);refine ⟨_,rfl,pb,_,_,rfl,rfl,zB,by omega,by omega,by rw [zOo];simp;omega,fun pc hpc=>?_⟩;rw [zFW];have tc:=zC.upd hpc (o:= .lst ((List.replicate o (0:Int)).map V.int));refine ⟨pa,pc,_,_,rfl,rfl,(tb.trans tc) _ _ zB,zB,by rw [zOo];simp;omega,fun pd hpd=>?_⟩;rw [<-zOz];have td:=zC.upd hpd (o:= .lst ((u.take k++List.replicate o (0:Int)).map V.int));have sad:=((ta.trans tb).trans tc).trans td;refine ⟨_,rfl,_,rfl,_,rfl,as[i],_,rfl,SqL.of (hu.same (s1.trans sad)),fun pe hpe=>?_⟩;rw [zCL (by omega)];have te:=zC.upd hpe (o:= .lst ((u.drop k).map V.int));refine ⟨pd,pe,_,_,rfl,rfl,te _ _ zB,zB,by rw [zOo];simp;omega,fun p hp=>?_⟩;rw [<-zOz];have tf:=zC.upd hp (o:= .lst ((u.take k++List.replicate o (0:Int)++u.drop k).map V.int));have st:=(sad.trans te).trans tf;have hne:p≠D:=fun z=>by rw [z,(sad.trans te) _ _ e1] at hp;cases hp
  refine ⟨st _ _ e1,rs++ [p],hi,by simp,?_,by simp [hrl],by simp [hnd,Ne.symm hne],zC.store (s1.trans st) hD,zB⟩;rw [zPA,zOi,eu];refine Paired.snoc' (Paired.mapM hrs fun a v hm ea=>?_) ?_
  ·have z:=st _ _ ea;show L2.upd _ D _ a=_;rw [zG fun haD=>hnd (by rw [<-haD];exact hm)];exact z
  ·show L2.upd _ D _ p=_;rw [zG hne,zB];rfl
 ·rintro ys H1 ⟨rs,_,rfl,hrs,_,_,s1,e1⟩;rw [List.take_of_length_le (by simp;omega)] at hrs;exact q _ s1 ⟨rs,e1,hrs⟩
theorem zGZ{K:zPS}{H:Hp}{l D:Addr}{R:List Vec}{m o:Nat}{suf rest:L2.St}{Q:VK}(hR:LL H l R)(hl:R.length<=1000)(hm: ∀x∈R,x.length=o+m)(h1000:o+m<=1000)(hD:H D=none)(hs:suf=some (.int (m:Int))::some (.int (o:Int))::rest)
  (q: ∀H',zC H H'->H' D=some (.lst ((List.replicate R.length true).map V.bl))->Q (.ref D) H'):CompInv (Itl K l) (yH 0) (fun _ H Q=>Q true H) (zII zET [] E0 (zAo (zp 0) (zAo (yR (rI0 fun i j=>V.int (i+j)) (zp 2) (zp 1)) zCG))) 1 suf H D Q:=by
 subst hs;obtain ⟨as,el,has⟩:=hR;have la:=Paired.len has;refine zU as.length (fun i ys H'=>i<=as.length/\ys=(List.replicate i true).map V.bl/\zC H H'/\H' D=some (.lst ys)) ⟨zOs _,rfl,zC.upd hD,zB⟩ (by rw [zOo];omega) ?_ ?_ ?_
 ·rintro i ys H2 hi ⟨_,rfl,s2,e2⟩;have e3:=s2 _ _ el;exact ⟨by simp,e2,fun h=>⟨_,_,SqL.of e3,zOd (by simpa using h)⟩,fun h=>⟨_,SqL.of e3,by simp;omega⟩⟩
 ·rintro i ys H2 x H3 hi ⟨_,rfl,s2,e2⟩ ⟨rfl,hx'⟩ pre hpre;obtain ⟨p0,rfl⟩:=yX hpre;have hx':=hx' _ (SqL.of (s2 _ _ el));rw [zOi,zOd hi] at hx';cases hx';obtain ⟨v,ev,hv⟩:=Paired.get' has (zOd hi);refine ⟨⟨[some (.ref as[i])],rfl,rfl⟩,yC ?_⟩;refine ⟨_,rfl,_,rfl,_,rfl,_,_,rfl,rfl,as[i],v,o+m,by simp,hv.same s2,hm v (zPH ev),h1000,fun H4 s4=>⟨s4 _ _ e2,hi,?_,zC.store (s2.trans s4) hD,zB⟩⟩;rw [List.replicate_succ',zOz];rfl
 ·rintro ys H2 ⟨_,rfl,s2,e2⟩;rw [la] at e2;exact q _ s2 e2
structure CoOk(k m o b:Nat)(R W:List Vec):Prop where
 len:R.length=W.length
 r: ∀x∈R,x.length=k+m/\Bts b x
 w: ∀x∈W,x.length=o+m/\Bts b x
 n6:R.length<=6
 k6:k<=6
 o6:o<=6
 m6:m<=6
 b4:b<=4000
 sol: ∃X:Nat->Fn,(∀j i,k<=i->X j i=0)/\ ∀j,j<o+m-> ∀E∈yt k (o+m) (R.map (zAG k o)) W,dt (X j) E.1+zA E.2 j=0
theorem zHO{k m:Nat}{R W:List Vec}{E:Eqn}(h:E∈yt k m R W): ∃(i:Nat) (r w:Vec),R[i]?=some r/\W[i]?=some w/\E=zAw k m r w:=by
 obtain ⟨i,hi⟩:=List.mem_iff_getElem?.mp h;rw [yt,List.getElem?_zipWith] at hi;cases hr:R[i]? with
 | none=>rw [hr] at hi;cases hi
 | some r=>
  cases hw:W[i]? with
  | none=>rw [hr,hw] at hi;cases hi
  | some w=>
   rw [hr,hw] at hi;cases hi;exact ⟨i,r,w,hr,hw,rfl⟩
theorem zFX{k m j:Nat}{r w:Vec}(h:j<m):zA (zAw k m r w).2 j=zA r (k+j) - zA w j:=by simp [zAw,zA,h]
theorem CoOk.sv{k m o b:Nat}{R W:List Vec}(h:CoOk k m o b R W):SvOk k (o+m) (b+1) (yt k (o+m) (R.map (zAG k o)) W):=by
 have key: ∀E∈yt k (o+m) (R.map (zAG k o)) W,∃r w,r∈R/\w∈W/\E=zAw k (o+m) (zAG k o r) w:=fun E hE=>by
  obtain ⟨i,r,w,hr,hw,e⟩:=zHO hE;rw [zOi] at hr;cases h:R[i]? with
  | none=>rw [h] at hr;cases hr
  | some r'=>
   rw [h] at hr;cases hr;exact ⟨r',w,zPH h,zPH hw,e⟩
 have n6:=h.n6;have k6:=h.k6;have o6:=h.o6;have m6:=h.m6;have b4:=h.b4;refine ⟨⟨fun E hE=>?_,fun E hE=>?_,fun E hE=>?_,fun E hE=>?_⟩,k6,by omega,by simp [yt];omega,by omega⟩
 all_goals obtain ⟨r,w,hr,hw,rfl⟩:=key E hE
 ·have:=zER (o:=o) (h.r r hr).1;simp [zAw];omega
 ·simp [zAw]
 ·exact (Bts.take' (zFJ (h.r r hr).1 (h.r r hr).2) k).mono (by omega)
 ·intro j;by_cases hj:j<o+m
  ·rw [zFX hj];have t1:Bt b (zA (zAG k o r) (k+j)):=zFJ (h.r r hr).1 (h.r r hr).2 (k+j);have t2:Bt b (zA w j):=(h.w w hw).2 j;have:=t1.add t2.neg
   rwa [<-Int.sub_eq_add_neg] at this
  ·rw [yE (by simp [zAw];omega)];exact Bt.zero
def zJq:Sp:=fun vs H Q _=> ∃(l wl:Addr) (R W:List Vec) (k m o b:Nat),vs= [.int (k:Int),.int (m:Int),.ref l,.int (o:Int),.ref wl] /\LL H l R/\LL H wl W/\CoOk k m o b R W/\ ∀H',zC H H'->Q (.bl true) H'
theorem zFO:FnScope ["_law_free","_law_names","_law_rows_here","_law_other","_law_wanted","_law_wide","_law_found","_law_row","_law_due","_law_at"] ["_law_free","_law_names","_law_rows_here","_law_other","_law_wanted"] (zI zDY):=⟨rfl,rfl,rfl,by decide+kernel,rfl,by decide+kernel,by decide+kernel⟩
theorem zJw{K:zPS}{H:Hp}{fl rl D:Addr}{F:List Vec}{r f:Vec}{k j:Nat}{jv:Int}{suf rest:L2.St}{Q:VK}(hF:LL H fl F)(hr:LI H rl r)(lF:F.length=k)(lr:k<=r.length)(k6:k<=1000)(hx: ∀q x,F[q]?=some x->j<x.length/\zA x j=zA f q)(br:Bts 50000000 r)(bf:Bts 50000000 f)(hD:H D=none)(hj:jv=(j:Int))(hs:suf=some (.ref fl)::some (.ref rl)::some (.int jv)::rest)
  (q:Q (.ref D) (L2.upd H D (.lst (((List.range k).map fun i=>zA r i*zA f i).map V.int)))):
  CompInv (Itr 0 ((k:Int).toNat)) (yH 0) (fun _ H Q=>Q true H) (yR (rI (fun i j=>FrM.Sz 60000000 i/\FrM.Sz 60000000 j) fun i j=>V.int (i*j)) (yR (zCp K) (zp 2) (zp 0)) (yR (zCp K) (yR (zCp K) (zp 1) (zp 0)) (zp 3))) 1 suf H D Q:=by
 subst hs hj;obtain ⟨as,el,has⟩:=hF;have la:=Paired.len has;refine zU k (fun i ys H'=>i<=k/\ys=((List.range i).map fun i=>zA r i*zA f i).map V.int/\H'=L2.upd H D (.lst ys)) ⟨zOs _,by simp,rfl⟩ (by rw [zOo];omega) ?_ ?_ ?_
 ·rintro i ys H2 hi ⟨_,rfl,rfl⟩;exact ⟨by simp,zB,fun h=>h,fun h=>Nat.le_of_eq h.symm⟩
 ·rintro i ys H2 x H3 hi ⟨_,rfl,rfl⟩ ⟨rfl,rfl⟩ pre hpre;obtain ⟨p0,rfl⟩:=yX hpre;have t2:=zC.upd hD (o:= .lst (((List.range i).map fun i=>zA r i*zA f i).map V.int));have hia:i<as.length:=by omega
  obtain ⟨x,ex,hx'⟩:=Paired.get' has (zOd hia);obtain ⟨x1,x2⟩:=hx i x ex;refine ⟨⟨[some (.int ((0:Int)+(i:Int)))],rfl,rfl⟩,yC ?_⟩;refine ⟨_,rfl,_,rfl,rl,_,_,_,rfl,rfl,SqL.of (hr.same t2),by rw [Int.zero_add];exact zh (zS (by omega)),_,rfl,_,rfl,fl,_,_,_,rfl,rfl,SqL.of (t2 _ _ el),by rw [Int.zero_add];exact zh (by rw [zOi,zOd hia];rfl),_,rfl,as[i],_,_,_,rfl,rfl,SqL.of (hx'.same t2),zh (zS x1),_,_,rfl,rfl,⟨yr (br i) (by decide),yr (b:=50000000) (by rw [x2];exact bf i) (by decide)⟩,zB,hi,?_,by rw [zx]⟩;rw [List.range_succ,zOz,zOz,x2];rfl
 ·rintro ys H2 ⟨_,rfl,rfl⟩;exact q
theorem zNz{f fM fWs:Addr}{fd fdM fdWs:FuncData}(F:Fun K "_law_comes" "_law_comes" zDY f fd)(B:Bn mg)
  (FM:Fun K "met_by" "met_by" zGl fM fdM) (bM:zO K fdM ["rows","free","names","wanted"] []) (mM:mg "met_by" =some (.ref fM)) (GM:FnOk P w K mg base CX0 38 fM fdM ["rows","free","names","wanted"] zIX)
  (FWs:Fun K "_law_wholes" "_law_wholes" zBq fWs fdWs) (bWs:zO K fdWs ["_law_found","_law_size"] []) (mWs:mg "_law_wholes" =some (.ref fWs)) (GWs:FnOk P w K mg base CX0 2 fWs fdWs ["_law_found","_law_size"] zET):FnOk P w K mg base CX0 39 f fd ["_law_free","_law_names","_law_rows_here","_law_other","_law_wanted"] zJq:=by
 refine F.ok zFO (fun vs H Q E h=>?_) (fun cdv A outer s H vs Q E hr38 h=>?_)
 ·obtain ⟨l,wl,R,W,k,m,o,b,rfl,_⟩:=h;rfl
 ·obtain ⟨l,wl,R,W,k,m,o,b,rfl,hR,hW,ok,q⟩:=h;have hr2:Room 2 _:=hr38.mono (by decide);refine ⟨_,QB.out (zE
   (zAh yq 5 (by exact zFO.nd) rfl (Or.inl rfl) (.inr rfl) ["_law_row"] ["_law_free","_law_other"] [0,3] rfl (zm (K:=K) rfl (qw 2 rfl)) rfl (by decide+kernel) rfl (by decide+kernel) (zQ rfl (zQ rfl ye)) rfl (fr2 ⟨rfl,rfl,rfl,_,rfl,rfl⟩ ⟨rfl,rfl,rfl,_,rfl,rfl⟩) (zN rfl) (fun _ _ _ _=>(zH 0 (show (["_law_row","_law_free","_law_other"] :List Str).Nodup by decide+kernel) rfl (.inl rfl) (.inr rfl))) (fun _ _ _ _=>zc) (fun C s₂ H₂ fp xe E hp=>(zAp (zAp (zAk (K:=K) rfl (qw 0 rfl) zAP (zAC (qx 1 rfl))) (zIK (zAB (qc zF zD rfl)) (qx 2 rfl))) (zAk (K:=K) rfl (qw 0 rfl) (zAC (qx 1 rfl)) zAP))) (fun _=>rfl) rfl) (zE
   (yY 6 zFO.nd rfl (Or.inr rfl) (zK GM hr38 rfl mM FM.kp bM .nil zL (qc (ze (cl:= []) ["_law_row"] [] [] rfl (zm (K:=K) rfl (qw 5 rfl)) rfl (by decide+kernel) rfl (by decide+kernel) (fun _ _ h=>nomatch h) rfl (fun j y i h=>nomatch h) (zN rfl) (fun _ _ _ _=>(zH 0 (show (["_law_row"] :List Str).Nodup by decide+kernel) rfl (.inl rfl) (.inr rfl))) (fun _ _ _ _=>zc) (fun _ _ _ _=>(zEJ (zAd (K:=K) rfl) rfl B.list zAg (qc (qw 0 rfl) zD rfl) rfl)) (fun _=>rfl)) (qc (qx 0 rfl) (qc (yc (qx 3 rfl) (qx 1 rfl)) (qc (ze (cl:= []) ["_law_row"] [] [] rfl (zm (K:=K) rfl (qw 4 rfl)) rfl (by decide+kernel) rfl (by decide+kernel) (fun _ _ h=>nomatch h) rfl (fun j y i h=>nomatch h) (zN rfl) (fun _ _ _ _=>(zH 0 (show (["_law_row"] :List Str).Nodup by decide+kernel) rfl (.inl rfl) (.inr rfl))) (fun _ _ _ _=>zc) (fun _ _ _ _=>(zEJ (zAd (K:=K) rfl) rfl B.list zAg (qc (qw 0 rfl) zD rfl) rfl)) (fun _=>rfl)) zD rfl) rfl) rfl) rfl) rfl rfl rfl) rfl (.inl rfl)) (zE
   (yW (t_w (zCU (zBG (zBZ (yP (zAz (K:=K) rfl) rfl B.isi yz (qc (qx 6 rfl) (qc (zCa (v:= .ty "list") rfl B.list zAg rfl (by decide) rfl) zD rfl) rfl) rfl) (fun _=>rfl))) (zCy (zf zAr (yP (yK (K:=K) rfl) rfl B.len yk (qc (qx 6 rfl) zD rfl) rfl) (qx 0 rfl) rfl)))) (zJ
    (zZ zBO)) yS) (zE
   (yW (zBG (zBZ (yP (zDZ (K:=K) rfl rfl) rfl B.all zGb (qc (ze ["_law_one"] ["_law_names","_law_other"] [1,3] rfl (zm (K:=K) rfl (qx 6 rfl)) rfl (by decide+kernel) rfl (by decide+kernel) (zQ rfl (zQ rfl ye)) rfl (fr2 ⟨rfl,rfl,rfl,_,rfl,rfl⟩ ⟨rfl,rfl,rfl,_,rfl,rfl⟩) (zN rfl) (fun _ _ _ _=>(zH 0 (show (["_law_one","_law_names","_law_other"] :List Str).Nodup by decide+kernel) rfl (.inl rfl) (.inr rfl))) (fun _ _ _ _=>zc) (fun _ _ _ _=>(zK GWs hr2 rfl mWs FWs.kp bWs .nil zL (qc (qw 0 rfl) (qc (yc (qx 2 rfl) (qx 1 rfl)) zD rfl) rfl) rfl rfl rfl)) (fun _=>rfl)) zD rfl) rfl) (fun _=>rfl))) (zJ
    (zZ zBO)) yS) (zE
   (zAA PassesOwn.never rfl (zDk (K:=K) rfl rfl B.zip (qc (qw 5 rfl) (qc (qw 4 rfl) zD rfl) rfl) rfl rfl) (zAt (K:=K) (n:=2) rfl rfl (yJ (zH 7 zFO.nd rfl (Or.inr rfl) (.inl rfl)) (yJ (zH 8 zFO.nd rfl (Or.inl rfl) (.inr rfl)) zAs rfl) rfl) rfl rfl) (zJ
    (zAA PassesOwn.never rfl (yj rfl B.range (qc (yc (qx 3 rfl) (qx 1 rfl)) zD rfl) rfl) (zH 9 zFO.nd rfl (Or.inr rfl) (.inl rfl)) (zJ
     (yW (zf zAr (yc (zk (K:=K) rfl (qx 7 rfl) (yc (qx 0 rfl) (qx 9 rfl)) (fun _ _=>rfl)) (yP (zGE (K:=K) rfl rfl) rfl B.sum zIx (qc (ze ["_law_k"] ["_law_found","_law_row","_law_at"] [6,7,9] rfl (yj rfl B.range (qc (qx 0 rfl) zD rfl) rfl) rfl (by decide+kernel) rfl (by decide+kernel) (zQ rfl (zQ rfl (zQ rfl ye))) rfl (fr3 ⟨rfl,rfl,rfl,_,rfl,rfl⟩ ⟨rfl,rfl,rfl,_,rfl,rfl⟩ ⟨rfl,rfl,rfl,_,rfl,rfl⟩) (zN rfl) (fun _ _ _ _=>(zH 0 (show (["_law_k","_law_found","_law_row","_law_at"] :List Str).Nodup by decide+kernel) rfl (.inl rfl) (.inr rfl))) (fun _ _ _ _=>zc) (fun _ _ _ _=>(zAX (zk (K:=K) rfl (qx 2 rfl) (qw 0 rfl) (fun _ _=>rfl)) (zk (K:=K) rfl (zk (K:=K) rfl (qx 1 rfl) (qw 0 rfl) (fun _ _=>rfl)) (qx 3 rfl) (fun _ _=>rfl)))) (fun _=>rfl)) zD rfl) rfl)) (zk (K:=K) rfl (qw 8 rfl) (qx 9 rfl) (fun _ _=>rfl)) rfl) (zJ
      (zZ zBO)) yS)) (fun _=>rfl))) (fun _=>rfl)) (zJ
   (zZ zBO))))))),?_⟩
  have sv:=ok.sv;obtain ⟨lRW,hx,hw,n6,k6,o6,m6,b4,X,h0,hX⟩:=ok;obtain ⟨st,erun,Rn⟩:=zIT sv.ok k6 X h0 hX;have S:=Rn.all;obtain ⟨y0,el,ly0⟩:=hR.at;refine ⟨_,rfl,l,rfl,⟨_,SqL.of el⟩,fun D5 hD5=>zJJ hR (by omega) (fun x h=>(hx x h).1) (by omega) (by omega) (by omega) hD5 rfl fun H1 s1 h5=>?_⟩;obtain ⟨y5,e5,ly5⟩:=h5.at;rw [zOk] at ly5;obtain ⟨yw,ew,lyw⟩:=hW.at;refine ⟨_,rfl,D5,rfl,⟨_,SqL.of e5⟩,fun D6 hD6=>zBF h5 (by rw [zOk];omega) hD6 fun rs6 H2 s2 e6 h6 _=>?_⟩;have s12:=s1.trans s2;refine ⟨_,rfl,_,rfl,_,rfl,_,_,rfl,rfl,_,rfl,wl,rfl,⟨_,SqL.of (s12 _ _ ew)⟩,fun D7 hD7=>zBF (hW.same s12) (by omega) hD7 fun rs7 H3 s3 e7 h7 _=>?_⟩;have s13:=s12.trans s3;generalize hF:((zg (st.steps.map (·.2)++st.fixed) k).map fun v=>v.drop st.steps.length)=F;have hT: ∀Q',(∀r H',zC H3 H'->LL H' r F->Q' (.ref r) H')->zFw H3 Q' k (o+m) (yt k (o+m) (R.map (zAG k o)) W):=fun Q' h=>by
   unfold zFw;rw [erun];simp only;rw [hF];exact h
  refine ⟨D6,D7,R.map (zAG k o),W,k,o+m,b+1,by simp,LL.same ⟨rs6,e6,h6⟩ s3,⟨rs7,e7,h7⟩,by rw [zOk];exact lRW,fun r hr=>?_,fun x h=>(hw x h).1,sv,hT _ fun fa H4 s4 hFa=>?_⟩
  ·obtain ⟨r',hr',rfl⟩:=List.mem_map.mp hr;exact zER (hx r' hr').1
  have lF:F.length=k:=by rw [<-hF,zOk,yi]
  have fx: ∀j,j<o+m-> ∃f,st.fixed[j]?=some f:=fun j hj=>⟨_,zOd (by rw [S.fl];exact hj)⟩;have gF: ∀q x,F[q]?=some x->x.length=o+m/\ ∀j f,st.fixed[j]?=some f->zA x j=zA f q:=fun q x h=>by
   have hq:q<k:=by
    have:=(List.getElem?_eq_some_iff.mp h).1;omega
   rw [<-hF,zOi,zIc hq] at h;have e:x=st.fixed.map fun f=>zA f q:=by
    have h:=Option.some.inj h;rw [<-h];simp [zOz,List.drop_append]
   rw [e];refine ⟨by rw [zOk,S.fl],fun j f hf=>?_⟩;show ((st.fixed.map fun f=>zA f q)[j]?).getD 0=_;rw [zOi,hf];rfl
  have hFm: ∀x∈F,x.length=o+m:=fun x h=>by
   obtain ⟨q,hq⟩:=List.mem_iff_getElem?.mp h;exact (gF q x hq).1
  have s14:=s13.trans s4;obtain ⟨yf,ef,lyf⟩:=hFa.at;refine ⟨_,rfl,_,.ty "list",_,.type "list",_,rfl,rfl,.lst ef,zCY K,_,rfl,zAW ?_⟩;refine ⟨_,rfl,fa,_,rfl,.inl (SqL.of ef),_,rfl,rfl,_,rfl,zAR (by rw [lyf,lF,zPB rfl];rfl) ?_⟩;refine ⟨_,rfl,fa,rfl,⟨_,SqL.of ef⟩,fun D8 hD8=>zGZ hFa (by omega) hFm (by omega) hD8 rfl fun H5 s5 e8=>?_⟩;refine ⟨D8,List.replicate F.length true,rfl,SqL.of e8,_,rfl,zAR (by simp) ?_⟩;have s15:=s14.trans s5;obtain ⟨as5,e5',has5⟩:=h5.same (((s2.trans s3).trans s4).trans s5);obtain ⟨bs,eb,hbs⟩:=hW.same s15;have l5:=Paired.len has5;have lb:=Paired.len hbs;rw [zOk] at l5;refine ⟨_,rfl,_,rfl,D5,wl,rfl,⟨_,SqL.of e5'⟩,⟨_,SqL.of eb⟩,?_⟩;refine yd R.length (fun i σ H'=> ∃s7 s8 s9:Option V,σ= [some (.int (k:Int)),some (.int (m:Int)),some (.ref l),some (.int (o:Int)),some (.ref wl),some (.ref D5),some (.ref fa),s7,s8,s9] /\i<=R.length/\zC H5 H') ⟨none,none,none,rfl,zOs _,zC.refl _⟩ ?_ ?_ ?_ ?_
  ·rintro i σ H6 hi ⟨s7,s8,s9,rfl,_,s6⟩;exact ⟨_,_,_,_,SqL.of (s6 _ _ e5'),SqL.of (s6 _ _ eb),zOd (by simp;omega),zOd (by simp;omega)⟩
  ·rintro σ H6 ⟨s7,s8,s9,rfl,_,s6⟩;exact ⟨_,_,SqL.of (s6 _ _ e5'),SqL.of (s6 _ _ eb),.inr (by simp;omega)⟩
  ·rintro i σ H6 x H7 hi ⟨s7,s8,s9,rfl,_,s6⟩ ⟨t,x1,y1,hx1,hy1,ht,rfl,rfl⟩;have hia:i<as5.length:=by omega
   have hib:i<bs.length:=by omega
   have hx':=hx1 _ (SqL.of (s6 _ _ e5'));have hy':=hy1 _ (SqL.of (s6 _ _ eb));rw [zOi,zOd hia] at hx';rw [zOi,zOd hib] at hy';cases hx';cases hy';obtain ⟨wr,ewr,hwr⟩:=Paired.get' has5 (zOd hia);obtain ⟨du,edu,hdu⟩:=Paired.get' hbs (zOd hib);have hrI:R[i]?=some R[i] :=zOd hi;have hE:zAw k (o+m) wr du∈yt k (o+m) (R.map (zAG k o)) W:=zPH (i:=i) (by rw [yt,List.getElem?_zipWith,ewr,edu]);rw [zOi,hrI] at ewr;cases ewr;obtain ⟨r1,r2⟩:=hx R[i] (zPI hi);obtain ⟨d1,d2⟩:=hw du (zPH edu);have lw:=zER (o:=o) r1;have bw:Bts 50000000 (zAG k o R[i]):=(zFJ r1 r2).mono (by omega);generalize zAG k o R[i] =wr at hwr hE lw bw;have tt:=zC.upd ht (o:= .tup [.ref as5[i],.ref bs[i]]);have s67:=s6.trans tt;refine ⟨t,_,rfl,SqT.of zB,rfl,_,_,rfl,_,_,rfl,rfl,?_⟩;generalize L2.upd H6 t (.tup [.ref as5[i],.ref bs[i]])=H8 at s67⊢;refine ⟨_,rfl,_,rfl,_,_,rfl,rfl,(o:Int)+(m:Int),rfl,by omega,by omega,?_⟩;refine yd (o+m) (fun j σ H'=> ∃s9:Option V,σ= [some (.int (k:Int)),some (.int (m:Int)),some (.ref l),some (.int (o:Int)),some (.ref wl),some (.ref D5),some (.ref fa),some (.ref as5[i]),some (.ref bs[i]),s9] /\j<=o+m/\zC H5 H') ⟨s9,rfl,zOs _,s67⟩ ?_ ?_ ?_ ?_
   ·rintro j σ H9 hj ⟨s9,rfl,_⟩;exact hj
   ·rintro σ H9 ⟨s9,rfl,_⟩;exact zOh _
   ·rintro j σ H9 x H10 hj ⟨s9,rfl,_,s9'⟩ ⟨rfl,rfl⟩;obtain ⟨f',hf'⟩:=fx j hj;have hf'':=S.fx j f' hf' _ hE;rw [zFX hj] at hf'';have bf:Bts 50000000 f':=(S.fixedB sv.ok k6 (zPH hf')).mono (by unfold VB6;omega);refine ⟨_,rfl,_,rfl,_,rfl,_,_,rfl,rfl,as5[i],_,_,_,rfl,rfl,SqL.of (hwr.same s9'),by rw [show (k:Int)+((0:Int)+(j:Int))=((k+j:Nat):Int) by omega];exact zh (zS (by omega)),_,rfl,(k:Int),rfl,by omega,by omega,fun D11 hD11=>?_⟩;refine zJw (f:=f') (j:=j) (hFa.same (s5.trans s9')) (hwr.same s9') lF (by omega) (by omega) (fun q x h=>⟨by rw [(gF q x h).1];exact hj,(gF q x h).2 j f' hf'⟩) bw bf hD11 (Int.zero_add _) rfl ?_;have t11:=zC.upd hD11 (o:= .lst (((List.range k).map fun i=>zA wr i*zA f' i).map V.int));have s911:=s9'.trans t11;refine ⟨D11,_,rfl,SqL.of zB,_,_,rfl,rfl,_,rfl,_,rfl,bs[i],_,_,_,rfl,rfl,SqL.of (hdu.same s911),by rw [Int.zero_add];exact zh (zS (by omega)),rfl,_,rfl,zAR ?_ ⟨_,rfl,hj,s911⟩⟩;have e:((List.range k).map fun i=>zA wr i*zA f' i).sum=dt (zA f') (zAw k (o+m) wr du).1:=by
     rw [zJS];have:(zAw k (o+m) wr du).1.length=k:=by simp [zAw];omega
     rw [this];congr 1;refine List.map_congr_left fun i hi=>?_;show _=zA (wr.take k) i*_;rw [zJk,if_pos (List.mem_range.mp hi)]
    rw [e,show zA wr (k+j)+dt (zA f') (zAw k (o+m) wr du).1=zA du j by omega];simp
   ·rintro σ H9 ⟨s9,rfl,_,s9'⟩;exact ⟨_,_,_,rfl,hi,s9'⟩
  ·rintro σ H6 ⟨s7,s8,s9,rfl,_,s6⟩;exact q _ (s15.trans s6)
end
section
variable {P:Program}{w:World}{K:zPS}{mg:Str->Option Value}{base:Heap}
structure ChI(k m n b:Nat)(U0 U:List Vec):Prop where
 len:U.length=k+m
 ok: ∀u∈U,u.length=n/\Bts b u
 sp: ∀x,Sp (Cs (U.take k)) x↔Sp (Cs (U0.take k)) x
 fx: ∀(j:Nat) (u u0:Vec),k<=j->U[j]?=some u->U0[j]?=some u0->Sp (Cs (U0.take k)) (fun i=>zA u i - zA u0 i)
theorem zBH{G:List Vec}{i:Nat}{g:Vec}(h:G[i]?=some g):Sp (Cs G) (zA g):=Sp.mem (q:=(0,g)) (List.mem_map.mpr ⟨g,zPH h,rfl⟩)
theorem zLD{G:List Vec}{S:List Stp}(h: ∀(i:Nat) (g:Vec),G[i]?=some g->Sp S (zA g)){x:Fn}(hx:Sp (Cs G) x):Sp S x:=hx.of fun q hq=>by
 obtain ⟨g,hg,rfl⟩:=List.mem_map.mp hq;obtain ⟨i,hi⟩:=List.mem_iff_getElem?.mp hg;exact h i g hi
theorem ChI.mono{k m n b c:Nat}{U0 U:List Vec}(h:ChI k m n b U0 U)(hbc:b<=c):ChI k m n c U0 U:=⟨h.len,fun u hu=>⟨(h.ok u hu).1,(h.ok u hu).2.mono hbc⟩,h.sp,h.fx⟩
theorem ChI.refl{k m n b:Nat}{U:List Vec}(h1:U.length=k+m)(h2: ∀u∈U,u.length=n/\Bts b u):ChI k m n b U U:=⟨h1,h2,fun x=>Iff.rfl,fun j u u0 _ h h'=>by rw [h] at h';cases h';exact Sp.zero _ fun i=>by omega⟩
theorem ChI.set{k m n b:Nat}{U0 U:List Vec}(h:ChI k m n b U0 U){o:Nat}{u w:Vec}(ho:U[o]?=some u)(hw:w.length=n/\Bts (b+2) w)(h1:Sp (Cs (U.take k)) (fun i=>zA w i - zA u i)\/o<k)(h2:o<k->Sp (Cs (U.take k)) (zA w)/\Sp (Cs ((U.set o w).take k)) (zA u)):ChI k m n (b+2) U0 (U.set o w):=by
 have lo:o<U.length:=(List.getElem?_eq_some_iff.mp ho).1;have hsp: ∀x,Sp (Cs ((U.set o w).take k)) x↔Sp (Cs (U.take k)) x:=fun x=>by
  by_cases hk:o<k
  ·obtain ⟨a1,a2⟩:=h2 hk;constructor
   ·refine zLD fun i g hg=>?_;rw [List.getElem?_take] at hg;split at hg
    ·rename_i hi
     rw [List.getElem?_set] at hg;split at hg
     ·have hg:some w=some g:=by simpa [lo] using hg
      cases hg;exact a1
     ·exact zBH (i:=i) (by rw [List.getElem?_take,if_pos hi];exact hg)
    ·cases hg
   ·refine zLD fun i g hg=>?_;rw [List.getElem?_take] at hg;split at hg
    ·rename_i hi
     by_cases hio:o=i
     ·subst hio;rw [ho] at hg;cases hg;exact a2
     ·exact zBH (i:=i) (by rw [List.getElem?_take,if_pos hi,List.getElem?_set_ne hio];exact hg)
    ·cases hg
  ·rw [List.take_set_of_le (by omega)]
 refine ⟨by rw [List.length_set];exact h.len,fun v hv=>?_,fun x=>(hsp x).trans (h.sp x),fun j v v0 hj hv hv0=>?_⟩
 ·rcases List.mem_or_eq_of_mem_set hv with z | z
  ·exact ⟨(h.ok v z).1,(h.ok v z).2.mono (by omega)⟩
  ·rw [z];exact hw
 ·rw [List.getElem?_set] at hv;split at hv
  ·rename_i e
   subst e;have hv:some w=some v:=by simpa [lo] using hv
   cases hv;rcases h1 with h1 | h1
   ·exact (Sp.add ((h.sp _).mp h1) (h.fx o u v0 hj ho hv0)).congr fun i=>by omega
   ·omega
  ·exact h.fx j v v0 hj hv hv0
theorem ChI.rev{k m n b:Nat}{U0 U:List Vec}(h:ChI k m n b U0 U):ChI k m n b U0 ((U.take k).reverse++U.drop k):=by
 have l1:(U.take k).reverse.length=k:=by rw [List.length_reverse,List.length_take,h.len];omega
 refine ⟨by rw [zPF,l1,List.length_drop,h.len];omega,fun u hu=>?_,fun x=>?_,fun j u u0 hj hu hu0=>?_⟩
 ·rcases List.mem_append.mp hu with z | z
  ·exact h.ok u (List.mem_of_mem_take (List.mem_reverse.mp z))
  ·exact h.ok u (List.mem_of_mem_drop z)
 ·rw [List.take_left' l1];refine Iff.trans (Sp.perm (fun q=>?_) x) (h.sp x);simp [Cs]
 ·rw [List.getElem?_append_right (by omega),l1,List.getElem?_drop,show k+(j - k)=j by omega] at hu;exact h.fx j u u0 hj hu hu0
theorem zNj{v:Vec}{b n:Nat}(h:v.length=n/\Bts b v):(v.map fun x=>0 - x).length=n/\Bts (b+2) (v.map fun x=>0 - x):=⟨by rw [zOk];exact h.1,fun i=>by
 rw [zDX (fun x=>0 - x) (by simp),Int.zero_sub];exact ((h.2 i).neg).mono (by omega)⟩
theorem zNf{u v:Vec}{b n:Nat}{c:Int}(hu:u.length=n/\Bts b u)(hv:v.length=n/\Bts b v)(h:c.natAbs<=2):(zM 1 u c v).length=n/\Bts (b+2) (zM 1 u c v):=⟨zY hu.1 hv.1,fun i=>by
 rw [yL (by omega),Int.one_mul];exact (((hu.2 i).mono (show b<=1+b by omega)).add (Bt.mul (show Bt 1 c from h) (hv.2 i))).mono (by omega)⟩
theorem zCP{k m:Nat}{R:List Vec}:(zt (k+m) R).take k=zt k R:=by
 rw [zt,<-List.map_take,List.take_range,Nat.min_eq_left (by omega)];rfl
structure Chd(k m k':Nat)(R R':List Vec):Prop where
 sp: ∀x,Sp (Cs (zt k' R')) x↔Sp (Cs (zt k R)) x
 fx: ∀j,j<m->Sp (Cs (zt k R)) (fun i=>zA (zl R' (k'+j)) i - zA (zl R (k+j)) i)
theorem zDV{U:List Vec}{k n:Nat}(hk:k<=U.length)(h: ∀u∈U,u.length=n):zt k (zg U n)=U.take k:=by
 refine List.ext_getElem? fun i=>?_;rw [List.getElem?_take,zt,zOi];by_cases hi:i<k
 ·rw [List.getElem?_range hi,if_pos hi];have e:U[i]?=some U[i] :=zOd (by omega);rw [e];exact congrArg some (zBC e (h _ (zPI _)))
 ·rw [if_neg hi,List.getElem?_eq_none (by simpa using hi)];rfl
theorem ChI.chd{k m b:Nat}{R U:List Vec}(h:ChI k m R.length b (zt (k+m) R) U):Chd k m k R (zg U R.length):=by
 have hl: ∀u∈U,u.length=R.length:=fun u hu=>(h.ok u hu).1;refine ⟨fun x=>?_,fun j hj=>?_⟩
 ·rw [zDV (by have:=h.len;omega) hl,<-zCP (m:=m)];exact h.sp x
 ·have hkj:k+j<U.length:=by have:=h.len;omega
  have e:U[k+j]?=some U[k+j] :=zOd hkj;have e0:(zt (k+m) R)[k+j]?=some (zl R (k+j)):=by rw [zt,zOi,List.getElem?_range (by omega)];rfl
  rw [zBC e (hl _ (zPI _)),<-zCP (m:=m)];exact h.fx _ _ _ (by omega) e e0
theorem ChI.chd1{k m b:Nat}{R U:List Vec}(h:ChI k m R.length b (zt (k+m) R) U):Chd k m (k+1) R (zg (List.replicate R.length 0::U) R.length):=by
 have hl: ∀u∈U,u.length=R.length:=fun u hu=>(h.ok u hu).1;have hl': ∀u∈List.replicate R.length 0::U,u.length=R.length:=fun u hu=>by
  rcases List.mem_cons.mp hu with rfl | hu
  ·simp
  ·exact hl u hu
 refine ⟨fun x=>?_,fun j hj=>?_⟩
 ·rw [zDV (by have:=h.len;simp;omega) hl',<-zCP (m:=m),List.take_succ_cons];exact (zFc (fun i=>zIo _ i) x).trans (h.sp x)
 ·have hkj:k+j<U.length:=by have:=h.len;omega
  have e:U[k+j]?=some U[k+j] :=zOd hkj;have e':(List.replicate R.length 0::U)[k+1+j]?=some U[k+j] :=by rw [show k+1+j=(k+j)+1 by omega,List.getElem?_cons_succ];exact e
  have e0:(zt (k+m) R)[k+j]?=some (zl R (k+j)):=by rw [zt,zOi,List.getElem?_range (by omega)];rfl
  rw [zBC e' (hl _ (zPI _)),<-zCP (m:=m)];exact h.fx _ _ _ (by omega) e e0
theorem zFa{K:zPS}{H:Hp}{l D:Addr}{us:List Vec}{n:Nat}{nv:Int}{suf rest:L2.St}{Q:VK}(hl:LL H l us)(hu: ∀u∈us,n<=u.length)(l1:us.length<=1000)(hn:n<=1000)(h0:nv=(n:Int))(hD:H D=none)(hs:suf=some (.ref l)::rest)
  (q: ∀rs H',zC H H'->H' D=some (.lst (rs.map V.ref))->LIs H' rs (zg us n)->D∉rs->Q (.ref D) H'):
  CompInv (Itr 0 nv.toNat) (yH 0) (fun _ H Q=>Q true H) (zEl (zHx K (zp 1)) (yH 0) (fun _ H Q=>Q true H) (yR (zCp K) (zp 0) (zp 1)) 1 [0]) 1 suf H D Q:=by
 subst hs h0;obtain ⟨as,el,ha⟩:=hl;refine zU n (fun i ys H'=> ∃rs:List Addr,i<=n/\ys=rs.map V.ref/\LIs H' rs ((zg us n).take i)/\rs.length=i/\D∉rs/\zC H H'/\H' D=some (.lst ys)) ⟨[],zOs _,rfl,by rw [List.take_zero];exact .nil,rfl,by simp,zC.upd hD,zB⟩ (by rw [zOo];omega) ?_ ?_ ?_
 ·rintro i ys H' hi ⟨rs,_,rfl,_,hrl,_,s1,e1⟩;exact ⟨by simp;omega,e1,fun h=>h,fun h=>Nat.le_of_eq h.symm⟩
 ·rintro i ys H' x H'' hi ⟨rs,_,rfl,hrs,hrl,hnd,s1,e1⟩ ⟨rfl,rfl⟩ pre hpre;obtain ⟨p0,rfl⟩:=yX hpre;refine ⟨⟨[some (.int ((0:Int)+(i:Int)))],rfl,rfl⟩,yC ?_⟩;refine ⟨_,rfl,l,rfl,⟨_,SqL.of (s1 _ _ el)⟩,fun D2 hD2=>zEC (j:=i) (s1 _ _ el) (LIs.same ha s1) (fun x hx=>by have:=hu x hx;omega) (by omega) hD2 (Int.zero_add _) rfl ?_⟩;have sD:=zC.upd hD2 (o:= .lst ((zl us i).map V.int));have hne:D2≠D:=fun z=>by rw [z,e1] at hD2;cases hD2
  refine ⟨sD _ _ e1,rs++ [D2],hi,by simp,?_,by simp [hrl],by simp [hnd,Ne.symm hne],zC.store (s1.trans sD) hD,zB⟩;rw [zDv hi];refine Paired.snoc' (Paired.mapM hrs fun a v hm ea=>?_) ?_
  ·have z:=sD _ _ ea;show L2.upd _ D _ a=_;rw [zG fun haD=>hnd (by rw [<-haD];exact hm)];exact z
  ·show L2.upd _ D _ D2=_;rw [zG hne,zB];rfl
 ·rintro ys H' ⟨rs,_,rfl,hrs,_,hnd,s1,e1⟩;rw [List.take_of_length_le (by simp [zg])] at hrs;exact q rs _ s1 e1 hrs hnd
theorem zJn{K:zPS}{H:Hp}{l D:Addr}{v:Vec}{suf:L2.St}{Q:VK}(hv:LI H l v)(hl:v.length<=1000)(hD:H D=none)
  (q:Q (.ref D) (L2.upd H D (.lst ((v.map fun x=>0 - x).map V.int)))):CompInv (Itl K l) (yH 0) (fun _ H Q=>Q true H) (yR (rI0 fun i j=>V.int (i - j)) (tC (V.int 0)) (zp 0)) 1 suf H D Q:=by
 refine zU v.length (fun i ys H'=>i<=v.length/\ys=((v.map fun x=>0 - x).take i).map V.int/\H'=L2.upd H D (.lst ys)) ⟨zOs _,by simp,rfl⟩ (by rw [zOo];omega) ?_ ?_ ?_
 ·rintro i ys H2 hi ⟨_,rfl,rfl⟩;have e2:=hv.same (zC.upd hD (o:= .lst (((v.map fun x=>0 - x).take i).map V.int)));exact ⟨by simp;omega,zB,fun h=>⟨_,_,SqL.of e2,zS h⟩,fun h=>⟨_,SqL.of e2,by simp;omega⟩⟩
 ·rintro i ys H2 x H3 hi ⟨_,rfl,rfl⟩ ⟨rfl,hx⟩ pre hpre;obtain ⟨p0,rfl⟩:=yX hpre;have hx':=hx _ (SqL.of (hv.same (zC.upd hD (o:= .lst (((v.map fun x=>0 - x).take i).map V.int)))));rw [zS hi] at hx';cases hx';refine ⟨⟨[some (.int (zA v i))],rfl,rfl⟩,yC ?_⟩;refine ⟨_,rfl,_,_,rfl,rfl,zB,hi,?_,by rw [zx]⟩;rw [zPA,zOi,zAN hi];simp
 ·rintro ys H2 ⟨_,rfl,rfl⟩;rw [List.take_of_length_le (by simp)];exact q
theorem LIs.put{H:Hp}{cl nl:Addr}{cs:List Addr}{U:List Vec}{o:Nat}{v:Vec}{ys:List V}(h:LIs H cs U)(hn:LI H nl v)(hc:cl∉cs)(hnl:nl≠cl):LIs (L2.upd H cl (.lst ys)) (cs.set o nl) (U.set o v):=by
 have h':LIs (L2.upd H cl (.lst ys)) cs U:=Paired.mapM h fun a u hm ea=>by
  show L2.upd _ cl _ a=_;rw [zG fun z=>hc (by rw [<-z];exact hm)];exact ea
 have hn':LI (L2.upd H cl (.lst ys)) nl v:=by
  show L2.upd _ cl _ nl=_;rw [zG hnl];exact hn
 clear h hn hc
 induction h' generalizing o with
 | nil=>exact .nil
 | cons r t ih=>
  cases o with
  | zero=>exact .cons hn' t
  | succ o=>exact .cons r (ih (o:=o))
theorem Paired.takeP{α β:Type}{F:α->β->Prop}{xs:List α}{ys:List β}(h:Paired F xs ys)(k:Nat):Paired F (xs.take k) (ys.take k):=by
 induction h generalizing k with
 | nil=>simp;exact .nil
 | cons r _ ih=>
  cases k with
  | zero=>exact .nil
  | succ k=>exact .cons r (ih k)
theorem Paired.dropP{α β:Type}{F:α->β->Prop}{xs:List α}{ys:List β}(h:Paired F xs ys)(k:Nat):Paired F (xs.drop k) (ys.drop k):=by
 induction h generalizing k with
 | nil=>simp;exact .nil
 | cons r t ih=>
  cases k with
  | zero=>exact .cons r t
  | succ k=>exact ih k
theorem Paired.revP{α β:Type}{F:α->β->Prop}{xs:List α}{ys:List β}(h:Paired F xs ys):Paired F xs.reverse ys.reverse:=by
 induction h with
 | nil=>exact .nil
 | cons r _ ih=>rw [List.reverse_cons,List.reverse_cons];exact Paired.snoc' ih r
theorem LIs.notin{H:Hp}{cs:List Addr}{U:List Vec}{p:Addr}(h:LIs H cs U)(hp:H p=none):p∉cs:=fun hm=>by
 obtain ⟨i,hi⟩:=List.mem_iff_getElem?.mp hm;obtain ⟨v,_,hv⟩:=Paired.get' h hi;rw [show H p=_ from hv] at hp;cases hp
def zKF(K:zPS):Sp:=fun vs H Q _=> ∃(a l:Addr) (ns:List Int) (R:List Vec) (k m:Nat),vs= [.ref a,.int (k:Int),.int (m:Int),.ref l] /\SqL K H a (ns.map V.int)/\ns.length<=63/\LL H l R/\(∀x∈R,x.length=k+m/\Bts 7 x)/\R.length<=6/\k<=3/\m<=2/\
 ∀(t r:Addr) (k':Nat) (R':List Vec) H',zC H H'->H' t=some (.tup [.int (k':Int),.ref r])->LL H' r R'->R'.length=R.length->k'<=4->(∀x∈R',x.length=k'+m/\Bts 23 x)->Chd k m k' R R'->Q (.ref t) H'
theorem zCV:FnScope ["_law_script","_law_free","_law_names","_law_rows_here","_law_columns","_law_k","_law_number_here","_law_one","_law_other","_law_often"] ["_law_script","_law_free","_law_names","_law_rows_here"] (zI zBx):=⟨rfl,rfl,rfl,by decide+kernel,rfl,by decide+kernel,by decide+kernel⟩
theorem zOJ{f fN:Addr}{fd fdN:FuncData}(F:Fun K "_law_changed" "_law_changed" zBx f fd)(B:Bn mg)
  (FN:Fun K "_law_number" "_law_number" zDD fN fdN) (bN:zO K fdN ["_law_script","_law_k"] []) (mN:mg "_law_number" =some (.ref fN)) (GN:FnOk P w K mg base CX0 2 fN fdN ["_law_script","_law_k"] (zDi K)):FnOk P w K mg base CX0 3 f fd ["_law_script","_law_free","_law_names","_law_rows_here"] (zKF K):=by
 refine F.ok zCV (fun vs H Q E h=>?_) (fun cdv A outer s H vs Q E hr2 h=>?_)
 ·obtain ⟨a,l,ns,R,k,m,rfl,_⟩:=h;rfl
 ·obtain ⟨a,l,ns,R,k,m,rfl,ha,hns,hR,hx,n6,k3,m2,q⟩:=h;refine ⟨_,QB.out (zE
   (yY 4 zCV.nd rfl (Or.inr rfl) (zFF ["_law_at"] ["_law_rows_here"] [3] rfl (yj rfl B.range (qc (yc (qw 1 rfl) (qw 2 rfl)) zD rfl) rfl) rfl rfl (by decide+kernel) (zQ rfl ye) rfl (fr1 ⟨rfl,rfl,rfl,_,fun _=>rfl,rfl⟩) (fun _=>zN rfl) (fun _ _ _ _=>(zH 0 (show (["_law_at","_law_rows_here"] :List Str).Nodup by decide+kernel) rfl (.inr rfl) (.inl rfl))) (fun _ _ _ _=>zc) (fun _ _ _ _=>(ze ["_law_row"] ["_law_at"] [0] rfl (zm (K:=K) rfl (qx 1 rfl)) rfl (by decide+kernel) rfl (by decide+kernel) (zQ rfl ye) rfl (fr1 ⟨rfl,rfl,rfl,_,rfl,rfl⟩) (zN rfl) (fun _ _ _ _=>(zH 0 (show (["_law_row","_law_at"] :List Str).Nodup by decide+kernel) rfl (.inl rfl) (.inr rfl))) (fun _ _ _ _=>zc) (fun _ _ _ _=>(zk (K:=K) rfl (qw 0 rfl) (qx 1 rfl) (fun _ _=>rfl))) (fun _=>rfl))) (fun _=>rfl)) rfl (.inl rfl)) (zE
   (zAA PassesOwn.never rfl (yj rfl B.range (qc (yu (zK GN hr2 rfl mN FN.kp bN .nil zL (qc (qw 0 rfl) (qc zF zD rfl) rfl) rfl rfl rfl) zF) zD rfl) rfl) (zH 5 zCV.nd rfl (Or.inl rfl) (.inr rfl)) (zE
    (zV 6 zCV.nd rfl (zK GN hr2 rfl mN FN.kp bN .nil zL (qc (qw 0 rfl) (qc (yc zF (qw 5 rfl)) zD rfl) rfl) rfl rfl rfl) rfl) (zE
    (zV 7 zCV.nd rfl (yu (qw 6 rfl) (yP (zFe rfl) rfl B.max zIk (qc zF (qc (qw 1 rfl) zD rfl) rfl) rfl)) rfl) (zE
    (zV 8 zCV.nd rfl (yu (zBL (qw 6 rfl) zF) (yP (zFe rfl) rfl B.max zIk (qc zF (qc (yc (qw 1 rfl) (qw 2 rfl)) zD rfl) rfl) rfl)) rfl) (zE
    (yY 9 zCV.nd rfl (Or.inr rfl) (zCM (yu (zBL (qw 6 rfl) zF) zF) zF) rfl (.inl rfl)) (zJ
    (yW (t_w (zDm (zf zAf (qw 1 rfl) zF rfl) (zDm (zf zAr (qw 7 rfl) (qw 8 rfl) rfl) (zDM (zf zAf (yu (zBL (qw 6 rfl) zF) zF) zF rfl))))) (zJ
     (zGp (qx 4 rfl) (qw 8 rfl) (ze ["_law_here","_law_there"] ["_law_often"] [9] rfl (zDk (K:=K) rfl rfl B.zip (qc (zk (K:=K) rfl (qx 4 rfl) (qw 8 rfl) (fun _ _=>rfl)) (qc (zk (K:=K) rfl (qx 4 rfl) (qw 7 rfl) (fun _ _=>rfl)) zD rfl) rfl) rfl rfl) rfl (by decide+kernel) rfl (by decide+kernel) (zQ rfl ye) rfl (fr1 ⟨rfl,rfl,rfl,_,rfl,rfl⟩) (zN rfl) (fun _ _ _ _=>(zAt (K:=K) (n:=2) rfl rfl (yJ (zH 0 (show (["_law_here","_law_there","_law_often"] :List Str).Nodup by decide+kernel) rfl (.inl rfl) (.inr rfl)) (yJ (zH 1 (show (["_law_here","_law_there","_law_often"] :List Str).Nodup by decide+kernel) rfl (.inl rfl) (.inr rfl)) zAs rfl) rfl) rfl rfl)) (fun _ _ _ _=>zc) (fun _ _ _ _=>(yc (qw 0 rfl) (zAX (qx 2 rfl) (qw 1 rfl)))) (fun _=>rfl)) rfl)) (zJ
     (yW (t_w (zDm (zf zAf (qw 1 rfl) zF rfl) (zDM (zf zAn (yu (zBL (qw 6 rfl) zF) zF) zF rfl)))) (zJ
      (zGp (qx 4 rfl) (qw 7 rfl) (ze (cl:= []) ["_law_here"] [] [] rfl (zm (K:=K) rfl (zk (K:=K) rfl (qx 4 rfl) (qw 7 rfl) (fun _ _=>rfl))) rfl (by decide+kernel) rfl (by decide+kernel) (fun _ _ h=>nomatch h) rfl (fun j y i h=>nomatch h) (zN rfl) (fun _ _ _ _=>(zH 0 (show (["_law_here"] :List Str).Nodup by decide+kernel) rfl (.inl rfl) (.inr rfl))) (fun _ _ _ _=>zc) (fun _ _ _ _=>(zCM zF (qw 0 rfl))) (fun _=>rfl)) rfl)) (zJ
      (yW (t_w (zDm (zf zAf (qw 1 rfl) zF rfl) (zDM (zf zEV (qw 8 rfl) (qw 1 rfl) rfl)))) (zJ
       (yY 4 zCV.nd rfl (Or.inr rfl) (zAp (zOK (K:=K) rfl (zAk (K:=K) rfl (qx 4 rfl) zAP (zAC (qw 1 rfl))) zOY) (zAk (K:=K) rfl (qx 4 rfl) (zAC (qw 1 rfl)) zAP)) rfl (.inl rfl))) yS)))))))))) (fun _=>rfl)) (zE
   (yW (zf zAn (yu (zK GN hr2 rfl mN FN.kp bN .nil zL (qc (qw 0 rfl) (qc zF zD rfl) rfl) rfl rfl rfl) zF) zF rfl) (zE
    (yY 4 zCV.nd rfl (Or.inr rfl) (zAp (zAB (qc (zIK (zAB (qc zF zD rfl)) (yP (yK (K:=K) rfl) rfl B.len yk (qc (qx 3 rfl) zD rfl) rfl)) zD rfl)) (qx 4 rfl)) rfl (.inl rfl)) (zJ
    (zV 1 zCV.nd rfl (yc (qw 1 rfl) zF) rfl))) yS) (zJ
   (zZ (zAm (qc (qw 1 rfl) (qc (zFF ["_law_at"] ["_law_columns"] [4] rfl (yj rfl B.range (qc (yP (yK (K:=K) rfl) rfl B.len yk (qc (qx 3 rfl) zD rfl) rfl) zD rfl) rfl) rfl rfl (by decide+kernel) (zQ rfl ye) rfl (fr1 ⟨rfl,rfl,rfl,_,fun _=>rfl,rfl⟩) (fun _=>zN rfl) (fun _ _ _ _=>(zH 0 (show (["_law_at","_law_columns"] :List Str).Nodup by decide+kernel) rfl (.inr rfl) (.inl rfl))) (fun _ _ _ _=>zc) (fun _ _ _ _=>(ze ["_law_column"] ["_law_at"] [0] rfl (zm (K:=K) rfl (qx 1 rfl)) rfl (by decide+kernel) rfl (by decide+kernel) (zQ rfl ye) rfl (fr1 ⟨rfl,rfl,rfl,_,rfl,rfl⟩) (zN rfl) (fun _ _ _ _=>(zH 0 (show (["_law_column","_law_at"] :List Str).Nodup by decide+kernel) rfl (.inl rfl) (.inr rfl))) (fun _ _ _ _=>zc) (fun _ _ _ _=>(zk (K:=K) rfl (qw 0 rfl) (qx 1 rfl) (fun _ _=>rfl))) (fun _=>rfl))) (fun _=>rfl)) zD rfl) rfl))))))),?_⟩
  obtain ⟨y0,el,ly0⟩:=hR.at;refine ⟨_,rfl,_,rfl,_,_,rfl,rfl,(k:Int)+(m:Int),rfl,by omega,by omega,fun D hD=>zFa hR (n:=k+m) (fun x h=>by rw [(hx x h).1];omega) (by omega) (by omega) (by omega) hD rfl fun cs H1 s1 e1 h1 hc=>?_⟩;have hcD:D∉cs:=hc;refine ⟨_,rfl,a,ns,3,rfl,s1.seq ha,hns,by decide,by decide,fun r0 H2 s2 g0 g1=>?_⟩;have z0:=zOv r0 (show (9:Int)≠0 by decide);have z1:=zOp r0 (show (0:Int)<9 by decide);obtain ⟨t,et⟩: ∃t:Nat,r0 % 9=t:=⟨(r0 % 9).toNat,by omega⟩;refine ⟨r0,9,rfl,rfl,by decide,r0 % 9,rfl,by omega,by omega,?_⟩;rw [et];have h2:=LIs.same h1 s2;have e2:=s2 _ _ e1;have U0:ChI k m R.length 7 (zt (k+m) R) (zt (k+m) R):=ChI.refl (by simp [zt]) (zBn fun x h=>(hx x h).2);have cmb: ∀x:Int,0<=x->0<k-> ∃o:Nat,x %(if (k:Int)>1 then (k:Int) else 1)=o/\o<k:=fun x _ h=>by
   have e:(if (k:Int)>1 then (k:Int) else 1)=k:=by split<;>omega
   rw [e];have a0:=zOv x (show (k:Int)≠0 by omega);have a1:=zOp x (show (0:Int)<k by omega);exact ⟨(x % k).toNat,by omega,by omega⟩
  have cmc: ∀x:Int,0<=x->0<k-> ∃o:Nat,x %(if (k:Int)+(m:Int)>1 then (k:Int)+(m:Int) else 1)=o/\o<k+m:=fun x _ h=>by
   have e:(if (k:Int)+(m:Int)>1 then (k:Int)+(m:Int) else 1)=((k+m:Nat):Int):=by split<;>omega
   rw [e];have a0:=zOv x (show ((k+m:Nat):Int)≠0 by omega);have a1:=zOp x (show (0:Int)<((k+m:Nat):Int) by omega);exact ⟨(x %((k+m:Nat):Int)).toNat,by omega,by omega⟩
  refine yd t (fun i σ H'=> ∃(cl:Addr) (cs:List Addr) (U:List Vec) (s5 s6 s7 s8 s9:Option V),σ= [some (.ref a),some (.int (k:Int)),some (.int (m:Int)),some (.ref l),some (.ref cl),s5,s6,s7,s8,s9] /\i<=t/\H cl=none/\zC H H'/\H' cl=some (.lst (cs.map V.ref))/\LIs H' cs U/\cl∉cs/\ChI k m R.length (7+2*i) (zt (k+m) R) U)
   ⟨D,cs,_,none,none,none,none,none,rfl,zOs _,hD,s1.trans s2,e2,h2,hcD,U0⟩ ?_ ?_ ?_ ?_
  ·rintro i σ H1 hi ⟨cl,cs,U,s5,s6,s7,s8,s9,rfl,_⟩;exact hi
  ·rintro σ H1 ⟨cl,cs,U,s5,s6,s7,s8,s9,rfl,_⟩;exact zOh _
  ·clear h2 e2 hcD hc e1 h1 s1 s2 U0 hD;rintro i σ H0 x H1 hi ⟨cl,cs,U,s5,s6,s7,s8,s9,rfl,_,hcl,s1,ec,hcs,hnc,ch⟩ ⟨rfl,rfl⟩;have lcs:cs.length=k+m:=by rw [Paired.len hcs];exact ch.len
   have et':7+2*(i+1)=7+2*i+2:=by omega
   refine ⟨_,rfl,_,rfl,_,_,rfl,rfl,a,ns,_,rfl,s1.seq ha,hns,by omega,by omega,fun r H2 s2 g2 g3=>?_⟩;have s12:=s1.trans s2;have ec2:=s2 _ _ ec;have hcs2:=LIs.same hcs s2;have p1:(0:Int)<(if (k:Int)>1 then (k:Int) else 1):=by split<;>omega
   have p2:(0:Int)<(if (k:Int)+(m:Int)>1 then (k:Int)+(m:Int) else 1):=by split<;>omega
   refine ⟨_,rfl,_,rfl,_,_,rfl,_,_,rfl,rfl,p1,?_⟩;refine ⟨_,rfl,r,3,rfl,rfl,⟨by decide,by decide⟩,_,rfl,_,rfl,_,_,rfl,rfl,_,_,rfl,_,_,rfl,rfl,p2,?_⟩;have f0:=zOv (r/30) (show (5:Int)≠0 by decide);have f1:=zOp (r/30) (show (0:Int)<5 by decide);refine ⟨_,rfl,r,30,rfl,rfl,⟨by decide,by decide⟩,_,_,rfl,rfl,by decide,_,_,rfl,rfl,?_⟩;generalize hc:r/30 % 5 - 2=c;have hc2:c.natAbs<=2:=by omega
   generalize ho1:r %(if (k:Int)>1 then (k:Int) else 1)=v1;generalize ho2:r/3 %(if (k:Int)+(m:Int)>1 then (k:Int)+(m:Int) else 1)=v2;have hv1:0<k-> ∃o:Nat,v1=o/\o<k:=fun h=>by
    obtain ⟨o,e,z⟩:=cmb r g2 h;exact ⟨o,by rw [<-ho1,e],z⟩
   have hv2:0<k-> ∃o:Nat,v2=o/\o<k+m:=fun h=>by
    obtain ⟨o,e,z⟩:=cmc (r/3) (Int.ediv_nonneg g2 (by decide)) h;exact ⟨o,by rw [<-ho2,e],z⟩
   have kz: ∀b:Bool,(decide ((0:Int)<(k:Int))&&b)=true->0<k:=fun b h=>by
    simp only [Bool.and_eq_true,decide_eq_true_eq] at h;omega
   refine ⟨_,rfl,_,_,rfl,rfl,_,rfl,zCg (!decide (V.int v1=V.int v2)&&decide (0<r/150 % 4)) (fun _ Q' h=>⟨_,rfl,_,rfl,rfl,_,rfl,zCg (decide (0<r/150 % 4)) (fun _ Q' h=>⟨_,rfl,r,150,rfl,rfl,⟨by decide,by decide⟩,_,_,rfl,rfl,by decide,_,_,rfl,rfl,_,rfl,h⟩) h⟩) ?_⟩;refine yl (fun c1=>?_) (fun c1=>?_)
   ·have hk:=kz _ c1;have hne:v1≠v2:=by
     simp only [Bool.and_eq_true,Bool.not_eq_true',decide_eq_false_iff_not] at c1;exact fun z=>c1.2.1 (by rw [z])
    obtain ⟨o1,rfl,l1⟩:=hv1 hk;obtain ⟨o2,rfl,l2⟩:=hv2 hk;have ho:o1≠o2:=fun z=>hne (by rw [z]);have q1:o1<cs.length:=by omega
    have q2:o2<cs.length:=by omega
    obtain ⟨u1,eu1,hu1⟩:=Paired.get' hcs2 (zOd q1);obtain ⟨u2,eu2,hu2⟩:=Paired.get' hcs2 (zOd q2);have k1:=ch.ok u1 (zPH eu1);have k2:=ch.ok u2 (zPH eu2);have gr: ∀o (h:o<cs.length),(cs.map V.ref)[o]?=some (.ref cs[o]):=fun o h=>by rw [zOi,zOd h];rfl
    have lz:(List.zipWith (fun x y=>x+c*y) u2 u1).length=R.length:=by simp [k1.1,k2.1]
    have ez:List.zipWith (fun x y=>x+c*y) u2 u1=zM 1 u2 c u1:=by
     unfold zM;congr 1
     funext x y
     rw [Int.one_mul]
    refine ⟨_,rfl,_,rfl,cl,_,_,_,rfl,rfl,SqL.of ec2,zh (gr o2 q2),_,rfl,_,rfl,cl,_,_,_,rfl,rfl,SqL.of ec2,zh (gr o1 q1),cs[o2],cs[o1],rfl,⟨_,SqL.of hu2⟩,⟨_,SqL.of hu1⟩,fun D hD=>?_⟩;refine zU R.length (fun i ys H'=>i<=R.length/\ys=((List.zipWith (fun x y=>x+c*y) u2 u1).take i).map V.int/\zC H2 H'/\H' D=some (.lst ys)) ⟨zOs _,by simp,zC.upd hD,zB⟩ (by rw [zOo];omega) ?_ ?_ ?_
    ·rintro i ys H' hi ⟨_,rfl,s3,e3⟩;exact ⟨by rw [zOk,List.length_take];omega,e3,fun h=>⟨_,_,_,_,SqL.of (hu2.same s3),SqL.of (hu1.same s3),zS (by omega),zS (by omega)⟩,fun h=>⟨_,_,SqL.of (hu2.same s3),SqL.of (hu1.same s3),.inr (by simp;omega)⟩⟩
    ·rintro i ys H' x H'' hi ⟨_,rfl,s3,e3⟩ ⟨tt,x1,y1,hx1,hy1,ht,rfl,rfl⟩ pre hpre;obtain ⟨p0,p1,rfl⟩:=zn hpre;have hx':=hx1 _ (SqL.of (hu2.same s3));have hy':=hy1 _ (SqL.of (hu1.same s3));rw [zS (show i<u2.length by omega)] at hx';rw [zS (show i<u1.length by omega)] at hy';cases hx';cases hy';have st:=zC.upd ht (o:= .tup [.int (zA u2 i),.int (zA u1 i)]);refine ⟨tt,_,rfl,SqT.of zB,rfl,_,_,rfl,_,_,rfl,rfl,⟨[some (.int (zA u2 i)),some (.int (zA u1 i))],rfl,rfl⟩,yC ?_⟩;refine ⟨_,rfl,_,rfl,_,rfl,_,_,rfl,rfl,⟨yr (b:=1) (show Bt 1 c from hc2) (by decide),yr (k1.2 i) (by omega)⟩,_,_,rfl,rfl,st _ _ e3,hi,?_,zC.store (s3.trans st) hD,zB⟩;rw [zPA,List.getElem?_zipWith,zAN (show i<u2.length by omega),zAN (show i<u1.length by omega)];simp
    ·rintro ys H' ⟨_,rfl,s3,e3⟩;rw [List.take_of_length_le (by omega),ez] at e3;have nDc:D≠cl:=fun z=>by rw [z,ec2] at hD;cases hD
     refine ⟨_,rfl,_,rfl,cl,_,_,o2,rfl,rfl,s3 _ _ ec2,zIe (by rw [zOk];exact q2),?_⟩;refine ⟨cl,cs.set o2 D,U.set o2 (zM 1 u2 c u1),_,_,_,_,_,rfl,hi,hcl,zC.store (s12.trans s3) hcl,by rw [zB,List.map_set],LIs.put (LIs.same hcs2 s3) e3 hnc nDc,fun z=>?_,?_⟩
     ·rcases List.mem_or_eq_of_mem_set z with z | z
      ·exact hnc z
      ·exact nDc z.symm
     ·rw [et'];have mA:=fun i=>yL (a:=1) (b:=c) (u:=u2) (v:=u1) (by omega) i;have sp1:Sp (Cs (U.take k)) (zA u1):=zBH (i:=o1) (by rw [List.getElem?_take,if_pos l1];exact eu1);refine ch.set eu2 (zNf k2 k1 hc2) (.inl ((Sp.smul c sp1).congr fun i=>by rw [mA];omega)) fun h2=>⟨?_,?_⟩
      ·exact (Sp.lin 1 c (zBH (i:=o2) (by rw [List.getElem?_take,if_pos h2];exact eu2)) sp1).congr fun i=>(mA i).symm
      ·have w1:Sp (Cs ((U.set o2 (zM 1 u2 c u1)).take k)) (zA u1):=zBH (i:=o1) (by rw [List.getElem?_take,if_pos l1,List.getElem?_set_ne (Ne.symm ho)];exact eu1);have w2:Sp (Cs ((U.set o2 (zM 1 u2 c u1)).take k)) (zA (zM 1 u2 c u1)):=zBH (i:=o2) (by rw [List.getElem?_take,if_pos h2,List.getElem?_set_self (by have:=ch.len;omega)]);exact (Sp.lin 1 (-c) w2 w1).congr fun i=>by rw [mA];grind
   ·refine ⟨_,rfl,_,_,rfl,rfl,_,rfl,zCg (decide (V.int (r/600 % 2)=V.int 1)) (fun _ Q' h=>⟨_,rfl,r,600,rfl,rfl,⟨by decide,by decide⟩,_,_,rfl,rfl,by decide,rfl,_,rfl,h⟩) ?_⟩;refine yl (fun c2=>?_) (fun c2=>?_)
    ·have hk:=kz _ c2;obtain ⟨o1,rfl,l1⟩:=hv1 hk;have q1:o1<cs.length:=by omega
     obtain ⟨u1,eu1,hu1⟩:=Paired.get' hcs2 (zOd q1);have k1:=ch.ok u1 (zPH eu1);refine ⟨_,rfl,_,rfl,cl,_,_,_,rfl,rfl,SqL.of ec2,zh (by rw [zOi,zOd q1];rfl),cs[o1],rfl,⟨_,SqL.of hu1⟩,fun D hD=>zJn hu1 (by omega) hD ?_⟩;have tD:=zC.upd hD (o:= .lst ((u1.map fun x=>0 - x).map V.int));have nDc:D≠cl:=fun z=>by rw [z,ec2] at hD;cases hD
     refine ⟨_,rfl,_,rfl,cl,_,_,o1,rfl,rfl,tD _ _ ec2,zIe (by rw [zOk];exact q1),?_⟩;refine ⟨cl,cs.set o1 D,U.set o1 (u1.map fun x=>0 - x),_,_,_,_,_,rfl,hi,hcl,zC.store (s12.trans tD) hcl,by rw [zB,List.map_set],LIs.put (LIs.same hcs2 tD) zB hnc nDc,fun z=>?_,?_⟩
     ·rcases List.mem_or_eq_of_mem_set z with z | z
      ·exact hnc z
      ·exact nDc z.symm
     ·rw [et'];have nA:=fun i=>zDX (fun x=>0 - x) (by simp) u1 i;refine ch.set eu1 (zNj k1) (.inr l1) fun h2=>⟨?_,?_⟩
      ·exact (Sp.smul (-1) (zBH (i:=o1) (by rw [List.getElem?_take,if_pos l1];exact eu1))).congr fun i=>by rw [nA];omega
      ·exact (Sp.smul (-1) (zBH (i:=o1) (g:=u1.map fun x=>0 - x) (by rw [List.getElem?_take,if_pos l1,List.getElem?_set_self (by have:=ch.len;omega)]))).congr fun i=>by rw [nA];omega
    ·refine ⟨_,rfl,_,_,rfl,rfl,_,rfl,zCg (decide (v2<(k:Int))) (fun _ Q' h=>⟨_,rfl,_,rfl,_,_,rfl,rfl,_,rfl,h⟩) ?_⟩;refine yl (fun c3=>?_) (fun c3=>?_)
     ·refine ⟨_,rfl,_,rfl,_,rfl,cl,_,rfl,SqL.of ec2,fun pa hpa=>?_⟩;rw [zGU (by omega) (by rw [zOk];omega),Int.toNat_natCast,<-List.map_take];have ta:=zC.upd hpa (o:= .lst ((cs.take k).map V.ref));refine ⟨pa,_,rfl,SqL.of zB,fun pb hpb=>?_⟩;rw [<-List.map_reverse];have tb:=zC.upd hpb (o:= .lst ((cs.take k).reverse.map V.ref));have tab:=ta.trans tb;refine ⟨_,rfl,_,rfl,_,rfl,cl,_,rfl,SqL.of (tab _ _ ec2),fun pc hpc=>?_⟩;rw [zGP (by omega) (by rw [zOk];omega),Int.toNat_natCast,<-List.map_drop];have tc:=zC.upd hpc (o:= .lst ((cs.drop k).map V.ref));refine ⟨pb,pc,_,_,rfl,rfl,tc _ _ zB,zB,by rw [zOo];simp;omega,fun pd hpd=>?_⟩;rw [<-zOz];have td:=zC.upd hpd (o:= .lst (((cs.take k).reverse++cs.drop k).map V.ref));have sad:=(tab.trans tc).trans td;have hL:LIs H2 ((cs.take k).reverse++cs.drop k) ((U.take k).reverse++U.drop k):=Paired.app (Paired.revP (Paired.takeP hcs2 k)) (Paired.dropP hcs2 k);have npd:=zC.none (tab.trans tc) hpd;exact ⟨pd,_,_,_,_,_,_,_,rfl,hi,zC.none s12 npd,s12.trans sad,zB,LIs.same hL sad,LIs.notin hL npd,ch.rev.mono (by omega)⟩
     ·exact ⟨cl,cs,U,_,_,_,_,_,rfl,hi,hcl,s12,ec2,hcs2,hnc,ch.mono (by omega)⟩
  ·rintro σ H1 ⟨cl,cs,U,s5,s6,s7,s8,s9,rfl,_,hcl,s1,ec,hcs,hnc,ch⟩;have t8:t<=8:=by omega
   replace ch:=ch.mono (show 7+2*t<=23 by omega);have lU:=ch.len;refine ⟨_,rfl,a,ns,4,rfl,s1.seq ha,hns,by decide,by decide,fun r H2 s2 g2 g3=>?_⟩;have s12:=s1.trans s2;refine ⟨r,3,rfl,rfl,by decide,rfl,_,rfl,?_⟩;refine zHn (fun σ' H'=> ∃(c':Addr) (U':List Vec) (k':Nat),σ'= [some (.ref a),some (.int (k':Int)),some (.int (m:Int)),some (.ref l),some (.ref c'),s5,s6,s7,s8,s9] /\zC H H'/\LL H' c' U'/\k'<=4/\U'.length=k'+m/\(∀u∈U',u.length=R.length/\Bts 23 u)/\Chd k m k' R (zg U' R.length)) (fun c N hN=>?_) (fun c N hN=>?_) ?_
   ·refine ⟨bs 1,fun pb hpb=>?_⟩;have tb:=zC.upd hpb (o:= .lst [V.int 0]);refine ⟨_,rfl,l,_,rfl,.inl (SqL.of ((s12.trans tb) _ _ el)),pb,_,_,rfl,rfl,zB,by omega,by omega,by rw [zOo];simp;omega,fun pc hpc=>?_⟩;rw [zFW,ly0];have tc:=zC.upd hpc (o:= .lst ((List.replicate R.length (0:Int)).map V.int));refine ⟨bs 1,fun pd hpd=>?_⟩;have td:=zC.upd hpd (o:= .lst [V.ref pc]);have tbd:=(tb.trans tc).trans td;have lcs:cs.length=k+m:=by rw [Paired.len hcs];exact lU
    refine ⟨_,rfl,pd,cl,_,_,rfl,rfl,zB,(s2.trans tbd) _ _ ec,by rw [zOo];simp;omega,fun pe hpe=>?_⟩;have te:=zC.upd hpe (o:= .lst ([V.ref pc] ++cs.map V.ref));have hc0:LI (L2.upd _ pe (.lst ([V.ref pc] ++cs.map V.ref))) pc (List.replicate R.length (0:Int)):=(td.trans te) _ _ zB;refine ⟨_,rfl,_,_,rfl,rfl,hN _ _ ⟨pe,List.replicate R.length 0::U,k+1,by simp,(s12.trans tbd).trans te,⟨pc::cs,by rw [zB];rfl,.cons hc0 (LIs.same hcs ((s2.trans tbd).trans te))⟩,by omega,by rw [List.length_cons,lU];omega,fun u hu=>?_,ch.chd1⟩⟩;rcases List.mem_cons.mp hu with rfl | hu
    ·exact ⟨by simp,fun i=>by rw [zIo];exact Bt.zero⟩
    ·exact ch.ok u hu
   ·exact hN _ _ ⟨cl,U,k,rfl,s12,⟨cs,s2 _ _ ec,LIs.same hcs s2⟩,by omega,lU,ch.ok,ch.chd⟩
   ·rintro σ' H3 ⟨c',U',k',rfl,s3,hc',k4,lU',hU',cd⟩;refine ⟨_,rfl,_,rfl,l,_,rfl,.inl (SqL.of (s3 _ _ el)),_,rfl,by omega,by rw [ly0];omega,fun D hD=>zFa hc' (n:=R.length) (fun u h=>by rw [(hU' u h).1];exact zOh _) (by omega) (by omega) (by rw [ly0]) hD rfl fun rs H4 s4 e4 h4 _=>?_⟩;refine ⟨bs 2,fun tt htt=>?_⟩;have t5:=zC.upd htt (o:= .tup [.int (k':Int),.ref D]);refine q tt D k' (zg U' R.length) _ ((s3.trans s4).trans t5) zB (LL.same ⟨rs,e4,h4⟩ t5) yi k4 (fun x hx'=>⟨by rw [zEL hx',lU'],?_⟩) cd;obtain ⟨i,_,rfl⟩:=List.mem_map.mp hx';intro j;show Bt 23 (((U'.map fun v=>zA v i)[j]?).getD 0);rw [zOi];cases h:U'[j]? with
    | none=>exact Bt.zero
    | some u=>exact (hU' u (zPH h)).2 i
end
end Fr
namespace L2
open PySem PySem.Spec PyProof.Rows
section
variable {X:Cx}{K:zPS}
structure SmLL(K:zPS)(H:Hp)(l m:Addr):Prop where
 ex: ∃(as bs:List Addr) (f:Nat->List V),SqL K H l (as.map V.ref)/\SqL K H m (bs.map V.ref)/\as.length=bs.length/\(∀i a,as[i]?=some a->SqL K H a (f i))/\(∀i a,bs[i]?=some a->SqL K H a (f i))/\ ∀i,∀x∈f i,zDH x=true
def zHk(K:zPS)(b:Bool):R2:=fun x y H Q=> ∃(p q l m:Addr) (k:Int),x= .ref p/\y= .ref q/\SqT K H p [.int k,.ref l] /\SqT K H q [.int k,.ref m] /\SmLL K H l m/\Q (.bl b) H
theorem zHZ{A:Around}{pins:List (Addr×Obj)}{σ:St}{H:Hp}{s:Shared}{l m:Addr}{k:Int}{us vs:List Value}(I:Inv X pins σ H s)(hu:A.units+2<cLine)(h:SmLL X.K H l m)(r1:zP [.int k,.ref l] us)(r2:zP [.int k,.ref m] vs):
  ∀j (h1:j<us.toArray.size) (h2:j<vs.toArray.size),SeqAt.EqAt A.in1 s us.toArray[j] vs.toArray[j] ((fun _=>true) j):=by
 obtain ⟨as,bs,f,e1,e2,hl,h1,h2,hf⟩:=h;obtain ⟨t1,r1⟩: ∃t,us= [.int k t,.ref l] :=by
  cases r1 with
  | cons a b=>
   cases b with
   | cons c d=>
    cases d;obtain ⟨t,rfl⟩:=a;cases c;exact ⟨t,rfl⟩
 obtain ⟨t2,r2⟩: ∃t,vs= [.int k t,.ref m] :=by
  cases r2 with
  | cons a b=>
   cases b with
   | cons c d=>
    cases d;obtain ⟨t,rfl⟩:=a;cases c;exact ⟨t,rfl⟩
 subst r1 r2;intro j g1 g2
 match j,g1,g2 with
 | 0,_,_=>exact zFh (A:=A.in1) (s:=s) (x:= .int k) rfl ⟨_,rfl⟩ ⟨_,rfl⟩
 | 1,_,_=>
  show SeqAt.EqAt A.in1 s (.ref l) (.ref m) true;by_cases hab:l=m
  ·subst hab;exact SeqAt.EqAt.same _
  ·obtain ⟨us',q1,t1,_⟩:=I.list e1;obtain ⟨vs',q2,t2,_⟩:=I.list e2;have l1:=q1.length;have l2:=q2.length;rw [zOk] at l1 l2;refine SeqAt.EqAt.of_refs hab ?_;have z:=SeqAt.RcAt.lists (A:=A.in1) (e:=fun _=>true) t1.isList t2.isList (by simp;omega) (show A.units+1<cLine by omega) (zEi (A:=A.in1) I (show A.units+1+1<cLine by omega) h1 h2 hf q1 q2);rw [zCB] at z;exact z
 | j+2,g1,_=>exact absurd g1 (by simp)
theorem zHS(hK:X.K=K)(hu:X.A.units+2<cLine):OpR X (compareOp .NotEq) (zHk K false):=by
 subst hK;intro pins s σ H x y v u Q I rx ry h;obtain ⟨p,q,l,m,k,rfl,rfl,h1,h2,f,hq⟩:=h;cases rx;cases ry;obtain ⟨us,r1,t1,_⟩:=I.tuple h1;obtain ⟨vs,r2,t2,_⟩:=I.tuple h2;have l1:=r1.length;have l2:=r2.length;have z:=SeqAt.RcNeAt.tuples (A:=X.A) (e:=fun _=>true) (show s.heap.IsTuple p us.toArray from t1) (show s.heap.IsTuple q vs.toArray from t2) (by omega) (zHZ I hu f r1 r2);have es:us.toArray.size=vs.toArray.size:=by simp only [zOx];rw [<-l1,<-l2];rfl
 rw [zCB,es] at z;refine z _ _ _ _ ?_;simp only [beq_self_eq_true,Bool.and_self,Bool.not_true];exact ⟨.bl false,H,I,rfl,hq⟩
theorem zLR(hK:X.K=K)(hu:X.A.units+2<cLine):OpR X (compareOp .Eq) (zHk K true):=by
 subst hK;intro pins s σ H x y v u Q I rx ry h;obtain ⟨p,q,l,m,k,rfl,rfl,h1,h2,f,hq⟩:=h;cases rx;cases ry;obtain ⟨us,r1,t1,_⟩:=I.tuple h1;obtain ⟨vs,r2,t2,_⟩:=I.tuple h2;have l1:=r1.length;have l2:=r2.length;have z:=SeqAt.RcAt.tuples (A:=X.A) (e:=fun _=>true) (show s.heap.IsTuple p us.toArray from t1) (show s.heap.IsTuple q vs.toArray from t2) (by omega) (zHZ I hu f r1 r2);have es:us.toArray.size=vs.toArray.size:=by simp only [zOx];rw [<-l1,<-l2];rfl
 rw [zCB,es] at z;refine z _ _ _ _ ?_;simp only [beq_self_eq_true,Bool.and_self];exact ⟨.bl true,H,I,rfl,hq⟩
variable {o:Expr}{to:TE}{apos cpos:Pos}
theorem zMD(hK:X.K=K)(ho:QE X o to)(hb:attributeBase o "clear" X.env (eval o X.env)=eval o X.env)(hl:(apos.endLine==cpos.line)=true):QE X (.Call (.Attribute o "clear" apos) [] [] cpos) (zNO K "list" zJO to):=by
 subst hK;exact ⟨zMW PySem.F.plainAttrs_list PySem.F.slot_list_clear PySem.F.type_list_clear zKp ho.out hb hl⟩
end
end L2
namespace Fr
open PySem PySem.Spec PyProof.Rows L2 FrM FrV
theorem zHa: ∀{S:List Stp} {x:Fn},FrV.Sp S x-> ∃c:Fn,(∀i,S.length<=i->c i=0)/\ ∀i,x i=dt c (S.map fun q=>zA q.2 i)
 | [],x,h=>⟨fun _=>0,fun _ _=>rfl,fun i=>h i⟩
 |(p,v)::S,x,⟨c0,h⟩=>by
  obtain ⟨c,h1,h2⟩:=zHa h;refine ⟨fun i=>match i with | 0=>c0 | i+1=>c i,fun i hi=>?_,fun i=>?_⟩
  ·cases i with
   | zero=>simp at hi
   | succ i=>exact h1 i (by simpa using hi)
  ·have:=h2 i;show x i=c0*zA v i+dt c (S.map fun q=>zA q.2 i);omega
theorem zFs: ∀(T:List Stp) (x:Fn),Sp (Cs (T.map (·.2))) x↔Sp T x
 | [],x=>Iff.rfl
 |(p,v)::T,x=>⟨fun ⟨c,h⟩=>⟨c,(zFs T _).mp h⟩,fun ⟨c,h⟩=>⟨c,(zFs T _).mpr h⟩⟩
theorem zKc{k m:Nat}{R:List Vec}{i:Nat}{r:Vec}(hr:R[i]?=some r)(lr:r.length=k+m):((Cs (zt k R)).map fun q=>zA q.2 i)=r.take k:=by
 refine List.ext_getElem? fun j=>?_;rw [Cs,zt,List.map_map,List.map_map,zOi,List.getElem?_take];by_cases hj:j<k
 ·rw [List.getElem?_range hj,if_pos hj,zAN (by omega)];show some (zA (zl R j) i)=_;simp [zA,zl,hr]
 ·rw [if_neg hj,List.getElem?_eq_none (by simpa using hj)];rfl
theorem zIt{k m o:Nat}{R W:List Vec}(lRW:R.length=W.length)(hR: ∀x∈R,x.length=k+m)(h: ∀j,j<o+m->Sp (Cs (zt k R)) (fun i=>zA (zl W j) i - if j<o then 0 else zA (zl R (k+(j - o))) i)):
  ∃X:Nat->Fn,(∀j i,k<=i->X j i=0)/\ ∀j,j<o+m-> ∀E∈yt k (o+m) (R.map (zAG k o)) W,dt (X j) E.1+zA E.2 j=0:=by
 have lc:(Cs (zt k R)).length=k:=by simp [Cs,zt]
 have: ∀j,∃c:Fn,(∀i,k<=i->c i=0)/\(j<o+m-> ∀i,zA (zl W j) i -(if j<o then 0 else zA (zl R (k+(j - o))) i)=dt c ((Cs (zt k R)).map fun q=>zA q.2 i)):=fun j=>by
  by_cases hj:j<o+m
  ·obtain ⟨c,h1,h2⟩:=zHa (h j hj);exact ⟨c,fun i hi=>h1 i (by omega),fun _=>h2⟩
  ·exact ⟨fun _=>0,fun _ _=>rfl,fun z=>absurd z hj⟩
 refine ⟨fun j=>Classical.choose (this j),fun j=>(Classical.choose_spec (this j)).1,fun j hj E hE=>?_⟩;have hc:=(Classical.choose_spec (this j)).2 hj;show dt (Classical.choose (this j)) E.1+_=0;generalize Classical.choose (this j)=c at hc⊢;obtain ⟨i,r',w,hr',hw,rfl⟩:=zHO hE;rw [zOi] at hr';cases hr:R[i]? with
 | none=>rw [hr] at hr';cases hr'
 | some r=>
  rw [hr] at hr';cases hr';have lr:=hR r (zPH hr);have hi:=hc i;rw [zKc hr lr] at hi;have e1:(zAw k (o+m) (zAG k o r) w).1=r.take k:=by
   show (zAG k o r).take k=r.take k;rw [zAG,List.append_assoc,List.take_append_of_le_length (by rw [List.length_take];omega),List.take_take,Nat.min_self]
  have e2:zA (zl W j) i=zA w j:=by simp [zA,zl,hw]
  have e3:zA (zl R (k+(j - o))) i=zA r (k+(j - o)):=by simp [zA,zl,hr]
  rw [e1,zFX hj,zHr lr,if_neg (by omega)];rw [e2,e3] at hi;by_cases ho:j<o
  ·rw [if_pos ho] at hi;rw [if_pos (by omega)];omega
  ·rw [if_neg ho] at hi;rw [if_neg (by omega),show k+j - o=k+(j - o) by omega];omega
def yN(k m:Nat)(R:List Vec)(T:List Stp):List Vec:=zg (T.map (·.2)++yy k m R T) R.length
theorem zBa{k m:Nat}{R:List Vec}{T:List Stp}(nf:NF R.length (zt k R) T):zt T.length (yN k m R T)=T.map (·.2)/\ ∀j,j<m->zl (yN k m R T) (T.length+j)=zR (zl R (k+j)) T:=by
 have hl: ∀u∈T.map (·.2)++yy k m R T,u.length=R.length:=fun u hu=>by
  rcases List.mem_append.mp hu with z | z
  ·obtain ⟨q,hq,rfl⟩:=List.mem_map.mp z;exact (nf.ech.mem hq).1
  ·obtain ⟨j,_,rfl⟩:=List.mem_map.mp z;exact (zd nf.ech yB).1
 refine ⟨?_,fun j hj=>?_⟩
 ·rw [yN,zDV (by simp) hl,List.take_left' (by simp)]
 ·refine zBC ?_ (zd nf.ech yB).1;rw [List.getElem?_append_right (by simp),zOk,show T.length+j - T.length=j by omega];simp [yy,hj]
theorem zJz{k m:Nat}{R:List Vec}{T:List Stp}(nf:NF R.length (zt k R) T){j:Nat}{q:Stp}(h:T[j]?=some q):zl (yN k m R T) j=q.2:=
 zBC (by rw [List.getElem?_append_left (by rw [zOk];exact (List.getElem?_eq_some_iff.mp h).1),zOi,h];rfl) (nf.ech.mem (zPH h)).1
theorem zDd{k m b:Nat}{R:List Vec}{T:List Stp}(nf:NF R.length (zt k R) T)(n6:R.length<=6)(hR: ∀x∈R,Bts b x): ∀x∈yN k m R T,x.length=T.length+m/\Bts (NB b+2) x:=fun x hx=>by
 refine ⟨by rw [zEL hx];simp [yy],?_⟩;obtain ⟨i,_,rfl⟩:=List.mem_map.mp hx;intro j;show Bt _ ((((T.map (·.2)++yy k m R T).map fun v=>zA v i)[j]?).getD 0);rw [zOi];cases h:(T.map (·.2)++yy k m R T)[j]? with
 | none=>exact Bt.zero
 | some u=>
  have hu:=zPH h;rcases List.mem_append.mp hu with z | z
  ·obtain ⟨q,hq,rfl⟩:=List.mem_map.mp z;exact (zFx nf.ech nf.red nf.sp n6 (zBn hR) q hq i).mono (by omega)
  ·obtain ⟨j',_,rfl⟩:=List.mem_map.mp z;exact zMj nf.ech nf.red nf.sp n6 (zBn hR) yB (Bts.col hR _) i
theorem NB7:NB 7=1029:=rfl
theorem zNb{k m:Nat}{R:List Vec}{T:List Stp}(nf:NF R.length (zt k R) T)(n6:R.length<=6)(hR: ∀x∈R,x.length=k+m/\Bts 7 x)(k6:k<=6)(m6:m<=6):CoOk k m T.length (NB 7+2) R (yN k m R T):=by
 have tl:T.length<=k:=by have:=nf.len;simpa [zt] using this
 refine ⟨by rw [yN,yi],fun x h=>⟨(hR x h).1,(hR x h).2.mono (by rw [NB7];omega)⟩,zDd nf n6 fun x h=>(hR x h).2,n6,k6,by omega,m6,by rw [NB7];omega,zIt (by rw [yN,yi]) (fun x h=>(hR x h).1) fun j hj=>?_⟩;rw [<-nf.sp];by_cases ho:j<T.length
 ·have e:T[j]?=some T[j] :=zOd ho;rw [zJz nf e];exact (Sp.mem (zPI ho)).congr fun i=>by rw [if_pos ho];omega
 ·have:=(zBa (m:=m) nf).2 (j - T.length) (by omega);rw [show T.length+(j - T.length)=j by omega] at this;rw [this];have s:=(zd (r:=zl R (k+(j - T.length))) nf.ech yB).2.1;exact (Sp.smul (-1) s).congr fun i=>by rw [if_neg ho];omega
theorem zMX{k m:Nat}{R:List Vec}{T:List Stp}(nf:NF R.length (zt k R) T)(n6:R.length<=6)(hR: ∀x∈R,x.length=k+m/\Bts 7 x)(k6:k<=6)(m6:m<=6):CoOk T.length m k (NB 7+2) (yN k m R T) R:=by
 have tl:T.length<=k:=by have:=nf.len;simpa [zt] using this
 have hF:=zDd (m:=m) nf n6 fun x h=>(hR x h).2;refine ⟨by rw [yN,yi],hF,fun x h=>⟨(hR x h).1,(hR x h).2.mono (by rw [NB7];omega)⟩,by rw [yN,yi];exact n6,by omega,k6,m6,by rw [NB7];omega,zIt (by rw [yN,yi]) (fun x h=>(hF x h).1) fun j hj=>?_⟩;rw [(zBa nf).1,zFs];by_cases ho:j<k
 ·have:Sp (Cs (zt k R)) (zA (zl R j)):=zBH (i:=j) (by rw [zt,zOi,List.getElem?_range ho];rfl);exact ((nf.sp _).mpr this).congr fun i=>by rw [if_pos ho];omega
 ·rw [(zBa nf).2 (j - k) (by omega)];have s:=(zd (r:=zl R (k+(j - k))) nf.ech yB).2.1;rw [show k+(j - k)=j by omega] at s⊢;exact s.congr fun i=>by rw [if_neg ho]
theorem zEF{k m k':Nat}{R R':List Vec}{T T':List Stp}(nf:NF R.length (zt k R) T)(nf':NF R'.length (zt k' R') T')(hl:R'.length=R.length)(c:Chd k m k' R R'):T'=T/\yN k' m R' T'=yN k m R T:=by
 have nf2:=nf';rw [hl] at nf2;have e:T'=T:=NF.uniq nf2 nf c.sp;subst e;refine ⟨rfl,?_⟩;have:yy k' m R' T'=yy k m R T':=List.map_congr_left fun j hj=>zJN nf.ech (by rw [yB,hl]) yB ((nf.sp _).mpr (c.fx j (List.mem_range.mp hj)));rw [yN,yN,hl,this]
theorem zJs(k m:Nat)(R:List Vec):Chd k m k R R:=⟨fun x=>Iff.rfl,fun j _=>Sp.zero _ fun i=>by omega⟩
theorem zJy{k m:Nat}{R:List Vec}{T:List Stp}(nf:NF R.length (zt k R) T):Chd k m T.length R (yN k m R T):=by
 refine ⟨fun x=>?_,fun j hj=>?_⟩
 ·rw [(zBa nf).1,zFs];exact nf.sp x
 ·rw [(zBa nf).2 j hj];have s:=(zd (r:=zl R (k+j)) nf.ech yB).2.1;exact (Sp.smul (-1) ((nf.sp _).mp s)).congr fun i=>by omega
theorem zKR{K:zPS}{H:Hp}{p q:Addr}{R:List Vec}(h1:LL H p R)(h2:LL H q R):SmLL K H p q:=by
 refine ⟨?_⟩;obtain ⟨as,e1,h1⟩:=h1;obtain ⟨bs,e2,h2⟩:=h2;refine ⟨as,bs,fun i=>((R[i]?).getD []).map V.int,SqL.of e1,SqL.of e2,by rw [Paired.len h1,Paired.len h2],fun i a ha=>?_,fun i a ha=>?_,fun i x hx=>?_⟩
 ·obtain ⟨v,ev,hv⟩:=Paired.get' h1 ha;show SqL K H a (((R[i]?).getD []).map V.int);rw [ev];exact SqL.of hv
 ·obtain ⟨v,ev,hv⟩:=Paired.get' h2 ha;show SqL K H a (((R[i]?).getD []).map V.int);rw [ev];exact SqL.of hv
 ·obtain ⟨z,_,rfl⟩:=List.mem_map.mp hx;rfl
section
variable {P:Program}{w:World}{K:zPS}{mg:Str->Option Value}{base:Heap}
theorem zND{A:Around}{k:Nat}(hr:Room k A):A.units+2<cLine:=zOu (Nat.add_le_add_left (by decide:2<=64) _) hr.units
def zFv(K:zPS):Sp:=fun vs H Q _=> ∃(a:Addr) (ns:List Int),vs= [.ref a] /\SqL K H a (ns.map V.int)/\ns.length<=63/\ ∀H',Q (.bl true) H'
theorem zAl:FnScope ["_law_script","_law_number_here","_law_free","_law_names","_law_spot","_law_rows_here","_law_handed","_law_found","_law_many","_law_form","_law_kept","_law_other","_law_changed_here"] ["_law_script"] (zI zEP):=⟨rfl,rfl,rfl,by decide+kernel,rfl,by decide+kernel,by decide+kernel⟩
theorem zMe{f fN fR fO fWh fWs fS fC fH CS:Addr}{fd fdN fdR fdO fdWh fdWs fdS fdC fdH:FuncData}(F:Fun K "law" "law" zEP f fd)(B:Bn mg)
  (FN:Fun K "_law_number" "_law_number" zDD fN fdN) (bN:zO K fdN ["_law_script","_law_k"] []) (mN:mg "_law_number" =some (.ref fN)) (GN:FnOk P w K mg base CX0 2 fN fdN ["_law_script","_law_k"] (zDi K))
  (FR:Fun K "_law_rows" "_law_rows" zEo fR fdR) (bR:zO K fdR ["_law_script","_law_spot","_law_free","_law_names","_law_many"] []) (mR:mg "_law_rows" =some (.ref fR)) (GR:FnOk P w K mg base CX0 4 fR fdR ["_law_script","_law_spot","_law_free","_law_names","_law_many"] (zKq K))
  (FO:Fun K "normal" "normal" zCm fO fdO) (bO:zO K fdO ["free","names","rows"] []) (mO:mg "normal" =some (.ref fO)) (GO:FnOk P w K mg base CX0 37 fO fdO ["free","names","rows"] (zEE CS))
  (FWh:Fun K "_law_whole" "_law_whole" zCc fWh fdWh) (bWh:zO K fdWh ["_law_found"] []) (mWh:mg "_law_whole" =some (.ref fWh)) (GWh:FnOk P w K mg base CX0 1 fWh fdWh ["_law_found"] zIE)
  (FWs:Fun K "_law_wholes" "_law_wholes" zBq fWs fdWs) (bWs:zO K fdWs ["_law_found","_law_size"] []) (mWs:mg "_law_wholes" =some (.ref fWs)) (GWs:FnOk P w K mg base CX0 2 fWs fdWs ["_law_found","_law_size"] zET)
  (FS:Fun K "_law_shape" "_law_shape" zDT fS fdS) (bS:zO K fdS ["_law_free","_law_names","_law_rows_here"] []) (mS:mg "_law_shape" =some (.ref fS)) (GS:FnOk P w K mg base CX0 1 fS fdS ["_law_free","_law_names","_law_rows_here"] zKB)
  (FC:Fun K "_law_comes" "_law_comes" zDY fC fdC) (bC:zO K fdC ["_law_free","_law_names","_law_rows_here","_law_other","_law_wanted"] []) (mC:mg "_law_comes" =some (.ref fC)) (GC:FnOk P w K mg base CX0 39 fC fdC ["_law_free","_law_names","_law_rows_here","_law_other","_law_wanted"] zJq)
  (FH:Fun K "_law_changed" "_law_changed" zBx fH fdH) (bH:zO K fdH ["_law_script","_law_free","_law_names","_law_rows_here"] []) (mH:mg "_law_changed" =some (.ref fH)) (GH:FnOk P w K mg base CX0 3 fH fdH ["_law_script","_law_free","_law_names","_law_rows_here"] (zKF K)):FnOk P w K mg base CX0 40 f fd ["_law_script"] (zFv K):=by
 refine F.ok zAl (fun vs H Q E h=>?_) (fun cdv A outer s H vs Q E hr39 h=>?_)
 ·obtain ⟨a,ns,rfl,_⟩:=h;rfl
 ·obtain ⟨a,ns,rfl,ha,hns,q⟩:=h;have hr37:Room 37 _:=hr39.mono (by decide);have hr4:Room 4 _:=hr39.mono (by decide);have hr3:Room 3 _:=hr39.mono (by decide);have hr2:Room 2 _:=hr39.mono (by decide);have hr1:Room 1 _:=hr39.mono (by decide);have huL:=zGA hr39;have huT:=zND hr39;refine ⟨_,QB.out (zE
   (zV 1 zAl.nd rfl (zK GN hr2 rfl mN FN.kp bN .nil zL (qc (qw 0 rfl) (qc zF zD rfl) rfl) rfl rfl rfl) rfl) (zE
   (zV 2 zAl.nd rfl (yu (qw 1 rfl) zF) rfl) (zE
   (yY 3 zAl.nd rfl (Or.inr rfl) (yu (zBL (qw 1 rfl) zF) zF) rfl (.inl rfl)) (zE
   (zV 4 zAl.nd rfl (zAB (qc zF zD rfl)) rfl) (zE
   (zV 5 zAl.nd rfl (zK GR hr4 rfl mR FR.kp bR .nil zL (qc (qw 0 rfl) (qc (qw 4 rfl) (qc (qw 2 rfl) (qc (qx 3 rfl) (qc (yu (zBL (qw 1 rfl) zF) zF) zD rfl) rfl) rfl) rfl) rfl) rfl rfl rfl) rfl) (zE
   (zAh (cl:= []) yq 6 (by exact zAl.nd) rfl (Or.inl rfl) (.inr rfl) ["_law_row"] [] [] rfl (zm (K:=K) rfl (qw 5 rfl)) rfl (by decide+kernel) rfl (by decide+kernel) (fun _ _ h=>nomatch h) rfl (fun j y i h=>nomatch h) (zN rfl) (fun _ _ _ _=>(zH 0 (show (["_law_row"] :List Str).Nodup by decide+kernel) rfl (.inl rfl) (.inr rfl))) (fun _ _ _ _=>zc) (fun C s₂ H₂ fp xe E hp=>(zEJ (zAd (K:=K) rfl) rfl B.list zAg (qc (qw 0 rfl) zD rfl) rfl)) (fun _=>rfl) rfl) (zE
   (zV 7 zAl.nd rfl (zK GO hr37 rfl mO FO.kp bO .nil zL (qc (qw 2 rfl) (qc (qx 3 rfl) (qc (qw 6 rfl) zD rfl) rfl) rfl) rfl rfl rfl) rfl) (zE
   (yW (t_w (zCU (zBG (zBZ (yP (zAz (K:=K) rfl) rfl B.isi yz (qc (qw 7 rfl) (qc (zCa (v:= .ty "tuple") rfl B.tuple zKC rfl (by decide) rfl) zD rfl) rfl) rfl) (fun _=>rfl))) (zCU (zf zAr (yP (yK (K:=K) rfl) rfl B.len yk (qc (qw 7 rfl) zD rfl) rfl) zF rfl) (zCU (zBG (zBZ (zK GWh hr1 rfl mWh FWh.kp bWh .nil zL (qc (yV (K:=K) rfl (qw 7 rfl) zF (fun _ _=>rfl)) zD rfl) rfl rfl rfl) (fun _=>rfl))) (zCy (zBG (zHL zFt zFt zF (yV (K:=K) rfl (qw 7 rfl) zF (fun _ _=>rfl)) (qw 2 rfl) rfl))))))) (zJ
    (zZ zBO)) yS) (zE
   (zKy (qw 7 rfl) (zAt (K:=K) rfl rfl (yJ (zH 8 zAl.nd rfl (Or.inr rfl) (.inl rfl)) (yJ (zH 9 zAl.nd rfl (Or.inl rfl) (.inr rfl)) zAs rfl) rfl) rfl rfl) rfl rfl rfl) (zE
   (yW (t_w (zCU (zBG (zBZ (yP (zAz (K:=K) rfl) rfl B.isi yz (qc (qw 9 rfl) (qc (zCa (v:= .ty "list") rfl B.list zAg rfl (by decide) rfl) zD rfl) rfl) rfl) (fun _=>rfl))) (zCy (zf zAr (yP (yK (K:=K) rfl) rfl B.len yk (qc (qw 9 rfl) zD rfl) rfl) (yP (yK (K:=K) rfl) rfl B.len yk (qc (qw 5 rfl) zD rfl) rfl) rfl)))) (zJ
    (zZ zBO)) yS) (zE
   (yW (zBG (zBZ (yP (zDZ (K:=K) rfl rfl) rfl B.all zGb (qc (ze ["_law_row"] ["_law_names","_law_many"] [3,8] rfl (zm (K:=K) rfl (qw 9 rfl)) rfl (by decide+kernel) rfl (by decide+kernel) (zQ rfl (zQ rfl ye)) rfl (fr2 ⟨rfl,rfl,rfl,_,rfl,rfl⟩ ⟨rfl,rfl,rfl,_,rfl,rfl⟩) (zN rfl) (fun _ _ _ _=>(zH 0 (show (["_law_row","_law_names","_law_many"] :List Str).Nodup by decide+kernel) rfl (.inl rfl) (.inr rfl))) (fun _ _ _ _=>zc) (fun _ _ _ _=>(zK GWs hr2 rfl mWs FWs.kp bWs .nil zL (qc (qw 0 rfl) (qc (yc (qx 2 rfl) (qx 1 rfl)) zD rfl) rfl) rfl rfl rfl)) (fun _=>rfl)) zD rfl) rfl) (fun _=>rfl))) (zJ
    (zZ zBO)) yS) (zE
   (yW (t_w (zCU (zf (zMK (K:=K) rfl huL) (qw 6 rfl) (qw 5 rfl) rfl) (zCy (zBG (zBZ (zK GS hr1 rfl mS FS.kp bS .nil zL (qc (qx 8 rfl) (qc (qx 3 rfl) (qc (qw 9 rfl) zD rfl) rfl) rfl) rfl rfl rfl) (fun _=>rfl)))))) (zJ
    (zZ zBO)) yS) (zE
   (yW (t_w (zCU (zBG (zBZ (zK GC hr39 rfl mC FC.kp bC .nil zL (qc (qw 2 rfl) (qc (qx 3 rfl) (qc (qw 5 rfl) (qc (qx 8 rfl) (qc (qw 9 rfl) zD rfl) rfl) rfl) rfl) rfl) rfl rfl rfl) (fun _=>rfl))) (zCy (zBG (zBZ (zK GC hr39 rfl mC FC.kp bC .nil zL (qc (qx 8 rfl) (qc (qx 3 rfl) (qc (qw 9 rfl) (qc (qw 2 rfl) (qc (qw 5 rfl) zD rfl) rfl) rfl) rfl) rfl) rfl rfl rfl) (fun _=>rfl)))))) (zJ
    (zZ zBO)) yS) (zE
   (zAh (cl:= []) yq 10 (by exact zAl.nd) rfl (Or.inl rfl) (.inr rfl) ["_law_row"] [] [] rfl (zm (K:=K) rfl (qw 9 rfl)) rfl (by decide+kernel) rfl (by decide+kernel) (fun _ _ h=>nomatch h) rfl (fun j y i h=>nomatch h) (zN rfl) (fun _ _ _ _=>(zH 0 (show (["_law_row"] :List Str).Nodup by decide+kernel) rfl (.inl rfl) (.inr rfl))) (fun _ _ _ _=>zc) (fun C s₂ H₂ fp xe E hp=>(zEJ (zAd (K:=K) rfl) rfl B.list zAg (qc (qw 0 rfl) zD rfl) rfl)) (fun _=>rfl) rfl) (zE
   (zBe (zCs (K:=K) rfl (qw 9 rfl) zDq rfl rfl rfl) rfl) (zE
   (zBe (zMD (K:=K) rfl (qw 6 rfl) rfl rfl) rfl) (zE
   (zKy (zK GH hr3 rfl mH FH.kp bH .nil zL (qc (qw 0 rfl) (qc (qw 2 rfl) (qc (qx 3 rfl) (qc (qw 5 rfl) zD rfl) rfl) rfl) rfl) rfl rfl rfl) (zAt (K:=K) rfl rfl (yJ (zH 11 zAl.nd rfl (Or.inl rfl) (.inr rfl)) (yJ (zH 12 zAl.nd rfl (Or.inl rfl) (.inr rfl)) zAs rfl) rfl) rfl rfl) rfl rfl rfl) (zE
   (yW (zf (zHS (K:=K) rfl huT) (zK GO hr37 rfl mO FO.kp bO .nil zL (qc (qw 11 rfl) (qc (qx 3 rfl) (qc (qw 12 rfl) zD rfl) rfl) rfl) rfl rfl rfl) (zAm (qc (qx 8 rfl) (qc (qw 10 rfl) zD rfl) rfl)) rfl) (zJ
    (zZ zBO)) yS) (zE
   (yW (zf (zHS (K:=K) rfl huT) (zK GO hr37 rfl mO FO.kp bO .nil zL (qc (qw 2 rfl) (qc (qx 3 rfl) (qc (ze (cl:= []) ["_law_row"] [] [] rfl (zm (K:=K) rfl (qw 5 rfl)) rfl (by decide+kernel) rfl (by decide+kernel) (fun _ _ h=>nomatch h) rfl (fun j y i h=>nomatch h) (zN rfl) (fun _ _ _ _=>(zH 0 (show (["_law_row"] :List Str).Nodup by decide+kernel) rfl (.inl rfl) (.inr rfl))) (fun _ _ _ _=>zc) (fun _ _ _ _=>(zEJ (zAd (K:=K) rfl) rfl B.list zAg (qc (qw 0 rfl) zD rfl) rfl)) (fun _=>rfl)) zD rfl) rfl) rfl) rfl rfl rfl) (zAm (qc (qx 8 rfl) (qc (qw 10 rfl) zD rfl) rfl)) rfl) (zJ
    (zZ zBO)) yS) (zJ
   (zZ (zFy (zLR (K:=K) rfl huT) (zK GO hr37 rfl mO FO.kp bO .nil zL (qc (qx 8 rfl) (qc (qx 3 rfl) (qc (ze (cl:= []) ["_law_row"] [] [] rfl (zm (K:=K) rfl (qw 10 rfl)) rfl (by decide+kernel) rfl (by decide+kernel) (fun _ _ h=>nomatch h) rfl (fun j y i h=>nomatch h) (zN rfl) (fun _ _ _ _=>(zH 0 (show (["_law_row"] :List Str).Nodup by decide+kernel) rfl (.inl rfl) (.inr rfl))) (fun _ _ _ _=>zc) (fun _ _ _ _=>(zEJ (zAd (K:=K) rfl) rfl B.list zAg (qc (qw 0 rfl) zD rfl) rfl)) (fun _=>rfl)) zD rfl) rfl) rfl) rfl rfl rfl) (zAm (qc (qx 8 rfl) (qc (qw 10 rfl) zD rfl) rfl)) rfl)))))))))))))))))))))),?_⟩
  refine ⟨_,rfl,a,ns,0,rfl,ha,hns,by decide,by decide,fun r H1 s1 r0 r1=>?_⟩;refine ⟨_,rfl,r,4,rfl,rfl,by decide,?_⟩;refine ⟨_,rfl,r,4,rfl,rfl,⟨by decide,by decide⟩,_,_,rfl,rfl,by decide,?_⟩;have n0:=zOv r (show (4:Int)≠0 by decide);have n1:=zOp r (show (0:Int)<4 by decide);have m0:=zOv (r/4) (show (3:Int)≠0 by decide);have m1:=zOp (r/4) (show (0:Int)<3 by decide);have c0:=zOv (r/12) (show (5:Int)≠0 by decide);have c1:=zOp (r/12) (show (0:Int)<5 by decide);obtain ⟨k,ek⟩: ∃k:Nat,r % 4=k:=⟨(r % 4).toNat,by omega⟩;obtain ⟨m,em⟩: ∃m:Nat,r/4 % 3=m:=⟨(r/4 % 3).toNat,by omega⟩;obtain ⟨n,en⟩: ∃n:Nat,r/12 % 5=n:=⟨(r/12 % 5).toNat,by omega⟩;rw [ek,em];have k3:k<=3:=by omega
  have m2:m<=2:=by omega
  have n4:n<=4:=by omega
  refine ⟨bs 1,fun p hp=>?_⟩;have sc:=(Scr.of (s1.seq ha) hp).but (But.upd (o:= .lst [.int 200]));refine ⟨_,rfl,_,rfl,_,rfl,_,rfl,_,rfl,r,12,rfl,rfl,⟨by decide,by decide⟩,_,_,rfl,rfl,by decide,a,p,ns,200,k,m,n,by rw [en];rfl,sc,hns,zB,by decide,by decide,k3,m2,n4,fun l R H3 b3 _ hl lR hx=>?_⟩;have a3:=(sc.but b3).sq;clear sc b3 hp;have n6:R.length<=6:=by omega
  have bx: ∀x∈R,Bts 7 x:=fun x h=>(hx x h).2;obtain ⟨y3,e3,ly3⟩:=hl.at;refine ⟨_,rfl,l,rfl,⟨_,SqL.of e3⟩,fun D6 hD6=>zBF hl (by omega) hD6 fun rs6 H4 s4 e6 h6 _=>?_⟩;refine ⟨_,rfl,_,rfl,_,rfl,D6,R,k,m,7,rfl,⟨rs6,e6,h6⟩,hx,n6,by omega,by omega,by decide,fun T t rr H5 s5 et hrr hF nf=>?_⟩;have tl:T.length<=k:=by have:=nf.len;simpa [zt] using this
  have s35:=s4.trans s5;have eF:zg (T.map (·.2)++yy k m R T) R.length=yN k m R T:=rfl;rw [eF] at hF;obtain ⟨hl',hb'⟩:(∀x∈yN k m R T,x.length=T.length+m)/\ ∀x∈yN k m R T,Bts 1031 x:=⟨fun x h=>(zDd nf n6 bx x h).1,fun x h=>(zDd nf n6 bx x h).2⟩;have lF:(yN k m R T).length=R.length:=by rw [yN,yi]
  obtain ⟨yF,eF',lyF⟩:=hF.at;refine ⟨_,rfl,_,.ty "tuple",_,.type "tuple",_,rfl,rfl,.tup et,zFo K,_,rfl,zAW ?_⟩;refine ⟨_,rfl,t,_,rfl,.inr (SqT.of et),rfl,_,rfl,zAR (by rfl) ?_⟩;refine ⟨_,rfl,t,_,_,_,rfl,rfl,SqT.of et,rfl,(T.length:Int),rfl,_,rfl,zAW ?_⟩;refine ⟨_,rfl,t,_,_,_,rfl,rfl,SqT.of et,rfl,0,(T.length:Int),rfl,rfl,_,rfl,zEY (zPB (by omega)) ⟨_,rfl,_,_,rfl,rfl,_,rfl,zAR (by rw [zPB (show (T.length:Int)<=(k:Int) by omega)];rfl) ?_⟩⟩;refine ⟨_,rfl,t,_,rfl,SqT.of et,rfl,_,_,rfl,_,_,rfl,rfl,?_⟩;refine ⟨_,rfl,_,.ty "list",_,.type "list",_,rfl,rfl,.lst eF',zCY K,_,rfl,zAW ?_⟩;refine ⟨_,rfl,rr,_,rfl,.inl (SqL.of eF'),_,rfl,l,_,rfl,.inl (SqL.of (s35 _ _ e3)),rfl,_,rfl,zAR (by rw [lyF,ly3,lF,zPB rfl];rfl) ?_⟩;refine ⟨_,rfl,rr,rfl,⟨_,SqL.of eF'⟩,fun D8 hD8=>zGZ hF (by omega) hl' (by omega) hD8 rfl fun H6 s6 e8=>?_⟩;refine ⟨D8,List.replicate (yN k m R T).length true,rfl,SqL.of e8,_,rfl,zAR (by simp) ?_⟩;have s36:=s35.trans s6;refine ⟨_,rfl,_,rfl,zMZ (LL.same ⟨rs6,e6,h6⟩ (s5.trans s6)) (hl.same s36) ⟨_,rfl,zAW ?_⟩⟩;refine ⟨_,rfl,_,rfl,_,rfl,rr,T,yy k m R T,R.length,m,rfl,hF.same s6,nf.ech,nf.red,by simp [yy],fun f' hf' q' hq'=>?_,by omega,by omega,fun H7 s7=>⟨_,rfl,zAW ?_⟩⟩
  ·obtain ⟨j,_,rfl⟩:=List.mem_map.mp hf';exact (zd nf.ech yB).2.2.1 q' hq'
  have s37:=s36.trans s7;have s57:=s6.trans s7;refine ⟨_,rfl,_,rfl,_,rfl,_,rfl,_,rfl,l,rr,R,yN k m R T,k,m,T.length,_,rfl,hl.same s37,hF.same s57,zNb nf n6 hx (by omega) (by omega),fun H8 s8=>⟨_,rfl,zAW ?_⟩⟩;refine ⟨_,rfl,_,rfl,_,rfl,_,rfl,_,rfl,rr,l,yN k m R T,R,T.length,m,k,_,rfl,hF.same (s57.trans s8),hl.same (s37.trans s8),zMX nf n6 hx (by omega) (by omega),fun H9 s9=>⟨_,rfl,zAW ?_⟩⟩;have s39:=(s37.trans s8).trans s9;have s59:=(s57.trans s8).trans s9;obtain ⟨y9,e9,ly9⟩:=(hF.same s59).at;refine ⟨_,rfl,rr,rfl,⟨_,SqL.of e9⟩,fun DK hDK=>zBF (hF.same s59) (by omega) hDK fun rsK HK sK eK hK hfr=>?_⟩;obtain ⟨fr,_,nDK⟩:=hfr;have eK9:=sK _ _ e9;have h6K:HK D6=some (.lst (rs6.map V.ref)):=((s5.trans s59).trans sK) _ _ e6;have nr:H3 rr=none:=zC.none s4 hrr;have n1:DK≠rr:=fun z=>by rw [z,e9] at hDK;cases hDK
  have h69:H9 D6=some (.lst (rs6.map V.ref)):=(s5.trans s59) _ _ e6;have n2:DK≠D6:=fun z=>by rw [z,h69] at hDK;cases hDK
  have n3:D6≠rr:=fun z=>by rw [<-z,e6] at hrr;cases hrr
  refine ⟨_,rfl,.inl ⟨rfl,_,SqL.of eK9⟩,rr,_,_,rfl,rfl,eK9,by rw [zOo];omega,?_⟩;refine ⟨_,rfl,.inl ⟨rfl,_,SqL.of ((zG n3).trans h6K)⟩,D6,_,rfl,rfl,(zG n3).trans h6K,?_⟩;have sA:zC H3 (L2.upd (L2.upd HK rr (.lst (y9++ [V.non]))) D6 (.lst [])):=zC.store (zC.store (s39.trans sK) nr) hD6;have hA:LL (L2.upd (L2.upd HK rr (.lst (y9++ [V.non]))) D6 (.lst [])) DK (yN k m R T):=⟨rsK,by rw [zG n2,zG n1];exact eK,Paired.mapM hK fun x v hm ev=>by
   show L2.upd (L2.upd HK rr _) D6 _ x=_;have f9:=fr x hm;rw [zG (fun z=>by rw [z,h69] at f9;cases f9),zG (fun z=>by rw [z,e9] at f9;cases f9)];exact ev⟩
  generalize L2.upd (L2.upd HK rr (.lst (y9++ [V.non]))) D6 (.lst [])=HA at sA hA⊢;clear eK9 h6K h69 e9 eK hK fr sK s39 s59 s37 s57 s36 s35 et hrr hF e6 h6 s4 s5 s6 s7 s8 s9 e8 eF' hDK hD6 hD8;refine ⟨_,rfl,_,rfl,_,rfl,_,rfl,a,l,ns,R,k,m,rfl,sA.seq a3,hns,hl.same sA,hx,n6,k3,m2,fun t2 r2 k' R' HB sB et2 hr2' lR' k4 hx' cd=>?_⟩;refine ⟨t2,_,rfl,SqT.of et2,rfl,_,_,rfl,_,_,rfl,rfl,?_⟩;refine ⟨_,rfl,_,rfl,_,rfl,r2,R',k',m,23,rfl,hr2',hx',by omega,by omega,by omega,by decide,fun T2 t3 r3 HC sC et3 _ hF3 nf2=>?_⟩;obtain ⟨rfl,e2⟩:=zEF nf nf2 lR' cd;rw [show zg (T2.map (·.2)++yy k' m R' T2) R'.length=yN k' m R' T2 from rfl,e2] at hF3;refine ⟨_,rfl,_,rfl,bs 2,fun t4 ht4=>?_⟩;have t4':=zC.upd ht4 (o:= .tup [.int (T2.length:Int),.ref DK]);refine ⟨t3,t4,r3,DK,(T2.length:Int),rfl,rfl,SqT.of (t4' _ _ et3),SqT.of zB,zKR (hF3.same t4') (hA.same ((sB.trans sC).trans t4')),_,rfl,zAW ?_⟩;have sAD:=(sB.trans sC).trans t4';generalize L2.upd HC t4 (.tup [.int (T2.length:Int),.ref DK])=HD at sAD⊢;clear t4' sC sB et2 et3 hF3 hr2' ht4;obtain ⟨yD,eD,lyD⟩:=(hl.same (sA.trans sAD)).at;refine ⟨_,rfl,_,rfl,_,rfl,l,rfl,⟨_,SqL.of eD⟩,fun DE hDE=>zBF (hl.same (sA.trans sAD)) (by omega) hDE fun rsE HE sE eE hE _=>?_⟩;refine ⟨DE,R,k,m,7,rfl,⟨rsE,eE,hE⟩,hx,n6,by omega,by omega,by decide,fun T3 t5 r5 HF' sF et5 _ hF5 nf3=>?_⟩;obtain ⟨rfl,e3'⟩:=zEF nf nf3 rfl (zJs k m R);rw [show zg (T3.map (·.2)++yy k m R T3) R.length=yN k m R T3 from rfl] at hF5;refine ⟨_,rfl,_,rfl,bs 2,fun t6 ht6=>?_⟩;have t6':=zC.upd ht6 (o:= .tup [.int (T3.length:Int),.ref DK]);have sAF:=(sAD.trans sE).trans (sF.trans t6');refine ⟨t5,t6,r5,DK,(T3.length:Int),rfl,rfl,SqT.of (t6' _ _ et5),SqT.of zB,zKR (hF5.same t6') (hA.same sAF),_,rfl,zAW ?_⟩;generalize L2.upd HF' t6 (.tup [.int (T3.length:Int),.ref DK])=HG at sAF⊢;clear t6' sF sE et5 hF5 ht6 eE hE eD hDE;have hG:=hA.same sAF;obtain ⟨yG,eG,lyG⟩:=hG.at;refine ⟨_,rfl,_,rfl,_,rfl,DK,rfl,⟨_,SqL.of eG⟩,fun DI hDI=>zBF hG (by omega) hDI fun rsI HI sI eI hI _=>?_⟩;refine ⟨DI,yN k m R T3,T3.length,m,1031,rfl,⟨rsI,eI,hI⟩,fun x h=>⟨hl' x h,hb' x h⟩,by omega,by omega,by omega,by decide,fun T4 t7 r7 HJ sJ et7 _ hF7 nf4=>?_⟩;obtain ⟨rfl,e4⟩:=zEF nf nf4 lF (zJy nf);rw [show zg (T4.map (·.2)++yy T4.length m (yN k m R T4) T4) (yN k m R T4).length=yN T4.length m (yN k m R T4) T4 from rfl,e4] at hF7;refine ⟨_,rfl,_,rfl,bs 2,fun t8 ht8=>?_⟩;have t8':=zC.upd ht8 (o:= .tup [.int (T4.length:Int),.ref DK]);exact ⟨t7,t8,r7,DK,(T4.length:Int),rfl,rfl,SqT.of (t8' _ _ et7),SqT.of zB,zKR (hF7.same t8') (hG.same ((sI.trans sJ).trans t8')),q _⟩
end
def GA(K:zPS)(n:Str)(f:Addr):Prop:=PySem.W.nsIn K mainGlobals n=some (some (.ref f))
def LF(K:zPS)(f:Addr)(n q:Str)(st:Stmt)(dv oc:Value)(od:Option Addr)(kV dc pm:Value)(an:Option Addr)(cd ct:Value)(sl:Array (Option Value)):Prop:=K.lookup f=some ⟨oc,od,.func (PySem.W.fnOf n q (zBk st) (zBS st) (zI st) dv kV dc pm an cd ct),sl⟩
def CF(K:zPS)(cd:Value)(q:Str):Prop:=PySem.W.codeIn K cd q=true
def KF(K:zPS)(f:Addr):Prop:=PySem.W.keepIn K (.ref f)=true
theorem zFM{us:List Value}(h:us.length=1): ∃a,us= [a] :=List.length_eq_one_iff.mp h
theorem zAS{us:List Value}(h:us.length=2): ∃a b,us= [a,b] :=by
 cases us with
 | nil=>cases h
 | cons a r=>
  obtain ⟨b,rfl⟩:=zFM (us:=r) (by simpa using h);exact ⟨a,b,rfl⟩
theorem zFE{us:List Value}(h:us.length=3): ∃a b c,us= [a,b,c] :=by
 cases us with
 | nil=>cases h
 | cons a r=>
  obtain ⟨b,c,rfl⟩:=zAS (us:=r) (by simpa using h);exact ⟨a,b,c,rfl⟩
theorem zDP{us:List Value}(h:us.length=4): ∃a b c d,us= [a,b,c,d] :=by
 cases us with
 | nil=>cases h
 | cons a r=>
  obtain ⟨b,c,d,rfl⟩:=zFE (us:=r) (by simpa using h);exact ⟨a,b,c,d,rfl⟩
theorem zNZ{us:List Value}(h:us.length=5): ∃a b c d e,us= [a,b,c,d,e] :=by
 cases us with
 | nil=>cases h
 | cons a r=>
  obtain ⟨b,c,d,e,rfl⟩:=zDP (us:=r) (by simpa using h);exact ⟨a,b,c,d,e,rfl⟩
theorem zNX{l:PySem.W.OpenLaw}{w:World}{K:zPS}{h:Heap}{mg:Str->Option Value}{fa:Addr}(ht:l.prog.given.tree=none)(X:K.In h)(G:h.Ns mainGlobals mg)(hfa:mg "law" =some (.ref fa))
  (a0:GA K "common_divisor" f0)
  (l0:LF K f0 "common_divisor" "common_divisor" zFD .none oc0 od0 kV0 dc0 pm0 an0 cd0 ct0 sl0)
  (c0:CF K cd0 "common_divisor")
  (k0:KF K f0)
  (a1:GA K "one_at" f1)
  (l1:LF K f1 "one_at" "one_at" zFC .none oc1 od1 kV1 dc1 pm1 an1 cd1 ct1 sl1)
  (c1:CF K cd1 "one_at")
  (k1:KF K f1)
  (a2:GA K "mixed" f2)
  (l2:LF K f2 "mixed" "mixed" zBI .none oc2 od2 kV2 dc2 pm2 an2 cd2 ct2 sl2)
  (c2:CF K cd2 "mixed")
  (k2:KF K f2)
  (a3:GA K "marks_of" f3)
  (l3:LF K f3 "marks_of" "marks_of" zCj .none oc3 od3 kV3 dc3 pm3 an3 cd3 ct3 sl3)
  (c3:CF K cd3 "marks_of")
  (k3:KF K f3)
  (a4:GA K "reach_of" f4)
  (l4:LF K f4 "reach_of" "reach_of" zBu .none oc4 od4 kV4 dc4 pm4 an4 cd4 ct4 sl4)
  (c4:CF K cd4 "reach_of")
  (k4:KF K f4)
  (a5:GA K "divisor_of" f5)
  (l5:LF K f5 "divisor_of" "divisor_of" zEM .none oc5 od5 kV5 dc5 pm5 an5 cd5 ct5 sl5)
  (c5:CF K cd5 "divisor_of")
  (k5:KF K f5)
  (a6:GA K "rows_of" f6)
  (l6:LF K f6 "rows_of" "rows_of" zDn .none oc6 od6 kV6 dc6 pm6 an6 cd6 ct6 sl6)
  (c6:CF K cd6 "rows_of")
  (k6:KF K f6)
  (a7:GA K "lessened" f7)
  (l7:LF K f7 "lessened" "lessened" zBY .none oc7 od7 kV7 dc7 pm7 an7 cd7 ct7 sl7)
  (c7:CF K cd7 "lessened")
  (k7:KF K f7)
  (a8:GA K "parted" f8)
  (l8:LF K f8 "parted" "parted" zDe .none oc8 od8 kV8 dc8 pm8 an8 cd8 ct8 sl8)
  (c8:CF K cd8 "parted")
  (k8:KF K f8)
  (a9:GA K "first_place" f9)
  (l9:LF K f9 "first_place" "first_place" zDJ .none oc9 od9 kV9 dc9 pm9 an9 cd9 ct9 sl9)
  (c9:CF K cd9 "first_place")
  (k9:KF K f9)
  (a10:GA K "all_lessened" f10)
  (l10:LF K f10 "all_lessened" "all_lessened" zEa .none oc10 od10 kV10 dc10 pm10 an10 cd10 ct10 sl10)
  (c10:CF K cd10 "all_lessened")
  (k10:KF K f10)
  (a11:GA K "with_one_more" f11)
  (l11:LF K f11 "with_one_more" "with_one_more" zCe .none oc11 od11 kV11 dc11 pm11 an11 cd11 ct11 sl11)
  (c11:CF K cd11 "with_one_more")
  (k11:KF K f11)
  (a12:GA K "normal" f12)
  (l12:LF K f12 "normal" "normal" zCm .none oc12 od12 kV12 dc12 pm12 an12 cd12 ct12 sl12)
  (c12:CF K cd12 "normal")
  (k12:KF K f12)
  (a13:GA K "left_over" f13)
  (l13:LF K f13 "left_over" "left_over" zCO .none oc13 od13 kV13 dc13 pm13 an13 cd13 ct13 sl13)
  (c13:CF K cd13 "left_over")
  (k13:KF K f13)
  (a14:GA K "all_left_over" f14)
  (l14:LF K f14 "all_left_over" "all_left_over" zDI .none oc14 od14 kV14 dc14 pm14 an14 cd14 ct14 sl14)
  (c14:CF K cd14 "all_left_over")
  (k14:KF K f14)
  (a15:GA K "open_solution" f15)
  (l15:LF K f15 "open_solution" "open_solution" zEe .none oc15 od15 kV15 dc15 pm15 an15 cd15 ct15 sl15)
  (c15:CF K cd15 "open_solution")
  (k15:KF K f15)
  (a16:GA K "clash_of" f16)
  (l16:LF K f16 "clash_of" "clash_of" zCZ .none oc16 od16 kV16 dc16 pm16 an16 cd16 ct16 sl16)
  (c16:CF K cd16 "clash_of")
  (k16:KF K f16)
  (a17:GA K "nearest" f17)
  (l17:LF K f17 "nearest" "nearest" zEj .none oc17 od17 kV17 dc17 pm17 an17 cd17 ct17 sl17)
  (c17:CF K cd17 "nearest")
  (k17:KF K f17)
  (a18:GA K "shortened" f18)
  (l18:LF K f18 "shortened" "shortened" zCb .none oc18 od18 kV18 dc18 pm18 an18 cd18 ct18 sl18)
  (c18:CF K cd18 "shortened")
  (k18:KF K f18)
  (a19:GA K "solution_of" f19)
  (l19:LF K f19 "solution_of" "solution_of" zGC .none oc19 od19 kV19 dc19 pm19 an19 cd19 ct19 sl19)
  (c19:CF K cd19 "solution_of")
  (k19:KF K f19)
  (a20:GA K "met_by" f20)
  (l20:LF K f20 "met_by" "met_by" zGl .none oc20 od20 kV20 dc20 pm20 an20 cd20 ct20 sl20)
  (c20:CF K cd20 "met_by")
  (k20:KF K f20)
  (a21:GA K "_law_mixed" f21)
  (l21:LF K f21 "_law_mixed" "_law_mixed" zGw .none oc21 od21 kV21 dc21 pm21 an21 cd21 ct21 sl21)
  (c21:CF K cd21 "_law_mixed")
  (k21:KF K f21)
  (a22:GA K "_law_number" f22)
  (l22:LF K f22 "_law_number" "_law_number" zDD .none oc22 od22 kV22 dc22 pm22 an22 cd22 ct22 sl22)
  (c22:CF K cd22 "_law_number")
  (k22:KF K f22)
  (a23:GA K "_law_whole" f23)
  (l23:LF K f23 "_law_whole" "_law_whole" zCc .none oc23 od23 kV23 dc23 pm23 an23 cd23 ct23 sl23)
  (c23:CF K cd23 "_law_whole")
  (k23:KF K f23)
  (a24:GA K "_law_wholes" f24)
  (l24:LF K f24 "_law_wholes" "_law_wholes" zBq .none oc24 od24 kV24 dc24 pm24 an24 cd24 ct24 sl24)
  (c24:CF K cd24 "_law_wholes")
  (k24:KF K f24)
  (a25:GA K "_law_drawn" f25)
  (l25:LF K f25 "_law_drawn" "_law_drawn" zDL .none oc25 od25 kV25 dc25 pm25 an25 cd25 ct25 sl25)
  (c25:CF K cd25 "_law_drawn")
  (k25:KF K f25)
  (a26:GA K "_law_rows" f26)
  (l26:LF K f26 "_law_rows" "_law_rows" zEo .none oc26 od26 kV26 dc26 pm26 an26 cd26 ct26 sl26)
  (c26:CF K cd26 "_law_rows")
  (k26:KF K f26)
  (a27:GA K "_law_shape" f27)
  (l27:LF K f27 "_law_shape" "_law_shape" zDT .none oc27 od27 kV27 dc27 pm27 an27 cd27 ct27 sl27)
  (c27:CF K cd27 "_law_shape")
  (k27:KF K f27)
  (a28:GA K "_law_changed" f28)
  (l28:LF K f28 "_law_changed" "_law_changed" zBx .none oc28 od28 kV28 dc28 pm28 an28 cd28 ct28 sl28)
  (c28:CF K cd28 "_law_changed")
  (k28:KF K f28)
  (a29:GA K "_law_comes" f29)
  (l29:LF K f29 "_law_comes" "_law_comes" zDY .none oc29 od29 kV29 dc29 pm29 an29 cd29 ct29 sl29)
  (c29:CF K cd29 "_law_comes")
  (k29:KF K f29)
  (a30:GA K "law" f30)
  (l30:LF K f30 "law" "law" zEP .none oc30 od30 kV30 dc30 pm30 an30 cd30 ct30 sl30)
  (c30:CF K cd30 "law")
  (k30:KF K f30)
  (mCS:GA K "Step" CS)
  (pgCS:PySem.W.plainGet K CS Str.empty=true)
  (hdCS:PySem.W.hasDictIn K CS=true)
  (poCS:PySem.W.plainOver K CS=true)
  (saCS:PySem.W.findIn K (.ref CS) "__setattr__" =some (some (.builtin "object.__setattr__")))
  (mkCS:PySem.W.makesIn K CS=true)
  (kcCS:PySem.W.keepIn K (.ref CS)=true)
  (nCS_place:PySem.W.findIn K (.ref CS) "place" =some none)
  (nCS_vector:PySem.W.findIn K (.ref CS) "vector" =some none)
  (mCP:GA K "Spent" CP)
  (pgCP:PySem.W.plainGet K CP Str.empty=true)
  (hdCP:PySem.W.hasDictIn K CP=true)
  (poCP:PySem.W.plainOver K CP=true)
  (saCP:PySem.W.findIn K (.ref CP) "__setattr__" =some (some (.builtin "object.__setattr__")))
  (mkCP:PySem.W.makesIn K CP=true)
  (kcCP:PySem.W.keepIn K (.ref CP)=true)
  (nCP_number:PySem.W.findIn K (.ref CP) "number" =some none)
  (nCP_vector:PySem.W.findIn K (.ref CP) "vector" =some none)
  (nCP_reach:PySem.W.findIn K (.ref CP) "reach" =some none)
  (mCL:GA K "Solution" CL)
  (pgCL:PySem.W.plainGet K CL Str.empty=true)
  (hdCL:PySem.W.hasDictIn K CL=true)
  (poCL:PySem.W.plainOver K CL=true)
  (saCL:PySem.W.findIn K (.ref CL) "__setattr__" =some (some (.builtin "object.__setattr__")))
  (mkCL:PySem.W.makesIn K CL=true)
  (kcCL:PySem.W.keepIn K (.ref CL)=true)
  (nCL_unknowns:PySem.W.findIn K (.ref CL) "unknowns" =some none)
  (nCL_steps:PySem.W.findIn K (.ref CL) "steps" =some none)
  (nCL_fixed:PySem.W.findIn K (.ref CL) "fixed" =some none)
  (nCL_spent:PySem.W.findIn K (.ref CL) "spent" =some none)
  (atS:PySem.W.findIn K (.ref CS) "__init__" =some (some (.ref ftS)))
  (itS:PySem.W.isFn K (.ref ftS)=true)
  (ltS:LF K ftS "__init__" "Step.__init__" (zy (top 1) 0) .none octS odtS kVtS dctS pmtS antS cdtS cttS sltS)
  (ctS:CF K cdtS "Step.__init__")
  (ktS:KF K ftS)
  (atP:PySem.W.findIn K (.ref CP) "__init__" =some (some (.ref ftP)))
  (itP:PySem.W.isFn K (.ref ftP)=true)
  (ltP:LF K ftP "__init__" "Spent.__init__" (zy (top 20) 0) .none octP odtP kVtP dctP pmtP antP cdtP cttP sltP)
  (ctP:CF K cdtP "Spent.__init__")
  (ktP:KF K ftP)
  (atI:PySem.W.findIn K (.ref CL) "__init__" =some (some (.ref ftI)))
  (itI:PySem.W.isFn K (.ref ftI)=true)
  (ltI:LF K ftI "__init__" "Solution.__init__" (zy (top 21) 0) .none octI odtI kVtI dctI pmtI antI cdtI cttI sltI)
  (ctI:CF K cdtI "Solution.__init__")
  (ktI:KF K ftI)
  (atT:PySem.W.findIn K (.ref CL) "take_in" =some (some (.ref ftT)))
  (itT:PySem.W.isFn K (.ref ftT)=true)
  (ltT:LF K ftT "take_in" "Solution.take_in" (zy (top 21) 1) .none octT odtT kVtT dctT pmtT antT cdtT cttT sltT)
  (ctT:CF K cdtT "Solution.take_in")
  (ktT:KF K ftT)
  (atW:PySem.W.findIn K (.ref CL) "rows_told" =some (some (.ref ftW)))
  (itW:PySem.W.isFn K (.ref ftW)=true)
  (ltW:LF K ftW "rows_told" "Solution.rows_told" (zy (top 21) 2) .none octW odtW kVtW dctW pmtW antW cdtW cttW sltW)
  (ctW:CF K cdtW "Solution.rows_told")
  (ktW:KF K ftW)
  (zisi:PySem.W.nsIn K mainGlobals "isinstance" =some none)
  (zint:PySem.W.nsIn K mainGlobals "int" =some none)
  (zbool:PySem.W.nsIn K mainGlobals "bool" =some none)
  (ztuple:PySem.W.nsIn K mainGlobals "tuple" =some none)
  (zlen:PySem.W.nsIn K mainGlobals "len" =some none)
  (zrange:PySem.W.nsIn K mainGlobals "range" =some none)
  (zstr:PySem.W.nsIn K mainGlobals "str" =some none)
  (zabs:PySem.W.nsIn K mainGlobals "abs" =some none)
  (zlist:PySem.W.nsIn K mainGlobals "list" =some none)
  (zall:PySem.W.nsIn K mainGlobals "all" =some none)
  (zany:PySem.W.nsIn K mainGlobals "any" =some none)
  (zsum:PySem.W.nsIn K mainGlobals "sum" =some none)
  (zzip:PySem.W.nsIn K mainGlobals "zip" =some none)
  (zreversed:PySem.W.nsIn K mainGlobals "reversed" =some none)
  (zenumerate:PySem.W.nsIn K mainGlobals "enumerate" =some none)
  (zmax:PySem.W.nsIn K mainGlobals "max" =some none):
  ∃fd:FuncData,(∀(s:Shared) (v:Value),BindsTo s fd ⟨[v],[]⟩ [("_law_script",v)])/\ ∀base:Heap,K.In base->base.Ns mainGlobals mg->FnOk l.prog w K mg base CX0 40 fa fd ["_law_script"] (zFv K):=by
 have e:=hfa.symm.trans (zOg X G a30);cases e;have B:Bn mg:=⟨zPG X G zisi,zPG X G zint,zPG X G zbool,zPG X G ztuple,zPG X G zlen,zPG X G zrange,zPG X G zstr,zPG X G zabs,zPG X G zlist,zPG X G zall,zPG X G zany,zPG X G zsum,zPG X G zzip,zPG X G zreversed,zPG X G zenumerate,zPG X G zmax⟩;have TCS:SC K CS:=⟨⟨pgCS,hdCS,poCS,saCS⟩,nCS_place,nCS_vector⟩;have MKCS:Mk K CS ftS:=⟨mkCS,atS,itS,kcCS⟩;have TCP:PC K CP:=⟨⟨pgCP,hdCP,poCP,saCP⟩,nCP_number,nCP_vector,nCP_reach⟩;have MKCP:Mk K CP ftP:=⟨mkCP,atP,itP,kcCP⟩;have TCL:LC K CL:=⟨⟨pgCL,hdCL,poCL,saCL⟩,nCL_unknowns,nCL_steps,nCL_fixed,nCL_spent⟩;have MKCL:Mk K CL ftI:=⟨mkCL,atI,itI,kcCL⟩;have FtS:=zi (st:=zy (top 1) 0) ltS ctS ktS;have BtS:=FtS.binds (ps:= ["self","place","vector"]) fun _ _ _ _ _ _ us hl=>by
  obtain ⟨v0,v1,v2,rfl⟩:=zFE hl;rfl
 have FtP:=zi (st:=zy (top 20) 0) ltP ctP ktP;have BtP:=FtP.binds (ps:= ["self","number","vector","reach"]) fun _ _ _ _ _ _ us hl=>by
  obtain ⟨v0,v1,v2,v3,rfl⟩:=zDP hl;rfl
 have FtI:=zi (st:=zy (top 21) 0) ltI ctI ktI;have BtI:=FtI.binds (ps:= ["self","unknowns","steps","fixed"]) fun _ _ _ _ _ _ us hl=>by
  obtain ⟨v0,v1,v2,v3,rfl⟩:=zDP hl;rfl
 have FtT:=zi (st:=zy (top 21) 1) ltT ctT ktT;have BtT:=FtT.binds (ps:= ["self","number","equation"]) fun _ _ _ _ _ _ us hl=>by
  obtain ⟨v0,v1,v2,rfl⟩:=zFE hl;rfl
 have QtT:Meth K CL "take_in" ftT:=⟨atT,itT,ktT⟩;have FtW:=zi (st:=zy (top 21) 2) ltW ctW ktW;have BtW:=FtW.binds (ps:= ["self"]) fun _ _ _ _ _ _ us hl=>by
  obtain ⟨v0,rfl⟩:=zFM hl;rfl
 have QtW:Meth K CL "rows_told" ftW:=⟨atW,itW,ktW⟩;have F0:=zi (st:=zFD) l0 c0 k0;have B0:=F0.binds (ps:= ["above","below"]) fun _ _ _ _ _ _ us hl=>by
  obtain ⟨v0,v1,rfl⟩:=zAS hl;rfl
 have M0:=zOg X G a0;have F1:=zi (st:=zFC) l1 c1 k1;have B1:=F1.binds (ps:= ["place","length"]) fun _ _ _ _ _ _ us hl=>by
  obtain ⟨v0,v1,rfl⟩:=zAS hl;rfl
 have M1:=zOg X G a1;have F2:=zi (st:=zBI) l2 c2 k2;have B2:=F2.binds (ps:= ["factor","one","other_factor","other"]) fun _ _ _ _ _ _ us hl=>by
  obtain ⟨v0,v1,v2,v3,rfl⟩:=zDP hl;rfl
 have M2:=zOg X G a2;have F3:=zi (st:=zCj) l3 c3 k3;have B3:=F3.binds (ps:= ["vector"]) fun _ _ _ _ _ _ us hl=>by
  obtain ⟨v0,rfl⟩:=zFM hl;rfl
 have M3:=zOg X G a3;have F4:=zi (st:=zBu) l4 c4 k4;have B4:=F4.binds (ps:= ["vector","marks"]) fun _ _ _ _ _ _ us hl=>by
  obtain ⟨v0,v1,rfl⟩:=zAS hl;rfl
 have M4:=zOg X G a4;have F5:=zi (st:=zEM) l5 c5 k5;have B5:=F5.binds (ps:= ["one","other"]) fun _ _ _ _ _ _ us hl=>by
  obtain ⟨v0,v1,rfl⟩:=zAS hl;rfl
 have M5:=zOg X G a5;have F6:=zi (st:=zDn) l6 c6 k6;have B6:=F6.binds (ps:= ["vectors","count"]) fun _ _ _ _ _ _ us hl=>by
  obtain ⟨v0,v1,rfl⟩:=zAS hl;rfl
 have M6:=zOg X G a6;have F7:=zi (st:=zBY) l7 c7 k7;have B7:=F7.binds (ps:= ["vector","steps"]) fun _ _ _ _ _ _ us hl=>by
  obtain ⟨v0,v1,rfl⟩:=zAS hl;rfl
 have M7:=zOg X G a7;have F8:=zi (st:=zDe) l8 c8 k8;have B8:=F8.binds (ps:= ["steps","marks"]) fun _ _ _ _ _ _ us hl=>by
  obtain ⟨v0,v1,rfl⟩:=zAS hl;rfl
 have M8:=zOg X G a8;have F9:=zi (st:=zDJ) l9 c9 k9;have B9:=F9.binds (ps:= ["vector"]) fun _ _ _ _ _ _ us hl=>by
  obtain ⟨v0,rfl⟩:=zFM hl;rfl
 have M9:=zOg X G a9;have F10:=zi (st:=zEa) l10 c10 k10;have B10:=F10.binds (ps:= ["steps"]) fun _ _ _ _ _ _ us hl=>by
  obtain ⟨v0,rfl⟩:=zFM hl;rfl
 have M10:=zOg X G a10;have F11:=zi (st:=zCe) l11 c11 k11;have B11:=F11.binds (ps:= ["steps","vector"]) fun _ _ _ _ _ _ us hl=>by
  obtain ⟨v0,v1,rfl⟩:=zAS hl;rfl
 have M11:=zOg X G a11;have F12:=zi (st:=zCm) l12 c12 k12;have B12:=F12.binds (ps:= ["free","names","rows"]) fun _ _ _ _ _ _ us hl=>by
  obtain ⟨v0,v1,v2,rfl⟩:=zFE hl;rfl
 have M12:=zOg X G a12;have F13:=zi (st:=zCO) l13 c13 k13;have B13:=F13.binds (ps:= ["number","modulus"]) fun _ _ _ _ _ _ us hl=>by
  obtain ⟨v0,v1,rfl⟩:=zAS hl;rfl
 have M13:=zOg X G a13;have F14:=zi (st:=zDI) l14 c14 k14;have B14:=F14.binds (ps:= ["vector","modulus"]) fun _ _ _ _ _ _ us hl=>by
  obtain ⟨v0,v1,rfl⟩:=zAS hl;rfl
 have M14:=zOg X G a14;have F15:=zi (st:=zEe) l15 c15 k15;have B15:=F15.binds (ps:= ["unknowns","names"]) fun _ _ _ _ _ _ us hl=>by
  obtain ⟨v0,v1,rfl⟩:=zAS hl;rfl
 have M15:=zOg X G a15;have F16:=zi (st:=zCZ) l16 c16 k16;have B16:=F16.binds (ps:= ["solution","equations","number","reach"]) fun _ _ _ _ _ _ us hl=>by
  obtain ⟨v0,v1,v2,v3,rfl⟩:=zDP hl;rfl
 have M16:=zOg X G a16;have F17:=zi (st:=zEj) l17 c17 k17;have B17:=F17.binds (ps:= ["number","modulus"]) fun _ _ _ _ _ _ us hl=>by
  obtain ⟨v0,v1,rfl⟩:=zAS hl;rfl
 have M17:=zOg X G a17;have F18:=zi (st:=zCb) l18 c18 k18;have B18:=F18.binds (ps:= ["factors","modulus"]) fun _ _ _ _ _ _ us hl=>by
  obtain ⟨v0,v1,rfl⟩:=zAS hl;rfl
 have M18:=zOg X G a18;have F19:=zi (st:=zGC) l19 c19 k19;have B19:=F19.binds (ps:= ["unknowns","names","equations"]) fun _ _ _ _ _ _ us hl=>by
  obtain ⟨v0,v1,v2,rfl⟩:=zFE hl;rfl
 have M19:=zOg X G a19;have F20:=zi (st:=zGl) l20 c20 k20;have B20:=F20.binds (ps:= ["rows","free","names","wanted"]) fun _ _ _ _ _ _ us hl=>by
  obtain ⟨v0,v1,v2,v3,rfl⟩:=zDP hl;rfl
 have M20:=zOg X G a20;have F21:=zi (st:=zGw) l21 c21 k21;have B21:=F21.binds (ps:= ["_law_number_here","_law_k"]) fun _ _ _ _ _ _ us hl=>by
  obtain ⟨v0,v1,rfl⟩:=zAS hl;rfl
 have M21:=zOg X G a21;have F22:=zi (st:=zDD) l22 c22 k22;have B22:=F22.binds (ps:= ["_law_script","_law_k"]) fun _ _ _ _ _ _ us hl=>by
  obtain ⟨v0,v1,rfl⟩:=zAS hl;rfl
 have M22:=zOg X G a22;have F23:=zi (st:=zCc) l23 c23 k23;have B23:=F23.binds (ps:= ["_law_found"]) fun _ _ _ _ _ _ us hl=>by
  obtain ⟨v0,rfl⟩:=zFM hl;rfl
 have M23:=zOg X G a23;have F24:=zi (st:=zBq) l24 c24 k24;have B24:=F24.binds (ps:= ["_law_found","_law_size"]) fun _ _ _ _ _ _ us hl=>by
  obtain ⟨v0,v1,rfl⟩:=zAS hl;rfl
 have M24:=zOg X G a24;have F25:=zi (st:=zDL) l25 c25 k25;have B25:=F25.binds (ps:= ["_law_script","_law_spot","_law_size","_law_most"]) fun _ _ _ _ _ _ us hl=>by
  obtain ⟨v0,v1,v2,v3,rfl⟩:=zDP hl;rfl
 have M25:=zOg X G a25;have F26:=zi (st:=zEo) l26 c26 k26;have B26:=F26.binds (ps:= ["_law_script","_law_spot","_law_free","_law_names","_law_many"]) fun _ _ _ _ _ _ us hl=>by
  obtain ⟨v0,v1,v2,v3,v4,rfl⟩:=zNZ hl;rfl
 have M26:=zOg X G a26;have F27:=zi (st:=zDT) l27 c27 k27;have B27:=F27.binds (ps:= ["_law_free","_law_names","_law_rows_here"]) fun _ _ _ _ _ _ us hl=>by
  obtain ⟨v0,v1,v2,rfl⟩:=zFE hl;rfl
 have M27:=zOg X G a27;have F28:=zi (st:=zBx) l28 c28 k28;have B28:=F28.binds (ps:= ["_law_script","_law_free","_law_names","_law_rows_here"]) fun _ _ _ _ _ _ us hl=>by
  obtain ⟨v0,v1,v2,v3,rfl⟩:=zDP hl;rfl
 have M28:=zOg X G a28;have F29:=zi (st:=zDY) l29 c29 k29;have B29:=F29.binds (ps:= ["_law_free","_law_names","_law_rows_here","_law_other","_law_wanted"]) fun _ _ _ _ _ _ us hl=>by
  obtain ⟨v0,v1,v2,v3,v4,rfl⟩:=zNZ hl;rfl
 have M29:=zOg X G a29;have F30:=zi (st:=zEP) l30 c30 k30;refine ⟨PySem.W.fnOf "law" "law" (zBk zEP) (zBS zEP) (zI zEP) .none kV30 dc30 pm30 an30 cd30 ct30,fun s v=> .of_eq rfl,fun base _ _=>?_⟩;have gDiv:FnOk l.prog w K mg base CX0 1 f0 _ ["above","below"] zFr:=zNC F0;have gOne:FnOk l.prog w K mg base CX0 1 f1 _ ["place","length"] zFu:=zNY F1 B;have gMx:FnOk l.prog w K mg base CX0 1 f2 _ ["factor","one","other_factor","other"] zBP:=zEK F2 B;have gMk:FnOk l.prog w K mg base CX0 1 f3 _ ["vector"] zDo:=zJe F3 B;have gRe:FnOk l.prog w K mg base CX0 1 f4 _ ["vector","marks"] zCl:=zGa F4 B;have gLe:FnOk l.prog w K mg base CX0 34 f7 _ ["vector","steps"] (zCJ CS):=zHD F7 B ht TCS F2 B2 M2;have gRo:FnOk l.prog w K mg base CX0 1 f6 _ ["vectors","count"] zEn:=zLS F6 B;have gSI:FnOk l.prog w K mg base CX0 1 ftS _ ["self","place","vector"] (zBQ CS):=zGO FtS TCS;have gPa:FnOk l.prog w K mg base CX0 35 f8 _ ["steps","marks"] (zGH CS):=zLT F8 B ht TCS F4 B4 M4 F2 B2 M2 F5 B5 M5 F7 B7 M7 FtS BtS MKCS (zOg X G mCS);have gLf:FnOk l.prog w K mg base CX0 1 f13 _ ["number","modulus"] zCk:=zHp F13;have gLs:FnOk l.prog w K mg base CX0 2 f14 _ ["vector","modulus"] zFB:=zJv F14 F13 B13 M13;have gPI:FnOk l.prog w K mg base CX0 1 ftP _ ["self","number","vector","reach"] (zES CP):=zJF FtP TCP;have gLI:FnOk l.prog w K mg base CX0 1 ftI _ ["self","unknowns","steps","fixed"] (zGr CL):=zLb FtI TCL;have gTk:FnOk l.prog w K mg base CX0 36 ftT _ ["self","number","equation"] (zGv CS CP CL):=zLW FtT B ht TCL TCP F3 B3 M3 gMk F8 B8 M8 gPa F4 B4 M4 gRe F13 B13 M13 gLf F7 B7 M7 gLe F2 B2 M2 gMx FtP BtP MKCP (zOg X G mCP) gPI;have gTo:FnOk l.prog w K mg base CX0 2 ftW _ ["self"] (zGI CS CP CL):=zMN FtW B TCL TCS F6 B6 M6 gRo;have gOp:FnOk l.prog w K mg base CX0 3 f15 _ ["unknowns","names"] (zGf CS CP CL):=zLa F15 B TCL TCS F1 B1 M1 gOne BtS MKCS (zOg X G mCS) gSI BtI MKCL (zOg X G mCL) gLI;have gNe:FnOk l.prog w K mg base CX0 2 f17 _ ["number","modulus"] zGS:=zLy F17 F13 B13 M13 gLf;have gSh:FnOk l.prog w K mg base CX0 34 f18 _ ["factors","modulus"] zFZ:=zKL F18 B ht F0 B0 M0 gDiv F17 B17 M17 gNe;have gCl:FnOk l.prog w K mg base CX0 34 f16 _ ["solution","equations","number","reach"] (zEx CS CP CL):=zJh F16 B ht TCL TCP F1 B1 M1 gOne F13 B13 M13 gLf F4 B4 M4 gRe F3 B3 M3 gMk F0 B0 M0 gDiv F14 B14 M14 gLs F2 B2 M2 gMx;have gSo:FnOk l.prog w K mg base CX0 37 f19 _ ["unknowns","names","equations"] zIA:=zMs F19 B TCL F15 B15 M15 gOp F16 B16 M16 gCl F18 B18 M18 gSh QtT BtT gTk QtW BtW gTo;have gMe:FnOk l.prog w K mg base CX0 38 f20 _ ["rows","free","names","wanted"] zIX:=zMh F20 B F19 B19 M19 gSo;have gNu:FnOk l.prog w K mg base CX0 2 f22 _ ["_law_script","_law_k"] (zDi K):=zNl F22 B F21 B21 M21;have gLW:FnOk l.prog w K mg base CX0 1 f23 _ ["_law_found"] zIE:=zNx F23 B;have gWs:FnOk l.prog w K mg base CX0 2 f24 _ ["_law_found","_law_size"] zET:=zMn F24 B F23 B23 M23 gLW;have gDr:FnOk l.prog w K mg base CX0 3 f25 _ ["_law_script","_law_spot","_law_size","_law_most"] (zKM K):=zNt F25 B F22 B22 M22 gNu;have gDv:FnOk l.prog w K mg base CX0 34 f5 _ ["one","other"] zFz:=zJM F5 ht;have gFi:FnOk l.prog w K mg base CX0 1 f9 _ ["vector"] zFA:=zJo F9 B;have gAL:FnOk l.prog w K mg base CX0 35 f10 _ ["steps"] (zGc CS):=zMQ F10 B TCS F7 B7 M7 gLe BtS MKCS (zOg X G mCS) gSI;have gW1:FnOk l.prog w K mg base CX0 36 f11 _ ["steps","vector"] (zFR CS):=zJt F11 B ht TCS F7 B7 M7 gLe F9 B9 M9 gFi F2 B2 M2 gMx F5 B5 M5 gDv F10 B10 M10 gAL BtS MKCS (zOg X G mCS) gSI;have gNo:FnOk l.prog w K mg base CX0 37 f12 _ ["free","names","rows"] (zEE CS):=zJR F12 B TCS F11 B11 M11 gW1 F7 B7 M7 gLe F6 B6 M6 gRo;have gLR:FnOk l.prog w K mg base CX0 4 f26 _ ["_law_script","_law_spot","_law_free","_law_names","_law_many"] (zKq K):=zOB F26 B F25 B25 M25 gDr F22 B22 M22 gNu;have gSh2:FnOk l.prog w K mg base CX0 1 f27 _ ["_law_free","_law_names","_law_rows_here"] zKB:=zOF F27 B;have gCo:FnOk l.prog w K mg base CX0 39 f29 _ ["_law_free","_law_names","_law_rows_here","_law_other","_law_wanted"] zJq:=zNz F29 B F20 B20 M20 gMe F24 B24 M24 gWs;have gCh:FnOk l.prog w K mg base CX0 3 f28 _ ["_law_script","_law_free","_law_names","_law_rows_here"] (zKF K):=zOJ F28 B F22 B22 M22 gNu;exact zMe F30 B F22 B22 M22 gNu F26 B26 M26 gLR F12 B12 M12 gNo F23 B23 M23 gLW F24 B24 M24 gWs F27 B27 M27 gSh2 F29 B29 M29 gCo F28 B28 M28 gCh
theorem zOU{l:PySem.W.OpenLaw}{q:Program}{loose:List Str}{XP:(Str->Option Value)->Heap->Prop}{YP:World->Heap->Prop}{d:DefRec}{K:Params->zPS}(hn:l.most=some 63)(hdf:d.params.defaults= [])(hI:importsNone q=true)
  (hY: ∀(w:World) (h:Heap),YP w h->(K w.params).In h)
  (F: ∀(w:World) (mg:Str->Option Value) (fa:Addr) (h:Heap),(K w.params).In h->h.Ns mainGlobals mg->mg d.name=some (.ref fa)->
   ∃fd:FuncData,(∀(s:Shared) (u:Value),BindsTo s fd ⟨[u],[]⟩ [("_law_script",u)])/\ ∀base:Heap,(K w.params).In base->base.Ns mainGlobals mg->FnOk l.prog w (K w.params) mg base CX0 40 fa fd ["_law_script"] (zFv (K w.params))):
  PySem.W.WalkO q loose XP YP l.row.toRowW d [] (fun f vs=>PySem.call f vs):=
 L2.zMG (n:=63) (k:=40) (x:= "_law_script") (CX:=fun _=>CX0) (sp:=fun w=>zFv (K w.params)) hn (by decide) hdf hI ⟨rfl,by decide,by decide,rfl⟩ hY F (fun _ _ a ns hl _ hS=>⟨a,ns,rfl,hS,hl,fun _=>rfl⟩) fun _ _ _ _ _ z=>z
end Fr
open PySem PySem.W PyProof.Rows
def PySem.W.Fast.tw14952215504718124017:Nat:=0
def PySem.W.Fast.tw4854105632773177187:Nat:=0
def PySem.W.Fast.tw13579197758785083916:Nat:=0
def PySem.W.Fast.tw2514028410030879266:Nat:=0
def PySem.W.Fast.tw13707673134126971746:Nat:=0
def PySem.W.Fast.tw9647996488707003145:Nat:=0
def PySem.W.Fast.tw184535534955636674:Nat:=0
def PySem.W.Fast.tw2767458988131382688:Nat:=0
def PySem.W.Fast.tw15788415305129334109:Nat:=0
def PySem.W.Fast.tw313308255894077381:Nat:=0
def PySem.W.Fast.tw15077678257232161928:Nat:=0
def PySem.W.Fast.tw12908544918767477884:Nat:=0
def PySem.W.Fast.tw17008284573389289626:Nat:=0
def PySem.W.Fast.tw6373106894877725439:Nat:=0
def PySem.W.Fast.tw7216111483520740104:Nat:=0
def PySem.W.Fast.tw5657222676796758497:Nat:=0
def PySem.W.Fast.tw7337794611666981724:Nat:=0
def PySem.W.Fast.tw16552287050292110243:Nat:=0
def PySem.W.Fast.tw12374393610023209948:Nat:=0
def PySem.W.Fast.tw8710449195390418725:Nat:=0
def PySem.W.Fast.tw4614609383178177887:Nat:=0
def PySem.W.Fast.tw16247695420696223612:Nat:=0
def PySem.W.Fast.tw2799243080328431838:Nat:=0
def PySem.W.Fast.tw5232002640748628001:Nat:=0
def PySem.W.Fast.tw7140161379484128205:Nat:=0
def PySem.W.Fast.tw11836273878613906414:Nat:=0
def PySem.W.Fast.tw1446069808000168468:Nat:=0
def PySem.W.Fast.tw7744823846286148451:Nat:=0
def PySem.W.Fast.tw10748127344064373951:Nat:=0
def PySem.W.Fast.tw16190449531433039996:Nat:=0
def PySem.W.Fast.tw12221546786452061302:Nat:=0
def PySem.W.Fast.tw11892213602171191899:Nat:=0
def PySem.W.Fast.tw9077361359430650202:Nat:=0
def PySem.W.Fast.tw5170016409258248485:Nat:=0
def PySem.W.Fast.tw1315094123405266902:Nat:=0
def PySem.W.Fast.tw17993762724983370786:Nat:=0
def PySem.W.Fast.tw10638515272703569419:Nat:=0
def PySem.W.Fast.tw9414456373989715625:Nat:=0
def PySem.W.Fast.tw2759222651140122455:Nat:=0
def PySem.W.Fast.tw13825539113603844193:Nat:=0
def PySem.W.Fast.tw1912405728257086067:Nat:=0
def PySem.W.Fast.tw14995292226721824145:Nat:=0
def PySem.W.Fast.tw15424129491785125565:Nat:=0
def PySem.W.Fast.tw16326583753829611645:Nat:=0
def PySem.W.Fast.tw7035672174829757192:Nat:=0
def PySem.W.Fast.tw16222571910436292832:Nat:=0
def PySem.W.Fast.tw15944710074225356395:Nat:=0
def PySem.W.Fast.tw1182410539274272366:Nat:=0
def PySem.W.Fast.tw9487409418529942603:Nat:=0
def PySem.W.Fast.tw3321354325765350728:Nat:=0
def PySem.W.Fast.tw12710261359293923440:Nat:=0
def PySem.W.Fast.tw9219783454616682357:Nat:=0
def PySem.W.Fast.tw10825058856039479242:Nat:=0
def PySem.W.Fast.tw3402657253749609759:Nat:=0
def PySem.W.Fast.tw3926749295028325229:Nat:=0
def PySem.W.Fast.tw15291206691055000898:Nat:=0
def PySem.W.Fast.tw6646530714034275665:Nat:=0
def PySem.W.Fast.tw17068694260236168709:Nat:=0
def PySem.W.Fast.tw355804079751824894:Nat:=0
def PySem.W.Fast.tw10196551437934592821:Nat:=0
def PySem.W.Fast.tw12087322486365587202:Nat:=0
def PySem.W.Fast.tw8650920102510032493:Nat:=0
def PySem.W.Fast.tw9564000503099015292:Nat:=0
def PySem.W.Fast.tw3040660226524095101:Nat:=0
def PySem.W.Fast.tw12820217476200981469:Nat:=0
def PySem.W.Fast.tw8082663915417646680:Nat:=0
def PySem.W.Fast.tw6902549916278917634:Nat:=0
def PySem.W.Fast.tw15274900024809364954:Nat:=0
def PySem.W.Fast.tw12754037252038984452:Nat:=0
def PySem.W.Fast.tw961538815047759250:Nat:=0
def PySem.W.Fast.tw4713609058216758104:Nat:=0
def PySem.W.Fast.tw11011227597123337467:Nat:=0
def PySem.W.Fast.tw10103511943898122889:Nat:=0
def PySem.W.Fast.tw1726780761269077061:Nat:=0
def PySem.W.Fast.tw10558931989810893348:Nat:=0
def PySem.W.Fast.tw15288108177303727290:Nat:=0
def PySem.W.Fast.tw12073317035267629035:Nat:=0
def PySem.W.Fast.tw13005061340008013929:Nat:=0
def PySem.W.Fast.tw1139485182858254146:Nat:=0
def PySem.W.Fast.tw1397786721324725436:Nat:=0
def PySem.W.Fast.tw4204254947427620905:Nat:=0
def PySem.W.Fast.tw4296875475897641334:Nat:=0
def PySem.W.Fast.tw12617870860141731646:Nat:=0
def PySem.W.Fast.tw17211581042736333435:Nat:=0
def PySem.W.Fast.tw12213307337796031768:Nat:=0
def PySem.W.Fast.tw2143535760729514946:Nat:=0
def PySem.W.Fast.tw15265858906204861756:Nat:=0
def PySem.W.Fast.tw9599590799669794820:Nat:=0
def PySem.W.Fast.tw5297126081345082758:Nat:=0
def PySem.W.Fast.tw17186653732919509717:Nat:=0
def PySem.W.Fast.tw18296002078119041632:Nat:=0
def PySem.W.Fast.tw7646002466928725960:Nat:=0
def PySem.W.Fast.tw17269607953793173347:Nat:=0
def PySem.W.Fast.tw11473609474162774956:Nat:=0
def PySem.W.Fast.tw2083720300085066292:Nat:=0
def PySem.W.Fast.tw11619531147787666067:Nat:=0
def PySem.W.Fast.tw2030997346344155722:Nat:=0
def PySem.W.Fast.tw17571590209031676957:Nat:=0
def PySem.W.Fast.tw11566883083439016291:Nat:=0
def PySem.W.Fast.tw477613026632803361:Nat:=0
def PySem.W.Fast.tw4314116908292979015:Nat:=0
def PySem.W.Fast.tw768402833877176994:Nat:=0
def PySem.W.Fast.tw739496481159438804:Nat:=0
def PySem.W.Fast.tw12857876380887213224:Nat:=0
def PySem.W.Fast.tw8006857862121964065:Nat:=0
def PySem.W.Fast.tw16167873094529359531:Nat:=0
def PySem.W.Fast.tw17677770982203048423:Nat:=0
def PySem.W.Fast.tw16984288749610429401:Nat:=0
def PySem.W.Fast.tw16640904490204801988:Nat:=0
def PySem.W.Fast.tw5015849596516185477:Nat:=0
def PySem.W.Fast.tw18130697007574678081:Nat:=0
def PySem.W.Fast.tw16736517546316205689:Nat:=0
def PySem.W.Fast.tw12804375928035873181:Nat:=0
def PySem.W.Fast.tw817471134550906878:Nat:=0
def PySem.W.Fast.tw14467870656134876260:Nat:=0
def PySem.W.Fast.tw768115643192526727:Nat:=0
def PySem.W.Fast.tw9752506187075128833:Nat:=0
def PySem.W.Fast.tw9621028769228553928:Nat:=0
def PySem.W.Fast.tw18102359928554180047:Nat:=0
def PySem.W.Fast.tw4176173290237838759:Nat:=0
set_option maxRecDepth 100000 in
set_option maxHeartbeats 0 in
theorem PySem.Challenge.cw_measurewise_k10_normal_form_holds : PySem.Challenge.rw_measurewise_k10_normal_form.Holds := by
 w_on;o_law;k_head;(case hw=>w_witness2)
 k_fill
 refine Fr.zOU (l:=PySem.Challenge.rw_measurewise_k10_normal_form) rfl rfl ?hI (fun w h Y=>PySem.W.kIn_of Y) ?F
 case hI=>first | rfl | kernel_rfl | decide+kernel
 case F=>
  intro w mg fa h KX G hmg;apply Fr.zNX rfl KX G hmg
  all_goals first |(unfold Fr.LF;k_is)|(unfold Fr.GA;k_is)|(unfold Fr.CF;k_is)|(unfold Fr.KF;k_is)| k_is | kernel_rfl
