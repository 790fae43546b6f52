import PyProof.Rows.All
import Wide.All
import OpenK.AllK
import Wide.FinOn
import Lean
import PyProof.EqAt
import PyProof.EqKinds
import PyProof.TupleCall
import OpenK.KMore
import PyProof.ExcInit
import PyProof.ExcClass2
import PyProof.InstStoreFacts
import PyProof.ExcArgsOwn
import PyProof.ExcAttrAll.ValueError
import KE.KRevIter
import PyProof.Rows.ZipGen
import PyProof.ListMulRoad
import PyProof.AutoListH
import KE.IntBitsLaws
import PySem.Challenge.RW_measurewise_k11_whole_open_and_put_in
set_option Elab.async false
set_option linter.all false
set_option maxRecDepth 100000
set_option maxHeartbeats 4000000
section
open PySem PySem.Spec PyProof PyProof.Rows
def zPV:=@List.getElem?_eq_getElem
def zPW:=@wpAny_bind
def zPX:=@Heap.get?_push_of_some
def zPY:=@PySem.W.mg_of
def zPZ:=@Nat.le_refl
def zPa:=@List.getElem?_map
def zPb:=@wpAny_pure
def zPc:=@List.length_map
def zPd:=@Nat.ne_of_lt
def zPe:=@Nat.lt_of_lt_of_le
def zPf:=@Heap.lt_size
def zPg:=@sizeLine_eq
def zPh:=@Int.emod_lt_of_pos
def zPi:=@Bool.false_ne_true
def zPj:=@Nat.le_trans
def zPk:=@Nat.zero_le
def zPl:=@List.mem_append_right
def zPm:=@Nat.lt_of_le_of_lt
def zPn:=@Int.emod_nonneg
def zPo:=@Heap.get?_push_size
def zPp:=@List.size_toArray
def zPq:=@wpAny_mono
def zPr:=@List.map_append
def zPs:=@List.take_add_one
def zPt:=@decide_eq_true
def zPu:=@List.take_length
def zPv:=@decide_eq_false
def zPw:=@List.append_nil
def zPx:=@List.length_append
def zPy:=@PySem.W.mg_none_of
def zPz:=@List.mem_of_getElem?
def zQA:=@List.getElem_mem
def zQB:=@PySem.W.hideAll_get
def zQC:=@List.mem_cons_of_mem
def zQD:=@Nat.le_of_lt
def zQE:=@Nat.ne_of_gt
def zQF:=@PySem.W.kia_one
def zQG:=@wpAny_truthy_bool
def zQH:=@wpAny_Call_Name_kw
def zQI:=@codeAny_mono
def zQJ:=@PySem.W.of_hideAll
abbrev zQK:=@PySem.W.Frag
end
namespace L2
open PySem PySem.Spec PyProof.Rows
abbrev Key:=Sum Int Str
def zLO:Key->Value->Bool
 | .inl k,v=>Value.isInt k v
 | .inr x,v=>Value.isStrOf x v
def zPH(w:World):Key->Int
 | .inl k=>hashInt k
 | .inr x=>hashStr w x
theorem yW: ∀{k:Key} {v:Value},zLO k v=true->(∃i t,k=Sum.inl i/\v=Value.int i t)\/(∃x t,k=Sum.inr x/\v=Value.str x t)
 | .inl i,v,h=>by
  obtain ⟨t,e⟩:=Value.isInt_shape (k:=i) (v:=v) h;exact .inl ⟨i,t,rfl,e⟩
 | .inr x,v,h=>by
  obtain ⟨t,e⟩:=Value.isStrOf_shape (x:=x) (v:=v) h;exact .inr ⟨x,t,rfl,e⟩
theorem zNJ(a b:Int):decide ((Sum.inl a:Key)=Sum.inl b)=(a==b):=by
 by_cases e:a=b
 ·subst e;simp
 ·have h: ¬(Sum.inl a:Key)=Sum.inl b:=fun q=>e (Sum.inl.inj q);rw [zPv h];exact (beq_eq_false_iff_ne.mpr e).symm
theorem zNg(a b:Str):decide ((Sum.inr a:Key)=Sum.inr b)=decide (a=b):=by
 by_cases e:a=b
 ·subst e;simp
 ·have h: ¬(Sum.inr a:Key)=Sum.inr b:=fun q=>e (Sum.inr.inj q);rw [zPv h,zPv e]
theorem zMw(a:Int)(b:Str):decide ((Sum.inl a:Key)=Sum.inr b)=false:=zPv (fun q=>nomatch q)
theorem zOU(a:Str)(b:Int):decide ((Sum.inr a:Key)=Sum.inl b)=false:=zPv (fun q=>nomatch q)
def zHU(prog:Program)(w:World):PySem.KeyKind prog w Key where
 is:=zLO
 hash:=zPH w
 inj:=fun v a b ha hb=>by
  rcases yW ha with ⟨i,t,rfl,rfl⟩|⟨x,t,rfl,rfl⟩
  ·rcases yW hb with ⟨j,u,rfl,e⟩|⟨y,u,rfl,e⟩
   ·injection e with e1 _;rw [e1]
   ·exact nomatch e
  ·rcases yW hb with ⟨j,u,rfl,e⟩|⟨y,u,rfl,e⟩
   ·exact nomatch e
   ·injection e with e1 _;rw [e1]
 byValue:=fun k v h=>by
  rcases yW h with ⟨i,t,rfl,rfl⟩|⟨x,t,rfl,rfl⟩<;>rfl
 pyHash:=fun hv h=>by
  rcases yW hv with ⟨i,t,rfl,rfl⟩|⟨x,t,rfl,rfl⟩
  ·exact wpAny_pyHash_int h
  ·exact wpAny_pyHash_str h
 eqBool:=fun hu hv h=>by
  rcases yW hu with ⟨i,t,rfl,rfl⟩|⟨x,t,rfl,rfl⟩
  ·rcases yW hv with ⟨j,u,rfl,rfl⟩|⟨y,u,rfl,rfl⟩
   ·rw [zNJ] at h;exact wpAny_eqBool_int h
   ·rw [zMw] at h;exact SeqAt.EqAt.int_str i t y u _ _ _ _ h
  ·rcases yW hv with ⟨j,u,rfl,rfl⟩|⟨y,u,rfl,rfl⟩
   ·rw [zOU] at h;exact SeqAt.EqAt.str_int x t j u _ _ _ _ h
   ·rw [zNg] at h;exact wpAny_eqBool_str h
 «strs»:=fun k x t v h=>by
  rcases yW h with ⟨i,u,rfl,e⟩|⟨y,u,rfl,e⟩
  ·exact nomatch e
  ·injection e with e1 _;subst e1;cases v<;>rfl
inductive V where
 | non | bl (b:Bool)| int (i:Int)| str (x:Str)| byt (b:Array UInt8)| flt (b:UInt64)| ref (a:Addr)| ty (n:String)
 deriving DecidableEq
def zg:V->Value->Prop
 | .non,u=>u=Value.none
 | .bl b,u=>u=Value.bool b
 | .int i,u=> ∃t,u=Value.int i t
 | .str x,u=> ∃t,u=Value.str x t
 | .byt b,u=> ∃t,u=Value.bytes b t
 | .flt b,u=> ∃t,u=Value.float b t
 | .ref a,u=>u=Value.ref a
 | .ty n,u=>u=Value.type n
abbrev zQ:List V->List Value->Prop:=Paired zg
theorem zQ.length{xs:List V}{us:List Value}(r:zQ xs us):xs.length=us.length:=Paired.length r
theorem zQ.get: ∀{xs:List V} {us:List Value} {i:Nat} {x:V},zQ xs us->xs[i]?=some x-> ∃u,us[i]?=some u/\zg x u
 | _,_,_,_,.nil,e=>by simp at e
 | _,_,0,_,.cons r _,e=>by simp at e;subst e;exact ⟨_,rfl,r⟩
 | _,_,i+1,x,.cons _ t,e=>by
  obtain ⟨u,h1,h2⟩:=zQ.get (i:=i) (x:=x) t (by simpa using e);exact ⟨u,by simpa using h1,h2⟩
theorem zQ.set{x:V}{u:Value}(r:zg x u): ∀{xs:List V} {us:List Value} (i:Nat),zQ xs us->zQ (xs.set i x) (us.set i u)
 | _,_,_,.nil=> .nil
 | _,_,0,.cons _ t=> .cons r t
 | _,_,i+1,.cons q t=> .cons q (zQ.set r i t)
theorem zQ.append: ∀{xs ys:List V} {us ws:List Value},zQ xs us->zQ ys ws->zQ (xs++ys) (us++ws)
 | _,_,_,_,.nil,s=>s
 | _,_,_,_,.cons r t,s=> .cons r (zQ.append t s)
theorem zQ.take: ∀{xs:List V} {us:List Value} (n:Nat),zQ xs us->zQ (xs.take n) (us.take n)
 | _,_,0,_=> .nil
 | _,_,_+1,.nil=> .nil
 | _,_,n+1,.cons r t=> .cons r (zQ.take n t)
theorem zQ.drop: ∀{xs:List V} {us:List Value} (n:Nat),zQ xs us->zQ (xs.drop n) (us.drop n)
 | _,_,0,r=>r
 | _,_,_+1,.nil=> .nil
 | _,_,n+1,.cons _ t=>zQ.drop n t
def zCG:Option V->Option Value->Prop
 | some v,some u=>zg v u
 | none,none=>True
 | _,_=>False
def KV{κ:Type}:List (κ×V)->List (κ×Value)->Prop:=Paired fun (p:κ×V) (q:κ×Value)=>p.1=q.1/\zg p.2 q.2
def kV:Key->V
 | .inl i=> .int i
 | .inr x=> .str x
inductive HO where
 | lst (xs:List V)
 | tup (xs:List V)
 | dK (kvs:List (Key×V))| dT (kvs:List (List Key×V))
 | set (S:Int->Bool) (n:Nat)
 | ins (C dx:Addr) (fs:List (Str×V))
 | own (x:Addr)
 | xd (fs:List (Str×V))
 | met (f x:Addr)
 | rng (lo hi:Int)
 | frz (o:Obj) (u:HO)
 | tbl (ps:Array Value)
 | ext (φ:Heap->Prop)
abbrev Hp:=Addr->Option HO
def upd(H:Hp)(a:Addr)(o:HO):Hp:=fun b=>if b=a then some o else H b
theorem zB{H:Hp}{a:Addr}{o:HO}:upd H a o a=some o:=by unfold upd;rw [if_pos rfl]
theorem zH{H:Hp}{a b:Addr}{o:HO}(h:b≠a):upd H a o b=H b:=by unfold upd;rw [if_neg h]
theorem zy{H:Hp}{a:Addr}{o u:HO}:upd (upd H a o) a u=upd H a u:=by
 funext b;unfold upd;split<;>rfl
theorem yU{H:Hp}{a b:Addr}{o:HO}(h:H a=some o)(h':H b=none):a≠b:=by
 intro e;subst e;rw [h] at h';cases h'
def zEl(h:Heap)(a:Addr)(items:Array Value):Prop:= ∃o,h.get? a=some o/\o.cls= .type "tuple" /\(∃n,o.data= .seq items n)/\o.dict=none
theorem zEl.new(h:Heap)(items:Array Value):zEl (h.push {cls:= .type "tuple",data:= .seq items}) h.objs.size items:=⟨_,zPo _ rfl,rfl,⟨_,rfl⟩,rfl⟩
section
variable (P:Program)(w:World)
def yh(H:Hp)(h:Heap)(a:Addr):HO->Prop
 | .lst xs=>xs.length<=sizeLine/\ ∃(its:List Value) (n:Nat),zQ xs its/\h.get? a=some {cls:= .type "list",data:= .seq its.toArray n}
 | .tup xs=>xs.length<=sizeLine/\ ∃its:List Value,zQ xs its/\zEl h a its.toArray
 | .dK kvs=>kvs.length<=sizeLine/\(a==sysModules)=false/\ ∃vs,KV kvs vs/\h.DictOf (zHU P w) a vs
 | .dT kvs=>kvs.length<=sizeLine/\(a==sysModules)=false/\ ∃xs:List (List Key×Addr×Value),
   Paired (fun (p:List Key×V) (q:List Key×Addr×Value)=>p.1=q.1/\H q.2.1=some (.tup (p.1.map kV))/\zg p.2 q.2.2) kvs xs/\
   ∃o es ep,h.get? a=some o/\o.ExactDict/\o.data= .dict es ep/\es.toList=xs.map (entryOfKey (tupleKind (zHU P w)))/\(xs.map (·.1)).Nodup
 | .set S n=>h.SetOf (intKind P w) a S n
 | .ins C dx fs=>H dx=some (.own a)/\fs.length<=1000/\dx≠a/\h.get? a=some (PySem.W.instObj C dx)/\
   ∃mA,h.Ns1 dx mA/\(∀f,zCG (fs.lookup f) (mA f))/\PySem.Within mA (fs.map (·.1))
 | .own _=> ∃o,h.get? a=some o
 | .xd fs=> ∃mA,h.Ns1 a mA/\ ∀f,zCG (fs.lookup f) (mA f)
 | .rng lo hi=> ∃t u v,h.get? a=some {cls:= .type "range",data:= .fields #[.int lo t,.int hi u,.int 1 v]}
 | .frz o u=>h.get? a=some o/\yh H h a u
 | .tbl ps=>h.get? a=some {cls:= .none,data:= .fields ps}
 | .met f x=>h.get? a=some (PySem.W.methodObj (.ref f) (.ref x))
 | .ext φ=>φ h/\(∃o,h.get? a=some o)/\ ∀h1 h2:Heap,φ h1->(∀o,h1.get? a=some o->h2.get? a=some o)->φ h2
def HOk(H:Hp)(h:Heap):Prop:= ∀a o,H a=some o->yh P w H h a o
end
section
variable {P:Program}{w:World}{H H':Hp}{h h':Heap}{a:Addr}{o:HO}
theorem yh.lt(x:yh P w H h a o):a<h.objs.size:=by
 cases o with
 | lst xs=>obtain ⟨_,_,_,_,e⟩:=x;exact zPf e
 | tup xs=>obtain ⟨_,_,_,_,e,_⟩:=x;exact zPf e
 | dK kvs=>obtain ⟨_,_,_,_,o,_,_,e,_⟩:=x;exact zPf e
 | dT kvs=>obtain ⟨_,_,_,_,o,_,_,e,_⟩:=x;exact zPf e
 | set S n=>obtain ⟨o,_,_,_,e,_⟩:=x;exact zPf e
 | ins C dx fs=>obtain ⟨_,_,_,e,_⟩:=x;exact zPf e
 | own y=>obtain ⟨_,e⟩:=x;exact zPf e
 | xd fs=>obtain ⟨_,⟨_,_,_,e,_⟩,_⟩:=x;exact zPf e
 | rng lo hi=>obtain ⟨_,_,_,e⟩:=x;exact zPf e
 | frz ob u=>obtain ⟨e,_⟩:=x;exact zPf e
 | tbl ps=>exact zPf (show h.get? a=some _ from x)
 | met f y=>exact zPf (show h.get? a=some _ from x)
 | ext φ=>obtain ⟨_,⟨_,e⟩,_⟩:=x;exact zPf e
theorem Paired.mapP{α β:Type}{F G:α->β->Prop}: ∀{l₁:List α} {l₂:List β},Paired F l₁ l₂->(∀a b,F a b->G a b)->Paired G l₁ l₂
 | _,_,.nil,_=> .nil
 | _,_,.cons r t,f=> .cons (f _ _ r) (Paired.mapP t f)
theorem yh.stay(x:yh P w H h a o)(k: ∀b u,(b=a\/H b=some (.own a))->h.get? b=some u->h'.get? b=some u)
  (ho: ∀b,H b=some (.own a)->H' b=some (.own a)) (ht: ∀b xs,H b=some (.tup xs)->H' b=some (.tup xs)):yh P w H' h' a o:=by
 induction o with
 | lst xs=>obtain ⟨z,its,n,r,e⟩:=x;exact ⟨z,its,n,r,k _ _ (.inl rfl) e⟩
 | tup xs=>obtain ⟨z,its,r,ob,e,c⟩:=x;exact ⟨z,its,r,ob,k _ _ (.inl rfl) e,c⟩
 | dK kvs=>obtain ⟨z,y,vs,r,ob,es,ep,e,c⟩:=x;exact ⟨z,y,vs,r,ob,es,ep,k _ _ (.inl rfl) e,c⟩
 | dT kvs=>
  obtain ⟨z,y,xs,r,ob,es,ep,e,c⟩:=x;exact ⟨z,y,xs,Paired.mapP r fun p q z=>⟨z.1,ht _ _ z.2.1,z.2.2⟩,ob,es,ep,k _ _ (.inl rfl) e,c⟩
 | set S n=>obtain ⟨ob,es,ep,t,e,c⟩:=x;exact ⟨ob,es,ep,t,k _ _ (.inl rfl) e,c⟩
 | ins C dx fs=>
  obtain ⟨d,z,ne,e,mA,⟨od,es,ep,e2,c⟩,r⟩:=x;exact ⟨ho _ d,z,ne,k _ _ (.inl rfl) e,mA,⟨od,es,ep,k _ _ (.inr d) e2,c⟩,r⟩
 | own y=>obtain ⟨ob,e⟩:=x;exact ⟨ob,k _ _ (.inl rfl) e⟩
 | xd fs=>obtain ⟨mA,⟨od,es,ep,e,c⟩,r⟩:=x;exact ⟨mA,⟨od,es,ep,k _ _ (.inl rfl) e,c⟩,r⟩
 | rng lo hi=>obtain ⟨t,u,v,e⟩:=x;exact ⟨t,u,v,k _ _ (.inl rfl) e⟩
 | frz ob u ih=>obtain ⟨e,q⟩:=x;exact ⟨k _ _ (.inl rfl) e,ih q⟩
 | tbl ps=>
  have e:h.get? a=some {cls:= .none,data:= .fields ps}:=x;show h'.get? a=some {cls:= .none,data:= .fields ps};exact k a _ (.inl rfl) e
 | met f y=>
  have e:h.get? a=some (PySem.W.methodObj (.ref f) (.ref y)):=x;show h'.get? a=some (PySem.W.methodObj (.ref f) (.ref y));exact k a _ (.inl rfl) e
 | ext φ=>obtain ⟨p,⟨o,e⟩,st⟩:=x;exact ⟨st _ _ p fun o q=>k _ _ (.inl rfl) q,⟨o,k _ _ (.inl rfl) e⟩,st⟩
theorem HOk.lt(x:HOk P w H h)(e:H a=some o):a<h.objs.size:=(x a o e).lt
theorem HOk.fresh(x:HOk P w H h)(e:h.objs.size<=a):H a=none:=by
 cases q:H a with
 | none=>rfl
 | some u=>exact absurd (zPe (x.lt q) e) (Nat.lt_irrefl _)
theorem HOk.kept(x:HOk P w H h)(k: ∀b u,h.get? b=some u->h'.get? b=some u):HOk P w H h':=fun a o e=>
 (x a o e).stay (fun b u _ q=>k b u q) (fun _ q=>q) fun _ _ q=>q
theorem HOk.laid(x:HOk P w H h)(k: ∀b u,h.get? b=some u->h'.get? b=some u)(hp:h.objs.size<=a)(new:yh P w (upd H a o) h' a o):HOk P w (upd H a o) h':=fun b u e=>by
 have hn:=x.fresh hp;by_cases hb:b=a
 ·subst hb;rw [zB] at e;cases e;exact new
 ·rw [zH hb] at e;exact (x b u e).stay (fun c v _ q=>k c v q) (fun c q=>by rw [zH (yU q hn)];exact q) fun c xs q=>by rw [zH (yU q hn)];exact q
end
def Rd(H:Hp)(a:Addr)(u:HO):Prop:=H a=some u\/ ∃o,H a=some (.frz o u)
theorem Rd.ok{P:Program}{w:World}{H:Hp}{h:Heap}{a:Addr}{u:HO}(r:Rd H a u)(x:HOk P w H h):yh P w H h a u:=by
 rcases r with r |⟨o,r⟩
 ·exact x a u r
 ·obtain ⟨_,q⟩:=x a _ r;exact q
def Mut:Option HO->Prop
 | some (.lst _)=>True
 | some (.dK _)=>True
 | some (.dT _)=>True
 | some (.set _ _)=>True
 | some (.ins _ _ _)=>True
 | some (.ext _)=>True
 | _=>False
section
variable {P:Program}{w:World}{H:Hp}{h h':Heap}{x e:Addr}{o':HO}
theorem HOk.write(ok:HOk P w H h)(mu:Mut (H x))(he:e=x\/H e=some (.own x))(k: ∀b u,b≠e->h.get? b=some u->h'.get? b=some u)(heo: ∃u,h'.get? e=some u)
  (new:yh P w (upd H x o') h' x o'):HOk P w (upd H x o') h':=fun b u q=>by
 have nown: ∀c y,H c=some (.own y)->c≠x:=fun c y r z=>by subst z;rw [r] at mu;exact mu
 have ntup: ∀c xs,H c=some (.tup xs)->c≠x:=fun c xs r z=>by subst z;rw [r] at mu;exact mu
 by_cases hb:b=x
 ·subst hb;rw [zB] at q;cases q;exact new
 ·rw [zH hb] at q;by_cases hbe:b=e
  ·have q':H b=some (.own x):=by
    rcases he with z | z
    ·exact absurd (hbe.trans z) hb
    ·rw [hbe];exact z
   rw [q] at q';cases q';obtain ⟨v,hv⟩:=heo;exact ⟨v,by rw [hbe];exact hv⟩
  ·refine (ok b u q).stay (fun c v hc r=>k c v ?_ r) (fun c r=>by rw [zH (nown c b r)];exact r) fun c xs r=>by rw [zH (ntup c xs r)];exact r
   rcases hc with rfl | hc
   ·exact hbe
   ·rintro rfl;rcases he with z | z
    ·exact nown c b hc z
    ·rw [hc] at z;cases z;exact hb rfl
end
structure Un(fs ex:List Addr)(H H':Hp)(h h':Heap):Prop where
 keep: ∀b o,h.get? b=some o->H b=none->b∉fs->b∉ex->h'.get? b=some o
 slot: ∀b o,h.get? b=some o->H b=none->b∈fs->b∉ex-> ∃sl,h'.get? b=some {o with slots:=sl}
 free: ∀b o,h.get? b=some o->H b=none->b∉ex->H' b=none
 there: ∀b o,h.get? b=some o->b∉ex-> ∃o',h'.get? b=some o'
 tups: ∀b xs,H b=some (.tup xs)->H' b=some (.tup xs)
 frzs: ∀b o u,H b=some (.frz o u)->H' b=some (.frz o u)
 tbls: ∀b ps,H b=some (.tbl ps)-> ∃more,H' b=some (.tbl (ps++more))
section
variable {fs fs' ex ex':List Addr}{H H1 H2:Hp}{h h1 h2 h':Heap}{a x e:Addr}{o:HO}
theorem Un.any(u:Un fs ex H H1 h h1){b:Addr}{ob:Obj}(q:h.get? b=some ob)(n:H b=none)(hx:b∉ex): ∃sl,h1.get? b=some {ob with slots:=sl}:=by
 by_cases hb:b∈fs
 ·exact u.slot b ob q n hb hx
 ·exact ⟨ob.slots,u.keep b ob q n hb hx⟩
theorem Un.kept(k: ∀b u,h.get? b=some u->h'.get? b=some u):Un fs ex H H h h':=
 ⟨fun b ob q _ _ _=>k b ob q,fun b ob q _ _ _=>⟨ob.slots,k b ob q⟩,fun _ _ _ n _=>n,fun b ob q _=>⟨ob,k b ob q⟩,fun _ _ q=>q,fun _ _ _ q=>q,fun _ ps q=>⟨#[],by rw [q];simp⟩⟩
theorem Un.refl:Un fs ex H H h h:=Un.kept fun _ _ q=>q
theorem Un.laid(k: ∀b u,h.get? b=some u->h'.get? b=some u)(hp:h.objs.size<=a)(hn:H a=none):Un fs ex H (upd H a o) h h' where
 keep:=fun b u q _ _ _=>k b u q
 slot:=fun b u q _ _ _=>⟨u.slots,k b u q⟩
 free:=fun b u q n _=>by rw [zH (zPd (zPe (zPf q) hp))];exact n
 there:=fun b u q _=>⟨u,k b u q⟩
 tups:=fun b xs q=>by rw [zH (yU q hn)];exact q
 frzs:=fun b u xs q=>by rw [zH (yU q hn)];exact q
 tbls:=fun b ps q=>⟨#[],by rw [zH (yU q hn),q];simp⟩
theorem Un.write(mu:Mut (H x))(he:e=x\/H e=some (.own x))(k: ∀b u,b≠e->h.get? b=some u->h'.get? b=some u)(heo: ∃u,h'.get? e=some u):Un fs ex H (upd H x o) h h':=by
 have hx: ∀b,H b=none->b≠x:=fun b n z=>by subst z;rw [n] at mu;exact mu
 have hb: ∀b,H b=none->b≠e:=fun b n z=>by
  subst z;rcases he with r | r
  ·exact hx b n r
  ·rw [n] at r;cases r
 have hm: ∀b u,H b=some u-> ¬Mut (some u)->b≠x:=fun b u q nm z=>by subst z;rw [q] at mu;exact nm mu
 refine ⟨fun b u q n _ _=>k b u (hb b n) q,fun b u q n _ _=>⟨u.slots,k b u (hb b n) q⟩,fun b u q n _=>by rw [zH (hx b n)];exact n,fun b u q _=>?_,
  fun b xs q=>by rw [zH (hm b _ q fun z=>z)];exact q,fun b u xs q=>by rw [zH (hm b _ q fun z=>z)];exact q,fun b ps q=>⟨#[],by rw [zH (hm b _ q fun z=>z),q];simp⟩⟩
 by_cases hbe:b=e
 ·subst hbe;exact heo
 ·exact ⟨u,k b u hbe q⟩
end
def trk(h:Heap)(H:Hp):List Addr:=(List.range h.objs.size).filter fun a=>(H a).isSome
def zCK(h:Heap)(H:Hp):Heap:=PySem.W.hideAll h (trk h H)
theorem zJn(h:Heap)(H:Hp):(zCK h H).objs.size=h.objs.size:=PySem.W.hideAll_size _ _
theorem zKd{h:Heap}{H:Hp}{b:Addr}{o:Obj}(e:h.get? b=some o)(n:H b=none):(zCK h H).get? b=some o:=
 zQB _ e fun hm=>by
  have q:(H b).isSome=true:=(List.mem_filter.mp hm).2;rw [n] at q;simp at q
theorem zLk{h:Heap}{H:Hp}{b:Addr}{o:Obj}(e:(zCK h H).get? b=some o):h.get? b=some o/\H b=none:=by
 have e':h.get? b=some o:=zQJ (trk h H) e;refine ⟨e',?_⟩;cases q:H b with
 | none=>rfl
 | some x=>
  have hm:b∈trk h H:=List.mem_filter.mpr ⟨List.mem_range.mpr (zPf e'),by simp [q]⟩;have z:(zCK h H).get? b=none:=PySem.W.hideAll_none (trk h H) hm;rw [z] at e;cases e
structure Mod(K:zQK)(mg:Str->Option Value)(base:Heap):Prop where
 kin:K.In base
 glob:base.Ns mainGlobals mg
 blt: ∃mb,base.Ns builtinsNs mb/\ ∀x:Str,x≠ "__name__" ->mb x=bootBuiltins x
 nolimit:base.NoLimit
 seer:base.NoSeer
structure Cx where
 prog:Program
 w:World
 K:zQK
 mg:Str->Option Value
 base:Heap
 A:Around
 N:List Str
 s₀:Shared
 H₀:Hp
 env:Env
 outer:List Env
 stack:List Env
 ex:List Addr
 fn:Str->Bool
 calm:Bool
 pn:List (Addr×Obj)
 xe:Value->Shared->Prop
def frs(l:List Env):List Addr:=l.filterMap (·.frame)
abbrev Cx.fs(X:Cx):List Addr:=frs X.outer
def Vis(sc:Scope)(x:Str):Prop:=sc.names.lookup x=some .local\/sc.names.lookup x=some .cell\/sc.names.lookup x=some .free
def Loc(sc:Scope)(x:Str):Prop:=sc.names.lookup x=some .local\/sc.names.lookup x=some .cell
def zPG(env:Env)(h:Heap)(m:Str->Option Value)(x:Str)(u:Value):Prop:=
 (env.kindOf x=some .local/\m x=some u)\/((env.kindOf x=some .cell\/env.kindOf x=some .free)/\ ∃c,env.cells.lookup x=some c/\h.IsCell c (some u))
structure Cx.Ok(X:Cx):Prop where
 mod:Mod X.K X.mg X.base
 kind:X.env.scope.kind= .function
 glob:X.env.globals=mainGlobals
 blt:X.env.builtins=builtinsNs
 above:X.s₀.heap.objs.size<=X.env.locals
 inj: ∀x y c,X.env.cells.lookup x=some c->X.env.cells.lookup y=some c->x=y
 has: ∀x,(X.env.kindOf x=some .cell\/X.env.kindOf x=some .free)-> ∃c,X.env.cells.lookup x=some c
 cab: ∀x c,X.fn x=true->X.env.cells.lookup x=some c->X.s₀.heap.objs.size<=c
 hd:X.calm=true->X.A.handled=none
 frames:X.A.frames=some X.stack
 stk:X.stack=X.outer\/(X.stack=X.env::X.outer/\X.env.frame=some X.env.locals)
 exf: ∀b∈X.ex,b≠X.env.locals/\ ∀x c,X.env.cells.lookup x=some c->c≠b
 bs: ∀b o,X.base.get? b=some o->X.s₀.heap.get? b=some o/\X.H₀ b=none
 bsz:X.base.objs.size<=X.s₀.heap.objs.size
 noex: ∀b o,X.base.get? b=some o->b∉X.ex
 exfs: ∀b∈X.ex,b∉X.fs
 funs:X.s₀.heap.FunFrames X.base X.outer
 frf: ∀b∈X.fs,X.H₀ b=none
structure Inv(X:Cx)(pins:List (Addr×Obj))(σ:List (Option V))(H:Hp)(s:Shared):Prop where
 ok:X.Ok
 os:s.os=X.s₀.os
 bare:AllBare s.gens
 base:Un X.fs X.ex X.H₀ H X.s₀.heap s.heap
 loc: ∃m,s.heap.Ns X.env.locals m/\ ∀(i:Nat) (x:Str) (v:V),X.N[i]?=some x->σ[i]?=some (some v)->Vis X.env.scope x-> ∃u,zg v u/\zPG X.env s.heap m x u
 cell: ∀x c,X.env.cells.lookup x=some c-> ∃v,s.heap.IsCell c v
 free:H X.env.locals=none
 freeC: ∀x c,X.env.cells.lookup x=some c->H c=none
 pin: ∀p∈X.pn++pins,s.heap.get? p.1=some p.2/\H p.1=none/\p.1≠X.env.locals/\p.1∉X.fs/\ ∀v,p.2.data≠ .cell v
 hok:HOk X.prog X.w H s.heap
 len:σ.length=X.N.length
section
variable {X:Cx}{pins:List (Addr×Obj)}{σ:List (Option V)}{H H':Hp}{s:Shared}{h':Heap}
theorem Cx.Ok.nofr(ok:X.Ok){b:Addr}{o:Obj}(e:X.base.get? b=some o):b∉X.fs:=fun hb=>by
 have:=(ok.funs.mem hb).1;rw [e] at this;cases this
theorem Inv.bs(I:Inv X pins σ H s): ∀b o,X.base.get? b=some o->s.heap.get? b=some o/\H b=none:=fun b o e=>
 ⟨I.base.keep b o (I.ok.bs b o e).1 (I.ok.bs b o e).2 (I.ok.nofr e) (I.ok.noex b o e),I.base.free b o (I.ok.bs b o e).1 (I.ok.bs b o e).2 (I.ok.noex b o e)⟩
theorem Inv.bk(I:Inv X pins σ H s): ∀b o,X.base.get? b=some o->s.heap.get? b=some o:=fun b o e=>(I.bs b o e).1
theorem Inv.mod(I:Inv X pins σ H s):Mod X.K X.mg X.base:=I.ok.mod
theorem Inv.kIn(I:Inv X pins σ H s):X.K.In s.heap:=I.ok.mod.kin.keeps I.bk
theorem Inv.lt(I:Inv X pins σ H s):X.env.locals<s.heap.objs.size:=let ⟨_,hn,_⟩:=I.loc;hn.lt
theorem Inv.sz(I:Inv X pins σ H s):X.s₀.heap.objs.size<=s.heap.objs.size:=zPj I.ok.above (zQD I.lt)
theorem Inv.nofs(I:Inv X pins σ H s){a:Addr}(h:s.heap.objs.size<=a):a∉X.fs:=fun hb=>by
 obtain ⟨_,o,ho,_⟩:=I.ok.funs.mem hb;exact absurd (zPe (zPf ho) (zPj I.sz h)) (Nat.lt_irrefl _)
theorem Inv.cne(I:Inv X pins σ H s): ∀x c,X.env.cells.lookup x=some c->c≠X.env.locals:=fun x c e z=>by
 obtain ⟨v,o,ho,hd⟩:=I.cell x c e;obtain ⟨m,⟨o',es,ep,ho',hd',_⟩,_⟩:=I.loc;rw [z,ho'] at ho;cases ho;rw [hd'] at hd;cases hd
theorem Inv.funs(I:Inv X pins σ H s):s.heap.FunFrames X.base X.outer:=by
 have all: ∀(l:List Env),(∀b∈frs l,b∈X.fs)->X.s₀.heap.FunFrames X.base l->s.heap.FunFrames X.base l:=by
  intro l
  induction l with
  | nil=>intro _ _;trivial
  | cons env r ih=>
   intro hs hl;obtain ⟨hk,⟨L,o,hf,hn,ho,hd⟩,hr⟩:=hl;have hL:L∈X.fs:=hs L (by unfold frs;rw [List.filterMap_cons,hf];exact List.mem_cons_self);obtain ⟨sl,e⟩:=I.base.slot L o ho (I.ok.frf L hL) hL fun z=>I.ok.exfs L z hL;exact ⟨hk,⟨L,_,hf,hn,e,hd⟩,ih (fun b hb=>hs b (by unfold frs;rw [List.filterMap_cons,hf];exact zQC _ hb)) hr⟩
 exact all X.outer (fun _ hb=>hb) I.ok.funs
theorem Inv.stack(I:Inv X pins σ H s):s.heap.FunFrames X.base X.stack:=by
 rcases I.ok.stk with e |⟨e,hf⟩
 ·rw [e];exact I.funs
 ·rw [e];obtain ⟨m,hn,_⟩:=I.loc;refine .cons (by rw [I.ok.kind];decide) hf hn ?_ I.funs;exact Heap.get?_none_of_le (zPj I.ok.bsz I.ok.above)
theorem Inv.stkSub(I:Inv X pins σ H s): ∀b∈frs X.stack,b∈X.env.locals::X.fs:=fun b hb=>by
 rcases I.ok.stk with e |⟨e,hf⟩
 ·rw [e] at hb;exact zQC _ hb
 ·rw [e] at hb;unfold frs at hb;rw [List.filterMap_cons,hf] at hb;exact hb
theorem Inv.stkFree(I:Inv X pins σ H s): ∀b∈frs X.stack,H b=none:=fun b hb=>by
 rcases List.mem_cons.mp (I.stkSub b hb) with e | hb
 ·rw [e];exact I.free
 ·obtain ⟨_,o,ho,_⟩:=I.ok.funs.mem hb;exact I.base.free b o ho (I.ok.frf b hb) fun z=>I.ok.exfs b z hb
theorem Inv.step{g':Array GenState}{t':Nat}{d':Drawn}{ch:List Addr}(I:Inv X pins σ H s)
  (hch: ∀b∈ch,(b∈X.ex\/X.s₀.heap.objs.size<=b)/\b≠X.env.locals/\(∀x c,X.env.cells.lookup x=some c->c≠b)/\ ∀p∈X.pn++pins,p.1≠b)
  (keep: ∀b o,b≠X.env.locals->b∉X.fs->b∉ch->s.heap.get? b=some o->H b=none->h'.get? b=some o)
  (slot: ∀b o,b≠X.env.locals->b∈X.fs->b∉ch->s.heap.get? b=some o->H b=none-> ∃sl,h'.get? b=some {o with slots:=sl}) (free: ∀b o,b∉ch->s.heap.get? b=some o->H b=none->H' b=none)
  (there: ∀b o,b∉ch->s.heap.get? b=some o-> ∃o',h'.get? b=some o')
  (tups: ∀b xs,H b=some (.tup xs)->H' b=some (.tup xs)) (frzs: ∀b o u,H b=some (.frz o u)->H' b=some (.frz o u)) (tbls: ∀b ps,H b=some (.tbl ps)-> ∃more,H' b=some (.tbl (ps++more)))
  (ns: ∀m,s.heap.Ns X.env.locals m->h'.Ns X.env.locals m) (hok:HOk X.prog X.w H' h') (hg:AllBare g'):
  Inv X pins σ H' {s with heap:=h',gens:=g',drawn:=d',toks:=t'}:=by
 have neL: ∀b o,X.s₀.heap.get? b=some o->b≠X.env.locals:=fun b o e=>zPd (zPe (zPf e) I.ok.above);have neC: ∀b o,X.s₀.heap.get? b=some o->b∉X.ex->b∉ch:=fun b o e hx hb=>by
  rcases (hch b hb).1 with z | z
  ·exact hx z
  ·exact absurd (zPe (zPf e) z) (Nat.lt_irrefl _)
 have cellK: ∀x c,X.env.cells.lookup x=some c-> ∀v,s.heap.IsCell c v->h'.IsCell c v:=fun x c e v ⟨o,ho,hd⟩=>by
  have nch:c∉ch:=fun z=>(hch c z).2.2.1 x c e rfl;by_cases hc:c∈X.fs
  ·obtain ⟨sl,q⟩:=slot c o (I.cne x c e) hc nch ho (I.freeC x c e);exact ⟨_,q,hd⟩
  ·exact ⟨o,keep c o (I.cne x c e) hc nch ho (I.freeC x c e),hd⟩
 refine ⟨I.ok,I.os,hg,⟨fun b o e n hb hx=>?_,fun b o e n hb hx=>?_,fun b o e n hx=>?_,fun b o e hx=>?_,fun b xs e=>tups b xs (I.base.tups b xs e),fun b o xs e=>frzs b o xs (I.base.frzs b o xs e),fun b ps e=>?_⟩,?_,fun x c e=>?_,?_,fun x c e=>?_,fun p hp=>?_,hok,I.len⟩
 ·exact keep b o (neL b o e) hb (neC b o e hx) (I.base.keep b o e n hb hx) (I.base.free b o e n hx)
 ·obtain ⟨sl,e1⟩:=I.base.slot b o e n hb hx;obtain ⟨sl',e2⟩:=slot b _ (neL b o e) hb (neC b o e hx) e1 (I.base.free b o e n hx);exact ⟨sl',e2⟩
 ·obtain ⟨o',e1⟩:=I.base.there b o e hx;exact free b o' (neC b o e hx) e1 (I.base.free b o e n hx)
 ·obtain ⟨o',e1⟩:=I.base.there b o e hx;exact there b o' (neC b o e hx) e1
 ·obtain ⟨m1,e1⟩:=I.base.tbls b ps e;obtain ⟨m2,e2⟩:=tbls b _ e1;exact ⟨m1++m2,by rw [e2,Array.append_assoc]⟩
 ·obtain ⟨m,hn,hl⟩:=I.loc;refine ⟨m,ns m hn,fun i x v e1 e2 e3=>?_⟩;obtain ⟨u,r,l⟩:=hl i x v e1 e2 e3;refine ⟨u,r,?_⟩;rcases l with l |⟨k,c,e,z⟩
  ·exact .inl l
  ·exact .inr ⟨k,c,e,cellK x c e _ z⟩
 ·obtain ⟨v,z⟩:=I.cell x c e;exact ⟨v,cellK x c e v z⟩
 ·obtain ⟨m,⟨o,_,_,ho,_⟩,_⟩:=I.loc;exact free _ o (fun z=>(hch _ z).2.1 rfl) ho I.free
 ·obtain ⟨v,o,ho,hd⟩:=I.cell x c e;exact free c o (fun z=>(hch c z).2.2.1 x c e rfl) ho (I.freeC x c e)
 ·obtain ⟨e,n,ne,nf,d⟩:=I.pin p hp;have nch:p.1∉ch:=fun z=>(hch p.1 z).2.2.2 p hp rfl;exact ⟨keep p.1 p.2 ne nf nch e n,free p.1 p.2 nch e n,ne,nf,d⟩
theorem Inv.un{t':Nat}(I:Inv X pins σ H s)(u:Un X.fs [] H H' s.heap h')(hok:HOk X.prog X.w H' h'):Inv X pins σ H' {s with heap:=h',toks:=t'}:=by
 obtain ⟨m,⟨o,es,ep,ho,r⟩,_⟩:=id I.loc;obtain ⟨sl,hL⟩:=u.any ho I.free (by simp);exact I.step (g':=s.gens) (d':=s.drawn) (ch:= []) (fun _ z=>nomatch z) (fun b o _ hb _ e n=>u.keep b o e n hb (by simp)) (fun b o _ hb _ e n=>u.slot b o e n hb (by simp)) (fun b o _ e n=>u.free b o e n (by simp)) (fun b o _ e=>u.there b o e (by simp)) u.tups u.frzs u.tbls (fun m' hm=>by
  obtain ⟨o',es',ep',ho',r'⟩:=hm;rw [ho] at ho';cases ho';exact ⟨_,es',ep',hL,r'⟩) hok I.bare
theorem Inv.call{g':Array GenState}{t':Nat}{d':Drawn}{ch:List Addr}(I:Inv X pins σ H s)(u:Un (frs X.stack) ch H H' s.heap h')(hok:HOk X.prog X.w H' h')(hg:AllBare g')
  (hch: ∀b∈ch,(b∈X.ex\/X.s₀.heap.objs.size<=b)/\b≠X.env.locals/\(∀x c,X.env.cells.lookup x=some c->c≠b)/\ ∀p∈X.pn++pins,p.1≠b):
  Inv X pins σ H' {s with heap:=h',gens:=g',drawn:=d',toks:=t'}:=by
 obtain ⟨m,⟨o,es,ep,ho,r⟩,_⟩:=id I.loc;obtain ⟨sl,hL⟩:=u.any ho I.free fun z=>(hch _ z).2.1 rfl;exact I.step (ch:=ch) hch (fun b o hL hb hc e n=>u.keep b o e n (fun z=>(List.mem_cons.mp (I.stkSub b z)).elim hL hb) hc) (fun b o _ _ hc e n=>u.any e n hc) (fun b o hc e n=>u.free b o e n hc) (fun b o hc e=>u.there b o e hc) u.tups u.frzs u.tbls (fun m' hm=>by
  obtain ⟨o',es',ep',ho',r'⟩:=hm;rw [ho] at ho';cases ho';exact ⟨_,es',ep',hL,r'⟩) hok hg
theorem Inv.turned{t':Nat}{it:Addr}(I:Inv X pins σ H s)(k: ∀b o,b≠it->s.heap.get? b=some o->h'.get? b=some o)(hn:H it=none)(hL:it≠X.env.locals)
  (h1:it∈X.ex\/X.s₀.heap.objs.size<=it) (h2: ∀x c,X.env.cells.lookup x=some c->c≠it) (h3: ∀p∈X.pn++pins,p.1≠it):Inv X pins σ H {s with heap:=h',toks:=t'}:=by
 have nit: ∀b u,H b=some u->b≠it:=fun b u e z=>by rw [z,hn] at e;cases e
 refine I.step (g':=s.gens) (d':=s.drawn) (ch:= [it]) (fun b hb=>?_) (fun b o _ _ hc e _=>k b o (fun z=>hc (by simp [z])) e) (fun b o _ _ hc e _=>⟨o.slots,k b o (fun z=>hc (by simp [z])) e⟩) (fun _ _ _ _ n=>n)
  (fun b o hc e=>⟨o,k b o (fun z=>hc (by simp [z])) e⟩) (fun _ _ e=>e) (fun _ _ _ e=>e) (fun b ps e=>⟨#[],by rw [e];simp⟩) (fun m hm=>?_) (fun b u e=>?_) I.bare
 ·have e:b=it:=by simpa using hb
  subst e;exact ⟨h1,hL,h2,h3⟩
 ·obtain ⟨o,es,ep,ho,r⟩:=hm;exact ⟨o,es,ep,k _ o (Ne.symm hL) ho,r⟩
 ·refine (I.hok b u e).stay (fun c v hc q=>k c v ?_ q) (fun _ q=>q) fun _ _ q=>q;rcases hc with z | z
  ·rw [z];exact nit b u e
  ·exact nit c _ z
theorem Inv.tok(I:Inv X pins σ H s)(t:Nat):Inv X pins σ H {s with toks:=t}:=I.un (h':=s.heap) (t':=t) Un.refl I.hok
theorem Inv.kept{t':Nat}(I:Inv X pins σ H s)(k: ∀b u,s.heap.get? b=some u->h'.get? b=some u):Inv X pins σ H {s with heap:=h',toks:=t'}:=I.un (Un.kept k) (I.hok.kept k)
theorem Inv.laid{a:Addr}{o:HO}{t':Nat}(I:Inv X pins σ H s)(k: ∀b u,s.heap.get? b=some u->h'.get? b=some u)(hp:s.heap.objs.size<=a)(new:yh X.prog X.w (upd H a o) h' a o):
  Inv X pins σ (upd H a o) {s with heap:=h',toks:=t'}:=I.un (Un.laid k hp (I.hok.fresh hp)) (I.hok.laid k hp new)
theorem Inv.write{x e:Addr}{o:HO}{t':Nat}(I:Inv X pins σ H s)(mu:Mut (H x))(he:e=x\/H e=some (.own x))(k: ∀b u,b≠e->s.heap.get? b=some u->h'.get? b=some u)(heo: ∃u,h'.get? e=some u)
  (new:yh X.prog X.w (upd H x o) h' x o):Inv X pins σ (upd H x o) {s with heap:=h',toks:=t'}:=I.un (Un.write mu he k heo) (I.hok.write mu he k heo new)
theorem Inv.pins_of{pins':List (Addr×Obj)}(I:Inv X pins σ H s)(h: ∀p∈pins',s.heap.get? p.1=some p.2/\H p.1=none/\p.1≠X.env.locals/\p.1∉X.fs/\ ∀v,p.2.data≠ .cell v):Inv X pins' σ H s:=
 ⟨I.ok,I.os,I.bare,I.base,I.loc,I.cell,I.free,I.freeC,fun p hp=>(List.mem_append.mp hp).elim (fun z=>I.pin p (List.mem_append_left _ z)) (h p),I.hok,I.len⟩
theorem zGu{N:List Str}(hN:N.Nodup){i j:Nat}{x:Str}(a:N[i]?=some x)(b:N[j]?=some x):i=j:=by
 obtain ⟨h1,e1⟩:=List.getElem?_eq_some_iff.mp a;obtain ⟨h2,e2⟩:=List.getElem?_eq_some_iff.mp b;exact (List.getElem_inj hN).mp (e1.trans e2.symm)
theorem zDI{M:Model}{A:Around}{E:Value->Shared->Prop}{i:Nat}{x:Str}{v:V}{u:Value}{Q:Unit->Shared->Prop}(I:Inv X pins σ H s)(hN:X.N.Nodup)(hi:X.N[i]?=some x)(hx:Loc X.env.scope x)(r:zg v u)
  (h: ∀s',Inv X pins (σ.set i (some v)) H s'->(∃a,Heap.SameBut a s.heap s'.heap/\(a=X.env.locals\/X.env.cells.lookup x=some a))->Q () s') (hf:X.fn x=true\/X.env.scope.names.lookup x=some .local:=by first | exact .inl rfl | exact .inr rfl | assumption):wpAny M A (storeName X.env x u) Q E s:=by
 obtain ⟨m,hn,hl⟩:=id I.loc;have hcls:(X.env.scope.kind== .class ||(X.env.scope.kind== .module&&X.env.locals !=X.env.globals))=false:=by rw [I.ok.kind];rfl
 have hiσ:i<σ.length:=by rw [I.len];exact (List.getElem?_eq_some_iff.mp hi).1
 have cne:=I.cne;have tracked: ∀{a:Addr} {h':Heap},(∃o,s.heap.get? a=some o/\H a=none)->Heap.SameBut a s.heap h'->HOk X.prog X.w H h':=fun {a h'} ha hs b ob e=>by
  obtain ⟨_,_,hfree⟩:=ha;refine (I.hok b ob e).stay (fun c w' hc q=>(hs.2 c ?_).trans q) (fun _ q=>q) fun _ _ q=>q;rintro rfl;rcases hc with rfl | hc
  ·rw [hfree] at e;cases e
  ·rw [hfree] at hc;cases hc
 rcases hx with hk | hk
 ·refine wpAny_storeName_local hk hn (fun h' hn' hs=>?_) hcls;obtain ⟨oL,_,_,hoL,_⟩:=id hn;refine h _ ⟨I.ok,I.os,I.bare,⟨fun b o e n hb hx=>?_,fun b o e n hb hx=>?_,I.base.free,fun b o e hx=>?_,I.base.tups,I.base.frzs,I.base.tbls⟩,⟨_,hn',fun j y v' e1 e2 e3=>?_⟩,fun y c e=>?_,I.free,I.freeC,fun p hp=>?_,tracked ⟨oL,hoL,I.free⟩ hs,by simpa using I.len⟩ ⟨_,hs,.inl rfl⟩
  ·exact (hs.2 b (zPd (zPe (zPf e) I.ok.above))).trans (I.base.keep b o e n hb hx)
  ·obtain ⟨sl,e1⟩:=I.base.slot b o e n hb hx;exact ⟨sl,(hs.2 b (zPd (zPe (zPf e) I.ok.above))).trans e1⟩
  ·obtain ⟨o',e1⟩:=I.base.there b o e hx;exact ⟨o',(hs.2 b (zPd (zPe (zPf e) I.ok.above))).trans e1⟩
  ·by_cases hj:j=i
   ·subst hj;rw [hi] at e1;cases e1;rw [List.getElem?_set_self hiσ] at e2;cases e2;exact ⟨u,r,.inl ⟨hk,by simp⟩⟩
   ·rw [List.getElem?_set_ne (Ne.symm hj)] at e2;obtain ⟨u',r',q⟩:=hl j y v' e1 e2 e3;refine ⟨u',r',?_⟩;rcases q with ⟨k,e⟩|⟨k,c,e,z⟩
    ·refine .inl ⟨k,?_⟩;have:y≠x:=fun e=>hj (zGu hN e1 (e▸hi));simp [this,e]
    ·exact .inr ⟨k,c,e,z.sameBut hs (cne y c e)⟩
  ·obtain ⟨w',z⟩:=I.cell y c e;exact ⟨w',z.sameBut hs (cne y c e)⟩
  ·obtain ⟨e,n,ne,nf,d⟩:=I.pin p hp;exact ⟨(hs.2 p.1 ne).trans e,n,ne,nf,d⟩
 ·have hfn:X.fn x=true:=by
   rcases hf with z | z
   ·exact z
   ·rw [z] at hk;cases hk
  obtain ⟨c,hc⟩:=I.ok.has x (.inl hk);obtain ⟨w',z⟩:=I.cell x c hc;refine wpAny_storeName_cell I.ok.kind hk hc z (fun h' hc' hs=>?_);obtain ⟨oc,hoc,hocd⟩:=id z;refine h {s with heap:=h'} ⟨I.ok,I.os,I.bare,⟨fun b o e n hb hx=>?_,fun b o e n hb hx=>?_,I.base.free,fun b o e hx=>?_,I.base.tups,I.base.frzs,I.base.tbls⟩,⟨m,hn.sameBut hs (Ne.symm (cne x c hc)),fun j y v' e1 e2 e3=>?_⟩,fun y c' e=>?_,I.free,I.freeC,fun p hp=>?_,tracked ⟨oc,hoc,I.freeC x c hc⟩ hs,by simpa using I.len⟩ ⟨c,hs,.inr hc⟩
  ·exact (hs.2 b (zPd (zPe (zPf e) (I.ok.cab x c hfn hc)))).trans (I.base.keep b o e n hb hx)
  ·obtain ⟨sl,e1⟩:=I.base.slot b o e n hb hx;exact ⟨sl,(hs.2 b (zPd (zPe (zPf e) (I.ok.cab x c hfn hc)))).trans e1⟩
  ·obtain ⟨o',e1⟩:=I.base.there b o e hx;exact ⟨o',(hs.2 b (zPd (zPe (zPf e) (I.ok.cab x c hfn hc)))).trans e1⟩
  ·by_cases hj:j=i
   ·subst hj;rw [hi] at e1;cases e1;rw [List.getElem?_set_self hiσ] at e2;cases e2;exact ⟨u,r,.inr ⟨.inl hk,c,hc,hc'⟩⟩
   ·rw [List.getElem?_set_ne (Ne.symm hj)] at e2;obtain ⟨u',r',q⟩:=hl j y v' e1 e2 e3;refine ⟨u',r',?_⟩;rcases q with q |⟨k,c',e,z'⟩
    ·exact .inl q
    ·refine .inr ⟨k,c',e,z'.sameBut hs ?_⟩;rintro rfl;exact hj (zGu hN e1 (I.ok.inj _ _ _ e hc▸hi))
  ·by_cases hcc:c'=c
   ·subst hcc;exact ⟨_,hc'⟩
   ·obtain ⟨w2,z2⟩:=I.cell y c' e;exact ⟨w2,z2.sameBut hs hcc⟩
  ·obtain ⟨e,n,ne,nf,d⟩:=I.pin p hp;refine ⟨(hs.2 p.1 ?_).trans e,n,ne,nf,d⟩;intro q;rw [q,hoc] at e;have q':oc=p.2:=Option.some.inj e;exact d w' (by rw [<-q'];exact hocd)
theorem zGI{M:Model}{A:Around}{E:Value->Shared->Prop}{i:Nat}{x:Str}{v:V}{u:Value}{Q:Unit->Shared->Prop}(I:Inv X pins σ H s)(hN:X.N.Nodup)(hi:X.N[i]?=some x)(hx:Loc X.env.scope x)(r:zg v u)
  (h: ∀s',Inv X pins (σ.set i (some v)) H s'->Q () s') (hf:X.fn x=true\/X.env.scope.names.lookup x=some .local:=by first | exact .inl rfl | exact .inr rfl | assumption):wpAny M A (storeName X.env x u) Q E s:=
 zDI I hN hi hx r (fun s' I' _=>h s' I') hf
theorem Inv.call'{s':Shared}{ch:List Addr}(I:Inv X pins σ H s)(ho:s'.os=s.os)(u:Un (frs X.stack) ch H H' s.heap s'.heap)(hok:HOk X.prog X.w H' s'.heap)(hg:AllBare s'.gens)
  (hch: ∀b∈ch,(b∈X.ex\/X.s₀.heap.objs.size<=b)/\b≠X.env.locals/\(∀x c,X.env.cells.lookup x=some c->c≠b)/\ ∀p∈X.pn++pins,p.1≠b):Inv X pins σ H' s':=by
 obtain ⟨h',g',d',t',o'⟩:=s';have e:o'=s.os:=ho;subst e;exact I.call (g':=g') (t':=t') (d':=d') u hok hg hch
end
abbrev XK:=Value->Option Addr->Hp->Prop
abbrev St:=List (Option V)
abbrev VK:=V->Hp->Prop
abbrev TE:=St->Hp->VK->Prop
abbrev TT:=St->Hp->(Bool->Hp->Prop)->Prop
abbrev TA:=St->Hp->(List V->Hp->Prop)->Prop
structure Ends where
 nx:St->Hp->Prop
 rt:VK
 bk:St->Hp->Prop:=fun _ _=>False
 ct:St->Hp->Prop:=fun _ _=>False
abbrev TS:=Ends->St->Hp->Prop
def EP(X:Cx)(pins:List (Addr×Obj))(σ:St)(Q:VK)(u:Value)(s':Shared):Prop:= ∃v H',Inv X pins σ H' s'/\zg v u/\Q v H'
def TP(X:Cx)(pins:List (Addr×Obj))(σ:St)(Q:Bool->Hp->Prop)(b:Bool)(s':Shared):Prop:= ∃H',Inv X pins σ H' s'/\Q b H'
def AP(X:Cx)(pins:List (Addr×Obj))(σ:St)(Q:List V->Hp->Prop)(us:List Value)(s':Shared):Prop:= ∃vs H',Inv X pins σ H' s'/\zQ vs us/\Q vs H'
def SP(X:Cx)(pins:List (Addr×Obj))(D:Ends)(f:Flow)(s':Shared):Prop:=
 match f with
 | .next=> ∃σ' H',Inv X pins σ' H' s'/\D.nx σ' H'
 | .brk=> ∃σ' H',Inv X pins σ' H' s'/\D.bk σ' H'
 | .cont=> ∃σ' H',Inv X pins σ' H' s'/\D.ct σ' H'
 | .ret u=> ∃v σ' H',Inv X pins σ' H' s'/\zg v u/\D.rt v H'
def PE(X:Cx)(e:Expr)(t:TE):Prop:=
 ∀(pins:List (Addr×Obj)) (s:Shared) (σ:St) (H:Hp) (Q:VK),Inv X pins σ H s->t σ H Q->wpAny (model X.prog X.w) X.A (eval e X.env) (EP X pins σ Q) X.xe s
def PT(X:Cx)(e:Expr)(t:TT):Prop:=
 ∀(pins:List (Addr×Obj)) (s:Shared) (σ:St) (H:Hp) (Q:Bool->Hp->Prop),Inv X pins σ H s->t σ H Q->wpAny (model X.prog X.w) X.A (isTrue e X.env (eval e X.env)) (TP X pins σ Q) X.xe s
def PW(X:Cx)(e:Expr)(t:TT):Prop:=
 ∀(whole:Sem Value) (pins:List (Addr×Obj)) (s:Shared) (σ:St) (H:Hp) (Q:Bool->Hp->Prop),Inv X pins σ H s->t σ H Q->wpAny (model X.prog X.w) X.A (isTrue e X.env whole) (TP X pins σ Q) X.xe s
theorem PW.pt{X:Cx}{e:Expr}{t:TT}(h:PW X e t):PT X e t:=h _
def PA(X:Cx)(es:List Expr)(t:TA):Prop:=
 ∀(pos:Pos) (pins:List (Addr×Obj)) (s:Shared) (σ:St) (H:Hp) (Q:List V->Hp->Prop),Inv X pins σ H s->t σ H Q->wpAny (model X.prog X.w) X.A (spliced (backTo pos (starEach es X.env))) (AP X pins σ Q) X.xe s
def PS(X:Cx)(st:Stmt)(t:TS):Prop:=
 ∀(pins:List (Addr×Obj)) (s:Shared) (σ:St) (H:Hp) (D:Ends),Inv X pins σ H s->t D σ H->wpAny (model X.prog X.w) X.A (exec st X.env) (SP X pins D) X.xe s
def PSs(X:Cx)(st:List Stmt)(t:TS):Prop:=
 ∀(pins:List (Addr×Obj)) (s:Shared) (σ:St) (H:Hp) (D:Ends),Inv X pins σ H s->t D σ H->wpAny (model X.prog X.w) X.A (execs st X.env) (SP X pins D) X.xe s
theorem zd{α:Type}{t:Sem α}{Q Q':α->Shared->Prop}{M:Model}{A:Around}{E:Value->Shared->Prop}{s:Shared}(h:wpAny M A t Q E s)(hQ: ∀a s,Q a s->Q' a s):wpAny M A t Q' E s:=zPq h hQ fun _ _ x=>x
section
variable {X:Cx}
inductive XVar (i:Nat) (σ:St) (H:Hp) (Q:VK):Prop
 | mk (v:V) (h:σ[i]?=some (some v)) (q:Q v H)
def yY(i:Nat):TE:=fun σ H Q=>XVar i σ H Q
def tC(v:V):TE:=fun _ H Q=>Q v H
theorem zHA{i:Nat}{x:Str}{pos:Pos}(hN:X.N[i]?=some x)(hv:Vis X.env.scope x)(hd:(x==("__debug__" :Str))=false:=by decide)(hcd:(x==("__classdict__" :Str))=false:=by decide):PE X (.Name x pos) (yY i):=by
 intro pins s σ H Q I h;obtain ⟨v,e,h⟩:=h;obtain ⟨m,hn,hl⟩:=I.loc;obtain ⟨u,r,l⟩:=hl i x v hN e hv;have fin:EP X pins σ Q u s:=⟨v,H,I,r,h⟩;rcases l with ⟨hk,hm⟩|⟨hk,c,hc,hcell⟩
 ·exact wpAny_Name (wpAny_loadName_local I.ok.kind hk hn hm fin) hd
 ·rcases hk with hk | hk
  ·exact wpAny_Name (wpAny_loadName_cell I.ok.kind hk hc hcell fin) hd
  ·exact wpAny_Name (wpAny_loadName_free I.ok.kind hk hc hcell fin hcd) hd
theorem zAR{i j pos}:PE X (.Constant (.int i) j pos) (tC (.int i)):=fun _ _ _ H _ I h=>wpAny_Constant_int ⟨.int i,H,I.tok _,⟨_,rfl⟩,h⟩
theorem zOg{b j pos}:PE X (.Constant (.bool b) j pos) (tC (.bl b)):=fun _ _ _ H _ I h=>Constant_bool ⟨.bl b,H,I,rfl,h⟩
theorem zNk{j pos}:PE X (.Constant .none j pos) (tC .non):=fun _ _ _ H _ I h=>Constant_none ⟨.non,H,I,rfl,h⟩
theorem zNV{x j pos}:PE X (.Constant (.str x) j pos) (tC (.str x)):=fun _ _ _ H _ I h=>Calls.Constant_str ⟨.str x,H,I.tok _,⟨_,rfl⟩,h⟩
def Gl(X:Cx)(x:Str):Prop:=X.env.kindOf x=some .globalImplicit
theorem zFG{E:Value->Shared->Prop}{pins:List (Addr×Obj)}{s:Shared}{σ:St}{H:Hp}{x:Str}{u:Value}{pos:Pos}{Q:Value->Shared->Prop}(I:Inv X pins σ H s)(hg:Gl X x)(hm:X.mg x=some u)(h:Q u s)
  (hd:(x==("__debug__" :Str))=false:=by decide):wpAny (model X.prog X.w) X.A (eval (.Name x pos) X.env) Q E s:=
 Calls.Name_function_global I.ok.kind hg (Calls.loadGlobal_global (by rw [I.ok.glob];exact I.mod.glob.keeps I.bk) hm h) hd
theorem zBm{E:Value->Shared->Prop}{pins:List (Addr×Obj)}{s:Shared}{σ:St}{H:Hp}{x:Str}{u:Value}{pos:Pos}{Q:Value->Shared->Prop}(I:Inv X pins σ H s)(hg:Gl X x)(hm:X.mg x=none)(hv:bootBuiltins x=some u)(h:Q u s)
  (hn:x≠ "__name__" :=by decide) (hd:(x==("__debug__" :Str))=false:=by decide):wpAny (model X.prog X.w) X.A (eval (.Name x pos) X.env) Q E s:=by
 obtain ⟨mb,h1,h2⟩:=I.mod.blt;exact Calls.Name_function_global I.ok.kind hg (Calls.loadGlobal_builtin (by rw [I.ok.glob];exact I.mod.glob.keeps I.bk) hm (by rw [I.ok.blt];exact h1.keeps I.bk) ((h2 x hn).trans hv) h) hd
theorem zMI{x:Str}{v:V}{u:Value}{pos:Pos}(hg:Gl X x)(hm:X.mg x=some u)(r:zg v u)(hd:(x==("__debug__" :Str))=false:=by decide):PE X (.Name x pos) (tC v):=
 fun _ _ _ H _ I h=>zFG I hg hm ⟨v,H,I,r,h⟩ hd
theorem zFN{x:Str}{v:V}{u:Value}{pos:Pos}(hg:Gl X x)(hm:X.mg x=none)(hv:bootBuiltins x=some u)(r:zg v u)(hn:x≠ "__name__" :=by decide)(hd:(x==("__debug__" :Str))=false:=by decide):PE X (.Name x pos) (tC v):=
 fun _ _ _ H _ I h=>zBm I hg hm hv ⟨v,H,I,r,h⟩ hn hd
variable {a b:Expr}{ta tb:TE}{pos:Pos}
def PC(X:Cx)(op:CmpOp)(a b:Expr)(t:TE):Prop:=
 ∀(pins:List (Addr×Obj)) (s:Shared) (σ:St) (H:Hp) (Q:VK),Inv X pins σ H s->t σ H Q->
  wpAny (model X.prog X.w) X.A (eval a X.env) (fun v s₁=>wpAny (model X.prog X.w) X.A (eval b X.env) (fun u s₂=>wpAny (model X.prog X.w) X.A (compareOp op v u) (EP X pins σ Q) X.xe s₂) X.xe s₁) X.xe s
def zIS(ta:TE):TE:=fun σ H Q=>ta σ H fun x H1=>Q (.bl (!decide (x= .non))) H1
theorem zg.none_iff{x:V}{v:Value}(r:zg x v):(v==Value.none)=decide (x= .non):=by
 cases x with
 | non=>cases r;rfl
 | bl _=>cases r;rfl
 | int _=>obtain ⟨t,rfl⟩:=r;rfl
 | str _=>obtain ⟨t,rfl⟩:=r;rfl
 | byt _=>obtain ⟨t,rfl⟩:=r;rfl
 | flt _=>obtain ⟨t,rfl⟩:=r;rfl
 | ref _=>cases r;rfl
 | ty _=>cases r;rfl
theorem zHh{j pos'}(ha:PE X a ta):PC X .IsNot a (.Constant .none j pos') (zIS ta):=by
 intro pins s σ H Q I h;refine zd (ha pins s σ H _ I h) fun v s1 ⟨x,H1,I1,r1,q1⟩=>?_;exact Constant_none (isnot_none_gen ⟨.bl _,H1,I1,by rw [r1.none_iff];rfl,q1⟩)
inductive XB (x:V) (H:Hp) (Q:Bool->Hp->Prop):Prop
 | mk (c:Bool) (h:x= .bl c) (q:Q c H)
def tB(t:TE):TT:=fun σ H Q=>t σ H fun x H1=>XB x H1 Q
theorem zOM{op:CmpOp}{t:TE}(h:PC X op a b t)(h1:behindInMarks op b=false:=by first | exact nobehind _ (by decide) (by decide)| rfl):PE X (.Compare a [op] [b] pos) t:=fun pins s σ H Q I hw=>wpAny_Compare1 (h pins s σ H Q I hw) h1
theorem zOI{op:CmpOp}{t:TE}(h:PC X op a b t)(h1:behindInMarks op b=false:=by first | exact nobehind _ (by decide) (by decide)| rfl):PT X (.Compare a [op] [b] pos) (tB t):=by
 intro pins s σ H Q I hw;refine wpAny_isTrue_Compare1 (zd (h pins s σ H _ I hw) fun v s1 h1=>zd h1 fun u s2 h2=>zd h2 fun c s3 ⟨x,H1,I1,r1,q1⟩=>?_) h1;obtain ⟨d,rfl,q⟩:=q1;cases r1;exact zQG ⟨H1,I1,q⟩
theorem zOC{e:Expr}{t:TE}(h:PE X e t)(he: ∀whole,isTrue e X.env whole=(do let v<-whole;standAt e.pos;holding [v] (truthy v)):=by intro _;rfl):PT X e (tB t):=by
 intro pins s σ H Q I hw;refine isTrue_plain (zd (h pins s σ H _ I hw) fun v s1 ⟨x,H1,I1,r1,q1⟩=>?_) (he _);obtain ⟨d,rfl,q⟩:=q1;cases r1;exact zQG ⟨H1,I1,q⟩
variable {tA tB':TT}{rest:List Expr}
def zNt(t u:TT):TT:=fun σ H Q=>t σ H fun c H1=>if c=true then u σ H1 Q else Q false H1
def tOr(t u:TT):TT:=fun σ H Q=>t σ H fun c H1=>if c=true then Q true H1 else u σ H1 Q
def zNH(t:TT):TT:=fun σ H Q=>t σ H fun c H1=>Q (!c) H1
theorem zMR(ha:PT X a tA):PW X (.BoolOp .And [a] pos) tA:=by
 intro wh pins s σ H Q I h;refine isTrue_and (zd (ha pins s σ H Q I h) fun c s1 e=>?_);cases c with
 | true=>exact isTrue_and_nil e
 | false=>exact e
theorem zNA(ha:PT X a tA):PW X (.BoolOp .Or [a] pos) tA:=by
 intro wh pins s σ H Q I h;refine isTrue_or (zd (ha pins s σ H Q I h) fun c s1 e=>?_);cases c with
 | false=>exact isTrue_or_nil e
 | true=>exact e
theorem zON(ha:PT X a tA)(hb:PW X (.BoolOp .And (b::rest) pos) tB'):PW X (.BoolOp .And (a::b::rest) pos) (zNt tA tB'):=by
 intro wh pins s σ H Q I h;refine isTrue_and (zd (ha pins s σ H _ I h) fun c s1 ⟨H1,I1,q1⟩=>?_);cases c with
 | true=>exact hb wh pins s1 σ H1 Q I1 q1
 | false=>exact ⟨H1,I1,q1⟩
theorem zOy(ha:PT X a tA)(hb:PW X (.BoolOp .Or (b::rest) pos) tB'):PW X (.BoolOp .Or (a::b::rest) pos) (tOr tA tB'):=by
 intro wh pins s σ H Q I h;refine isTrue_or (zd (ha pins s σ H _ I h) fun c s1 ⟨H1,I1,q1⟩=>?_);cases c with
 | true=>exact ⟨H1,I1,q1⟩
 | false=>exact hb wh pins s1 σ H1 Q I1 q1
theorem zNl(ha:PT X a tA):PT X (.UnaryOp .Not a pos) (zNH tA):=by
 intro pins s σ H Q I h;exact isTrue_not (ha pins s σ H (fun c H1=>Q (!c) H1) I h)
inductive XAnd (tb:TE) (x:V) (σ:St) (H:Hp) (Q:VK):Prop
 | mk (c:Bool) (h:x= .bl c) (q:if c=true then tb σ H Q else Q (.bl false) H)
def zLI(ta tb:TE):TE:=fun σ H Q=>ta σ H fun x H1=>XAnd tb x σ H1 Q
inductive XNot (x:V) (H:Hp) (Q:VK):Prop
 | mk (c:Bool) (h:x= .bl c) (q:Q (.bl (!c)) H)
def zLD(ta:TE):TE:=fun σ H Q=>ta σ H fun x H1=>XNot x H1 Q
theorem zJO{op}{t:TE}(h:PE X a t):PE X (.BoolOp op [a] pos) t:=fun pins s σ H Q I hw=>BoolOp_one (h pins s σ H Q I hw)
theorem zJE(ha:PE X a ta)(hb:PE X (.BoolOp .And (b::rest) pos) tb):PE X (.BoolOp .And (a::b::rest) pos) (zLI ta tb):=by
 intro pins s σ H Q I h;refine BoolOp_and (zd (ha pins s σ H _ I h) fun v s1 ⟨x,H1,I1,r1,q1⟩=>?_);obtain ⟨c,rfl,q1⟩:=q1;cases r1;refine zQG ?_;cases c with
 | true=>exact hb pins s1 σ H1 Q I1 q1
 | false=>exact ⟨.bl false,H1,I1,rfl,q1⟩
theorem zJg(ha:PE X a ta):PE X (.UnaryOp .Not a pos) (zLD ta):=by
 intro pins s σ H Q I h;refine UnaryOp_ (zd (ha pins s σ H _ I h) fun v s1 ⟨x,H1,I1,r1,q1⟩=>?_);obtain ⟨c,rfl,q1⟩:=q1;cases r1;exact not_of (zQG ⟨.bl (!c),H1,I1,rfl,q1⟩)
def tIf(t:TT)(ta tb:TE):TE:=fun σ H Q=>t σ H fun c H1=>if c=true then ta σ H1 Q else tb σ H1 Q
theorem zKi{c:Expr}(hc:PT X c tA)(ha:PE X a ta)(hb:PE X b tb):PE X (.IfExp c a b pos) (tIf tA ta tb):=by
 intro pins s σ H Q I h;refine wpAny_IfExp (zd (hc pins s σ H _ I h) fun d s1 ⟨H1,I1,q1⟩=>?_);cases d with
 | true=>exact ha pins s1 σ H1 Q I1 q1
 | false=>exact hb pins s1 σ H1 Q I1 q1
end
def SqL(K:zQK)(H:Hp)(a:Addr)(xs:List V):Prop:=
 Rd H a (.lst xs)\/
  ∃(o:Obj) (its:Array Value) (n:Nat),K.lookup a=some o/\o.cls= .type "list" /\o.dict=none/\o.data= .seq its n/\its.size<=sizeLine/\zQ xs its.toList
def SqT(K:zQK)(H:Hp)(a:Addr)(xs:List V):Prop:=
 Rd H a (.tup xs)\/
  ∃(o:Obj) (its:Array Value) (n:Nat),K.lookup a=some o/\o.cls= .type "tuple" /\o.data= .seq its n/\its.size<=sizeLine/\zQ xs its.toList
def zPP:Value->Option V
 | .none=>some .non
 | .bool b=>some (.bl b)
 | .int i _=>some (.int i)
 | .str x _=>some (.str x)
 | .bytes b _=>some (.byt b)
 | .float b _=>some (.flt b)
 | .ref a=>some (.ref a)
 | .type n=>some (.ty n)
 | _=>none
theorem zg.abs{x:V}{u:Value}(r:zg x u):zPP u=some x:=by
 cases x with
 | non=>cases r;rfl
 | bl _=>cases r;rfl
 | int _=>obtain ⟨t,rfl⟩:=r;rfl
 | str _=>obtain ⟨t,rfl⟩:=r;rfl
 | byt _=>obtain ⟨t,rfl⟩:=r;rfl
 | flt _=>obtain ⟨t,rfl⟩:=r;rfl
 | ref _=>cases r;rfl
 | ty _=>cases r;rfl
theorem zg.inj{x y:V}{u:Value}(r:zg x u)(q:zg y u):x=y:=Option.some.inj (r.abs.symm.trans q.abs)
theorem zQ.inj: ∀{xs ys:List V} {us:List Value},zQ xs us->zQ ys us->xs=ys
 | _,_,_,.nil,.nil=>rfl
 | _,_,_,.cons r t,.cons r' t'=>by rw [r.inj r',zQ.inj t t']
section
variable {X:Cx}{pins:List (Addr×Obj)}{σ:St}{H:Hp}{s:Shared}{a:Addr}{xs ys:List V}
theorem SqL.of{K:zQK}(h:H a=some (.lst xs)):SqL K H a xs:= .inl (.inl h)
theorem SqT.of{K:zQK}(h:H a=some (.tup xs)):SqT K H a xs:= .inl (.inl h)
theorem Inv.list(I:Inv X pins σ H s)(h:SqL X.K H a xs): ∃its:List Value,zQ xs its/\PlainL s.heap a its.toArray/\xs.length<=sizeLine:=by
 rcases h with h |⟨o,its,n,hk,hc,hd,hs,hz,r⟩
 ·obtain ⟨z,its,n,r,e⟩:=h.ok I.hok;exact ⟨its,r,⟨_,n,e,rfl,rfl,rfl⟩,z⟩
 ·refine ⟨its.toList,r,⟨o,n,I.kIn a o hk,hc,hd,by simpa using hs⟩,?_⟩;have e:=r.length;simp only [Array.length_toList] at e;omega
theorem Inv.tuple(I:Inv X pins σ H s)(h:SqT X.K H a xs): ∃its:List Value,zQ xs its/\IsTup s.heap a its.toArray/\xs.length<=sizeLine:=by
 rcases h with h |⟨o,its,n,hk,hc,hs,hz,r⟩
 ·obtain ⟨z,its,r,o,e,c,⟨n,d⟩,_⟩:=h.ok I.hok;exact ⟨its,r,⟨o,e,c,n,d⟩,z⟩
 ·refine ⟨its.toList,r,⟨o,I.kIn a o hk,hc,n,by simpa using hs⟩,?_⟩;have e:=r.length;simp only [Array.length_toList] at e;omega
theorem Inv.list_inj(I:Inv X pins σ H s)(h:SqL X.K H a xs)(h':SqL X.K H a ys):xs=ys:=by
 obtain ⟨its,r,⟨o,n,e,_,_,d⟩,_⟩:=I.list h;obtain ⟨its',r',⟨o',n',e',_,_,d'⟩,_⟩:=I.list h';rw [e] at e';cases e';rw [d] at d';injection d' with d1 _;have:its=its':=by simpa using congrArg Array.toList d1
 subst this;exact r.inj r'
end
abbrev Cx.wish(X:Cx)(E:Value->Shared->Prop):Cx:={X with xe:=E}
abbrev Cx.nox(X:Cx):Cx:=X.wish fun _ _=>False
theorem Cx.Ok.wish{X:Cx}(ok:X.Ok)(E:Value->Shared->Prop):(X.wish E).Ok:=
 ⟨ok.mod,ok.kind,ok.glob,ok.blt,ok.above,ok.inj,ok.has,ok.cab,ok.hd,ok.frames,ok.stk,ok.exf,ok.bs,ok.bsz,ok.noex,ok.exfs,ok.funs,ok.frf⟩
theorem Cx.Ok.unwish{X:Cx}{E:Value->Shared->Prop}(ok:(X.wish E).Ok):X.Ok:=
 ⟨ok.mod,ok.kind,ok.glob,ok.blt,ok.above,ok.inj,ok.has,ok.cab,ok.hd,ok.frames,ok.stk,ok.exf,ok.bs,ok.bsz,ok.noex,ok.exfs,ok.funs,ok.frf⟩
section
variable {X:Cx}{pins:List (Addr×Obj)}{σ:St}{H:Hp}{s:Shared}{E:Value->Shared->Prop}
theorem Inv.wish(I:Inv X pins σ H s)(E:Value->Shared->Prop):Inv (X.wish E) pins σ H s:=⟨I.ok.wish E,I.os,I.bare,I.base,I.loc,I.cell,I.free,I.freeC,I.pin,I.hok,I.len⟩
theorem Inv.unwish(I:Inv (X.wish E) pins σ H s):Inv X pins σ H s:=⟨I.ok.unwish,I.os,I.bare,I.base,I.loc,I.cell,I.free,I.freeC,I.pin,I.hok,I.len⟩
theorem SP.unwish{D:Ends}{f:Flow}{s':Shared}(h:SP (X.wish E) pins D f s'):SP X pins D f s':=by
 cases f with
 | next=>obtain ⟨σ',H',I,q⟩:=h;exact ⟨σ',H',I.unwish,q⟩
 | brk=>obtain ⟨σ',H',I,q⟩:=h;exact ⟨σ',H',I.unwish,q⟩
 | cont=>obtain ⟨σ',H',I,q⟩:=h;exact ⟨σ',H',I.unwish,q⟩
 | ret u=>obtain ⟨v,σ',H',I,r,q⟩:=h;exact ⟨v,σ',H',I.unwish,r,q⟩
theorem PSs.nox{st:List Stmt}{t:TS}(h:PSs X.nox st t):PSs X st t:=fun pins s σ H D I hw=>
 zPq (h pins s σ H D (I.wish _) hw) (fun _ _ q=>q.unwish) fun _ _ z=>False.elim z
end
section
variable {X:Cx}{st:Stmt}{rest:List Stmt}{t u:TS}{e:Expr}{te:TE}{pos:Pos}
def zLB:TS:=fun D σ H=>D.nx σ H
def zNj(t u:TS):TS:=fun D σ H=>t {D with nx:=u D} σ H
theorem zHV:PSs X [] zLB:=fun _ _ σ H _ I h=>wpAny_execs_nil ⟨σ,H,I,h⟩
theorem zAV(h1:PS X st t)(h2:PSs X rest u):PSs X (st::rest) (zNj t u):=by
 intro pins s σ H D I h;refine wpAny_execs_cons (zd (h1 pins s σ H {D with nx:=u D} I h) fun f s1 q=>?_);cases f with
 | next=>
  obtain ⟨σ',H',I',q⟩:=q;exact h2 pins s1 σ' H' D I' q
 | ret v=>exact q
 | brk=>exact q
 | cont=>exact q
theorem zBL(h1:PS X st t):PSs X [st] t:=by
 intro pins s σ H D I h;refine wpAny_execs_cons (zd (h1 pins s σ H D I h) fun f s1 q=>?_);cases f with
 | next=>exact wpAny_execs_nil q
 | ret v=>exact q
 | brk=>exact q
 | cont=>exact q
theorem Inv.quiet{pins:List (Addr×Obj)}{σ:St}{H:Hp}{s:Shared}(I:Inv X pins σ H s):interactive X.env=false:=by simp [interactive,I.ok.kind]
def zLY(te:TE):TS:=fun D σ H=>te σ H fun _ H1=>D.nx σ H1
theorem zLa(he:PE X e te)(hs:swapsWith e none pos.line X.env=pure false:=by rfl):PS X (.Expr e pos) (zLY te):=by
 intro pins s σ H D I h;exact wpAny_Expr_any (zd (he pins s σ H _ I h) fun v s1 ⟨x,H1,I1,r1,q1⟩=>⟨σ,H1,I1,q1⟩) I.quiet hs
def zNR(te:TE):TS:=fun D σ H=>te σ H D.rt
theorem zCZ(he:PE X e te):PS X (.Return (some e) pos) (zNR te):=by
 intro pins s σ H D I h;exact wpAny_Return_some (zd (he pins s σ H _ I h) fun v s1 ⟨x,H1,I1,r1,q1⟩=>⟨x,σ,H1,I1,r1,q1⟩)
def zOQ(c:TT)(t u:TS):TS:=fun D σ H=>c σ H fun b H1=>if b=true then t D σ H1 else u D σ H1
theorem zLE{c:Expr}{a b:List Stmt}{tc:TT}(hc:PT X c tc)(ha:PSs X a t)(hb:PSs X b u):PS X (.If c a b pos) (zOQ tc t u):=by
 intro pins s σ H D I h;refine wpAny_If (zd (hc pins s σ H _ I h) fun d s1 ⟨H1,I1,q1⟩=>?_);cases d with
 | true=>exact ha pins s1 σ H1 D I1 q1
 | false=>exact hb pins s1 σ H1 D I1 q1
def zJj:TS:=fun _ _ _=>False
theorem zJG{sts:List Stmt}:PSs X sts zJj:=fun _ _ _ _ _ _ h=>h.elim
end
abbrev TG:=V->St->Hp->(St->Hp->Prop)->Prop
abbrev TGs:=List V->St->Hp->(St->Hp->Prop)->Prop
def PG(X:Cx)(target:Expr)(t:TG):Prop:=
 ∀(pins:List (Addr×Obj)) (s:Shared) (σ:St) (H:Hp) (v:V) (u:Value) (Q:St->Hp->Prop),Inv X pins σ H s->zg v u->t v σ H Q->
  wpAny (model X.prog X.w) X.A (assign target X.env u) (fun _ s'=> ∃σ' H',Inv X pins σ' H' s'/\Q σ' H') X.xe s
def PGs(X:Cx)(ts:List Expr)(t:TGs):Prop:=
 ∀(pins:List (Addr×Obj)) (s:Shared) (σ:St) (H:Hp) (vs:List V) (us:List Value) (Q:St->Hp->Prop),Inv X pins σ H s->zQ vs us->t vs σ H Q->
  wpAny (model X.prog X.w) X.A (assignInOrder ((assignEach ts X.env).map (·.2)) us) (fun _ s'=> ∃σ' H',Inv X pins σ' H' s'/\Q σ' H') X.xe s
abbrev zPQ:=V->V->V->Hp->(Hp->Prop)->Prop
def zPJ(X:Cx)(t:zPQ):Prop:=
 ∀(pins:List (Addr×Obj)) (s:Shared) (σ:St) (H:Hp) (o i v:V) (ov iv u:Value) (Q:Hp->Prop),Inv X pins σ H s->zg o ov->zg i iv->zg v u->t o i v H Q->
  wpAny (model X.prog X.w) X.A (setItem ov iv u) (fun _ s'=> ∃H',Inv X pins σ H' s'/\Q H') X.xe s
section
variable {X:Cx}{pos:Pos}
def yR(i:Nat):TG:=fun v σ H Q=>Q (σ.set i (some v)) H
theorem zLn{i:Nat}{x:Str}(hN:X.N.Nodup)(hi:X.N[i]?=some x)(hx:Loc X.env.scope x)(hf:X.fn x=true\/X.env.scope.names.lookup x=some .local:=by first | exact .inl rfl | exact .inr rfl | assumption):PG X (.Name x pos) (yR i):=by
 intro pins s σ H v u Q I r h;exact wpAny_assign_Name (zGI I hN hi hx r (fun s' I'=>⟨_,H,I',h⟩) hf)
def zMu:TGs:=fun vs σ H Q=>vs= [] /\Q σ H
inductive XCons (t:TG) (u:TGs) (vs:List V) (σ:St) (H:Hp) (Q:St->Hp->Prop):Prop
 | mk (v:V) (r:List V) (h:vs=v::r) (q:t v σ H fun σ' H'=>u r σ' H' Q)
def zLS(t:TG)(u:TGs):TGs:=fun vs σ H Q=>XCons t u vs σ H Q
theorem zLo:PGs X [] zMu:=by
 intro pins s σ H vs us Q I r h;obtain ⟨e,h⟩:=h;subst e;cases r;exact assignInOrder_nil ⟨σ,H,I,h⟩
theorem zKj{e:Expr}{es:List Expr}{t:TG}{u:TGs}(h1:PG X e t)(h2:PGs X es u)
  (hs:(assignEach (e::es) X.env).map (·.2)=assign e X.env::(assignEach es X.env).map (·.2):=by rfl):PGs X (e::es) (zLS t u):=by
 intro pins s σ H vs us Q I r h;obtain ⟨v,vr,e1,h⟩:=h;subst e1;cases r with
 | cons r rr=>
  rw [hs];refine assignInOrder_cons (zd (h1 pins s σ H _ _ _ I r h) fun _ s1 ⟨σ1,H1,I1,q1⟩=>?_);exact h2 pins s1 σ1 H1 _ _ Q I1 rr q1
inductive XTup (K:zQK) (n:Nat) (t:TGs) (v:V) (σ:St) (H:Hp) (Q:St->Hp->Prop):Prop
 | mk (a:Addr) (xs:List V) (h:v= .ref a) (h2:SqT K H a xs) (h3:xs.length=n) (q:t xs σ H Q)
def zNK(K:zQK)(n:Nat)(t:TGs):TG:=fun v σ H Q=>XTup K n t v σ H Q
theorem zOP{es:List Expr}{k:Nat}{t:TGs}{n:Nat}(hc:X.calm=true)(h:PGs X es t)
  (hn:(assignEach es X.env).length=n:=by rfl) (hst:(assignEach es X.env).findIdx? (·.1)=none:=by rfl):PG X (.Tuple es k pos) (zNK X.K n t):=by
 intro pins s σ H v u Q I r hw;obtain ⟨a,xs,e1,hq,hl,hw⟩:=hw;subst e1;cases r;obtain ⟨its,rv,ht,hz⟩:=I.tuple hq;refine assign_Tuple_tuple (I.ok.hd hc) ht (by simp [hn,<-hl,rv.length]) hst fun h' hx=>?_;have I1:Inv X pins σ H {s with heap:=h'}:=I.kept (t':=s.toks) fun b o e=>hx b o (zPd (zPf e)) e;exact h pins _ σ H xs _ Q I1 (by simpa using rv) hw
def zCg(te:TE)(g:TG):TS:=fun D σ H=>te σ H fun x H1=>g x σ H1 D.nx
theorem zNv{tg e:Expr}{te:TE}{g:TG}(he:PE X e te)(hg:PG X tg g)(hs:swapsWithSole [tg] e pos.line X.env=pure false:=by rfl)(hw:swappedStores [tg] e X.env=pure none:=by rfl)
  (h1:(assignEach [tg] X.env).map (·.2)= [assign tg X.env] :=by rfl):PS X (.Assign [tg] e pos) (zCg te g):=by
 intro pins s σ H D I h;refine wpAny_Assign_stores (zd (he pins s σ H _ I h) fun v s1 ⟨x,H1,I1,r1,q1⟩=>?_) hs hw;rw [h1];exact zd (hg pins s1 σ H1 x v _ I1 r1 q1) fun _ s2 q=>q
theorem zBj{i:Nat}{x:Str}{e:Expr}{te:TE}{pos':Pos}(hN:X.N.Nodup)(hi:X.N[i]?=some x)(hx:Loc X.env.scope x)(he:PE X e te)(hs:swapsWith e (some (.Name x pos')) pos.line X.env=pure false:=by rfl)(hf:X.fn x=true\/X.env.scope.names.lookup x=some .local:=by first | exact .inl rfl | exact .inr rfl | assumption):
  PS X (.Assign [.Name x pos'] e pos) (zCg te (yR i)):=by
 intro pins s σ H D I h;refine wpAny_Assign_Name (zd (he pins s σ H _ I h) fun v s1 ⟨y,H1,I1,r1,q1⟩=>?_) hs;exact zGI I1 hN hi hx r1 (fun s2 I2=>⟨_,H1,I2,q1⟩) hf
end
section
variable {X:Cx}{pos:Pos}
def zGh(c:TT)(tb:TS):TS:=fun D σ H=> ∃W:Nat->St->Hp->Prop,(∃m,W m σ H)/\ ∀m σ H,W m σ H->
 c σ H fun b H1=>if b=true then∃N:St->Hp->Prop,(∀σ' H',N σ' H'-> ∃m',m'<m/\W m' σ' H')/\tb {D with nx:=N,ct:=N,bk:=D.nx} σ H1 else D.nx σ H1
theorem zHB{c:Expr}{body:List Stmt}{tc:TT}{tb:TS}(hp:PassesOwn (model X.prog X.w) X.A X.env X.xe)(hc:PT X c tc)(hb:PSs X body tb):PS X (.While c body [] pos) (zGh tc tb):=by
 intro pins s σ H D I h;obtain ⟨W,⟨m0,w0⟩,turn⟩:=h;refine wpAny_While (codeAny_whileLoop (fun n s'=> ∃σ' H',Inv X pins σ' H' s'/\W n σ' H') ?_ m0 ⟨σ,H,I,w0⟩);rintro n s1 ⟨σ1,H1,I1,w1⟩;refine wpAny_passesOwn hp (zd (hc pins s1 σ1 H1 _ I1 (turn n σ1 H1 w1)) fun b s2 ⟨H2,I2,q2⟩=>?_);cases b with
 | true=>
  obtain ⟨N,hN,q2⟩:=q2;rw [if_pos rfl];refine wpAny_passesOwn hp (zd (hb pins s2 σ1 H2 _ I2 q2) fun f s3 q3=>?_);cases f with
  | next=>
   obtain ⟨σ3,H3,I3,n3⟩:=q3;obtain ⟨m',hm,w3⟩:=hN σ3 H3 n3;exact ⟨m',hm,σ3,H3,I3,w3⟩
  | cont=>
   obtain ⟨σ3,H3,I3,n3⟩:=q3;obtain ⟨m',hm,w3⟩:=hN σ3 H3 n3;exact ⟨m',hm,σ3,H3,I3,w3⟩
  | brk=>exact q3
  | ret v=>exact q3
 | false=>
  rw [if_neg zPi];exact wpAny_execs_nil ⟨σ1,H2,I2,q2⟩
end
structure It where
 go:Nat->Hp->Prop
 yld:Nat->Hp->V->Hp->Prop
 stop:Nat->Hp->Prop
def zAo(X:Cx)(pins:List (Addr×Obj))(H:Hp)(b:Addr):Prop:=
 H b=none/\b≠X.env.locals/\b∉X.fs/\(b∈X.ex\/X.s₀.heap.objs.size<=b)/\(∀x c,X.env.cells.lookup x=some c->c≠b)/\ ∀p∈X.pn++pins,p.1≠b
theorem Inv.fpOk{X:Cx}{pins:List (Addr×Obj)}{σ:St}{H H':Hp}{s:Shared}{b:Addr}(I:Inv X pins σ H s)(hb:s.heap.objs.size<=b)(hn:H' b=none):zAo X pins H' b:=by
 refine ⟨hn,zQE (zPe I.lt hb),I.nofs hb,.inr (zPj I.sz hb),fun x c e z=>?_,fun p hp z=>?_⟩
 ·obtain ⟨v,q⟩:=I.cell x c e;exact absurd (zPe q.lt (by rw [z];exact hb)) (Nat.lt_irrefl _)
 ·exact absurd (zPe (zPf (I.pin p hp).1) (by rw [z];exact hb)) (Nat.lt_irrefl _)
structure Turn(P:Program)(w:World)(K:zQK)(tg:Expr)(J:It)(fp:List Addr)(it:Addr)(tn:Nat->Heap->Prop):Prop where
 mem:it∈fp
 obj: ∀i h,tn i h-> ∀b∈fp,∃o,h.get? b=some o/\ ∀v,o.data≠ .cell v
 keep: ∀i h h',tn i h->(∀b∈fp,∀o,h.get? b=some o->h'.get? b=some o)->tn i h'
 item: ∀(X:Cx),X.prog=P->X.w=w->X.K=K->X.calm=true-> ∀(i:Nat) (pins:List (Addr×Obj)) (s:Shared) (σ:St) (H:Hp) (E:Value->Shared->Prop),Inv X pins σ H s->(∀b∈fp,zAo X pins H b)->tn i s.heap->J.go i H->
  wpAny (model P w) X.A (pyNext (.ref it)) (fun r s1=> ∃u,r=some u/\
   wpAny (model P w) X.A (letOwnedTupleGo tg (.ref it) u) (fun _ s2=> ∃x H',Inv X pins σ H' s2/\zg x u/\J.yld i H x H'/\tn (i+1) s2.heap/\ ∀b∈fp,H' b=none) E s1) E s
 done: ∀(X:Cx),X.prog=P->X.w=w->X.K=K->X.calm=true-> ∀(i:Nat) (pins:List (Addr×Obj)) (s:Shared) (σ:St) (H:Hp) (E:Value->Shared->Prop),Inv X pins σ H s->(∀b∈fp,zAo X pins H b)->tn i s.heap->J.stop i H->
  wpAny (model P w) X.A (pyNext (.ref it)) (fun r s1=>r=none/\Inv X pins σ H s1) E s
 self: ∀(A:Around) (i:Nat) (s:Shared) (Q:Value->Shared->Prop) (E:Value->Shared->Prop),tn i s.heap->Q (.ref it) s->wpAny (model P w) A (pyIter (.ref it)) Q E s
abbrev TI:=St->Hp->(It->Hp->Prop)->Prop
def PIE(X:Cx)(pins:List (Addr×Obj))(σ:St)(tg:Expr)(R:It->Hp->Prop)(itv:Value)(s2:Shared):Prop:=
 ∃(it:Addr) (fp:List Addr) (tn:Nat->Heap->Prop) (J:It) (H':Hp),itv= .ref it/\Inv X pins σ H' s2/\Turn X.prog X.w X.K tg J fp it tn/\tn 0 s2.heap/\(∀b∈fp,zAo X pins H' b)/\R J H'
def PI(X:Cx)(tg iter:Expr)(wi:TI):Prop:=
 ∀(pins:List (Addr×Obj)) (s:Shared) (σ:St) (H:Hp) (R:It->Hp->Prop),Inv X pins σ H s->wi σ H R->
  wpAny (model X.prog X.w) X.A (eval iter X.env) (fun v s1=>wpAny (model X.prog X.w) X.A (pyIter v) (PIE X pins σ tg R) X.xe s1) X.xe s
theorem zIP{M:Model}{A:Around}{E:Value->Shared->Prop}{s:Shared}{tg:Expr}{it:Addr}{u:Value}{o:Obj}{n:String}{vs:Array Value}{Q:Unit->Shared->Prop}(ho:s.heap.get? it=some o)(hc:o.cls= .type n)(hd:o.data= .fields vs)
  (hn: ["enumerate","zip","dict_itemiterator","dict_reverseitemiterator","odict_iterator","itertools.zip_longest","itertools.pairwise"].contains n=false) (hQ:Q () s):wpAny M A (letOwnedTupleGo tg (.ref it) u) Q E s:=by
 unfold letOwnedTupleGo;cases tg<;>first
  | exact zPb hQ
  |(cases u<;>first
    | exact zPb hQ
    |(refine zPW (wpAny_load ho ?_)
      rw [hc,hd];show wpAny M A (if (["enumerate","zip","dict_itemiterator","dict_reverseitemiterator","odict_iterator","itertools.zip_longest","itertools.pairwise"].contains n&&vs[0]?==some (rawInt _))=true then _ else _) Q E s;rw [if_neg (by intro h;rw [hn,Bool.false_and] at h;cases h)];exact zPb hQ))
def Itl(K:zQK)(a:Addr):It:=
 ⟨fun i H=> ∃xs x,SqL K H a xs/\xs[i]?=some x,fun i H x H'=>H'=H/\ ∀xs,SqL K H a xs->xs[i]?=some x,fun i H=> ∃xs,SqL K H a xs/\xs.length<=i⟩
def Itr(lo:Int)(n:Nat):It:=⟨fun i _=>i<n,fun i H x H'=>H'=H/\x= .int (lo+i),fun i _=>n<=i⟩
theorem zJM{P:Program}{w:World}{K:zQK}{tg:Expr}(a it:Addr):Turn P w K tg (Itl K a) [it] it (fun i h=>h.IsListIter it a i) where
 mem:=by simp
 obj:=fun i h st b hb=>by
  have e:b=it:=by simpa using hb
  subst e;obtain ⟨o,e,c,d⟩:=st;exact ⟨o,e,fun v z=>by rw [d] at z;cases z⟩
 keep:=fun i h h' st k=>st.at fun o e=>k it (by simp) o e
 item:=by
  intro X hP hw hK hc i pins s σ H E I hf st hg;subst hP hw hK;obtain ⟨xs,x,hq,hx⟩:=hg;obtain ⟨its,rv,p,hz⟩:=I.list hq;obtain ⟨u,hu,ru⟩:=rv.get hx;obtain ⟨f0,f1,f2,f3,f4,f5⟩:=hf it (by simp);refine wpAny_pyNext_list_item st p.isList (x:=u) (by simpa using hu) fun h' st' sb=>?_;have I1:Inv X pins σ H {s with heap:=h'}:=I.turned (t':=s.toks) (fun b o hb e=>(sb.2 b hb).trans e) f0 f1 f3 f4 f5;obtain ⟨o,e,c,d⟩:=id st';exact ⟨u,rfl,zIP (s:={s with heap:=h'}) e c d (by decide) ⟨x,H,I1,ru,⟨rfl,fun ys hy=>by rw [I.list_inj hy hq];exact hx⟩,st',fun b hb=>(hf b hb).1⟩⟩
 done:=by
  intro X hP hw hK hc i pins s σ H E I hf st hg;subst hP hw hK;obtain ⟨xs,hq,hx⟩:=hg;obtain ⟨its,rv,p,hz⟩:=I.list hq;obtain ⟨f0,f1,f2,f3,f4,f5⟩:=hf it (by simp);have hl:=rv.length;exact wpAny_pyNext_list_end (I.ok.hd hc) st p.isList (by simp;omega) fun h' eb=>⟨rfl,I.turned (t':=s.toks) (fun b o hb e=>eb b o hb e) f0 f1 f3 f4 f5⟩
 self:=fun _ _ _ _ _ st h=>wpAny_pyIter_listiter st h
theorem zIg{P:Program}{w:World}{K:zQK}{tg:Expr}(it:Addr)(lo:Int)(n:Nat):Turn P w K tg (Itr lo n) [it] it (fun i h=>IsRangeIter h it (lo+(i:Nat)*1) ((n:Int) -(i:Nat)) 1) where
 mem:=by simp
 obj:=fun i h st b hb=>by
  have e:b=it:=by simpa using hb
  subst e;exact ⟨_,st,fun v z=>by
   have z':Data.fields _=Data.cell v:=z;cases z'⟩
 keep:=fun i h h' st k=>k it (by simp) _ st
 item:=by
  intro X hP hw hK hc i pins s σ H E I hf st hg;subst hP hw hK;obtain ⟨f0,f1,f2,f3,f4,f5⟩:=hf it (by simp);have W:=Walks.range (prog:=X.prog) (w:=X.w) (I.ok.hd hc) it lo 1 n;refine W.item i s _ _ hg st fun v h' tk hv st' kk=>?_;obtain ⟨t,rfl⟩:=hv;have I1:Inv X pins σ H {s with heap:=h',toks:=tk}:=I.turned (fun b o hb e=>kk b o (by simpa using hb) e) f0 f1 f3 f4 f5;refine ⟨_,rfl,zIP (s:={s with heap:=h',toks:=tk}) (n:= "range_iterator") st' rfl rfl (by decide) ⟨.int (lo+i),H,I1,⟨t,?_⟩,⟨rfl,rfl⟩,st',fun b hb=>(hf b hb).1⟩⟩;rw [Int.mul_one]
 done:=by
  intro X hP hw hK hc i pins s σ H E I hf st hg;subst hP hw hK;obtain ⟨f0,f1,f2,f3,f4,f5⟩:=hf it (by simp);exact wpAny_pyNext_range_end (I.ok.hd hc) st (by have:n<=i:=hg;omega) fun h' eb=>⟨rfl,I.turned (t':=s.toks) (fun b o hb e=>eb b o hb e) f0 f1 f3 f4 f5⟩
 self:=fun _ _ _ _ _ st h=>wpAny_pyIter_rangeiter st h
section
variable {X:Cx}{tg:Expr}
inductive XIl (K:zQK) (x:V) (H:Hp) (R:It->Hp->Prop):Prop
 | mk (a:Addr) (h:x= .ref a) (h2: ∃xs,SqL K H a xs) (q:R (Itl K a) H)
def zLQ(K:zQK)(tl:TE):TI:=fun σ H R=>tl σ H fun x H1=>XIl K x H1 R
theorem zMQ{l:Expr}{tl:TE}(hl:PE X l tl):PI X tg l (zLQ X.K tl):=by
 intro pins s σ H R I h;refine zd (hl pins s σ H _ I h) fun v s1 ⟨x,H1,I1,r1,q1⟩=>?_;obtain ⟨a,e,⟨xs,hq⟩,q⟩:=q1;subst e;cases r1;obtain ⟨its,rv,p,hz⟩:=I1.list hq;refine wpAny_pyIter_list p.isList ?_;refine ⟨s1.heap.objs.size,[s1.heap.objs.size],_,_,H1,rfl,I1.kept (t':=s1.toks) fun b o e=>zPX _ e,zJM a _,⟨_,zPo _ rfl,rfl,rfl⟩,fun b hb=>?_,q⟩;have e:b=s1.heap.objs.size:=by simpa using hb
 subst e;exact I1.fpOk (zPZ _) (I1.hok.fresh (zPZ _))
theorem zLA{pins:List (Addr×Obj)}{σ:St}{H:Hp}{s:Shared}{R:It->Hp->Prop}{E:Value->Shared->Prop}{lo hi:Int}{t u v:Tok}{tk:Nat}(I:Inv X pins σ H s)(h1: -(2^62)<=lo)(h2:lo<2^62)(h3: -(2^62)<=hi)(h4:hi<2^62)
  (q:R (Itr lo (hi - lo).toNat) H):wpAny (model X.prog X.w) X.A (pyIter (.ref s.heap.objs.size)) (PIE X pins σ tg R) E {s with heap:=s.heap.push {cls:= .type "range",data:= .fields #[.int lo t,.int hi u,.int 1 v]},toks:=tk}:=by
 refine wpAny_pyIter_range (IsRange.new ..) (small_one h1 h2 h3 h4) ?_;have I1:Inv X pins σ H {s with heap:=s.heap.push {cls:= .type "range",data:= .fields #[.int lo t,.int hi u,.int 1 v]},toks:=tk}:=I.kept fun b o e=>zPX _ e;refine ⟨(s.heap.push {cls:= .type "range",data:= .fields #[.int lo t,.int hi u,.int 1 v]}).objs.size,[(s.heap.push {cls:= .type "range",data:= .fields #[.int lo t,.int hi u,.int 1 v]}).objs.size],_,_,H,rfl,
  I1.kept (t':=tk) fun b o e=>zPX _ e,zIg _ lo (hi - lo).toNat,?_,fun b hb=>?_,q⟩
 ·have e1:lo+((0:Nat):Int)*1=lo:=by simp
  have e2:(((hi - lo).toNat:Nat):Int) -((0:Nat):Int)=Builtin.Range.rangeSize lo hi 1:=by rw [rangeSize_one];split<;>omega
  show IsRangeIter _ _ (lo+((0:Nat):Int)*1) ((((hi - lo).toNat:Nat):Int) -((0:Nat):Int)) 1;rw [e1,e2];exact zPo _ rfl
 ·have e:b=(s.heap.push {cls:= .type "range",data:= .fields #[.int lo t,.int hi u,.int 1 v]}).objs.size:=by simpa using hb
  subst e;exact I1.fpOk (zPZ _) (I1.hok.fresh (zPZ _))
def zLC(ta:TA):TI:=fun σ H R=>ta σ H fun vs H1=> ∃j:Int,vs= [.int j] /\ -(2^62)<=j/\j<2^62/\R (Itr 0 j.toNat) H1
theorem zIv{a:Expr}{ta:TA}{p pos:Pos}(hg:Gl X "range")(hm:X.mg "range" =none)(ha:PA X [a] ta)(hs:starEach [a] X.env= [(false,eval a X.env)] :=by rfl):PI X tg (.Call (.Name "range" p) [a] [] pos) (zLC ta):=by
 intro pins s σ H R I h;refine Call_ (zBm I hg hm boot_range (PyProof.Rows.callWith_type1 (zd (ha pos pins s σ H _ I h) fun us s1 ⟨vs,H1,I1,r1,q1⟩=>?_) hs rfl));obtain ⟨j,e,q1,q2,q⟩:=q1;subst e;cases r1 with
 | cons r rr=>
  cases rr;obtain ⟨t,rfl⟩:=r;exact call_range_1 (zLA I1 (by omega) (by omega) q1 q2 (by simpa using q))
def zNC(wi:TI)(g:TG)(tb:TS):TS:=fun D σ H=>wi σ H fun J H1=> ∃W:Nat->Nat->St->Hp->Prop,(∃m,W 0 m σ H1)/\ ∀i m σ H,W i m σ H->
 (J.stop i H/\D.nx σ H)\/(J.go i H/\ ∃N:St->Hp->Prop,(∀σ' H',N σ' H'-> ∃m',m'<m/\W (i+1) m' σ' H')/\ ∀x H',J.yld i H x H'->g x σ H' fun σ2 H2=>tb {D with nx:=N,ct:=N,bk:=D.nx} σ2 H2)
def zEp(fp:List Addr)(h:Heap):List (Addr×Obj):=fp.filterMap fun b=>(h.get? b).map fun o=>(b,o)
theorem yC{fp:List Addr}{h:Heap}{b:Addr}{o:Obj}(hb:b∈fp)(e:h.get? b=some o):(b,o)∈zEp fp h:=List.mem_filterMap.mpr ⟨b,hb,by rw [e];rfl⟩
theorem zJV{fp:List Addr}{h:Heap}{p:Addr×Obj}(hp:p∈zEp fp h):p.1∈fp/\h.get? p.1=some p.2:=by
 obtain ⟨b,hb,e⟩:=List.mem_filterMap.mp hp;cases q:h.get? b with
 | none=>rw [q] at e;cases e
 | some o=>
  rw [q] at e;have e':(b,o)=p:=Option.some.inj e;subst e';exact ⟨hb,q⟩
theorem Inv.pinned{pins:List (Addr×Obj)}{σ:St}{H:Hp}{s:Shared}{fp:List Addr}(I:Inv X pins σ H s)(hf: ∀b∈fp,zAo X pins H b)(ho: ∀b∈fp,∃o,s.heap.get? b=some o/\ ∀v,o.data≠ .cell v):Inv X (pins++zEp fp s.heap) σ H s:=
 I.pins_of fun p hp=>(List.mem_append.mp hp).elim (fun z=>I.pin p (zPl _ z)) fun z=>by
  obtain ⟨hb,e⟩:=zJV z;obtain ⟨f0,f1,f2,_⟩:=hf p.1 hb;obtain ⟨o,e',d⟩:=ho p.1 hb;rw [e] at e';cases e';exact ⟨e,f0,f1,f2,d⟩
theorem Inv.unpinned{pins pl:List (Addr×Obj)}{σ:St}{H:Hp}{s:Shared}(I:Inv X (pins++pl) σ H s):Inv X pins σ H s:=I.pins_of fun p hp=>I.pin p (zPl _ (List.mem_append_left _ hp))
theorem zNe{iter:Expr}{body:List Stmt}{wi:TI}{g:TG}{tb:TS}{pos:Pos}(hp:PassesOwn (model X.prog X.w) X.A X.env X.xe)(hc:X.calm=true)(hi:PI X tg iter wi)(hg:PG X tg g)(hb:PSs X body tb)
  (hs: ∀x,foldedSetIterable iter X.env x=pure x:=by intro _;rfl):PS X (.For tg iter body [] pos) (zNC wi g tb):=by
 intro pins s σ H D I h;refine wpAny_For (zd (hi pins s σ H _ I h) fun v s1 h1=>zd h1 fun itv s2 h2=>?_) hs;obtain ⟨it,fp,tn,J,H2,e,I2,T,st2,f2,W,⟨m0,w0⟩,turn⟩:=h2;subst e;have stat: ∀{H':Hp},(∀b∈fp,H' b=none)-> ∀b∈fp,zAo X pins H' b:=fun hn b hb=>⟨hn b hb,(f2 b hb).2⟩;refine codeAny_forLoop_any (fun n s'=> ∃i σ' H',Inv X pins σ' H' s'/\tn i s'.heap/\(∀b∈fp,H' b=none)/\W i n σ' H') ?_ m0 ⟨0,σ,H2,I2,st2,fun b hb=>(f2 b hb).1,w0⟩;rintro n s3 ⟨i,σ3,H3,I3,st3,fr3,w3⟩;rcases turn i n σ3 H3 w3 with ⟨stop,qn⟩|⟨go,N,hN,step⟩
 ·refine wpAny_passesOwn hp (zd (T.done X rfl rfl rfl hc i pins s3 σ3 H3 X.xe I3 (stat fr3) st3 stop) fun r s4 ⟨hr,I4⟩=>?_);subst hr;exact wpAny_execs_nil ⟨σ3,H3,I4,qn⟩
 ·refine wpAny_passesOwn hp (zd (T.item X rfl rfl rfl hc i pins s3 σ3 H3 X.xe I3 (stat fr3) st3 go) fun r s4 ⟨u,hr,h4⟩=>?_);subst hr;refine wpAny_passesOwn hp (zd h4 fun _ s5 ⟨x,H5,I5,r5,y5,st5,fr5⟩=>?_);have I5':=I5.pinned (stat fr5) (T.obj _ _ st5);refine wpAny_passesOwn hp (zd (hg _ s5 σ3 H5 x u _ I5' r5 (step x H5 y5)) fun _ s6 ⟨σ6,H6,I6,q6⟩=>?_);refine wpAny_passesOwn hp (zd (hb _ s6 σ6 H6 _ I6 q6) fun f s7 q7=>?_);have again: ∀{σ7:St} {H7:Hp},Inv X (pins++zEp fp s5.heap) σ7 H7 s7->N σ7 H7-> ∃m,m<n/\ ∃i σ' H',Inv X pins σ' H' s7/\tn i s7.heap/\(∀b∈fp,H' b=none)/\W i m σ' H':=fun {σ7 H7} I7 n7=>by
   obtain ⟨m',hm,w7⟩:=hN σ7 H7 n7;refine ⟨m',hm,i+1,σ7,H7,I7.unpinned,T.keep _ _ _ st5 fun b hb o e=>(I7.pin (b,o) (zPl _ (zPl _ (yC hb e)))).1,fun b hb=>?_,w7⟩;obtain ⟨o,e,d⟩:=T.obj _ _ st5 b hb;exact (I7.pin (b,o) (zPl _ (zPl _ (yC hb e)))).2.1
  cases f with
  | next=>obtain ⟨σ7,H7,I7,n7⟩:=q7;exact again I7 n7
  | cont=>obtain ⟨σ7,H7,I7,n7⟩:=q7;exact again I7 n7
  | brk=>obtain ⟨σ7,H7,I7,q7⟩:=q7;exact ⟨σ7,H7,I7.unpinned,q7⟩
  | ret v=>obtain ⟨x7,σ7,H7,I7,r7,q7⟩:=q7;exact ⟨x7,σ7,H7,I7.unpinned,r7,q7⟩
end
theorem zEF{c:TT}{tb:TS}{D:Ends}{σ:St}{H:Hp}(Pv:St->Hp->Prop)(μ:St->Hp->Nat)(h0:Pv σ H)
  (hs: ∀σ H,Pv σ H->c σ H fun b H1=>if b=true then tb {D with nx:=fun σ' H'=>Pv σ' H'/\μ σ' H'<μ σ H,ct:=fun σ' H'=>Pv σ' H'/\μ σ' H'<μ σ H,bk:=D.nx} σ H1 else D.nx σ H1)
  (mono: ∀σ H Q Q',(∀b H1,Q b H1->Q' b H1)->c σ H Q->c σ H Q'):zGh c tb D σ H:=by
 refine ⟨fun m σ H=>m=μ σ H/\Pv σ H,⟨_,rfl,h0⟩,?_⟩;rintro m σ H ⟨rfl,p⟩;refine mono σ H _ _ (fun b H1 q=>?_) (hs σ H p);cases b with
 | true=>exact ⟨_,fun σ' H' ⟨p',l⟩=>⟨_,l,rfl,p'⟩,q⟩
 | false=>exact q
abbrev R2:=V->V->Hp->VK->Prop
def OpR(X:Cx)(f:Value->Value->Sem Value)(r:R2):Prop:=
 ∀(pins:List (Addr×Obj)) (s:Shared) (σ:St) (H:Hp) (x y:V) (v u:Value) (Q:VK),Inv X pins σ H s->zg x v->zg y u->r x y H Q->
  wpAny (model X.prog X.w) X.A (f v u) (EP X pins σ Q) X.xe s
def UnR(X:Cx)(f:Value->Sem Value)(r:V->Hp->VK->Prop):Prop:=
 ∀(pins:List (Addr×Obj)) (s:Shared) (σ:St) (H:Hp) (x:V) (v:Value) (Q:VK),Inv X pins σ H s->zg x v->r x H Q->
  wpAny (model X.prog X.w) X.A (f v) (EP X pins σ Q) X.xe s
def yc(X:Cx)(f:Value)(r:List V->Hp->VK->Prop):Prop:=
 ∀(pins:List (Addr×Obj)) (s:Shared) (σ:St) (H:Hp) (xs:List V) (us:List Value) (Q:VK),Inv X pins σ H s->zQ xs us->r xs H Q->
  wpAny (model X.prog X.w) X.A (call f us) (EP X pins σ Q) X.xe s
def tOp(r:R2)(ta tb:TE):TE:=fun σ H Q=>ta σ H fun x H1=>tb σ H1 fun y H2=>r x y H2 Q
def tUn(r:V->Hp->VK->Prop)(ta:TE):TE:=fun σ H Q=>ta σ H fun x H1=>r x H1 Q
inductive XI (C:Int->Int->Prop) (g:Int->Int->V) (x y:V) (H:Hp) (Q:VK):Prop
 | mk (i j:Int) (h1:x= .int i) (h2:y= .int j) (h:C i j) (q:Q (g i j) H)
def rI(C:Int->Int->Prop)(g:Int->Int->V):R2:=fun x y H Q=>XI C g x y H Q
inductive XI0 (g:Int->Int->V) (x y:V) (H:Hp) (Q:VK):Prop
 | mk (i j:Int) (h1:x= .int i) (h2:y= .int j) (q:Q (g i j) H)
def rI0(g:Int->Int->V):R2:=fun x y H Q=>XI0 g x y H Q
inductive XU (g:Int->V) (x:V) (H:Hp) (Q:VK):Prop
 | mk (i:Int) (h1:x= .int i) (q:Q (g i) H)
def rU(g:Int->V):V->Hp->VK->Prop:=fun x H Q=>XU g x H Q
section
variable {X:Cx}{a b c:Expr}{ta tb tc:TE}{pos:Pos}
theorem zKc(ha:PE X a ta)(hb:PE X b tb){pins:List (Addr×Obj)}{s:Shared}{σ:St}{H:Hp}{R:V->V->Hp->Prop}(I:Inv X pins σ H s)
  (h:ta σ H fun x H1=>tb σ H1 fun y H2=>R x y H2) {Q:Value->Shared->Prop} {f:Value->Value->Sem Value}
  (hf: ∀v u s2 x y H2,Inv X pins σ H2 s2->zg x v->zg y u->R x y H2->wpAny (model X.prog X.w) X.A (f v u) Q X.xe s2):
  wpAny (model X.prog X.w) X.A (eval a X.env) (fun v s₁=>wpAny (model X.prog X.w) X.A (eval b X.env) (fun u s₂=>wpAny (model X.prog X.w) X.A (f v u) Q X.xe s₂) X.xe s₁) X.xe s:=by
 refine zd (ha pins s σ H _ I h) fun v s1 ⟨x,H1,I1,r1,q1⟩=>?_;refine zd (hb pins s1 σ H1 _ I1 q1) fun u s2 ⟨y,H2,I2,r2,q2⟩=>?_;exact hf v u s2 x y H2 I2 r1 r2 q2
theorem zAC{op:Operator}{r:R2}(ho:OpR X (binaryOp op) r)(ha:PE X a ta)(hb:PE X b tb):PE X (.BinOp a op b pos) (tOp r ta tb):=by
 intro pins s σ H Q I h;exact wpAny_BinOp (zKc ha hb I h fun v u s2 x y H2 I2 rx ry q=>ho pins s2 σ H2 x y v u Q I2 rx ry q)
theorem zOr{op:UnaryOp}{r:V->Hp->VK->Prop}(ho:UnR X (unaryOp op) r)(ha:PE X a ta):PE X (.UnaryOp op a pos) (tUn r ta):=by
 intro pins s σ H Q I h;exact UnaryOp_ (zd (ha pins s σ H _ I h) fun v s1 ⟨x,H1,I1,r1,q1⟩=>ho pins s1 σ H1 x v Q I1 r1 q1)
theorem opI{f:Value->Value->Sem Value}{C:Int->Int->Prop}{g:Int->Int->Int}
  (rule: ∀(i j:Int) (t u:Tok) (s:Shared) (Q:Value->Shared->Prop) (E:Value->Shared->Prop),C i j->Q (.int (g i j) s.toks) {s with toks:=s.toks+1}->wpAny (model X.prog X.w) X.A (f (.int i t) (.int j u)) Q E s):
  OpR X f (rI C fun i j=> .int (g i j)):=by
 intro pins s σ H x y v u Q I rx ry h;obtain ⟨i,j,rfl,rfl,hc,q⟩:=h;obtain ⟨t,rfl⟩:=rx;obtain ⟨t',rfl⟩:=ry;exact rule i j t t' s _ _ hc ⟨.int (g i j),H,I.tok _,⟨_,rfl⟩,q⟩
theorem zNX{f:Value->Value->Sem Value}{g:Int->Int->Int}
  (rule: ∀(i j:Int) (t u:Tok) (s:Shared) (Q:Value->Shared->Prop) (E:Value->Shared->Prop),Q (.int (g i j) s.toks) {s with toks:=s.toks+1}->wpAny (model X.prog X.w) X.A (f (.int i t) (.int j u)) Q E s):
  OpR X f (rI0 fun i j=> .int (g i j)):=by
 intro pins s σ H x y v u Q I rx ry h;obtain ⟨i,j,rfl,rfl,q⟩:=h;obtain ⟨t,rfl⟩:=rx;obtain ⟨t',rfl⟩:=ry;exact rule i j t t' s _ _ ⟨.int (g i j),H,I.tok _,⟨_,rfl⟩,q⟩
theorem zOF{f:Value->Value->Sem Value}{g:Int->Int->Bool}
  (rule: ∀(i j:Int) (t u:Tok) (s:Shared) (Q:Value->Shared->Prop) (E:Value->Shared->Prop),Q (.bool (g i j)) s->wpAny (model X.prog X.w) X.A (f (.int i t) (.int j u)) Q E s):
  OpR X f (rI0 fun i j=> .bl (g i j)):=by
 intro pins s σ H x y v u Q I rx ry h;obtain ⟨i,j,rfl,rfl,q⟩:=h;obtain ⟨t,rfl⟩:=rx;obtain ⟨t',rfl⟩:=ry;exact rule i j t t' s _ _ ⟨.bl (g i j),H,I,rfl,q⟩
def zNP(i j:Int):Prop:=0<j/\j<1073741824
def zIM(i j:Int):Prop:=(-(2^64)<i/\i<2^64)\/(-(2^64)<j/\j<2^64)
theorem zIM.ok{i j:Int}(h:zIM i j):IntMulOk i j:=by
 rcases h with ⟨h1,h2⟩|⟨h1,h2⟩
 ·exact .of_left (intBits_le_64 h1 h2)
 ·exact .of_right (intBits_le_64 h1 h2)
theorem zEY:OpR X (binaryOp .Add) (rI0 fun i j=> .int (i+j)):=zNX fun _ _ _ _ _ _ _ q=>add_int q
theorem zNY:OpR X (binaryOp .Sub) (rI0 fun i j=> .int (i - j)):=zNX fun _ _ _ _ _ _ _ q=>sub_int q
theorem zBl:OpR X (binaryOp .Mult) (rI zIM fun i j=> .int (i*j)):=opI fun _ _ _ _ _ _ _ hc q=>mul_int q hc.ok
theorem zLt:OpR X (binaryOp .FloorDiv) (rI zNP fun i j=> .int (i/j)):=opI fun i j _ _ _ _ _ hc q=>by
 have h1:(0:Int)<j:=hc.1;have h2:j<1073741824:=hc.2;exact floordiv_int (by omega) (by rw [Int.fdiv_eq_ediv_of_nonneg i (by omega)];exact q) (.inl (PyProof.noPylong_small (by omega)))
theorem zBi:OpR X (binaryOp .Mod) (rI (fun _ j=>0<j) fun i j=> .int (i % j)):=opI fun i j _ _ _ _ _ hc q=>by
 have h1:(0:Int)<j:=hc;exact mod_int' (by omega) (by rw [Int.fmod_eq_emod_of_nonneg i (by omega)];exact q)
theorem unI{f:Value->Sem Value}{g:Int->Int}
  (rule: ∀(i:Int) (t:Tok) (s:Shared) (Q:Value->Shared->Prop) (E:Value->Shared->Prop),Q (.int (g i) s.toks) {s with toks:=s.toks+1}->wpAny (model X.prog X.w) X.A (f (.int i t)) Q E s):
  UnR X f (rU fun i=> .int (g i)):=by
 intro pins s σ H x v Q I rx h;obtain ⟨i,rfl,q⟩:=h;obtain ⟨t,rfl⟩:=rx;exact rule i t s _ _ ⟨.int (g i),H,I.tok _,⟨_,rfl⟩,q⟩
theorem zNQ:UnR X (unaryOp .USub) (rU fun i=> .int (-i)):=unI fun _ _ _ _ _ q=>neg_int q
end
def zND:V->V->Bool
 | .non,.non=>true | .non,.int _=>true | .int _,.non=>true | .non,.bl _=>true | .bl _,.non=>true | .non,.str _=>true | .str _,.non=>true
 | .int _,.int _=>true | .bl _,.bl _=>true | .str _,.str _=>true | .byt _,.byt _=>true
 | .int _,.str _=>true | .str _,.int _=>true | .bl _,.str _=>true | .str _,.bl _=>true
 | _,_=>false
def rEq:R2:=fun x y H Q=>zND x y=true/\Q (.bl (decide (x=y))) H
def rNe:R2:=fun x y H Q=>zND x y=true/\Q (.bl (!decide (x=y))) H
theorem zHb{i j:Int}:decide (V.int i=V.int j)=(i==j):=by
 rw [Bool.eq_iff_iff];simp
theorem zJX{i j:Bool}:decide (V.bl i=V.bl j)=(i==j):=by
 rw [Bool.eq_iff_iff];simp
theorem zHY{i j:Str}:decide (V.str i=V.str j)=(i==j):=by
 rw [Bool.eq_iff_iff];simp
theorem zHX{i j:Array UInt8}:decide (V.byt i=V.byt j)=(i.toList==j.toList):=by
 rw [Bool.eq_iff_iff];cases i;cases j;simp
section
variable {X:Cx}{a b c:Expr}{ta tb tc:TE}{pos:Pos}
theorem zo{pins:List (Addr×Obj)}{σ:St}{H:Hp}{s:Shared}{Q:VK}{k k':Bool}(I:Inv X pins σ H s)(q:Q (.bl k) H)(e:k=k'):EP X pins σ Q (.bool k') s:=by
 subst e;exact ⟨.bl k,H,I,rfl,q⟩
theorem zAz:OpR X (compareOp .Eq) rEq:=by
 intro pins s σ H x y v u Q I rx ry h;obtain ⟨hs,q⟩:=h;cases x with
 | non=>
  cases rx;cases y with
  | non=>cases ry;exact PySem.EqNone.eq_none_none (zo I q (by simp))
  | bl j=>cases ry;exact PySem.EqNone.eq_none_bool (zo I q (by simp))
  | int j=>obtain ⟨t',rfl⟩:=ry;exact PySem.EqNone.eq_none_int (zo I q (by simp))
  | str j=>obtain ⟨t',rfl⟩:=ry;exact PySem.EqNone.eq_none_str (zo I q (by simp))
  | _=>exact absurd (show false=true from hs) zPi
 | bl i=>
  cases rx;cases y with
  | non=>cases ry;exact PySem.EqNone.eq_bool_none (zo I q (by simp))
  | bl j=>cases ry;exact eq_bool (zo I q zJX)
  | str j=>obtain ⟨t',rfl⟩:=ry;exact PySem.EqMixed.eq_bool_str (zo I q (by simp))
  | _=>exact absurd (show false=true from hs) zPi
 | int i=>
  obtain ⟨t,rfl⟩:=rx;cases y with
  | non=>cases ry;exact PySem.EqNone.eq_int_none (zo I q (by simp))
  | int j=>obtain ⟨t',rfl⟩:=ry;exact eq_int (zo I q zHb)
  | str j=>obtain ⟨t',rfl⟩:=ry;exact PySem.EqMixed.eq_int_str (zo I q (by simp))
  | _=>exact absurd (show false=true from hs) zPi
 | str i=>
  obtain ⟨t,rfl⟩:=rx;cases y with
  | non=>cases ry;exact PySem.EqNone.eq_str_none (zo I q (by simp))
  | bl j=>cases ry;exact PySem.EqMixed.eq_str_bool (zo I q (by simp))
  | int j=>obtain ⟨t',rfl⟩:=ry;exact PySem.EqMixed.eq_str_int (zo I q (by simp))
  | str j=>obtain ⟨t',rfl⟩:=ry;exact eq_str (zo I q zHY)
  | _=>exact absurd (show false=true from hs) zPi
 | byt i=>
  obtain ⟨t,rfl⟩:=rx;cases y with
  | byt j=>obtain ⟨t',rfl⟩:=ry;exact PySem.W.eq_bytes (zo I q zHX)
  | _=>exact absurd (show false=true from hs) zPi
 | _=>cases y<;>exact absurd (show false=true from hs) zPi
theorem zBF:OpR X (compareOp .NotEq) rNe:=by
 intro pins s σ H x y v u Q I rx ry h;obtain ⟨hs,q⟩:=h;cases x with
 | non=>
  cases rx;cases y with
  | non=>cases ry;exact PySem.EqNone.ne_none_none (zo I q (by simp))
  | bl j=>cases ry;exact PySem.EqNone.ne_none_bool (zo I q (by simp))
  | int j=>obtain ⟨t',rfl⟩:=ry;exact PySem.EqNone.ne_none_int (zo I q (by simp))
  | str j=>obtain ⟨t',rfl⟩:=ry;exact PySem.EqNone.ne_none_str (zo I q (by simp))
  | _=>exact absurd (show false=true from hs) zPi
 | bl i=>
  cases rx;cases y with
  | non=>cases ry;exact PySem.EqNone.ne_bool_none (zo I q (by simp))
  | bl j=>cases ry;exact ne_bool (zo I q (congrArg not zJX))
  | str j=>obtain ⟨t',rfl⟩:=ry;exact PySem.EqMixed.ne_bool_str (zo I q (by simp))
  | _=>exact absurd (show false=true from hs) zPi
 | int i=>
  obtain ⟨t,rfl⟩:=rx;cases y with
  | non=>cases ry;exact PySem.EqNone.ne_int_none (zo I q (by simp))
  | int j=>obtain ⟨t',rfl⟩:=ry;exact ne_int (zo I q (congrArg not zHb))
  | str j=>obtain ⟨t',rfl⟩:=ry;exact PySem.EqMixed.ne_int_str (zo I q (by simp))
  | _=>exact absurd (show false=true from hs) zPi
 | str i=>
  obtain ⟨t,rfl⟩:=rx;cases y with
  | non=>cases ry;exact PySem.EqNone.ne_str_none (zo I q (by simp))
  | bl j=>cases ry;exact PySem.EqMixed.ne_str_bool (zo I q (by simp))
  | int j=>obtain ⟨t',rfl⟩:=ry;exact PySem.EqMixed.ne_str_int (zo I q (by simp))
  | str j=>obtain ⟨t',rfl⟩:=ry;exact ne_str (zo I q (congrArg not zHY))
  | _=>exact absurd (show false=true from hs) zPi
 | byt i=>
  obtain ⟨t,rfl⟩:=rx;cases y with
  | byt j=>obtain ⟨t',rfl⟩:=ry;exact PySem.W.ne_bytes (zo I q (congrArg not zHX))
  | _=>exact absurd (show false=true from hs) zPi
 | _=>cases y<;>exact absurd (show false=true from hs) zPi
theorem zIO:OpR X (compareOp .Lt) (rI0 fun i j=> .bl (decide (i<j))):=zOF fun _ _ _ _ _ _ _ q=>lt_int q
theorem zAm:OpR X (compareOp .Gt) (rI0 fun i j=> .bl (decide (j<i))):=zOF fun _ _ _ _ _ _ _ q=>gt_int q
theorem zJr(b:Expr){op:CmpOp}(h:op≠ .In:=by decide)(h2:op≠ .NotIn:=by decide):behindInMarks op b=false:=by
 have e1:(op==CmpOp.In)=false:=by cases op<;>first | rfl | exact absurd rfl h
 have e2:(op==CmpOp.NotIn)=false:=by cases op<;>first | rfl | exact absurd rfl h2
 cases b<;>simp [behindInMarks,e1,e2]
theorem zLs{op:CmpOp}{r:R2}(ho:OpR X (compareOp op) r)(ha:PE X a ta)(hb:PE X b tb)(hm:behindInMarks op b=false):PE X (.Compare a [op] [b] pos) (tOp r ta tb):=by
 intro pins s σ H Q I h;exact wpAny_Compare1 (zKc ha hb I h fun v u s2 x y H2 I2 rx ry q=>ho pins s2 σ H2 x y v u Q I2 rx ry q) hm
def zFr(t:TE):TT:=fun σ H Q=>t σ H fun x H'=>XB x H' Q
theorem zFV{op:CmpOp}{r:R2}(ho:OpR X (compareOp op) r)(ha:PE X a ta)(hb:PE X b tb)(hm:behindInMarks op b=false):PT X (.Compare a [op] [b] pos) (zFr (tOp r ta tb)):=by
 intro pins s σ H Q I h;refine wpAny_isTrue_Compare1 (zd (ha pins s σ H _ I h) fun v s1 ⟨x,H1,I1,r1,q1⟩=>zd (hb pins s1 σ H1 _ I1 q1) fun u s2 ⟨y,H2,I2,r2,q2⟩=>
  zd (ho pins s2 σ H2 x y v u _ I2 r1 r2 q2) fun c s3 ⟨z,H3,I3,r3,k,e,q3⟩=>?_) hm
 subst e;cases r3;exact zQG ⟨H3,I3,q3⟩
theorem zER:(sizeLine:Nat)<2^63:=by rw [zPg];decide
theorem zBR{x:V}{us:List Value}(r:zQ [x] us): ∃u,us= [u] /\zg x u:=by
 cases r with
 | cons r1 r2=>cases r2;exact ⟨_,rfl,r1⟩
theorem zOe{x y:V}{us:List Value}(r:zQ [x,y] us): ∃u w',us= [u,w'] /\zg x u/\zg y w':=by
 cases r with
 | cons r1 r2=>
  cases r2 with
  | cons r3 r4=>cases r4;exact ⟨_,_,rfl,r1,r3⟩
theorem zGe:yc X (.builtin "abs") (fun xs H Q=> ∃i,xs= [.int i] /\Q (.int (if i<0 then -i else i)) H):=by
 intro pins s σ H xs us Q I r h;obtain ⟨i,rfl,q⟩:=h;obtain ⟨u,rfl,t,rfl⟩:=zBR r;exact call_abs_int fun u tk=>⟨.int (if i<0 then -i else i),H,I.tok _,⟨_,rfl⟩,q⟩
theorem zCw(hc:X.calm=true):yc X (.builtin "max") (fun xs H Q=> ∃i j,xs= [.int i,.int j] /\Q (.int (if j>i then j else i)) H):=by
 intro pins s σ H xs us Q I r h;obtain ⟨i,j,rfl,q⟩:=h;obtain ⟨u,w',rfl,⟨t,rfl⟩,⟨t',rfl⟩⟩:=zOe r;refine max_two_ints (I.ok.hd hc) fun h' tk k=>⟨_,H,I.kept k,?_,q⟩;by_cases hj:j>i
 ·rw [if_pos hj,if_pos hj];exact ⟨_,rfl⟩
 ·rw [if_neg hj,if_neg hj];exact ⟨_,rfl⟩
theorem zJN:yc X (.type "int") (fun xs H Q=>(∃i,xs= [.int i] /\Q (.int i) H)\/ ∃k,xs= [.bl k] /\Q (.int (if k then 1 else 0)) H):=by
 intro pins s σ H xs us Q I r h;rcases h with ⟨i,rfl,q⟩|⟨k,rfl,q⟩
 ·obtain ⟨u,rfl,t,rfl⟩:=zBR r;exact call_int_int ⟨.int i,H,I,⟨_,rfl⟩,q⟩
 ·obtain ⟨u,rfl,r1⟩:=zBR r;cases r1;exact call_int_bool ⟨.int (if k then 1 else 0),H,I.tok _,⟨_,rfl⟩,q⟩
end
structure ObjM(h:Heap)(x dx C:Addr)(mA:Str->Option Value):Prop where
 obj:h.get? x=some (PySem.W.instObj C dx)
 ns:h.Ns1 dx mA
 ne:dx≠x
theorem zJa{h:Heap}{dx:Addr}{mA:Str->Option Value}(n:h.Ns1 dx mA): ∃od,h.get? dx=some od/\ ∀name,PySem.W.lookIn name od=some (mA name):=by
 obtain ⟨o,es,ep,ho,hd,hk,_,hm⟩:=n;refine ⟨o,ho,fun name=>?_⟩;have e:=hm name;unfold nsFind findBy at e;rw [<-Array.find?_toList] at e;unfold PySem.W.lookIn;rw [hd];dsimp only;split
 ·rename_i y q
  rw [q] at e;exact congrArg some e
 ·rename_i q
  rw [q] at e;have a:es.toList.any (·.refKey)=false:=by
   rw [List.any_eq_false];intro y hy;obtain ⟨z,t,hkey⟩:=hk y (Array.mem_toList_iff.mp hy);simp [DictEntry.refKey,hkey]
  have a': ¬es.toList.any (·.refKey)=true:=by rw [a];exact zPi
  rw [if_neg a'];exact congrArg some e
theorem ObjM.look{h:Heap}{x dx C:Addr}{mA:Str->Option Value}(I:ObjM h x dx C mA): ∃od,PySem.W.InstAt h x (PySem.W.instObj C dx) C (some od)/\ ∀name,PySem.W.lookIn name od=some (mA name):=
 let ⟨od,ho,hl⟩:=zJa I.ns
 ⟨od,⟨I.obj,rfl,rfl,ho⟩,hl⟩
section
variable {prog:Program}{w:World}{A:Around}{E:Value->Shared->Prop}{s:Shared}{K:zQK}{x dx C f:Addr}{mA:Str->Option Value}{name:Str}{v:Value}
theorem zMJ{expr:Bool}{Q:Value->Shared->Prop}(X:K.In s.heap)(I:ObjM s.heap x dx C mA)(hg:PySem.W.plainGet K C name=true)(hh:PySem.W.hasDictIn K C=true)
  (ha:PySem.W.findIn K (.ref C) name=some none) (hv:mA name=some v) (hv':PySem.W.handedIn v=true) (h:Q v {s with toks:=s.toks+1}):
  wpAny (model prog w) A (getAttr (.ref x) name expr) Q E s:=by
 obtain ⟨od,J,hl⟩:=I.look;exact PySem.W.get_value X J (PySem.W.plainGet_of hg).1 (PySem.W.findObj_own hh ha rfl (by rw [hl,hv])) hv' h
theorem zKX{pl:Sem Bool}{Q:Value×List Value->Shared->Prop}(X:K.In s.heap)(I:ObjM s.heap x dx C mA)(hg:PySem.W.plainGet K C name=true)
  (hf:PySem.W.findIn K (.ref C) name=some (some (.ref f))) (ht:PySem.W.isFn K (.ref f)=true) (hv:mA name=none) (h:Q (.ref f,[.ref x]) s):
  wpAny (model prog w) A (getMethod (.ref x) name pl) Q E s:=by
 obtain ⟨od,J,hl⟩:=I.look;exact PySem.W.method_fn X J (PySem.W.plainGet_of hg).1 (PySem.W.plainGet_of hg).2 hf (beq_iff_eq.mp ht) (by show (PySem.W.lookIn name od).map (·.isSome)=some false;rw [hl,hv];rfl) h
theorem zLq{ns:List Str}{Q:Unit->Shared->Prop}(X:K.In s.heap)(I:ObjM s.heap x dx C mA)
  (hs:PySem.W.findIn K (.ref C) "__setattr__" =some (some (.builtin "object.__setattr__"))) (hp:PySem.W.plainOver K C=true) (ht:PySem.W.takerIn K C name=some none) (hh:PySem.W.hasDictIn K C=true)
  (hw:PySem.Within mA ns) (hsz:ns.length<=sizeLine)
  (h: ∀h',ObjM h' x dx C (fun y=>if y=name then some v else mA y)->Heap.SameBut dx s.heap h'->Q () {s with heap:=h',toks:=s.toks+2}):
  wpAny (model prog w) A (setAttr (.ref x) name v) Q E s:=by
 obtain ⟨od,J,hl⟩:=I.look;refine PySem.W.set_plain X J hs (PySem.W.osa_open (s:={s with toks:=s.toks+1}) (r:=none) X J hp ht fun b=>?_);obtain ⟨cd,hc,hd'⟩:=PySem.W.any_some hh;have hx:s.heap.get? x=some ⟨.ref C,some dx,.plain,#[]⟩:=I.obj;refine zPW (zPb (zPW (zPW (wpAny_loadPart hx (zPW (PySem.W.Looks.here (s:={s with toks:=s.toks+1}) (PySem.W.looks_clsIn X hc) ?_))))));rw [hd'];refine zPb (a:=some dx) (zPW (zPb (zPW ?_)));refine wpAny_nsSet1 (s:={s with toks:=s.toks+1}) I.ns fun h' hn2 hs2=>?_;obtain ⟨oD,esD,epD,hoD,hdD,hcD⟩:=hn2.count (PySem.Within.cons name v hw);refine zPW (wpAny_lookBehind hoD (by rw [hdD];exact pastItsLine_dict (zPj hcD (by rw [List.length_cons];omega))) ?_);exact zPb (h _ ⟨(hs2.2 _ (Ne.symm I.ne)).trans I.obj,hn2,I.ne⟩ hs2)
theorem zKR{R:Result->Shared->Prop}{vs:List Value}{kw:List (Str×Value)}(X:K.In s.heap)(hm:PySem.W.makesIn K C=true)
  (hi:PySem.W.findIn K (.ref C) "__init__" =some (some (.ref f))) (hf:PySem.W.typeIn K (.ref f)=some (.type "function"))
  (h:codeAny (model prog w) (A.under (.builtin "type.__call__" ⟨.ref C::vs,kw⟩)) (.call (.ref f) ⟨.ref (s.heap.objs.size+1)::vs,kw⟩) (PySem.W.InitBack (s.heap.objs.size+1) R)
   {s with heap:=(s.heap.push PySem.W.emptyDict).push (PySem.W.instObj C s.heap.objs.size)}):
  codeAny (model prog w) A (.call (.ref C) ⟨vs,kw⟩) R s:=by
 obtain ⟨hh,g,d,t,os⟩:=s;exact PySem.W.make_core (PySem.W.makes_of X hm) (PySem.W.looks_findIn X hi) (fun self=>PySem.W.bind_fn X self hf) (.inl rfl) h
end
def yO(f:Str)(v:V):List (Str×V)->List (Str×V)
 | [] => [(f,v)]
 |(g,x)::r=>if g=f then (g,v)::r else (g,x)::yO f v r
theorem zDp(f g:Str)(v:V): ∀fs:List (Str×V),(yO f v fs).lookup g=if g=f then some v else fs.lookup g
 | [] =>by
  show List.lookup g [(f,v)] =_;by_cases h:g=f
  ·have hb:(g==f)=true:=beq_iff_eq.mpr h;simp only [List.lookup,hb,if_pos h]
  ·have hb:(g==f)=false:=beq_eq_false_iff_ne.mpr h;simp only [List.lookup,hb,if_neg h]
 |(k,x)::r=>by
  have ih:=zDp f g v r;rw [show yO f v ((k,x)::r)=(if k=f then (k,v)::r else (k,x)::yO f v r) from rfl];by_cases hk:k=f
  ·rw [if_pos hk];by_cases h:g=k
   ·have hb:(g==k)=true:=beq_iff_eq.mpr h;simp only [List.lookup,hb,if_pos (h.trans hk)]
   ·have hb:(g==k)=false:=beq_eq_false_iff_ne.mpr h;simp only [List.lookup,hb,if_neg (fun e:g=f=>h (e.trans hk.symm))]
  ·rw [if_neg hk];by_cases h:g=k
   ·have hb:(g==k)=true:=beq_iff_eq.mpr h;simp only [List.lookup,hb,if_neg (fun e:g=f=>hk (h.symm.trans e))]
   ·have hb:(g==k)=false:=beq_eq_false_iff_ne.mpr h;simp only [List.lookup,hb];exact ih
theorem zDN(f:Str)(v:V): ∀fs:List (Str×V),f∈(yO f v fs).map (·.1)/\ ∀g,g∈fs.map (·.1)->g∈(yO f v fs).map (·.1)
 | [] =>⟨by simp [yO],fun g h=>by simp at h⟩
 |(k,x)::r=>by
  obtain ⟨i1,i2⟩:=zDN f v r;rw [show yO f v ((k,x)::r)=(if k=f then (k,v)::r else (k,x)::yO f v r) from rfl];by_cases hk:k=f
  ·rw [if_pos hk];subst hk;exact ⟨by simp,fun g h=>by simpa using h⟩
  ·rw [if_neg hk];refine ⟨?_,fun g h=>?_⟩
   ·rw [List.map_cons];exact zQC _ i1
   ·rw [List.map_cons] at h⊢;rcases List.mem_cons.mp h with e | e
    ·exact List.mem_cons.mpr (.inl e)
    ·exact zQC _ (i2 g e)
theorem zDl(f:Str)(v:V): ∀fs:List (Str×V),(yO f v fs).length<=fs.length+1
 | [] =>by simp [yO]
 |(k,x)::r=>by
  have ih:=zDl f v r;rw [show yO f v ((k,x)::r)=(if k=f then (k,v)::r else (k,x)::yO f v r) from rfl];by_cases hk:k=f
  ·rw [if_pos hk,List.length_cons,List.length_cons];omega
  ·rw [if_neg hk,List.length_cons,List.length_cons];omega
theorem zCG.some_of{v:V}{o:Option Value}(r:zCG (some v) o): ∃u,o=some u/\zg v u:=by
 cases o with
 | none=>exact (show False from r).elim
 | some u=>exact ⟨u,rfl,r⟩
theorem zCG.none_of{o:Option Value}(r:zCG none o):o=none:=by
 cases o with
 | none=>rfl
 | some u=>exact (show False from r).elim
theorem zJW{v:V}{u:Value}(r:zg v u):PySem.W.handedIn u=true:=by
 cases v with
 | non=>cases (show u=Value.none from r);rfl
 | bl b=>cases (show u=Value.bool b from r);rfl
 | int i=>obtain ⟨t,e⟩:=(show∃t,u=Value.int i t from r);cases e;rfl
 | str x=>obtain ⟨t,e⟩:=(show∃t,u=Value.str x t from r);cases e;rfl
 | byt b=>obtain ⟨t,e⟩:=(show∃t,u=Value.bytes b t from r);cases e;rfl
 | flt b=>obtain ⟨t,e⟩:=(show∃t,u=Value.float b t from r);cases e;rfl
 | ref a=>cases (show u=Value.ref a from r);rfl
 | ty n=>cases (show u=Value.type n from r);rfl
section
variable {P:Program}{w:World}{H H':Hp}{h h':Heap}{a C dx:Addr}{fs fs':List (Str×V)}
theorem zDX(hok:HOk P w H h)(e:H a=some (.ins C dx fs)): ∃mA,ObjM h a dx C mA/\(∀f,zCG (fs.lookup f) (mA f))/\PySem.Within mA (fs.map (·.1))/\fs.length<=1000/\H dx=some (.own a):=by
 obtain ⟨d,z,ne,ob,mA,n,r,q⟩:=(show yh P w H h a (.ins C dx fs) from hok a _ e);exact ⟨mA,⟨ob,n,ne⟩,r,q,z,d⟩
end
structure Cls(K:zQK)(C:Addr):Prop where
 pg:PySem.W.plainGet K C Str.empty=true
 hd:PySem.W.hasDictIn K C=true
 po:PySem.W.plainOver K C=true
 sa:PySem.W.findIn K (.ref C) "__setattr__" =some (some (.builtin "object.__setattr__"))
theorem Cls.get{K:zQK}{C:Addr}(c:Cls K C)(f:Str):PySem.W.plainGet K C f=true:=c.pg
def ym(K:zQK)(C:Addr)(f:Str):Prop:=PySem.W.findIn K (.ref C) f=some none
theorem ym.taker{K:zQK}{C:Addr}{f:Str}(n:ym K C f):PySem.W.takerIn K C f=some none:=by
 unfold PySem.W.takerIn;rw [show PySem.W.findIn K (.ref C) f=some none from n];rfl
structure Meth(K:zQK)(C:Addr)(m:Str)(f:Addr):Prop where
 at_:PySem.W.findIn K (.ref C) m=some (some (.ref f))
 fn:PySem.W.isFn K (.ref f)=true
 kp:PySem.W.keepIn K (.ref f)=true
section
variable {X:Cx}{pins:List (Addr×Obj)}{σ:St}{H:Hp}{s:Shared}{a C dx:Addr}{fs:List (Str×V)}{f:Str}{v:V}{A:Around}{E:Value->Shared->Prop}
theorem zIi{b:Bool}{Q:Value->Shared->Prop}(I:Inv X pins σ H s)(e:H a=some (.ins C dx fs))(c:Cls X.K C)(n:ym X.K C f)(l:fs.lookup f=some v)
  (h: ∀u s',Inv X pins σ H s'->zg v u->Q u s'):wpAny (model X.prog X.w) A (getAttr (.ref a) f b) Q E s:=by
 obtain ⟨mA,O,r,_,_,_⟩:=zDX I.hok e;obtain ⟨u,hu,ru⟩:=zCG.some_of (v:=v) (o:=mA f) (by rw [<-l];exact r f);exact zMJ I.kIn O (c.get f) c.hd n hu (zJW ru) (h u _ (I.tok _) ru)
theorem zEo{m:Str}{g:Addr}{pl:Sem Bool}{Q:Value×List Value->Shared->Prop}(I:Inv X pins σ H s)(e:H a=some (.ins C dx fs))(c:Cls X.K C)(k:Meth X.K C m g)(l:fs.lookup m=none)
  (h:Q (.ref g,[.ref a]) s):wpAny (model X.prog X.w) A (getMethod (.ref a) m pl) Q E s:=by
 obtain ⟨mA,O,r,_,_,_⟩:=zDX I.hok e;have hn:mA m=none:=zCG.none_of (by rw [<-l];exact r m);exact zKX I.kIn O (c.get m) k.at_ k.fn hn h
theorem zIf{y:V}{u:Value}{Q:Unit->Shared->Prop}(I:Inv X pins σ H s)(e:H a=some (.ins C dx fs))(c:Cls X.K C)(n:ym X.K C f)(hl:fs.length<1000)(ry:zg y u)
  (h: ∀s',Inv X pins σ (upd H a (.ins C dx (yO f y fs))) s'->Q () s'):wpAny (model X.prog X.w) A (setAttr (.ref a) f u) Q E s:=by
 obtain ⟨mA,O,r,wi,_,ho⟩:=zDX I.hok e;have hz:(fs.map (·.1)).length<=sizeLine:=by rw [zPc,zPg];omega
 refine zLq I.kIn O c.sa c.po n.taker c.hd wi hz fun h' O' sb=>h _ ?_;have hd: ∃o,h'.get? dx=some o:=let ⟨o,_,_,e',_⟩:=O'.ns;⟨o,e'⟩;refine I.write (x:=a) (e:=dx) (by rw [e];exact True.intro) (.inr ho) (fun b q hb z=>(sb.2 b hb).trans z) hd ?_;refine ⟨by rw [zH O.ne];exact ho,?_,O.ne,O'.obj,_,O'.ns,fun g=>?_,fun g hg=>?_⟩
 ·have:=zDl f y fs;omega
 ·show zCG ((yO f y fs).lookup g) (if g=f then some u else mA g);rw [zDp];by_cases q:g=f
  ·rw [if_pos q,if_pos q];exact ry
  ·rw [if_neg q,if_neg q];exact r g
 ·by_cases q:g=f
  ·rw [q];exact (zDN f y fs).1
  ·refine (zDN f y fs).2 g (wi g fun z=>hg ?_);show (if g=f then some u else mA g)=none;rw [if_neg q];exact z
theorem Inv.made(I:Inv X pins σ H s):Inv X pins σ (upd (upd H s.heap.objs.size (.own (s.heap.objs.size+1))) (s.heap.objs.size+1) (.ins C s.heap.objs.size []))
  {s with heap:=(s.heap.push PySem.W.emptyDict).push (PySem.W.instObj C s.heap.objs.size)}:=by
 have e1:(s.heap.push PySem.W.emptyDict).get? s.heap.objs.size=some PySem.W.emptyDict:=zPo s.heap rfl;have e2:((s.heap.push PySem.W.emptyDict).push (PySem.W.instObj C s.heap.objs.size)).get? (s.heap.objs.size+1)=some (PySem.W.instObj C s.heap.objs.size):=by
  have:=zPo (s.heap.push PySem.W.emptyDict) (o:=PySem.W.instObj C s.heap.objs.size) rfl
  rwa [Heap.size_push] at this
 have e3:(s.heap.push PySem.W.emptyDict).Ns s.heap.objs.size (fun _=>none):=⟨PySem.W.emptyDict,#[],_,e1,rfl,(fun e he=>absurd he (by simp)),fun _=>rfl⟩;have I1:=I.laid (a:=s.heap.objs.size) (o:= .own (s.heap.objs.size+1)) (h':=s.heap.push PySem.W.emptyDict) (t':=s.toks) (fun b u q=>zPX _ q) (zPZ _) ⟨_,e1⟩;refine I1.laid (a:=s.heap.objs.size+1) (o:= .ins C s.heap.objs.size []) (t':=s.toks) (fun b u q=>zPX _ q) (Nat.le_of_eq (Heap.size_push _ _)) ?_;have ne:s.heap.objs.size≠s.heap.objs.size+1:=zPd (Nat.lt_succ_self _);refine ⟨by rw [zH ne,zB],zPk _,ne,e2,fun _=>none,(Heap.Ns1.of_empty e3).at fun o q=>zPX _ q,fun _=>True.intro,fun y hy=>absurd rfl hy⟩
theorem zMa{prog:Program}{w:World}{env:Env}{e:Expr}{f:Str}{pos:Pos}{s:Shared}{Q:Value->Shared->Prop}(hb:attributeBase e f env (eval e env)=eval e env)
  (h:wpAny (model prog w) A (eval e env) (fun o s₁=>wpAny (model prog w) A (getAttr o f true) Q E s₁) E s):wpAny (model prog w) A (eval (.Attribute e f pos) env) Q E s:=
 Attribute_any_ h (by rw [arm_eval_Attribute,hb])
end
inductive XFld (K:zQK) (f:Str) (x:V) (H1:Hp) (Q:VK):Prop
 | mk (a C dx:Addr) (fs:List (Str×V)) (v:V) (h1:x= .ref a) (h2:H1 a=some (.ins C dx fs)) (h3:Cls K C) (h4:ym K C f) (h5:fs.lookup f=some v) (q:Q v H1)
def zEy(K:zQK)(ta:TE)(f:Str):TE:=fun σ H Q=>ta σ H fun x H1=>XFld K f x H1 Q
inductive XSf (K:zQK) (f:Str) (x y:V) (H2:Hp) (Q:Hp->Prop):Prop
 | mk (a C dx:Addr) (fs:List (Str×V)) (h1:x= .ref a) (h2:H2 a=some (.ins C dx fs)) (h3:Cls K C) (h4:ym K C f) (h5:fs.length<1000) (q:Q (upd H2 a (.ins C dx (yO f y fs))))
def zNf(K:zQK)(ta tv:TE)(f:Str):TS:=fun D σ H=>tv σ H fun y H1=>ta σ H1 fun x H2=>XSf K f x y H2 fun H3=>D.nx σ H3
section
variable {X:Cx}{o e value:Expr}{f:Str}{pos pos' tpos:Pos}{ta tv:TE}
theorem zNc(he:PE X e ta)(hb:attributeBase e f X.env (eval e X.env)=eval e X.env):PE X (.Attribute e f pos) (zEy X.K ta f):=by
 intro pins s σ H Q I h;refine zMa hb (zd (he pins s σ H _ I h) fun u s1 ⟨x,H1,I1,rx,a,C,dx,fs,v,ex,ea,c,n,l,q⟩=>?_);subst ex;obtain rfl:u=Value.ref a:=rx;exact zIi I1 ea c n l fun u' s2 I2 ru=>⟨v,H1,I2,ru,q⟩
theorem zMs(ha:PE X o ta)(hv:PE X value tv)(hs:swapsWith value (some (.Attribute o f pos')) pos.line X.env=pure false):PS X (.Assign [.Attribute o f pos'] value pos) (zNf X.K ta tv f):=by
 intro pins s σ H D I h;refine plainObj_wpAny_Assign_Attribute (zd (hv pins s σ H _ I h) fun u s1 ⟨y,H1,I1,ry,q⟩=>zd (ha pins s1 σ H1 _ I1 q) fun ov s2 ⟨x,H2,I2,rx,a,C,dx,fs,ex,ea,c,n,l,q2⟩=>?_) hs;subst ex;obtain rfl:ov=Value.ref a:=rx;exact zIf I2 ea c n l ry fun s3 I3=>⟨σ,_,I3,q2⟩
end
section
variable {X:Cx}{pins:List (Addr×Obj)}{σ:St}{H:Hp}{s:Shared}{A:Around}{E:Value->Shared->Prop}{Q:Value->Shared->Prop}{c:Value}{b:Bool}
inductive TyOf (K:zQK) (H:Hp):V->Value->Prop where
 | non:TyOf K H .non (.type "NoneType")
 | bl (x:Bool):TyOf K H (.bl x) (.type "bool")
 | int (i:Int):TyOf K H (.int i) (.type "int")
 | str (x:Str):TyOf K H (.str x) (.type "str")
 | flt (x:UInt64):TyOf K H (.flt x) (.type "float")
 | lst {a:Addr} {xs:List V} (e:H a=some (.lst xs)):TyOf K H (.ref a) (.type "list")
 | frz {a:Addr} {o:Obj} {xs:List V} (e:H a=some (.frz o (.lst xs))):TyOf K H (.ref a) (.type "list")
 | tup {a:Addr} {xs:List V} (e:H a=some (.tup xs)):TyOf K H (.ref a) (.type "tuple")
 | dK {a:Addr} {kvs:List (Key×V)} (e:H a=some (.dK kvs)):TyOf K H (.ref a) (.type "dict")
 | dT {a:Addr} {kvs:List (List Key×V)} (e:H a=some (.dT kvs)):TyOf K H (.ref a) (.type "dict")
 | ins {a C dx:Addr} {fs:List (Str×V)} (e:H a=some (.ins C dx fs)) (cl:Cls K C) (ha:PySem.W.findIn K (.ref C) "__class__" =some (some (.builtin "object.__class__")))
   (hn:PySem.W.specialIn K (.builtin "object.__class__") "__get__" =some (some (.builtin "getset_descriptor.__get__"))) (htk:PySem.W.takesIn K (.builtin "object.__class__")=some true)
   (hm:PySem.W.mroIn K C (.type "object")=some true):TyOf K H (.ref a) (.ref C)
theorem zIy{x:V}{u t:Value}(I:Inv X pins σ H s)(rx:zg x u)(ty:TyOf X.K H x t)(e:PySem.W.kitOne X.K t c=some b)(h: ∀tk,Q (.bool b) {s with toks:=tk}):
  wpAny (model X.prog X.w) A (call (.builtin "isinstance") [u,c]) Q E s:=by
 cases ty with
 | non=>cases (show u=Value.none from rx);exact zQF PySem.W.kitx_none I.kIn True.intro e (fun z=>nomatch z) h
 | bl y=>cases (show u=Value.bool y from rx);exact zQF PySem.W.kitx_bool I.kIn True.intro e (fun z=>nomatch z) h
 | int i=>obtain ⟨t,q⟩:=(show∃t,u=Value.int i t from rx);cases q;exact zQF PySem.W.kitx_int I.kIn True.intro e (fun z=>nomatch z) h
 | str y=>obtain ⟨t,q⟩:=(show∃t,u=Value.str y t from rx);cases q;exact zQF PySem.W.kitx_str I.kIn True.intro e (fun z=>nomatch z) h
 | flt y=>obtain ⟨t,q⟩:=(show∃t,u=Value.float y t from rx);cases q;exact zQF PySem.W.kitx_float I.kIn True.intro e (fun z=>nomatch z) h
 | @lst a xs ea=>
  cases (show u=Value.ref a from rx);obtain ⟨_,_,n,_,h1⟩:=(show yh X.prog X.w H s.heap a (.lst xs) from I.hok a _ ea);exact zQF PySem.W.kitx_list I.kIn ⟨_,h1,rfl⟩ e (fun z=>nomatch z) h
 | @frz a ob xs ea=>
  cases (show u=Value.ref a from rx);obtain ⟨_,_,_,n,_,h1⟩:=(show yh X.prog X.w H s.heap a (.frz ob (.lst xs)) from I.hok a _ ea);exact zQF PySem.W.kitx_list I.kIn ⟨_,h1,rfl⟩ e (fun z=>nomatch z) h
 | @tup a xs ea=>
  cases (show u=Value.ref a from rx);obtain ⟨_,_,_,p⟩:=(show yh X.prog X.w H s.heap a (.tup xs) from I.hok a _ ea);obtain ⟨o,h1,h2,_⟩:=p;exact zQF PySem.W.kitx_tuple I.kIn ⟨o,h1,h2⟩ e (fun z=>nomatch z) h
 | @dK a kvs ea=>
  cases (show u=Value.ref a from rx);obtain ⟨_,_,vs,_,p⟩:=(show yh X.prog X.w H s.heap a (.dK kvs) from I.hok a _ ea);obtain ⟨o,es,ep,h1,h2,_⟩:=p;exact zQF PySem.W.kitx_dict I.kIn ⟨o,h1,h2.1⟩ e (fun z=>nomatch z) h
 | @dT a kvs ea=>
  cases (show u=Value.ref a from rx);obtain ⟨_,_,xs,_,o,es,ep,h1,h2,_⟩:=(show yh X.prog X.w H s.heap a (.dT kvs) from I.hok a _ ea);exact zQF PySem.W.kitx_dict I.kIn ⟨o,h1,h2.1⟩ e (fun z=>nomatch z) h
 | @ins a C dx fs ea cl ha hn htk hm=>
  cases (show u=Value.ref a from rx);obtain ⟨mA,O,_⟩:=zDX I.hok ea;obtain ⟨od,J,_⟩:=O.look;exact zQF (PySem.W.kitx_own (cl.get _) cl.hd ha hn htk hm) I.kIn J e (fun z=>nomatch z) h
end
structure Room(k:Nat)(A:Around):Prop where
 hd:A.handled=none
 dp:A.depth+3*k+5<recursionLimit
 un:A.units+16*k+200<cLine
 gd:A.guards=some []
theorem Room.mono{j k:Nat}{A:Around}(r:Room k A)(h:j<=k):Room j A:=⟨r.hd,by have:=r.dp;omega,by have:=r.un;omega,r.gd⟩
theorem Room.deeper{k:Nat}{A:Around}(r:Room (k+1) A)(env:Env):Room k (A.deeper env):=
 ⟨r.hd,by have:=r.dp;show A.depth+1+3*k+5<_;omega,by have:=r.un;show A.units+3+16*k+200<_;omega,r.gd⟩
theorem zIa{A:Around}{C:Addr}{us:List Value}{kw:List (Str×Value)}:(A.under (.builtin "type.__call__" ⟨.ref C::us,kw⟩)).depth=A.depth+1:=by
 first | rfl | simp [Around.under,Code.weight,Code.isCreation,Code.isGuard,Code.isCaller,Code.frames,Code.isFrame,guardIds]
theorem zIp{A:Around}{C:Addr}{us:List Value}{kw:List (Str×Value)}:(A.under (.builtin "type.__call__" ⟨.ref C::us,kw⟩)).units=A.units+1:=by
 first | rfl | simp [Around.under,Code.cUnits,Code.frames,Code.isFrame]
theorem zHN{A:Around}{C:Addr}{us:List Value}{kw:List (Str×Value)}:(A.under (.builtin "type.__call__" ⟨.ref C::us,kw⟩)).guards=A.guards:=by
 show pushGuards [] A.guards=A.guards;cases A.guards<;>rfl
theorem Room.make{k:Nat}{A:Around}(r:Room (k+1) A)(C:Addr)(us:List Value)(kw:List (Str×Value)):Room k (A.under (.builtin "type.__call__" ⟨.ref C::us,kw⟩)):=
 ⟨r.hd,by have:=r.dp;rw [zIa];omega,by have:=r.un;rw [zIp];omega,zHN.trans r.gd⟩
theorem Room.depth{k:Nat}{A:Around}(r:Room k A):A.depth<recursionLimit:=by have:=r.dp;omega
theorem Room.units{k:Nat}{A:Around}(r:Room k A):A.units+64<cLine:=by have:=r.un;omega
def zBg:TA:=fun _ H Q=>Q [] H
def zAN(ta:TE)(tr:TA):TA:=fun σ H Q=>ta σ H fun x H1=>tr σ H1 fun xs H2=>Q (x::xs) H2
section
variable {X:Cx}{e:Expr}{es:List Expr}{te:TE}{t:TA}{pos:Pos}
theorem zAt:PA X [] zBg:=fun _ _ _ _ H Q I h=>Calls.spliced_nil ⟨[],H,I,.nil,h⟩
theorem yi(ha:PE X e te)(hr:PA X es t)(hs:starEach (e::es) X.env=(false,eval e X.env)::starEach es X.env:=by rfl):PA X (e::es) (zAN te t):=by
 intro pos pins s σ H Q I h;rw [hs];show wpAny _ _ (spliced ((false,eval e X.env)::backTo pos (starEach es X.env))) _ _ s;refine Calls.spliced_cons (zd (ha pins s σ H _ I h) fun u s1 ⟨x,H1,I1,r1,q1⟩=>?_);exact zd (hr pos pins s1 σ H1 _ I1 q1) fun us s2 ⟨xs,H2,I2,r2,q2⟩=>⟨x::xs,H2,I2,.cons r1 r2,q2⟩
def zNE(t:TA):TE:=fun σ H Q=>t σ H fun xs H1=>xs.length<=sizeLine/\ ∀p,H1 p=none->Q (.ref p) (upd H1 p (.tup xs))
def zKt(t:TA):TE:=fun σ H Q=>t σ H fun xs H1=>xs.length<=sizeLine/\ ∀p,H1 p=none->Q (.ref p) (upd H1 p (.lst xs))
theorem zNh{x1}(h:PA X es t):PE X (.Tuple es x1 pos) (zNE t):=by
 intro pins s σ H Q I hq;refine wpAny_Tuple_spliced (zd (h pos pins s σ H _ I hq) fun us s1 ⟨xs,H1,I1,r,z,q⟩=>⟨by rw [<-r.length];exact z,?_⟩);have hf:H1 s1.heap.objs.size=none:=I1.hok.fresh (zPZ _);refine ⟨.ref s1.heap.objs.size,upd H1 s1.heap.objs.size (.tup xs),I1.laid (t':=s1.toks) (fun b u e=>zPX _ e) (zPZ _) ?_,rfl,q _ hf⟩;exact ⟨z,us,r,⟨_,zPo _ rfl,rfl,⟨_,rfl⟩,rfl⟩⟩
theorem zJS(h:PA X es t):PE X (.List es pos) (zKt t):=by
 intro pins s σ H Q I hq;refine wpAny_List_spliced (zd (h pos pins s σ H _ I hq) fun us s1 ⟨xs,H1,I1,r,z,q⟩=>⟨by rw [<-r.length];exact z,?_⟩);have hf:H1 s1.heap.objs.size=none:=I1.hok.fresh (zPZ _);refine ⟨.ref s1.heap.objs.size,upd H1 s1.heap.objs.size (.lst xs),I1.laid (t':=s1.toks) (fun b u e=>zPX _ e) (zPZ _) ?_,rfl,q _ hf⟩;exact ⟨z,us,0,r,zPo _ rfl⟩
end
abbrev Sp:=List V->Hp->VK->XK->Prop
abbrev CXT:=List Env->Hp->Shared->XK->Value->Shared->Prop
structure Env0(P:Program)(w:World)(K:zQK)(mg:Str->Option Value)(base:Heap)(A:Around)(outer:List Env)(s:Shared)(H:Hp):Prop where
 frames:A.frames=some outer
 mod:Mod K mg base
 bs: ∀b o,base.get? b=some o->s.heap.get? b=some o/\H b=none
 bsz:base.objs.size<=s.heap.objs.size
 funs:s.heap.FunFrames base outer
 frf: ∀b∈frs outer,H b=none
 hok:HOk P w H s.heap
 bare:AllBare s.gens
def CE(outer:List Env)(P:Program)(w:World)(H:Hp)(s:Shared)(Q:VK)(u:Value)(s':Shared):Prop:=
 ∃v H',s'.os=s.os/\AllBare s'.gens/\Un (frs outer) [] H H' s.heap s'.heap/\HOk P w H' s'.heap/\zg v u/\Q v H'
def CR(CX:CXT)(outer:List Env)(P:Program)(w:World)(H:Hp)(s:Shared)(Q:VK)(E:XK)(r:Result)(s':Shared):Prop:=
 match r with
 | .ok (.ret u)=>CE outer P w H s Q u s'
 | .ok _=>False
 | .error e=>CX outer H s E e s'
structure FnOk(P:Program)(w:World)(K:zQK)(mg:Str->Option Value)(base:Heap)(CX:CXT)(k:Nat)(f:Addr)(fd:FuncData)(ps:List Str)(sp:Sp):Prop where
 len: ∀vs H Q E,sp vs H Q E->vs.length=ps.length
 run: ∀(A:Around) (outer:List Env) (s:Shared) (H:Hp) (args:Args) (us:List Value) (vs:List V) (Q:VK) (E:XK),Room k A->Env0 P w K mg base A outer s H->BindsTo s fd args (ps.zip us)->zQ vs us->sp vs H Q E->
  codeAny (model P w) A (.call (.ref f) args) (CR CX outer P w H s Q E) s
theorem Env0.make{P:Program}{w:World}{K:zQK}{mg:Str->Option Value}{base:Heap}{A:Around}{outer:List Env}{s:Shared}{H:Hp}(e:Env0 P w K mg base A outer s H)(C:Addr)(us:List Value)(kw:List (Str×Value)):
  Env0 P w K mg base (A.under (.builtin "type.__call__" ⟨.ref C::us,kw⟩)) outer s H:=⟨by first | exact e.frames |(simpa [Around.under,Code.envs,Code.isFrame,pushEnvs] using e.frames),e.mod,e.bs,e.bsz,e.funs,e.frf,e.hok,e.bare⟩
section
variable {X:Cx}{pins:List (Addr×Obj)}{σ:St}{H:Hp}{s s':Shared}
theorem Inv.env0(I:Inv X pins σ H s):Env0 X.prog X.w X.K X.mg X.base X.A X.stack s H:=
 ⟨I.ok.frames,I.ok.mod,I.bs,zPj I.ok.bsz I.sz,I.stack,I.stkFree,I.hok,I.bare⟩
theorem Inv.after{Q:VK}{u:Value}(I:Inv X pins σ H s)(h:CE X.stack X.prog X.w H s Q u s'):EP X pins σ Q u s':=by
 obtain ⟨v,H',os,bare,un,hok,r,q⟩:=h;obtain ⟨hh,g,d,t,os'⟩:=s';obtain rfl:os'=s.os:=os;exact ⟨v,H',I.call (h':=hh) (g':=g) (d':=d) (t':=t) (ch:= []) un hok bare (fun b z=>absurd z (by simp)),r,q⟩
end
def zFs(sp:Sp)(dvs:List V)(E:XK)(t:TA):TE:=fun σ H Q=>t σ H fun vs H1=>sp (vs++dvs) H1 Q E
inductive XMeth (C:Addr) (m:Str) (sp:Sp) (dvs:List V) (E:XK) (t:TA) (x:V) (σ:St) (H1:Hp) (Q:VK):Prop
 | mk (a dx:Addr) (fs:List (Str×V)) (h1:x= .ref a) (h2:H1 a=some (.ins C dx fs)) (h3:fs.lookup m=none) (q:t σ H1 fun vs H2=>sp (x::(vs++dvs)) H2 Q E)
def zFz(C:Addr)(m:Str)(sp:Sp)(dvs:List V)(E:XK)(ta:TE)(t:TA):TE:=fun σ H Q=>ta σ H fun x H1=>XMeth C m sp dvs E t x σ H1 Q
def zIh(C:Addr)(sp:Sp)(dvs:List V)(E:XK)(t:TA):TE:=fun σ H Q=>t σ H fun vs H1=> ∀x dx,H1 x=none->H1 dx=none->dx≠x->
 sp (.ref x::(vs++dvs)) (upd (upd H1 dx (.own x)) x (.ins C dx [])) (fun v H2=>v= .non/\Q (.ref x) H2) E
def zL(K:zQK)(fd:FuncData)(ps:List Str)(ds:List Value):Prop:=
 ∀(s:Shared) (us:List Value),K.In s.heap->(us++ds).length=ps.length->BindsTo s fd ⟨us,[]⟩ (ps.zip (us++ds))
theorem zL.all{K:zQK}{fd:FuncData}{ps:List Str}(h: ∀us:List Value,us.length=ps.length->bindArgs fd ⟨us,[]⟩=pure (ps.zip us)):zL K fd ps [] :=fun s us _ hl=>by
 rw [zPw] at hl⊢;exact .of_eq (h us hl)
def zAc(CX:CXT)(X:Cx)(E:XK):Prop:= ∀(pins:List (Addr×Obj)) (σ:St) (H:Hp) (s:Shared) (e:Value) (s':Shared),Inv X pins σ H s->CX X.stack H s E e s'->X.xe e s'
section
variable {X:Cx}{CX:CXT}{k:Nat}{f C:Addr}{fd:FuncData}{ps:List Str}{sp:Sp}{dvs:List V}{ds:List Value}{E:XK}{x m:Str}{p pos apos:Pos}{e o:Expr}{es:List Expr}{ta:TE}{t:TA}
theorem zGg{pins:List (Addr×Obj)}{σ:St}{H:Hp}{s:Shared}{Q:VK}{us:List Value}{vs:List V}(F:FnOk X.prog X.w X.K X.mg X.base CX k f fd ps sp)(hr:Room k X.A)(hb:zL X.K fd ps ds)(hd:zQ dvs ds)(hx:zAc CX X E)
  (I:Inv X pins σ H s) (r:zQ vs us) (h:sp (vs++dvs) H Q E):wpAny (model X.prog X.w) X.A (call (.ref f) us) (EP X pins σ Q) X.xe s:=by
 have r2:zQ (vs++dvs) (us++ds):=r.append hd;have hl:(us++ds).length=ps.length:=by rw [<-r2.length];exact F.len _ _ _ _ h
 refine wpAny_call (zQI (F.run X.A X.stack s H ⟨us,[]⟩ (us++ds) (vs++dvs) Q E hr I.env0 (hb s us I.kIn hl) r2 h) fun r s' hq=>?_);cases r with
 | error e=>exact hx pins σ H s e s' I hq
 | ok fl=>
  cases fl with
  | ret u=>exact I.after hq
  | next=>exact False.elim hq
  | brk=>exact False.elim hq
  | cont=>exact False.elim hq
theorem zFI(F:FnOk X.prog X.w X.K X.mg X.base CX k f fd ps sp)(hr:Room k X.A)(hg:Gl X x)(hm:X.mg x=some (.ref f))(hk:PySem.W.keepIn X.K (.ref f)=true)(hb:zL X.K fd ps ds)(hd:zQ dvs ds)(hx:zAc CX X E)
  (ha:PA X (e::es) t) (hdb:(x==("__debug__" :Str))=false:=by decide) (he:starEach (e::es) X.env=(false,eval e X.env)::starEach es X.env:=by rfl) (hpl:(backTo pos (starEach es X.env)).any (·.1)=false:=by rfl):
  PE X (.Call (.Name x p) (e::es) [] pos) (zFs sp dvs E t):=by
 intro pins s σ H Q I h;refine zQH (zFG I hg hm ?_ hdb);refine PySem.W.callWith_K (h₀:=X.base) I.ok.mod.kin hk (zd (ha pos pins s σ H _ I h) fun us s1 ⟨vs,H1,I1,r,q⟩=>⟨I1.kIn,?_⟩) he hpl;exact zGg F hr hb hd hx I1 r q
theorem zMM{pl:Sem Bool}(he:PE X o ta)(c:Cls X.K C)(hm:Meth X.K C m f)(F:FnOk X.prog X.w X.K X.mg X.base CX k f fd ps sp)(hr:Room k X.A)(hb:zL X.K fd ps ds)(hd:zQ dvs ds)(hx:zAc CX X E)(ha:PA X (e::es) t)
  (hst:starEach (e::es) X.env=(false,eval e X.env)::starEach es X.env:=by rfl) (hpl:(backTo pos (starEach es X.env)).any (·.1)=false:=by rfl)
  (ht:eval (.Call (.Attribute o m apos) (e::es) [] pos) X.env=(do
   let ov<-eval o X.env
   standAt apos.atName
   let (f,first)<-holding [ov] (getMethod ov m pl)
   callWith pos f first (backTo pos (starEach (e::es) X.env)) (backToKw pos (keywordEach [] X.env))):=by rfl):
  PE X (.Call (.Attribute o m apos) (e::es) [] pos) (zFz C m sp dvs E ta t):=by
 intro pins s σ H Q I h;refine PySem.W.methodCall_KW (pl:=pl) (zd (he pins s σ H _ I h) fun u s1 ⟨x,H1,I1,rx,a,dx,fs,ex,ea,l,q⟩=>?_) ht;subst ex;obtain rfl:u=Value.ref a:=rx;refine zEo I1 ea c hm l ?_;refine PySem.W.callWith_K (first:= [.ref a]) (h₀:=X.base) I.ok.mod.kin hm.kp (zd (ha pos pins s1 σ H1 _ I1 q) fun us s2 ⟨vs,H2,I2,r,q2⟩=>⟨I2.kIn,?_⟩) hst hpl;exact zGg (us:= .ref a::us) (vs:= .ref a::vs) F hr hb hd hx I2 (.cons rfl r) q2
theorem zKl{pl:Sem Bool}(he:PE X o ta)(c:Cls X.K C)(hm:Meth X.K C m f)(F:FnOk X.prog X.w X.K X.mg X.base CX k f fd ps sp)(hr:Room k X.A)(hb:zL X.K fd ps ds)(hd:zQ dvs ds)(hx:zAc CX X E)
  (ht:eval (.Call (.Attribute o m apos) [] [] pos) X.env=(do
   let ov<-eval o X.env
   standAt apos.atName
   let (f,first)<-holding [ov] (getMethod ov m pl)
   callWith pos f first (backTo pos (starEach [] X.env)) (backToKw pos (keywordEach [] X.env))):=by rfl):
  PE X (.Call (.Attribute o m apos) [] [] pos) (zFz C m sp dvs E ta zBg):=by
 intro pins s σ H Q I h;refine PySem.W.methodCall_KW (pl:=pl) (zd (he pins s σ H _ I h) fun u s1 ⟨x,H1,I1,rx,a,dx,fs,ex,ea,l,q⟩=>?_) ht;subst ex;obtain rfl:u=Value.ref a:=rx;refine zEo I1 ea c hm l ?_;exact PySem.W.callWith_K0 (first:= [.ref a]) I1.kIn hm.kp (zGg (us:= [.ref a]) (vs:= [.ref a]) F hr hb hd hx I1 (.cons rfl .nil) q)
structure Mk(K:zQK)(C f:Addr):Prop where
 makes:PySem.W.makesIn K C=true
 init:PySem.W.findIn K (.ref C) "__init__" =some (some (.ref f))
 fn:PySem.W.isFn K (.ref f)=true
 kp:PySem.W.keepIn K (.ref C)=true
theorem zKW{pins:List (Addr×Obj)}{σ:St}{H:Hp}{s:Shared}{Q:VK}{us:List Value}{vs:List V}(M:Mk X.K C f)(F:FnOk X.prog X.w X.K X.mg X.base CX k f fd ps sp)(hr:Room (k+1) X.A)(hb:zL X.K fd ps ds)(hd:zQ dvs ds)
  (hx:zAc CX X E) (I:Inv X pins σ H s) (r:zQ vs us)
  (h: ∀x dx,H x=none->H dx=none->dx≠x->sp (.ref x::(vs++dvs)) (upd (upd H dx (.own x)) x (.ins C dx [])) (fun v H2=>v= .non/\Q (.ref x) H2) E):
  wpAny (model X.prog X.w) X.A (call (.ref C) us) (EP X pins σ Q) X.xe s:=by
 have hq:=h (s.heap.objs.size+1) s.heap.objs.size (I.hok.fresh (Nat.le_succ _)) (I.hok.fresh (zPZ _)) (zPd (Nat.lt_succ_self _));have I2:=Inv.made (C:=C) I;have r2:zQ (V.ref (s.heap.objs.size+1)::(vs++dvs)) (Value.ref (s.heap.objs.size+1)::(us++ds)):= .cons rfl (r.append hd);have hl:(Value.ref (s.heap.objs.size+1)::us++ds).length=ps.length:=by
  have e:=r2.length;rw [F.len _ _ _ _ hq] at e;exact e.symm
 refine wpAny_call (zKR (f:=f) I.kIn M.makes M.init (beq_iff_eq.mp M.fn) (zQI (F.run _ X.stack _ _ ⟨Value.ref (s.heap.objs.size+1)::us,[]⟩ (Value.ref (s.heap.objs.size+1)::(us++ds)) _ _ E (hr.make C us [])
  (I2.env0.make C us []) (hb _ (Value.ref (s.heap.objs.size+1)::us) I2.kIn hl) r2 hq) fun r s' hq'=>?_))
 cases r with
 | error e=>exact hx pins σ _ _ e s' I2 hq'
 | ok fl=>
  cases fl with
  | ret u=>
   obtain ⟨v,H',I3,rv,ev,q3⟩:=I2.after hq';subst ev;exact ⟨rv,⟨V.ref (s.heap.objs.size+1),H',I3,rfl,q3⟩⟩
  | next=>exact False.elim hq'
  | brk=>exact False.elim hq'
  | cont=>exact False.elim hq'
theorem zMb(M:Mk X.K C f)(F:FnOk X.prog X.w X.K X.mg X.base CX k f fd ps sp)(hr:Room (k+1) X.A)(hg:Gl X x)(hm:X.mg x=some (.ref C))(hb:zL X.K fd ps ds)(hd:zQ dvs ds)(hx:zAc CX X E)
  (ha:PA X (e::es) t) (hdb:(x==("__debug__" :Str))=false:=by decide) (he:starEach (e::es) X.env=(false,eval e X.env)::starEach es X.env:=by rfl) (hpl:(backTo pos (starEach es X.env)).any (·.1)=false:=by rfl):
  PE X (.Call (.Name x p) (e::es) [] pos) (zIh C sp dvs E t):=by
 intro pins s σ H Q I h;refine zQH (zFG I hg hm ?_ hdb);refine PySem.W.callWith_K (h₀:=X.base) I.ok.mod.kin M.kp (zd (ha pos pins s σ H _ I h) fun us s1 ⟨vs,H1,I1,r,q⟩=>⟨I1.kIn,?_⟩) he hpl;exact zKW M F hr hb hd hx I1 r q
end
section
variable {X:Cx}{CX:CXT}{k:Nat}{f C:Addr}{fd:FuncData}{ps ks:List Str}{sp:Sp}{E:XK}{x m:Str}{p pos apos kpos:Pos}{e o:Expr}{es:List Expr}{kws:List Keyword}{te ta:TE}{t tk:TA}{nm:Option Str}
variable {g:List Value->List Value->List Value}{gV:List V->List V->List V}
end
structure FnScope(N P:List Str)(sc:Scope):Prop where
 kind:sc.kind= .function
 co:sc.isCoroutine=false
 gen:sc.isGenerator=false
 nd:N.Nodup
 pre:N.take P.length=P
 par: ∀x∈P,sc.names.lookup x=some .local\/sc.names.lookup x=some .cell
 nofree: ∀y∈sc.names,y.2≠ .free
theorem zFc{kindOf:Str->Option NameKind}{x:Str}: ∀{binds:List (Str×Value)} {m:Str->Option Value},(∀v,(x,v)∉binds)->bindL kindOf binds m x=m x
 | [],_,_=>rfl
 |(n,v)::r,m,h=>by
  unfold bindL;rw [zFc fun w hw=>h w (zQC _ hw)];split
  ·have:x≠n:=by rintro rfl;exact h v List.mem_cons_self
   simp [this]
  ·rfl
theorem zFb{kindOf:Str->Option NameKind}{x:Str}: ∀{binds:List (Str×Value)} {m:Str->Option Value},(∀v,(x,v)∉binds)->bindC kindOf binds m x=m x
 | [],_,_=>rfl
 |(n,v)::r,m,h=>by
  unfold bindC;rw [zFb fun w hw=>h w (zQC _ hw)];split
  ·rfl
  ·have:x≠n:=by rintro rfl;exact h v List.mem_cons_self
   simp [this]
theorem zFa{kindOf:Str->Option NameKind}{x:Str}{v:Value}: ∀{P:List Str} {vs:List Value} {i:Nat} {m:Str->Option Value},P.Nodup->P[i]?=some x->vs[i]?=some v->kindOf x=some .local->
  bindL kindOf (P.zip vs) m x=some v
 | [],_,_,_,_,h,_,_=>by simp at h
 | _::_,[],_,_,_,_,h,_=>by simp at h
 | p::P,w::vs,0,m,nd,h1,h2,hk=>by
  simp at h1 h2;subst h1;subst h2;show bindL kindOf ((p,w)::P.zip vs) m p=_;unfold bindL;rw [zFc fun v hv=>(List.nodup_cons.mp nd).1 (List.of_mem_zip hv).1,if_pos hk];simp
 | p::P,w::vs,i+1,m,nd,h1,h2,hk=>by
  show bindL kindOf ((p,w)::P.zip vs) m x=_;unfold bindL;exact zFa (i:=i) (List.nodup_cons.mp nd).2 (by simpa using h1) (by simpa using h2) hk
theorem zFi{kindOf:Str->Option NameKind}{x:Str}{v:Value}: ∀{P:List Str} {vs:List Value} {i:Nat} {m:Str->Option Value},P.Nodup->P[i]?=some x->vs[i]?=some v->kindOf x≠some .local->
  bindC kindOf (P.zip vs) m x=some v
 | [],_,_,_,_,h,_,_=>by simp at h
 | _::_,[],_,_,_,_,h,_=>by simp at h
 | p::P,w::vs,0,m,nd,h1,h2,hk=>by
  simp at h1 h2;subst h1;subst h2;show bindC kindOf ((p,w)::P.zip vs) m p=_;unfold bindC;rw [zFb fun v hv=>(List.nodup_cons.mp nd).1 (List.of_mem_zip hv).1,if_neg hk];simp
 | p::P,w::vs,i+1,m,nd,h1,h2,hk=>by
  show bindC kindOf ((p,w)::P.zip vs) m x=_;unfold bindC;exact zFi (i:=i) (List.nodup_cons.mp nd).2 (by simpa using h1) (by simpa using h2) hk
def start(N:List Str)(vs:List V):St:=vs.map some++List.replicate (N.length - vs.length) none
def zAi(CX:CXT)(P:Program)(w:World)(K:zQK)(mg:Str->Option Value)(base:Heap)(N:List Str)(qual:Str)(scope:Scope)(f:Addr)(cd:Value)(A:Around)(outer:List Env)(s:Shared)(H:Hp)(E:XK):Cx where
 prog:=P
 w:=w
 K:=K
 mg:=mg
 base:=base
 A:=A.deeper (envOfC qual scope s.heap.objs.size f cd)
 N:=N
 s₀:=s
 H₀:=H
 env:=envOfC qual scope s.heap.objs.size f cd
 outer:=outer
 stack:=envOfC qual scope s.heap.objs.size f cd::outer
 ex:= []
 calm:=true
 fn:=fun _=>true
 pn:= []
 xe:=fun e s'=>wpAny (model P w) (A.deeper (envOfC qual scope s.heap.objs.size f cd)) (leaving (envOfC qual scope s.heap.objs.size f cd) e) (fun _ s''=>CX outer H s E e s'') (fun e' s''=>CX outer H s E e' s'') s'
theorem zHG{sc:Scope}{n:Nat}{x:Str}(h:sc.names.lookup x=some .cell): ∃c,(cellsFrom n sc.names []).lookup x=some c:=by
 have q:=PySem.W.cellsFrom_some sc.names n [] (.inl h);exact Option.isSome_iff_exists.mp q
theorem zJk{CX:CXT}{P:Program}{w:World}{K:zQK}{mg:Str->Option Value}{base:Heap}{N ps:List Str}{qual:Str}{scope:Scope}{f:Addr}{cd:Value}{A:Around}{outer:List Env}{s s1:Shared}{H:Hp}{E:XK}{us:List Value}{vs:List V}
  (S:FnScope N ps scope) (hd:A.handled=none) (e0:Env0 P w K mg base A outer s H) (hl:vs.length=ps.length) (r:zQ vs us)
  (x:InCallC s s.heap.objs.size (bindL (envOfC qual scope s.heap.objs.size f cd).kindOf (ps.zip us) fun _=>none) (cellsFrom (s.heap.objs.size+1) scope.names []) (bindC (envOfC qual scope s.heap.objs.size f cd).kindOf (ps.zip us) fun _=>none) s1):
  Inv (zAi CX P w K mg base N qual scope f cd A outer s H E) [] (start N vs) H s1:=by
 have hpl:ps.length<=N.length:=by have:=congrArg List.length S.pre;rw [List.length_take] at this;omega
 obtain ⟨h1,tk,rfl,hk⟩:=x.done;have noA: ∀b:Addr,b∉(zAi CX P w K mg base N qual scope f cd A outer s H E).ex:=fun b z=>absurd (show b∈([] :List Addr) from z) (by simp);refine ⟨⟨e0.mod,S.kind,rfl,rfl,zPZ _,fun y z c h1 h2=>?_,fun y hy=>?_,fun y c _ h=>?_,fun _=>hd,Around.frames_deeper e0.frames,.inr ⟨rfl,rfl⟩,fun b z=>absurd z (noA b),e0.bs,e0.bsz,fun b _ _=>noA b,fun b z=>absurd z (noA b),e0.funs,e0.frf⟩,
  rfl,e0.bare,Un.kept hk,⟨_,x.toInCall.ns,fun i y v h1 h2 h3=>?_⟩,fun y c h=>⟨_,x.cell y c h⟩,e0.hok.fresh (zPZ _),fun y c h=>?_,fun p hp=>absurd (show p∈([] :List (Addr×Obj)) from hp) (by simp),e0.hok.kept hk,?_⟩
 ·exact name_of_addr x.apart (PySem.mem_of_lookup h1) (PySem.mem_of_lookup h2)
 ·have hy:scope.names.lookup y=some .cell\/scope.names.lookup y=some .free:=hy;rcases hy with hy | hy
  ·exact zHG hy
  ·exact absurd rfl (S.nofree _ (PySem.mem_of_lookup hy))
 ·exact zQD (x.above y c (PySem.mem_of_lookup h))
 ·have hi:i<vs.length:=by
   unfold start at h2;by_cases hi:i<vs.length
   ·exact hi
   ·rw [List.getElem?_append_right (by simpa using hi)] at h2;rw [List.getElem?_replicate] at h2;split at h2<;>cases h2
  have ha:vs[i]?=some v:=by
   unfold start at h2;rw [List.getElem?_append_left (by simpa using hi),zPa] at h2;cases e:vs[i]? with
   | none=>rw [e] at h2;cases h2
   | some a=>rw [e] at h2;cases h2;rfl
  obtain ⟨u,hu,rv⟩:=r.get ha;have hp:ps[i]?=some y:=by
   rw [<-S.pre,List.getElem?_take_of_lt (by omega)];exact h1
  have ndP:ps.Nodup:=by rw [<-S.pre];exact S.nd.sublist (List.take_sublist _ _)
  refine ⟨u,rv,?_⟩;rcases S.par y (zPz hp) with k | k
  ·exact .inl ⟨k,zFa ndP hp hu k⟩
  ·obtain ⟨c,e⟩:=zHG (n:=s.heap.objs.size+1) k;refine .inr ⟨.inl k,c,e,?_⟩;have q:=x.cell y c e;rw [zFi ndP hp hu (by show scope.names.lookup y≠_;rw [k];decide)] at q;exact q
 ·exact e0.hok.fresh (zQD (x.above y c (PySem.mem_of_lookup h)))
 ·unfold start;show _=N.length;rw [zPx,zPc,List.length_replicate];omega
theorem zLR{CX:CXT}{P:Program}{w:World}{K:zQK}{mg:Str->Option Value}{base:Heap}{k:Nat}{f:Addr}{name qual:Str}{params:Arguments}{body:List Stmt}{scope:Scope}{dV kV doc pm cdv ct oc:Value}{an od:Option Addr}
  {osl:Array (Option Value)} {N ps:List Str} {sp:Sp} (lk:K.lookup f=some ⟨oc,od,.func (PySem.W.fnOf name qual params body scope dV kV doc pm an cdv ct),osl⟩) (hcd:PySem.W.codeIn K cdv qual=true) (S:FnScope N ps scope)
  (len: ∀vs H Q E,sp vs H Q E->vs.length=ps.length)
  (hbody: ∀(A:Around) (outer:List Env) (s:Shared) (H:Hp) (vs:List V) (Q:VK) (E:XK),Room k (A.deeper (envOfC qual scope s.heap.objs.size f cdv))->sp vs H Q E->
   ∃t,PSs (zAi CX P w K mg base N qual scope f cdv A outer s H E) body t/\t {nx:=fun _ H'=>Q .non H',rt:=Q} (start N vs) H):
  FnOk P w K mg base CX (k+1) f (PySem.W.fnOf name qual params body scope dV kV doc pm an cdv ct) ps sp:=by
 refine ⟨len,fun A outer s H args us vs Q E hr e0 hb r hsp=>?_⟩;have hl:=len _ _ _ _ hsp;have KX:K.In s.heap:=e0.mod.kin.keeps fun b o e=>(e0.bs b o e).1;have lim:s.heap.NoLimit:=e0.mod.nolimit.keeps fun b o e=>(e0.bs b o e).1;have hkind: ∀y∈ps.zip us,scope.names.lookup y.1=some .local\/(scope.names.lookup y.1=some .cell/\((cellsFrom (s.heap.objs.size+1) scope.names []).lookup y.1).isSome=true):=fun ⟨n,v⟩ hy=>by
  rcases S.par n (List.of_mem_zip hy).1 with q | q
  ·exact .inl q
  ·exact .inr ⟨q,PySem.W.cellsFrom_some _ _ _ (.inl q)⟩
 refine codeAny_call_function hr.depth (KX _ _ lk) rfl S.co S.gen rfl (PySem.W.codeRec_of KX hcd) (hb _ _ _ _ ?_);refine wpAny_newFunctionEnv_cells S.kind hkind fun env he s1 x=>?_;subst he;refine ⟨lim.keeps x.toInCall.keep,codeAny_func ?_⟩;obtain ⟨t,ht,hq⟩:=hbody A outer s H vs Q E (hr.deeper _) hsp;have I:Inv (zAi CX P w K mg base N qual scope f cdv A outer s H E) [] (start N vs) H s1:=zJk S hr.hd e0 hl r x;refine zPq (ht [] s1 (start N vs) H _ I hq) (fun fl s' hs=>?_) fun e s' hs=>hs;have fin: ∀{σ':St} {H':Hp} {v:V} {u:Value},Inv (zAi CX P w K mg base N qual scope f cdv A outer s H E) [] σ' H' s'->zg v u->Q v H'->CE outer P w H s Q u s':=
  fun {σ' H' v u} J rv q=>⟨v,H',J.os,J.bare,J.base,J.hok,rv,q⟩
 cases fl with
 | ret u=>
  obtain ⟨v,σ',H',J,rv,q⟩:=hs;exact fin J rv q
 | next=>
  obtain ⟨σ',H',J,q⟩:=hs;exact fin (v:=V.non) (u:=Value.none) J rfl q
 | brk=>
  obtain ⟨_,_,_,q⟩:=hs;exact False.elim q
 | cont=>
  obtain ⟨_,_,_,q⟩:=hs;exact False.elim q
section
variable {X:Cx}{x:Str}{p pos:Pos}{e:Expr}{es:List Expr}{t:TA}{id T:String}{r:List V->Hp->VK->Prop}
def tCB(r:List V->Hp->VK->Prop)(t:TA):TE:=fun σ H Q=>t σ H fun vs H1=>r vs H1 Q
theorem zCh(hc:yc X (.builtin id) r)(hg:Gl X x)(hm:X.mg x=none)(hv:bootBuiltins x=some (.builtin id))(ha:PA X (e::es) t)(hn:x≠ "__name__" :=by decide)(hdb:(x==("__debug__" :Str))=false:=by decide)
  (he:starEach (e::es) X.env=(false,eval e X.env)::starEach es X.env:=by rfl) (hpl:(backTo pos (starEach es X.env)).any (·.1)=false:=by rfl):PE X (.Call (.Name x p) (e::es) [] pos) (tCB r t):=by
 intro pins s σ H Q I h;refine zQH (zBm I hg hm hv ?_ hn hdb);exact PyProof.Rows.callWith_builtin1 (zd (ha pos pins s σ H _ I h) fun us s1 ⟨vs,H1,I1,r1,q1⟩=>hc pins s1 σ H1 vs us Q I1 r1 q1) he hpl
theorem zJq(hc:yc X (.type T) r)(hg:Gl X x)(hm:X.mg x=none)(hv:bootBuiltins x=some (.type T))(ha:PA X (e::es) t)(hn:x≠ "__name__" :=by decide)(hdb:(x==("__debug__" :Str))=false:=by decide)
  (he:starEach (e::es) X.env=(false,eval e X.env)::starEach es X.env:=by rfl) (hpl:(backTo pos (starEach es X.env)).any (·.1)=false:=by rfl):PE X (.Call (.Name x p) (e::es) [] pos) (tCB r t):=by
 intro pins s σ H Q I h;refine zQH (zBm I hg hm hv ?_ hn hdb);exact PyProof.Rows.callWith_type1 (zd (ha pos pins s σ H _ I h) fun us s1 ⟨vs,H1,I1,r1,q1⟩=>hc pins s1 σ H1 vs us Q I1 r1 q1) he hpl
end
end L2
namespace HT
open PySem PyProof.Rows
section
open PySem.SeqAt
open PySem.AutoSeq1 (wpAny_loadPart')
open PySem.MeetsSeq PySem.MeetsSeq2 PySem.MeetsSeq3
end
section
variable {prog:Program}{w:World}{A:Around}{E:Value->Shared->Prop}{s:Shared}
def sIx(n d:Nat):Option Int->Nat
 | none=>d
 | some v=>if v<0 then (v+(n:Int)).toNat else min v.toNat n
theorem zOW(n d:Nat)(hd:d<=n)(o:Option Int):sIx n d o<=n:=by
 cases o with
 | none=>exact hd
 | some v=>
  show (if v<0 then (v+(n:Int)).toNat else min v.toNat n)<=n;by_cases hv:v<0
  ·rw [if_pos hv];omega
  ·rw [if_neg hv];exact Nat.min_le_right _ _
theorem zHn(v:Int)(n d:Nat):(if v<0 then max (v+(n:Int)) 0 else min v (n:Int))=((sIx n d (some v):Nat):Int):=by
 show (if v<0 then max (v+(n:Int)) 0 else min v (n:Int))=(((if v<0 then (v+(n:Int)).toNat else min v.toNat n):Nat):Int);by_cases hv:v<0
 ·simp only [if_pos hv];omega
 ·simp only [if_neg hv];omega
theorem zIF(lo hi:Option Int)(n:Nat):Builtin.Slice.sliceAdjust lo hi 1 (n:Int)=(((sIx n 0 lo:Nat):Int),((sIx n n hi:Nat):Int)):=by
 have h1: ¬((1:Int)<0):=by omega
 unfold Builtin.Slice.sliceAdjust;simp only [h1,if_false];refine Prod.ext ?_ ?_
 ·cases lo with
  | none=>rfl
  | some v=>exact zHn v n 0
 ·cases hi with
  | none=>rfl
  | some v=>exact zHn v n n
theorem zIT(i j:Nat):Builtin.Slice.slicePlaces (i:Int) (j:Int) 1=j - i:=by
 unfold Builtin.Slice.slicePlaces;have h1:(1:Int)>0:=by omega
 simp only [h1,if_true,Int.ediv_one];split<;>omega
theorem zET{v:Value}{o:Option Int}{Q:Option Int->Shared->Prop}(p:IsPart v o)(h:Q o s):wpAny (model prog w) A (Builtin.Slice.slicePartIndex v) Q E s:=by
 cases p with
 | none=>exact slicePart_none h
 | int i t=>exact slicePart_int h
theorem zED{sl:Addr}{vl vu:Value}{lo hi:Option Int}{n:Nat}{Q:Int×Int×Nat->Shared->Prop}(hs:s.heap.IsSliceOf sl vl vu .none)(pl:IsPart vl lo)(pu:IsPart vu hi)
  (h:Q (((sIx n 0 lo:Nat):Int),1,sIx n n hi - sIx n 0 lo) s):wpAny (model prog w) A (Builtin.Slice.sliceApplied (.ref sl) (pure (n:Int))) Q E s:=by
 obtain ⟨os,hos,hcs,hds⟩:=id hs;unfold Builtin.Slice.sliceApplied Builtin.Slice.sliceFields;refine zPW (zPW (wpAny_field hos hds (x:=vl) rfl (zPW (wpAny_field hos hds (x:=vu) rfl (zPW (wpAny_field hos hds (x:= .none) rfl (zPb ?_)))))));refine zPW (slicePart_none ?_);show wpAny _ _ (if ((1:Int)==0)=true then _ else _) _ _ s;rw [if_neg (by decide)];refine zPW (zET pl (zPW (zET pu (zPW (zPb ?_)))));show wpAny _ _ (match Builtin.Slice.sliceAdjust lo hi 1 (n:Int) with |(lo,hi)=>pure (lo,(1:Int),Builtin.Slice.slicePlaces lo hi 1)) _ _ s;rw [zIF lo hi n];show wpAny _ _ (pure (((sIx n 0 lo:Nat):Int),(1:Int),Builtin.Slice.slicePlaces ((sIx n 0 lo:Nat):Int) ((sIx n n hi:Nat):Int) 1)) _ _ s;rw [zIT];exact zPb h
theorem zKZ(xs:Array Value)(i k:Nat):((List.range k).filterMap fun (m:Nat)=>xs[((i:Int)+(m:Int)*1).toNat]?).toArray=((xs.toList.drop i).take k).toArray:=by
 have e:(fun (m:Nat)=>xs[((i:Int)+(m:Int)*1).toNat]?)=fun m=>xs[i+m]?:=by
  funext m
  have:((i:Int)+(m:Int)*1).toNat=i+m:=by omega
  rw [this]
 rw [e];have:=pick_run xs i k;rw [List.filterMap_map] at this;have e2:((fun x=>xs[x]?)∘fun x=>i+x)=fun m=>xs[i+m]?:=rfl;rw [e2] at this;rw [this]
theorem getItem_tuple_cut{t sl:Addr}{items:Array Value}{vl vu:Value}{lo hi:Option Int}{Q:Value->Shared->Prop}(ht:IsTup s.heap t items)(hs:s.heap.IsSliceOf sl vl vu .none)(pl:IsPart vl lo)(pu:IsPart vu hi)
  (hw: ¬(sIx items.size 0 lo=0/\sIx items.size items.size hi=items.size))
  (h:Q (.ref s.heap.objs.size) {s with heap:=s.heap.push {cls:= .type "tuple",data:= .seq ((items.toList.drop (sIx items.size 0 lo)).take (sIx items.size items.size hi - sIx items.size 0 lo)).toArray}})
  (hsz:items.size<=sizeLine):wpAny (model prog w) A (getItem (.ref t) (.ref sl)) Q E s:=by
 have htake:sizeOk (.seq ((items.toList.drop (sIx items.size 0 lo)).take (sIx items.size items.size hi - sIx items.size 0 lo)).toArray):=by
  show ((items.toList.drop (sIx items.size 0 lo)).take (sIx items.size items.size hi - sIx items.size 0 lo)).toArray.size<=sizeLine;rw [zPp,List.length_take,List.length_drop,Array.length_toList];omega
 have hj:sIx items.size items.size hi<=items.size:=zOW _ _ (zPZ _) hi;obtain ⟨os,hos,hcs,hds⟩:=id hs;have hTs:s.TypeIs (.ref sl) "slice" :=⟨os,hos,hcs⟩;unfold getItem
 try with_reducible refine wpAny_holding ?_
 first | refine zPW (zPb ?_)| skip
 refine zPW (wpAny_sequenceKey ht.typeIs (by decide) ?_);refine zPW (wpAny_callSpecial?_slot (name:=Str.ofString "__getitem__") ht.typeIs PyProof.Rows.slot_tuple_getitem
  (wpAny_call_entry PyProof.Rows.slot_tuple_getitem ht.typeIs entry_tuple_getitem ?_ (args_tuple_getitem _ _)))
 show wpAny _ _ (Builtin.Tuple.tupleItemsOf (.ref t)>>=_) _ _ s;refine zPW (tupleItemsOf_ ht ?_);refine zPW (wpAny_typeOf hTs ?_);rw [if_pos (by decide)];refine zPW (zED hs pl pu ?_);have hno: ¬((((sIx items.size 0 lo:Nat):Int)==0&&(1:Int)==1&&(sIx items.size items.size hi - sIx items.size 0 lo)==items.size)=true):=by
  intro q;rw [Bool.and_eq_true,Bool.and_eq_true] at q;have q1:((sIx items.size 0 lo:Nat):Int)=0:=eq_of_beq q.1.1;have q2:sIx items.size items.size hi - sIx items.size 0 lo=items.size:=eq_of_beq q.2;exact hw ⟨by omega,by omega⟩
 show wpAny _ _ (if (((sIx items.size 0 lo:Nat):Int)==0&&(1:Int)==1&&(sIx items.size items.size hi - sIx items.size 0 lo)==items.size)=true then _ else _) _ _ s;rw [if_neg hno,zKZ]
 first
  | exact zPW (m:=Builtin.Tuple.tupleExact _) (wpAny_newObj_type (zPb ⟨_,rfl,zPb h⟩) htake)
  | exact zPW (m:=Builtin.Tuple.tupleExact _) (wpAny_newObj_type (zPW (zPb (zPb ⟨_,rfl,zPb h⟩))) htake)
  | exact zPW (zPW (m:=Builtin.Tuple.tupleExact _) (wpAny_newObj_type (zPb (zPb ⟨_,rfl,zPb h⟩)) htake))
  | exact zPW (zPW (m:=Builtin.Tuple.tupleExact _) (wpAny_newObj_type (zPb ⟨_,rfl,zPb h⟩) htake))
end
end HT
namespace L2
open PySem PySem.Spec PyProof.Rows
abbrev TO:=St->Hp->(Option Int->Hp->Prop)->Prop
def PO(X:Cx)(e:Option Expr)(t:TO):Prop:=
 ∀(pins:List (Addr×Obj)) (s:Shared) (σ:St) (H:Hp) (Q:Option Int->Hp->Prop),Inv X pins σ H s->t σ H Q->
  wpAny (model X.prog X.w) X.A (evalPart e X.env) (fun u s'=> ∃o H',Inv X pins σ H' s'/\IsPart u o/\Q o H') X.xe s
def zHw:TO:=fun _ H Q=>Q none H
inductive XPart (x:V) (H1:Hp) (Q:Option Int->Hp->Prop):Prop
 | mk (i:Int) (h:x= .int i) (q:Q (some i) H1)
def zLJ(t:TE):TO:=fun σ H Q=>t σ H fun x H1=>XPart x H1 Q
theorem zIU{ns:List Int}: ∀{us:List Value},zQ (ns.map V.int) us->IntsAre us ns:=by
 induction ns with
 | nil=>intro us r;rw [List.map_nil] at r;cases r;exact .nil
 | cons n ns ih=>
  intro us r;rw [List.map_cons] at r;cases r with
  | cons r1 r2=>
   obtain ⟨t,e⟩:=r1;subst e;exact .cons n t (ih r2)
section
variable {X:Cx}{e:Expr}{te:TE}{lo hi:Option Expr}{tl th:TO}{pos p2:Pos}
theorem zMD:PO X none zHw:=by
 intro pins s σ H Q I h;rw [evalPart_none];exact zPb ⟨none,H,I,.none,h⟩
theorem zLd(h:PE X e te):PO X (some e) (zLJ te):=by
 intro pins s σ H Q I hw;rw [evalPart_some];refine zd (h pins s σ H _ I hw) fun u s1 ⟨x,H1,I1,r1,q1⟩=>?_;obtain ⟨i,rfl,q⟩:=q1;obtain ⟨t,rfl⟩:=r1;exact ⟨some i,H1,I1,.int i t,q⟩
def SlR(X:Cx)(r:V->Option Int->Option Int->Hp->VK->Prop):Prop:=
 ∀(pins:List (Addr×Obj)) (s:Shared) (σ:St) (H:Hp) (x:V) (v vl vu:Value) (lo hi:Option Int) (sl:Addr) (Q:VK),Inv X pins σ H s->zg x v->s.heap.IsSliceOf sl vl vu .none->IsPart vl lo->IsPart vu hi->r x lo hi H Q->
  ∃T id,typeLookup (.type T) "__getitem__" =pure (some (.builtin id))/\s.TypeIs v T/\wpAny (model X.prog X.w) X.A (getItem v (.ref sl)) (EP X pins σ Q) X.xe s
def tSl(r:V->Option Int->Option Int->Hp->VK->Prop)(te:TE)(tl th:TO):TE:=fun σ H Q=>te σ H fun x H1=>tl σ H1 fun l H2=>th σ H2 fun u H3=>r x l u H3 Q
theorem zHE{r:V->Option Int->Option Int->Hp->VK->Prop}(hr:SlR X r)(he:PE X e te)(hl:PO X lo tl)(hu:PO X hi th):PE X (.Subscript e (.Slice lo hi none p2) pos) (tSl r te tl th):=by
 intro pins s σ H Q I h;refine Subscript_ (zd (he pins s σ H _ I h) fun v s1 ⟨x,H1,I1,r1,q1⟩=>?_);refine wpAny_Slice (zd (hl pins s1 σ H1 _ I1 q1) fun vl s2 ⟨l,H2,I2,pl,q2⟩=>zd (hu pins s2 σ H2 _ I2 q2) fun vu s3 ⟨u,H3,I3,pu,q3⟩=>?_);rw [evalPart_none];refine zPb ?_;have I4:Inv X pins σ H3 {s3 with heap:=s3.heap.push {cls:= .type "slice",data:= .fields #[vl,vu,.none]}}:=I3.kept (t':=s3.toks) fun b ob q=>zPX _ q;obtain ⟨T,id,hT,ht,hg⟩:=hr pins {s3 with heap:=s3.heap.push {cls:= .type "slice",data:= .fields #[vl,vu,.none]}} σ H3 x v vl vu l u s3.heap.objs.size Q I4 r1 (Heap.IsSliceOf.new ..) pl pu q3;show wpAny (model X.prog X.w) X.A (subscriptTail e (.Slice lo hi none p2) v (.ref s3.heap.objs.size)) (EP X pins σ Q) X.xe {s3 with heap:=s3.heap.push {cls:= .type "slice",data:= .fields #[vl,vu,.none]}};exact tail_any (ops:= [.ref s3.heap.objs.size,v]) ht hT hg (by with_unfolding_all rfl)
def zAv(xs:List V)(lo hi:Option Int):List V:=(xs.drop (HT.sIx xs.length 0 lo)).take (HT.sIx xs.length xs.length hi - HT.sIx xs.length 0 lo)
theorem zDq(xs:List V)(lo hi:Option Int):(zAv xs lo hi).length<=xs.length:=by
 unfold zAv;rw [List.length_take,List.length_drop];omega
def zMn(K:zQK):V->Option Int->Option Int->Hp->VK->Prop:=fun x lo hi H Q=> ∃a xs,x= .ref a/\SqT K H a xs/\
 ¬(HT.sIx xs.length 0 lo=0/\HT.sIx xs.length xs.length hi=xs.length)/\ ∀p,H p=none->Q (.ref p) (upd H p (.tup (zAv xs lo hi)))
theorem zOO:SlR X (zMn X.K):=by
 intro pins s σ H x v vl vu lo hi sl Q I rx hs pl pu h;obtain ⟨a,xs,rfl,hx,hw,q⟩:=h;cases rx;obtain ⟨its,r,ht,hz⟩:=I.tuple hx;have hlen:its.toArray.size=xs.length:=by rw [zPp];exact r.length.symm
 refine ⟨"tuple",_,PyProof.Rows.slot_tuple_getitem.lookup,ht.typeIs,?_⟩;refine HT.getItem_tuple_cut ht hs pl pu (by rw [hlen];exact hw) ?_ (by rw [hlen];exact hz);rw [hlen];refine ⟨.ref s.heap.objs.size,_,I.laid (t':=s.toks) (o:= .tup (zAv xs lo hi)) (fun b ob q=>zPX _ q) (zPZ _) ?_,rfl,q _ (I.hok.fresh (zPZ _))⟩;exact ⟨zPj (zDq xs lo hi) hz,_,(r.drop (HT.sIx xs.length 0 lo)).take (HT.sIx xs.length xs.length hi - HT.sIx xs.length 0 lo),zEl.new _ _⟩
end
def ixN(n:Nat)(i:Int):Option Nat:=if 0<=i then (if i<n then some i.toNat else none) else if -(n:Int)<=i then some (i+n).toNat else none
def atI{α:Type}(xs:List α)(i:Int):Option α:=(ixN xs.length i).bind fun j=>xs[j]?
theorem zHa{n:Nat}{i:Int}{j:Nat}(h:ixN n i=some j):seqIndex? i n=some j/\j<n/\ -(n:Int)<=i/\i<n:=by
 unfold ixN at h;by_cases h0:0<=i
 ·rw [if_pos h0] at h;by_cases h1:i<n
  ·rw [if_pos h1] at h;have e:i.toNat=j:=Option.some.inj h;exact ⟨by rw [seqIndex_of h0 h1,e],by omega,by omega,h1⟩
  ·rw [if_neg h1] at h;cases h
 ·rw [if_neg h0] at h;by_cases h1: -(n:Int)<=i
  ·rw [if_pos h1] at h;have e:(i+n).toNat=j:=Option.some.inj h;exact ⟨by rw [seqIndex_neg (by omega) h1,e],by omega,h1,by omega⟩
  ·rw [if_neg h1] at h;cases h
theorem zHP{α:Type}{xs:List α}{i:Int}{v:α}(h:atI xs i=some v): ∃j,seqIndex? i xs.length=some j/\xs[j]?=some v/\j<xs.length/\ -(xs.length:Int)<=i/\i<xs.length:=by
 unfold atI at h;cases e:ixN xs.length i with
 | none=>rw [e] at h;cases h
 | some j=>
  rw [e] at h;obtain ⟨h1,h2,h3,h4⟩:=zHa e;exact ⟨j,h1,h,h2,h3,h4⟩
theorem zn{α:Type}{xs:List α}{j:Nat}{v:α}(h:xs[j]?=some v):atI xs (j:Int)=some v:=by
 have hj:j<xs.length:=(List.getElem?_eq_some_iff.mp h).1;have e:ixN xs.length (j:Int)=some j:=by
  unfold ixN;rw [if_pos (by omega),if_pos (by omega)];simp
 unfold atI;rw [e];exact h
def zFE(b:Expr):Prop:= ∀o i,subscripted b false o i=operate [o,i] (getItem o i)
def IxR(X:Cx)(r:R2):Prop:=
 ∀(value slice:Expr) (pins:List (Addr×Obj)) (s:Shared) (σ:St) (H:Hp) (x y:V) (v u:Value) (Q:VK),Inv X pins σ H s->zg x v->zg y u->r x y H Q->
  subscripted slice false v u=operate [v,u] (getItem v u)->wpAny (model X.prog X.w) X.A (subscriptTail value slice v u) (EP X pins σ Q) X.xe s
def MtR(X:Cx)(id:String)(r:V->List V->Hp->VK->Prop):Prop:=
 ∀(pins:List (Addr×Obj)) (s:Shared) (σ:St) (H:Hp) (x:V) (xs:List V) (v:Value) (us:List Value) (Q:VK),Inv X pins σ H s->zg x v->zQ xs us->r x xs H Q->
  wpAny (model X.prog X.w) X.A (call (.builtin id) (v::us)) (EP X pins σ Q) X.xe s
section
variable {X:Cx}{a b:Expr}{ta tb:TE}{pos:Pos}
theorem zIe{r:R2}(hr:IxR X r)(ha:PE X a ta)(hb:PE X b tb)(hs:zFE b):PE X (.Subscript a b pos) (tOp r ta tb):=by
 intro pins s σ H Q I h;exact Subscript_ (zKc ha hb I h fun v u s2 x y H2 I2 rx ry q=>hr a b pins s2 σ H2 x y v u Q I2 rx ry q (hs _ _))
inductive XIxL (K:zQK) (x y:V) (H:Hp) (Q:VK):Prop
 | mk (p:Addr) (xs:List V) (i:Int) (v:V) (h1:x= .ref p) (h2:y= .int i) (h3:SqL K H p xs) (h4:atI xs i=some v) (q:Q v H)
def zIm(K:zQK):R2:=fun x y H Q=>XIxL K x y H Q
inductive XIxT (K:zQK) (x y:V) (H:Hp) (Q:VK):Prop
 | mk (p:Addr) (xs:List V) (i:Int) (v:V) (h1:x= .ref p) (h2:y= .int i) (h3:SqT K H p xs) (h4:atI xs i=some v) (q:Q v H)
def zMq(K:zQK):R2:=fun x y H Q=>XIxT K x y H Q
theorem zHT:IxR X (zIm X.K):=by
 intro value slice pins s σ H x y v u Q I rx ry h hs;obtain ⟨p,xs,i,z,rfl,rfl,hq,he,q⟩:=h;cases rx;obtain ⟨t,rfl⟩:=ry;obtain ⟨its,r,pl,hz⟩:=I.list hq;obtain ⟨j,h1,h2,h3,h4,h5⟩:=zHP he;obtain ⟨w,ew,rw'⟩:=r.get h2;have hl:=r.length;have hn:=zER;have fin:EP X pins σ Q w s:=⟨z,H,I,rw',q⟩;by_cases h0:0<=i
 ·have hj:i.toNat=j:=by
   rw [seqIndex_of h0 h5] at h1;exact Option.some.inj h1
  exact item_listR pl.isList h0 (by omega) (by rw [hj];simpa using ew) fin hs
 ·have hj:(i+(its.toArray.size:Int)).toNat=j:=by
   rw [seqIndex_neg (by omega) h4] at h1;rw [zPp,<-hl];exact Option.some.inj h1
  exact subscriptTail_builtinR (x:=w) pl.isList.typeIs slot_list_getitem.lookup
   (wpAny_getItem_list_neg (Q:=fun r s'=>r=w/\EP X pins σ Q r s') pl.isList (by omega) (by rw [zPp] <;>omega) (by omega) (by rw [hj];simpa using ew) ⟨rfl,fin⟩) hs
theorem zOT:IxR X (zMq X.K):=by
 intro value slice pins s σ H x y v u Q I rx ry h hs;obtain ⟨p,xs,i,z,rfl,rfl,hq,he,q⟩:=h;cases rx;obtain ⟨t,rfl⟩:=ry;obtain ⟨its,r,pl,hz⟩:=I.tuple hq;obtain ⟨j,h1,h2,h3,h4,h5⟩:=zHP he;obtain ⟨w,ew,rw'⟩:=r.get h2;have hl:=r.length;have hn:=zER;have fin:EP X pins σ Q w s:=⟨z,H,I,rw',q⟩;exact subscriptTail_builtinR (x:=w) pl.typeIs slot_tuple_getitem.lookup
  (getItem_tuple (j:=j) (Q:=fun r s'=>r=w/\EP X pins σ Q r s') pl (by omega) (by omega) (by rw [zPp,<-hl];exact h1) (by simpa using ew) ⟨rfl,fin⟩) hs
theorem zIG(its:List Value)(n j:Nat)(u:Value):Obj.mapSeq (·.setIfInBounds j u) {cls:= .type "list",data:= .seq its.toArray n}={cls:= .type "list",data:= .seq (its.set j u).toArray n}:=by
 simp [Obj.mapSeq]
theorem Inv.lst{pins:List (Addr×Obj)}{σ:St}{H:Hp}{s:Shared}{p:Addr}{xs:List V}(I:Inv X pins σ H s)(h:H p=some (.lst xs)):
  ∃(its:List Value) (n:Nat),zQ xs its/\s.heap.get? p=some {cls:= .type "list",data:= .seq its.toArray n}/\xs.length<=sizeLine:=by
 obtain ⟨z,its,n,r,e⟩:=I.hok p _ h;exact ⟨its,n,r,e,z⟩
theorem Inv.lstUpd{pins:List (Addr×Obj)}{σ:St}{H:Hp}{s:Shared}{p:Addr}{xs ys:List V}{its its':List Value}{n n':Nat}{f:Obj->Obj}(I:Inv X pins σ H s)(h:H p=some (.lst xs))
  (ho:s.heap.get? p=some {cls:= .type "list",data:= .seq its.toArray n}) (hf:f {cls:= .type "list",data:= .seq its.toArray n}={cls:= .type "list",data:= .seq its'.toArray n'}) (r:zQ ys its') (hz:ys.length<=sizeLine) (t:Nat):
  Inv X pins σ (upd H p (.lst ys)) {s with heap:=s.heap.update p f,toks:=t}:=by
 have e:(s.heap.update p f).get? p=some {cls:= .type "list",data:= .seq its'.toArray n'}:=by
  rw [Heap.get?_update_self f ho (by rw [hf] <;>rfl),hf]
 refine I.write (x:=p) (e:=p) (by rw [h];trivial) (.inl rfl) (fun b u hb q=>(Heap.get?_update_other _ _ (Ne.symm hb)).trans q) ⟨_,e⟩ ?_;exact ⟨hz,its',n',r,e⟩
def zLK:V->V->V->Hp->(Hp->Prop)->Prop:=fun o i v H Q=> ∃p xs k j,o= .ref p/\i= .int k/\H p=some (.lst xs)/\ixN xs.length k=some j/\Q (upd H p (.lst (xs.set j v)))
theorem zKp:zPJ X zLK:=by
 intro pins s σ H o i v ov iv u Q I ro ri rv h;obtain ⟨p,xs,k,j,rfl,rfl,hp,hj,q⟩:=h;cases ro;obtain ⟨t,rfl⟩:=ri;obtain ⟨its,n,r,ho,hz⟩:=I.lst hp;obtain ⟨h1,h2,h3,h4⟩:=zHa hj;have hl:=r.length;have hn:=zER;have I':Inv X pins σ (upd H p (.lst (xs.set j v))) {s with heap:=s.heap.update p (Obj.mapSeq (·.setIfInBounds j u))}:=
  I.lstUpd hp ho (zIG its n j u) (r.set rv j) (by rw [List.length_set];exact hz) s.toks
 by_cases h0:0<=k
 ·have hk:k.toNat=j:=by
   rw [seqIndex_of h0 h4] at h1;exact Option.some.inj h1
  exact PySem.W.ki_setAt ho h0 (by omega) (by rw [zPp,<-hl];exact h4) (by rw [hk];exact ⟨_,I',q⟩)
 ·have hk:(k+(its.toArray.size:Int)).toNat=j:=by
   rw [seqIndex_neg (by omega) h3] at h1;rw [zPp,<-hl];exact Option.some.inj h1
  exact PySem.W.ki_setBack ho (by omega) (by rw [zPp,<-hl];exact h3) (by omega) (by rw [hk];exact ⟨_,I',q⟩)
theorem zGw(lo hi:Option Int)(n:Nat):(sliceBounds lo hi none n).1=((HT.sIx n 0 lo:Nat):Int)/\(sliceBounds lo hi none n).2.1=((HT.sIx n n hi:Nat):Int)/\(sliceBounds lo hi none n).2.2=1:=by
 refine ⟨?_,?_,rfl⟩
 ·cases lo with
  | none=>simp [sliceBounds,HT.sIx]
  | some i=>
   simp only [sliceBounds,HT.sIx,Option.getD_none,show (1:Int)>0 by decide,if_true];by_cases h:i<0
   ·simp only [h,if_true] <;>omega
   ·simp only [h,if_false] <;>omega
 ·cases hi with
  | none=>simp [sliceBounds,HT.sIx]
  | some i=>
   simp only [sliceBounds,HT.sIx,Option.getD_none,show (1:Int)>0 by decide,if_true];by_cases h:i<0
   ·simp only [h,if_true] <;>omega
   ·simp only [h,if_false] <;>omega
theorem zFn(its:List Value)(lo hi:Option Int):slicePick its.toArray lo hi none=((its.drop (HT.sIx its.length 0 lo)).take (HT.sIx its.length its.length hi - HT.sIx its.length 0 lo)).toArray:=by
 obtain ⟨h1,h2,h3⟩:=zGw lo hi its.toArray.size;unfold slicePick;rw [h1,h2,h3];simp only [sliceRange_one,pick_run,zPp] <;>rfl
def zOE(K:zQK):V->Option Int->Option Int->Hp->VK->Prop:=fun x lo hi H Q=> ∃a xs,x= .ref a/\SqL K H a xs/\ ∀p,H p=none->Q (.ref p) (upd H p (.lst (zAv xs lo hi)))
theorem zMX:SlR X (zOE X.K):=by
 intro pins s σ H x v vl vu lo hi sl Q I rx hs pl pu h;obtain ⟨a,xs,rfl,hx,q⟩:=h;cases rx;obtain ⟨its,r,ht,hz⟩:=I.list hx;have hlen:=r.length;refine ⟨"list",_,slot_list_getitem.lookup,ht.isList.typeIs,?_⟩;refine wpAny_getItem_list_slice ht.isList hs pl pu .none (by simp) ?_ (by rw [zPp] <;>omega);rw [zFn,<-hlen];refine ⟨.ref s.heap.objs.size,_,I.laid (t':=s.toks) (o:= .lst (zAv xs lo hi)) (fun b ob q=>zPX _ q) (zPZ _) ?_,rfl,q _ (I.hok.fresh (zPZ _))⟩;exact ⟨zPj (zDq xs lo hi) hz,_,0,(r.drop (HT.sIx xs.length 0 lo)).take (HT.sIx xs.length xs.length hi - HT.sIx xs.length 0 lo),zPo _ rfl⟩
theorem zDE:yc X (.builtin "len") (fun xs H Q=> ∃p ys,xs= [.ref p] /\(SqL X.K H p ys\/SqT X.K H p ys)/\Q (.int ys.length) H):=by
 intro pins s σ H xs us Q I r h;obtain ⟨p,ys,rfl,hq,q⟩:=h;obtain ⟨u,rfl,rx⟩:=zBR r;cases rx;have hn:=zER;rcases hq with hq | hq
 ·obtain ⟨its,r',pl,hz⟩:=I.list hq;have hlen:=r'.length;exact Calls.call_len_list pl.isList (by simp only [zPp] <;>omega) ⟨.int ys.length,H,I.tok _,⟨s.toks+1,by rw [zPp,hlen]⟩,q⟩
 ·obtain ⟨its,r',pl,hz⟩:=I.tuple hq;have hlen:=r'.length;exact len_tuple pl (by simp only [zPp] <;>omega) ⟨.int ys.length,H,I.tok _,⟨s.toks+1,by rw [zPp,hlen]⟩,q⟩
theorem zGL:yc X (.type "list") (fun xs H Q=> ∃p ys,xs= [.ref p] /\(SqL X.K H p ys\/SqT X.K H p ys)/\ ∀l,H l=none->Q (.ref l) (upd H l (.lst ys))):=by
 intro pins s σ H xs us Q I r h;obtain ⟨p,ys,rfl,hq,q⟩:=h;obtain ⟨u,rfl,rx⟩:=zBR r;cases rx;have fin: ∀(its:List Value),zQ ys its->ys.length<=sizeLine-> ∀(h':Heap) (c':Nat),(∀b o',s.heap.get? b=some o'->h'.get? b=some o')->
   h'.get? s.heap.objs.size=some {cls:= .type "list",dict:=none,data:= .seq its.toArray c',slots:= #[]}->EP X pins σ Q (.ref s.heap.objs.size) {s with heap:=h'}:=fun its r' hz h' c' kp e=>
  ⟨.ref s.heap.objs.size,_,I.laid (t':=s.toks) kp (zPZ _) (show yh X.prog X.w _ h' _ (.lst ys) from ⟨hz,its,c',r',e⟩),rfl,q _ (I.hok.fresh (zPZ _))⟩
 rcases hq with hq | hq
 ·obtain ⟨its,r',pl,hz⟩:=I.list hq;have hlen:=r'.length;obtain ⟨o,ho,hc,n,hd⟩:=pl.isList;exact call_list_seq p (.inl rfl) ho hc hd (fun h' c' kp e=>fin its r' hz h' c' kp e) (by simp only [zPp] <;>omega)
 ·obtain ⟨its,r',pl,hz⟩:=I.tuple hq;have hlen:=r'.length;obtain ⟨o,ho,hc,n,hd⟩:=pl;exact call_list_seq p (.inr rfl) ho hc hd (fun h' c' kp e=>fin its r' hz h' c' kp e) (by simp only [zPp] <;>omega)
def tyV(K:zQK)(T:String)(x:V)(H:Hp):Prop:=match x with
 | .str _=>T= "str"
 | .int _=>T= "int"
 | .ref p=>(T= "list" /\ ∃xs,SqL K H p xs)\/(T= "tuple" /\ ∃o,K.lookup p=some o/\o.cls= .type "tuple" /\o.dict=none)\/
   (T= "dict" /\((∃kvs,H p=some (.dK kvs))\/ ∃kvs,H p=some (.dT kvs)))\/(T= "set" /\ ∃S n,H p=some (.set S n))
 | _=>False
theorem zNT{pins:List (Addr×Obj)}{σ:St}{H:Hp}{s:Shared}{T:String}{x:V}{v:Value}(I:Inv X pins σ H s)(r:zg x v)(ty:tyV X.K T x H):
  s.TypeIs v T/\ ∀a,v= .ref a-> ∃ob,s.heap.get? a=some ob/\ob.dict=none:=by
 cases x with
 | str z=>
  obtain ⟨t,rfl⟩:=r;cases (show T= "str" from ty);exact ⟨typeIs_str s z t,fun _ e=>nomatch e⟩
 | int i=>
  obtain ⟨t,rfl⟩:=r;cases (show T= "int" from ty);exact ⟨typeIs_int s i t,fun _ e=>nomatch e⟩
 | ref p=>
  cases r;rcases ty with ⟨rfl,xs,hq⟩|⟨rfl,o,hk,hc,hd⟩|⟨rfl,hk⟩|⟨rfl,S,n,hk⟩
  ·obtain ⟨its,_,pl,_⟩:=I.list hq;refine ⟨pl.isList.typeIs,fun a e=>?_⟩;cases e;obtain ⟨o,n,e,c,hd,_⟩:=pl;exact ⟨o,e,hd⟩
  ·refine ⟨⟨o,I.kIn p o hk,hc⟩,fun a e=>?_⟩;cases e;exact ⟨o,I.kIn _ o hk,hd⟩
  ·have z: ∃o,s.heap.get? p=some o/\o.ExactDict:=by
    rcases hk with ⟨kvs,hk⟩|⟨kvs,hk⟩
    ·obtain ⟨_,_,_,_,o,_,_,e,ex,_⟩:=I.hok p _ hk;exact ⟨o,e,ex⟩
    ·obtain ⟨_,_,_,_,o,_,_,e,ex,_⟩:=I.hok p _ hk;exact ⟨o,e,ex⟩
   obtain ⟨o,e,ex⟩:=z;refine ⟨⟨o,e,ex.1⟩,fun a e2=>?_⟩;cases e2;exact ⟨o,e,ex.2.1⟩
  ·obtain ⟨o,_,_,_,e,ex,_⟩:=I.hok p _ hk;refine ⟨⟨o,e,ex.1⟩,fun a e2=>?_⟩;cases e2;exact ⟨o,e,ex.2.1⟩
 | _=>exact False.elim ty
def tBM(K:zQK)(T:String)(r:V->List V->Hp->VK->Prop)(to:TE)(t:TA):TE:=fun σ H Q=>to σ H fun x H1=>tyV K T x H1/\t σ H1 fun xs H2=>r x xs H2 Q
variable {o e:Expr}{es:List Expr}{to:TE}{t:TA}{name:Str}{apos cpos:Pos}{T id:String}{r:V->List V->Hp->VK->Prop}
theorem zLX(pa:PlainAttrs T)(slot:Slot T name id)(hty:typeOf (.builtin id)=pure (.type "method_descriptor"))(hm:MtR X id r)(ho:PE X o to)(ha:PA X (e::es) t)
  (hbase:attributeBase o name X.env (eval o X.env)=eval o X.env:=by rfl)
  (hfew:((backTo cpos (starEach (e::es) X.env)).all (fun x=>!x.1)&&(backToKw cpos (keywordEach [] X.env)).all (fun x=>x.1.isSome)
   &&decide ((e::es).length+([] :List Keyword).length+(if ([] :List Keyword).isEmpty then 0 else 1)<30))=true:=by rfl)
  (hline:(apos.endLine==cpos.line)=true:=by rfl) (hs:starEach (e::es) X.env=(false,eval e X.env)::starEach es X.env:=by rfl) (hplain:(backTo cpos (starEach es X.env)).any (·.1)=false:=by rfl):
  PE X (.Call (.Attribute o name apos) (e::es) [] cpos) (tBM X.K T r to t):=by
 intro pins s σ H Q I h;refine wpAny_Call_method_late hbase hfew hline rfl (zd (ho pins s σ H _ I h) fun v s1 ⟨x,H1,I1,r1,ty,q1⟩=>?_);obtain ⟨h1,h2⟩:=zNT I1 r1 ty;refine ⟨T,id,pa,slot,hty,h1,h2,?_⟩;have hA:=ha cpos pins s1 σ H1 _ I1 q1;rw [hs] at hA⊢;refine Calls.callWith_builtin (by show (false ||(backTo cpos (starEach es X.env)).any (·.1))=false;rw [hplain] <;>rfl) (Calls.evalArgs_plain ?_);exact zd hA fun us s2 ⟨vs,H2,I2,r2,q2⟩=>hm pins s2 σ H2 x vs v us Q I2 r1 r2 q2
end
def MtM(X:Cx)(id:String)(r:V->List V->Hp->VK->Prop):Prop:=
 ∀(pins:List (Addr×Obj)) (s:Shared) (σ:St) (H:Hp) (x:V) (xs:List V) (v:Value) (us:List Value) (Q:VK),Inv X pins σ H s->zg x v->zQ xs us->r x xs H Q->
  wpAny (model X.prog X.w) X.A (call (.builtin id) (v::us)) (EP X pins σ Q) X.xe s
theorem zQ.one: ∀{x:V} {us:List Value},zQ [x] us-> ∃u,us= [u] /\zg x u
 | _,_,.cons r .nil=>⟨_,rfl,r⟩
theorem zQ.two: ∀{x y:V} {us:List Value},zQ [x,y] us-> ∃u v,us= [u,v] /\zg x u/\zg y v
 | _,_,_,.cons r (.cons q .nil)=>⟨_,_,rfl,r,q⟩
theorem zQ.rep{xs:List V}{us:List Value}(h:zQ xs us): ∀k:Nat,zQ (List.replicate k xs).flatten (List.replicate k us).flatten
 | 0=> .nil
 | k+1=>by
  rw [List.replicate_succ,List.replicate_succ,List.flatten_cons,List.flatten_cons];exact zQ.append h (zQ.rep h k)
theorem zFZ(its:List Value): ∀(k:Nat) (acc:List Value),
  List.foldl (fun x1 x2=>x1++x2) acc.toArray (List.replicate k its.toArray)=(acc++(List.replicate k its).flatten).toArray
 | 0,acc=>by simp
 | k+1,acc=>by
  have e:acc.toArray++its.toArray=(acc++its).toArray:=by simp
  have e2:(acc++its)++(List.replicate k its).flatten=acc++(List.replicate (k+1) its).flatten:=by
   rw [List.replicate_succ,List.flatten_cons,List.append_assoc]
  rw [<-e2,<-zFZ its k (acc++its),<-e,List.replicate_succ,List.foldl_cons]
section
variable {X:Cx}{pins:List (Addr×Obj)}{σ:St}{H:Hp}{s:Shared}{l b:Addr}{xs ys zs:List V}
theorem Inv.lset{its its':List Value}{n:Nat}{f:Array Value->Array Value}{t':Nat}(I:Inv X pins σ H s)(hH:H l=some (.lst xs))
  (e:s.heap.get? l=some {cls:= .type "list",data:= .seq its.toArray n}) (hf:f its.toArray=its'.toArray) (hv:zQ ys its') (hz:ys.length<=sizeLine):
  Inv X pins σ (upd H l (.lst ys)) {s with heap:=s.heap.update l (Obj.mapSeq f),toks:=t'}:=by
 have q:=PySem.IsL.update e f;rw [hf] at q;refine I.write (x:=l) (e:=l) (by rw [hH];exact trivial) (.inl rfl) (fun b' u hb hu=>(Heap.get?_update_other s.heap (Obj.mapSeq f) (Ne.symm hb)).trans hu) ⟨_,q⟩ ?_;exact ⟨hz,its',_,hv,q⟩
theorem Inv.lnew{its:List Value}{t':Nat}(I:Inv X pins σ H s)(hv:zQ ys its)(hz:ys.length<=sizeLine):
  Inv X pins σ (upd H s.heap.objs.size (.lst ys)) {s with heap:=s.heap.push {cls:= .type "list",data:= .seq its.toArray},toks:=t'}:=
 I.laid (fun _ _ q=>zPX _ q) (zPZ _) ⟨hz,its,0,hv,zPo _ rfl⟩
theorem Inv.fresh(I:Inv X pins σ H s):H s.heap.objs.size=none:=I.hok.fresh (zPZ _)
theorem Inv.lstM(I:Inv X pins σ H s)(hH:H l=some (.lst xs)):xs.length<=sizeLine/\ ∃(its:List Value) (n:Nat),zQ xs its/\xs.length=its.length/\s.heap.get? l=some {cls:= .type "list",data:= .seq its.toArray n}:=by
 obtain ⟨z,its,n,r,e⟩:=I.hok l _ hH;exact ⟨z,its,n,r,r.length,e⟩
theorem zKo{n:Nat}(h:n<=sizeLine):Builtin.List.listTooLong n=false:=by
 unfold Builtin.List.listTooLong;exact zPv (by omega)
end
section
variable {X:Cx}
inductive XApp (x:V) (vs:List V) (H:Hp) (Q:VK):Prop
 | mk (l:Addr) (xs:List V) (y:V) (h1:x= .ref l) (h2:vs= [y]) (h3:H l=some (.lst xs)) (h4:xs.length<sizeLine) (q:Q .non (upd H l (.lst (xs++ [y]))))
def zIC:V->List V->Hp->VK->Prop:=fun x vs H Q=>XApp x vs H Q
theorem zBU:MtM X "list.append" zIC:=by
 intro pins s σ H x vs v us Q I rx rv h;obtain ⟨l,xs,y,rfl,rfl,hH,hz,q⟩:=h;cases rx;obtain ⟨u,rfl,ru⟩:=rv.one;obtain ⟨z,its,n,r,hl,e⟩:=I.lstM hH;refine call_meets F.slot_list_append ⟨_,e,rfl⟩ F.entry_list_append (F.args_list_append_2 _ _) (PySem.list_append l its.toArray n u (by rw [zPp];omega)) ⟨e,?_⟩;refine ⟨.non,_,I.lset (its':=its++ [u]) hH e (by simp) (r.append (.cons ru .nil)) ?_,rfl,q⟩;rw [zPx,List.length_singleton];omega
def zIK:R2:=fun x y H Q=> ∃l b xs zs,x= .ref l/\y= .ref b/\H l=some (.lst xs)/\H b=some (.lst zs)/\xs.length+zs.length<=sizeLine/\ ∀p,H p=none->Q (.ref p) (upd H p (.lst (xs++zs)))
theorem zNZ:OpR X (binaryOp .Add) zIK:=by
 intro pins s σ H x y v u Q I rx ry h;obtain ⟨l,b,xs,zs,rfl,rfl,hH,hB,hz,q⟩:=h;cases rx;cases ry;obtain ⟨z,its,n,r,hl,e⟩:=I.lstM hH;obtain ⟨z2,its2,n2,r2,hl2,e2⟩:=I.lstM hB;refine PySem.P.add_list e e2 ?_ (by rw [zPp,zPp];omega);have ea:its.toArray++its2.toArray=(its++its2).toArray:=by simp
 rw [ea];exact ⟨.ref _,_,I.lnew (t':=s.toks) (r.append r2) (by rw [zPx];omega),rfl,q _ I.fresh⟩
def zNm:R2:=fun x y H Q=> ∃l k xs,x= .ref l/\y= .int k/\H l=some (.lst xs)/\ -(2^63)<=k/\k<2^63/\xs.length*k.toNat<=sizeLine/\
 ∀p,H p=none->Q (.ref p) (upd H p (.lst (List.replicate k.toNat xs).flatten))
theorem zLl{α:Type}(xs:List α)(k:Nat):(List.replicate k xs).flatten.length=k*xs.length:=by
 induction k with
 | zero=>simp
 | succ k ih=>rw [List.replicate_succ,List.flatten_cons,zPx,ih,Nat.succ_mul,Nat.add_comm]
theorem zNd:OpR X (binaryOp .Mult) zNm:=by
 intro pins s σ H x y v u Q I rx ry h;obtain ⟨l,k,xs,rfl,rfl,hH,h1,h2,hz,q⟩:=h;cases rx;obtain ⟨t,rfl⟩:=ry;obtain ⟨z,its,n,r,hl,e⟩:=I.lstM hH;have hlen:its.toArray.size*k.toNat<=sizeLine:=by rw [zPp,<-hl];exact hz
 have hcap: ¬its.toArray.size*k.toNat>(2^63 - 1)/8:=by
  have:(sizeLine:Nat)<=(2^63 - 1)/8:=by decide
  omega
 have hfit: ¬(!Builtin.List.listFitsIndex k)=true:=by
  rw [fitsIndex_both h1 h2];exact zPi
 have hlong: ¬Builtin.List.listTooLong (its.toArray.size*k.toNat)=true:=by
  rw [zKo hlen];exact zPi
 have hnew:List.foldl (fun x1 x2=>x1++x2) #[] (List.replicate (if its.toArray.isEmpty=true then 0 else k.toNat) its.toArray)=(List.replicate k.toNat its).flatten.toArray:=by
  have f0: ∀m:Nat,List.foldl (fun x1 x2=>x1++x2) #[] (List.replicate m its.toArray)=(List.replicate m its).flatten.toArray:=fun m=>by
   have:=zFZ its m [];rw [List.nil_append] at this;exact this
  rw [f0];cases its with
  | nil=>simp
  | cons a r'=>rw [if_neg (by simp)]
 refine wpAny_binaryOp_repeat_ref (T:= "list") (U:= "int") (by decide) ⟨_,e,rfl⟩ (fun s'=>typeIs_int s' k t) noFill_list_mul F.fills_int_mul F.slot_int_rmul repeat_list F.slot_int_index.lookup
  (call_meets F.slot_int_rmul (typeIs_int s k t) F.entry_int_rmul (F.args_int_rmul_2 _ _) (int___rmul___int_list k t l its.toArray n)
   ⟨e,rfl,⟨_,e,rfl⟩,call_meets F.slot_list_mul ⟨_,e,rfl⟩ F.entry_list_mul (F.args_list_mul_2 _ _) (AutoListH.list___mul___list_int_3 l its.toArray n k t hfit hcap hlong) ⟨e,?_⟩⟩)
 rw [hnew];exact ⟨.ref _,_,I.lnew (t':=s.toks) (r.rep k.toNat) (by rw [zLl,Nat.mul_comm];exact hz),rfl,q _ I.fresh⟩
end
section
variable {prog:Program}{w:World}{A:Around}{E:Value->Shared->Prop}{s:Shared}
set_option maxRecDepth 100000 in
end
section
variable {X:Cx}
end
end L2
namespace Att
open PySem PySem.W PySem.Calls PyProof.Rows
theorem zEu{P:Params}{h:Heap}: ∀(ns:List Int) (vs:List Value),WellAll P h vs (ns.map WData.int)->IntsAre vs ns:=by
 intro ns
 induction ns with
 | nil=>
  intro vs w;rw [List.map_nil] at w;cases w;exact .nil
 | cons n ns ih=>
  intro vs w;rw [List.map_cons] at w;cases w with
  | cons a b=>
   cases a;exact .cons _ _ (ih _ b)
theorem zJB{l:OpenLaw}{n:Nat}(hn:l.most=some n){P:Params}{h:Heap}{args:List WData}{vals:List Value}
  (hpre:l.row.toRowW.claim.pre args=true) (hwl:WellAll P h vals args):
  ∃a vs ns,vals= [Value.ref a] /\args= [WData.list (ns.map WData.int)] /\h.get? a=some {cls:= .type "list",data:= .seq vs.toArray}/\IntsAre vs ns/\ns.length<=n:=by
 have hsh:WShape.hasAll [] args [.list .int] =true:=(pre_splitW hpre).1;have hc:l.pre.holds [] {args:=args}=true:=(pre_splitW hpre).2;obtain ⟨d,r,rfl,h1,h2⟩:=hasAllW_cons hsh;obtain rfl:=hasAllW_nil h2;obtain ⟨xs,rfl,h3⟩:=hasW_list h1;obtain ⟨ns,rfl⟩:=items_int h3;have hlen:ns.length<=n:=by
  unfold OpenLaw.pre at hc;have h4:(WTm.not (.lt (.lit (.int (n:Int))) (.len (.arg 0)))).holds [] {args:= [.list (ns.map .int)]}=true:=by
   have h4:=(holds_andW hc).1;rw [hn] at h4;exact h4
  have h5:=condW_of h4 (w_not (w_lt w_lit (w_len_list (w_arg rfl))));rw [zPc] at h5;refine Nat.le_of_not_lt fun q=>?_;have q':(n:Int)<((ns.length:Nat):Int):=by omega
  first
   |(rw [zPt q'] at h5;exact absurd h5 (by decide))
   |(simp at h5;omega)
 cases hwl with
 | cons w1 w2=>
  cases w2;cases w1 with
  | list ho hall=>exact ⟨_,_,ns,rfl,rfl,ho,zEu ns _ hall,hlen⟩
theorem zJH(l:OpenLaw)(args:List WData):l.row.toRowW.claim.post args (.bool true) args=true:=
 postW_of (r:=l.row.toRowW) (X:=(true==true))
  (show WShape.has [] (.bool true) .bool=true by first | rfl | decide | simp [WShape.has,WShape.arms,WShape.armsAll])
  (show (WTm.eq .res (.lit (.bool true))).value [] {args:=args,res:=some (.bool true),after:=args}=some (.bool (true==true)) from w_eq_bool (w_res rfl) w_lit) rfl
theorem attach_call{l:OpenLaw}{n:Nat}{q:Program}{loose:List Str}{XP:(Str->Option Value)->Heap->Prop}{YP:World->Heap->Prop}{d:DefRec}
  (hn:l.most=some n) (hdf:d.params.defaults= [])
  (call: ∀(w:World) (s₀ s₁:Shared) (mg mb:Str->Option Value) (fa:Addr) (o:Obj) (pm cd doc:Value) (a:Addr) (vs:List Value) (ns:List Int),
   Ground q loose [] XP w s₀ mg mb s₁.heap->YP w s₁.heap->
   s₁.heap.get? fa=some o->o.data= .func (docDef d.name d.params d.body d.scope pm cd doc)->s₁.heap.CodeRec cd d.name->mg d.name=some (.ref fa)->
   s₁.heap.get? a=some {cls:= .type "list",data:= .seq vs.toArray}->IntsAre vs ns->ns.length<=n->s₁.gens= #[] ->
   codeAny (model l.prog w) callerA (.call (.ref fa) ⟨[.ref a],[]⟩) (fun r s'=>r= .ok (.ret (.bool true))/\OldK s₁.heap s'.heap/\s'.os=s₁.os/\AllBare s'.gens) s₁):
  WalkO q loose XP YP l.row.toRowW d [] (fun f vs=>PySem.call f vs):=by
 intro w s₀ s₁ mg mb G Y fa o pm cd doc dV kV ho hd hcd hD hmg hg args vals as hpre hlay hrd hwl hlo;obtain rfl:dV= .none:=Dflts.none hD hdf;obtain rfl:kV= .none:=Dflts.noKw hD;obtain ⟨a,vs,ns,rfl,rfl,hobj,hints,hlen⟩:=zJB hn hpre hwl;refine enter_call (zQI (call w s₀ s₁ mg mb fa o pm cd doc a vs ns G Y ho (fd_plain hd) hcd hmg hobj hints hlen hg) fun r s' hq=>?_);obtain ⟨rfl,h2,h3,h4⟩:=hq;exact ⟨.inl ⟨.bool true,.bool true,[],rfl,fun _=>rfl,.bool true,zJH l _,fun _=>⟨List.Pairwise.nil,fun _ hm=>(nomatch hm)⟩⟩,h2,h3,h4⟩
section
variable {prog:Program}{w:World}{A:Around}{E:Value->Shared->Prop}{s:Shared}{K:Frag}
end
end Att
namespace L2
open PySem PySem.Spec PyProof.Rows
theorem zFd: ∀{vs:List Value} {ns:List Int},IntsAre vs ns->zQ (ns.map V.int) vs
 | _,_,.nil=> .nil
 | _,_,.cons n t h=> .cons ⟨t,rfl⟩ (zFd h)
def zKS(H:Hp):Prop:= ∀b,H b=none\/ ∃o xs,H b=some (.frz o (.lst xs))
theorem zKn{P:Program}{w:World}{K:zQK}{mg mb:Str->Option Value}{CX:CXT}{k:Nat}{fa a:Addr}{fd:FuncData}{x:Str}{sp:Sp}{s₁:Shared}{vs:List Value}{ns:List Int}
  (KX:K.In s₁.heap) (hns:s₁.heap.Ns mainGlobals mg) (hb:s₁.heap.Ns builtinsNs mb) (hbb: ∀x:Str,x≠ "__name__" ->mb x=bootBuiltins x) (hlim:s₁.heap.NoLimit) (hse:s₁.heap.NoSeer) (hg:s₁.gens= #[])
  (ha:s₁.heap.get? a=some {cls:= .type "list",data:= .seq vs.toArray}) (hi:IntsAre vs ns) (hl:ns.length<=sizeLine) (hr:Room k callerA)
  (F: ∀base:Heap,K.In base->base.Ns mainGlobals mg->FnOk P w K mg base CX k fa fd [x] sp) (hbind: ∀(s:Shared) (u:Value),BindsTo s fd ⟨[u],[]⟩ [(x,u)])
  (hsp: ∀H:Hp,zKS H->SqL K H a (ns.map V.int)->sp [.ref a] H (fun v _=>v= .bl true) fun _ _ _=>False)
  (hCX: ∀H e s',CX [] H s₁ (fun _ _ _=>False) e s'->False):
  codeAny (model P w) callerA (.call (.ref fa) ⟨[.ref a],[]⟩) (fun r s'=>r= .ok (.ret (.bool true))/\OldK s₁.heap s'.heap/\s'.os=s₁.os/\AllBare s'.gens) s₁:=by
 have rv:=zFd hi;have lenV:=hi.length;have core: ∀H:Hp,zKS H->SqL K H a (ns.map V.int)->HOk P w H s₁.heap->(∀b,H b≠none->b=a)->(H a≠none->K.lookup a=none)->
   codeAny (model P w) callerA (.call (.ref fa) ⟨[.ref a],[]⟩) (fun r s'=>r= .ok (.ret (.bool true))/\OldK s₁.heap s'.heap/\s'.os=s₁.os/\AllBare s'.gens) s₁:=by
  intro H hO hS hok hA hK;have base_of: ∀{b:Addr} {o:Obj},s₁.heap.get? b=some o->H b=none->(zCK s₁.heap H).get? b=some o:=fun e n=>zKd e n;have noA: ∀{b:Addr} {o:Obj} {es:Array DictEntry} {ep:Nat},s₁.heap.get? b=some o->o.data= .dict es ep->H b=none:=fun {b o es ep} e d=>by
   cases q:H b with
   | none=>rfl
   | some u=>
    have e':b=a:=hA b (by rw [q];simp);subst e';rw [ha] at e;cases e;have d':Data.seq vs.toArray _=Data.dict es ep:=d;cases d'
  have nsK: ∀{b:Addr} {m:Str->Option Value},s₁.heap.Ns b m->(zCK s₁.heap H).Ns b m:=fun {b m} ⟨o,es,ep,e,d,r⟩=>⟨o,es,ep,base_of e (noA e d),d,r⟩;have hKb:K.In (zCK s₁.heap H):=fun b o e=>base_of (KX b o e) (by
   cases q:H b with
   | none=>rfl
   | some u=>
    have e':b=a:=hA b (by rw [q];simp);subst e';rw [hK (by rw [q];simp)] at e;cases e)
  have hsb:(zCK s₁.heap H).NoSeer:=by
   obtain ⟨mg',bm,ob,g1,g2,g3,g4,g5⟩:=hse.main;have nb:H bm=none:=by
    cases q:H bm with
    | none=>rfl
    | some u=>
     have e':bm=a:=hA bm (by rw [q];simp);subst e';rw [ha] at g3;cases g3;have g4':Value.type "list" =Value.type "module" :=g4;exact absurd g4' (by decide)
   exact ⟨let ⟨mc,h1,h2⟩:=hse.statics;⟨mc,nsK h1,h2⟩,let ⟨mc,h1,h2⟩:=hse.mods;⟨mc,nsK h1,h2⟩,let ⟨mc,h1,h2⟩:=hse.imp;⟨mc,nsK h1,h2⟩,⟨mg',bm,ob,nsK g1,g2,base_of g3 nb,g4,g5⟩⟩
  have hM:Mod K mg (zCK s₁.heap H):=⟨hKb,nsK hns,⟨mb,nsK hb,hbb⟩,(let ⟨mc,h1,h2⟩:=hlim;⟨mc,nsK h1,h2⟩),hsb⟩;have e0:Env0 P w K mg (zCK s₁.heap H) callerA [] s₁ H:=⟨rfl,hM,fun b o e=>zLk e,Nat.le_of_eq (zJn _ _),trivial,fun b hb=>absurd (show b∈([] :List Addr) from hb) (by simp),hok,.of_eq hg⟩;refine zQI ((F _ hKb (nsK hns)).run callerA [] s₁ H ⟨[.ref a],[]⟩ [.ref a] [.ref a] _ _ hr e0 (hbind s₁ (.ref a)) (.cons rfl .nil) (hsp H hO hS)) fun r s' h=>?_;cases r with
  | error e=>exact (hCX H e s' h).elim
  | ok fl=>
   cases fl with
   | next=>exact False.elim h
   | brk=>exact False.elim h
   | cont=>exact False.elim h
   | ret u=>
    obtain ⟨v,H',os,bare,un,hok',r',q⟩:=h;have q':v= .bl true:=q;subst q';obtain rfl:u=Value.bool true:=r';refine ⟨rfl,OldK.of_keep fun b o e=>?_,os,bare⟩;cases q:H b with
    | none=>exact un.keep b o e q (by intro z;exact absurd (show b∈([] :List Addr) from z) (by simp)) (by simp)
    | some u=>
     rcases hO b with z |⟨ob,xs,z⟩
     ·rw [q] at z;cases z
     ·have z2:=un.frzs b ob _ z;obtain ⟨e1,_⟩:=hok b _ z;obtain ⟨e2,_⟩:=hok' b _ z2;rw [e] at e1;cases e1;exact e2
 cases hk:K.lookup a with
 | some o=>
  have e:=KX a o hk;rw [ha] at e;cases e;refine core (fun _=>none) (fun _=> .inl rfl) (.inr ⟨_,vs.toArray,_,hk,rfl,rfl,rfl,by rw [zPp,lenV];exact hl,by simpa using rv⟩) (fun b u z=>by have z':(none:Option HO)=some u:=z;cases z') (fun b z=>absurd rfl z) fun z=>absurd rfl z
 | none=>
  refine core (fun b=>if b=a then some (.frz {cls:= .type "list",data:= .seq vs.toArray} (.lst (ns.map V.int))) else none) (fun b=>?_) (.inl (.inr ⟨{cls:= .type "list",data:= .seq vs.toArray},if_pos rfl⟩)) (fun b u z=>?_) (fun b z=>?_) fun _=>hk
  ·by_cases hb:b=a
   ·exact .inr ⟨_,_,if_pos hb⟩
   ·exact .inl (if_neg hb)
  ·by_cases hb:b=a
   ·have z':=(if_pos hb).symm.trans z;cases z';subst hb;exact ⟨ha,by rw [zPc];exact hl,vs,_,rv,ha⟩
   ·have z':=(if_neg hb).symm.trans z;cases z'
  ·by_cases hb:b=a
   ·exact hb
   ·exact absurd (if_neg hb) z
theorem zLw{l:PySem.W.OpenLaw}{n k:Nat}{q:Program}{loose:List Str}{XP:(Str->Option Value)->Heap->Prop}{YP:World->Heap->Prop}{d:DefRec}{K:Params->zQK}{CX:World->CXT}{sp:World->Sp}{x:Str}
  (hn:l.most=some n) (hn2:n<=sizeLine) (hdf:d.params.defaults= []) (hI:importsNone q=true) (hr:Room k callerA)
  (hY: ∀(w:World) (h:Heap),YP w h->(K w.params).In h)
  (F: ∀(w:World) (mg:Str->Option Value) (fa:Addr) (h:Heap),(K w.params).In h->h.Ns mainGlobals mg->mg d.name=some (.ref fa)->
   ∃fd:FuncData,(∀(s:Shared) (u:Value),BindsTo s fd ⟨[u],[]⟩ [(x,u)])/\
    ∀base:Heap,(K w.params).In base->base.Ns mainGlobals mg->FnOk l.prog w (K w.params) mg base (CX w) k fa fd [x] (sp w))
  (hsp: ∀(w:World) (H:Hp) (a:Addr) (ns:List Int),ns.length<=n->zKS H->SqL (K w.params) H a (ns.map V.int)->sp w [.ref a] H (fun v _=>v= .bl true) fun _ _ _=>False)
  (hCX: ∀(w:World) (H:Hp) (s:Shared) (e:Value) (s':Shared),CX w [] H s (fun _ _ _=>False) e s'->False):
  PySem.W.WalkO q loose XP YP l.row.toRowW d [] (fun f vs=>PySem.call f vs):=by
 refine Att.attach_call hn hdf fun w s₀ s₁ mg mb fa o pm cd doc a vs ns G Y ho hd hcd hmg hobj hints hlen hg=>?_;have KX:=hY w _ Y;obtain ⟨fd,hb,hF⟩:=F w mg fa _ KX G.T.g hmg;exact zKn KX G.T.g G.T.b G.T.builtins G.T.nolimit (G.T.seer hI) hg hobj hints (zPj hlen hn2) hr hF hb (fun H hO hS=>hsp w H a ns hlen hO hS) fun H e s'=>hCX w H s₁ e s'
def zw(s:Stmt)(j:Nat):Stmt:=match s with
 | .ClassDef _ _ _ body _ _ _ _ _ _ _=>body.getD j (.Pass ⟨0,0,0,0⟩)
 | _=> .Pass ⟨0,0,0,0⟩
def zAT(s:Stmt):Arguments:=match s with
 | .FunctionDef _ a _ _ _ _ _ _ _ _=>a
 | _=>{posonlyargs:= [],args:= [],vararg:=none,kwonlyargs:= [],kw_defaults:= [],kwarg:=none,defaults:= []}
def yw(s:Stmt):List Stmt:=match s with
 | .FunctionDef _ _ b _ _ _ _ _ _ _=>b
 | _=> []
def zF(s:Stmt):Scope:=match s with
 | .FunctionDef _ _ _ _ _ _ sc _ _ _=>sc
 | _=>{kind:= .function,names:= [],isGenerator:=false,isCoroutine:=false}
abbrev CX0:CXT:=fun _ _ _ _ _ _=>False
abbrev E0:XK:=fun _ _ _=>False
theorem zK{X:Cx}:zAc CX0 X E0:=fun _ _ _ _ _ _ _ h=>h.elim
structure Fun(K:zQK)(x qual:Str)(st:Stmt)(f:Addr)(fd:FuncData):Prop where
 ex: ∃(oc:Value) (od:Option Addr) (kV doc pm:Value) (an:Option Addr) (cdv ct:Value) (osl:Array (Option Value)),
  fd=PySem.W.fnOf x qual (zAT st) (yw st) (zF st) .none kV doc pm an cdv ct/\K.lookup f=some ⟨oc,od,.func fd,osl⟩/\PySem.W.codeIn K cdv qual=true
 kp:PySem.W.keepIn K (.ref f)=true
section
variable {P:Program}{w:World}{K:zQK}{mg:Str->Option Value}{base:Heap}
theorem Fun.ok{x qual:Str}{st:Stmt}{f:Addr}{fd:FuncData}{N ps:List Str}{k:Nat}{sp:Sp}(F:Fun K x qual st f fd)(S:FnScope N ps (zF st))(len: ∀vs H Q E,sp vs H Q E->vs.length=ps.length)
  (hbody: ∀(cdv:Value) (A:Around) (outer:List Env) (s:Shared) (H:Hp) (vs:List V) (Q:VK) (E:XK),Room k (A.deeper (envOfC qual (zF st) s.heap.objs.size f cdv))->sp vs H Q E->
   ∃t,PSs (zAi CX0 P w K mg base N qual (zF st) f cdv A outer s H E).nox (yw st) t/\t {nx:=fun _ H'=>Q .non H',rt:=Q} (start N vs) H):FnOk P w K mg base CX0 (k+1) f fd ps sp:=by
 obtain ⟨oc,od,kV,doc,pm,an,cdv,ct,osl,rfl,lk,hcd⟩:=F.ex;refine zLR lk hcd S len fun A outer s H vs Q E hr hsp=>?_;obtain ⟨t,h,q⟩:=hbody cdv A outer s H vs Q E hr hsp;exact ⟨t,h.nox,q⟩
theorem Fun.binds{x qual:Str}{st:Stmt}{f:Addr}{fd:FuncData}{ps:List Str}(F:Fun K x qual st f fd)
  (h: ∀(kV doc pm:Value) (an:Option Addr) (cdv ct:Value) (us:List Value),us.length=ps.length->bindArgs (PySem.W.fnOf x qual (zAT st) (yw st) (zF st) .none kV doc pm an cdv ct) ⟨us,[]⟩=pure (ps.zip us)):zL K fd ps [] :=by
 obtain ⟨oc,od,kV,doc,pm,an,cdv,ct,osl,rfl,lk,hcd⟩:=F.ex;exact .all (h kV doc pm an cdv ct)
theorem zY{x qual:Str}{st:Stmt}{f:Addr}{oc:Value}{od an:Option Addr}{osl:Array (Option Value)}{kV doc pm cdv ct:Value}(l:K.lookup f=some ⟨oc,od,.func (PySem.W.fnOf x qual (zAT st) (yw st) (zF st) .none kV doc pm an cdv ct),osl⟩)
  (c:PySem.W.codeIn K cdv qual=true) (k:PySem.W.keepIn K (.ref f)=true):Fun K x qual st f (PySem.W.fnOf x qual (zAT st) (yw st) (zF st) .none kV doc pm an cdv ct):=⟨⟨oc,od,kV,doc,pm,an,cdv,ct,osl,rfl,l,c⟩,k⟩
end
theorem zIj{A:Around}{k:Nat}(hr:Room k A):A.units+1<cLine:=zPm (Nat.add_le_add_left (by decide:1<=64) _) hr.units
section
variable {X:Cx}
theorem pv(i:Nat){x:Str}{pos:Pos}(hN:X.N[i]?=some x:=by rfl)(hv:Vis X.env.scope x:=by first | exact Or.inl rfl | exact Or.inr (Or.inl rfl)| exact Or.inr (Or.inr rfl))(hd:(x==("__debug__" :Str))=false:=by decide)
  (hcd:(x==("__classdict__" :Str))=false:=by decide):PE X (.Name x pos) (yY i):=zHA hN hv hd hcd
end
theorem zBY{A B:Prop}(h:B):if false=true then A else B:=by
 rw [if_neg zPi];exact h
theorem zp{A B:Prop}(h:A):if true=true then A else B:=by
 rw [if_pos rfl];exact h
theorem yl{c A B:Prop}[Decidable c](h1:c->A)(h2: ¬c->B):if c then A else B:=by
 by_cases h:c
 ·rw [if_pos h];exact h1 h
 ·rw [if_neg h];exact h2 h
def zC(H H':Hp):Prop:= ∀b o,H b=some o->H' b=some o
theorem zC.refl(H:Hp):zC H H:=fun _ _ h=>h
theorem zC.trans{H H1 H2:Hp}(a:zC H H1)(b:zC H1 H2):zC H H2:=fun c o h=>b c o (a c o h)
theorem zC.seq{K:zQK}{H H':Hp}{a:Addr}{xs:List V}(e:zC H H')(h:SqL K H a xs):SqL K H' a xs:=by
 rcases h with (h |⟨o,h⟩)| h
 ·exact .inl (.inl (e _ _ h))
 ·exact .inl (.inr ⟨o,e _ _ h⟩)
 ·exact .inr h
end L2
namespace FrM
def Sz(n:Nat)(a:Int):Prop:=a.natAbs<2^n
theorem zGY(a b:Int)(_hb:0<b):Int.gcd b (a % b)=Int.gcd a b:=by
 rw [Int.gcd_comm,Int.emod_def,Int.gcd_sub_mul_left_left]
theorem zKf(g:Int)(h:0<=g):((Int.gcd g 0:Nat):Int)=g:=by
 rw [Int.gcd_zero_right];omega
end FrM
namespace L2
open PySem PySem.Spec PyProof.Rows
structure FlyU(fs:List Addr)(H H':Hp)(h B h':Heap):Prop where
 keep: ∀b o,h.get? b=some o->H b=none->b∉fs->B.get? b=some o
 slot: ∀b o,h.get? b=some o->H b=none->b∈fs-> ∃sl,h'.get? b=some {o with slots:=sl}
 inB: ∀b o,h.get? b=some o->b∉fs-> ∃o',B.get? b=some o'
 free: ∀b o,h.get? b=some o->H b=none->H' b=none
 tups: ∀b xs,H b=some (.tup xs)->H' b=some (.tup xs)
 frzs: ∀b o u,H b=some (.frz o u)->H' b=some (.frz o u)
 tbls: ∀b ps,H b=some (.tbl ps)-> ∃more,H' b=some (.tbl (ps++more))
def Fly(P:Program)(w:World):CXT:=fun outer H s E e s'=>
 ∃(ea:Addr) (cls a0:Value) (H':Hp) (B:Heap),e= .ref ea/\s'.os=s.os/\AllBare s'.gens/\Heap.FlyingW B outer ea cls a0 s'.heap/\HOk P w H' B/\FlyU (frs outer) H H' s.heap B s'.heap/\E cls none H'
def zDW(CX:CXT)(X:Cx)(E:St->XK):Prop:= ∀(pins:List (Addr×Obj)) (σ:St) (H:Hp) (s:Shared) (e:Value) (s':Shared),Inv X pins σ H s->CX X.stack H s (E σ) e s'->X.xe e s'
section
variable {P:Program}{w:World}{K:zQK}{mg:Str->Option Value}{base:Heap}{N:List Str}{qual:Str}{scope:Scope}{f:Addr}{cd:Value}{A:Around}{outer:List Env}{s₀:Shared}{H₀:Hp}{E:XK}
theorem zKG{env:Env}{l:List Env}{b:Addr}(h:b∈frs l):b∈frs (env::l):=by
 obtain ⟨e,he,q⟩:=List.mem_filterMap.mp h;exact List.mem_filterMap.mpr ⟨e,.tail _ he,q⟩
end
section
variable {X:Cx}{CX:CXT}{k:Nat}{f C:Addr}{fd:FuncData}{ps:List Str}{sp:Sp}{dvs:List V}{ds:List Value}{E:St->XK}{x:Str}{p pos:Pos}{e:Expr}{es:List Expr}{t:TA}
end
open FrM
theorem zHi{a:Int}{n:Nat}(h:Sz n a):Builtin.Int.intBits a<=n:=by
 unfold Builtin.Int.intBits;split
 ·exact zPk _
 ·rcases Nat.eq_zero_or_pos a.natAbs with h0 | hp
  ·have hn:0<n:=by
    cases n with
    | zero=>exact absurd (show a=0 by omega) (by rename_i q;simpa using q)
    | succ n=>exact Nat.succ_pos n
   have:a.natAbs.log2=0:=by rw [h0];rfl
   omega
  ·have:a.natAbs.log2<n:=(Nat.log2_lt (zQE hp)).mpr h;omega
section
variable {X:Cx}{pos:Pos}
def zKr:V->Value->Prop
 | .ref a,c=>c= .ref a
 | .ty n,c=>c= .type n
 | _,_=>False
theorem zKr.eq{cv:V}{c v:Value}(h:zKr cv c)(r:zg cv v):v=c:=by
 cases cv<;>first | exact h.elim |(cases (show v=_ from r);cases (show c=_ from h);rfl)
def zNW(K:zQK):List V->Hp->VK->Prop:=fun xs H Q=> ∃x cv t c b,xs= [x,cv] /\zKr cv c/\TyOf K H x t/\PySem.W.kitOne K t c=some b/\Q (.bl b) H
theorem zEC:yc X (.builtin "isinstance") (zNW X.K):=by
 intro pins s σ H xs us Q I r h;obtain ⟨x,cv,t,c,b,rfl,rc,ty,e,q⟩:=h;obtain ⟨u,v,rfl,ru,rv⟩:=zQ.two r;have ec:v=c:=rc.eq rv;subst ec;exact zIy I ru ty e fun tk=>⟨.bl b,H,I.tok tk,rfl,q⟩
theorem zKm(hu:X.A.units<cLine):OpR X (compareOp .Eq) (fun x y H Q=> ∃a b xs,x= .ref a/\y= .ref b/\SqL X.K H a xs/\SqL X.K H b [] /\Q (.bl xs.isEmpty) H):=by
 intro pins s σ H x y v u Q I rx ry h;obtain ⟨a,b,xs,rfl,rfl,ha,hb,q⟩:=h;cases rx;cases ry;obtain ⟨its,r,pl,_⟩:=I.list ha;obtain ⟨its',r',pl',_⟩:=I.list hb;cases r';cases r with
 | nil=>exact SeqAt.eq_listAt (e:=fun _=>true) pl.isList pl'.isList rfl hu (fun j h1 _=>absurd h1 (by simp)) ⟨.bl true,H,I,rfl,q⟩
 | cons r1 r2=>exact SeqAt.eq_list_lengthsAt pl.isList pl'.isList (by simp) hu ⟨.bl false,H,I,rfl,q⟩
theorem zEK(hu:X.A.units<cLine):OpR X (compareOp .NotEq) (fun x y H Q=> ∃a b xs,x= .ref a/\y= .ref b/\SqL X.K H a xs/\SqL X.K H b [] /\Q (.bl (!xs.isEmpty)) H):=by
 intro pins s σ H x y v u Q I rx ry h;obtain ⟨a,b,xs,rfl,rfl,ha,hb,q⟩:=h;cases rx;cases ry;obtain ⟨its,r,pl,_⟩:=I.list ha;obtain ⟨its',r',pl',_⟩:=I.list hb;cases r';cases r with
 | nil=>exact SeqAt.RcNeAt.lists (e:=fun _=>true) pl.isList pl'.isList rfl hu (fun j h1 _=>absurd h1 (by simp)) _ _ _ _ ⟨.bl false,H,I,rfl,q⟩
 | cons r1 r2=>exact SeqAt.RcNeAt.lists_lengths pl.isList pl'.isList (by simp) hu _ _ _ _ ⟨.bl true,H,I,rfl,q⟩
theorem zCn(n:Nat):(List.range n).all (fun _=>true)=true:=by
 rw [List.all_eq_true];intro _ _;rfl
end
theorem zx{h:Heap}{b:Addr}{o:Obj}(e:h.get? b=some o): @LT.lt Nat _ b h.objs.size:=zPf e
abbrev Cx.comp(X:Cx)(scope:Scope)(cl:List (Str×Addr))(C:Addr)(N:List Str)(s₂:Shared)(H₂:Hp)(fp:List Addr):Cx:=
 {X with N:=N,s₀:=s₂,H₀:=H₂,env:=compEnvC scope cl C X.env,outer:=X.stack,ex:=fp,fn:=fun _=>false,pn:= [],xe:=fun _ _=>False}
def zX(fr:List Nat)(σ:St):St:=fr.map fun i=>(σ[i]?).getD none
end L2
namespace PySem
open PySem.Spec
section
variable {prog:Program}{w:World}{A:Around}{E:Value->Shared->Prop}{h:Heap}{g:Array GenState}{d:Drawn}{t:Nat}{os:OsState}
variable {nm q:Str}{C N:Addr}{bs bm bmB:List Value}{hdct:Bool}{sn:List Str}{sub:List Value}{ab:Bool}{col:Option Bool}{dd:Option Addr}{k0 k1 k2 k3 k5:Option Value}{B newId initId:String}
end
end PySem
namespace PySem.W
open PySem PySem.Calls PyProof.Rows Builtin Builtin.ObjectAttr Builtin.Getset_descriptor
section
variable {prog:Program}{w:World}{A:Around}{E:Value->Shared->Prop}{s:Shared}{K:Frag}{x C:Addr}{ox:Obj}{od:Option Obj}{name:Str}{R:Result->Shared->Prop}
end
end PySem.W
namespace L2
open PySem PySem.Spec PyProof.Rows
theorem zBV{X:Cx}{K:zQK}(h:X.K=K):yc X (.builtin "isinstance") (zNW K):=by
 subst h;exact zEC
theorem PE.imp{X:Cx}{e:Expr}{t t':TE}(h:PE X e t)(f: ∀σ H Q,t' σ H Q->t σ H Q):PE X e t':=fun pins s σ H Q I q=>h pins s σ H Q I (f σ H Q q)
section
variable {X:Cx}{o e value:Expr}{f:Str}{pos pos':Pos}{ta tv:TE}
end
section
variable {X:Cx}{CX:CXT}{k:Nat}{f C:Addr}{fd:FuncData}{ps:List Str}{sp:Sp}{E:XK}{x:Str}{p pos:Pos}{e:Expr}{es:List Expr}{t:TA}
end
def yE:Expr->Bool
 | .Starred ..=>false
 | _=>true
theorem zm{e:Expr}{es:List Expr}{env:Env}(h:yE e=true):starEach (e::es) env=(false,eval e env)::starEach es env:=by
 cases e<;>first | rfl | cases h
structure QE(X:Cx)(e:Expr)(t:TE):Prop where
 out:PE X e t
structure QA(X:Cx)(es:List Expr)(t:TA):Prop where
 out:PA X es t
section
variable {X:Cx}{a:Expr}{es:List Expr}{ta:TE}{t:TA}{j:Nat}{pos:Pos}
theorem qc(ha:QE X a ta)(hr:QA X es t)(h:yE a=true):QA X (a::es) (zAN ta t):=⟨yi ha.out hr.out (zm h)⟩
theorem zD:QA X [] zBg:=⟨zAt⟩
theorem zG{i:Int}:QE X (.Constant (.int i) j pos) (tC (.int i)):=⟨zAR⟩
theorem zGx{b:Bool}:QE X (.Constant (.bool b) j pos) (tC (.bl b)):=⟨zOg⟩
theorem zEO{x:Str}:QE X (.Constant (.str x) j pos) (tC (.str x)):=⟨zNV⟩
theorem zDc:QE X (.Constant .none j pos) (tC .non):=⟨zNk⟩
theorem zBw(h:QA X es t):QE X (.Tuple es j pos) (zNE t):=⟨zNh h.out⟩
theorem zAU(h:QA X es t):QE X (.List es pos) (zKt t):=⟨zJS h.out⟩
theorem zCB(h:QE X a ta):QE X (.UnaryOp .USub a pos) (tUn (rU fun i=> .int (-i)) ta):=⟨zOr zNQ h.out⟩
end
open FrM
structure QT(X:Cx)(e:Expr)(t:TT):Prop where
 out:PT X e t
structure QW(X:Cx)(e:Expr)(t:TT):Prop where
 out:PW X e t
structure QS(X:Cx)(st:Stmt)(t:TS):Prop where
 out:PS X st t
structure QB(X:Cx)(b:List Stmt)(t:TS):Prop where
 out:PSs X b t
structure QI(X:Cx)(tg iter:Expr)(t:TI):Prop where
 out:PI X tg iter t
structure QG(X:Cx)(tg:Expr)(t:TG):Prop where
 out:PG X tg t
structure QGs(X:Cx)(tg:List Expr)(t:TGs):Prop where
 out:PGs X tg t
def zAG:List Expr->Bool
 | [] =>true
 | e::es=>yE e&&zAG es
theorem zAX{pos:Pos}{env:Env}: ∀{es:List Expr},zAG es=true->(backTo pos (starEach es env)).any (·.1)=false
 | [],_=>rfl
 | e::es,h=>by
  have h2:yE e=true/\zAG es=true:=by simpa [zAG] using h
  rw [zm h2.1];show (false ||(backTo pos (starEach es env)).any (·.1))=false;rw [zAX h2.2];rfl
section
variable {X:Cx}{K:zQK}{a b c e o:Expr}{es rest:List Expr}{ta tb tc te to:TE}{tA tB':TT}{t:TA}{x:Str}{p pos pos' apos cpos:Pos}{j i:Nat}
def okV(X:Cx)(i:Nat)(x:Str)(k:NameKind):Bool:=X.N[i]?==some x&&(X.env.scope.names.lookup x==some k&&(!(x==("__debug__" :Str))&&!(x==("__classdict__" :Str))))
theorem zHf{k:NameKind}(h:okV X i x k=true):X.N[i]?=some x/\X.env.scope.names.lookup x=some k/\(x==("__debug__" :Str))=false/\(x==("__classdict__" :Str))=false:=by
 unfold okV at h;rw [Bool.and_eq_true,Bool.and_eq_true,Bool.and_eq_true,beq_iff_eq,beq_iff_eq,Bool.not_eq_true',Bool.not_eq_true'] at h;exact h
theorem qw(i:Nat)(h:okV X i x .local=true):QE X (.Name x pos) (yY i):=let ⟨a,b,c,d⟩:=zHf h;⟨zHA a (.inl b) c d⟩
theorem qx(i:Nat)(h:okV X i x .cell=true):QE X (.Name x pos) (yY i):=let ⟨a,b,c,d⟩:=zHf h;⟨zHA a (.inr (.inl b)) c d⟩
def okB(x:Str)(e:Expr)(es:List Expr):Bool:=!(x==("__name__" :Str))&&(!(x==("__debug__" :Str))&&(yE e&&zAG es))
theorem zHc(h:okB x e es=true):x≠ "__name__" /\(x==("__debug__" :Str))=false/\yE e=true/\zAG es=true:=by
 unfold okB at h;rw [Bool.and_eq_true,Bool.and_eq_true,Bool.and_eq_true,Bool.not_eq_true',Bool.not_eq_true',beq_eq_false_iff_ne] at h;exact h
theorem zGb{v:V}{u:Value}(hg:Gl X x)(hm:X.mg x=some u)(r:zg v u)(hd:(x==("__debug__" :Str))=false):QE X (.Name x pos) (tC v):=⟨zMI hg hm r hd⟩
theorem zDF{v:V}{u:Value}(hg:Gl X x)(hm:X.mg x=none)(hv:bootBuiltins x=some u)(r:zg v u)(hn:x≠ "__name__")(hd:(x==("__debug__" :Str))=false):QE X (.Name x pos) (tC v):=⟨zFN hg hm hv r hn hd⟩
theorem zCq{op:Operator}{r:R2}(ho:OpR X (binaryOp op) r)(ha:QE X a ta)(hb:QE X b tb):QE X (.BinOp a op b pos) (tOp r ta tb):=⟨zAC ho ha.out hb.out⟩
theorem zAM(ha:QE X a ta)(hb:QE X b tb):QE X (.BinOp a .Add b pos) (tOp (rI0 fun i j=> .int (i+j)) ta tb):=zCq zEY ha hb
theorem zBZ(ha:QE X a ta)(hb:QE X b tb):QE X (.BinOp a .Sub b pos) (tOp (rI0 fun i j=> .int (i - j)) ta tb):=zCq zNY ha hb
theorem zLP(ha:QE X a ta)(hb:QE X b tb):QE X (.BinOp a .Mult b pos) (tOp (rI zIM fun i j=> .int (i*j)) ta tb):=zCq zBl ha hb
theorem zBo(ha:QE X a ta)(hb:QE X b tb):QE X (.BinOp a .FloorDiv b pos) (tOp (rI zNP fun i j=> .int (i/j)) ta tb):=zCq zLt ha hb
theorem zAB(ha:QE X a ta)(hb:QE X b tb):QE X (.BinOp a .Mod b pos) (tOp (rI (fun _ j=>0<j) fun i j=> .int (i % j)) ta tb):=zCq zBi ha hb
theorem zBG(ha:QE X a ta)(hb:QE X b tb):QE X (.BinOp a .Add b pos) (tOp zIK ta tb):=zCq zNZ ha hb
theorem zOq(ha:QE X a ta):QE X (.UnaryOp .Not a pos) (zLD ta):=⟨zJg ha.out⟩
theorem zIk{op:BoolOp}(h:QE X a ta):QE X (.BoolOp op [a] pos) ta:=⟨zJO h.out⟩
theorem zFq(ha:QE X a ta)(hb:QE X (.BoolOp .And (b::rest) pos) tb):QE X (.BoolOp .And (a::b::rest) pos) (zLI ta tb):=⟨zJE ha.out hb.out⟩
theorem zEP(hc:QT X c tA)(ha:QE X a ta)(hb:QE X b tb):QE X (.IfExp c a b pos) (tIf tA ta tb):=⟨zKi hc.out ha.out hb.out⟩
theorem zFv{op:CmpOp}{r:R2}(ho:OpR X (compareOp op) r)(ha:QE X a ta)(hb:QE X b tb)(hm:behindInMarks op b=false):QE X (.Compare a [op] [b] pos) (tOp r ta tb):=⟨zLs ho ha.out hb.out hm⟩
theorem zl{op:CmpOp}{r:R2}(ho:OpR X (compareOp op) r)(ha:QE X a ta)(hb:QE X b tb)(hm:behindInMarks op b=false):QT X (.Compare a [op] [b] pos) (zFr (tOp r ta tb)):=⟨zFV ho ha.out hb.out hm⟩
theorem zNz(ha:QE X a ta)(h:behindInMarks .IsNot (.Constant .none j pos')=false):QE X (.Compare a [.IsNot] [.Constant .none j pos'] pos) (zIS ta):=⟨zOM (zHh ha.out) h⟩
theorem zGJ(ha:QE X a ta)(h:behindInMarks .IsNot (.Constant .none j pos')=false):QT X (.Compare a [.IsNot] [.Constant .none j pos'] pos) (tB (zIS ta)):=⟨zOI (zHh ha.out) h⟩
theorem zDd(h:QE X e te)(he: ∀whole,isTrue e X.env whole=(do let v<-whole;standAt e.pos;holding [v] (truthy v))):QT X e (tB te):=⟨zOC h.out he⟩
theorem zEe(h:QT X a tA):QT X (.UnaryOp .Not a pos) (zNH tA):=⟨zNl h.out⟩
theorem zEW(h:QT X a tA):QW X (.BoolOp .And [a] pos) tA:=⟨zMR h.out⟩
theorem zIc(h:QT X a tA):QW X (.BoolOp .Or [a] pos) tA:=⟨zNA h.out⟩
theorem zEa(ha:QT X a tA)(hb:QW X (.BoolOp .And (b::rest) pos) tB'):QW X (.BoolOp .And (a::b::rest) pos) (zNt tA tB'):=⟨zON ha.out hb.out⟩
theorem zKK(ha:QT X a tA)(hb:QW X (.BoolOp .Or (b::rest) pos) tB'):QW X (.BoolOp .Or (a::b::rest) pos) (tOr tA tB'):=⟨zOy ha.out hb.out⟩
theorem t_w(h:QW X e tA):QT X e tA:=⟨h.out.pt⟩
theorem yA(hK:X.K=K)(ha:QE X a ta)(hb:QE X b tb)(hs:zFE b):QE X (.Subscript a b pos) (tOp (zIm K) ta tb):=by
 subst hK;exact ⟨zIe zHT ha.out hb.out hs⟩
theorem yL(hK:X.K=K)(ha:QE X a ta)(hb:QE X b tb)(hs:zFE b):QE X (.Subscript a b pos) (tOp (zMq K) ta tb):=by
 subst hK;exact ⟨zIe zOT ha.out hb.out hs⟩
section
variable {CX:CXT}{k:Nat}{f C:Addr}{fd:FuncData}{ps:List Str}{sp:Sp}{dvs:List V}{ds:List Value}{E:XK}{ES:St->XK}{id T:String}{r:List V->Hp->VK->Prop}
theorem zI(F:FnOk X.prog X.w X.K X.mg X.base CX k f fd ps sp)(hr:Room k X.A)(hg:Gl X x)(hm:X.mg x=some (.ref f))(hk:PySem.W.keepIn X.K (.ref f)=true)(hb:zL X.K fd ps ds)(hd:zQ dvs ds)(hx:zAc CX X E)
  (ha:QA X (e::es) t) (h1:(x==("__debug__" :Str))=false) (h2:yE e=true) (h3:zAG es=true):QE X (.Call (.Name x p) (e::es) [] pos) (zFs sp dvs E t):=⟨zFI F hr hg hm hk hb hd hx ha.out h1 (zm h2) (zAX h3)⟩
theorem zMG(hc:yc X (.builtin id) r)(hg:Gl X x)(hm:X.mg x=none)(hv:bootBuiltins x=some (.builtin id))(ha:QA X (e::es) t)(h0:x≠ "__name__")(h1:(x==("__debug__" :Str))=false)(h2:yE e=true)(h3:zAG es=true):
  QE X (.Call (.Name x p) (e::es) [] pos) (tCB r t):=⟨zCh hc hg hm hv ha.out h0 h1 (zm h2) (zAX h3)⟩
theorem zKU(hc:yc X (.type T) r)(hg:Gl X x)(hm:X.mg x=none)(hv:bootBuiltins x=some (.type T))(ha:QA X (e::es) t)(h0:x≠ "__name__")(h1:(x==("__debug__" :Str))=false)(h2:yE e=true)(h3:zAG es=true):
  QE X (.Call (.Name x p) (e::es) [] pos) (tCB r t):=⟨zJq hc hg hm hv ha.out h0 h1 (zm h2) (zAX h3)⟩
theorem yK(hc:yc X (.builtin id) r)(hg:Gl X x)(hm:X.mg x=none)(hv:bootBuiltins x=some (.builtin id))(ha:QA X (e::es) t)(h:okB x e es=true):QE X (.Call (.Name x p) (e::es) [] pos) (tCB r t):=let ⟨a,b,c,d⟩:=zHc h;zMG hc hg hm hv ha a b c d
theorem zCk(hc:yc X (.type T) r)(hg:Gl X x)(hm:X.mg x=none)(hv:bootBuiltins x=some (.type T))(ha:QA X (e::es) t)(h:okB x e es=true):QE X (.Call (.Name x p) (e::es) [] pos) (tCB r t):=let ⟨a,b,c,d⟩:=zHc h;zKU hc hg hm hv ha a b c d
end
theorem yH(hK:X.K=K):yc X (.builtin "len") (fun xs H Q=> ∃p ys,xs= [.ref p] /\(SqL K H p ys\/SqT K H p ys)/\Q (.int ys.length) H):=by
 subst hK;exact zDE
theorem zEG(hK:X.K=K)(ho:QE X o to)(ha:QE X e te)(hb:attributeBase o "append" X.env (eval o X.env)=eval o X.env)(h2:yE e=true)(hl:(apos.endLine==cpos.line)=true):
  QE X (.Call (.Attribute o "append" apos) [e] [] cpos) (tBM K "list" zIC to (zAN te zBg)):=by
 subst hK;exact ⟨zLX PySem.F.plainAttrs_list PySem.F.slot_list_append PySem.F.type_list_append zBU ho.out (yi ha.out zAt (zm h2)) hb (by rw [zm h2];rfl) hl (zm h2) rfl⟩
theorem zLU{t':TE}(h:QE X e te)(f: ∀σ H Q,t' σ H Q->te σ H Q):QE X e t':=⟨PE.imp h.out f⟩
section
variable {st:Stmt}{sts b1 b2:List Stmt}{u v:TS}{g:TG}{gs:TGs}{wi:TI}{tg iter:Expr}
theorem yV:QB X [] zLB:=⟨zHV⟩
theorem zM(h:QS X st u):QB X [st] u:=⟨zBL h.out⟩
theorem zE(h:QS X st u)(h2:QB X sts v):QB X (st::sts) (zNj u v):=⟨zAV h.out h2.out⟩
theorem ze(h:QE X e te):QS X (.Return (some e) pos) (zNR te):=⟨zCZ h.out⟩
theorem zBH(h:QE X e te)(hs:swapsWith e none pos.line X.env=pure false):QS X (.Expr e pos) (zLY te):=⟨zLa h.out hs⟩
theorem yX(hc:QT X c tA)(ha:QB X b1 u)(hb:QB X b2 v):QS X (.If c b1 b2 pos) (zOQ tA u v):=⟨zLE hc.out ha.out hb.out⟩
theorem yt(i:Nat)(hN:X.N.Nodup)(hi:X.N[i]?=some x)(hx:Loc X.env.scope x)(he:QE X e te)(hs:swapsWith e (some (.Name x pos')) pos.line X.env=pure false)(hf:X.fn x=true\/X.env.scope.names.lookup x=some .local):
  QS X (.Assign [.Name x pos'] e pos) (zCg te (yR i)):=⟨zBj hN hi hx he.out hs hf⟩
theorem zW(i:Nat)(hN:X.N.Nodup)(h:(X.N[i]?==some x&&X.env.scope.names.lookup x==some .local)=true)(he:QE X e te)(hs:swapsWith e (some (.Name x pos')) pos.line X.env=pure false):QS X (.Assign [.Name x pos'] e pos) (zCg te (yR i)):=by
 rw [Bool.and_eq_true,beq_iff_eq,beq_iff_eq] at h;exact yt i hN h.1 (.inl h.2) he hs (.inr h.2)
theorem zOl(he:QE X e te)(hg:QG X tg g)(hs:swapsWithSole [tg] e pos.line X.env=pure false)(hw:swappedStores [tg] e X.env=pure none)(h1:(assignEach [tg] X.env).map (·.2)= [assign tg X.env]):QS X (.Assign [tg] e pos) (zCg te g):=⟨zNv he.out hg.out hs hw h1⟩
theorem zJ(i:Nat)(hN:X.N.Nodup)(hi:X.N[i]?=some x)(hx:Loc X.env.scope x)(hf:X.fn x=true\/X.env.scope.names.lookup x=some .local):QG X (.Name x pos) (yR i):=⟨zLn hN hi hx hf⟩
theorem zBB:QGs X [] zMu:=⟨zLo⟩
theorem yG(h1:QG X e g)(h2:QGs X es gs)(hs:(assignEach (e::es) X.env).map (·.2)=assign e X.env::(assignEach es X.env).map (·.2)):QGs X (e::es) (zLS g gs):=⟨zKj h1.out h2.out hs⟩
theorem zBC{n:Nat}(hK:X.K=K)(hc:X.calm=true)(h:QGs X es gs)(hn:(assignEach es X.env).length=n)(hst:(assignEach es X.env).findIdx? (·.1)=none):QG X (.Tuple es j pos) (zNK K n gs):=by
 subst hK;exact ⟨zOP hc h.out hn hst⟩
theorem zHS(hp:PassesOwn (model X.prog X.w) X.A X.env X.xe)(hc:QT X c tA)(hb:QB X b1 u):QS X (.While c b1 [] pos) (zGh tA u):=⟨zHB hp hc.out hb.out⟩
theorem zj(hK:X.K=K)(h:QE X e te):QI X tg e (zLQ K te):=by
 subst hK;exact ⟨zMQ h.out⟩
theorem yZ(hg:Gl X "range")(hm:X.mg "range" =none)(h:QA X [a] t)(h2:yE a=true):QI X tg (.Call (.Name "range" p) [a] [] pos) (zLC t):=⟨zIv hg hm h.out (by rw [zm h2];rfl)⟩
theorem zOv(hp:PassesOwn (model X.prog X.w) X.A X.env X.xe)(hc:X.calm=true)(hi:QI X tg iter wi)(hg:QG X tg g)(hb:QB X b1 u)(hs: ∀x,foldedSetIterable iter X.env x=pure x):QS X (.For tg iter b1 [] pos) (zNC wi g u):=⟨zNe hp hc hi.out hg.out hb.out hs⟩
end
end
abbrev zAq(ifs:List Expr)(env:Env):Sem Bool:=forIn ifs true fun c r=>if r=true then do let ok<-isTrue c env (eval c env);pure (ForInStep.yield ok) else pure (ForInStep.yield r)
theorem yI{P:Program}{w:World}{A:Around}{env:Env}{E:Value->Shared->Prop}{α:Type}{t:Sem α}{Q:α->Shared->Prop}{s:Shared}(h:wpAny (model P w) A t Q (fun _ _=>False) s):wpAny (model P w) A t Q (notedBy (model P w) A env E) s:=zPq h (fun _ _ z=>z) fun _ _ z=>z.elim
theorem zEm{P:Program}{w:World}{A:Around}{R:Result->Shared->Prop}{s:Shared}{elt target iter:Expr}{ifs:List Expr}{scope:Scope}{pos:Pos}{it acc:Value}{env:Env}(J:Nat->Shared->Prop)
  (turn: ∀n s,J n s->wpAny (model P w) A (pyNext it) (fun r s1=>match r with
   | none=>R (.ok .next) s1
   | some v=>wpAny (model P w) A (letOwnedTupleGo target it v) (fun _ s1'=>wpAny (model P w) A (assign target env v) (fun _ s2=>wpAny (model P w) A (zAq ifs env) (fun ok s3=>
     if ok=true then wpAny (model P w) A (eval elt env) (fun x s4=>wpAny (model P w) A (call (.builtin "list.append") [acc,x]) (fun _ s5=> ∃m,m<n/\J m s5) (fun _ _=>False) s4) (fun _ _=>False) s3
     else∃m,m<n/\J m s3) (fun _ _=>False) s2) (fun _ _=>False) s1') (fun _ _=>False) s1) (fun _ _=>False) s)
  (n:Nat) (h:J n s):codeAny (model P w) A (.compLoop (.ListComp elt [⟨target,iter,ifs,0⟩] scope pos) 0 it acc env) R s:=by
 refine codeAny_loop rfl J (fun n s hJ=>?_) n h;show wpAny _ A ((compTurn (.ListComp elt [⟨target,iter,ifs,0⟩] scope pos) 0 it acc env).onRaise _) _ _ s;refine wpAny_noted ?_;rw [compTurn_list];refine zPW (wpAny_standAt (zPW (zPq (yI (turn n s hJ)) (fun r s1 h1=>?_) fun _ _ z=>z)));cases r with
 | none=>exact zPb h1
 | some v=>
  refine zPW (zPq (yI h1) (fun _ s2 h3=>zPW (zPq (yI h3) (fun _ s3 h4=>zPW (zPq (yI h4) (fun ok s4 h5=>?_) fun _ _ z=>z)) fun _ _ z=>z)) fun _ _ z=>z);cases ok with
  | false=>exact zPb ⟨rfl,h5⟩
  | true=>exact zPW (zPW (zPq (yI h5) (fun x s5 h6=>zPW (zPq (yI h6) (fun _ s6 h7=>zPb (zPb ⟨rfl,h7⟩)) fun _ _ z=>z)) fun _ _ z=>z))
def PTs(X:Cx)(ifs:List Expr)(t:TT):Prop:=(ifs= [] /\t=fun _ H Q=>Q true H)\/ ∃c,ifs= [c] /\PT X c t
def zBu(wi:TI)(g:TG)(tt:TT)(te:TE)(n:Nat)(fr:List Nat):TE:=fun σ H Q=>wi σ H fun J H1=> ∀D,H1 D=none-> ∃W:Nat->Nat->List V->Hp->Prop,(∃m,W 0 m [] (upd H1 D (.lst [])))/\ ∀i m ys H,W i m ys H->
 H D=some (.lst ys)/\((J.stop i H/\Q (.ref D) H)\/(J.go i H/\ys.length<sizeLine/\ ∃N:List V->Hp->Prop,(∀ys' H',N ys' H'-> ∃m',m'<m/\W (i+1) m' ys' H')/\
  ∀x H',J.yld i H x H'-> ∀pre:St,pre.length=n->g x (pre++zX fr σ) H' fun σ2 H2=>(∃zh:St,zh.length=n/\σ2=zh++zX fr σ)/\
   tt σ2 H2 fun b H3=>if b=true then te σ2 H3 fun y H4=>H4 D=some (.lst ys)/\N (ys++ [y]) (upd H4 D (.lst (ys++ [y]))) else N ys H3))
theorem zJu{X:Cx}{elt iter tg:Expr}{ifs:List Expr}{zs:List Str}{pos:Pos}{scope:Scope}{cl:List (Str×Addr)}{ys:List Str}{fr:List Nat}{wi:TI}{g:TG}{tt:TT}{te:TE}(hcm:X.calm=true)
  (hi:PI X tg iter wi) (hclos:closureFor scope X.env=pure cl) (hcell: ∀y∈scope.names,y.2≠ .cell) (hkind:scope.kind= .function) (hnames: ∀y∈scope.names,y.2= .local->scope.names.lookup y.1=some .local)
  (hcl: ∀y a,cl.lookup y=some a->X.env.cells.lookup y=some a)
  (hlen:ys.length=fr.length) (hfr: ∀(j:Nat) y i,ys[j]?=some y->fr[j]?=some i->X.N[i]?=some y/\X.env.kindOf y=some .cell/\(relabel scope X.env).names.lookup y=some .cell/\ ∃a,cl.lookup y=some a/\X.env.cells.lookup y=some a)
  (hhas: ∀y,((relabel scope X.env).names.lookup y=some .cell\/(relabel scope X.env).names.lookup y=some .free)-> ∃a,cl.lookup y=some a)
  (hg: ∀C s₂ H₂ fp,PG (X.comp scope cl C (zs++ys) s₂ H₂ fp) tg g) (hc: ∀C s₂ H₂ fp,PTs (X.comp scope cl C (zs++ys) s₂ H₂ fp) ifs tt) (he: ∀C s₂ H₂ fp,PE (X.comp scope cl C (zs++ys) s₂ H₂ fp) elt te) (hs: ∀v,foldedSetIterable iter X.env v=pure v:=by intro _;rfl):
  PE X (.ListComp elt [⟨tg,iter,ifs,0⟩] scope pos) (zBu wi g tt te zs.length fr):=by
 intro pins s σ H Q I h;rw [eval_ListComp];refine wpAny_comprehension_free (use:=none) rfl hs hclos hkind hnames (zd (hi pins s σ H _ I h) fun v s1 h1=>zd h1 fun itv s2 h2=>?_);obtain ⟨it,fp,tn,J,H2,e,I2,T,st2,f2,h2⟩:=h2;subst e;have hD:H2 s2.heap.objs.size=none:=I2.hok.fresh (zPZ _);obtain ⟨W,⟨m0,w0⟩,turn⟩:=h2 s2.heap.objs.size hD;refine wpAny_newObj_type (wpAny_newFunctionEnv hcell (by intro y hy;simp at hy) (fun h₁ hns₁ hsb₁=>?_) hkind);dsimp only at hns₁ hsb₁⊢;generalize hH3:s2.heap.push {cls:= .type "list",dict:=none,data:= .seq ([] :List Value).toArray}=H3 at hns₁ hsb₁⊢;have hCs:H3.objs.size=s2.heap.objs.size+1:=by rw [<-hH3,Heap.size_push]
 have old: ∀b o,s2.heap.get? b=some o->h₁.get? b=some o:=fun b o e=>
  hsb₁.extBut b o (zPd (by have:=zx e;omega)) (zPX _ (hH3▸zPX _ e))
 have hacc:h₁.get? s2.heap.objs.size=some {cls:= .type "list",dict:=none,data:= .seq ([] :List Value).toArray}:=
  hsb₁.extBut _ _ (zPd (by omega)) (zPX _ (hH3▸zPo _ rfl))
 have fplt: ∀b∈fp,@LT.lt Nat _ b s2.heap.objs.size:=fun b hb=>by
  obtain ⟨o,e,_⟩:=T.obj _ _ st2 b hb;exact zx e
 have okC:(X.comp scope cl H3.objs.size (zs++ys) s2 H2 fp).Ok:=by
  refine ⟨I2.ok.mod,hkind,I2.ok.glob,I2.ok.blt,?_,fun y z a h1 h2=>I2.ok.inj y z a (hcl y a h1) (hcl z a h2),fun y hy=>hhas y hy,fun y a z _=>(nomatch z),I2.ok.hd,I2.ok.frames,.inl rfl,fun b hb=>⟨?_,fun y a e z=>?_⟩,I2.bs,zPj I2.ok.bsz I2.sz,fun b o e hb=>?_,fun b hb z=>?_,I2.stack,I2.stkFree⟩
  ·show s2.heap.objs.size<=H3.objs.size;omega
  ·show b≠H3.objs.size;have:=fplt b hb;exact zPd (by omega)
  ·exact (f2 b hb).2.2.2.2.1 y a (hcl y a e) z
  ·rcases (f2 b hb).2.2.2.1 with z | z
   ·exact I2.ok.noex b o e z
   ·have z': @LE.le Nat _ X.s₀.heap.objs.size b:=z;have: @LT.lt Nat _ b X.base.objs.size:=zx e;have:=I2.ok.bsz;omega
  ·rcases List.mem_cons.mp (I2.stkSub b z) with y | y
   ·exact (f2 b hb).2.1 y
   ·exact (f2 b hb).2.2.1 y
 have fpok: ∀{H':Hp},(∀b∈fp,H' b=none)-> ∀b∈fp,zAo (X.comp scope cl H3.objs.size (zs++ys) s2 H2 fp) [] H' b:=fun hn b hb=>
  ⟨hn b hb,(okC.exf b hb).1,okC.exfs b hb,.inl hb,(okC.exf b hb).2,fun p hp=>absurd hp (by simp)⟩
 have cellC: ∀y a,cl.lookup y=some a-> ∃v,s2.heap.IsCell a v:=fun y a e=>I2.cell y a (hcl y a e);have start:Inv (X.comp scope cl H3.objs.size (zs++ys) s2 H2 fp) [] (List.replicate zs.length none++zX fr σ) (upd H2 s2.heap.objs.size (.lst [])) {s2 with heap:=h₁,toks:=s2.toks+([] :List (Str×Value)).length}:=by
  refine ⟨okC,rfl,I2.bare,Un.laid old (zPZ _) hD,⟨_,hns₁,fun j y v e1 e2 e3=>?_⟩,fun y a e=>?_,?_,fun y a e=>?_,fun p hp=>absurd hp (by simp),I2.hok.laid old (zPZ _) ⟨zPk _,[],_,.nil,hacc⟩,?_⟩
  ·by_cases hj:j<zs.length
   ·rw [List.getElem?_append_left (by simpa using hj),List.getElem?_replicate] at e2;rw [if_pos hj] at e2;cases e2
   ·obtain ⟨j,rfl⟩: ∃k,j=zs.length+k:=⟨j - zs.length,by omega⟩;have e1':ys[j]?=some y:=by
     have z:=e1;simp only [Cx.comp] at z;rw [List.getElem?_append_right (by omega)] at z;simpa using z
    have e2':(zX fr σ)[j]?=some (some v):=by
     rw [List.getElem?_append_right (by simp)] at e2;simpa using e2
    unfold zX at e2';rw [zPa] at e2';cases q:fr[j]? with
    | none=>rw [q] at e2';cases e2'
    | some i=>
     rw [q] at e2';have e4:(σ[i]?).getD none=some v:=Option.some.inj e2';have e5:σ[i]?=some (some v):=by
      cases q2:σ[i]? with
      | none=>rw [q2] at e4;cases e4
      | some z=>rw [q2] at e4;exact congrArg some e4
     obtain ⟨hN,hk,hl,a,ha,ha'⟩:=hfr j y i e1' q;obtain ⟨m,_,hl2⟩:=I2.loc;obtain ⟨u,r,l⟩:=hl2 i y v hN e5 (.inr (.inl hk));refine ⟨u,r,.inr ⟨.inl hl,a,ha,?_⟩⟩;rcases l with ⟨k,_⟩|⟨_,a2,ea,z⟩
     ·rw [hk] at k;cases k
     ·rw [ha'] at ea;cases ea;obtain ⟨o,ho,hd⟩:=z;exact ⟨o,old _ _ ho,hd⟩
  ·obtain ⟨v,o,ho,hd⟩:=cellC y a e;exact ⟨v,o,old _ _ ho,hd⟩
  ·show upd H2 s2.heap.objs.size (.lst []) H3.objs.size=none;rw [zH (by first | exact zPd (by omega)| exact zQE (by omega))];exact I2.hok.fresh (by omega)
  ·obtain ⟨v,o,ho,hd⟩:=cellC y a e;have:=zx ho;rw [zH (by first | exact zPd (by omega)| exact zQE (by omega))];exact I2.freeC y a (hcl y a e)
  ·show (List.replicate zs.length none++zX fr σ).length=(zs++ys).length;unfold zX;simp [hlen]
 have loop: ∀s₃:Shared,s₃={s2 with heap:=h₁,toks:=s2.toks+([] :List (Str×Value)).length}->
   codeAny (model X.prog X.w) X.A (.compLoop (.ListComp elt [⟨tg,iter,ifs,0⟩] scope pos) 0 (.ref it) (.ref s2.heap.objs.size) (compEnvC scope cl H3.objs.size X.env)) (compPost (model X.prog X.w) X.A X.xe none (EP X pins σ Q) (.ref s2.heap.objs.size) H3.objs.size) s₃:=by
  rintro s₃ rfl;refine zEm (fun n s'=> ∃i pre ys' H',pre.length=zs.length/\Inv (X.comp scope cl H3.objs.size (zs++ys) s2 H2 fp) [] (pre++zX fr σ) H' s'/\tn i s'.heap/\(∀b∈fp,H' b=none)/\W i n ys' H') ?_ m0
   ⟨0,List.replicate zs.length none,[],_,by simp,start,T.keep _ _ _ st2 fun b hb o e=>old b o e,fun b hb=>by
    have:=fplt b hb;rw [zH (by first | exact zPd (by omega)| exact zQE (by omega))];exact (f2 b hb).1,w0⟩
  rintro n s3 ⟨i,pre,ys3,H',hpl,I3,st3,fr3,w3⟩;obtain ⟨hl3,alt⟩:=turn i n ys3 H' w3;rcases alt with ⟨stop,qn⟩|⟨go,hz,N,hN,step⟩
  ·refine zPq (T.done (X.comp scope cl H3.objs.size (zs++ys) s2 H2 fp) rfl rfl rfl hcm i [] s3 _ H' (fun _ _=>False) I3 (fpok fr3) st3 stop) (fun r s4 h4=>?_) fun _ _ z=>z.elim;obtain ⟨hr,I4⟩:=h4;subst hr;obtain ⟨m4,hn4,_⟩:=id I4.loc;refine ⟨m4,hn4,fun h'' hs''=>?_⟩;have hb: ∀b o,b≠H3.objs.size->s4.heap.get? b=some o->h''.get? b=some o:=fun b o hb e=>(hs''.2 b hb).trans e;have I5:Inv X pins σ H' {s4 with heap:=h''}:=by
    refine I2.call' (s':={s4 with heap:=h''}) (ch:=fp) I4.os ⟨fun b o e n hb' hx'=>?_,fun b o e n hb' hx'=>?_,fun b o e n hx'=>I4.base.free b o e n hx',fun b o e hx'=>?_,I4.base.tups,I4.base.frzs,I4.base.tbls⟩ (fun b u e=>?_) I4.bare fun b hb'=>⟨(f2 b hb').2.2.2.1,(f2 b hb').2.1,(f2 b hb').2.2.2.2.1,(f2 b hb').2.2.2.2.2⟩
    ·exact hb b o (zPd (by have:=zx e;omega)) (I4.base.keep b o e n hb' hx')
    ·obtain ⟨sl,q⟩:=I4.base.slot b o e n hb' hx';exact ⟨sl,hb b _ (zPd (by have:=zx e;omega)) q⟩
    ·obtain ⟨o',q⟩:=I4.base.there b o e hx';exact ⟨o',hb b _ (zPd (by have:=zx e;omega)) q⟩
    ·refine (I4.hok b u e).stay (fun c' w' hc' q=>hb c' w' ?_ q) (fun _ q=>q) fun _ _ q=>q;intro z;have fz:H' H3.objs.size=none:=I4.free;rcases hc' with y | y
     ·rw [<-y,z,fz] at e;cases e
     ·rw [z,fz] at y;cases y
   exact ⟨.ref s2.heap.objs.size,H',I5,rfl,qn⟩
  ·refine zPq (T.item (X.comp scope cl H3.objs.size (zs++ys) s2 H2 fp) rfl rfl rfl hcm i [] s3 _ H' (fun _ _=>False) I3 (fpok fr3) st3 go) (fun r s4 h4=>?_) fun _ _ z=>z.elim;obtain ⟨u,hr,h4⟩:=h4;subst hr;dsimp only;have asg:wpAny (model X.prog X.w) X.A (letOwnedTupleGo tg (.ref it) u) (fun _ s5=>wpAny (model X.prog X.w) X.A (assign tg (compEnvC scope cl H3.objs.size X.env) u)
     (fun _ s6=> ∃σ5 H6,(∃pn5,Inv (X.comp scope cl H3.objs.size (zs++ys) s2 H2 fp) pn5 σ5 H6 s6/\(∀b∈fp,∃o,(b,o)∈pn5))/\((∃zh:St,zh.length=zs.length/\σ5=zh++zX fr σ)/\
      tt σ5 H6 fun b H3'=>if b=true then te σ5 H3' fun y H4=>H4 s2.heap.objs.size=some (.lst ys3)/\N (ys3++ [y]) (upd H4 s2.heap.objs.size (.lst (ys3++ [y]))) else N ys3 H3')/\tn (i+1) s6.heap/\ ∀b∈fp,H6 b=none) (fun _ _=>False) s5) (fun _ _=>False) s4:=by
    refine (zd h4 fun _ s5 ⟨x5,H5,I5,r5,y5,st5,fr5⟩=>?_);have I5':=I5.pinned (fpok fr5) (T.obj _ _ st5);refine zPq (hg _ _ _ _ _ s5 _ H5 x5 u _ I5' r5 (step x5 H5 y5 pre hpl)) (fun _ s6 ⟨σ6,H6,I6,q6⟩=>?_) fun _ _ z=>z.elim;exact ⟨σ6,H6,⟨_,I6,fun b hb=>by
     obtain ⟨o,e,_⟩:=T.obj _ _ st5 b hb;exact ⟨o,zPl _ (yC hb e)⟩⟩,q6,T.keep _ _ _ st5 fun b hb o e=>(I6.pin (b,o) (zPl _ (zPl _ (yC hb e)))).1,fun b hb=>by
     obtain ⟨o,e,_⟩:=T.obj _ _ st5 b hb;exact (I6.pin (b,o) (zPl _ (zPl _ (yC hb e)))).2.1⟩
   refine zPq asg (fun _ s5 h5=>zPq h5 (fun _ s6 h6=>?_) fun _ _ z=>z.elim) fun _ _ z=>z.elim;obtain ⟨σ5,H5,⟨pn5,I6,hp6⟩,⟨⟨zh,hl2,rfl⟩,q6⟩,st6,fr5⟩:=h6;have keepTurn: ∀{σ7:St} {H7:Hp} {s7:Shared},Inv (X.comp scope cl H3.objs.size (zs++ys) s2 H2 fp) pn5 σ7 H7 s7->tn (i+1) s7.heap/\ ∀b∈fp,H7 b=none:=fun {σ7 H7 s7} I7=>by
    refine ⟨T.keep _ _ _ st6 fun b hb o e=>?_,fun b hb=>?_⟩
    ·obtain ⟨o',hm⟩:=hp6 b hb;have a1:=(I6.pin (b,o') (zPl _ hm)).1;rw [e] at a1;cases a1;exact (I7.pin (b,_) (zPl _ hm)).1
    ·obtain ⟨o',hm⟩:=hp6 b hb;exact (I7.pin (b,o') (zPl _ hm)).2.1
   have drop: ∀{σ7:St} {H7:Hp} {s7:Shared},Inv (X.comp scope cl H3.objs.size (zs++ys) s2 H2 fp) pn5 σ7 H7 s7->Inv (X.comp scope cl H3.objs.size (zs++ys) s2 H2 fp) [] σ7 H7 s7:=fun I7=>I7.pins_of fun p hp=>absurd hp (by simp);have tests:wpAny (model X.prog X.w) X.A (zAq ifs (compEnvC scope cl H3.objs.size X.env)) (fun b s7=> ∃H7,Inv (X.comp scope cl H3.objs.size (zs++ys) s2 H2 fp) pn5 (zh++zX fr σ) H7 s7/\
     (if b=true then te (zh++zX fr σ) H7 fun y H4=>H4 s2.heap.objs.size=some (.lst ys3)/\N (ys3++ [y]) (upd H4 s2.heap.objs.size (.lst (ys3++ [y]))) else N ys3 H7)) (fun _ _=>False) s6:=by
    rcases hc H3.objs.size s2 H2 fp with ⟨rfl,rfl⟩|⟨c,rfl,hc2⟩
    ·exact wpAny_tests_nil ⟨H5,I6,q6⟩
    ·exact wpAny_tests_one (zPq (hc2 pn5 s6 _ H5 _ I6 q6) (fun b s7 ⟨H7,I7,q7⟩=>⟨H7,I7,q7⟩) fun _ _ z=>z.elim)
   refine zPq tests (fun b s7 h7=>?_) fun _ _ z=>z.elim;obtain ⟨H7,I7,q7⟩:=h7;cases b with
   | false=>
    obtain ⟨m',hm,w'⟩:=hN _ _ q7;obtain ⟨k1,k2⟩:=keepTurn I7;exact ⟨m',hm,i+1,zh,ys3,H7,hl2,drop I7,k1,k2,w'⟩
   | true=>
    refine zPq (he _ _ _ _ pn5 s7 _ H7 _ I7 q7) (fun y s8 h8=>?_) fun _ _ z=>z.elim;obtain ⟨yv,H8,I8,r8,hl8,n8⟩:=h8;refine zPq (zBU (X:=X.comp scope cl H3.objs.size (zs++ys) s2 H2 fp) pn5 s8 _ H8 (.ref s2.heap.objs.size) [yv] (.ref s2.heap.objs.size) [y] (fun z H9=>N (ys3++ [yv]) H9) I8 rfl (.cons r8 .nil) ⟨s2.heap.objs.size,ys3,yv,rfl,rfl,hl8,hz,n8⟩) (fun _ s9 h9=>?_) fun _ _ z=>z.elim;obtain ⟨_,H9,I9,_,n9⟩:=h9;obtain ⟨m',hm,w'⟩:=hN _ _ n9;obtain ⟨k1,k2⟩:=keepTurn I9;exact ⟨m',hm,i+1,zh,ys3++ [yv],H9,hl2,drop I9,k1,k2,w'⟩
 exact codeAny_compStart_list (loop _ rfl) (T.self X.A 0 _ _ _ (T.keep _ _ _ st2 fun b hb o e=>old b o e) (loop _ rfl))
structure QTs(X:Cx)(ifs:List Expr)(t:TT):Prop where
 out:PTs X ifs t
theorem zV{X:Cx}:QTs X [] (fun _ H Q=>Q true H):=⟨.inl ⟨rfl,rfl⟩⟩
theorem zDG{X:Cx}{c:Expr}{t:TT}(h:QT X c t):QTs X [c] t:=⟨.inr ⟨c,rfl,h.out⟩⟩
theorem zLi{X:Cx}{elt iter tg:Expr}{ifs:List Expr}(zs:List Str){pos:Pos}{scope:Scope}{cl:List (Str×Addr)}(ys:List Str)(fr:List Nat){wi:TI}{g:TG}{tt:TT}{te:TE}(hcm:X.calm=true)
  (hi:QI X tg iter wi) (hclos:closureFor scope X.env=pure cl) (hcell: ∀y∈scope.names,y.2≠ .cell) (hkind:scope.kind= .function) (hnames: ∀y∈scope.names,y.2= .local->scope.names.lookup y.1=some .local)
  (hcl: ∀y a,cl.lookup y=some a->X.env.cells.lookup y=some a)
  (hlen:ys.length=fr.length) (hfr: ∀(j:Nat) y i,ys[j]?=some y->fr[j]?=some i->X.N[i]?=some y/\X.env.kindOf y=some .cell/\(relabel scope X.env).names.lookup y=some .cell/\ ∃a,cl.lookup y=some a/\X.env.cells.lookup y=some a)
  (hhas: ∀y,((relabel scope X.env).names.lookup y=some .cell\/(relabel scope X.env).names.lookup y=some .free)-> ∃a,cl.lookup y=some a)
  (hg: ∀C s₂ H₂ fp,QG (X.comp scope cl C (zs++ys) s₂ H₂ fp) tg g) (hc: ∀C s₂ H₂ fp,QTs (X.comp scope cl C (zs++ys) s₂ H₂ fp) ifs tt) (he: ∀C s₂ H₂ fp,QE (X.comp scope cl C (zs++ys) s₂ H₂ fp) elt te) (hs: ∀v,foldedSetIterable iter X.env v=pure v):
  QE X (.ListComp elt [⟨tg,iter,ifs,0⟩] scope pos) (zBu wi g tt te zs.length fr):=
 ⟨zJu hcm hi.out hclos hcell hkind hnames hcl hlen hfr hhas (fun C s H f=>(hg C s H f).out) (fun C s H f=>(hc C s H f).out) (fun C s H f=>(he C s H f).out) hs⟩
section
variable {K:zQK}{g:TG}{tt:TT}{te:TE}{n:Nat}{fr:List Nat}{σ:St}{H:Hp}{Q:VK}
def zDz(g:TG)(tt:TT)(te:TE)(n:Nat)(suf:St)(D:Addr)(x:V)(ys:List V)(H:Hp)(N:List V->Hp->Prop):Prop:=
 ∀pre:St,pre.length=n->g x (pre++suf) H fun σ2 H2=>(∃zh:St,zh.length=n/\σ2=zh++suf)/\tt σ2 H2 fun b H3=>if b=true then te σ2 H3 fun y H4=>H4 D=some (.lst ys)/\N (ys++ [y]) (upd H4 D (.lst (ys++ [y]))) else N ys H3
end
section
variable {κ:Type}[DecidableEq κ]
end
section
variable {P:Program}{w:World}{H:Hp}{h:Heap}{a:Addr}
end
section
variable {X:Cx}{pins:List (Addr×Obj)}{σ:St}{H:Hp}{s:Shared}{a:Addr}{y v:V}{u r:Value}{o:Option V}{A:Around}{E:Value->Shared->Prop}
end
section
variable {X:Cx}{pins:List (Addr×Obj)}{σ:St}{H:Hp}{s:Shared}{a:Addr}{kvs:List (Key×V)}{k:Key}{u:Value}{A:Around}{E:Value->Shared->Prop}
end
section
variable {X:Cx}{o i e value:Expr}{pos pos' tpos:Pos}{td ty tv:TE}
end
section
variable {X:Cx}{pos:Pos}
end
section
variable {X:Cx}{pins:List (Addr×Obj)}{σ:St}{H:Hp}{s:Shared}{a:Addr}{y d:V}{u r:Value}{o:Option V}{A:Around}{E:Value->Shared->Prop}
end
section
variable {X:Cx}{o e f:Expr}{apos cpos:Pos}{td ty tx:TE}
end
section
variable {X:Cx}{pins:List (Addr×Obj)}{σ:St}{H:Hp}{s:Shared}{a:Addr}{kvs:List (Key×V)}{A:Around}{E:Value->Shared->Prop}
end
section
variable {X:Cx}{pins:List (Addr×Obj)}{σ:St}{H:Hp}{s:Shared}{a:Addr}{y:V}{u:Value}{A:Around}{E:Value->Shared->Prop}
end
theorem Inv.turnedL{X:Cx}{pins:List (Addr×Obj)}{σ:St}{H:Hp}{s:Shared}{h':Heap}{t':Nat}{ch:List Addr}(I:Inv X pins σ H s)(k: ∀b o,b∉ch->s.heap.get? b=some o->h'.get? b=some o)(hf: ∀b∈ch,zAo X pins H b):
  Inv X pins σ H {s with heap:=h',toks:=t'}:=by
 have nit: ∀b u,H b=some u->b∉ch:=fun b u e z=>by rw [(hf b z).1] at e;cases e
 refine I.step (g':=s.gens) (d':=s.drawn) (ch:=ch) (fun b hb=>?_) (fun b o _ _ hc e _=>k b o hc e) (fun b o _ _ hc e _=>⟨o.slots,k b o hc e⟩) (fun _ _ _ _ n=>n)
  (fun b o hc e=>⟨o,k b o hc e⟩) (fun _ _ e=>e) (fun _ _ _ e=>e) (fun b ps e=>⟨#[],by rw [e];simp⟩) (fun m hm=>?_) (fun b u e=>?_) I.bare
 ·obtain ⟨f0,f1,f2,f3,f4,f5⟩:=hf b hb;exact ⟨f3,f1,f4,f5⟩
 ·obtain ⟨o,es,ep,ho,r⟩:=hm;exact ⟨o,es,ep,k _ o (fun z=>(hf _ z).2.1 rfl) ho,r⟩
 ·refine (I.hok b u e).stay (fun c v hc q=>k c v ?_ q) (fun _ q=>q) fun _ _ q=>q;rcases hc with z | z
  ·rw [z];exact nit b u e
  ·exact nit c _ z
theorem zAo.upd{X:Cx}{pins:List (Addr×Obj)}{H:Hp}{b a:Addr}{o:HO}(f:zAo X pins H b)(h:b≠a):zAo X pins (L2.upd H a o) b:=⟨by rw [zH h];exact f.1,f.2⟩
def Ite(K:zQK)(l:Addr):It:=
 ⟨fun i H=> ∃xs x,SqL K H l xs/\xs[i]?=some x,fun i H x H'=> ∃t y,(∀xs,SqL K H l xs->xs[i]?=some y)/\H t=none/\x= .ref t/\H'=upd H t (.tup [.int i,y]),fun i H=> ∃xs,SqL K H l xs/\xs.length<=i⟩
theorem zJD{P:Program}{w:World}{K:zQK}{elts:List Expr}{x1}{pos:Pos}(l e it:Addr)(hne:e≠it):Turn P w K (.Tuple elts x1 pos) (Ite K l) [e,it] e (fun i h=> ∃old,IsEnum h e it i old/\h.IsListIter it l i) where
 mem:=by simp
 obj:=fun i h st b hb=>by
  obtain ⟨old,e1,o,e2,c,d⟩:=st;rcases List.mem_cons.mp hb with r | r
  ·subst r;exact ⟨_,e1,fun v z=>by
    have z':Data.fields _=Data.cell v:=z;cases z'⟩
  ·have r':b=it:=by simpa using r
   subst r';exact ⟨o,e2,fun v z=>by rw [d] at z;cases z⟩
 keep:=fun i h h' st k=>let ⟨old,e1,e2⟩:=st;⟨old,k e (by simp) _ e1,e2.at fun o z=>k it (by simp) o z⟩
 item:=by
  intro X hP hw hK hc i pins s σ H E I hf st hg;subst hP hw hK;obtain ⟨xs,x,hq,hx⟩:=hg;obtain ⟨old,hen,hit⟩:=st;obtain ⟨its,rv,p,hz⟩:=I.list hq;obtain ⟨u,hu,ru⟩:=rv.get hx;obtain ⟨f0,f1,f2,f3,f4,f5⟩:=hf e (by simp);obtain ⟨g0,g1,g2,g3,g4,g5⟩:=hf it (by simp);refine wpAny_pyNext_enum_item hen hit p.isList (x:=u) (by simpa using hu) hne fun h1 heo hit1 ht hz1 hk=>⟨_,rfl,?_⟩;refine wpAny_letOwnedTupleGo_enum heo fun h2 he2 hs2=>?_;replace hs2:Heap.SameBut e h1 h2:=hs2;have hn1:s.heap.objs.size≠e:=zQE (zPf hen);have hn2:s.heap.objs.size≠it:=by
   obtain ⟨o,z,_⟩:=hit;exact zQE (zPf z)
  have old': ∀b q,b≠e->b≠it->s.heap.get? b=some q->h2.get? b=some q:=fun b q hb hb2 z=>(hs2.2 b hb).trans (hk b q hb hb2 z);have new:h2.get? s.heap.objs.size=some {cls:= .type "tuple",data:= .seq #[.int i s.toks,u]}:=(hs2.2 _ hn1).trans ht;obtain ⟨oi,hoi,hci⟩:=id hit;obtain ⟨oj,hoj,hcj⟩:=id hit1;have hoj2:h2.get? it=some oj:=(hs2.2 it (Ne.symm hne)).trans hoj;have I1:Inv X pins σ (upd H s.heap.objs.size (.tup [.int i,x])) {s with heap:=s.heap.push {cls:= .type "tuple",data:= .seq #[.int i s.toks,u]},toks:=s.toks+1}:=
   I.laid (fun b q e=>zPX _ e) (zPZ _) ⟨by show 2<=sizeLine;decide,[.int i s.toks,u],.cons ⟨_,rfl⟩ (.cons ru .nil),_,zPo _ rfl,rfl,⟨_,rfl⟩,rfl⟩
  have I2:=Inv.turnedL (h':=h2) (t':=s.toks+1) (ch:= [e,it]) I1 (fun b q hb z=>by
   have hb1:b≠e:=fun y=>hb (by simp [y]);have hb2:b≠it:=fun y=>hb (by simp [y]);replace z:(s.heap.push {cls:= .type "tuple",data:= .seq #[.int i s.toks,u]}).get? b=some q:=z;by_cases hbs:b=s.heap.objs.size
   ·subst hbs;rw [zPo _ rfl] at z;cases z;exact new
   ·rw [Heap.get?_push_ne _ _ _ hbs] at z;exact old' b q hb1 hb2 z) (fun b hb=>(hf b hb).upd (by
     rcases List.mem_cons.mp hb with r | r
     ·subst r;exact Ne.symm hn1
     ·have r':b=it:=by simpa using r
      subst r';exact Ne.symm hn2))
  refine ⟨.ref s.heap.objs.size,_,I2,rfl,⟨_,x,fun ys hy=>by rw [I.list_inj hy hq];exact hx,I.hok.fresh (zPZ _),rfl,rfl⟩,⟨u,?_,oj,hoj2,hcj⟩,fun b hb=>?_⟩
  ·have z:((i+1:Nat):Int)=(i:Int)+1:=by omega
   rw [z];exact he2
  ·rcases List.mem_cons.mp hb with r | r
   ·subst r;rw [zH (Ne.symm hn1)];exact f0
   ·have r':b=it:=by simpa using r
    subst r';rw [zH (Ne.symm hn2)];exact g0
 done:=by
  intro X hP hw hK hc i pins s σ H E I hf st hg;subst hP hw hK;obtain ⟨xs,hq,hx⟩:=hg;obtain ⟨old,hen,hit⟩:=st;obtain ⟨its,rv,p,hz⟩:=I.list hq;obtain ⟨g0,g1,g2,g3,g4,g5⟩:=hf it (by simp);have hl:=rv.length;exact wpAny_pyNext_enum_end (I.ok.hd hc) hen hit p.isList (by simp;omega) fun h' eb=>⟨rfl,I.turned (t':=s.toks) (fun b o hb e=>eb b o hb e) g0 g1 g3 g4 g5⟩
 self:=fun A i s Q E st h=>by
  obtain ⟨old,e1,_⟩:=st;exact wpAny_pyIter_enum e1 h
def zLG(K:zQK)(ta:TA):TI:=fun σ H R=>ta σ H fun vs H1=> ∃a,vs= [.ref a] /\(∃xs,SqL K H1 a xs)/\R (Ite K a) H1
theorem zLg{X:Cx}{a:Expr}{ta:TA}{p pos tpos:Pos}{elts:List Expr}{x1}(hg:Gl X "enumerate")(hm:X.mg "enumerate" =none)(ha:PA X [a] ta)(hs:starEach [a] X.env= [(false,eval a X.env)]):
  PI X (.Tuple elts x1 tpos) (.Call (.Name "enumerate" p) [a] [] pos) (zLG X.K ta):=by
 intro pins s σ H R I h;refine Call_ (zBm I hg hm boot_enumerate (PyProof.Rows.callWith_type1 (zd (ha pos pins s σ H _ I h) fun us s1 ⟨vs,H1,I1,r1,q1⟩=>?_) hs rfl));obtain ⟨l,e,⟨xs,hq⟩,q⟩:=q1;subst e;obtain ⟨u,rfl,ru⟩:=zBR r1;cases ru;obtain ⟨its,rv,pl,hz⟩:=I1.list hq;refine call_enumerate_list pl.isList fun h' he hit hsz hk=>?_;refine wpAny_pyIter_enum he ?_;refine ⟨_,[s1.heap.objs.size+1,s1.heap.objs.size],_,_,H1,rfl,I1.kept (t':=s1.toks) hk,zJD l _ _ (Nat.succ_ne_self _),⟨_,he,hit⟩,fun b hb=>?_,q⟩;rcases List.mem_cons.mp hb with r | r
 ·subst r;exact I1.fpOk (Nat.le_succ _) (I1.hok.fresh (Nat.le_succ _))
 ·have r':b=s1.heap.objs.size:=by simpa using r
  subst r';exact I1.fpOk (zPZ _) (I1.hok.fresh (zPZ _))
theorem zGt{X:Cx}{K:zQK}{a:Expr}{ta:TA}{p pos tpos:Pos}{elts:List Expr}{x1}(hK:X.K=K)(hg:Gl X "enumerate")(hm:X.mg "enumerate" =none)(ha:QA X [a] ta)(h2:yE a=true):
  QI X (.Tuple elts x1 tpos) (.Call (.Name "enumerate" p) [a] [] pos) (zLG K ta):=by
 subst hK;exact ⟨zLg hg hm ha.out (by rw [zm h2];rfl)⟩
section
variable {X:Cx}
theorem zEx: ∀{bs:List Bool} {us:List Value},zQ (bs.map V.bl) us->us=bs.map Value.bool
 | [],_,r=>by cases r;rfl
 | b::bs,_,r=>by
  cases r with
  | cons h t=>
   cases h;rw [zEx t];rfl
theorem zIt{bs:List Bool}:(List.range bs.length).all (fun i=>bs.getD i false)=bs.all id:=by
 rw [Bool.eq_iff_iff,List.all_eq_true,List.all_eq_true];constructor
 ·intro h b hb;obtain ⟨i,hi,e⟩:=List.getElem_of_mem hb;have:=h i (List.mem_range.mpr hi);rw [List.getD_eq_getElem?_getD,zPV hi] at this;rw [<-e];exact this
 ·intro h i hi;have hi':=List.mem_range.mp hi;rw [List.getD_eq_getElem?_getD,zPV hi'];exact h _ (zQA hi')
theorem zKT(hc:X.calm=true):yc X (.builtin "all") (fun xs H Q=> ∃(a:Addr) (bs:List Bool),xs= [.ref a] /\SqL X.K H a (bs.map V.bl)/\Q (.bl (bs.all id)) H):=by
 intro pins s σ H xs us Q I r h;obtain ⟨a,bs,rfl,hq,q⟩:=h;obtain ⟨u,rfl,ru⟩:=zBR r;cases ru;obtain ⟨its,rv,p,hz⟩:=I.list hq;have e:=zEx rv;subst e;have hlt:a<s.heap.objs.size:=by
  obtain ⟨o,ho,_⟩:=p.isList;exact zPf ho
 refine call_all_walk (wpAny_pyIter_list p.isList ⟨s.heap.objs.size,_,_,_,_,_,fun i=>bs.getD i false,rfl,Walks.list (show X.A.in1.handled=none from I.ok.hd hc) s.heap.objs.size a (zPd hlt) (bs.map Value.bool).toArray,
  ⟨⟨_,zPo _ rfl,rfl,rfl⟩,p.isList.at fun o z=>zPX _ z⟩,fun i v s' Q' E' hP hQ=>?_,fun h' tk hk=>?_⟩)
 ·have e:v= .bool (bs.getD i false):=by
   have hP':((bs.map Value.bool).toArray)[i]?=some v:=hP;rw [List.getElem?_toArray,zPa] at hP';cases q2:bs[i]? with
   | none=>rw [q2] at hP';cases hP'
   | some b=>
    rw [q2] at hP';rw [List.getD_eq_getElem?_getD,q2];exact (Option.some.inj hP').symm
  subst e;exact zPb hQ
 ·have ez:((bs.map Value.bool).toArray).size=bs.length:=by simp
  refine ⟨.bl (bs.all id),H,?_,?_,q⟩
  ·refine I.kept fun b o z=>hk b o (fun y=>?_) (zPX _ z);have y':b=s.heap.objs.size:=by simpa using y
   exact absurd (y'▸zPf z) (Nat.lt_irrefl _)
  ·show Value.bool _=Value.bool _;rw [ez,zIt]
end
end L2
namespace PySem
end PySem
namespace L2
open PySem PySem.Spec PyProof.Rows
section
variable {X:Cx}{pins:List (Addr×Obj)}{σ:St}{H:Hp}{s:Shared}
end
end L2
namespace PySem
open PyProof.Rows
section
variable {prog:Program}{w:World}{K:Type}[DecidableEq K]{knd:KeyKind prog w K}{A:Around}{E:Value->Shared->Prop}{s:Shared}
end
end PySem
namespace L2
open PySem PySem.Spec PyProof.Rows
section
variable {X:Cx}
end
section
variable {X:Cx}
def zDO:V->Bool
 | .int _=>true
 | .str _=>true
 | _=>false
theorem zFh{A:Around}{s:Shared}{x:V}{u v:Value}(f:zDO x=true)(ru:zg x u)(rv:zg x v):SeqAt.EqAt A s u v true:=by
 cases x with
 | int i=>
  obtain ⟨t,rfl⟩:=ru;obtain ⟨t',rfl⟩:=rv;have z:=SeqAt.EqAt.int_int (A:=A) (s:=s) i t i t';simpa using z
 | str i=>
  obtain ⟨t,rfl⟩:=ru;obtain ⟨t',rfl⟩:=rv;have z:=SeqAt.EqAt.str_str (A:=A) (s:=s) i t i t';simpa using z
 | _=>cases f
theorem zII{A:Around}{s:Shared}{xs:List V}{us vs:List Value}(f: ∀x∈xs,zDO x=true)(ru:zQ xs us)(rv:zQ xs vs):
  ∀j (h1:j<us.toArray.size) (h2:j<vs.toArray.size),SeqAt.EqAt A s us.toArray[j] vs.toArray[j] true:=by
 intro j h1 h2;have j1:j<us.length:=by simpa using h1
 have j2:j<vs.length:=by simpa using h2
 have l1:=ru.length;have a1:xs[j]?=some xs[j] :=zPV (by omega);obtain ⟨u1,b1,c1⟩:=ru.get a1;obtain ⟨u2,b2,c2⟩:=rv.get a1;have d1:us[j] =u1:=by rw [zPV j1] at b1;exact Option.some.inj b1
 have d2:vs[j] =u2:=by rw [zPV j2] at b2;exact Option.some.inj b2
 have w:=zFh (A:=A) (s:=s) (f _ (zQA (by omega))) c1 c2;simpa [d1,d2] using w
end
end L2
namespace PySem
open PyProof.Rows
section
variable {prog:Program}{w:World}{K:Type}[DecidableEq K]{knd:KeyKind prog w K}{A:Around}{E:Value->Shared->Prop}{s:Shared}
end
section
variable {prog:Program}{w:World}{K:Type}[DecidableEq K]{knd:KeyKind prog w K}{A:Around}{R:Result->Shared->Prop}{d it l:Addr}{items:Array Value}{ps:List (K×Value)}
end
section
variable {prog:Program}{w:World}{K:Type}[DecidableEq K]{knd:KeyKind prog w K}{A:Around}{E:Value->Shared->Prop}{s:Shared}
end
end PySem
namespace L2
open PySem PySem.Spec PyProof.Rows
section
variable {X:Cx}
end
section
variable {X:Cx}{K:zQK}{o i e f value:Expr}{td ty tx tv:TE}{pos pos' apos cpos:Pos}
theorem zBz(hK:X.K=K)(hc:X.calm=true):yc X (.builtin "all") (fun xs H Q=> ∃(a:Addr) (bs:List Bool),xs= [.ref a] /\SqL K H a (bs.map V.bl)/\Q (.bl (bs.all id)) H):=by
 subst hK;exact zKT hc
theorem yy(hK:X.K=K):yc X (.type "list") (fun xs H Q=> ∃p ys,xs= [.ref p] /\(SqL K H p ys\/SqT K H p ys)/\ ∀l,H l=none->Q (.ref l) (upd H l (.lst ys))):=by
 subst hK;exact zGL
end
def zLF(ns:List (Str×NameKind))(cl:List (Str×Addr)):Bool:=ns.all fun p=>match p.2 with
 | .cell=>(cl.lookup p.1).isSome
 | .free=>(cl.lookup p.1).isSome
 | _=>true
theorem zCp{κ β:Type}[BEq κ][LawfulBEq κ]{y:κ}{b:β}: ∀{l:List (κ×β)},l.lookup y=some b->(y,b)∈l
 | [],h=>by cases h
 |(z,c)::l,h=>by
  rw [List.lookup_cons] at h;split at h
  ·rename_i q
   have:y=z:=by simpa using q
   cases h;rw [this];exact List.mem_cons_self
  ·exact zQC _ (zCp h)
theorem zO{ns:List (Str×NameKind)}{cl:List (Str×Addr)}(h:zLF ns cl=true): ∀y,(ns.lookup y=some .cell\/ns.lookup y=some .free)-> ∃a,cl.lookup y=some a:=by
 intro y hy;unfold zLF at h;rw [List.all_eq_true] at h;rcases hy with e | e
 ·exact Option.isSome_iff_exists.mp (h (y,.cell) (zCp e))
 ·exact Option.isSome_iff_exists.mp (h (y,.free) (zCp e))
theorem fr1{Pp:Str->Nat->Prop}{y:Str}{i:Nat}(h:Pp y i): ∀(j:Nat) (y':Str) (i':Nat),[y][j]?=some y'-> [i][j]?=some i'->Pp y' i':=by
 intro j y' i' h1 h2;cases j with
 | zero=>cases h1;cases h2;exact h
 | succ j=>simp at h1
section
variable {g:TG}{tt:TT}{te:TE}{n:Nat}{fr:List Nat}{σ:St}{H:Hp}{Q:VK}{J:It}
theorem zCe(D:Addr)(len:Nat)(Pv:Nat->List V->Hp->Prop)(h0:Pv 0 [] (upd H D (.lst [])))(hb:len<=sizeLine)
  (hk: ∀i ys H',i<=len->Pv i ys H'->ys.length<=i/\H' D=some (.lst ys)/\(i<len->J.go i H')/\(i=len->J.stop i H'))
  (hs: ∀i ys H' x H'',i<len->Pv i ys H'->J.yld i H' x H''->zDz g tt te n (zX fr σ) D x ys H'' (Pv (i+1))) (hd: ∀ys H',Pv len ys H'->Q (.ref D) H'):
  ∃W:Nat->Nat->List V->Hp->Prop,(∃m,W 0 m [] (upd H D (.lst [])))/\ ∀i m ys H',W i m ys H'->H' D=some (.lst ys)/\((J.stop i H'/\Q (.ref D) H')\/(J.go i H'/\ys.length<sizeLine/\ ∃N:List V->Hp->Prop,(∀ys' H',N ys' H'-> ∃m',m'<m/\W (i+1) m' ys' H')/\
   ∀x H'',J.yld i H' x H''-> ∀pre:St,pre.length=n->g x (pre++zX fr σ) H'' fun σ2 H2=>(∃zh:St,zh.length=n/\σ2=zh++zX fr σ)/\
    tt σ2 H2 fun b H3=>if b=true then te σ2 H3 fun y H4=>H4 D=some (.lst ys)/\N (ys++ [y]) (upd H4 D (.lst (ys++ [y]))) else N ys H3)):=by
 refine ⟨fun i m ys H'=>i<=len/\m=len - i/\Pv i ys H',⟨_,zPk _,rfl,h0⟩,?_⟩;rintro i m ys H' ⟨hi,rfl,p⟩;obtain ⟨hl,hD,hgo,hst⟩:=hk i ys H' hi p;refine ⟨hD,?_⟩;by_cases hlt:i<len
 ·refine .inr ⟨hgo hlt,by omega,Pv (i+1),fun ys' H'' q=>⟨len -(i+1),by omega,hlt,rfl,q⟩,?_⟩;intro x H'' hy;exact hs i ys H' x H'' hlt p hy
 ·have e:i=len:=by omega
  subst e;exact .inl ⟨hst rfl,hd ys H' p⟩
theorem zLc{tb:TS}{D:Ends}(len:Nat)(Pv:Nat->St->Hp->Prop)(h0:Pv 0 σ H)(hgo: ∀i σ H,i<len->Pv i σ H->J.go i H)(hst: ∀σ H,Pv len σ H->J.stop len H)
  (hs: ∀i σ H x H',i<len->Pv i σ H->J.yld i H x H'->g x σ H' fun σ2 H2=>tb {D with nx:=Pv (i+1),ct:=Pv (i+1),bk:=D.nx} σ2 H2) (hd: ∀σ H,Pv len σ H->D.nx σ H):
  ∃W:Nat->Nat->St->Hp->Prop,(∃m,W 0 m σ H)/\ ∀i m σ H,W i m σ H->
   (J.stop i H/\D.nx σ H)\/(J.go i H/\ ∃N:St->Hp->Prop,(∀σ' H',N σ' H'-> ∃m',m'<m/\W (i+1) m' σ' H')/\ ∀x H',J.yld i H x H'->g x σ H' fun σ2 H2=>tb {D with nx:=N,ct:=N,bk:=D.nx} σ2 H2):=by
 refine ⟨fun i m σ H=>i<=len/\m=len - i/\Pv i σ H,⟨_,zPk _,rfl,h0⟩,?_⟩;rintro i m σ H ⟨hi,rfl,p⟩;by_cases hlt:i<len
 ·exact .inr ⟨hgo i σ H hlt p,Pv (i+1),fun σ' H' q=>⟨len -(i+1),by omega,hlt,rfl,q⟩,fun x H' hy=>hs i σ H x H' hlt p hy⟩
 ·have e:i=len:=by omega
  subst e;exact .inl ⟨hst σ H p,hd σ H p⟩
end
def zPO(wi:TI):TI:=fun σ H R=> ∃Rs:It->Hp->Prop,wi σ H Rs/\ ∀J H1,Rs J H1->R J H1
theorem zEr{X:Cx}{tg iter:Expr}{wi:TI}(h:QI X tg iter wi):QI X tg iter (zPO wi):=by
 refine ⟨fun pins s σ H R I ⟨Rs,h1,h2⟩=>?_⟩;refine zd (h.out pins s σ H Rs I h1) fun v s1 q=>zd q fun itv s2 q2=>?_;obtain ⟨it,fp,tn,J,H',a1,a2,a3,a4,a5,a6⟩:=q2;exact ⟨it,fp,tn,J,H',a1,a2,a3,a4,a5,h2 J H' a6⟩
structure CompInv(J:It)(g:TG)(tt:TT)(te:TE)(n:Nat)(suf:St)(H:Hp)(D:Addr)(Q:VK):Prop where
 ex: ∃(len:Nat) (Pv:Nat->List V->Hp->Prop),Pv 0 [] (upd H D (.lst []))/\len<=sizeLine/\(∀i ys H',i<=len->Pv i ys H'->ys.length<=i/\H' D=some (.lst ys)/\(i<len->J.go i H')/\(i=len->J.stop i H'))/\
  (∀i ys H' x H'',i<len->Pv i ys H'->J.yld i H' x H''->zDz g tt te n suf D x ys H'' (Pv (i+1)))/\ ∀ys H',Pv len ys H'->Q (.ref D) H'
theorem zR{J:It}{g:TG}{tt:TT}{te:TE}{n:Nat}{suf:St}{H:Hp}{D:Addr}{Q:VK}(len:Nat)(Pv:Nat->List V->Hp->Prop)(h0:Pv 0 [] (upd H D (.lst [])))(hb:len<=sizeLine)
  (hk: ∀i ys H',i<=len->Pv i ys H'->ys.length<=i/\H' D=some (.lst ys)/\(i<len->J.go i H')/\(i=len->J.stop i H'))
  (hs: ∀i ys H' x H'',i<len->Pv i ys H'->J.yld i H' x H''->zDz g tt te n suf D x ys H'' (Pv (i+1))) (hd: ∀ys H',Pv len ys H'->Q (.ref D) H'):CompInv J g tt te n suf H D Q:=⟨len,Pv,h0,hb,hk,hs,hd⟩
def zGS(wi:TI)(g:TG)(tt:TT)(te:TE)(n:Nat)(fr:List Nat):TE:=fun σ H Q=>wi σ H fun J H1=> ∀D,H1 D=none->CompInv J g tt te n (zX fr σ) H1 D Q
theorem zc{X:Cx}{elt iter tg:Expr}{ifs:List Expr}(zs:List Str){pos:Pos}{scope:Scope}{cl:List (Str×Addr)}(ys:List Str)(fr:List Nat){wi:TI}{g:TG}{tt:TT}{te:TE}(hcm:X.calm=true)
  (hi:QI X tg iter wi) (hclos:closureFor scope X.env=pure cl) (hcell: ∀y∈scope.names,y.2≠ .cell) (hkind:scope.kind= .function) (hnames: ∀y∈scope.names,y.2= .local->scope.names.lookup y.1=some .local)
  (hcl: ∀y a,cl.lookup y=some a->X.env.cells.lookup y=some a)
  (hlen:ys.length=fr.length) (hfr: ∀(j:Nat) y i,ys[j]?=some y->fr[j]?=some i->X.N[i]?=some y/\X.env.kindOf y=some .cell/\(relabel scope X.env).names.lookup y=some .cell/\ ∃a,cl.lookup y=some a/\X.env.cells.lookup y=some a)
  (hhas: ∀y,((relabel scope X.env).names.lookup y=some .cell\/(relabel scope X.env).names.lookup y=some .free)-> ∃a,cl.lookup y=some a)
  (hg: ∀C s₂ H₂ fp,QG (X.comp scope cl C (zs++ys) s₂ H₂ fp) tg g) (hc: ∀C s₂ H₂ fp,QTs (X.comp scope cl C (zs++ys) s₂ H₂ fp) ifs tt) (he: ∀C s₂ H₂ fp,QE (X.comp scope cl C (zs++ys) s₂ H₂ fp) elt te) (hs: ∀v,foldedSetIterable iter X.env v=pure v):
  QE X (.ListComp elt [⟨tg,iter,ifs,0⟩] scope pos) (zGS wi g tt te zs.length fr):=
 zLU (zLi zs ys fr hcm (zEr hi) hclos hcell hkind hnames hcl hlen hfr hhas hg hc he hs) fun σ H Q h=>⟨_,h,fun J H1 h1 D hD=>by
  obtain ⟨len,Pv,a0,a1,a2,a3,a4⟩:=(h1 D hD).ex;exact zCe D len Pv a0 a1 a2 a3 a4⟩
structure ForInv(J:It)(g:TG)(tb:TS)(D:Ends)(σ:St)(H:Hp):Prop where
 ex: ∃(len:Nat) (Pv:Nat->St->Hp->Prop),Pv 0 σ H/\(∀i σ H,i<len->Pv i σ H->J.go i H)/\(∀σ H,Pv len σ H->J.stop len H)/\
  (∀i σ H x H',i<len->Pv i σ H->J.yld i H x H'->g x σ H' fun σ2 H2=>tb {D with nx:=Pv (i+1),ct:=Pv (i+1),bk:=D.nx} σ2 H2)/\ ∀σ H,Pv len σ H->D.nx σ H
theorem yj{J:It}{g:TG}{tb:TS}{D:Ends}{σ:St}{H:Hp}(len:Nat)(Pv:Nat->St->Hp->Prop)(h0:Pv 0 σ H)(hgo: ∀i σ H,i<len->Pv i σ H->J.go i H)(hst: ∀σ H,Pv len σ H->J.stop len H)
  (hs: ∀i σ H x H',i<len->Pv i σ H->J.yld i H x H'->g x σ H' fun σ2 H2=>tb {D with nx:=Pv (i+1),ct:=Pv (i+1),bk:=D.nx} σ2 H2) (hd: ∀σ H,Pv len σ H->D.nx σ H):ForInv J g tb D σ H:=⟨len,Pv,h0,hgo,hst,hs,hd⟩
def zOj(wi:TI)(g:TG)(tb:TS):TS:=fun D σ H=>wi σ H fun J H1=>ForInv J g tb D σ H1
theorem zAF{X:Cx}{tg iter:Expr}{b1:List Stmt}{pos:Pos}{wi:TI}{g:TG}{u:TS}(hp:PassesOwn (model X.prog X.w) X.A X.env X.xe)(hc:X.calm=true)(hi:QI X tg iter wi)(hg:QG X tg g)(hb:QB X b1 u)(hs: ∀x,foldedSetIterable iter X.env x=pure x):QS X (.For tg iter b1 [] pos) (zOj wi g u):=by
 have h:=zOv (pos:=pos) hp hc (zEr hi) hg hb hs;refine ⟨fun pins s σ H D I ht=>h.out pins s σ H D I ⟨_,ht,fun J H1 h1=>?_⟩⟩;obtain ⟨len,Pv,a0,a1,a2,a3,a4⟩:=h1.ex;exact zLc len Pv a0 a1 a2 a3 a4
theorem zCU{X:Cx}{b:List Stmt}:QB X b zJj:=⟨zJG⟩
section
variable {X:Cx}
end
section
variable {H H':Hp}{d:Addr}{kvs:List (Key×V)}
end
section
variable {X:Cx}
structure QO(X:Cx)(e:Option Expr)(t:TO):Prop where
 out:PO X e t
theorem zAj:QO X none zHw:=⟨zMD⟩
theorem zAk{e:Expr}{te:TE}(h:QE X e te):QO X (some e) (zLJ te):=⟨zLd h.out⟩
section
variable {K:zQK}{o e:Expr}{to te:TE}{apos cpos:Pos}
end
section
variable {CX:CXT}{k:Nat}{f C:Addr}{fd:FuncData}{ps:List Str}{sp:Sp}{dvs:List V}{ds:List Value}{E:XK}{Es:St->XK}{x m:Str}{p pos apos:Pos}{e o:Expr}{es:List Expr}{ta:TE}{t:TA}{pl:Sem Bool}
theorem zNx(he:QE X o ta)(c:Cls X.K C)(hm:Meth X.K C m f)(F:FnOk X.prog X.w X.K X.mg X.base CX k f fd ps sp)(hr:Room k X.A)(hb:zL X.K fd ps ds)(hd:zQ dvs ds)(hx:zAc CX X E)(ha:QA X (e::es) t)
  (h2:yE e=true) (h3:zAG es=true)
  (ht:eval (.Call (.Attribute o m apos) (e::es) [] pos) X.env=(do
   let ov<-eval o X.env
   standAt apos.atName
   let (f,first)<-holding [ov] (getMethod ov m pl)
   callWith pos f first (backTo pos (starEach (e::es) X.env)) (backToKw pos (keywordEach [] X.env)))):
  QE X (.Call (.Attribute o m apos) (e::es) [] pos) (zFz C m sp dvs E ta t):=⟨zMM he.out c hm F hr hb hd hx ha.out (zm h2) (zAX h3) ht⟩
end
section
variable {pos:Pos}
end
end
section
variable {P:Program}{w:World}{K:zQK}{mg:Str->Option Value}{base:Heap}
end
section
variable {X:Cx}{k:Nat}{f:Addr}{fd:FuncData}{ps:List Str}{sp:Sp}{x:Str}{p pos:Pos}{e:Expr}{es:List Expr}{t:TA}
end
end L2
namespace PySem
open PyProof.Rows
section
variable {prog:Program}{w:World}{A:Around}{E:Value->Shared->Prop}{s:Shared}
end
end PySem
namespace PySem
open PyProof.Rows
section
variable {prog:Program}{w:World}{A:Around}{R:Result->Shared->Prop}{I:Addr}{fp wr:List Addr}{G:Array GenState->Array GenState->Prop}{n:Nat}{P:Nat->Value->Prop}{St:Nat->Shared->Prop}
end
section
variable {prog:Program}{w:World}{A:Around}{E:Value->Shared->Prop}{s:Shared}
end
end PySem
namespace PySem.F
end PySem.F
namespace PySem
open PyProof.Rows
section
variable {prog:Program}{w:World}{A:Around}{E:Value->Shared->Prop}{s:Shared}
end
end PySem
namespace PySem
open PyProof.Rows
section
variable {prog:Program}{w:World}{A:Around}{E:Value->Shared->Prop}{s:Shared}{it a tp:Addr}{es:Array (Int×Value)}{ep:Nat}{t:SetTable}{order:List Nat}{vals:List Value}{i:Nat}
end
end PySem
namespace PySem
open PyProof.Rows
section
variable {prog:Program}{w:World}{A:Around}{E:Value->Shared->Prop}{s:Shared}{it a tp:Addr}{es:Array (Int×Value)}{ep:Nat}{t:SetTable}{order:List Nat}{vals:List Value}{i:Nat}
end
end PySem
namespace PySem
open PyProof.Rows
section
variable {prog:Program}{w:World}{A:Around}{E:Value->Shared->Prop}{s:Shared}
end
end PySem
namespace L2
open PySem PySem.Spec PyProof.Rows
section
variable {X:Cx}
end
section
variable {X:Cx}
open PySem.Builtin PySem.Builtin.Str in
open PySem.Builtin PySem.Builtin.Str in
theorem zEL{K:zQK}(hK:X.K=K)(hc:X.calm=true):yc X (.builtin "sum") (fun xs H Q=> ∃(p:Addr) (ns:List Int),xs= [.ref p] /\SqL K H p (ns.map V.int)/\Q (.int ns.sum) H):=by
 subst hK;intro pins s σ H xs us Q I r h;obtain ⟨p,ns,rfl,hq,q⟩:=h;obtain ⟨u,rfl,ru⟩:=zBR r;cases ru;obtain ⟨its,rv,pl,_⟩:=I.list hq;have hi:IntsAre its ns:=zIU rv;have hn:=hi.numsOf;obtain ⟨xs,ex⟩:=hi.allInts.items;have hl:s.heap.IsList p (intItems xs):=by rw [<-ex];exact pl.isList
 refine sum_intListG (I.ok.hd hc) hl fun h' tk t' hk=>?_;have e1:preSum (numAt xs) xs.size=ns.sum:=by
  rw [preSum_eq,List.take_of_length_le (by simp),<-nums_intItems,<-ex,<-hn]
 rw [e1];exact ⟨.int _,H,I.kept hk,⟨_,rfl⟩,q⟩
section
variable {K:zQK}{o e:Expr}{to te:TE}{apos cpos:Pos}
theorem zBa{lo hi:Option Expr}{tl th:TO}{pos p2:Pos}(hK:X.K=K)(he:QE X e te)(hl:QO X lo tl)(hu:QO X hi th):QE X (.Subscript e (.Slice lo hi none p2) pos) (tSl (zOE K) te tl th):=by
 subst hK;exact ⟨zHE zMX he.out hl.out hu.out⟩
end
end
section
variable {X:Cx}
end
section
variable {X:Cx}{pos:Pos}
end
section
variable {M:Model}{A:Around}{E:Value->Shared->Prop}{s:Shared}
end
theorem zDS{h h' B B':Heap}(k: ∀b o,B.get? b=none->h.get? b=some o->(∀vs,o.data≠ .fields vs)->h'.get? b=some o)(kb: ∀b,B.get? b=none->B'.get? b=none): ∀{l:List Env},h.FunFrames B l->h'.FunFrames B' l
 | [],_=>trivial
 | _::_,⟨hk,⟨L,o,hf,hn,ho,hd⟩,hr⟩=>⟨hk,⟨L,o,hf,kb L hn,k L o hn ho hd,hd⟩,zDS k kb hr⟩
def zPI(X:Cx)(E:XK)(e:Value)(s':Shared):Prop:=
 ∃(ea:Addr) (cls a0:Value) (H':Hp) (B:Heap) (fl:Value),e= .ref ea/\s'.os=X.s₀.os/\AllBare s'.gens/\B.StaysIn s'.heap/\B.get? ea=none/\s'.heap.FunFrames B X.stack/\s'.heap.TracedAtW B ea cls a0 fl/\
  HOk X.prog X.w H' B/\FlyU X.fs X.H₀ H' X.s₀.heap B s'.heap/\E cls none H'
def zBf(X:Cx)(E:St->XK):Prop:=X.ex= [] /\X.stack=X.env::X.outer/\X.env.frame=some X.env.locals/\ ∀(σ:St) (e:Value) (s':Shared),X.Ok->zPI X (E σ) e s'->X.xe e s'
section
variable {P:Program}{w:World}{K:zQK}{mg:Str->Option Value}{base:Heap}{N:List Str}{qual:Str}{scope:Scope}{f:Addr}{cd:Value}{A:Around}{outer:List Env}{s₀:Shared}{H₀:Hp}{E:XK}
end
section
variable {X:Cx}{scope:Scope}{cl:List (Str×Addr)}{C:Addr}{N:List Str}{s2:Shared}{H2:Hp}{fp:List Addr}{pins pn:List (Addr×Obj)}{σ σ':St}{H:Hp}{s s':Shared}{e acc:Value}{E:St->XK}{Q:Value->Shared->Prop}
theorem zEV(hp:zBf X E)(I2:Inv X pins σ H2 s2)(f2: ∀b∈fp,@LE.le Nat _ X.s₀.heap.objs.size b)(hC: @LE.le Nat _ s2.heap.objs.size C)(I:Inv (X.comp scope cl C N s2 H2 fp) pn σ' H s)(h:Fly X.prog X.w X.stack H s (E σ) e s'):
  notedBy (model X.prog X.w) X.A (compEnvC scope cl C X.env) (fun e s=>compPost (model X.prog X.w) X.A X.xe none Q acc C (.error e) s) e s':=by
 obtain ⟨hex,hst,hfr,hp⟩:=hp;obtain ⟨ea,cls,a0,H',B,rfl,hos,hb,hfl,hok,U,q⟩:=h;show wpAny _ X.A (noteFrame (.ref ea) X.env) _ _ s';have hfl':=hfl;rw [hst] at hfl';refine wpAny_looks_onW (by rw [I2.ok.frames,hst]) hfr hfl' fun h4 x4 u4=>?_;rw [<-hst] at x4;obtain ⟨m,hn,_⟩:=I.loc;obtain ⟨oC,es,ep,hoC,hdC,rC⟩:=hn;have hCfs:C∉frs X.stack:=fun z=>by
  rcases List.mem_cons.mp (I2.stkSub C z) with y | y
  ·have:=I2.lt;have y': @Eq Nat C X.env.locals:=y;have this': @LT.lt Nat _ X.env.locals s2.heap.objs.size:=this;omega
  ·obtain ⟨_,o,ho,_⟩:=I2.ok.funs.mem y;have a1: @LT.lt Nat _ C X.s₀.heap.objs.size:=zx ho;have a2: @LE.le Nat _ X.s₀.heap.objs.size s2.heap.objs.size:=I2.sz;omega
 have hCH:H C=none:=I.free;have hCB:B.get? C=some oC:=U.keep C oC hoC hCH hCfs;obtain ⟨x41,x42,x43,oe,vs,T,oT,ts,he,hcls,hd,h1,hnT,hTe,hT,hdT,h3⟩:=x4;have neC: ∀b,B.get? b=none->b≠C:=fun b hb z=>by rw [z,hCB] at hb;cases hb
 have hC4:h4.get? C=some oC:=x41 C oC hCB;refine ⟨m,⟨oC,es,ep,hC4,hdC,rC⟩,fun h' sb cenv' _=>?_⟩;have kp: ∀b o,b≠C->h4.get? b=some o->h'.get? b=some o:=fun b o hb e=>(sb.2 b hb).trans e;have he':=kp ea oe (neC ea x42) he;have hT':=kp T oT (neC T hnT) hT;have hsz3:3<ts.size:=(Array.getElem?_eq_some_iff.mp h3).1;unfold PySem.passOn;refine zPW (wpAny_field he' hd h1 ?_);rw [if_neg (show¬((Value.ref T==Value.none)=true) from by simp)];unfold setFlight;refine zPW (zPW (wpAny_field he' hd h1 ?_));rw [if_pos (show (Value.ref T !=Value.none)=true from by simp)];refine wpAny_setField hT' hdT hsz3 (wpAny_throw ?_);have other: ∀b,b≠T->(h'.update T (Obj.mapFields (·.setIfInBounds 3 (cenv'.frame.elim Value.none fun f=>rawInt f)))).get? b=h'.get? b:=fun b hb=>Heap.get?_update_other _ _ (Ne.symm hb);have noT: ∀b o,B.get? b=some o->b≠T:=fun b o hb z=>by rw [z,hnT] at hb;cases hb
 have frT: ∀b o,h4.get? b=some o->(∀vs,o.data≠ .fields vs)->b≠T:=fun b o hb hnf z=>by
  rw [z,hT] at hb;injection hb with hb;subst hb;exact hnf ts hdT
 have hH'C:H' C=none:=U.free C oC hoC hCH;have exn: ∀b,b∉X.ex:=fun b=>by rw [hex];simp
 have hlt: ∀b o,X.s₀.heap.get? b=some o->b∉fp/\b≠C:=fun b o e=>by
  have a1: @LT.lt Nat _ b X.s₀.heap.objs.size:=zx e;have a2: @LE.le Nat _ X.s₀.heap.objs.size s2.heap.objs.size:=I2.sz;refine ⟨fun z=>?_,fun z=>?_⟩
  ·have:=f2 b z;omega
  ·have z': @Eq Nat b C:=z;omega
 have nst: ∀b o,X.s₀.heap.get? b=some o->b∉X.fs->b∉frs X.stack:=fun b o e hb z=>by
  rcases List.mem_cons.mp (I2.stkSub b z) with y | y
  ·exact zPd (zPe (zPf e) I2.ok.above) y
  ·exact hb y
 have st1: ∀b,b∈X.fs->b∈frs X.stack:=fun b hb=>by rw [hst];exact zKG hb
 refine hp σ _ _ I2.ok ⟨ea,cls,a0,H',PySem.W.hideAll B [C],_,rfl,?_,hb,fun b o hbo=>?_,?_,zDS (B:=B) (h:=h4) (fun b o hbn hbo hnf=>?_) (fun b hbn=>?_) x43,
  ⟨oe,vs,T,_,_,(other ea (Ne.symm hTe)).trans he',hcls,hd,h1,?_,hTe,Heap.get?_update_self _ hT' (Obj.isFreed_of_fields (Obj.data_mapFields hdT _)),Obj.data_mapFields hdT _,by simp [hsz3];rfl⟩,?_,⟨fun b o e n hbf=>?_,fun b o e n hbf=>?_,fun b o e hbf=>?_,fun b o e n=>?_,fun b xs e=>?_,fun b o u e=>?_,fun b ps e=>?_⟩,q⟩
 ·exact hos.trans (I.os.trans I2.os)
 ·have hne:b≠C:=fun z=>by rw [z,PySem.W.hideAll_none [C] (by simp)] at hbo;cases hbo
  have hB:=zQJ [C] hbo;rw [other b (noT b o hB)];exact kp b o hne (x41 b o hB)
 ·cases z:(PySem.W.hideAll B [C]).get? ea with
  | none=>rfl
  | some o=>have:=zQJ [C] z;rw [x42] at this;cases this
 ·rw [other b (frT b o hbo hnf)];exact kp b o (neC b hbn) hbo
 ·cases z:(PySem.W.hideAll B [C]).get? b with
  | none=>rfl
  | some o=>have:=zQJ [C] z;rw [hbn] at this;cases this
 ·cases z:(PySem.W.hideAll B [C]).get? T with
  | none=>rfl
  | some o=>have:=zQJ [C] z;rw [hnT] at this;cases this
 ·exact fun a o e=>(hok a o e).stay (fun b u hbb e1=>zQB _ e1 fun hm=>by
   have z:b=C:=by simpa using hm
   rcases hbb with y | y
   ·rw [<-y,z,hH'C] at e;cases e
   ·rw [z,hH'C] at y;cases y) (fun _ q=>q) fun _ _ q=>q
 ·obtain ⟨l1,l2⟩:=hlt b o e;have e1:=I2.base.keep b o e n hbf (exn b);have n1:=I2.base.free b o e n (exn b);have e2:=I.base.keep b o e1 n1 (nst b o e hbf) l1;have n2:=I.base.free b o e1 n1 l1;exact zQB _ (U.keep b o e2 n2 (nst b o e hbf)) (by simpa using l2)
 ·obtain ⟨l1,l2⟩:=hlt b o e;obtain ⟨sl1,e1⟩:=I2.base.slot b o e n hbf (exn b);have n1:=I2.base.free b o e n (exn b);obtain ⟨sl2,e2⟩:=I.base.slot b _ e1 n1 (st1 b hbf) l1;have n2:=I.base.free b _ e1 n1 l1;obtain ⟨sl3,e3⟩:=U.slot b _ e2 n2 (st1 b hbf);obtain ⟨_,o',e3',hd'⟩:=hfl.2.2.1.mem (st1 b hbf);rw [e3] at e3';cases e3';obtain ⟨sl4,e4⟩:=u4 b _ e3 hd';refine ⟨sl4,?_⟩;rw [other b (frT b _ e4 hd')];exact kp b _ l2 e4
 ·obtain ⟨l1,l2⟩:=hlt b o e;obtain ⟨o1,e1⟩:=I2.base.there b o e (exn b);obtain ⟨o2,e2⟩:=I.base.there b o1 e1 l1;obtain ⟨o3,e3⟩:=U.inB b o2 e2 (nst b o e hbf);exact ⟨o3,zQB _ e3 (by simpa using l2)⟩
 ·obtain ⟨l1,l2⟩:=hlt b o e;obtain ⟨o1,e1⟩:=I2.base.there b o e (exn b);obtain ⟨o2,e2⟩:=I.base.there b o1 e1 l1;exact U.free b o2 e2 (I.base.free b o1 e1 (I2.base.free b o e n (exn b)) l1)
 ·exact U.tups b xs (I.base.tups b xs (I2.base.tups b xs e))
 ·exact U.frzs b o u (I.base.frzs b o u (I2.base.frzs b o u e))
 ·obtain ⟨m1,e1⟩:=I2.base.tbls b ps e;obtain ⟨m2,e2⟩:=I.base.tbls b _ e1;obtain ⟨m3,e3⟩:=U.tbls b _ e2;exact ⟨m1++(m2++m3),by rw [e3,Array.append_assoc,Array.append_assoc]⟩
end
abbrev Cx.compX(X:Cx)(scope:Scope)(cl:List (Str×Addr))(C:Addr)(N:List Str)(s₂:Shared)(H₂:Hp)(fp:List Addr)(xe:Value->Shared->Prop):Cx:={X.comp scope cl C N s₂ H₂ fp with xe:=xe}
section
variable {X:Cx}{scope:Scope}{cl:List (Str×Addr)}{C:Addr}{N:List Str}{s₂:Shared}{H₂:Hp}{fp:List Addr}{xe:Value->Shared->Prop}{pins:List (Addr×Obj)}{σ:St}{H:Hp}{s:Shared}
theorem Inv.compX(I:Inv (X.comp scope cl C N s₂ H₂ fp) pins σ H s):Inv (X.compX scope cl C N s₂ H₂ fp xe) pins σ H s:=
 ⟨⟨I.ok.mod,I.ok.kind,I.ok.glob,I.ok.blt,I.ok.above,I.ok.inj,I.ok.has,I.ok.cab,I.ok.hd,I.ok.frames,I.ok.stk,I.ok.exf,I.ok.bs,I.ok.bsz,I.ok.noex,I.ok.exfs,I.ok.funs,I.ok.frf⟩,I.os,I.bare,I.base,I.loc,I.cell,I.free,I.freeC,I.pin,I.hok,I.len⟩
theorem Inv.comp(I:Inv (X.compX scope cl C N s₂ H₂ fp xe) pins σ H s):Inv (X.comp scope cl C N s₂ H₂ fp) pins σ H s:=
 ⟨⟨I.ok.mod,I.ok.kind,I.ok.glob,I.ok.blt,I.ok.above,I.ok.inj,I.ok.has,I.ok.cab,I.ok.hd,I.ok.frames,I.ok.stk,I.ok.exf,I.ok.bs,I.ok.bsz,I.ok.noex,I.ok.exfs,I.ok.funs,I.ok.frf⟩,I.os,I.bare,I.base,I.loc,I.cell,I.free,I.freeC,I.pin,I.hok,I.len⟩
end
theorem zDo{P:Program}{w:World}{A:Around}{R:Result->Shared->Prop}{s:Shared}{elt target iter:Expr}{ifs:List Expr}{scope:Scope}{pos:Pos}{it acc:Value}{env:Env}{E0:Value->Shared->Prop}(hE: ∀e s,E0 e s->notedBy (model P w) A env (fun e s=>R (.error e) s) e s)(J:Nat->Shared->Prop)
  (turn: ∀n s,J n s->wpAny (model P w) A (pyNext it) (fun r s1=>match r with
   | none=>R (.ok .next) s1
   | some v=>wpAny (model P w) A (letOwnedTupleGo target it v) (fun _ s1'=>wpAny (model P w) A (assign target env v) (fun _ s2=>wpAny (model P w) A (zAq ifs env) (fun ok s3=>
     if ok=true then wpAny (model P w) A (eval elt env) (fun x s4=>wpAny (model P w) A (call (.builtin "list.append") [acc,x]) (fun _ s5=> ∃m,m<n/\J m s5) (fun _ _=>False) s4) E0 s3
     else∃m,m<n/\J m s3) (fun _ _=>False) s2) (fun _ _=>False) s1') (fun _ _=>False) s1) (fun _ _=>False) s)
  (n:Nat) (h:J n s):codeAny (model P w) A (.compLoop (.ListComp elt [⟨target,iter,ifs,0⟩] scope pos) 0 it acc env) R s:=by
 refine codeAny_loop rfl J (fun n s hJ=>?_) n h;show wpAny _ A ((compTurn (.ListComp elt [⟨target,iter,ifs,0⟩] scope pos) 0 it acc env).onRaise _) _ _ s;refine wpAny_noted ?_;rw [compTurn_list];refine zPW (wpAny_standAt (zPW (zPq (yI (turn n s hJ)) (fun r s1 h1=>?_) fun _ _ z=>z)));cases r with
 | none=>exact zPb h1
 | some v=>
  refine zPW (zPq (yI h1) (fun _ s2 h3=>zPW (zPq (yI h3) (fun _ s3 h4=>zPW (zPq (yI h4) (fun ok s4 h5=>?_) fun _ _ z=>z)) fun _ _ z=>z)) fun _ _ z=>z);cases ok with
  | false=>exact zPb ⟨rfl,h5⟩
  | true=>exact zPW (zPW (zPq h5 (fun x s5 h6=>zPW (zPq (yI h6) (fun _ s6 h7=>zPb (zPb ⟨rfl,h7⟩)) fun _ _ z=>z)) hE))
def zJY(wi:TI)(g:TG)(tt:TT)(te:(St->XK)->TE)(n:Nat)(fr:List Nat)(E:St->XK):TE:=fun σ H Q=>zBu wi g tt (te fun _=>E σ) n fr σ H Q
def zHg(wi:TI)(g:TG)(tt:TT)(te:(St->XK)->TE)(n:Nat)(fr:List Nat)(E:St->XK):TE:=fun σ H Q=>zGS wi g tt (te fun _=>E σ) n fr σ H Q
theorem fr2{Pp:Str->Nat->Prop}{y z:Str}{i k:Nat}(h:Pp y i)(h':Pp z k): ∀(j:Nat) (y':Str) (i':Nat),[y,z][j]?=some y'-> [i,k][j]?=some i'->Pp y' i':=by
 intro j y' i' h1 h2
 match j with
 | 0=>cases h1;cases h2;exact h
 | 1=>cases h1;cases h2;exact h'
 | j+2=>simp at h1
theorem fr3{Pp:Str->Nat->Prop}{y z x:Str}{i k m:Nat}(h:Pp y i)(h':Pp z k)(h'':Pp x m): ∀(j:Nat) (y':Str) (i':Nat),[y,z,x][j]?=some y'-> [i,k,m][j]?=some i'->Pp y' i':=by
 intro j y' i' h1 h2
 match j with
 | 0=>cases h1;cases h2;exact h
 | 1=>cases h1;cases h2;exact h'
 | 2=>cases h1;cases h2;exact h''
 | j+3=>simp at h1
theorem zKE{X:Cx}{i0:Nat}{x:Str}{pos' spos:Pos}{elt iter tg:Expr}{ifs:List Expr}{zs:List Str}{pos:Pos}{scope:Scope}{cl:List (Str×Addr)}{ys:List Str}{fr:List Nat}{wi:TI}{g:TG}{tt:TT}{te:(St->XK)->TE}{E:St->XK}(hcm:X.calm=true)(hp:zBf X E)(hN:X.N.Nodup)(hi0:X.N[i0]?=some x)(hx0:Loc X.env.scope x)(hf0:X.fn x=true\/X.env.scope.names.lookup x=some .local)
  (hsw:swapsWith (.ListComp elt [⟨tg,iter,ifs,0⟩] scope pos) (some (.Name x pos')) spos.line X.env=pure true)
  (hi:PI X tg iter wi) (hclos:closureFor scope X.env=pure cl) (hcell: ∀y∈scope.names,y.2≠ .cell) (hkind:scope.kind= .function) (hnames: ∀y∈scope.names,y.2= .local->scope.names.lookup y.1=some .local)
  (hcl: ∀y a,cl.lookup y=some a->X.env.cells.lookup y=some a)
  (hlen:ys.length=fr.length) (hfr: ∀(j:Nat) y i,ys[j]?=some y->fr[j]?=some i->X.N[i]?=some y/\X.env.kindOf y=some .cell/\(relabel scope X.env).names.lookup y=some .cell/\ ∃a,cl.lookup y=some a/\X.env.cells.lookup y=some a)
  (hhas: ∀y,((relabel scope X.env).names.lookup y=some .cell\/(relabel scope X.env).names.lookup y=some .free)-> ∃a,cl.lookup y=some a)
  (hg: ∀C s₂ H₂ fp,PG (X.comp scope cl C (zs++ys) s₂ H₂ fp) tg g) (hc: ∀C s₂ H₂ fp,PTs (X.comp scope cl C (zs++ys) s₂ H₂ fp) ifs tt) (he: ∀C s₂ H₂ fp xe E',zDW (Fly X.prog X.w) (X.compX scope cl C (zs++ys) s₂ H₂ fp xe) E'->PE (X.compX scope cl C (zs++ys) s₂ H₂ fp xe) elt (te E')) (hs: ∀v,foldedSetIterable iter X.env v=pure v:=by intro _;rfl):
  PS X (.Assign [.Name x pos'] (.ListComp elt [⟨tg,iter,ifs,0⟩] scope pos) spos) (zCg (zJY wi g tt te zs.length fr E) (yR i0)):=by
 intro pins s σ H Dn I h;change zBu wi g tt (te fun _=>E σ) zs.length fr σ H (fun v H1=>yR i0 v σ H1 Dn.nx) at h;rw [exec_Assign_Name_used _ _ _ _ hsw];refine zPW (wpAny_standAt (zPW ?_));show wpAny _ X.A (do let _<-comprehension (.ListComp elt [⟨tg,iter,ifs,0⟩] scope pos) scope X.env _ (newList []) false (eval iter X.env) (some (assign (.Name x pos') X.env))) _ _ s;refine zPW (zPq (wpAny_comprehension_free (use:=some (assign (.Name x pos') X.env)) (Q:=fun _ s'=>SP X pins Dn .next s') rfl hs hclos hkind hnames (zd (hi pins s σ H _ I h) fun v s1 h1=>zd h1 fun itv s2 h2=>?_)) (fun _ s' hq=>zPb (zPb hq)) fun _ _ e=>e);obtain ⟨it,fp,tn,J,H2,e,I2,T,st2,f2,h2⟩:=h2;subst e;have hD:H2 s2.heap.objs.size=none:=I2.hok.fresh (zPZ _);obtain ⟨W,⟨m0,w0⟩,turn⟩:=h2 s2.heap.objs.size hD;refine wpAny_newObj_type (wpAny_newFunctionEnv hcell (by intro y hy;simp at hy) (fun h₁ hns₁ hsb₁=>?_) hkind);dsimp only at hns₁ hsb₁⊢;generalize hH3:s2.heap.push {cls:= .type "list",dict:=none,data:= .seq ([] :List Value).toArray}=H3 at hns₁ hsb₁⊢;have hCs:H3.objs.size=s2.heap.objs.size+1:=by rw [<-hH3,Heap.size_push]
 have old: ∀b o,s2.heap.get? b=some o->h₁.get? b=some o:=fun b o e=>
  hsb₁.extBut b o (zPd (by have:=zx e;omega)) (zPX _ (hH3▸zPX _ e))
 have hacc:h₁.get? s2.heap.objs.size=some {cls:= .type "list",dict:=none,data:= .seq ([] :List Value).toArray}:=
  hsb₁.extBut _ _ (zPd (by omega)) (zPX _ (hH3▸zPo _ rfl))
 have fplt: ∀b∈fp,@LT.lt Nat _ b s2.heap.objs.size:=fun b hb=>by
  obtain ⟨o,e,_⟩:=T.obj _ _ st2 b hb;exact zx e
 have okC:(X.comp scope cl H3.objs.size (zs++ys) s2 H2 fp).Ok:=by
  refine ⟨I2.ok.mod,hkind,I2.ok.glob,I2.ok.blt,?_,fun y z a h1 h2=>I2.ok.inj y z a (hcl y a h1) (hcl z a h2),fun y hy=>hhas y hy,fun y a z _=>(nomatch z),I2.ok.hd,I2.ok.frames,.inl rfl,fun b hb=>⟨?_,fun y a e z=>?_⟩,I2.bs,zPj I2.ok.bsz I2.sz,fun b o e hb=>?_,fun b hb z=>?_,I2.stack,I2.stkFree⟩
  ·show s2.heap.objs.size<=H3.objs.size;omega
  ·show b≠H3.objs.size;have:=fplt b hb;exact zPd (by omega)
  ·exact (f2 b hb).2.2.2.2.1 y a (hcl y a e) z
  ·rcases (f2 b hb).2.2.2.1 with z | z
   ·exact I2.ok.noex b o e z
   ·have z': @LE.le Nat _ X.s₀.heap.objs.size b:=z;have: @LT.lt Nat _ b X.base.objs.size:=zx e;have:=I2.ok.bsz;omega
  ·rcases List.mem_cons.mp (I2.stkSub b z) with y | y
   ·exact (f2 b hb).2.1 y
   ·exact (f2 b hb).2.2.1 y
 have fpok: ∀{H':Hp},(∀b∈fp,H' b=none)-> ∀b∈fp,zAo (X.comp scope cl H3.objs.size (zs++ys) s2 H2 fp) [] H' b:=fun hn b hb=>
  ⟨hn b hb,(okC.exf b hb).1,okC.exfs b hb,.inl hb,(okC.exf b hb).2,fun p hp=>absurd hp (by simp)⟩
 have cellC: ∀y a,cl.lookup y=some a-> ∃v,s2.heap.IsCell a v:=fun y a e=>I2.cell y a (hcl y a e);have start:Inv (X.comp scope cl H3.objs.size (zs++ys) s2 H2 fp) [] (List.replicate zs.length none++zX fr σ) (upd H2 s2.heap.objs.size (.lst [])) {s2 with heap:=h₁,toks:=s2.toks+([] :List (Str×Value)).length}:=by
  refine ⟨okC,rfl,I2.bare,Un.laid old (zPZ _) hD,⟨_,hns₁,fun j y v e1 e2 e3=>?_⟩,fun y a e=>?_,?_,fun y a e=>?_,fun p hp=>absurd hp (by simp),I2.hok.laid old (zPZ _) ⟨zPk _,[],_,.nil,hacc⟩,?_⟩
  ·by_cases hj:j<zs.length
   ·rw [List.getElem?_append_left (by simpa using hj),List.getElem?_replicate] at e2;rw [if_pos hj] at e2;cases e2
   ·obtain ⟨j,rfl⟩: ∃k,j=zs.length+k:=⟨j - zs.length,by omega⟩;have e1':ys[j]?=some y:=by
     have z:=e1;simp only [Cx.comp] at z;rw [List.getElem?_append_right (by omega)] at z;simpa using z
    have e2':(zX fr σ)[j]?=some (some v):=by
     rw [List.getElem?_append_right (by simp)] at e2;simpa using e2
    unfold zX at e2';rw [zPa] at e2';cases q:fr[j]? with
    | none=>rw [q] at e2';cases e2'
    | some i=>
     rw [q] at e2';have e4:(σ[i]?).getD none=some v:=Option.some.inj e2';have e5:σ[i]?=some (some v):=by
      cases q2:σ[i]? with
      | none=>rw [q2] at e4;cases e4
      | some z=>rw [q2] at e4;exact congrArg some e4
     obtain ⟨hN,hk,hl,a,ha,ha'⟩:=hfr j y i e1' q;obtain ⟨m,_,hl2⟩:=I2.loc;obtain ⟨u,r,l⟩:=hl2 i y v hN e5 (.inr (.inl hk));refine ⟨u,r,.inr ⟨.inl hl,a,ha,?_⟩⟩;rcases l with ⟨k,_⟩|⟨_,a2,ea,z⟩
     ·rw [hk] at k;cases k
     ·rw [ha'] at ea;cases ea;obtain ⟨o,ho,hd⟩:=z;exact ⟨o,old _ _ ho,hd⟩
  ·obtain ⟨v,o,ho,hd⟩:=cellC y a e;exact ⟨v,o,old _ _ ho,hd⟩
  ·show upd H2 s2.heap.objs.size (.lst []) H3.objs.size=none;rw [zH (by first | exact zPd (by omega)| exact zQE (by omega))];exact I2.hok.fresh (by omega)
  ·obtain ⟨v,o,ho,hd⟩:=cellC y a e;have:=zx ho;rw [zH (by first | exact zPd (by omega)| exact zQE (by omega))];exact I2.freeC y a (hcl y a e)
  ·show (List.replicate zs.length none++zX fr σ).length=(zs++ys).length;unfold zX;simp [hlen]
 have loop: ∀s₃:Shared,s₃={s2 with heap:=h₁,toks:=s2.toks+([] :List (Str×Value)).length}->
   codeAny (model X.prog X.w) X.A (.compLoop (.ListComp elt [⟨tg,iter,ifs,0⟩] scope pos) 0 (.ref it) (.ref s2.heap.objs.size) (compEnvC scope cl H3.objs.size X.env)) (compPost (model X.prog X.w) X.A X.xe (some (assign (.Name x pos') X.env)) (fun _ s'=>SP X pins Dn .next s') (.ref s2.heap.objs.size) H3.objs.size) s₃:=by
  rintro s₃ rfl;have flown: ∀e s',(∃pn σ' Hx sx,Inv (X.comp scope cl H3.objs.size (zs++ys) s2 H2 fp) pn σ' Hx sx/\Fly X.prog X.w X.stack Hx sx (E σ) e s')->notedBy (model X.prog X.w) X.A (compEnvC scope cl H3.objs.size X.env) (fun e s=>compPost (model X.prog X.w) X.A X.xe (some (assign (.Name x pos') X.env)) (fun _ s'=>SP X pins Dn .next s') (.ref s2.heap.objs.size) H3.objs.size (.error e) s) e s':=by
   rintro e s' ⟨pn,σ',Hx,sx,Ix,hx⟩;refine zEV (Q:=fun _ s'=>SP X pins Dn .next s') (acc:= .ref s2.heap.objs.size) hp I2 (fun b hb=>?_) (by omega) Ix hx;rcases (f2 b hb).2.2.2.1 with z | z
   ·rw [hp.1] at z;cases z
   ·exact z
  refine zDo (E0:=fun e s'=> ∃pn σ' Hx sx,Inv (X.comp scope cl H3.objs.size (zs++ys) s2 H2 fp) pn σ' Hx sx/\Fly X.prog X.w X.stack Hx sx (E σ) e s') flown (fun n s'=> ∃i pre ys' H',pre.length=zs.length/\Inv (X.comp scope cl H3.objs.size (zs++ys) s2 H2 fp) [] (pre++zX fr σ) H' s'/\tn i s'.heap/\(∀b∈fp,H' b=none)/\W i n ys' H') ?_ m0
   ⟨0,List.replicate zs.length none,[],_,by simp,start,T.keep _ _ _ st2 fun b hb o e=>old b o e,fun b hb=>by
    have:=fplt b hb;rw [zH (by first | exact zPd (by omega)| exact zQE (by omega))];exact (f2 b hb).1,w0⟩
  rintro n s3 ⟨i,pre,ys3,H',hpl,I3,st3,fr3,w3⟩;obtain ⟨hl3,alt⟩:=turn i n ys3 H' w3;rcases alt with ⟨stop,qn⟩|⟨go,hz,N,hN,step⟩
  ·refine zPq (T.done (X.comp scope cl H3.objs.size (zs++ys) s2 H2 fp) rfl rfl rfl hcm i [] s3 _ H' (fun _ _=>False) I3 (fpok fr3) st3 stop) (fun r s4 h4=>?_) fun _ _ z=>z.elim;obtain ⟨hr,I4⟩:=h4;subst hr;obtain ⟨m4,hn4,_⟩:=id I4.loc;have back: ∀h'',Heap.SameBut H3.objs.size s4.heap h''->Inv X pins σ H' {s4 with heap:=h''}:=by
    intro h'' hs'';have hb: ∀b o,b≠H3.objs.size->s4.heap.get? b=some o->h''.get? b=some o:=fun b o hb e=>(hs''.2 b hb).trans e;refine I2.call' (s':={s4 with heap:=h''}) (ch:=fp) I4.os ⟨fun b o e n hb' hx'=>?_,fun b o e n hb' hx'=>?_,fun b o e n hx'=>I4.base.free b o e n hx',fun b o e hx'=>?_,I4.base.tups,I4.base.frzs,I4.base.tbls⟩ (fun b u e=>?_) I4.bare fun b hb'=>⟨(f2 b hb').2.2.2.1,(f2 b hb').2.1,(f2 b hb').2.2.2.2.1,(f2 b hb').2.2.2.2.2⟩
    ·exact hb b o (zPd (by have:=zx e;omega)) (I4.base.keep b o e n hb' hx')
    ·obtain ⟨sl,q⟩:=I4.base.slot b o e n hb' hx';exact ⟨sl,hb b _ (zPd (by have:=zx e;omega)) q⟩
    ·obtain ⟨o',q⟩:=I4.base.there b o e hx';exact ⟨o',hb b _ (zPd (by have:=zx e;omega)) q⟩
    ·refine (I4.hok b u e).stay (fun c' w' hc' q=>hb c' w' ?_ q) (fun _ q=>q) fun _ _ q=>q;intro z;have fz:H' H3.objs.size=none:=I4.free;rcases hc' with y | y
     ·rw [<-y,z,fz] at e;cases e
     ·rw [z,fz] at y;cases y
   have I5:Inv X pins σ H' s4:=back s4.heap (Heap.SameBut.refl _ _);have hCs2: @LE.le Nat _ s2.heap.objs.size H3.objs.size:=by omega
   have fz:H' H3.objs.size=none:=I4.free;have cneL:H3.objs.size≠X.env.locals:=fun z=>by
    have z1: @LT.lt Nat _ X.env.locals s2.heap.objs.size:=I2.lt;have z': @Eq Nat H3.objs.size X.env.locals:=z;omega
   have cneC: ∀y c,X.env.cells.lookup y=some c->c≠H3.objs.size:=fun y c e z=>by
    obtain ⟨v,o,ho,_⟩:=I2.cell y c e;have z1:=zx ho;have z': @Eq Nat c H3.objs.size:=z;omega
   show wpAny _ X.A (assign (.Name x pos') X.env (.ref s2.heap.objs.size)) _ _ s4;refine wpAny_assign_Name (zDI I5 hN hi0 hx0 (v:= .ref s2.heap.objs.size) rfl (fun s5 I6 ⟨a,sba,ha⟩=>?_) hf0);have nea:H3.objs.size≠a:=by
    rcases ha with z | z
    ·rw [z];exact cneL
    ·exact fun y=>cneC x a z y.symm
   obtain ⟨oC,es,ep,hoC,rC⟩:=hn4;refine ⟨m4,⟨oC,es,ep,(sba.2 _ nea).trans hoC,rC⟩,fun h'' hs''=>?_⟩;have hb: ∀b o,b≠H3.objs.size->s5.heap.get? b=some o->h''.get? b=some o:=fun b o hb e=>(hs''.2 b hb).trans e;have neb: ∀b:Addr,b∉ [H3.objs.size] ->b≠H3.objs.size:=fun b hb z=>hb (by simp [z]);have I7:Inv X pins (σ.set i0 (some (.ref s2.heap.objs.size))) H' {s5 with heap:=h''}:=by
    refine I6.call' (s':={s5 with heap:=h''}) (ch:= [H3.objs.size]) rfl ⟨fun b o e n hb' hx'=>hb b o (neb b hx') e,fun b o e n hb' hx'=>⟨o.slots,hb b o (neb b hx') e⟩,fun b o e n hx'=>n,fun b o e hx'=>⟨o,hb b o (neb b hx') e⟩,fun b xs e=>e,fun b o u e=>e,fun b ps e=>⟨#[],by simpa using e⟩⟩ (fun b u e=>?_) I6.bare fun b hb'=>?_
    ·refine (I6.hok b u e).stay (fun c' w' hc' q=>hb c' w' ?_ q) (fun _ q=>q) fun _ _ q=>q;intro z;rcases hc' with y | y
     ·rw [<-y,z,fz] at e;cases e
     ·rw [z,fz] at y;cases y
    ·have eb:b=H3.objs.size:=by simpa using hb'
     subst eb;refine ⟨.inr ?_,cneL,cneC,fun p hp z=>?_⟩
     ·have z1: @LE.le Nat _ X.s₀.heap.objs.size s2.heap.objs.size:=I2.sz;show @LE.le Nat _ X.s₀.heap.objs.size H3.objs.size;omega
     ·have z1:=zx (I2.pin p hp).1;have z': @Eq Nat p.1 H3.objs.size:=z;omega
   exact ⟨_,H',I7,qn⟩
  ·refine zPq (T.item (X.comp scope cl H3.objs.size (zs++ys) s2 H2 fp) rfl rfl rfl hcm i [] s3 _ H' (fun _ _=>False) I3 (fpok fr3) st3 go) (fun r s4 h4=>?_) fun _ _ z=>z.elim;obtain ⟨u,hr,h4⟩:=h4;subst hr;dsimp only;have asg:wpAny (model X.prog X.w) X.A (letOwnedTupleGo tg (.ref it) u) (fun _ s5=>wpAny (model X.prog X.w) X.A (assign tg (compEnvC scope cl H3.objs.size X.env) u)
     (fun _ s6=> ∃σ5 H6,(∃pn5,Inv (X.comp scope cl H3.objs.size (zs++ys) s2 H2 fp) pn5 σ5 H6 s6/\(∀b∈fp,∃o,(b,o)∈pn5))/\((∃zh:St,zh.length=zs.length/\σ5=zh++zX fr σ)/\
      tt σ5 H6 fun b H3'=>if b=true then te (fun _=>E σ) σ5 H3' fun y H4=>H4 s2.heap.objs.size=some (.lst ys3)/\N (ys3++ [y]) (upd H4 s2.heap.objs.size (.lst (ys3++ [y]))) else N ys3 H3')/\tn (i+1) s6.heap/\ ∀b∈fp,H6 b=none) (fun _ _=>False) s5) (fun _ _=>False) s4:=by
    refine (zd h4 fun _ s5 ⟨x5,H5,I5,r5,y5,st5,fr5⟩=>?_);have I5':=I5.pinned (fpok fr5) (T.obj _ _ st5);refine zPq (hg _ _ _ _ _ s5 _ H5 x5 u _ I5' r5 (step x5 H5 y5 pre hpl)) (fun _ s6 ⟨σ6,H6,I6,q6⟩=>?_) fun _ _ z=>z.elim;exact ⟨σ6,H6,⟨_,I6,fun b hb=>by
     obtain ⟨o,e,_⟩:=T.obj _ _ st5 b hb;exact ⟨o,zPl _ (yC hb e)⟩⟩,q6,T.keep _ _ _ st5 fun b hb o e=>(I6.pin (b,o) (zPl _ (zPl _ (yC hb e)))).1,fun b hb=>by
     obtain ⟨o,e,_⟩:=T.obj _ _ st5 b hb;exact (I6.pin (b,o) (zPl _ (zPl _ (yC hb e)))).2.1⟩
   refine zPq asg (fun _ s5 h5=>zPq h5 (fun _ s6 h6=>?_) fun _ _ z=>z.elim) fun _ _ z=>z.elim;obtain ⟨σ5,H5,⟨pn5,I6,hp6⟩,⟨⟨zh,hl2,rfl⟩,q6⟩,st6,fr5⟩:=h6;have keepTurn: ∀{σ7:St} {H7:Hp} {s7:Shared},Inv (X.comp scope cl H3.objs.size (zs++ys) s2 H2 fp) pn5 σ7 H7 s7->tn (i+1) s7.heap/\ ∀b∈fp,H7 b=none:=fun {σ7 H7 s7} I7=>by
    refine ⟨T.keep _ _ _ st6 fun b hb o e=>?_,fun b hb=>?_⟩
    ·obtain ⟨o',hm⟩:=hp6 b hb;have a1:=(I6.pin (b,o') (zPl _ hm)).1;rw [e] at a1;cases a1;exact (I7.pin (b,_) (zPl _ hm)).1
    ·obtain ⟨o',hm⟩:=hp6 b hb;exact (I7.pin (b,o') (zPl _ hm)).2.1
   have drop: ∀{σ7:St} {H7:Hp} {s7:Shared},Inv (X.comp scope cl H3.objs.size (zs++ys) s2 H2 fp) pn5 σ7 H7 s7->Inv (X.comp scope cl H3.objs.size (zs++ys) s2 H2 fp) [] σ7 H7 s7:=fun I7=>I7.pins_of fun p hp=>absurd hp (by simp);have tests:wpAny (model X.prog X.w) X.A (zAq ifs (compEnvC scope cl H3.objs.size X.env)) (fun b s7=> ∃H7,Inv (X.comp scope cl H3.objs.size (zs++ys) s2 H2 fp) pn5 (zh++zX fr σ) H7 s7/\
     (if b=true then te (fun _=>E σ) (zh++zX fr σ) H7 fun y H4=>H4 s2.heap.objs.size=some (.lst ys3)/\N (ys3++ [y]) (upd H4 s2.heap.objs.size (.lst (ys3++ [y]))) else N ys3 H7)) (fun _ _=>False) s6:=by
    rcases hc H3.objs.size s2 H2 fp with ⟨rfl,rfl⟩|⟨c,rfl,hc2⟩
    ·exact wpAny_tests_nil ⟨H5,I6,q6⟩
    ·exact wpAny_tests_one (zPq (hc2 pn5 s6 _ H5 _ I6 q6) (fun b s7 ⟨H7,I7,q7⟩=>⟨H7,I7,q7⟩) fun _ _ z=>z.elim)
   refine zPq tests (fun b s7 h7=>?_) fun _ _ z=>z.elim;obtain ⟨H7,I7,q7⟩:=h7;cases b with
   | false=>
    obtain ⟨m',hm,w'⟩:=hN _ _ q7;obtain ⟨k1,k2⟩:=keepTurn I7;exact ⟨m',hm,i+1,zh,ys3,H7,hl2,drop I7,k1,k2,w'⟩
   | true=>
    refine zPq (he _ _ _ _ (fun e s'=> ∃pn σ' Hx sx,Inv (X.comp scope cl H3.objs.size (zs++ys) s2 H2 fp) pn σ' Hx sx/\Fly X.prog X.w X.stack Hx sx (E σ) e s') (fun _=>E σ) (fun pn σ' Hx sx e s' Ix hx=>⟨pn,σ',Hx,sx,Ix.comp,hx⟩) pn5 s7 _ H7 _ I7.compX q7) (fun y s8 h8=>?_) fun _ _ z=>z;obtain ⟨yv,H8,I8',r8,hl8,n8⟩:=h8;have I8:=I8'.comp;refine zPq (zBU (X:=X.comp scope cl H3.objs.size (zs++ys) s2 H2 fp) pn5 s8 _ H8 (.ref s2.heap.objs.size) [yv] (.ref s2.heap.objs.size) [y] (fun z H9=>N (ys3++ [yv]) H9) I8 rfl (.cons r8 .nil) ⟨s2.heap.objs.size,ys3,yv,rfl,rfl,hl8,hz,n8⟩) (fun _ s9 h9=>?_) fun _ _ z=>z.elim;obtain ⟨_,H9,I9,_,n9⟩:=h9;obtain ⟨m',hm,w'⟩:=hN _ _ n9;obtain ⟨k1,k2⟩:=keepTurn I9;exact ⟨m',hm,i+1,zh,ys3++ [yv],H9,hl2,drop I9,k1,k2,w'⟩
 exact codeAny_compStart_list (loop _ rfl) (T.self X.A 0 _ _ _ (T.keep _ _ _ st2 fun b hb o e=>old b o e) (loop _ rfl))
theorem zAe{X:Cx}{x:Str}{pos' spos:Pos}{elt iter tg:Expr}{ifs:List Expr}{E:St->XK}(hp:zBf X E)(i0:Nat)(hN:X.N.Nodup)(hi0:X.N[i0]?=some x)(hx0:Loc X.env.scope x)(hf0:X.fn x=true\/X.env.scope.names.lookup x=some .local)
  (zs:List Str) {pos:Pos} {scope:Scope} {cl:List (Str×Addr)} (ys:List Str) (fr:List Nat) {wi:TI} {g:TG} {tt:TT} {te:(St->XK)->TE} (hcm:X.calm=true)
  (hi:QI X tg iter wi) (hclos:closureFor scope X.env=pure cl) (hcell: ∀y∈scope.names,y.2≠ .cell) (hkind:scope.kind= .function) (hnames: ∀y∈scope.names,y.2= .local->scope.names.lookup y.1=some .local)
  (hcl: ∀y a,cl.lookup y=some a->X.env.cells.lookup y=some a)
  (hlen:ys.length=fr.length) (hfr: ∀(j:Nat) y i,ys[j]?=some y->fr[j]?=some i->X.N[i]?=some y/\X.env.kindOf y=some .cell/\(relabel scope X.env).names.lookup y=some .cell/\ ∃a,cl.lookup y=some a/\X.env.cells.lookup y=some a)
  (hhas: ∀y,((relabel scope X.env).names.lookup y=some .cell\/(relabel scope X.env).names.lookup y=some .free)-> ∃a,cl.lookup y=some a)
  (hg: ∀C s₂ H₂ fp,QG (X.comp scope cl C (zs++ys) s₂ H₂ fp) tg g) (hc: ∀C s₂ H₂ fp,QTs (X.comp scope cl C (zs++ys) s₂ H₂ fp) ifs tt) (he: ∀C s₂ H₂ fp xe E',zDW (Fly X.prog X.w) (X.compX scope cl C (zs++ys) s₂ H₂ fp xe) E'->QE (X.compX scope cl C (zs++ys) s₂ H₂ fp xe) elt (te E')) (hs: ∀v,foldedSetIterable iter X.env v=pure v)
  (hsw:swapsWith (.ListComp elt [⟨tg,iter,ifs,0⟩] scope pos) (some (.Name x pos')) spos.line X.env=pure true):
  QS X (.Assign [.Name x pos'] (.ListComp elt [⟨tg,iter,ifs,0⟩] scope pos) spos) (zCg (zHg wi g tt te zs.length fr E) (yR i0)):=
 ⟨fun pins s σ H D I h=>zKE hcm hp hN hi0 hx0 hf0 hsw (zEr hi).out hclos hcell hkind hnames hcl hlen hfr hhas (fun C s H f=>(hg C s H f).out) (fun C s H f=>(hc C s H f).out) (fun C s H f xe E' hx=>(he C s H f xe E' hx).out) hs pins s σ H D I ⟨_,h,fun J H1 h1 D' hD=>by
  obtain ⟨len,Pv,a0,a1,a2,a3,a4⟩:=(h1 D' hD).ex;exact zCe (Q:=fun v H1=>yR i0 v σ H1 D.nx) D' len Pv a0 a1 a2 a3 a4⟩⟩
section
variable {cells:List (Str×Addr)}
theorem zN{k:Str}{a:Addr}{l:List (Str×Addr)}(h:cells.lookup k=some a)(t: ∀y b,l.lookup y=some b->cells.lookup y=some b): ∀y b,((k,a)::l).lookup y=some b->cells.lookup y=some b:=by
 intro y b e;rw [List.lookup_cons] at e;cases q:(y==k) with
 | true=>
  rw [q] at e;have:y=k:=by simpa using q
  subst this;rw [h];exact e
 | false=>rw [q] at e;exact t y b e
theorem yb: ∀(y:Str) (b:Addr),([] :List (Str×Addr)).lookup y=some b->cells.lookup y=some b:=fun _ _ h=>nomatch h
end
section
variable {X:Cx}{P:Program}{w:World}
end
end L2
namespace PySem
open PySem.Spec PyProof PyProof.Rows
end PySem
namespace L2
open PySem PySem.Spec PyProof.Rows
section
variable {X:Cx}{K:zQK}{o e:Expr}{to te:TE}{apos cpos:Pos}
theorem zJi(bs:List Bool):(List.range bs.length).any (fun i=>bs.getD i false)=bs.any id:=by
 rw [Bool.eq_iff_iff,List.any_eq_true,List.any_eq_true];constructor
 ·rintro ⟨i,hi,h⟩;have hi':i<bs.length:=by simpa using hi
  rw [List.getD_eq_getElem?_getD,zPV hi'] at h;exact ⟨bs[i],zQA hi',h⟩
 ·rintro ⟨b,hb,h⟩;obtain ⟨i,hi,rfl⟩:=List.mem_iff_getElem.mp hb;exact ⟨i,by simpa using hi,by rw [List.getD_eq_getElem?_getD,zPV hi];exact h⟩
theorem zKu(hc:X.calm=true):yc X (.builtin "any") (fun xs H Q=> ∃(a:Addr) (bs:List Bool),xs= [.ref a] /\SqL X.K H a (bs.map V.bl)/\Q (.bl (bs.any id)) H):=by
 intro pins s σ H xs us Q I r h;obtain ⟨a,bs,rfl,hq,q⟩:=h;obtain ⟨u,rfl,ru⟩:=zBR r;cases ru;obtain ⟨its,rv,p,hz⟩:=I.list hq;have e:=zEx rv;subst e;have hlt:a<s.heap.objs.size:=by
  obtain ⟨o,ho,_⟩:=p.isList;exact zPf ho
 refine call_any_walk (wpAny_pyIter_list p.isList ⟨s.heap.objs.size,_,_,_,_,_,fun i=>bs.getD i false,rfl,Walks.list (show X.A.in1.handled=none from I.ok.hd hc) s.heap.objs.size a (zPd hlt) (bs.map Value.bool).toArray,
  ⟨⟨_,zPo _ rfl,rfl,rfl⟩,p.isList.at fun o z=>zPX _ z⟩,fun i v s' Q' E' hP hQ=>?_,fun h' tk hk=>?_⟩)
 ·have e:v= .bool (bs.getD i false):=by
   have hP':((bs.map Value.bool).toArray)[i]?=some v:=hP;rw [List.getElem?_toArray,zPa] at hP';cases q2:bs[i]? with
   | none=>rw [q2] at hP';cases hP'
   | some b=>
    rw [q2] at hP';rw [List.getD_eq_getElem?_getD,q2];exact (Option.some.inj hP').symm
  subst e;exact zPb hQ
 ·have ez:((bs.map Value.bool).toArray).size=bs.length:=by simp
  refine ⟨.bl (bs.any id),H,?_,?_,q⟩
  ·refine I.kept fun b o z=>hk b o (fun y=>?_) (zPX _ z);have y':b=s.heap.objs.size:=by simpa using y
   exact absurd (y'▸zPf z) (Nat.lt_irrefl _)
  ·show Value.bool _=Value.bool _;rw [ez,zJi]
theorem zIw(hK:X.K=K)(hc:X.calm=true):yc X (.builtin "any") (fun xs H Q=> ∃(a:Addr) (bs:List Bool),xs= [.ref a] /\SqL K H a (bs.map V.bl)/\Q (.bl (bs.any id)) H):=by
 subst hK;exact zKu hc
end
end L2
namespace Fr
open PySem PySem.Spec PyProof.Rows L2
theorem yn{P:Program}{w:World}{K:zQK}{mg:Str->Option Value}{base:Heap}{CX:CXT}{N:List Str}{qual:Str}{scope:Scope}{f:Addr}{cd:Value}{A:Around}{outer:List Env}{s₀:Shared}{H₀:Hp}{E:XK}:
  zBf (zAi CX P w K mg base N qual scope f cd A outer s₀ H₀ E).nox (fun _ _ _ _=>False):=
 ⟨rfl,rfl,rfl,fun σ e s' ok h=>by obtain ⟨_,_,_,_,_,_,_,_,_,_,_,_,_,_,_,q⟩:=h;exact q.elim⟩
end Fr
namespace L2
open PySem PySem.Spec PyProof.Rows
section
variable {P:Program}{w:World}{K:zQK}{mg:Str->Option Value}{base:Heap}{N:List Str}{qual:Str}{scope:Scope}{f:Addr}{cd:Value}{A:Around}{outer:List Env}{s₀:Shared}{H₀:Hp}{E:XK}
end
end L2
namespace PySem
open PySem.Spec
section
variable {M:Model}{A:Around}{E:Value->Shared->Prop}{env:Env}{nm q:Str}{C N:Addr}{bs bm:List Value}{hdct:Bool}{sn:List Str}{sub:List Value}{ab:Bool}{col:Option Bool}{dd:Option Addr}{k0 k1 k2 k3 k5:Option Value}{newId:String}
end
end PySem
namespace L2
open PySem PySem.Spec PyProof.Rows
section
variable {P:Program}{w:World}{K:zQK}{mg:Str->Option Value}{base:Heap}{N:List Str}{qual:Str}{scope:Scope}{f C:Addr}{cd:Value}{A:Around}{outer:List Env}{s₀:Shared}{H₀:Hp}{E:XK}
end
section
variable {X:Cx}{CX:CXT}{k:Nat}{f C:Addr}{fd:FuncData}{ps:List Str}{sp:Sp}{E0:XK}{E:St->XK}{x:Str}{np cpos pos:Pos}{e:Expr}{es:List Expr}{t:TA}
end
section
variable {P:Program}{w:World}{K:zQK}{mg:Str->Option Value}{base:Heap}{N:List Str}{qual:Str}{scope:Scope}{f:Addr}{cd:Value}{A:Around}{outer:List Env}{s₀:Shared}{H₀:Hp}{E:XK}
end
section
variable {X:Cx}{e:Expr}{f:Str}{pos:Pos}{ta:TE}
end
end L2
namespace PySem
open PyProof.Rows
section
variable {prog:Program}{w:World}{K:Type}[DecidableEq K]{knd:KeyKind prog w K}{A:Around}{R:Result->Shared->Prop}{d it l:Addr}{items:Array Value}{ps:List (K×Value)}
end
section
variable {prog:Program}{w:World}{K:Type}[DecidableEq K]{knd:KeyKind prog w K}{A:Around}{E:Value->Shared->Prop}{s:Shared}
end
end PySem
namespace L2
open PySem PySem.Spec PyProof.Rows
section
variable {X:Cx}
end
end L2
namespace PySem
open PyProof.Rows
section
variable {prog:Program}{w:World}{K:Type}[DecidableEq K]{knd:KeyKind prog w K}{A:Around}{E:Value->Shared->Prop}{s:Shared}
end
end PySem
namespace L2
open PySem PySem.Spec PyProof.Rows
section
variable {X:Cx}
end
section
variable {X:Cx}{K:zQK}
end
section
variable {X:Cx}{K:zQK}{o e i value:Expr}{f:Str}{pos pos' apos p:Pos}{ta tv td ty:TE}{CX:CXT}{k:Nat}{g C:Addr}{fd:FuncData}{ps:List Str}{sp:Sp}{dvs:List V}{ds:List Value}{E:XK}{x m:Str}
theorem zk(hK:X.K=K)(he:QE X e ta)(hb:attributeBase e f X.env (eval e X.env)=eval e X.env):QE X (.Attribute e f pos) (zEy K ta f):=by
 subst hK;exact ⟨zNc he.out hb⟩
theorem zAw(hK:X.K=K)(ha:QE X o ta)(hv:QE X value tv)(hs:swapsWith value (some (.Attribute o f pos')) pos.line X.env=pure false):QS X (.Assign [.Attribute o f pos'] value pos) (zNf K ta tv f):=by
 subst hK;exact ⟨zMs ha.out hv.out hs⟩
theorem zLb{pl:Sem Bool}(he:QE X o ta)(c:Cls X.K C)(hm:Meth X.K C m g)(F:FnOk X.prog X.w X.K X.mg X.base CX k g fd ps sp)(hr:Room k X.A)(hb:zL X.K fd ps ds)(hd:zQ dvs ds)(hx:zAc CX X E)
  (ht:eval (.Call (.Attribute o m apos) [] [] pos) X.env=(do
   let ov<-eval o X.env
   standAt apos.atName
   let (f,first)<-holding [ov] (getMethod ov m pl)
   callWith pos f first (backTo pos (starEach [] X.env)) (backToKw pos (keywordEach [] X.env)))):
  QE X (.Call (.Attribute o m apos) [] [] pos) (zFz C m sp dvs E ta zBg):=⟨zKl he.out c hm F hr hb hd hx ht⟩
def zOZ(td ty tv:TE):TS:=fun D σ H=>tv σ H fun v H1=>td σ H1 fun x H2=>ty σ H2 fun y H3=>zLK x y v H3 fun H4=>D.nx σ H4
theorem zHD(ho:QE X o td)(hi:QE X i ty)(hv:QE X value tv)(hs:swapsWith value (some (.Subscript o i pos')) pos.line X.env=pure false):QS X (.Assign [.Subscript o i pos'] value pos) (zOZ td ty tv):=by
 refine ⟨fun pins s σ H D I h=>?_⟩;refine wpAny_Assign_Subscript (zd (hv.out pins s σ H _ I h) fun r s1 ⟨v,H1,I1,rv,q1⟩=>zd (ho.out pins s1 σ H1 _ I1 q1) fun u s2 ⟨x,H2,I2,rx,q2⟩=>zd (hi.out pins s2 σ H2 _ I2 q2) fun iv s3 ⟨y,H3,I3,ry,q3⟩=>?_) hs;exact zd (zKp pins s3 σ H3 x y v u iv r _ I3 rx ry rv q3) fun _ s4 ⟨H4,I4,q4⟩=>⟨σ,H4,I4,q4⟩
end
end L2
namespace PySem
open PyProof.Rows
section
variable {prog:Program}{w:World}{K:Type}[DecidableEq K]{knd:KeyKind prog w K}{A:Around}{E:Value->Shared->Prop}{s:Shared}
end
end PySem
namespace L2
open PySem PySem.Spec PyProof.Rows
theorem zDm{M:Model}{A:Around}{E:Value->Shared->Prop}{s:Shared}{scope:Scope}{globals:Addr}{cl:List (Str×Addr)}{qual:Str}{outer:Env}{Q:Env->Shared->Prop}
  (hQ: ∀h',h'=pushCells (s.heap.push {cls:= .type "dict",data:= .dict #[]}) scope.names->h'.Ns s.heap.objs.size (fun _=>none)->
   Q (newEnv scope s.heap.objs.size globals (cellsFrom (s.heap.objs.size+1) scope.names cl) qual none .none (some outer) builtinsNs) {s with heap:=h',toks:=s.toks+([] :List (Str×Value)).length}):
  wpAny M A (newFunctionEnv scope globals cl [] qual none .none (some outer)) Q E s:=by
 simp only [newFunctionEnv,Option.isSome_some,if_true];refine zPW (wpAny_alloc ?_);refine zPW (wpAny_layCells _ (fun name kind cells=>by cases hkc:kind==NameKind.cell<;>simp [hkc]) _ _ _ _ ?_);rw [show ({s with heap:=s.heap.push {cls:= .type "dict",data:= .dict #[]}}:Shared).heap.objs.size=s.heap.objs.size+1 from Heap.size_push ..];refine zPW ?_;rw [List.forIn_nil];refine zPb (zPb ?_);exact hQ _ rfl ((Heap.Ns.new s.heap (.type "dict")).keeps (pushCells_keeps _ _))
theorem zBQ: ∀(names:List (Str×NameKind)) (h:Heap) (acc:List (Str×Addr)) (y:Str) (a:Addr),(cellsFrom h.objs.size names acc).lookup y=some a->acc.lookup y=some a\/(@LE.le Nat _ h.objs.size a/\(pushCells h names).IsCell a none)
 | [],h,acc,y,a,e=> .inl e
 |(name,kind)::r,h,acc,y,a,e=>by
  unfold cellsFrom at e;unfold pushCells;split at e
  ·rename_i hk
   rw [if_pos hk];have ih:=zBQ r (h.push {cls:= .type "cell",data:= .cell none}) ((name,h.objs.size)::acc) y a (by rw [Heap.size_push];exact e);rcases ih with z |⟨z1,z2⟩
   ·rw [List.lookup_cons] at z;split at z
    ·cases z;exact .inr ⟨zPZ _,⟨_,pushCells_keeps r _ _ _ (zPo h rfl),rfl⟩⟩
    ·exact .inl z
   ·rw [Heap.size_push] at z1;exact .inr ⟨Nat.le_of_succ_le z1,z2⟩
  ·rename_i hk
   rw [if_neg hk];exact zBQ r h acc y a e
theorem zCA: ∀(names:List (Str×NameKind)) (b:Nat) (acc:List (Str×Addr)),(∀y a,acc.lookup y=some a-> @LT.lt Nat _ a b)->(∀y z a,acc.lookup y=some a->acc.lookup z=some a->y=z)->
  ∀y z a,(cellsFrom b names acc).lookup y=some a->(cellsFrom b names acc).lookup z=some a->y=z
 | [],b,acc,_,hi=>hi
 |(name,kind)::r,b,acc,hb,hi=>by
  unfold cellsFrom;split
  ·refine zCA r (b+1) ((name,b)::acc) (fun y a e=>?_) (fun y z a e1 e2=>?_)
   ·rw [List.lookup_cons] at e;split at e
    ·cases e;exact Nat.lt_succ_self _
    ·exact Nat.lt_succ_of_lt (hb y a e)
   ·rw [List.lookup_cons] at e1 e2;split at e1<;>split at e2
    ·rename_i b1 h1 b2 h2
     rw [beq_iff_eq] at h1 h2;rw [h1,h2]
    ·cases e1;exact absurd (hb z _ e2) (Nat.lt_irrefl _)
    ·cases e2;exact absurd (hb y _ e1) (Nat.lt_irrefl _)
    ·exact hi y z a e1 e2
  ·exact zCA r b acc hb hi
theorem zCD: ∀(names:List (Str×NameKind)) (b:Nat) (acc:List (Str×Addr)) (lo:Nat) (x:Str),lo<=b->(names.lookup x=some .cell\/ ∀c,acc.lookup x=some c-> @LE.le Nat _ lo c)-> ∀c,(cellsFrom b names acc).lookup x=some c-> @LE.le Nat _ lo c
 | [],b,acc,lo,x,_,h,c,e=>by
  rcases h with h | h
  ·cases h
  ·exact h c e
 |(name,kind)::r,b,acc,lo,x,hb,h,c,e=>by
  unfold cellsFrom at e;split at e
  ·rename_i hk
   refine zCD r (b+1) ((name,b)::acc) lo x (Nat.le_succ_of_le hb) ?_ c e;by_cases hx:(x==name)=true
   ·refine .inr fun c' e'=>?_;rw [List.lookup_cons,hx] at e';cases e';exact hb
   ·have hx':(x==name)=false:=by simpa using hx
    rcases h with h | h
    ·rw [List.lookup_cons,hx'] at h;exact .inl h
    ·refine .inr fun c' e'=>?_;rw [List.lookup_cons,hx'] at e';exact h c' e'
  ·rename_i hk
   refine zCD r b acc lo x hb ?_ c e;rcases h with h | h
   ·rw [List.lookup_cons] at h;split at h
    ·cases h;exact absurd rfl hk
    ·exact .inl h
   ·exact .inr h
abbrev Cx.compN(X:Cx)(scope:Scope)(cl:List (Str×Addr))(C:Addr)(N:List Str)(s₂:Shared)(H₂:Hp)(fp:List Addr):Cx:=
 {X.comp scope (cellsFrom (C+1) scope.names cl) C N s₂ H₂ fp with fn:=fun x=>scope.names.lookup x==some .cell}
theorem zKq{X:Cx}{elt iter tg:Expr}{ifs:List Expr}{zs:List Str}{pos:Pos}{scope:Scope}{cl:List (Str×Addr)}{ys:List Str}{fr:List Nat}{wi:TI}{g:TG}{tt:TT}{te:TE}(hcm:X.calm=true)
  (hi:PI X tg iter wi) (hclos:closureFor scope X.env=pure cl) (hkind:scope.kind= .function) (hnames: ∀y∈scope.names,y.2= .local->scope.names.lookup y.1=some .local)
  (hcl: ∀y a,cl.lookup y=some a->X.env.cells.lookup y=some a)
  (hlen:ys.length=fr.length) (hfr: ∀(j:Nat) y i,ys[j]?=some y->fr[j]?=some i->X.N[i]?=some y/\X.env.kindOf y=some .cell/\(relabel scope X.env).names.lookup y=some .cell/\ ∃a,(∀C:Addr,(cellsFrom (C+1) scope.names cl).lookup y=some a)/\X.env.cells.lookup y=some a)
  (hhas: ∀C:Addr,∀y,((relabel scope X.env).names.lookup y=some .cell\/(relabel scope X.env).names.lookup y=some .free)-> ∃a,(cellsFrom (C+1) scope.names cl).lookup y=some a)
  (hg: ∀C s₂ H₂ fp,PG (X.compN scope cl C (zs++ys) s₂ H₂ fp) tg g) (hc: ∀C s₂ H₂ fp,PTs (X.compN scope cl C (zs++ys) s₂ H₂ fp) ifs tt) (he: ∀C s₂ H₂ fp,PE (X.compN scope cl C (zs++ys) s₂ H₂ fp) elt te) (hs: ∀v,foldedSetIterable iter X.env v=pure v:=by intro _;rfl):
  PE X (.ListComp elt [⟨tg,iter,ifs,0⟩] scope pos) (zBu wi g tt te zs.length fr):=by
 intro pins s σ H Q I h;rw [eval_ListComp];refine wpAny_comprehension_free (use:=none) rfl hs hclos hkind hnames (zd (hi pins s σ H _ I h) fun v s1 h1=>zd h1 fun itv s2 h2=>?_);obtain ⟨it,fp,tn,J,H2,e,I2,T,st2,f2,h2⟩:=h2;subst e;have hD:H2 s2.heap.objs.size=none:=I2.hok.fresh (zPZ _);obtain ⟨W,⟨m0,w0⟩,turn⟩:=h2 s2.heap.objs.size hD;refine wpAny_newObj_type (zDm (fun h₁ hh₁ hns₁=>?_));dsimp only at hh₁ hns₁⊢;generalize hH3:s2.heap.push {cls:= .type "list",dict:=none,data:= .seq ([] :List Value).toArray}=H3 at hh₁ hns₁⊢;have hCs:H3.objs.size=s2.heap.objs.size+1:=by rw [<-hH3,Heap.size_push]
 have old: ∀b o,s2.heap.get? b=some o->h₁.get? b=some o:=fun b o e=>
  hh₁▸pushCells_keeps _ _ b o (zPX _ (hH3▸zPX _ e))
 have hacc:h₁.get? s2.heap.objs.size=some {cls:= .type "list",dict:=none,data:= .seq ([] :List Value).toArray}:=
  hh₁▸pushCells_keeps _ _ _ _ (zPX _ (hH3▸zPo _ rfl))
 have fplt: ∀b∈fp,@LT.lt Nat _ b s2.heap.objs.size:=fun b hb=>by
  obtain ⟨o,e,_⟩:=T.obj _ _ st2 b hb;exact zx e
 have hCz:(H3.push {cls:= .type "dict",data:= .dict #[]}).objs.size=H3.objs.size+1:=Heap.size_push ..;have clt: ∀y a,cl.lookup y=some a-> @LT.lt Nat _ a s2.heap.objs.size:=fun y a e=>by
  obtain ⟨v,o,ho,hd⟩:=I2.cell y a (hcl y a e);exact zx ho
 have csp: ∀y a,(cellsFrom (H3.objs.size+1) scope.names cl).lookup y=some a->cl.lookup y=some a\/(@LE.le Nat _ (H3.objs.size+1) a/\h₁.IsCell a none):=fun y a e=>by
  have z:=zBQ scope.names (H3.push {cls:= .type "dict",data:= .dict #[]}) cl y a (by rw [hCz];exact e);rw [hCz] at z;rw [hh₁];exact z
 have okC:(X.compN scope cl H3.objs.size (zs++ys) s2 H2 fp).Ok:=by
  refine ⟨I2.ok.mod,hkind,I2.ok.glob,I2.ok.blt,?_,zCA scope.names (H3.objs.size+1) cl (fun y a e=>zPe (clt y a e) (by omega)) (fun y z a h1 h2=>I2.ok.inj y z a (hcl y a h1) (hcl z a h2)),fun y hy=>hhas _ y hy,fun y a z e=>zCD scope.names (H3.objs.size+1) cl s2.heap.objs.size y (by omega) (.inl (by simpa using z)) a e,I2.ok.hd,I2.ok.frames,.inl rfl,fun b hb=>⟨?_,fun y a e z=>?_⟩,I2.bs,zPj I2.ok.bsz I2.sz,fun b o e hb=>?_,fun b hb z=>?_,I2.stack,I2.stkFree⟩
  ·show s2.heap.objs.size<=H3.objs.size;omega
  ·show b≠H3.objs.size;have:=fplt b hb;exact zPd (by omega)
  ·rcases csp y a e with e |⟨e,_⟩
   ·exact (f2 b hb).2.2.2.2.1 y a (hcl y a e) z
   ·have:=fplt b hb;rw [<-z] at this;have e': @LE.le Nat _ (H3.objs.size+1) a:=e;omega
  ·rcases (f2 b hb).2.2.2.1 with z | z
   ·exact I2.ok.noex b o e z
   ·have z': @LE.le Nat _ X.s₀.heap.objs.size b:=z;have: @LT.lt Nat _ b X.base.objs.size:=zx e;have:=I2.ok.bsz;omega
  ·rcases List.mem_cons.mp (I2.stkSub b z) with y | y
   ·exact (f2 b hb).2.1 y
   ·exact (f2 b hb).2.2.1 y
 have fpok: ∀{H':Hp},(∀b∈fp,H' b=none)-> ∀b∈fp,zAo (X.compN scope cl H3.objs.size (zs++ys) s2 H2 fp) [] H' b:=fun hn b hb=>
  ⟨hn b hb,(okC.exf b hb).1,okC.exfs b hb,.inl hb,(okC.exf b hb).2,fun p hp=>absurd hp (by simp)⟩
 have start:Inv (X.compN scope cl H3.objs.size (zs++ys) s2 H2 fp) [] (List.replicate zs.length none++zX fr σ) (upd H2 s2.heap.objs.size (.lst [])) {s2 with heap:=h₁,toks:=s2.toks+([] :List (Str×Value)).length}:=by
  refine ⟨okC,rfl,I2.bare,Un.laid old (zPZ _) hD,⟨_,hns₁,fun j y v e1 e2 e3=>?_⟩,fun y a e=>?_,?_,fun y a e=>?_,fun p hp=>absurd hp (by simp),I2.hok.laid old (zPZ _) ⟨zPk _,[],_,.nil,hacc⟩,?_⟩
  ·by_cases hj:j<zs.length
   ·rw [List.getElem?_append_left (by simpa using hj),List.getElem?_replicate] at e2;rw [if_pos hj] at e2;cases e2
   ·obtain ⟨j,rfl⟩: ∃k,j=zs.length+k:=⟨j - zs.length,by omega⟩;have e1':ys[j]?=some y:=by
     have z:=e1;simp only [Cx.comp] at z;rw [List.getElem?_append_right (by omega)] at z;simpa using z
    have e2':(zX fr σ)[j]?=some (some v):=by
     rw [List.getElem?_append_right (by simp)] at e2;simpa using e2
    unfold zX at e2';rw [zPa] at e2';cases q:fr[j]? with
    | none=>rw [q] at e2';cases e2'
    | some i=>
     rw [q] at e2';have e4:(σ[i]?).getD none=some v:=Option.some.inj e2';have e5:σ[i]?=some (some v):=by
      cases q2:σ[i]? with
      | none=>rw [q2] at e4;cases e4
      | some z=>rw [q2] at e4;exact congrArg some e4
     obtain ⟨hN,hk,hl,a,ha,ha'⟩:=hfr j y i e1' q;obtain ⟨m,_,hl2⟩:=I2.loc;obtain ⟨u,r,l⟩:=hl2 i y v hN e5 (.inr (.inl hk));refine ⟨u,r,.inr ⟨.inl hl,a,ha _,?_⟩⟩;rcases l with ⟨k,_⟩|⟨_,a2,ea,z⟩
     ·rw [hk] at k;cases k
     ·rw [ha'] at ea;cases ea;obtain ⟨o,ho,hd⟩:=z;exact ⟨o,old _ _ ho,hd⟩
  ·rcases csp y a e with e |⟨_,e⟩
   ·obtain ⟨v,o,ho,hd⟩:=I2.cell y a (hcl y a e);exact ⟨v,o,old _ _ ho,hd⟩
   ·exact ⟨none,e⟩
  ·show upd H2 s2.heap.objs.size (.lst []) H3.objs.size=none;rw [zH (by first | exact zPd (by omega)| exact zQE (by omega))];exact I2.hok.fresh (by omega)
  ·rcases csp y a e with e |⟨e,_⟩
   ·have:=clt y a e;rw [zH (by first | exact zPd (by omega)| exact zQE (by omega))];exact I2.freeC y a (hcl y a e)
   ·have e': @LE.le Nat _ (H3.objs.size+1) a:=e;rw [zH (by first | exact zPd (by omega)| exact zQE (by omega))];exact I2.hok.fresh (by show @LE.le Nat _ s2.heap.objs.size a;omega)
  ·show (List.replicate zs.length none++zX fr σ).length=(zs++ys).length;unfold zX;simp [hlen]
 have loop: ∀s₃:Shared,s₃={s2 with heap:=h₁,toks:=s2.toks+([] :List (Str×Value)).length}->
   codeAny (model X.prog X.w) X.A (.compLoop (.ListComp elt [⟨tg,iter,ifs,0⟩] scope pos) 0 (.ref it) (.ref s2.heap.objs.size) (compEnvC scope (cellsFrom (H3.objs.size+1) scope.names cl) H3.objs.size X.env)) (compPost (model X.prog X.w) X.A X.xe none (EP X pins σ Q) (.ref s2.heap.objs.size) H3.objs.size) s₃:=by
  rintro s₃ rfl;refine zEm (fun n s'=> ∃i pre ys' H',pre.length=zs.length/\Inv (X.compN scope cl H3.objs.size (zs++ys) s2 H2 fp) [] (pre++zX fr σ) H' s'/\tn i s'.heap/\(∀b∈fp,H' b=none)/\W i n ys' H') ?_ m0
   ⟨0,List.replicate zs.length none,[],_,by simp,start,T.keep _ _ _ st2 fun b hb o e=>old b o e,fun b hb=>by
    have:=fplt b hb;rw [zH (by first | exact zPd (by omega)| exact zQE (by omega))];exact (f2 b hb).1,w0⟩
  rintro n s3 ⟨i,pre,ys3,H',hpl,I3,st3,fr3,w3⟩;obtain ⟨hl3,alt⟩:=turn i n ys3 H' w3;rcases alt with ⟨stop,qn⟩|⟨go,hz,N,hN,step⟩
  ·refine zPq (T.done (X.compN scope cl H3.objs.size (zs++ys) s2 H2 fp) rfl rfl rfl hcm i [] s3 _ H' (fun _ _=>False) I3 (fpok fr3) st3 stop) (fun r s4 h4=>?_) fun _ _ z=>z.elim;obtain ⟨hr,I4⟩:=h4;subst hr;obtain ⟨m4,hn4,_⟩:=id I4.loc;refine ⟨m4,hn4,fun h'' hs''=>?_⟩;have hb: ∀b o,b≠H3.objs.size->s4.heap.get? b=some o->h''.get? b=some o:=fun b o hb e=>(hs''.2 b hb).trans e;have I5:Inv X pins σ H' {s4 with heap:=h''}:=by
    refine I2.call' (s':={s4 with heap:=h''}) (ch:=fp) I4.os ⟨fun b o e n hb' hx'=>?_,fun b o e n hb' hx'=>?_,fun b o e n hx'=>I4.base.free b o e n hx',fun b o e hx'=>?_,I4.base.tups,I4.base.frzs,I4.base.tbls⟩ (fun b u e=>?_) I4.bare fun b hb'=>⟨(f2 b hb').2.2.2.1,(f2 b hb').2.1,(f2 b hb').2.2.2.2.1,(f2 b hb').2.2.2.2.2⟩
    ·exact hb b o (zPd (by have:=zx e;omega)) (I4.base.keep b o e n hb' hx')
    ·obtain ⟨sl,q⟩:=I4.base.slot b o e n hb' hx';exact ⟨sl,hb b _ (zPd (by have:=zx e;omega)) q⟩
    ·obtain ⟨o',q⟩:=I4.base.there b o e hx';exact ⟨o',hb b _ (zPd (by have:=zx e;omega)) q⟩
    ·refine (I4.hok b u e).stay (fun c' w' hc' q=>hb c' w' ?_ q) (fun _ q=>q) fun _ _ q=>q;intro z;have fz:H' H3.objs.size=none:=I4.free;rcases hc' with y | y
     ·rw [<-y,z,fz] at e;cases e
     ·rw [z,fz] at y;cases y
   exact ⟨.ref s2.heap.objs.size,H',I5,rfl,qn⟩
  ·refine zPq (T.item (X.compN scope cl H3.objs.size (zs++ys) s2 H2 fp) rfl rfl rfl hcm i [] s3 _ H' (fun _ _=>False) I3 (fpok fr3) st3 go) (fun r s4 h4=>?_) fun _ _ z=>z.elim;obtain ⟨u,hr,h4⟩:=h4;subst hr;dsimp only;have asg:wpAny (model X.prog X.w) X.A (letOwnedTupleGo tg (.ref it) u) (fun _ s5=>wpAny (model X.prog X.w) X.A (assign tg (compEnvC scope (cellsFrom (H3.objs.size+1) scope.names cl) H3.objs.size X.env) u)
     (fun _ s6=> ∃σ5 H6,(∃pn5,Inv (X.compN scope cl H3.objs.size (zs++ys) s2 H2 fp) pn5 σ5 H6 s6/\(∀b∈fp,∃o,(b,o)∈pn5))/\((∃zh:St,zh.length=zs.length/\σ5=zh++zX fr σ)/\
      tt σ5 H6 fun b H3'=>if b=true then te σ5 H3' fun y H4=>H4 s2.heap.objs.size=some (.lst ys3)/\N (ys3++ [y]) (upd H4 s2.heap.objs.size (.lst (ys3++ [y]))) else N ys3 H3')/\tn (i+1) s6.heap/\ ∀b∈fp,H6 b=none) (fun _ _=>False) s5) (fun _ _=>False) s4:=by
    refine (zd h4 fun _ s5 ⟨x5,H5,I5,r5,y5,st5,fr5⟩=>?_);have I5':=I5.pinned (fpok fr5) (T.obj _ _ st5);refine zPq (hg _ _ _ _ _ s5 _ H5 x5 u _ I5' r5 (step x5 H5 y5 pre hpl)) (fun _ s6 ⟨σ6,H6,I6,q6⟩=>?_) fun _ _ z=>z.elim;exact ⟨σ6,H6,⟨_,I6,fun b hb=>by
     obtain ⟨o,e,_⟩:=T.obj _ _ st5 b hb;exact ⟨o,zPl _ (yC hb e)⟩⟩,q6,T.keep _ _ _ st5 fun b hb o e=>(I6.pin (b,o) (zPl _ (zPl _ (yC hb e)))).1,fun b hb=>by
     obtain ⟨o,e,_⟩:=T.obj _ _ st5 b hb;exact (I6.pin (b,o) (zPl _ (zPl _ (yC hb e)))).2.1⟩
   refine zPq asg (fun _ s5 h5=>zPq h5 (fun _ s6 h6=>?_) fun _ _ z=>z.elim) fun _ _ z=>z.elim;obtain ⟨σ5,H5,⟨pn5,I6,hp6⟩,⟨⟨zh,hl2,rfl⟩,q6⟩,st6,fr5⟩:=h6;have keepTurn: ∀{σ7:St} {H7:Hp} {s7:Shared},Inv (X.compN scope cl H3.objs.size (zs++ys) s2 H2 fp) pn5 σ7 H7 s7->tn (i+1) s7.heap/\ ∀b∈fp,H7 b=none:=fun {σ7 H7 s7} I7=>by
    refine ⟨T.keep _ _ _ st6 fun b hb o e=>?_,fun b hb=>?_⟩
    ·obtain ⟨o',hm⟩:=hp6 b hb;have a1:=(I6.pin (b,o') (zPl _ hm)).1;rw [e] at a1;cases a1;exact (I7.pin (b,_) (zPl _ hm)).1
    ·obtain ⟨o',hm⟩:=hp6 b hb;exact (I7.pin (b,o') (zPl _ hm)).2.1
   have drop: ∀{σ7:St} {H7:Hp} {s7:Shared},Inv (X.compN scope cl H3.objs.size (zs++ys) s2 H2 fp) pn5 σ7 H7 s7->Inv (X.compN scope cl H3.objs.size (zs++ys) s2 H2 fp) [] σ7 H7 s7:=fun I7=>I7.pins_of fun p hp=>absurd hp (by simp);have tests:wpAny (model X.prog X.w) X.A (zAq ifs (compEnvC scope (cellsFrom (H3.objs.size+1) scope.names cl) H3.objs.size X.env)) (fun b s7=> ∃H7,Inv (X.compN scope cl H3.objs.size (zs++ys) s2 H2 fp) pn5 (zh++zX fr σ) H7 s7/\
     (if b=true then te (zh++zX fr σ) H7 fun y H4=>H4 s2.heap.objs.size=some (.lst ys3)/\N (ys3++ [y]) (upd H4 s2.heap.objs.size (.lst (ys3++ [y]))) else N ys3 H7)) (fun _ _=>False) s6:=by
    rcases hc H3.objs.size s2 H2 fp with ⟨rfl,rfl⟩|⟨c,rfl,hc2⟩
    ·exact wpAny_tests_nil ⟨H5,I6,q6⟩
    ·exact wpAny_tests_one (zPq (hc2 pn5 s6 _ H5 _ I6 q6) (fun b s7 ⟨H7,I7,q7⟩=>⟨H7,I7,q7⟩) fun _ _ z=>z.elim)
   refine zPq tests (fun b s7 h7=>?_) fun _ _ z=>z.elim;obtain ⟨H7,I7,q7⟩:=h7;cases b with
   | false=>
    obtain ⟨m',hm,w'⟩:=hN _ _ q7;obtain ⟨k1,k2⟩:=keepTurn I7;exact ⟨m',hm,i+1,zh,ys3,H7,hl2,drop I7,k1,k2,w'⟩
   | true=>
    refine zPq (he _ _ _ _ pn5 s7 _ H7 _ I7 q7) (fun y s8 h8=>?_) fun _ _ z=>z.elim;obtain ⟨yv,H8,I8,r8,hl8,n8⟩:=h8;refine zPq (zBU (X:=X.compN scope cl H3.objs.size (zs++ys) s2 H2 fp) pn5 s8 _ H8 (.ref s2.heap.objs.size) [yv] (.ref s2.heap.objs.size) [y] (fun z H9=>N (ys3++ [yv]) H9) I8 rfl (.cons r8 .nil) ⟨s2.heap.objs.size,ys3,yv,rfl,rfl,hl8,hz,n8⟩) (fun _ s9 h9=>?_) fun _ _ z=>z.elim;obtain ⟨_,H9,I9,_,n9⟩:=h9;obtain ⟨m',hm,w'⟩:=hN _ _ n9;obtain ⟨k1,k2⟩:=keepTurn I9;exact ⟨m',hm,i+1,zh,ys3++ [yv],H9,hl2,drop I9,k1,k2,w'⟩
 exact codeAny_compStart_list (loop _ rfl) (T.self X.A 0 _ _ _ (T.keep _ _ _ st2 fun b hb o e=>old b o e) (loop _ rfl))
theorem zKs{X:Cx}{elt iter tg:Expr}{ifs:List Expr}(zs:List Str){pos:Pos}{scope:Scope}{cl:List (Str×Addr)}(ys:List Str)(fr:List Nat){wi:TI}{g:TG}{tt:TT}{te:TE}(hcm:X.calm=true)
  (hi:QI X tg iter wi) (hclos:closureFor scope X.env=pure cl) (hkind:scope.kind= .function) (hnames: ∀y∈scope.names,y.2= .local->scope.names.lookup y.1=some .local)
  (hcl: ∀y a,cl.lookup y=some a->X.env.cells.lookup y=some a)
  (hlen:ys.length=fr.length) (hfr: ∀(j:Nat) y i,ys[j]?=some y->fr[j]?=some i->X.N[i]?=some y/\X.env.kindOf y=some .cell/\(relabel scope X.env).names.lookup y=some .cell/\ ∃a,(∀C:Addr,(cellsFrom (C+1) scope.names cl).lookup y=some a)/\X.env.cells.lookup y=some a)
  (hhas: ∀C:Addr,∀y,((relabel scope X.env).names.lookup y=some .cell\/(relabel scope X.env).names.lookup y=some .free)-> ∃a,(cellsFrom (C+1) scope.names cl).lookup y=some a)
  (hg: ∀C s₂ H₂ fp,QG (X.compN scope cl C (zs++ys) s₂ H₂ fp) tg g) (hc: ∀C s₂ H₂ fp,QTs (X.compN scope cl C (zs++ys) s₂ H₂ fp) ifs tt) (he: ∀C s₂ H₂ fp,QE (X.compN scope cl C (zs++ys) s₂ H₂ fp) elt te) (hs: ∀v,foldedSetIterable iter X.env v=pure v):
  QE X (.ListComp elt [⟨tg,iter,ifs,0⟩] scope pos) (zBu wi g tt te zs.length fr):=
 ⟨zKq hcm hi.out hclos hkind hnames hcl hlen hfr hhas (fun C s H f=>(hg C s H f).out) (fun C s H f=>(hc C s H f).out) (fun C s H f=>(he C s H f).out) hs⟩
theorem zFF{X:Cx}{elt iter tg:Expr}{ifs:List Expr}(zs:List Str){pos:Pos}{scope:Scope}{cl:List (Str×Addr)}(ys:List Str)(fr:List Nat){wi:TI}{g:TG}{tt:TT}{te:TE}(hcm:X.calm=true)
  (hi:QI X tg iter wi) (hclos:closureFor scope X.env=pure cl) (hkind:scope.kind= .function) (hnames: ∀y∈scope.names,y.2= .local->scope.names.lookup y.1=some .local)
  (hcl: ∀y a,cl.lookup y=some a->X.env.cells.lookup y=some a)
  (hlen:ys.length=fr.length) (hfr: ∀(j:Nat) y i,ys[j]?=some y->fr[j]?=some i->X.N[i]?=some y/\X.env.kindOf y=some .cell/\(relabel scope X.env).names.lookup y=some .cell/\ ∃a,(∀C:Addr,(cellsFrom (C+1) scope.names cl).lookup y=some a)/\X.env.cells.lookup y=some a)
  (hhas: ∀C:Addr,∀y,((relabel scope X.env).names.lookup y=some .cell\/(relabel scope X.env).names.lookup y=some .free)-> ∃a,(cellsFrom (C+1) scope.names cl).lookup y=some a)
  (hg: ∀C s₂ H₂ fp,QG (X.compN scope cl C (zs++ys) s₂ H₂ fp) tg g) (hc: ∀C s₂ H₂ fp,QTs (X.compN scope cl C (zs++ys) s₂ H₂ fp) ifs tt) (he: ∀C s₂ H₂ fp,QE (X.compN scope cl C (zs++ys) s₂ H₂ fp) elt te) (hs: ∀v,foldedSetIterable iter X.env v=pure v):
  QE X (.ListComp elt [⟨tg,iter,ifs,0⟩] scope pos) (zGS wi g tt te zs.length fr):=
 zLU (zKs zs ys fr hcm (zEr hi) hclos hkind hnames hcl hlen hfr hhas hg hc he hs) fun σ H Q h=>⟨_,h,fun J H1 h1 D hD=>by
  obtain ⟨len,Pv,a0,a1,a2,a3,a4⟩:=(h1 D hD).ex;exact zCe D len Pv a0 a1 a2 a3 a4⟩
def Itz(K:zQK)(a b:Addr):It:=
 ⟨fun i H=> ∃xs ys x y,SqL K H a xs/\SqL K H b ys/\xs[i]?=some x/\ys[i]?=some y,fun i H v H'=> ∃t x y,(∀xs,SqL K H a xs->xs[i]?=some x)/\(∀ys,SqL K H b ys->ys[i]?=some y)/\H t=none/\v= .ref t/\H'=upd H t (.tup [x,y]),
  fun i H=> ∃xs ys,SqL K H a xs/\SqL K H b ys/\(xs.length<=i\/ys.length<=i)⟩
theorem zKx{P:Program}{w:World}{K:zQK}{elts:List Expr}{x1}{pos:Pos}(l1 l2 z TI TO i1 i2:Addr)(D:ZipApart z TI TO i1 i2 l1 l2):
  Turn P w K (.Tuple elts x1 pos) (Itz K l1 l2) [z,TI,TO,i1,i2] z (fun i h=>IsZip h z TI TO .none/\IsPair h TI (.ref i1) (.ref i2)/\(∃a b,IsPair h TO a b)/\h.IsListIter i1 l1 i/\h.IsListIter i2 l2 i) where
 mem:=by simp
 obj:=fun i h st b hb=>by
  obtain ⟨e1,e2,⟨a,b',e3⟩,⟨o4,e4,c4,d4⟩,⟨o5,e5,c5,d5⟩⟩:=st;simp only [List.mem_cons,List.not_mem_nil,or_false] at hb;rcases hb with rfl | rfl | rfl | rfl | rfl
  ·exact ⟨_,e1,fun v z=>by have z':Data.fields _=Data.cell v:=z;cases z'⟩
  ·exact ⟨_,e2,fun v z=>by have z':Data.seq _=Data.cell v:=z;cases z'⟩
  ·exact ⟨_,e3,fun v z=>by have z':Data.seq _=Data.cell v:=z;cases z'⟩
  ·exact ⟨o4,e4,fun v z=>by rw [d4] at z;cases z⟩
  ·exact ⟨o5,e5,fun v z=>by rw [d5] at z;cases z⟩
 keep:=fun i h h' st k=>by
  obtain ⟨e1,e2,⟨a,b',e3⟩,e4,e5⟩:=st;exact ⟨k z (by simp) _ e1,k TI (by simp) _ e2,⟨a,b',k TO (by simp) _ e3⟩,e4.at fun o e=>k i1 (by simp) o e,e5.at fun o e=>k i2 (by simp) o e⟩
 item:=by
  intro X hP hw hK hc i pins s σ H E I hf st hg;subst hP hw hK;obtain ⟨xs,ys,x,y,hq1,hq2,hx,hy⟩:=hg;obtain ⟨hz,hTI,⟨a0,b0,hTO⟩,hi1,hi2⟩:=st;obtain ⟨its1,rv1,p1,hz1⟩:=I.list hq1;obtain ⟨its2,rv2,p2,hz2⟩:=I.list hq2;obtain ⟨u,hu,ru⟩:=rv1.get hx;obtain ⟨v,hv,rv⟩:=rv2.get hy;refine wpAny_pyNext_zip_item D hz hTI hTO hi1 hi2 p1.isList p2.isList (x:=u) (y:=v) (by simpa using hu) (by simpa using hv) fun h1 hzo hTO1 hit1 hit2 ht hsz hk=>⟨_,rfl,?_⟩;refine wpAny_letOwnedTupleGo_zip hzo fun h2 he2 hs2=>?_;have lts: ∀c o,s.heap.get? c=some o->s.heap.objs.size≠c:=fun c o e=>zQE (zPf e);have nz:=lts _ _ hz;have nTI:=lts _ _ hTI;have nTO:=lts _ _ hTO;have ni1:s.heap.objs.size≠i1:=by obtain ⟨o,e,_⟩:=hi1;exact lts _ _ e
  have ni2:s.heap.objs.size≠i2:=by obtain ⟨o,e,_⟩:=hi2;exact lts _ _ e
  replace hs2:Heap.SameBut z h1 h2:=hs2;have new:h2.get? s.heap.objs.size=some {cls:= .type "tuple",data:= .seq #[u,v]}:=(hs2.2 _ nz).trans ht;have I1:Inv X pins σ (upd H s.heap.objs.size (.tup [x,y])) {s with heap:=s.heap.push {cls:= .type "tuple",data:= .seq #[u,v]},toks:=s.toks}:=
   I.laid (fun b q e=>zPX _ e) (zPZ _) ⟨by show 2<=sizeLine;decide,[u,v],.cons ru (.cons rv .nil),_,zPo _ rfl,rfl,⟨_,rfl⟩,rfl⟩
  have nfp: ∀b∈ [z,TO,i1,i2],b≠s.heap.objs.size:=fun b hb=>by
   simp only [List.mem_cons,List.not_mem_nil,or_false] at hb;rcases hb with rfl | rfl | rfl | rfl
   ·exact Ne.symm nz
   ·exact Ne.symm nTO
   ·exact Ne.symm ni1
   ·exact Ne.symm ni2
  have I2:=Inv.turnedL (h':=h2) (t':=s.toks) (ch:= [z,TO,i1,i2]) I1 (fun b q hb e=>by
   simp only [List.mem_cons,List.not_mem_nil,or_false,not_or] at hb;obtain ⟨b1,b2,b3,b4⟩:=hb;replace e:(s.heap.push {cls:= .type "tuple",data:= .seq #[u,v]}).get? b=some q:=e;by_cases hbs:b=s.heap.objs.size
   ·subst hbs;rw [zPo _ rfl] at e;cases e;exact new
   ·rw [Heap.get?_push_ne _ _ _ hbs] at e;exact (hs2.2 b b1).trans (hk b q b1 b2 b3 b4 e)) (fun b hb=>(hf b (by simp only [List.mem_cons,List.not_mem_nil,or_false] at hb⊢;rcases hb with r | r | r | r<;>simp [r])).upd (nfp b hb))
  refine ⟨.ref s.heap.objs.size,_,I2,rfl,⟨_,x,y,fun zs hzs=>by rw [I.list_inj hzs hq1];exact hx,fun zs hzs=>by rw [I.list_inj hzs hq2];exact hy,I.hok.fresh (zPZ _),rfl,rfl⟩,
   ⟨he2,(hs2.2 _ D.TIz).trans (hk _ _ D.TIz D.TITO D.TIi1 D.TIi2 hTI),⟨u,v,(hs2.2 _ D.TOz).trans hTO1⟩,hit1.at fun o e=>(hs2.2 _ D.i1z).trans e,hit2.at fun o e=>(hs2.2 _ D.i2z).trans e⟩,fun b hb=>?_⟩
  have hb':b≠s.heap.objs.size:=by
   simp only [List.mem_cons,List.not_mem_nil,or_false] at hb;rcases hb with rfl | rfl | rfl | rfl | rfl
   ·exact Ne.symm nz
   ·exact Ne.symm nTI
   ·exact Ne.symm nTO
   ·exact Ne.symm ni1
   ·exact Ne.symm ni2
  rw [zH hb'];exact (hf b hb).1
 done:=by
  intro X hP hw hK hc i pins s σ H E I hf st hg;subst hP hw hK;obtain ⟨xs,ys,hq1,hq2,hx⟩:=hg;obtain ⟨hz,hTI,⟨a0,b0,hTO⟩,hi1,hi2⟩:=st;obtain ⟨its1,rv1,p1,hz1⟩:=I.list hq1;obtain ⟨its2,rv2,p2,hz2⟩:=I.list hq2;have hl1:=rv1.length;have hl2:=rv2.length;refine wpAny_pyNext_zip_end (I.ok.hd hc) D hz hTI hTO hi1 hi2 p1.isList p2.isList (hx.imp (fun h=>by simp;omega) (fun h=>by simp;omega)) fun h' hk=>⟨rfl,?_⟩;exact Inv.turnedL (h':=h') (t':=s.toks) (ch:= [z,TO,i1,i2]) I (fun b q hb e=>by
   simp only [List.mem_cons,List.not_mem_nil,or_false,not_or] at hb;obtain ⟨b1,b2,b3,b4⟩:=hb;exact hk b q b1 b2 b3 b4 e) (fun b hb=>hf b (by simp only [List.mem_cons,List.not_mem_nil,or_false] at hb⊢;rcases hb with r | r | r | r<;>simp [r]))
 self:=fun A i s Q E st h=>wpAny_pyIter_zip st.1 h
def zNi(K:zQK)(ta:TA):TI:=fun σ H R=>ta σ H fun vs H1=> ∃a b,vs= [.ref a,.ref b] /\(∃xs,SqL K H1 a xs)/\(∃ys,SqL K H1 b ys)/\R (Itz K a b) H1
theorem zJe:bootBuiltins "zip" =some (.type "zip"):=by decide+kernel
theorem zFK:bootBuiltins "reversed" =some (.type "reversed"):=by decide+kernel
theorem zNU{X:Cx}{a b:Expr}{ta:TA}{p pos tpos:Pos}{elts:List Expr}{x1}(hg:Gl X "zip")(hm:X.mg "zip" =none)(ha:PA X [a,b] ta)(h2:yE a=true)(h3:yE b=true):
  PI X (.Tuple elts x1 tpos) (.Call (.Name "zip" p) [a,b] [] pos) (zNi X.K ta):=by
 intro pins s σ H R I h;refine Call_ (zBm I hg hm zJe (PyProof.Rows.callWith_type1 (zd (ha pos pins s σ H _ I h) fun us s1 ⟨vs,H1,I1,r1,q1⟩=>?_) (zm h2) (zAX (by show (yE b&&true)=true;rw [h3];rfl))));obtain ⟨l1,l2,e,⟨xs,hq1⟩,⟨ys,hq2⟩,q⟩:=q1;subst e;obtain ⟨u,v,rfl,ru,rv⟩:=zQ.two r1;cases ru;cases rv;obtain ⟨its1,rv1,pl1,hz1⟩:=I1.list hq1;obtain ⟨its2,rv2,pl2,hz2⟩:=I1.list hq2;have lt1:l1<s1.heap.objs.size:=by obtain ⟨o,e,_⟩:=pl1.isList;exact zPf e
 have lt2:l2<s1.heap.objs.size:=by obtain ⟨o,e,_⟩:=pl2.isList;exact zPf e
 refine call_zip_2 pl1.isList pl2.isList fun h' hz hTI hTO hi1 hi2 hsz hk=>?_;refine wpAny_pyIter_zip hz ?_;refine ⟨_,[s1.heap.objs.size+4,s1.heap.objs.size+2,s1.heap.objs.size+3,s1.heap.objs.size,s1.heap.objs.size+1],_,_,H1,rfl,I1.kept (t':=s1.toks) hk,zKx l1 l2 _ _ _ _ _ (zipApart_new lt1 lt2),⟨hz,hTI,⟨_,_,hTO⟩,hi1,hi2⟩,fun b hb=>?_,q⟩;have up: ∀k,zAo X pins H1 (s1.heap.objs.size+k):=fun k=>I1.fpOk (Nat.le_add_right _ k) (I1.hok.fresh (Nat.le_add_right _ k));simp only [List.mem_cons,List.not_mem_nil,or_false] at hb;rcases hb with rfl | rfl | rfl | rfl | rfl
 ·exact up 4
 ·exact up 2
 ·exact up 3
 ·exact up 0
 ·exact up 1
theorem zDV{X:Cx}{K:zQK}{a b:Expr}{ta:TA}{p pos tpos:Pos}{elts:List Expr}{x1}(hK:X.K=K)(hg:Gl X "zip")(hm:X.mg "zip" =none)(ha:QA X [a,b] ta)(h2:yE a=true)(h3:yE b=true):
  QI X (.Tuple elts x1 tpos) (.Call (.Name "zip" p) [a,b] [] pos) (zNi K ta):=by
 subst hK;exact ⟨zNU hg hm ha.out h2 h3⟩
def zMm(K:zQK)(a:Addr)(n:Nat):It:=
 ⟨fun i H=>i<n/\ ∃xs x,SqL K H a xs/\xs[n - 1 - i]?=some x,fun i H x H'=>H'=H/\ ∀xs,SqL K H a xs->xs[n - 1 - i]?=some x,fun i H=>n<=i⟩
theorem zKA{P:Program}{w:World}{K:zQK}{tg:Expr}(a it:Addr)(n:Nat):Turn P w K tg (zMm K a n) [it] it (fun i h=>i<=n/\h.IsRevIter it a ((n:Int) - 1 -(i:Int))) where
 mem:=by simp
 obj:=fun i h st b hb=>by
  have e:b=it:=by simpa using hb
  subst e;obtain ⟨_,o,e,c,d⟩:=st;exact ⟨o,e,fun v z=>by rw [d] at z;cases z⟩
 keep:=fun i h h' st k=>⟨st.1,st.2.at fun o e=>k it (by simp) o e⟩
 item:=by
  intro X hP hw hK hc i pins s σ H E I hf st hg;subst hP hw hK;obtain ⟨hi,xs,x,hq,hx⟩:=hg;obtain ⟨its,rv,p,hz⟩:=I.list hq;obtain ⟨u,hu,ru⟩:=rv.get hx;obtain ⟨f0,f1,f2,f3,f4,f5⟩:=hf it (by simp);have hit:=st.2;rw [show (n:Int) - 1 -(i:Int)=((n - 1 - i:Nat):Int) by omega] at hit;refine wpAny_pyNext_rev_item hit p.isList (x:=u) (by simpa using hu) fun h' st' sb=>?_;have I1:Inv X pins σ H {s with heap:=h'}:=I.turned (t':=s.toks) (fun b o hb e=>(sb.2 b hb).trans e) f0 f1 f3 f4 f5;obtain ⟨o,e,c,d⟩:=id st';rw [show ((n - 1 - i:Nat):Int) - 1=(n:Int) - 1 -((i+1:Nat):Int) by omega] at st';exact ⟨u,rfl,zIP (s:={s with heap:=h'}) e c d (by decide) ⟨x,H,I1,ru,⟨rfl,fun ys hy=>by rw [I.list_inj hy hq];exact hx⟩,⟨hi,st'⟩,fun b hb=>(hf b hb).1⟩⟩
 done:=by
  intro X hP hw hK hc i pins s σ H E I hf st hg;subst hP hw hK;have hg':n<=i:=hg;obtain ⟨f0,f1,f2,f3,f4,f5⟩:=hf it (by simp);have hit:=st.2;have hi:=st.1;rw [show (n:Int) - 1 -(i:Int)= -1 by omega] at hit;exact wpAny_pyNext_rev_end (I.ok.hd hc) hit fun h' eb=>⟨rfl,I.turned (t':=s.toks) (fun b o hb e=>eb b o hb e) f0 f1 f3 f4 f5⟩
 self:=fun _ _ _ _ _ st h=>wpAny_pyIter_revIter st.2 h
def zOG(K:zQK)(ta:TA):TI:=fun σ H R=>ta σ H fun vs H1=> ∃a xs,vs= [.ref a] /\SqL K H1 a xs/\R (zMm K a xs.length) H1
theorem zNy{X:Cx}{tg a:Expr}{ta:TA}{p pos:Pos}(hg:Gl X "reversed")(hm:X.mg "reversed" =none)(ha:PA X [a] ta)(hs:starEach [a] X.env= [(false,eval a X.env)]):
  PI X tg (.Call (.Name "reversed" p) [a] [] pos) (zOG X.K ta):=by
 intro pins s σ H R I h;refine Call_ (zBm I hg hm zFK (PyProof.Rows.callWith_type1 (zd (ha pos pins s σ H _ I h) fun us s1 ⟨vs,H1,I1,r1,q1⟩=>?_) hs rfl));obtain ⟨l,xs,e,hq,q⟩:=q1;subst e;obtain ⟨u,rfl,ru⟩:=zBR r1;cases ru;obtain ⟨its,rv,pl,hz⟩:=I1.list hq;have hl:=rv.length;refine call_reversed_list pl.isList ?_;have e1:(its.toArray.size:Int) - 1=(xs.length:Int) - 1:=by simp;omega
 rw [e1];have st:(s1.heap.push (revObj l ((xs.length:Int) - 1))).IsRevIter s1.heap.objs.size l ((xs.length:Int) - 1):=⟨_,zPo _ rfl,rfl,rfl⟩;refine wpAny_pyIter_revIter st ?_;refine ⟨_,[s1.heap.objs.size],_,_,H1,rfl,I1.kept (t':=s1.toks) (fun b o e=>zPX _ e),zKA l _ xs.length,⟨zPk _,by simpa using st⟩,fun b hb=>?_,q⟩;have r':b=s1.heap.objs.size:=by simpa using hb
 subst r';exact I1.fpOk (zPZ _) (I1.hok.fresh (zPZ _))
theorem zIn{X:Cx}{K:zQK}{tg a:Expr}{ta:TA}{p pos:Pos}(hK:X.K=K)(hg:Gl X "reversed")(hm:X.mg "reversed" =none)(ha:QA X [a] ta)(h2:yE a=true):
  QI X tg (.Call (.Name "reversed" p) [a] [] pos) (zOG K ta):=by
 subst hK;exact ⟨zNy hg hm ha.out (by rw [zm h2];rfl)⟩
open PyProof
section
variable {X:Cx}{K:zQK}{o e:Expr}{to te:TE}{apos cpos p0:Pos}{j:Nat}
def zGG:V->List V->Hp->VK->Prop:=fun x vs H Q=> ∃l xs y,x= .ref l/\vs= [.int 0,y] /\H l=some (.lst xs)/\xs.length<sizeLine/\Q .non (upd H l (.lst (y::xs)))
theorem zIH:MtM X "list.insert" zGG:=by
 intro pins s σ H x vs v us Q I rx rv h;obtain ⟨l,xs,y,rfl,rfl,hH,hz,q⟩:=h;cases rx;obtain ⟨u0,u,rfl,⟨t,rfl⟩,ru⟩:=zQ.two rv;obtain ⟨z,its,n,r,hl,e⟩:=I.lstM hH;refine call_meets F.slot_list_insert ⟨_,e,rfl⟩ F.entry_list_insert (F.args_list_insert_3 _ _ _) (AutoListH.list_insert_list_int_val_1 l its.toArray n 0 t u (by decide) (by rw [zPp];omega)) ⟨e,?_⟩;refine ⟨.non,_,I.lset (its':=u::its) hH e (by simp) (.cons ru r) ?_,rfl,q⟩;rw [List.length_cons];omega
theorem zDQ(hK:X.K=K)(ho:QE X o to)(ha:QE X e te)(hb:attributeBase o "insert" X.env (eval o X.env)=eval o X.env)(h2:yE e=true)(hl:(apos.endLine==cpos.line)=true):
  QE X (.Call (.Attribute o "insert" apos) [.Constant (.int 0) j p0,e] [] cpos) (tBM K "list" zGG to (zAN (tC (.int 0)) (zAN te zBg))):=by
 subst hK;have h0:yE (.Constant (.int 0) j p0)=true:=rfl;exact ⟨zLX PySem.F.plainAttrs_list PySem.F.slot_list_insert PySem.F.type_list_insert zIH ho.out (yi zAR (yi ha.out zAt (zm h2)) (zm h0)) hb (by rw [zm h0,zm h2];rfl) hl (zm h0) (by rw [zm h2];rfl)⟩
theorem zLZ{X:Cx}:OpR X (binaryOp .Mult) (rI (fun i j=>FrM.Sz 60000000 i/\FrM.Sz 60000000 j) fun i j=> .int (i*j)):=
 opI fun _ _ _ _ _ _ _ hc q=>mul_int q (IntMulOk.of_le (zHi hc.1) (zHi hc.2) (by decide))
theorem zAP{X:Cx}{a b:Expr}{ta tb:TE}{pos:Pos}(ha:QE X a ta)(hb:QE X b tb):QE X (.BinOp a .Mult b pos) (tOp (rI (fun i j=>FrM.Sz 60000000 i/\FrM.Sz 60000000 j) fun i j=> .int (i*j)) ta tb):=zCq zLZ ha hb
theorem zOf{X:Cx}{a b:Expr}{ta tb:TE}{pos:Pos}(ha:QE X a ta)(hb:QE X b tb):QE X (.BinOp a .Mult b pos) (tOp zNm ta tb):=zCq zNd ha hb
end
abbrev Cx.compNX(X:Cx)(scope:Scope)(cl:List (Str×Addr))(C:Addr)(N:List Str)(s₂:Shared)(H₂:Hp)(fp:List Addr)(xe:Value->Shared->Prop):Cx:={X.compN scope cl C N s₂ H₂ fp with xe:=xe}
section
variable {X:Cx}{scope:Scope}{cl:List (Str×Addr)}{C:Addr}{N:List Str}{s₂:Shared}{H₂:Hp}{fp:List Addr}{xe:Value->Shared->Prop}{pins:List (Addr×Obj)}{σ:St}{H:Hp}{s:Shared}
theorem Inv.compNX(I:Inv (X.compN scope cl C N s₂ H₂ fp) pins σ H s):Inv (X.compNX scope cl C N s₂ H₂ fp xe) pins σ H s:=
 ⟨⟨I.ok.mod,I.ok.kind,I.ok.glob,I.ok.blt,I.ok.above,I.ok.inj,I.ok.has,I.ok.cab,I.ok.hd,I.ok.frames,I.ok.stk,I.ok.exf,I.ok.bs,I.ok.bsz,I.ok.noex,I.ok.exfs,I.ok.funs,I.ok.frf⟩,I.os,I.bare,I.base,I.loc,I.cell,I.free,I.freeC,I.pin,I.hok,I.len⟩
theorem Inv.compN(I:Inv (X.compNX scope cl C N s₂ H₂ fp xe) pins σ H s):Inv (X.compN scope cl C N s₂ H₂ fp) pins σ H s:=
 ⟨⟨I.ok.mod,I.ok.kind,I.ok.glob,I.ok.blt,I.ok.above,I.ok.inj,I.ok.has,I.ok.cab,I.ok.hd,I.ok.frames,I.ok.stk,I.ok.exf,I.ok.bs,I.ok.bsz,I.ok.noex,I.ok.exfs,I.ok.funs,I.ok.frf⟩,I.os,I.bare,I.base,I.loc,I.cell,I.free,I.freeC,I.pin,I.hok,I.len⟩
end
theorem Inv.compN0{X:Cx}{scope:Scope}{cl:List (Str×Addr)}{C:Addr}{N:List Str}{s₂:Shared}{H₂:Hp}{fp:List Addr}{pins:List (Addr×Obj)}{σ:St}{H:Hp}{s:Shared}(I:Inv (X.compN scope cl C N s₂ H₂ fp) pins σ H s):Inv (X.comp scope (cellsFrom (C+1) scope.names cl) C N s₂ H₂ fp) pins σ H s:=
 ⟨⟨I.ok.mod,I.ok.kind,I.ok.glob,I.ok.blt,I.ok.above,I.ok.inj,I.ok.has,fun y a z _=>(nomatch z),I.ok.hd,I.ok.frames,I.ok.stk,I.ok.exf,I.ok.bs,I.ok.bsz,I.ok.noex,I.ok.exfs,I.ok.funs,I.ok.frf⟩,I.os,I.bare,I.base,I.loc,I.cell,I.free,I.freeC,I.pin,I.hok,I.len⟩
theorem zJA{X:Cx}{i0:Nat}{x:Str}{pos' spos:Pos}{elt iter tg:Expr}{ifs:List Expr}{zs:List Str}{pos:Pos}{scope:Scope}{cl:List (Str×Addr)}{ys:List Str}{fr:List Nat}{wi:TI}{g:TG}{tt:TT}{te:(St->XK)->TE}{E:St->XK}(hcm:X.calm=true)(hp:zBf X E)(hN:X.N.Nodup)(hi0:X.N[i0]?=some x)(hx0:Loc X.env.scope x)(hf0:X.fn x=true\/X.env.scope.names.lookup x=some .local)
  (hsw:swapsWith (.ListComp elt [⟨tg,iter,ifs,0⟩] scope pos) (some (.Name x pos')) spos.line X.env=pure true)
  (hi:PI X tg iter wi) (hclos:closureFor scope X.env=pure cl) (hkind:scope.kind= .function) (hnames: ∀y∈scope.names,y.2= .local->scope.names.lookup y.1=some .local)
  (hcl: ∀y a,cl.lookup y=some a->X.env.cells.lookup y=some a)
  (hlen:ys.length=fr.length) (hfr: ∀(j:Nat) y i,ys[j]?=some y->fr[j]?=some i->X.N[i]?=some y/\X.env.kindOf y=some .cell/\(relabel scope X.env).names.lookup y=some .cell/\ ∃a,(∀C:Addr,(cellsFrom (C+1) scope.names cl).lookup y=some a)/\X.env.cells.lookup y=some a)
  (hhas: ∀C:Addr,∀y,((relabel scope X.env).names.lookup y=some .cell\/(relabel scope X.env).names.lookup y=some .free)-> ∃a,(cellsFrom (C+1) scope.names cl).lookup y=some a)
  (hg: ∀C s₂ H₂ fp,PG (X.compN scope cl C (zs++ys) s₂ H₂ fp) tg g) (hc: ∀C s₂ H₂ fp,PTs (X.compN scope cl C (zs++ys) s₂ H₂ fp) ifs tt) (he: ∀C s₂ H₂ fp xe E',zDW (Fly X.prog X.w) (X.compNX scope cl C (zs++ys) s₂ H₂ fp xe) E'->PE (X.compNX scope cl C (zs++ys) s₂ H₂ fp xe) elt (te E')) (hs: ∀v,foldedSetIterable iter X.env v=pure v:=by intro _;rfl):
  PS X (.Assign [.Name x pos'] (.ListComp elt [⟨tg,iter,ifs,0⟩] scope pos) spos) (zCg (zJY wi g tt te zs.length fr E) (yR i0)):=by
 intro pins s σ H Dn I h;change zBu wi g tt (te fun _=>E σ) zs.length fr σ H (fun v H1=>yR i0 v σ H1 Dn.nx) at h;rw [exec_Assign_Name_used _ _ _ _ hsw];refine zPW (wpAny_standAt (zPW ?_));show wpAny _ X.A (do let _<-comprehension (.ListComp elt [⟨tg,iter,ifs,0⟩] scope pos) scope X.env _ (newList []) false (eval iter X.env) (some (assign (.Name x pos') X.env))) _ _ s;refine zPW (zPq (wpAny_comprehension_free (use:=some (assign (.Name x pos') X.env)) (Q:=fun _ s'=>SP X pins Dn .next s') rfl hs hclos hkind hnames (zd (hi pins s σ H _ I h) fun v s1 h1=>zd h1 fun itv s2 h2=>?_)) (fun _ s' hq=>zPb (zPb hq)) fun _ _ e=>e);obtain ⟨it,fp,tn,J,H2,e,I2,T,st2,f2,h2⟩:=h2;subst e;have hD:H2 s2.heap.objs.size=none:=I2.hok.fresh (zPZ _);obtain ⟨W,⟨m0,w0⟩,turn⟩:=h2 s2.heap.objs.size hD;refine wpAny_newObj_type (zDm (fun h₁ hh₁ hns₁=>?_));dsimp only at hh₁ hns₁⊢;generalize hH3:s2.heap.push {cls:= .type "list",dict:=none,data:= .seq ([] :List Value).toArray}=H3 at hh₁ hns₁⊢;have hCs:H3.objs.size=s2.heap.objs.size+1:=by rw [<-hH3,Heap.size_push]
 have old: ∀b o,s2.heap.get? b=some o->h₁.get? b=some o:=fun b o e=>
  hh₁▸pushCells_keeps _ _ b o (zPX _ (hH3▸zPX _ e))
 have hacc:h₁.get? s2.heap.objs.size=some {cls:= .type "list",dict:=none,data:= .seq ([] :List Value).toArray}:=
  hh₁▸pushCells_keeps _ _ _ _ (zPX _ (hH3▸zPo _ rfl))
 have fplt: ∀b∈fp,@LT.lt Nat _ b s2.heap.objs.size:=fun b hb=>by
  obtain ⟨o,e,_⟩:=T.obj _ _ st2 b hb;exact zx e
 have hCz:(H3.push {cls:= .type "dict",data:= .dict #[]}).objs.size=H3.objs.size+1:=Heap.size_push ..;have clt: ∀y a,cl.lookup y=some a-> @LT.lt Nat _ a s2.heap.objs.size:=fun y a e=>by
  obtain ⟨v,o,ho,hd⟩:=I2.cell y a (hcl y a e);exact zx ho
 have csp: ∀y a,(cellsFrom (H3.objs.size+1) scope.names cl).lookup y=some a->cl.lookup y=some a\/(@LE.le Nat _ (H3.objs.size+1) a/\h₁.IsCell a none):=fun y a e=>by
  have z:=zBQ scope.names (H3.push {cls:= .type "dict",data:= .dict #[]}) cl y a (by rw [hCz];exact e);rw [hCz] at z;rw [hh₁];exact z
 have okC:(X.compN scope cl H3.objs.size (zs++ys) s2 H2 fp).Ok:=by
  refine ⟨I2.ok.mod,hkind,I2.ok.glob,I2.ok.blt,?_,zCA scope.names (H3.objs.size+1) cl (fun y a e=>zPe (clt y a e) (by omega)) (fun y z a h1 h2=>I2.ok.inj y z a (hcl y a h1) (hcl z a h2)),fun y hy=>hhas _ y hy,fun y a z e=>zCD scope.names (H3.objs.size+1) cl s2.heap.objs.size y (by omega) (.inl (by simpa using z)) a e,I2.ok.hd,I2.ok.frames,.inl rfl,fun b hb=>⟨?_,fun y a e z=>?_⟩,I2.bs,zPj I2.ok.bsz I2.sz,fun b o e hb=>?_,fun b hb z=>?_,I2.stack,I2.stkFree⟩
  ·show s2.heap.objs.size<=H3.objs.size;omega
  ·show b≠H3.objs.size;have:=fplt b hb;exact zPd (by omega)
  ·rcases csp y a e with e |⟨e,_⟩
   ·exact (f2 b hb).2.2.2.2.1 y a (hcl y a e) z
   ·have:=fplt b hb;rw [<-z] at this;have e': @LE.le Nat _ (H3.objs.size+1) a:=e;omega
  ·rcases (f2 b hb).2.2.2.1 with z | z
   ·exact I2.ok.noex b o e z
   ·have z': @LE.le Nat _ X.s₀.heap.objs.size b:=z;have: @LT.lt Nat _ b X.base.objs.size:=zx e;have:=I2.ok.bsz;omega
  ·rcases List.mem_cons.mp (I2.stkSub b z) with y | y
   ·exact (f2 b hb).2.1 y
   ·exact (f2 b hb).2.2.1 y
 have fpok: ∀{H':Hp},(∀b∈fp,H' b=none)-> ∀b∈fp,zAo (X.compN scope cl H3.objs.size (zs++ys) s2 H2 fp) [] H' b:=fun hn b hb=>
  ⟨hn b hb,(okC.exf b hb).1,okC.exfs b hb,.inl hb,(okC.exf b hb).2,fun p hp=>absurd hp (by simp)⟩
 have start:Inv (X.compN scope cl H3.objs.size (zs++ys) s2 H2 fp) [] (List.replicate zs.length none++zX fr σ) (upd H2 s2.heap.objs.size (.lst [])) {s2 with heap:=h₁,toks:=s2.toks+([] :List (Str×Value)).length}:=by
  refine ⟨okC,rfl,I2.bare,Un.laid old (zPZ _) hD,⟨_,hns₁,fun j y v e1 e2 e3=>?_⟩,fun y a e=>?_,?_,fun y a e=>?_,fun p hp=>absurd hp (by simp),I2.hok.laid old (zPZ _) ⟨zPk _,[],_,.nil,hacc⟩,?_⟩
  ·by_cases hj:j<zs.length
   ·rw [List.getElem?_append_left (by simpa using hj),List.getElem?_replicate] at e2;rw [if_pos hj] at e2;cases e2
   ·obtain ⟨j,rfl⟩: ∃k,j=zs.length+k:=⟨j - zs.length,by omega⟩;have e1':ys[j]?=some y:=by
     have z:=e1;simp only [Cx.comp] at z;rw [List.getElem?_append_right (by omega)] at z;simpa using z
    have e2':(zX fr σ)[j]?=some (some v):=by
     rw [List.getElem?_append_right (by simp)] at e2;simpa using e2
    unfold zX at e2';rw [zPa] at e2';cases q:fr[j]? with
    | none=>rw [q] at e2';cases e2'
    | some i=>
     rw [q] at e2';have e4:(σ[i]?).getD none=some v:=Option.some.inj e2';have e5:σ[i]?=some (some v):=by
      cases q2:σ[i]? with
      | none=>rw [q2] at e4;cases e4
      | some z=>rw [q2] at e4;exact congrArg some e4
     obtain ⟨hN,hk,hl,a,ha,ha'⟩:=hfr j y i e1' q;obtain ⟨m,_,hl2⟩:=I2.loc;obtain ⟨u,r,l⟩:=hl2 i y v hN e5 (.inr (.inl hk));refine ⟨u,r,.inr ⟨.inl hl,a,ha _,?_⟩⟩;rcases l with ⟨k,_⟩|⟨_,a2,ea,z⟩
     ·rw [hk] at k;cases k
     ·rw [ha'] at ea;cases ea;obtain ⟨o,ho,hd⟩:=z;exact ⟨o,old _ _ ho,hd⟩
  ·rcases csp y a e with e |⟨_,e⟩
   ·obtain ⟨v,o,ho,hd⟩:=I2.cell y a (hcl y a e);exact ⟨v,o,old _ _ ho,hd⟩
   ·exact ⟨none,e⟩
  ·show upd H2 s2.heap.objs.size (.lst []) H3.objs.size=none;rw [zH (by first | exact zPd (by omega)| exact zQE (by omega))];exact I2.hok.fresh (by omega)
  ·rcases csp y a e with e |⟨e,_⟩
   ·have:=clt y a e;rw [zH (by first | exact zPd (by omega)| exact zQE (by omega))];exact I2.freeC y a (hcl y a e)
   ·have e': @LE.le Nat _ (H3.objs.size+1) a:=e;rw [zH (by first | exact zPd (by omega)| exact zQE (by omega))];exact I2.hok.fresh (by show @LE.le Nat _ s2.heap.objs.size a;omega)
  ·show (List.replicate zs.length none++zX fr σ).length=(zs++ys).length;unfold zX;simp [hlen]
 have loop: ∀s₃:Shared,s₃={s2 with heap:=h₁,toks:=s2.toks+([] :List (Str×Value)).length}->
   codeAny (model X.prog X.w) X.A (.compLoop (.ListComp elt [⟨tg,iter,ifs,0⟩] scope pos) 0 (.ref it) (.ref s2.heap.objs.size) (compEnvC scope (cellsFrom (H3.objs.size+1) scope.names cl) H3.objs.size X.env)) (compPost (model X.prog X.w) X.A X.xe (some (assign (.Name x pos') X.env)) (fun _ s'=>SP X pins Dn .next s') (.ref s2.heap.objs.size) H3.objs.size) s₃:=by
  rintro s₃ rfl;have flown: ∀e s',(∃pn σ' Hx sx,Inv (X.compN scope cl H3.objs.size (zs++ys) s2 H2 fp) pn σ' Hx sx/\Fly X.prog X.w X.stack Hx sx (E σ) e s')->notedBy (model X.prog X.w) X.A (compEnvC scope (cellsFrom (H3.objs.size+1) scope.names cl) H3.objs.size X.env) (fun e s=>compPost (model X.prog X.w) X.A X.xe (some (assign (.Name x pos') X.env)) (fun _ s'=>SP X pins Dn .next s') (.ref s2.heap.objs.size) H3.objs.size (.error e) s) e s':=by
   rintro e s' ⟨pn,σ',Hx,sx,Ix,hx⟩;refine zEV (Q:=fun _ s'=>SP X pins Dn .next s') (acc:= .ref s2.heap.objs.size) hp I2 (fun b hb=>?_) (by omega) Ix.compN0 hx;rcases (f2 b hb).2.2.2.1 with z | z
   ·rw [hp.1] at z;cases z
   ·exact z
  refine zDo (E0:=fun e s'=> ∃pn σ' Hx sx,Inv (X.compN scope cl H3.objs.size (zs++ys) s2 H2 fp) pn σ' Hx sx/\Fly X.prog X.w X.stack Hx sx (E σ) e s') flown (fun n s'=> ∃i pre ys' H',pre.length=zs.length/\Inv (X.compN scope cl H3.objs.size (zs++ys) s2 H2 fp) [] (pre++zX fr σ) H' s'/\tn i s'.heap/\(∀b∈fp,H' b=none)/\W i n ys' H') ?_ m0
   ⟨0,List.replicate zs.length none,[],_,by simp,start,T.keep _ _ _ st2 fun b hb o e=>old b o e,fun b hb=>by
    have:=fplt b hb;rw [zH (by first | exact zPd (by omega)| exact zQE (by omega))];exact (f2 b hb).1,w0⟩
  rintro n s3 ⟨i,pre,ys3,H',hpl,I3,st3,fr3,w3⟩;obtain ⟨hl3,alt⟩:=turn i n ys3 H' w3;rcases alt with ⟨stop,qn⟩|⟨go,hz,N,hN,step⟩
  ·refine zPq (T.done (X.compN scope cl H3.objs.size (zs++ys) s2 H2 fp) rfl rfl rfl hcm i [] s3 _ H' (fun _ _=>False) I3 (fpok fr3) st3 stop) (fun r s4 h4=>?_) fun _ _ z=>z.elim;obtain ⟨hr,I4⟩:=h4;subst hr;obtain ⟨m4,hn4,_⟩:=id I4.loc;have back: ∀h'',Heap.SameBut H3.objs.size s4.heap h''->Inv X pins σ H' {s4 with heap:=h''}:=by
    intro h'' hs'';have hb: ∀b o,b≠H3.objs.size->s4.heap.get? b=some o->h''.get? b=some o:=fun b o hb e=>(hs''.2 b hb).trans e;refine I2.call' (s':={s4 with heap:=h''}) (ch:=fp) I4.os ⟨fun b o e n hb' hx'=>?_,fun b o e n hb' hx'=>?_,fun b o e n hx'=>I4.base.free b o e n hx',fun b o e hx'=>?_,I4.base.tups,I4.base.frzs,I4.base.tbls⟩ (fun b u e=>?_) I4.bare fun b hb'=>⟨(f2 b hb').2.2.2.1,(f2 b hb').2.1,(f2 b hb').2.2.2.2.1,(f2 b hb').2.2.2.2.2⟩
    ·exact hb b o (zPd (by have:=zx e;omega)) (I4.base.keep b o e n hb' hx')
    ·obtain ⟨sl,q⟩:=I4.base.slot b o e n hb' hx';exact ⟨sl,hb b _ (zPd (by have:=zx e;omega)) q⟩
    ·obtain ⟨o',q⟩:=I4.base.there b o e hx';exact ⟨o',hb b _ (zPd (by have:=zx e;omega)) q⟩
    ·refine (I4.hok b u e).stay (fun c' w' hc' q=>hb c' w' ?_ q) (fun _ q=>q) fun _ _ q=>q;intro z;have fz:H' H3.objs.size=none:=I4.free;rcases hc' with y | y
     ·rw [<-y,z,fz] at e;cases e
     ·rw [z,fz] at y;cases y
   have I5:Inv X pins σ H' s4:=back s4.heap (Heap.SameBut.refl _ _);have hCs2: @LE.le Nat _ s2.heap.objs.size H3.objs.size:=by omega
   have fz:H' H3.objs.size=none:=I4.free;have cneL:H3.objs.size≠X.env.locals:=fun z=>by
    have z1: @LT.lt Nat _ X.env.locals s2.heap.objs.size:=I2.lt;have z': @Eq Nat H3.objs.size X.env.locals:=z;omega
   have cneC: ∀y c,X.env.cells.lookup y=some c->c≠H3.objs.size:=fun y c e z=>by
    obtain ⟨v,o,ho,_⟩:=I2.cell y c e;have z1:=zx ho;have z': @Eq Nat c H3.objs.size:=z;omega
   show wpAny _ X.A (assign (.Name x pos') X.env (.ref s2.heap.objs.size)) _ _ s4;refine wpAny_assign_Name (zDI I5 hN hi0 hx0 (v:= .ref s2.heap.objs.size) rfl (fun s5 I6 ⟨a,sba,ha⟩=>?_) hf0);have nea:H3.objs.size≠a:=by
    rcases ha with z | z
    ·rw [z];exact cneL
    ·exact fun y=>cneC x a z y.symm
   obtain ⟨oC,es,ep,hoC,rC⟩:=hn4;refine ⟨m4,⟨oC,es,ep,(sba.2 _ nea).trans hoC,rC⟩,fun h'' hs''=>?_⟩;have hb: ∀b o,b≠H3.objs.size->s5.heap.get? b=some o->h''.get? b=some o:=fun b o hb e=>(hs''.2 b hb).trans e;have neb: ∀b:Addr,b∉ [H3.objs.size] ->b≠H3.objs.size:=fun b hb z=>hb (by simp [z]);have I7:Inv X pins (σ.set i0 (some (.ref s2.heap.objs.size))) H' {s5 with heap:=h''}:=by
    refine I6.call' (s':={s5 with heap:=h''}) (ch:= [H3.objs.size]) rfl ⟨fun b o e n hb' hx'=>hb b o (neb b hx') e,fun b o e n hb' hx'=>⟨o.slots,hb b o (neb b hx') e⟩,fun b o e n hx'=>n,fun b o e hx'=>⟨o,hb b o (neb b hx') e⟩,fun b xs e=>e,fun b o u e=>e,fun b ps e=>⟨#[],by simpa using e⟩⟩ (fun b u e=>?_) I6.bare fun b hb'=>?_
    ·refine (I6.hok b u e).stay (fun c' w' hc' q=>hb c' w' ?_ q) (fun _ q=>q) fun _ _ q=>q;intro z;rcases hc' with y | y
     ·rw [<-y,z,fz] at e;cases e
     ·rw [z,fz] at y;cases y
    ·have eb:b=H3.objs.size:=by simpa using hb'
     subst eb;refine ⟨.inr ?_,cneL,cneC,fun p hp z=>?_⟩
     ·have z1: @LE.le Nat _ X.s₀.heap.objs.size s2.heap.objs.size:=I2.sz;show @LE.le Nat _ X.s₀.heap.objs.size H3.objs.size;omega
     ·have z1:=zx (I2.pin p hp).1;have z': @Eq Nat p.1 H3.objs.size:=z;omega
   exact ⟨_,H',I7,qn⟩
  ·refine zPq (T.item (X.compN scope cl H3.objs.size (zs++ys) s2 H2 fp) rfl rfl rfl hcm i [] s3 _ H' (fun _ _=>False) I3 (fpok fr3) st3 go) (fun r s4 h4=>?_) fun _ _ z=>z.elim;obtain ⟨u,hr,h4⟩:=h4;subst hr;dsimp only;have asg:wpAny (model X.prog X.w) X.A (letOwnedTupleGo tg (.ref it) u) (fun _ s5=>wpAny (model X.prog X.w) X.A (assign tg (compEnvC scope (cellsFrom (H3.objs.size+1) scope.names cl) H3.objs.size X.env) u)
     (fun _ s6=> ∃σ5 H6,(∃pn5,Inv (X.compN scope cl H3.objs.size (zs++ys) s2 H2 fp) pn5 σ5 H6 s6/\(∀b∈fp,∃o,(b,o)∈pn5))/\((∃zh:St,zh.length=zs.length/\σ5=zh++zX fr σ)/\
      tt σ5 H6 fun b H3'=>if b=true then te (fun _=>E σ) σ5 H3' fun y H4=>H4 s2.heap.objs.size=some (.lst ys3)/\N (ys3++ [y]) (upd H4 s2.heap.objs.size (.lst (ys3++ [y]))) else N ys3 H3')/\tn (i+1) s6.heap/\ ∀b∈fp,H6 b=none) (fun _ _=>False) s5) (fun _ _=>False) s4:=by
    refine (zd h4 fun _ s5 ⟨x5,H5,I5,r5,y5,st5,fr5⟩=>?_);have I5':=I5.pinned (fpok fr5) (T.obj _ _ st5);refine zPq (hg _ _ _ _ _ s5 _ H5 x5 u _ I5' r5 (step x5 H5 y5 pre hpl)) (fun _ s6 ⟨σ6,H6,I6,q6⟩=>?_) fun _ _ z=>z.elim;exact ⟨σ6,H6,⟨_,I6,fun b hb=>by
     obtain ⟨o,e,_⟩:=T.obj _ _ st5 b hb;exact ⟨o,zPl _ (yC hb e)⟩⟩,q6,T.keep _ _ _ st5 fun b hb o e=>(I6.pin (b,o) (zPl _ (zPl _ (yC hb e)))).1,fun b hb=>by
     obtain ⟨o,e,_⟩:=T.obj _ _ st5 b hb;exact (I6.pin (b,o) (zPl _ (zPl _ (yC hb e)))).2.1⟩
   refine zPq asg (fun _ s5 h5=>zPq h5 (fun _ s6 h6=>?_) fun _ _ z=>z.elim) fun _ _ z=>z.elim;obtain ⟨σ5,H5,⟨pn5,I6,hp6⟩,⟨⟨zh,hl2,rfl⟩,q6⟩,st6,fr5⟩:=h6;have keepTurn: ∀{σ7:St} {H7:Hp} {s7:Shared},Inv (X.compN scope cl H3.objs.size (zs++ys) s2 H2 fp) pn5 σ7 H7 s7->tn (i+1) s7.heap/\ ∀b∈fp,H7 b=none:=fun {σ7 H7 s7} I7=>by
    refine ⟨T.keep _ _ _ st6 fun b hb o e=>?_,fun b hb=>?_⟩
    ·obtain ⟨o',hm⟩:=hp6 b hb;have a1:=(I6.pin (b,o') (zPl _ hm)).1;rw [e] at a1;cases a1;exact (I7.pin (b,_) (zPl _ hm)).1
    ·obtain ⟨o',hm⟩:=hp6 b hb;exact (I7.pin (b,o') (zPl _ hm)).2.1
   have drop: ∀{σ7:St} {H7:Hp} {s7:Shared},Inv (X.compN scope cl H3.objs.size (zs++ys) s2 H2 fp) pn5 σ7 H7 s7->Inv (X.compN scope cl H3.objs.size (zs++ys) s2 H2 fp) [] σ7 H7 s7:=fun I7=>I7.pins_of fun p hp=>absurd hp (by simp);have tests:wpAny (model X.prog X.w) X.A (zAq ifs (compEnvC scope (cellsFrom (H3.objs.size+1) scope.names cl) H3.objs.size X.env)) (fun b s7=> ∃H7,Inv (X.compN scope cl H3.objs.size (zs++ys) s2 H2 fp) pn5 (zh++zX fr σ) H7 s7/\
     (if b=true then te (fun _=>E σ) (zh++zX fr σ) H7 fun y H4=>H4 s2.heap.objs.size=some (.lst ys3)/\N (ys3++ [y]) (upd H4 s2.heap.objs.size (.lst (ys3++ [y]))) else N ys3 H7)) (fun _ _=>False) s6:=by
    rcases hc H3.objs.size s2 H2 fp with ⟨rfl,rfl⟩|⟨c,rfl,hc2⟩
    ·exact wpAny_tests_nil ⟨H5,I6,q6⟩
    ·exact wpAny_tests_one (zPq (hc2 pn5 s6 _ H5 _ I6 q6) (fun b s7 ⟨H7,I7,q7⟩=>⟨H7,I7,q7⟩) fun _ _ z=>z.elim)
   refine zPq tests (fun b s7 h7=>?_) fun _ _ z=>z.elim;obtain ⟨H7,I7,q7⟩:=h7;cases b with
   | false=>
    obtain ⟨m',hm,w'⟩:=hN _ _ q7;obtain ⟨k1,k2⟩:=keepTurn I7;exact ⟨m',hm,i+1,zh,ys3,H7,hl2,drop I7,k1,k2,w'⟩
   | true=>
    refine zPq (he _ _ _ _ (fun e s'=> ∃pn σ' Hx sx,Inv (X.compN scope cl H3.objs.size (zs++ys) s2 H2 fp) pn σ' Hx sx/\Fly X.prog X.w X.stack Hx sx (E σ) e s') (fun _=>E σ) (fun pn σ' Hx sx e s' Ix hx=>⟨pn,σ',Hx,sx,Ix.compN,hx⟩) pn5 s7 _ H7 _ I7.compNX q7) (fun y s8 h8=>?_) fun _ _ z=>z;obtain ⟨yv,H8,I8',r8,hl8,n8⟩:=h8;have I8:=I8'.compN;refine zPq (zBU (X:=X.compN scope cl H3.objs.size (zs++ys) s2 H2 fp) pn5 s8 _ H8 (.ref s2.heap.objs.size) [yv] (.ref s2.heap.objs.size) [y] (fun z H9=>N (ys3++ [yv]) H9) I8 rfl (.cons r8 .nil) ⟨s2.heap.objs.size,ys3,yv,rfl,rfl,hl8,hz,n8⟩) (fun _ s9 h9=>?_) fun _ _ z=>z.elim;obtain ⟨_,H9,I9,_,n9⟩:=h9;obtain ⟨m',hm,w'⟩:=hN _ _ n9;obtain ⟨k1,k2⟩:=keepTurn I9;exact ⟨m',hm,i+1,zh,ys3++ [yv],H9,hl2,drop I9,k1,k2,w'⟩
 exact codeAny_compStart_list (loop _ rfl) (T.self X.A 0 _ _ _ (T.keep _ _ _ st2 fun b hb o e=>old b o e) (loop _ rfl))
theorem zHy{X:Cx}{x:Str}{pos' spos:Pos}{elt iter tg:Expr}{ifs:List Expr}{E:St->XK}(hp:zBf X E)(i0:Nat)(hN:X.N.Nodup)(hi0:X.N[i0]?=some x)(hx0:Loc X.env.scope x)(hf0:X.fn x=true\/X.env.scope.names.lookup x=some .local)
  (zs:List Str) {pos:Pos} {scope:Scope} {cl:List (Str×Addr)} (ys:List Str) (fr:List Nat) {wi:TI} {g:TG} {tt:TT} {te:(St->XK)->TE} (hcm:X.calm=true)
  (hi:QI X tg iter wi) (hclos:closureFor scope X.env=pure cl) (hkind:scope.kind= .function) (hnames: ∀y∈scope.names,y.2= .local->scope.names.lookup y.1=some .local)
  (hcl: ∀y a,cl.lookup y=some a->X.env.cells.lookup y=some a)
  (hlen:ys.length=fr.length) (hfr: ∀(j:Nat) y i,ys[j]?=some y->fr[j]?=some i->X.N[i]?=some y/\X.env.kindOf y=some .cell/\(relabel scope X.env).names.lookup y=some .cell/\ ∃a,(∀C:Addr,(cellsFrom (C+1) scope.names cl).lookup y=some a)/\X.env.cells.lookup y=some a)
  (hhas: ∀C:Addr,∀y,((relabel scope X.env).names.lookup y=some .cell\/(relabel scope X.env).names.lookup y=some .free)-> ∃a,(cellsFrom (C+1) scope.names cl).lookup y=some a)
  (hg: ∀C s₂ H₂ fp,QG (X.compN scope cl C (zs++ys) s₂ H₂ fp) tg g) (hc: ∀C s₂ H₂ fp,QTs (X.compN scope cl C (zs++ys) s₂ H₂ fp) ifs tt) (he: ∀C s₂ H₂ fp xe E',zDW (Fly X.prog X.w) (X.compNX scope cl C (zs++ys) s₂ H₂ fp xe) E'->QE (X.compNX scope cl C (zs++ys) s₂ H₂ fp xe) elt (te E')) (hs: ∀v,foldedSetIterable iter X.env v=pure v)
  (hsw:swapsWith (.ListComp elt [⟨tg,iter,ifs,0⟩] scope pos) (some (.Name x pos')) spos.line X.env=pure true):
  QS X (.Assign [.Name x pos'] (.ListComp elt [⟨tg,iter,ifs,0⟩] scope pos) spos) (zCg (zHg wi g tt te zs.length fr E) (yR i0)):=
 ⟨fun pins s σ H D I h=>zJA hcm hp hN hi0 hx0 hf0 hsw (zEr hi).out hclos hkind hnames hcl hlen hfr hhas (fun C s H f=>(hg C s H f).out) (fun C s H f=>(hc C s H f).out) (fun C s H f xe E' hx=>(he C s H f xe E' hx).out) hs pins s σ H D I ⟨_,h,fun J H1 h1 D' hD=>by
  obtain ⟨len,Pv,a0,a1,a2,a3,a4⟩:=(h1 D' hD).ex;exact zCe (Q:=fun v H1=>yR i0 v σ H1 D.nx) D' len Pv a0 a1 a2 a3 a4⟩⟩
structure DeepE(X:Cx):Prop where
 ex: ∃env0 rest,X.stack=env0::rest/\env0.scope.isGenerator=false/\env0.scope.isCoroutine=false/\env0.globals=mainGlobals/\env0.builtins=builtinsNs
 tr:X.prog.given.tree=none
 rm:X.A.depth+100<recursionLimit
theorem DeepE.up{X Y:Cx}(d:DeepE X)(h1:Y.stack=X.stack)(h2:Y.A=X.A)(h3:Y.prog=X.prog):DeepE Y:=⟨by rw [h1];exact d.ex,by rw [h3];exact d.tr,by rw [h2];exact d.rm⟩
theorem DeepE.room{X:Cx}(D:DeepE X){pins:List (Addr×Obj)}{σ:St}{H:Hp}{s:Shared}(I:Inv X pins σ H s):PylongRoom (model X.prog X.w) X.A s:=by
 have hn:s.heap.NoSeer:=I.ok.mod.seer.keeps fun b o e=>I.bk b o e;obtain ⟨env0,rest,h1,h2,h3,h4,h5⟩:=D.ex;exact PylongRoom.of (I.ok.mod.nolimit.keeps fun b o e=>I.bk b o e) D.rm (SeerAt.of hn D.tr (by rw [I.ok.frames,h1]) h2 h3 h5 h4)
theorem zKk{X:Cx}(D:DeepE X):OpR X (binaryOp .FloorDiv) (rI (fun _ j=>0<j) fun i j=> .int (i/j)):=by
 intro pins s σ H x y v u Q I rx ry h;obtain ⟨i,j,rfl,rfl,hc,q⟩:=h;obtain ⟨t,rfl⟩:=rx;obtain ⟨t',rfl⟩:=ry;have hj:(0:Int)<j:=hc;exact floordiv_int (by omega) (by rw [Int.fdiv_eq_ediv_of_nonneg i (by omega)];exact ⟨.int (i/j),H,I.tok _,⟨_,rfl⟩,q⟩) (.inr (D.room I))
theorem yk{X:Cx}{a b:Expr}{ta tb:TE}{pos:Pos}(D:DeepE X)(ha:QE X a ta)(hb:QE X b tb):QE X (.BinOp a .FloorDiv b pos) (tOp (rI (fun _ j=>0<j) fun i j=> .int (i/j)) ta tb):=zCq (zKk D) ha hb
theorem zAn{CX:CXT}{P:Program}{w:World}{K:zQK}{mg:Str->Option Value}{base:Heap}{N:List Str}{qual:Str}{scope:Scope}{f:Addr}{cd:Value}{A:Around}{outer:List Env}{s:Shared}{H:Hp}{E:XK}{k:Nat}
  (hr:Room k (A.deeper (envOfC qual scope s.heap.objs.size f cd))) (hk:32<=k) (ht:P.given.tree=none) (hg:scope.isGenerator=false) (hc:scope.isCoroutine=false):
  DeepE (zAi CX P w K mg base N qual scope f cd A outer s H E):=
 ⟨⟨_,_,rfl,hg,hc,rfl,rfl⟩,ht,by have:=hr.dp;show (A.deeper (envOfC qual scope s.heap.objs.size f cd)).depth+100<recursionLimit;omega⟩
section
variable {X:Cx}{K:zQK}{CX:CXT}{k:Nat}{f C:Addr}{fd:FuncData}{ps:List Str}{sp:Sp}{dvs:List V}{ds:List Value}{E:XK}{x:Str}{p pos:Pos}{e:Expr}{es:List Expr}{t:TA}
theorem zBq(M:Mk X.K C f)(F:FnOk X.prog X.w X.K X.mg X.base CX k f fd ps sp)(hr:Room (k+1) X.A)(hg:Gl X x)(hm:X.mg x=some (.ref C))(hb:zL X.K fd ps ds)(hd:zQ dvs ds)(hx:zAc CX X E)
  (ha:QA X (e::es) t) (h1:(x==("__debug__" :Str))=false) (h2:yE e=true) (h3:zAG es=true):QE X (.Call (.Name x p) (e::es) [] pos) (zIh C sp dvs E t):=⟨zMb M F hr hg hm hb hd hx ha.out h1 (zm h2) (zAX h3)⟩
end
section
variable {X:Cx}{K:zQK}{o i e:Expr}{to ti te:TE}{tl th:TO}{lo hi:Option Expr}{pos p2 tpos:Pos}
theorem zOn(hK:X.K=K)(he:QE X e te)(hl:QO X lo tl)(hu:QO X hi th):QE X (.Subscript e (.Slice lo hi none p2) pos) (tSl (zMn K) te tl th):=by
 subst hK;exact ⟨zHE zOO he.out hl.out hu.out⟩
end
end L2
namespace FrV
abbrev Vec:=List Int
abbrev Stp:=Nat×Vec
abbrev Fn:=Nat->Int
def zA(v:Vec)(i:Nat):Int:=v.getD i 0
theorem zMt(i:Nat):zA [] i=0:=rfl
theorem zBI(x:Int)(v:Vec):zA (x::v) 0=x:=rfl
theorem zAs(x:Int)(v:Vec)(i:Nat):zA (x::v) (i+1)=zA v i:=by simp [zA]
theorem zi{v:Vec}{i:Nat}(h:v.length<=i):zA v i=0:=by simp [zA,List.getElem?_eq_none h]
theorem zAl{v:Vec}{i:Nat}(h:i<v.length):v[i]?=some (zA v i):=by simp [zA,zPV h]
theorem zHH{u v:Vec}(hl:u.length=v.length)(h: ∀i,zA u i=zA v i):u=v:=by
 refine List.ext_getElem? fun i=>?_;by_cases hi:i<u.length
 ·rw [zAl hi,zAl (by omega),h i]
 ·rw [List.getElem?_eq_none (by omega),List.getElem?_eq_none (by omega)]
def zP(a:Int)(u:Vec)(b:Int)(v:Vec):Vec:=List.zipWith (fun x y=>a*x+b*y) u v
theorem zZ{a b:Int}{u v:Vec}{n:Nat}(h1:u.length=n)(h2:v.length=n):(zP a u b v).length=n:=by simp [zP,h1,h2]
theorem yJ{a b:Int}{u v:Vec}(h:u.length=v.length)(i:Nat):zA (zP a u b v) i=a*zA u i+b*zA v i:=by
 by_cases hi:i<u.length
 ·have h2:i<v.length:=by omega
  simp [zA,zP,List.getElem?_zipWith,zPV hi,zPV h2]
 ·rw [zi (by simp [zP];omega),zi (by omega),zi (by omega)];simp
def dt:Fn->Vec->Int
 | _,[] =>0
 | x,a::e=>x 0*a+dt (fun i=>x (i+1)) e
theorem zBA(a b:Int): ∀(e:Vec) (x y:Fn),dt (fun i=>a*x i+b*y i) e=a*dt x e+b*dt y e
 | [],_,_=>by simp [dt]
 | c::e,x,y=>by
  simp only [dt];rw [zBA a b e (fun i=>x (i+1)) (fun i=>y (i+1))]
  grind
theorem zDU: ∀(e:Vec) (x:Fn),(∀i,x i=0)->dt x e=0
 | [],_,_=>rfl
 | c::e,x,h=>by simp only [dt];rw [h 0,zDU e _ (fun i=>h (i+1))];simp
theorem yz{e:Vec}{x y:Fn}(h: ∀i,x i=y i):dt x e=dt y e:=by rw [show x=y from funext h]
theorem zEc{a b:Int}{u v:Vec}(h:u.length=v.length)(e:Vec):dt (zA (zP a u b v)) e=a*dt (zA u) e+b*dt (zA v) e:=by
 rw [<-zBA];exact yz (yJ h)
def Sp:List Stp->Fn->Prop
 | [],x=> ∀i,x i=0
 |(_,v)::S,x=> ∃c:Int,Sp S (fun i=>x i - c*zA v i)
theorem Sp.congr{S:List Stp}{x y:Fn}(h:Sp S x)(e: ∀i,x i=y i):Sp S y:=by rw [<-show x=y from funext e];exact h
theorem Sp.zero: ∀(S:List Stp) {x:Fn},(∀i,x i=0)->Sp S x
 | [],_,h=>h
 |(_,v)::S,x,h=>⟨0,Sp.zero S fun i=>by rw [h i];simp⟩
theorem Sp.lin(a b:Int): ∀{S:List Stp} {x y:Fn},Sp S x->Sp S y->Sp S (fun i=>a*x i+b*y i)
 | [],x,y,h1,h2=>fun i=>by show a*x i+b*y i=0;rw [h1 i,h2 i];simp
 |(_,v)::S,x,y,⟨c,h1⟩,⟨d,h2⟩=>⟨a*c+b*d,(Sp.lin a b h1 h2).congr fun i=>by grind⟩
theorem Sp.add{S:List Stp}{x y:Fn}(h1:Sp S x)(h2:Sp S y):Sp S (fun i=>x i+y i):=(Sp.lin 1 1 h1 h2).congr fun i=>by simp
theorem Sp.sub{S:List Stp}{x y:Fn}(h1:Sp S x)(h2:Sp S y):Sp S (fun i=>x i - y i):=(Sp.lin 1 (-1) h1 h2).congr fun i=>by omega
theorem Sp.smul{S:List Stp}{x:Fn}(a:Int)(h1:Sp S x):Sp S (fun i=>a*x i):=(Sp.lin a 0 h1 h1).congr fun i=>by simp
theorem Sp.tail{p:Nat}{v:Vec}{S:List Stp}{x:Fn}(h:Sp S x):Sp ((p,v)::S) x:=⟨0,h.congr fun i=>by simp⟩
theorem Sp.head{p:Nat}{v:Vec}{S:List Stp}:Sp ((p,v)::S) (zA v):=⟨1,Sp.zero S fun i=>by omega⟩
theorem Sp.mem: ∀{S:List Stp} {q:Stp},q∈S->Sp S (zA q.2)
 |(p,v)::S,q,h=>by
  rcases List.mem_cons.mp h with rfl | h
  ·exact Sp.head
  ·exact (Sp.mem h).tail
theorem Sp.of: ∀{T S:List Stp} {x:Fn},Sp T x->(∀q∈T,Sp S (zA q.2))->Sp S x
 | [],S,x,h,_=>Sp.zero S h
 |(p,v)::T,S,x,⟨c,h⟩,hs=>by
  have h1:=Sp.of h (fun q hq=>hs q (by simp [hq]));exact (Sp.lin 1 c h1 (hs (p,v) (by simp))).congr fun i=>by simp
theorem Sp.dt: ∀{S:List Stp} {x:Fn} {e:Vec},Sp S x->(∀q∈S,dt (zA q.2) e=0)->dt x e=0
 | [],x,e,h,_=>zDU e x h
 |(p,v)::S,x,e,⟨c,h⟩,hs=>by
  have h1:=Sp.dt h (fun q hq=>hs q (by simp [hq]));have h2:=zBA 1 (-c) e x (zA v);rw [hs (p,v) (by simp)] at h2;rw [yz (y:=fun i=>x i - c*zA v i) (fun i=>by grind),h1] at h2;omega
def Ech(n:Nat):List Stp->Prop
 | [] =>True
 |(p,v)::S=>v.length=n/\p<n/\0<zA v p/\(∀j,j<p->zA v j=0)/\(∀q∈S,p<q.1)/\Ech n S
theorem Ech.mem{n:Nat}: ∀{S:List Stp} {q:Stp},Ech n S->q∈S->q.2.length=n/\q.1<n/\0<zA q.2 q.1/\ ∀j,j<q.1->zA q.2 j=0
 |(p,v)::S,q,⟨h1,h2,h3,h4,h5,h6⟩,hq=>by
  rcases List.mem_cons.mp hq with rfl | hq
  ·exact ⟨h1,h2,h3,h4⟩
  ·exact Ech.mem h6 hq
theorem Sp.ahead: ∀{n:Nat} {S:List Stp} {x:Fn} {j:Nat},Ech n S->Sp S x->(∀q∈S,j<q.1)->x j=0
 | n,[],x,j,_,h,_=>h j
 | n,(p,v)::S,x,j,⟨h1,h2,h3,h4,h5,h6⟩,⟨c,h⟩,hj=>by
  have:=Sp.ahead h6 h (fun q hq=>hj q (by simp [hq]));have h9:=h4 j (hj (p,v) (by simp));rw [h9] at this;simpa using this
theorem Sp.small: ∀{n:Nat} {S:List Stp} {x:Fn},Ech n S->Sp S x->(∀q∈S,- zA q.2 q.1<x q.1/\x q.1<zA q.2 q.1)-> ∀i,x i=0
 | n,[],x,_,h,_=>h
 | n,(p,v)::S,x,⟨h1,h2,h3,h4,h5,h6⟩,⟨c,h⟩,hs=>by
  have e:=Sp.ahead (j:=p) h6 h h5;obtain ⟨a,b⟩:=hs (p,v) (by simp);have hc:c=0:=by
   have e':x p=c*zA v p:=by omega
   simp only at a b;rw [e'] at a b;have a':(-1)*zA v p<c*zA v p:=by omega
   have b':c*zA v p<1*zA v p:=by omega
   have:=Int.lt_of_mul_lt_mul_right a' (by omega);have:=Int.lt_of_mul_lt_mul_right b' (by omega);omega
  subst hc;exact Sp.small h6 (h.congr fun i=>by simp) fun q hq=>hs q (by simp [hq])
def Red:List Stp->Prop
 | [] =>True
 |(_,v)::S=>(∀q∈S,0<=zA v q.1/\zA v q.1<zA q.2 q.1)/\Red S
theorem Sp.rest{n p:Nat}{v:Vec}{S:List Stp}{x:Fn}(h:Ech n ((p,v)::S))(hx:Sp ((p,v)::S) x)(h0:x p=0):Sp S x:=by
 obtain ⟨h1,h2,h3,h4,h5,h6⟩:=h;obtain ⟨c,hx⟩:=hx;have e:=Sp.ahead (j:=p) h6 hx h5;have hc:c*zA v p=0:=by omega
 rcases Int.mul_eq_zero.mp hc with z | z
 ·subst z;exact hx.congr fun i=>by simp
 ·omega
theorem Ech.uniq{n:Nat}: ∀{S T:List Stp},Ech n S->Red S->Ech n T->Red T->(∀x,Sp S x↔Sp T x)->S=T
 | [],[],_,_,_,_,_=>rfl
 | [],(q,u)::T,_,_,⟨h1,h2,h3,_⟩,_,h=>by
  have:=(h (zA u)).mpr Sp.head q;omega
 |(p,v)::S,[],⟨h1,h2,h3,_⟩,_,_,_,h=>by
  have:=(h (zA v)).mp Sp.head p;omega
 |(p,v)::S,(q,u)::T,hS,rS,hT,rT,h=>by
  have hS':=hS;have hT':=hT;obtain ⟨a1,a2,a3,a4,a5,a6⟩:=hS;obtain ⟨b1,b2,b3,b4,b5,b6⟩:=hT;have hpq:p=q:=by
   have k1: ¬p<q:=fun z=>by
    have:=Sp.ahead (j:=p) hT' ((h (zA v)).mp Sp.head) (fun r hr=>by
     rcases List.mem_cons.mp hr with rfl | hr
     ·exact z
     ·exact Nat.lt_trans z (b5 r hr))
    omega
   have k2: ¬q<p:=fun z=>by
    have:=Sp.ahead (j:=q) hS' ((h (zA u)).mpr Sp.head) (fun r hr=>by
     rcases List.mem_cons.mp hr with rfl | hr
     ·exact z
     ·exact Nat.lt_trans z (a5 r hr))
    omega
   omega
  subst hpq;have hr: ∀x,Sp S x↔Sp T x:=fun x=>by
   constructor
   ·intro hx;exact Sp.rest hT' ((h x).mp hx.tail) (Sp.ahead a6 hx a5)
   ·intro hx;exact Sp.rest hS' ((h x).mpr hx.tail) (Sp.ahead b6 hx b5)
  have e:=Ech.uniq a6 rS.2 b6 rT.2 hr;subst e;have hp:zA v p=zA u p:=by
   obtain ⟨c,h1⟩:=(h (zA v)).mp Sp.head;obtain ⟨d,h2⟩:=(h (zA u)).mpr Sp.head;have e1:=Sp.ahead (j:=p) a6 h1 b5;have e2:=Sp.ahead (j:=p) a6 h2 a5;have d1:zA u p∣zA v p:=⟨c,by rw [Int.mul_comm];omega⟩;have d2:zA v p∣zA u p:=⟨d,by rw [Int.mul_comm];omega⟩;have l1:=Int.le_of_dvd a3 d1;have l2:=Int.le_of_dvd b3 d2;omega
  have hd:Sp S (fun i=>zA v i - zA u i):=by
   refine Sp.rest hS' (Sp.sub Sp.head ((h (zA u)).mpr Sp.head)) ?_;show zA v p - zA u p=0;omega
  have z:=Sp.small a6 hd fun q hq=>by
   have x1:=rS.1 q hq;have x2:=rT.1 q hq;show _<zA v q.1 - zA u q.1/\zA v q.1 - zA u q.1<_;omega
  have:v=u:=zHH (a1.trans b1.symm) fun i=>by have:=z i;omega
  rw [this]
def zU:Vec->List Stp->Vec
 | r,[] =>r
 | r,(p,v)::S=>zU (zP 1 r (-(zA r p/zA v p)) v) S
theorem yB{n:Nat}: ∀{S:List Stp} {r:Vec},Ech n S->r.length=n->
  (zU r S).length=n/\Sp S (fun i=>zA r i - zA (zU r S) i)/\(∀q∈S,0<=zA (zU r S) q.1/\zA (zU r S) q.1<zA q.2 q.1)/\ ∀j,(∀q∈S,j<q.1)->zA (zU r S) j=zA r j
 | [],r,_,hr=>⟨hr,fun i=>by simp [zU],fun q hq=>(nomatch hq),fun j _=>rfl⟩
 |(p,v)::S,r,⟨h1,h2,h3,h4,h5,h6⟩,hr=>by
  have hl:(zP 1 r (-(zA r p/zA v p)) v).length=n:=zZ hr h1;have hm:=yJ (a:=1) (b:= -(zA r p/zA v p)) (u:=r) (v:=v) (by omega);obtain ⟨k1,k2,k3,k4⟩:=yB h6 hl;refine ⟨k1,⟨zA r p/zA v p,k2.congr fun i=>?_⟩,fun q hq=>?_,fun j hj=>?_⟩
  ·show zA (zP 1 r (-(zA r p/zA v p)) v) i - zA (zU (zP 1 r (-(zA r p/zA v p)) v) S) i=zA r i - zA (zU (zP 1 r (-(zA r p/zA v p)) v) S) i - zA r p/zA v p*zA v i;rw [hm i];grind
  ·rcases List.mem_cons.mp hq with rfl | hq
   ·show 0<=zA (zU (zP 1 r (-(zA r p/zA v p)) v) S) p/\zA (zU (zP 1 r (-(zA r p/zA v p)) v) S) p<zA v p;rw [k4 p h5,hm p];have e:=Int.emod_def (zA r p) (zA v p);have n1:=zPn (zA r p) (b:=zA v p) (by omega);have n2:=zPh (zA r p) h3;have e2:1*zA r p+ -(zA r p/zA v p)*zA v p=zA r p % zA v p:=by rw [e];grind
    rw [e2];exact ⟨n1,n2⟩
   ·exact k3 q hq
  ·show zA (zU (zP 1 r (-(zA r p/zA v p)) v) S) j=zA r j;rw [k4 j fun q hq=>hj q (by simp [hq]),hm j,h4 j (hj (p,v) (by simp))];simp
def egl(g l f fb:Int):Int×Int:=
 if h:0<l then egl l (g - g/l*l) fb (f - g/l*fb) else (g,f)
termination_by l.toNat
decreasing_by
 have e:=Int.emod_def g l;have n2:=zPh g h;have:g - g/l*l=g % l:=by rw [e,Int.mul_comm]
 rw [this];have:=zPn g (b:=l) (by omega);omega
theorem zHK(one other:Int): ∀(k:Nat) (g l f fb:Int),l.toNat<=k->0<g->0<=l->(∃c,g=f*one+c*other)->(∃c,l=fb*one+c*other)->
  0<(egl g l f fb).1/\(∃c,(egl g l f fb).1=(egl g l f fb).2*one+c*other)/\(egl g l f fb).1∣g/\(egl g l f fb).1∣l
 | k,g,l,f,fb,hk,hg,hl,⟨c,hc⟩,⟨d,hd⟩=>by
  unfold egl;split
  ·rename_i h
   have e:=Int.emod_def g l;have e':g - g/l*l=g % l:=by rw [e,Int.mul_comm]
   have n2:=zPh g h;have n1:=zPn g (b:=l) (by omega);cases k with
   | zero=>omega
   | succ k=>
    obtain ⟨r1,r2,r3,r4⟩:=zHK one other k l (g - g/l*l) fb (f - g/l*fb) (by rw [e'];omega) h (by rw [e'];omega) ⟨d,hd⟩ ⟨c - g/l*d,by
     generalize hq:g/l=q;rw [hq] at*
     grind⟩
    refine ⟨r1,r2,?_,r3⟩;generalize hz:egl l (g - g/l*l) fb (f - g/l*fb)=z at*;have:g=(g - g/l*l)+l*(g/l):=by grind
    rw [this];exact Int.dvd_add r4 (Int.dvd_mul_of_dvd_left r3)
  ·rename_i h
   have:l=0:=by omega
   subst this;exact ⟨hg,⟨c,hc⟩,Int.dvd_refl _,Int.dvd_zero _⟩
def zu(one other:Int):Int×Int×Int:=
 let r:=egl other (one % other) 0 1
 let least:=r.2 %(other/r.1)
 (r.1,least,(r.1 - least*one)/other)
theorem zAA{one other:Int}(h:0<other):0<(zu one other).1/\(zu one other).1∣one/\(zu one other).1∣other/\(zu one other).2.1*one+(zu one other).2.2*other=(zu one other).1
  /\0<=(zu one other).2.1/\(zu one other).2.1<other/(zu one other).1/\0<other/(zu one other).1:=by
 have e:=Int.emod_def one other;have n1:=zPn one (b:=other) (by omega);obtain ⟨r1,⟨c,r2⟩,r3,r4⟩:=zHK one other (one % other).toNat other (one % other) 0 1 (zPZ _) h n1 ⟨1,by simp⟩ ⟨-(one/other),by rw [e];grind⟩;unfold zu;generalize egl other (one % other) 0 1=r at*;obtain ⟨g,f⟩:=r;simp only at*;obtain ⟨m,hm⟩:=r3;have hmp:0<m:=by
  rcases Int.lt_or_le 0 m with z | z
  ·exact z
  ·have:=Int.mul_le_mul_of_nonneg_left z (Int.le_of_lt r1);omega
 have hq:other/g=m:=by rw [hm];exact Int.mul_ediv_cancel_left m (by omega)
 have d1:g∣one:=by
  have:one=one % other+other*(one/other):=by omega
  rw [this];exact Int.dvd_add r4 (Int.dvd_mul_of_dvd_left ⟨m,hm⟩)
 obtain ⟨w,hw⟩:=d1;rw [hq];have ef:=Int.emod_def f m;have f1:=zPn f (b:=m) (by omega);have f2:=zPh f hmp;have hd:other∣g - f % m*one:=⟨c+(f/m)*w,by rw [ef];generalize f/m=t at*;generalize f % m=s at*;grind⟩;refine ⟨r1,⟨w,hw⟩,⟨m,hm⟩,?_,f1,f2,hmp⟩;rw [Int.ediv_mul_cancel hd];omega
def part(e:Vec):List Stp->List Stp×Vec×Int
 | [] =>([],[],0)
 |(p,v)::S=>
  let r:=part e S
  let own:=dt (zA v) e
  if own=0 then ((p,v)::r.1,r.2)
  else if r.2.2=0 then (r.1,(if 0<own then v else zP (-1) v 0 v),(own.natAbs:Int))
  else
   let d:=zu own r.2.2
   let k:=(p,zU (zP (r.2.2/d.1) v (-(own/d.1)) r.2.1) r.1)::r.1
   if d.1<r.2.2 then (k,zU (zP d.2.1 v d.2.2 r.2.1) k,d.1) else (k,r.2)
structure Parted(n:Nat)(e:Vec)(S:List Stp)(k:List Stp)(vec:Vec)(r:Int):Prop where
 ech:Ech n k
 pl: ∀q∈k,∃s∈S,s.1=q.1
 dt0: ∀q∈k,dt (zA q.2) e=0
 r0:0<=r
 same:r=0->k=S
 len:0<r->vec.length=n
 dtv:0<r->dt (zA vec) e=r
 sp:0<r-> ∀x,Sp S x↔ ∃c:Int,Sp k (fun i=>x i - c*zA vec i)
 ahead:0<r-> ∀j,(∀q∈S,j<q.1)->zA vec j=0
theorem zCo{a b:Int}{u v:Vec}{n:Nat}(h1:u.length=n)(h2:v.length=n)(i:Nat):zA (zP a u b v) i=a*zA u i+b*zA v i:=yJ (by omega) i
theorem zv{n:Nat}{e:Vec}: ∀{S:List Stp},Ech n S->Parted n e S (part e S).1 (part e S).2.1 (part e S).2.2
 | [],_=>⟨trivial,fun q hq=>(nomatch hq),fun q hq=>(nomatch hq),by simp [part],fun _=>rfl,by simp [part],by simp [part],by simp [part],by simp [part]⟩
 |(p,v)::S,h=>by
  have hE:=h;obtain ⟨h1,h2,h3,h4,h5,h6⟩:=h;have I:=zv (e:=e) h6;simp only [part];generalize part e S=r at I⊢;obtain ⟨k,vec,rc⟩:=r;simp only at I⊢;have hkp: ∀q∈k,p<q.1:=fun q hq=>by
   obtain ⟨s,hs,e1⟩:=I.pl q hq;rw [<-e1];exact h5 s hs
  split
  ·rename_i h0
   refine ⟨⟨h1,h2,h3,h4,hkp,I.ech⟩,fun q hq=>?_,fun q hq=>?_,I.r0,fun z=>by rw [I.same z],I.len,I.dtv,fun hr x=>?_,fun hr j hj=>I.ahead hr j fun q hq=>hj q (by simp [hq])⟩
   ·rcases List.mem_cons.mp hq with rfl | hq
    ·exact ⟨(p,v),by simp,rfl⟩
    ·obtain ⟨s,hs,e1⟩:=I.pl q hq;exact ⟨s,by simp [hs],e1⟩
   ·rcases List.mem_cons.mp hq with rfl | hq
    ·exact h0
    ·exact I.dt0 q hq
   ·constructor
    ·rintro ⟨c,hx⟩;obtain ⟨d,hx⟩:=(I.sp hr _).mp hx;exact ⟨d,c,hx.congr fun i=>by grind⟩
    ·rintro ⟨d,c,hx⟩;exact ⟨c,(I.sp hr _).mpr ⟨d,hx.congr fun i=>by grind⟩⟩
  ·rename_i h0
   split
   ·rename_i hr0
    have ek:=I.same hr0;subst ek;have hv: ∀i,zA (if 0<dt (zA v) e then v else zP (-1) v 0 v) i=(if 0<dt (zA v) e then 1 else -1)*zA v i:=fun i=>by
     split
     ·simp
     ·rw [zCo h1 h1];simp
    have hl:(if 0<dt (zA v) e then v else zP (-1) v 0 v).length=n:=by
     split
     ·exact h1
     ·exact zZ h1 h1
    refine ⟨I.ech,fun q hq=>⟨q,by simp [hq],rfl⟩,I.dt0,by simp only;omega,fun z=>by simp only at z;omega,fun _=>hl,fun _=>?_,fun hr x=>?_,fun _ j hj=>?_⟩
    ·show dt (zA (if 0<dt (zA v) e then v else zP (-1) v 0 v)) e=_;split
     ·rename_i z;simp only;omega
     ·rw [zEc rfl];simp only;omega
    ·constructor
     ·rintro ⟨c,hx⟩;refine ⟨(if 0<dt (zA v) e then 1 else -1)*c,hx.congr fun i=>?_⟩;simp only;rw [hv i];split<;>grind
     ·rintro ⟨c,hx⟩;refine ⟨(if 0<dt (zA v) e then 1 else -1)*c,hx.congr fun i=>?_⟩;simp only;rw [hv i];split<;>grind
    ·show zA (if 0<dt (zA v) e then v else zP (-1) v 0 v) j=0;rw [hv j,h4 j (hj (p,v) (by simp))];simp
   ·rename_i hrn
    have hr:0<rc:=by have:=I.r0;omega
    obtain ⟨g1,g2,g3,g4,g5,g6,g7⟩:=zAA (one:=dt (zA v) e) hr;generalize zu (dt (zA v) e) rc=d at g1 g2 g3 g4 g5 g6 g7⊢;obtain ⟨g,x,y⟩:=d;simp only at g1 g2 g3 g4 g5 g6 g7⊢;obtain ⟨ow,how⟩:=g2;obtain ⟨rw',hrw⟩:=g3;have hg0:g≠0:=by omega
    have eo:dt (zA v) e/g=ow:=by rw [how];exact Int.mul_ediv_cancel_left _ hg0
    have er:rc/g=rw':=by rw [hrw];exact Int.mul_ediv_cancel_left _ hg0
    rw [eo,er];rw [er] at g7 g6;have hvl:=I.len hr;have hwl:(zP rw' v (-ow) vec).length=n:=zZ h1 hvl;obtain ⟨l1,l2,l3,l4⟩:=yB I.ech hwl;generalize hw:zU (zP rw' v (-ow) vec) k=w at l1 l2 l3 l4⊢;have dow:=I.dtv hr;have hdw:dt (zA w) e=0:=by
     have z1:=Sp.dt l2 I.dt0;have z2:=zBA 1 (-1) e (zA (zP rw' v (-ow) vec)) (zA w);rw [yz (y:=fun i=>zA (zP rw' v (-ow) vec) i - zA w i) (fun i=>by omega),z1,zEc (by omega),dow,how] at z2
     grind
    have hvp: ∀j,j<=p->zA vec j=0:=fun j hj=>I.ahead hr j fun q hq=>zPm hj (h5 q hq);have hwj: ∀j,j<=p->zA w j=rw'*zA v j:=fun j hj=>by
     rw [l4 j fun q hq=>zPm hj (hkp q hq),zCo h1 hvl,hvp j hj];simp
    have hpos:0<zA w p:=by rw [hwj p (zPZ p)];exact Int.mul_pos g7 h3
    have hech:Ech n ((p,w)::k):=⟨l1,h2,hpos,fun j hj=>by rw [hwj j (by omega),h4 j hj];simp,hkp,I.ech⟩;have hpl: ∀q∈(p,w)::k,∃s∈(p,v)::S,s.1=q.1:=fun q hq=>by
     rcases List.mem_cons.mp hq with rfl | hq
     ·exact ⟨(p,v),by simp,rfl⟩
     ·obtain ⟨s,hs,e1⟩:=I.pl q hq;exact ⟨s,by simp [hs],e1⟩
    have hdt: ∀q∈(p,w)::k,dt (zA q.2) e=0:=fun q hq=>by
     rcases List.mem_cons.mp hq with rfl | hq
     ·exact hdw
     ·exact I.dt0 q hq
    have det:rw'*y+ow*x=1:=by
     have z:g*(rw'*y+ow*x)=g*1:=by rw [how,hrw] at g4;grind
     exact Int.eq_of_mul_eq_mul_left hg0 z
    have hwm:Sp k (fun i=>rw'*zA v i - ow*zA vec i - zA w i):=l2.congr fun i=>by rw [zCo h1 hvl];grind
    have hk: ∀q∈k,Sp ((p,v)::S) (zA q.2):=fun q hq=>Sp.tail ((I.sp hr _).mpr ⟨0,(Sp.mem hq).congr fun i=>by simp⟩);have hvec:Sp ((p,v)::S) (zA vec):=Sp.tail ((I.sp hr _).mpr ⟨1,Sp.zero _ fun i=>by omega⟩);have hws:Sp ((p,v)::S) (zA w):=by
     have a:=Sp.of hwm hk;have b:=Sp.lin rw' (-ow) (Sp.head (p:=p) (v:=v) (S:=S)) hvec;exact (b.sub a).congr fun i=>by grind
    have hkw: ∀q∈(p,w)::k,Sp ((p,v)::S) (zA q.2):=fun q hq=>by
     rcases List.mem_cons.mp hq with rfl | hq
     ·exact hws
     ·exact hk q hq
    split
    ·rename_i hlt
     have hnl:(zP x v y vec).length=n:=zZ h1 hvl;obtain ⟨m1,m2,m3,m4⟩:=yB hech hnl;generalize hu:zU (zP x v y vec) ((p,w)::k)=u at m1 m2 m3 m4⊢;refine ⟨hech,hpl,hdt,by simp only;omega,fun z=>by simp only at z;omega,fun _=>m1,fun _=>?_,fun _ z=>?_,fun _ j hj=>?_⟩
     ·show dt (zA u) e=g;have z1:=Sp.dt m2 hdt;have z2:=zBA 1 (-1) e (zA (zP x v y vec)) (zA u);rw [yz (y:=fun i=>zA (zP x v y vec) i - zA u i) (fun i=>by omega),z1,zEc (by omega),dow,how] at z2;rw [how] at g4
      grind
     ·
      have hum:Sp ((p,w)::k) (fun i=>x*zA v i+y*zA vec i - zA u i):=m2.congr fun i=>by rw [zCo h1 hvl]
      have hw1:Sp ((p,w)::k) (fun i=>rw'*zA v i - ow*zA vec i):=by
       have a:=hwm.tail (p:=p) (v:=w);exact (a.add (Sp.head (p:=p) (v:=w) (S:=k))).congr fun i=>by grind
      constructor
      ·rintro ⟨c,hx⟩;obtain ⟨d,hx⟩:=(I.sp hr _).mp hx;refine ⟨c*ow+d*rw',?_⟩;have a:=hx.tail (p:=p) (v:=w);have b:=Sp.lin (c*y - d*x) (c*ow+d*rw') hw1 hum;refine (a.add b).congr fun i=>?_;simp only;have t1:zA v i=(rw'*y+ow*x)*zA v i:=by rw [det];simp
       have t2:zA vec i=(rw'*y+ow*x)*zA vec i:=by rw [det];simp
       generalize zA v i=A at*;generalize zA vec i=B at*;generalize zA u i=C at*
       grind
      ·rintro ⟨d,hx⟩;have a:=Sp.of hx hkw;have b:=Sp.of hum hkw;have c:=Sp.lin x y (Sp.head (p:=p) (v:=v) (S:=S)) hvec;have us:=c.sub b;exact (Sp.lin 1 d a us).congr fun i=>by grind
     ·show zA u j=0;rw [m4 j fun q hq=>by
       obtain ⟨s,hs,e1⟩:=hpl q hq;rw [<-e1];exact hj s hs,zCo h1 hvl,h4 j (hj (p,v) (by simp)),I.ahead hr j fun q hq=>hj q (by simp [hq])]
      simp
    ·rename_i hge
     have hone:rw'=1:=by
      have:rw'<=1:=by
       rcases Int.lt_or_le 1 rw' with z | z
       ·have:=Int.mul_lt_mul_of_pos_left z g1;omega
       ·exact z
      omega
     refine ⟨hech,hpl,hdt,I.r0,fun z=>absurd z hrn,fun _=>hvl,fun _=>dow,fun _ z=>?_,fun _ j hj=>I.ahead hr j fun q hq=>hj q (by simp [hq])⟩;constructor
     ·rintro ⟨c,hx⟩;obtain ⟨d,hx⟩:=(I.sp hr _).mp hx;refine ⟨d+c*ow,c,?_⟩;have a:=Sp.lin 1 c hx hwm;refine a.congr fun i=>?_;rw [hone]
      grind
     ·rintro ⟨d,hx⟩;have a:=Sp.of hx hkw;exact (Sp.lin 1 d a hvec).congr fun i=>by grind
theorem zDk{n:Nat}{e:Vec}: ∀{S:List Stp},Ech n S-> ∀q∈(part e S).1,∃s∈S,s.1=q.1/\zA s.2 s.1<=zA q.2 q.1
 | [],_,q,hq=>by simp [part] at hq
 |(p,v)::S,h,q,hq=>by
  have hE:=h;obtain ⟨h1,h2,h3,h4,h5,h6⟩:=h;have I:=zv (e:=e) h6;have J:=zDk (e:=e) h6;have up:(∃s∈S,s.1=q.1/\zA s.2 s.1<=zA q.2 q.1)-> ∃s∈(p,v)::S,s.1=q.1/\zA s.2 s.1<=zA q.2 q.1:=fun ⟨s,hs,z⟩=>⟨s,by simp [hs],z⟩;simp only [part] at hq;generalize part e S=r at I J hq;obtain ⟨k,vec,rc⟩:=r;simp only at I J hq;have key: ∀(hr:0<rc) (d:Int) (hd:0<d) (hd':d∣rc),zA v p<=zA (zU (zP (rc/d) v (-(dt (zA v) e/d)) vec) k) p:=fun hr d hd hd'=>by
   have hkp: ∀q∈k,p<q.1:=fun q hq=>by
    obtain ⟨s,hs,e1⟩:=I.pl q hq;rw [<-e1];exact h5 s hs
   rw [(yB I.ech (zZ h1 (I.len hr))).2.2.2 p hkp,zCo h1 (I.len hr),I.ahead hr p h5];have:0<rc/d:=Int.ediv_pos_of_pos_of_dvd hr (by omega) hd';have:=Int.mul_le_mul_of_nonneg_right (show 1<=rc/d by omega) (Int.le_of_lt h3);omega
  split at hq
  ·rcases List.mem_cons.mp hq with rfl | hq
   ·exact ⟨(p,v),by simp,rfl,Int.le_refl _⟩
   ·exact up (J q hq)
  ·split at hq
   ·exact up (J q hq)
   ·have hr:0<rc:=by have:=I.r0;omega
    obtain ⟨g1,g2,g3,_⟩:=zAA (one:=dt (zA v) e) hr;split at hq
    ·rcases List.mem_cons.mp hq with rfl | hq
     ·exact ⟨(p,v),by simp,rfl,key hr _ g1 g3⟩
     ·exact up (J q hq)
    ·rcases List.mem_cons.mp hq with rfl | hq
     ·exact ⟨(p,v),by simp,rfl,key hr _ g1 g3⟩
     ·exact up (J q hq)
theorem zEI{n:Nat}{e:Vec}: ∀{S:List Stp},Ech n S->Red S->Red (part e S).1
 | [],_,_=>trivial
 |(p,v)::S,h,hR=>by
  have hE:=h;obtain ⟨h1,h2,h3,h4,h5,h6⟩:=h;have I:=zv (e:=e) h6;have J:=zDk (e:=e) h6;have R:=zEI (e:=e) h6 hR.2;simp only [part];generalize part e S=r at I J R⊢;obtain ⟨k,vec,rc⟩:=r;simp only at I J R⊢;split
  ·refine ⟨fun q hq=>?_,R⟩;obtain ⟨s,hs,e1,e2⟩:=J q hq;have:=hR.1 s hs;rw [<-e1] at*;omega
  ·split
   ·exact R
   ·have hr:0<rc:=by have:=I.r0;omega
    have z:=(yB (r:=zP (rc/(zu (dt (zA v) e) rc).1) v (-(dt (zA v) e/(zu (dt (zA v) e) rc).1)) vec) I.ech (zZ h1 (I.len hr))).2.2.1;split
    ·exact ⟨z,R⟩
    ·exact ⟨z,R⟩
def lo(z m:Int):Int:=if m=0 then z else z % m
theorem zBs(z m:Int):m∣z - lo z m:=by
 unfold lo;split
 ·simp
 ·exact Int.dvd_self_sub_emod
theorem zDg{z m:Int}:lo z m=0↔m∣z:=by
 unfold lo;split
 ·rename_i h;subst h;exact (Int.zero_dvd).symm
 ·exact (Int.dvd_iff_emod_eq_zero).symm
abbrev Eqn:=Vec×Vec
abbrev Spt:=Nat×Vec×Int
structure Stt where
 steps:List Stp
 fixed:List Vec
 spent:List Spt
def yP(e c:Vec)(fixed:List Vec):List Int:=List.zipWith (fun f own=>dt (zA f) e+own) fixed c
def take(j:Nat)(E:Eqn)(s:Stt):Stt:=
 let r:=part E.1 s.steps
 if r.2.2=0 then s else ⟨r.1,List.zipWith (fun f own=>zU (zP 1 f (-(own/r.2.2)) r.2.1) r.1) s.fixed (yP E.1 E.2 s.fixed),s.spent++ [(j,r.2.1,r.2.2)]⟩
def zAx(E:Eqn)(s:Stt):Bool:=(yP E.1 E.2 s.fixed).all fun z=>lo z (part E.1 s.steps).2.2==0
structure Sol(n m:Nat)(Es:List Eqn)(s:Stt):Prop where
 ech:Ech n s.steps
 red:Red s.steps
 ker: ∀x,Sp s.steps x↔(∀i,n<=i->x i=0)/\ ∀E∈Es,dt x E.1=0
 fl:s.fixed.length=m
 fn: ∀f∈s.fixed,f.length=n
 fr: ∀f∈s.fixed,∀q∈s.steps,0<=zA f q.1/\zA f q.1<zA q.2 q.1
 fx: ∀(k:Nat) (f:Vec),s.fixed[k]?=some f-> ∀E∈Es,dt (zA f) E.1+zA E.2 k=0
theorem zAa(e:Vec)(x y:Fn):dt (fun i=>x i - y i) e=dt x e - dt y e:=by
 have:=zBA 1 (-1) e x y;rw [yz (y:=fun i=>x i - y i) (fun i=>by omega)] at this;omega
theorem zBK(e:Vec)(c:Int)(x:Fn):dt (fun i=>c*x i) e=c*dt x e:=by
 have:=zBA c 0 e x x;rw [yz (y:=fun i=>c*x i) (fun i=>by simp)] at this;omega
theorem zBk{e c:Vec}{fixed:List Vec}{k:Nat}{f:Vec}(hc:c.length=fixed.length)(h:fixed[k]?=some f):(yP e c fixed)[k]?=some (dt (zA f) e+zA c k):=by
 have hk:k<fixed.length:=(List.getElem?_eq_some_iff.mp h).1;simp only [yP,List.getElem?_zipWith,h,zAl (show k<c.length by omega)]
theorem zKy{n m:Nat}{Es:List Eqn}{s:Stt}{E:Eqn}{j:Nat}(I:Sol n m Es s)(hc:E.2.length=m)(hf:zAx E s=true):Sol n m (Es++ [E]) (take j E s):=by
 have P:=zv (e:=E.1) I.ech;have R:=zEI (e:=E.1) I.ech I.red;have hs: ∀k f,s.fixed[k]?=some f->lo (dt (zA f) E.1+zA E.2 k) (part E.1 s.steps).2.2=0:=fun k f h=>by
  have z:=List.all_eq_true.mp hf _ (zPz (zBk (e:=E.1) (hc.trans I.fl.symm) h));simpa using z
 unfold take;simp only;generalize part E.1 s.steps=r at P R hs⊢;obtain ⟨kp,vec,rc⟩:=r;simp only at P R hs⊢;split
 ·rename_i h0
  have e:=P.same h0;subst e;refine ⟨I.ech,I.red,fun x=>?_,I.fl,I.fn,I.fr,fun k f hk E' hE=>?_⟩
  ·rw [I.ker x];constructor
   ·rintro ⟨a,b⟩;refine ⟨a,fun E' hE=>?_⟩;rcases List.mem_append.mp hE with z | z
    ·exact b E' z
    ·rw [List.mem_singleton.mp z];exact Sp.dt ((I.ker x).mpr ⟨a,b⟩) P.dt0
   ·rintro ⟨a,b⟩;exact ⟨a,fun E' hE=>b E' (by simp [hE])⟩
  ·rcases List.mem_append.mp hE with z | z
   ·exact I.fx k f hk E' z
   ·rw [List.mem_singleton.mp z];have:=hs k f hk;rw [h0] at this;simpa [lo] using this
 ·rename_i h0
  have hr:0<rc:=by have:=P.r0;omega
  have hl:=P.len hr;have kS: ∀x,Sp kp x->Sp s.steps x:=fun x hx=>(P.sp hr x).mpr ⟨0,hx.congr fun i=>by simp⟩;have vS:Sp s.steps (zA vec):=(P.sp hr _).mpr ⟨1,Sp.zero _ fun i=>by omega⟩;have nf: ∀k f',(List.zipWith (fun f own=>zU (zP 1 f (-(own/rc)) vec) kp) s.fixed (yP E.1 E.2 s.fixed))[k]?=some f'-> ∃f,s.fixed[k]?=some f/\f'=zU (zP 1 f (-((dt (zA f) E.1+zA E.2 k)/rc)) vec) kp:=fun k f' h=>by
   cases hk:s.fixed[k]? with
   | none=>simp [List.getElem?_zipWith,hk] at h
   | some f=>
    have z:=zBk (e:=E.1) (hc.trans I.fl.symm) hk;simp [List.getElem?_zipWith,hk,z] at h;exact ⟨f,rfl,h.symm⟩
  have gt: ∀f'∈List.zipWith (fun f own=>zU (zP 1 f (-(own/rc)) vec) kp) s.fixed (yP E.1 E.2 s.fixed),∃k,(List.zipWith (fun f own=>zU (zP 1 f (-(own/rc)) vec) kp) s.fixed (yP E.1 E.2 s.fixed))[k]?=some f':=fun f' h=>List.mem_iff_getElem?.mp h;refine ⟨P.ech,R,fun x=>?_,?_,fun f' h=>?_,fun f' h=>?_,fun k f' hk E' hE=>?_⟩
  ·constructor
   ·intro hx;obtain ⟨a,b⟩:=(I.ker x).mp (kS x hx);refine ⟨a,fun E' hE=>?_⟩;rcases List.mem_append.mp hE with z | z
    ·exact b E' z
    ·rw [List.mem_singleton.mp z];exact Sp.dt hx P.dt0
   ·rintro ⟨a,b⟩;obtain ⟨c,hx⟩:=(P.sp hr x).mp ((I.ker x).mpr ⟨a,fun E' hE=>b E' (by simp [hE])⟩);have z1:=Sp.dt hx P.dt0;rw [zAa,zBK,b E (by simp),P.dtv hr] at z1;have z2:c*rc=0:=by omega
    rcases Int.mul_eq_zero.mp z2 with z | z
    ·subst z;exact hx.congr fun i=>by simp
    ·omega
  ·simp [yP,I.fl,hc]
  ·obtain ⟨k,hk⟩:=gt f' h;obtain ⟨f,hf',rfl⟩:=nf k f' hk;exact (yB P.ech (zZ (I.fn f (zPz hf')) hl)).1
  ·obtain ⟨k,hk⟩:=gt f' h;obtain ⟨f,hf',rfl⟩:=nf k f' hk;exact (yB P.ech (zZ (I.fn f (zPz hf')) hl)).2.2.1
  ·obtain ⟨f,hf',rfl⟩:=nf k f' hk;have fl:=I.fn f (zPz hf');have z0:=(yB (r:=zP 1 f (-((dt (zA f) E.1+zA E.2 k)/rc)) vec) P.ech (zZ fl hl)).2.1;have hE':dt (fun i=>zA (zP 1 f (-((dt (zA f) E.1+zA E.2 k)/rc)) vec) i - zA (zU (zP 1 f (-((dt (zA f) E.1+zA E.2 k)/rc)) vec) kp) i) E'.1=0:=by
    rcases List.mem_append.mp hE with z | z
    ·exact ((I.ker _).mp (kS _ z0)).2 E' z
    ·rw [List.mem_singleton.mp z];exact Sp.dt z0 P.dt0
   rw [zAa,zEc (by omega)] at hE';rcases List.mem_append.mp hE with z | z
   ·have v0:=((I.ker _).mp vS).2 E' z;have:=I.fx k f hf' E' z;rw [v0] at hE';omega
   ·rw [List.mem_singleton.mp z] at hE'⊢;have hv:=P.dtv hr;have hd:=zDg.mp (hs k f hf');have:=Int.ediv_mul_cancel hd;rw [hv] at hE';have e3: -((dt (zA f) E.1+zA E.2 k)/rc)*rc= -(dt (zA f) E.1+zA E.2 k):=by rw [Int.neg_mul,this]
    omega
theorem zJd{n m:Nat}{Es:List Eqn}{s:Stt}{E:Eqn}(I:Sol n m Es s)(hc:E.2.length=m)(X:Nat->Fn)(h0: ∀k,∀i,n<=i->X k i=0)(hX: ∀k,k<m-> ∀E'∈Es++ [E],dt (X k) E'.1+zA E'.2 k=0):zAx E s=true:=by
 have P:=zv (e:=E.1) I.ech;refine List.all_eq_true.mpr fun z hz=>?_;obtain ⟨k,hk⟩:=List.mem_iff_getElem?.mp hz;cases hf:s.fixed[k]? with
 | none=>simp [yP,List.getElem?_zipWith,hf] at hk
 | some f=>
  have hkl:k<s.fixed.length:=(List.getElem?_eq_some_iff.mp hf).1;rw [zBk (e:=E.1) (hc.trans I.fl.symm) hf] at hk;cases hk;rw [beq_iff_eq,zDg];have hx:Sp s.steps (fun i=>X k i - zA f i):=(I.ker _).mpr ⟨fun i hi=>by rw [h0 k i hi,zi (by rw [I.fn f (zPz hf)];exact hi)];simp,fun E' hE=>by
   rw [zAa];have a:=hX k (by rw [<-I.fl];exact hkl) E' (by simp [hE]);have b:=I.fx k f hf E' hE;omega⟩
  have a:=hX k (by rw [<-I.fl];exact hkl) E (by simp);generalize part E.1 s.steps=r at P⊢;obtain ⟨kp,vec,rc⟩:=r;simp only at P⊢;rcases Int.lt_or_eq_of_le P.r0 with hr | hr
  ·obtain ⟨c,hx⟩:=(P.sp hr _).mp hx;have z:=Sp.dt hx P.dt0;rw [zAa,zBK,zAa,P.dtv hr] at z;exact ⟨-c,by rw [Int.mul_comm,Int.neg_mul];omega⟩
  ·have e:=P.same hr.symm;subst e;have z:=Sp.dt hx P.dt0;rw [zAa] at z;rw [<-hr,Int.zero_dvd];omega
def Chn(n:Nat)(q:Nat->Vec):List Spt->(Fn->Prop)->Prop
 | [],L=> ∀x:Fn,(∀i,n<=i->x i=0)->L x
 |(j,vec,r)::ss,L=> ∃L':Fn->Prop,Chn n q ss L'/\0<r/\vec.length=n/\dt (zA vec) ((q j).take n)=r/\(∀x,L x->dt x ((q j).take n)=0)/\ ∀x,L' x-> ∃c:Int,L (fun i=>x i - c*zA vec i)
theorem Chn.take{n m:Nat}{Es:List Eqn}{s:Stt}{E:Eqn}{j:Nat}{q:Nat->Vec}(I:Sol n m Es s)(h:Chn n q s.spent.reverse (Sp s.steps))(hq:(q j).take n=E.1):Chn n q (take j E s).spent.reverse (Sp (take j E s).steps):=by
 have P:=zv (e:=E.1) I.ech;unfold FrV.take;simp only;generalize part E.1 s.steps=r at P⊢;obtain ⟨kp,vec,rc⟩:=r;simp only at P⊢;split
 ·exact h
 ·have hr:0<rc:=by have:=P.r0;omega
  rw [List.reverse_append];exact ⟨_,h,hr,P.len hr,by rw [hq];exact P.dtv hr,fun x hx=>by rw [hq];exact Sp.dt hx P.dt0,fun x hx=>(P.sp hr x).mp hx⟩
def zS(j n:Nat):Vec:=(List.range n).map fun i=>if i=j then 1 else 0
theorem yN(j n:Nat):(zS j n).length=n:=by simp [zS]
theorem yd(j n i:Nat):zA (zS j n) i=if i=j/\i<n then 1 else 0:=by
 by_cases h:i<n
 ·simp [zA,zS,h]
 ·rw [zi (by rw [yN];omega),if_neg (by omega)]
structure Cl where
 fac:Vec
 tot:Vec
 mod:Int
def los(v:Vec)(m:Int):Vec:=v.map fun z=>lo z m
theorem zBn(v:Vec)(m:Int)(i:Nat):zA (los v m) i=lo (zA v i) m:=by
 by_cases h:i<v.length
 ·simp [zA,los,h]
 ·rw [zi (by simp [los];omega),zi (by omega)];simp [lo]
theorem zAp(v:Vec)(m:Int):(los v m).length=v.length:=by simp [los]
def turn(n:Nat)(q:Nat->Vec)(len:Nat)(s:Spt)(c:Cl):Cl:=
 let own:=lo (dt (zA s.2.1) (c.tot.take n)) c.mod
 let scale:=s.2.2/(Int.gcd own s.2.2:Int)
 let times:=own*scale/s.2.2
 ⟨los (zP scale c.fac (-times) (zS s.1 len)) (c.mod*scale),los (zP scale c.tot (-times) (q s.1)) (c.mod*scale),c.mod*scale⟩
def yS(f:Vec)(q:Nat->Vec)(i:Nat):Int:=dt (fun j=>zA (q j) i) f
theorem zCW: ∀(e f:Vec) (x:Fn),e.length=f.length-> ∀a b,dt x (zP a e b f)=a*dt x e+b*dt x f
 | [],[],_,_,_,_=>by simp [dt,zP]
 | c::e,d::f,x,h,a,b=>by
  have z:=zCW e f (fun i=>x (i+1)) (by simpa using h) a b;simp only [zP,List.zipWith_cons_cons,dt] at z⊢;rw [z];grind
theorem zES{m:Int}: ∀(e f:Vec) (x:Fn),e.length=f.length->(∀i,m∣zA e i - zA f i)->m∣dt x e - dt x f
 | [],[],_,_,_=>by simp [dt]
 | c::e,d::f,x,h,hm=>by
  have z:=zES e f (fun i=>x (i+1)) (by simpa using h) (fun i=>by have:=hm (i+1);rwa [zAs,zAs] at this);have z0:=hm 0;rw [zBI,zBI] at z0;simp only [dt];have:x 0*c+dt (fun i=>x (i+1)) e -(x 0*d+dt (fun i=>x (i+1)) f)=x 0*(c - d)+(dt (fun i=>x (i+1)) e - dt (fun i=>x (i+1)) f):=by grind
  rw [this];exact Int.dvd_add (Int.dvd_mul_of_dvd_right z0) z
theorem zGi: ∀(j n:Nat) (x:Fn),j<n->dt x (zS j n)=x j
 | j,0,_,h=>by omega
 | 0,n+1,x,_=>by
  have e:zS 0 (n+1)=1::(List.range n).map fun _=>(0:Int):=by
   simp only [zS,List.range_succ_eq_map,List.map_cons,List.map_map];simp [Function.comp_def]
  rw [e];have z: ∀(l:List Nat) (y:Fn),dt y (l.map fun _=>(0:Int))=0:=fun l=>by
   induction l with
   | nil=>intro y;rfl
   | cons a l ih=>intro y;simp only [List.map_cons,dt];rw [ih];simp
  simp only [dt];rw [z];simp
 | j+1,n+1,x,h=>by
  have e:zS (j+1) (n+1)=0::zS j n:=by
   simp only [zS,List.range_succ_eq_map,List.map_cons,List.map_map];simp [Function.comp_def]
  rw [e];simp only [dt];rw [zGi j n (fun i=>x (i+1)) (by omega)];simp
theorem zBd(v:Vec)(n i:Nat):zA (v.take n) i=if i<n then zA v i else 0:=by
 by_cases h:i<n
 ·simp [zA,List.getElem?_take,h]
 ·rw [zi (by simp;omega),if_neg h]
structure ClI(n m:Nat)(q:Nat->Vec)(len:Nat)(F:Fn)(k:Nat)(L:Fn->Prop)(c:Cl):Prop where
 fl:c.fac.length=len
 tl:c.tot.length=n+m
 m0:0<=c.mod
 add: ∀i,c.mod∣yS c.fac q i - zA c.tot i
 van: ∀x,L x->c.mod∣dt x (c.tot.take n)
 not: ¬c.mod∣dt F (c.tot.take n)+zA c.tot (n+k)
theorem zMl{n m len k:Nat}{q:Nat->Vec}{F:Fn}{L L':Fn->Prop}{c:Cl}{s:Spt}(I:ClI n m q len F k L c)(hr:0<s.2.2)(hv:s.2.1.length=n)(hd:dt (zA s.2.1) ((q s.1).take n)=s.2.2)
  (hL: ∀x,L x->dt x ((q s.1).take n)=0) (hL': ∀x,L' x-> ∃c:Int,L (fun i=>x i - c*zA s.2.1 i)) (hj:s.1<len) (hq:(q s.1).length=n+m)
  (hF:dt F ((q s.1).take n)+zA (q s.1) (n+k)=0):ClI n m q len F k L' (turn n q len s c):=by
 obtain ⟨j,vec,r⟩:=s;simp only at hr hv hd hL hL' hj hq hF;have hg0:0<Int.gcd (lo (dt (zA vec) (c.tot.take n)) c.mod) r:=Int.gcd_pos_of_ne_zero_right _ (by omega);unfold turn;simp only;generalize hown:lo (dt (zA vec) (c.tot.take n)) c.mod=own at hg0⊢;obtain ⟨g1,hg1⟩:=Int.gcd_dvd_right own r;obtain ⟨g2,hg2⟩:=Int.gcd_dvd_left own r;generalize hgg:(Int.gcd own r:Int)=g at*;have hgp:0<g:=by omega
 have hsc:r/g=g1:=by
  have:r=g*g1:=hg1;rw [this];exact Int.mul_ediv_cancel_left _ (by omega)
 rw [hsc];have hg1p:0<g1:=by
  rcases Int.lt_or_le 0 g1 with z | z
  ·exact z
  ·have:=Int.mul_le_mul_of_nonneg_left z (Int.le_of_lt hgp);omega
 have ht:own*g1/r=g2:=by
  have:own*g1=r*g2:=by rw [hg2,hg1];grind
  rw [this];exact Int.mul_ediv_cancel_left _ (by omega)
 rw [ht];have ml1:(zP g1 c.tot (-g2) (q j)).length=n+m:=zZ I.tl hq;have ml2:(zP g1 c.fac (-g2) (zS j len)).length=len:=zZ I.fl (yN _ _);have tk: ∀x:Fn,(c.mod*g1)∣dt x ((los (zP g1 c.tot (-g2) (q j)) (c.mod*g1)).take n) -(g1*dt x (c.tot.take n) - g2*dt x ((q j).take n)):=fun x=>by
  have e:=zCW (c.tot.take n) ((q j).take n) x (by simp [I.tl,hq]) g1 (-g2);have e':g1*dt x (c.tot.take n) - g2*dt x ((q j).take n)=dt x (zP g1 (c.tot.take n) (-g2) ((q j).take n)):=by rw [e];grind
  rw [e'];refine zES _ _ x ?_ fun i=>?_
  ·simp [zAp,ml1,zP,I.tl,hq]
  ·rw [zBd,zBn,yJ (u:=c.tot) (v:=q j) (by rw [I.tl,hq]),yJ (u:=c.tot.take n) (v:=(q j).take n) (by simp [I.tl,hq]),zBd,zBd];split
   ·have:=zBs (g1*zA c.tot i+ -g2*zA (q j) i) (c.mod*g1);rw [<-Int.dvd_neg]
    rwa [Int.neg_sub]
   ·simp
 have shift: ∀{d u v:Int},d∣u - v->d∣v->d∣u:=fun {d u v} h1 h2=>by
  have:=Int.dvd_add h1 h2
  rwa [Int.sub_add_cancel] at this
 have shift': ∀{d u v:Int},d∣u - v->d∣u->d∣v:=fun {d u v} h1 h2=>by
  have:=Int.dvd_sub h2 h1;have e:u -(u - v)=v:=by omega
  rwa [e] at this
 refine ⟨by rw [zAp,ml2],by rw [zAp,ml1],Int.mul_nonneg I.m0 (Int.le_of_lt hg1p),fun i=>?_,fun x hx=>?_,fun hn=>?_⟩
 ·
  have a1:(c.mod*g1)∣yS (los (zP g1 c.fac (-g2) (zS j len)) (c.mod*g1)) q i -(g1*yS c.fac q i - g2*zA (q j) i):=by
   have e:=zCW c.fac (zS j len) (fun j=>zA (q j) i) (by rw [I.fl,yN]) g1 (-g2);rw [zGi j len _ hj] at e;have e':g1*yS c.fac q i - g2*zA (q j) i=dt (fun j=>zA (q j) i) (zP g1 c.fac (-g2) (zS j len)):=by rw [e];unfold yS;grind
   rw [e'];refine zES _ _ _ (by rw [zAp]) fun i=>?_;rw [zBn];have:=zBs (zA (zP g1 c.fac (-g2) (zS j len)) i) (c.mod*g1);rw [<-Int.dvd_neg]
   rwa [Int.neg_sub]
  have a2:(c.mod*g1)∣zA (los (zP g1 c.tot (-g2) (q j)) (c.mod*g1)) i -(g1*zA c.tot i - g2*zA (q j) i):=by
   rw [zBn,yJ (by rw [I.tl,hq])];have:=zBs (g1*zA c.tot i+ -g2*zA (q j) i) (c.mod*g1);rw [<-Int.dvd_neg];have e: -(lo (g1*zA c.tot i+ -g2*zA (q j) i) (c.mod*g1) -(g1*zA c.tot i - g2*zA (q j) i))=g1*zA c.tot i+ -g2*zA (q j) i - lo (g1*zA c.tot i+ -g2*zA (q j) i) (c.mod*g1):=by grind
   rwa [e]
  have a3:(c.mod*g1)∣g1*(yS c.fac q i - zA c.tot i):=by
   rw [Int.mul_comm c.mod g1];exact Int.mul_dvd_mul_left g1 (I.add i)
  show (c.mod*g1)∣yS (los (zP g1 c.fac (-g2) (zS j len)) (c.mod*g1)) q i - zA (los (zP g1 c.tot (-g2) (q j)) (c.mod*g1)) i;have:=Int.dvd_add (Int.dvd_sub a1 a2) a3;have e:yS (los (zP g1 c.fac (-g2) (zS j len)) (c.mod*g1)) q i -(g1*yS c.fac q i - g2*zA (q j) i) -(zA (los (zP g1 c.tot (-g2) (q j)) (c.mod*g1)) i -(g1*zA c.tot i - g2*zA (q j) i))+g1*(yS c.fac q i - zA c.tot i)=yS (los (zP g1 c.fac (-g2) (zS j len)) (c.mod*g1)) q i - zA (los (zP g1 c.tot (-g2) (q j)) (c.mod*g1)) i:=by grind
  rwa [e] at this
 ·refine shift (tk x) ?_;obtain ⟨t,ht⟩:=hL' x hx;have v1:=I.van _ ht;have v2:=hL _ ht;rw [zAa,zBK] at v1 v2;rw [hd] at v2;have e1:dt x ((q j).take n)=t*r:=by omega
  have e2:c.mod∣dt (zA vec) (c.tot.take n) - own:=by rw [<-hown];exact zBs _ _
  rw [e1];have e3:g1*dt x (c.tot.take n) - g2*(t*r)=g1*(dt x (c.tot.take n) - t*dt (zA vec) (c.tot.take n)+t*(dt (zA vec) (c.tot.take n) - own)):=by
   have:g2*r=g1*own:=by rw [hg2,hg1];grind
   have:g2*(t*r)=t*(g1*own):=by rw [<-this];grind
   rw [this];grind
  rw [e3,Int.mul_comm c.mod g1];exact Int.mul_dvd_mul_left g1 (Int.dvd_add v1 (Int.dvd_mul_of_dvd_right e2))
 ·have h1:=tk F;simp only at hn;rw [zBn,yJ (by rw [I.tl,hq])] at hn;have h2:=zBs (g1*zA c.tot (n+k)+ -g2*zA (q j) (n+k)) (c.mod*g1);have h3:(c.mod*g1)∣g1*(dt F (c.tot.take n)+zA c.tot (n+k)):=by
   have:=Int.dvd_add (Int.dvd_sub hn h1) h2;generalize lo (g1*zA c.tot (n+k)+ -g2*zA (q j) (n+k)) (c.mod*g1)=z at*;generalize dt F ((los (zP g1 c.tot (-g2) (q j)) (c.mod*g1)).take n)=y at*;have e:y+z -(y -(g1*dt F (c.tot.take n) - g2*dt F ((q j).take n)))+(g1*zA c.tot (n+k)+ -g2*zA (q j) (n+k) - z)=g1*(dt F (c.tot.take n)+zA c.tot (n+k)):=by
    have:zA (q j) (n+k)= - dt F ((q j).take n):=by omega
    rw [this];grind
   rwa [e] at this
  rw [Int.mul_comm c.mod g1] at h3;exact I.not (Int.dvd_of_mul_dvd_mul_left (by omega) h3)
theorem zFU{n m len k:Nat}{q:Nat->Vec}{F:Fn}: ∀{ss:List Spt} {L:Fn->Prop} {c:Cl},Chn n q ss L->ClI n m q len F k L c->(∀s∈ss,s.1<len/\(q s.1).length=n+m/\dt F ((q s.1).take n)+zA (q s.1) (n+k)=0)->
  ∃L',(∀x:Fn,(∀i,n<=i->x i=0)->L' x)/\ClI n m q len F k L' (ss.foldl (fun c s=>turn n q len s c) c)
 | [],L,c,h,I,_=>⟨L,h,I⟩
 |(j,vec,r)::ss,L,c,⟨L',h1,h2,h3,h4,h5,h6⟩,I,hs=>by
  obtain ⟨a1,a2,a3⟩:=hs (j,vec,r) (by simp);rw [List.foldl_cons];exact zFU (ss:=ss) h1 (zMl (s:=(j,vec,r)) I h2 h3 h4 h5 h6 a1 a2 a3) fun s hs'=>hs s (by simp [hs'])
theorem zBc: ∀(e:Vec) (i:Nat),dt (fun t=>if t=i then 1 else 0) e=zA e i
 | [],i=>rfl
 | c::e,0=>by
  simp only [dt];rw [zDU e _ fun i=>by simp];simp [zBI]
 | c::e,i+1=>by
  simp only [dt];rw [zAs,<-zBc e i];simp
structure Clash(n k len:Nat)(q:Nat->Vec)(f:Vec)(m:Int):Prop where
 fl:f.length=len
 m0:0<=m
 all: ∀i,i<n->m∣yS f q i
 one: ¬m∣yS f q (n+k)
theorem Clash.of{n m len k:Nat}{q:Nat->Vec}{F:Fn}{L:Fn->Prop}{c:Cl}(I:ClI n m q len F k L c)(hL: ∀x:Fn,(∀i,n<=i->x i=0)->L x)(hF: ∀i,n<=i->F i=0):Clash n k len q c.fac c.mod:=by
 refine ⟨I.fl,I.m0,fun i hi=>?_,fun h=>?_⟩
 ·have v:=I.van (fun t=>if t=i then 1 else 0) (hL _ fun t ht=>if_neg (by omega));rw [zBc,zBd,if_pos hi] at v;have:=Int.dvd_add (I.add i) v
  rwa [Int.sub_add_cancel] at this
 ·have v:=I.van F (hL F hF);refine I.not (Int.dvd_add v ?_);have:=Int.dvd_sub h (I.add (n+k));have e:yS c.fac q (n+k) -(yS c.fac q (n+k) - zA c.tot (n+k))=zA c.tot (n+k):=by omega
  rwa [e] at this
def yu(d f:Int):Int:=if f=0 then d else if d=0 then (f.natAbs:Int) else (Int.gcd f d:Int)
theorem zNo{d f:Int}(h:0<=d):0<=yu d f/\yu d f∣d/\yu d f∣f/\(yu d f=0->d=0/\f=0):=by
 unfold yu;split
 ·rename_i z;subst z;exact ⟨h,Int.dvd_refl _,Int.dvd_zero _,fun z=>⟨z,rfl⟩⟩
 ·split
  ·rename_i z1 z;subst z;exact ⟨by omega,Int.dvd_zero _,Int.natAbs_dvd.mpr (Int.dvd_refl _),fun z=>by omega⟩
  ·rename_i z1 z;exact ⟨by omega,Int.gcd_dvd_right _ _,Int.gcd_dvd_left _ _,fun y=>by have:=Int.gcd_pos_of_ne_zero_left d z1;omega⟩
theorem zFL: ∀(fs:Vec) {d:Int},0<=d->0<=fs.foldl yu d/\fs.foldl yu d∣d/\(∀f∈fs,fs.foldl yu d∣f)/\(fs.foldl yu d=0->d=0/\ ∀f∈fs,f=0)
 | [],d,h=>⟨h,Int.dvd_refl _,fun f hf=>(nomatch hf),fun z=>⟨z,fun f hf=>(nomatch hf)⟩⟩
 | f::fs,d,h=>by
  obtain ⟨a1,a2,a3,a4⟩:=zNo (f:=f) h;obtain ⟨b1,b2,b3,b4⟩:=zFL fs a1;refine ⟨b1,Int.dvd_trans b2 a2,fun g hg=>?_,fun z=>?_⟩
  ·rcases List.mem_cons.mp hg with rfl | hg
   ·exact Int.dvd_trans b2 a3
   ·exact b3 g hg
  ·obtain ⟨c1,c2⟩:=b4 z;obtain ⟨d1,d2⟩:=a4 c1;refine ⟨d1,fun g hg=>?_⟩;rcases List.mem_cons.mp hg with rfl | hg
   ·exact d2
   ·exact c2 g hg
def zAI(z m:Int):Int:=if 0<m/\m<2*lo z m then lo z m - m else lo z m
theorem zJv(z m:Int):m∣z - zAI z m:=by
 unfold zAI;split
 ·have:=Int.dvd_add (zBs z m) (Int.dvd_refl m);have e:z - lo z m+m=z -(lo z m - m):=by omega
  rwa [e] at this
 ·exact zBs z m
def short(f:Vec)(m:Int):Vec×Int:=
 let d:=f.foldl yu m
 (f.map fun x=>zAI (x/d) (m/d),m/d)
theorem zCb(c:Int): ∀(f:Vec) (x:Fn),dt x (f.map fun z=>c*z)=c*dt x f
 | [],_=>by simp [dt]
 | a::f,x=>by simp only [List.map_cons,dt];rw [zCb c f];grind
theorem zGN(g:Int->Int)(h0:g 0=0)(v:Vec)(i:Nat):zA (v.map g) i=g (zA v i):=by
 by_cases h:i<v.length
 ·simp [zA,h]
 ·rw [zi (by simp;omega),zi (by omega),h0]
theorem Clash.short{n k len:Nat}{q:Nat->Vec}{f:Vec}{m:Int}(h:Clash n k len q f m):Clash n k len q (short f m).1 (short f m).2/\0<f.foldl yu m:=by
 obtain ⟨a1,a2,a3,a4⟩:=zFL f h.m0;have hp:0<f.foldl yu m:=by
  rcases Int.lt_or_eq_of_le a1 with z | z
  ·exact z
  ·obtain ⟨b1,b2⟩:=a4 z.symm;refine absurd ?_ h.one;have e:f=f.map fun z=>0*z:=by
    refine (List.map_id f).symm.trans (List.map_congr_left fun x hx=>?_);rw [b2 x hx];rfl
   have:yS f q (n+k)=0:=by
    unfold yS;rw [e,zCb];simp
   rw [this];exact Int.dvd_zero _
 refine ⟨?_,hp⟩;unfold FrV.short;simp only;generalize f.foldl yu m=d at*;obtain ⟨m',hm⟩:=a2;have em:m/d=m':=by rw [hm];exact Int.mul_ediv_cancel_left _ (by omega)
 rw [em];have ef:f=(f.map fun x=>x/d).map fun z=>d*z:=by
  rw [List.map_map];refine (List.map_id f).symm.trans (List.map_congr_left fun x hx=>?_);obtain ⟨y,hy⟩:=a3 x hx;simp only [id,Function.comp];rw [hy,Int.mul_ediv_cancel_left _ (by omega)]
 have ad: ∀i,yS f q i=d*yS (f.map fun x=>x/d) q i:=fun i=>by
  unfold yS;rw [<-zCb,<-ef]
 have nr: ∀i,m'∣yS (f.map fun x=>x/d) q i - yS (f.map fun x=>zAI (x/d) m') q i:=fun i=>by
  refine zES _ _ _ (by simp) fun i=>?_;have n0:zAI (0/d) m'=0:=by
   have l0:lo 0 m'=0:=zDg.mpr (Int.dvd_zero _);rw [Int.zero_ediv];unfold zAI;rw [l0,if_neg (by omega)]
  rw [zGN (fun x=>x/d) (Int.zero_ediv d),zGN (fun x=>zAI (x/d) m') n0];exact zJv _ _
 refine ⟨by simp [h.fl],?_,fun i hi=>?_,fun z=>?_⟩
 ·rcases Int.lt_or_le m' 0 with z | z
  ·have:=Int.mul_lt_mul_of_pos_left z hp;have:=h.m0;omega
  ·exact z
 ·have:=h.all i hi;rw [ad i,hm] at this;have:=Int.dvd_of_mul_dvd_mul_left (by omega) this;have:=Int.dvd_sub this (nr i)
  rwa [show yS (f.map fun x=>x/d) q i -(yS (f.map fun x=>x/d) q i - yS (f.map fun x=>zAI (x/d) m') q i)=yS (f.map fun x=>zAI (x/d) m') q i by omega] at this
 ·refine h.one ?_;rw [ad,hm];refine Int.mul_dvd_mul_left d ?_;have:=Int.dvd_add (nr (n+k)) z
  rwa [Int.sub_add_cancel] at this
def yr(n m:Nat):Stt:=⟨(List.range n).map fun p=>(p,zS p n),List.replicate m (List.replicate n 0),[]⟩
theorem zDy{n:Nat}: ∀(a b:Nat),a+b=n-> ∀x:Fn,Sp ((List.range' a b).map fun p=>(p,zS p n)) x↔(∀i,n<=i->x i=0)/\ ∀i,i<a->x i=0
 | a,0,h,x=>by
  simp only [List.range'_zero,List.map_nil];show (∀i,x i=0)↔_;constructor
  ·exact fun z=>⟨fun i _=>z i,fun i _=>z i⟩
  ·rintro ⟨z1,z2⟩ i;by_cases hi:i<a
   ·exact z2 i hi
   ·exact z1 i (by omega)
 | a,b+1,h,x=>by
  rw [List.range'_succ,List.map_cons];have ih:=zDy (n:=n) (a+1) b (by omega);constructor
  ·rintro ⟨c,hx⟩;obtain ⟨z1,z2⟩:=(ih _).mp hx;refine ⟨fun i hi=>?_,fun i hi=>?_⟩
   ·have:=z1 i hi;rw [yd,if_neg (by omega)] at this;simpa using this
   ·have:=z2 i (by omega);rw [yd,if_neg (by omega)] at this;simpa using this
  ·rintro ⟨z1,z2⟩;refine ⟨x a,(ih _).mpr ⟨fun i hi=>?_,fun i hi=>?_⟩⟩
   ·rw [yd,if_neg (by omega),z1 i hi];simp
   ·rw [yd];by_cases e:i=a
    ·rw [if_pos ⟨e,by omega⟩,e];simp
    ·rw [if_neg (by omega),z2 i (by omega)];simp
theorem zFm{n:Nat}: ∀(a b:Nat),a+b=n->Ech n ((List.range' a b).map fun p=>(p,zS p n))/\Red ((List.range' a b).map fun p=>(p,zS p n))
 | a,0,h=>⟨trivial,trivial⟩
 | a,b+1,h=>by
  rw [List.range'_succ,List.map_cons];obtain ⟨i1,i2⟩:=zFm (n:=n) (a+1) b (by omega);have hm: ∀q∈(List.range' (a+1) b).map fun p=>(p,zS p n),a<q.1/\q.1<n/\q.2=zS q.1 n:=fun q hq=>by
   obtain ⟨p,hp,rfl⟩:=List.mem_map.mp hq;have:=List.mem_range'_1.mp hp;exact ⟨by show a<p;omega,by show p<n;omega,rfl⟩
  refine ⟨⟨yN _ _,by omega,?_,fun j hj=>?_,fun q hq=>(hm q hq).1,i1⟩,fun q hq=>?_,i2⟩
  ·rw [yd,if_pos ⟨rfl,by omega⟩];decide
  ·rw [yd,if_neg (by omega)]
  ·obtain ⟨z1,z2,z3⟩:=hm q hq;rw [z3,yd,yd,if_neg (by omega),if_pos ⟨rfl,z2⟩];decide
theorem zIV(n i:Nat):zA (List.replicate n 0) i=0:=by
 by_cases h:i<n
 ·simp [zA,h]
 ·exact zi (by simp;omega)
theorem zKg(n m:Nat):Sol n m [] (yr n m):=by
 have h:=zFm (n:=n) 0 n (by omega);have hs:=zDy (n:=n) 0 n (by omega);rw [<-List.range_eq_range'] at h hs;have hf: ∀f∈(yr n m).fixed,f=List.replicate n 0:=fun f hf=>List.eq_of_mem_replicate hf;refine ⟨h.1,h.2,fun x=>(hs x).trans ⟨fun ⟨a,_⟩=>⟨a,fun E hE=>(nomatch hE)⟩,fun ⟨a,_⟩=>⟨a,fun i hi=>by omega⟩⟩,by simp [yr],fun f h'=>by rw [hf f h'];simp,fun f h' q hq=>?_,fun k f _ E hE=>(nomatch hE)⟩;rw [hf f h',zIV];exact ⟨Int.le_refl _,(h.1.mem hq).2.2.1⟩
theorem zKP(n m:Nat)(q:Nat->Vec):Chn n q (yr n m).spent.reverse (Sp (yr n m).steps):=by
 have hs:=zDy (n:=n) 0 n (by omega);rw [<-List.range_eq_range'] at hs;exact fun x hx=>(hs x).mpr ⟨hx,fun i hi=>by omega⟩
theorem zDj{n m len:Nat}{q:Nat->Vec}{Es:List Eqn}{s:Stt}{E:Eqn}{j:Nat}(I:Sol n m Es s)(hc:E.2.length=m)(he:E.1.length=n)(hq:q j=E.1++E.2)(hj:j<len)(hf:zAx E s=false):
  ∃k F,s.fixed[k]?=some F/\ClI n m q len (zA F) k (Sp s.steps) ⟨zS j len,q j,(part E.1 s.steps).2.2⟩:=by
 have P:=zv (e:=E.1) I.ech;obtain ⟨z,hz,hn⟩:=List.all_eq_false.mp hf;obtain ⟨k,hk⟩:=List.mem_iff_getElem?.mp hz;cases hF:s.fixed[k]? with
 | none=>simp [yP,List.getElem?_zipWith,hF] at hk
 | some F=>
  rw [zBk (e:=E.1) (hc.trans I.fl.symm) hF] at hk;cases hk;have hn': ¬(part E.1 s.steps).2.2∣dt (zA F) E.1+zA E.2 k:=fun d=>hn (by rw [beq_iff_eq];exact zDg.mpr d);have tk:(q j).take n=E.1:=by rw [hq,<-he];simp
  refine ⟨k,F,hF,yN _ _,by rw [hq];simp [hc,he],P.r0,fun i=>?_,fun x hx=>?_,?_⟩
  ·unfold yS;rw [zGi j len _ hj];simp
  ·show _∣dt x ((q j).take n);rw [tk];rcases Int.lt_or_eq_of_le P.r0 with hr | hr
   ·obtain ⟨c,h1⟩:=(P.sp hr x).mp hx;have z:=Sp.dt h1 P.dt0;rw [zAa,zBK,P.dtv hr] at z;exact ⟨c,by show _=(part E.1 s.steps).2.2*c;rw [Int.mul_comm];omega⟩
   ·have e:=P.same hr.symm;have z:=Sp.dt hx (e▸P.dt0);rw [z];exact Int.dvd_zero _
  ·show¬_∣dt (zA F) ((q j).take n)+zA (q j) (n+k);rw [tk];have:zA (q j) (n+k)=zA E.2 k:=by
    rw [hq];simp only [zA,List.getD_eq_getElem?_getD];rw [List.getElem?_append_right (by omega)];congr 2;omega
   rw [this];exact hn'
def Bt(b:Nat)(x:Int):Prop:=x.natAbs<=2^b
def Bts(b:Nat)(v:Vec):Prop:= ∀i,Bt b (zA v i)
theorem Bt.mono{a b:Nat}{x:Int}(h:Bt a x)(hab:a<=b):Bt b x:=zPj h (Nat.pow_le_pow_right (by decide) hab)
theorem Bts.mono{a b:Nat}{v:Vec}(h:Bts a v)(hab:a<=b):Bts b v:=fun i=>(h i).mono hab
theorem Bt.mul{a b:Nat}{x y:Int}(h1:Bt a x)(h2:Bt b y):Bt (a+b) (x*y):=by
 unfold Bt at*;rw [Int.natAbs_mul,Nat.pow_add];exact Nat.mul_le_mul h1 h2
theorem Bt.add{a:Nat}{x y:Int}(h1:Bt a x)(h2:Bt a y):Bt (a+1) (x+y):=by
 unfold Bt at*;rw [Nat.pow_succ];have:=Int.natAbs_add_le x y;omega
theorem Bt.neg{a:Nat}{x:Int}(h:Bt a x):Bt a (-x):=by
 unfold Bt at*;rwa [Int.natAbs_neg]
theorem Bt.zero{a:Nat}:Bt a 0:=zPk _
theorem Bt.one{a:Nat}:Bt a 1:=Nat.one_le_two_pow
theorem Bt.le{a:Nat}{x y:Int}(h:Bt a y)(hx:x.natAbs<=y.natAbs):Bt a x:=zPj hx h
theorem Bt.mixed{a b:Nat}{x y z w:Int}(h1:Bt a x)(h2:Bt b y)(h3:Bt a z)(h4:Bt b w):Bt (a+b+1) (x*y+z*w):=(h1.mul h2).add (h3.mul h4)
theorem zEj{a b k l:Nat}{x y:Int}{u v:Vec}(h:u.length=v.length)(h1:Bt a x)(h2:Bts b u)(h3:Bt a y)(h4:Bts b v):Bts (a+b+1) (zP x u y v):=fun i=>by
 rw [yJ h];exact Bt.mixed h1 (h2 i) h3 (h4 i)
theorem zCc{a b:Nat}: ∀(e:Vec) (x:Fn) (k:Nat),e.length<=2^k->(∀i,Bt a (x i))->Bts b e->Bt (a+b+k) (dt x e):=by
 have key: ∀(e:Vec) (x:Fn),(∀i,Bt a (x i))->Bts b e->(dt x e).natAbs<=e.length*2^(a+b):=by
  intro e
  induction e with
  | nil=>intro x _ _;simp [dt]
  | cons c e ih=>
   intro x hx he;have z:=ih (fun i=>x (i+1)) (fun i=>hx (i+1)) (fun i=>by have:=he (i+1);rwa [zAs] at this);have z0:Bt (a+b) (x 0*c):=(hx 0).mul (he 0);unfold Bt at z0;have:=Int.natAbs_add_le (x 0*c) (dt (fun i=>x (i+1)) e);simp only [dt,List.length_cons];rw [Nat.succ_mul];omega
 intro e x k hk hx he;unfold Bt;have:=key e x hx he;rw [Nat.pow_add,Nat.mul_comm];exact zPj this (Nat.mul_le_mul_right _ hk)
def cross(e1:Vec)(q:Nat)(e:Vec):Vec:=zP (zA e1 q) e (-(zA e q)) e1
theorem zDA{n q:Nat}{e1 e:Vec}(h1:e1.length=n)(h2:e.length=n):(cross e1 q e).length=n:=zZ h2 h1
theorem zCf{n q:Nat}{e1 e:Vec}(h1:e1.length=n)(h2:e.length=n)(x:Fn):dt x (cross e1 q e)=zA e1 q*dt x e - zA e q*dt x e1:=by
 unfold cross;rw [zCW _ _ _ (by omega)];grind
theorem zCm{n q:Nat}{e1 e:Vec}(h1:e1.length=n)(h2:e.length=n)(i:Nat):zA (cross e1 q e) i=zA e1 q*zA e i - zA e q*zA e1 i:=by
 unfold cross;rw [yJ (by omega)];grind
theorem zDv{n q b:Nat}{e1 e:Vec}(h1:e1.length=n)(h2:e.length=n)(b1:Bts b e1)(b2:Bts b e):Bts (2*b+1) (cross e1 q e):=by
 have:=zEj (k:=0) (l:=0) (x:=zA e1 q) (y:= -(zA e q)) (u:=e) (v:=e1) (by omega) (b1 q) b2 (b2 q).neg b1;rw [show 2*b+1=b+b+1 by omega];exact this
def Inj(N:List Nat)(Es:List Vec):Prop:= ∀y:Fn,(∀i,i∉N->y i=0)->(∀e∈Es,dt y e=0)-> ∀i,y i=0
theorem zEQ(e:Vec)(x:Fn)(q:Nat)(c:Int):dt (fun i=>x i+c*(if i=q then 1 else 0)) e=dt x e+c*zA e q:=by
 have:=zBA 1 c e x (fun i=>if i=q then 1 else 0);rw [zBc] at this;rw [<-Int.one_mul (dt x e),<-this];exact yz fun i=>by simp
theorem Inj.pick{q:Nat}{N:List Nat}{Es:List Vec}(h:Inj (q::N) Es): ∃e1∈Es,zA e1 q≠0:=by
 refine Classical.byContradiction fun hn=>?_;have:=h (fun i=>if i=q then 1 else 0) (fun i hi=>if_neg fun z=>hi (by simp [z])) (fun e he=>by
  rw [zBc];exact Classical.byContradiction fun z=>hn ⟨e,he,z⟩) q
 simp at this
theorem Inj.cross{n q:Nat}{N:List Nat}{Es:List Vec}{e1:Vec}(h:Inj (q::N) Es)(hq:q∉N)(hl: ∀e∈Es,e.length=n)(h1:e1∈Es)(h0:zA e1 q≠0):Inj N (Es.map (cross e1 q)):=by
 intro y hy he;have z:=h (fun i=>zA e1 q*y i+(-(dt y e1))*(if i=q then 1 else 0)) (fun i hi=>?_) (fun e hE=>?_)
 ·intro i;by_cases e:i=q
  ·rw [e];exact hy q hq
  ·have:=z i;rw [if_neg e] at this;have:zA e1 q*y i=0:=by omega
   rcases Int.mul_eq_zero.mp this with t | t
   ·exact absurd t h0
   ·exact t
 ·have a:i∉N:=fun t=>hi (by simp [t]);have b:i≠q:=fun t=>hi (by simp [t]);show zA e1 q*y i+ -(dt y e1)*(if i=q then 1 else 0)=0;rw [hy i a,if_neg b];simp
 ·have:=zEQ e (fun i=>zA e1 q*y i) q (-(dt y e1));rw [this,zBK];have z:=he (FrV.cross e1 q e) (List.mem_map_of_mem hE);rw [zCf (hl e1 h1) (hl e hE)] at z;rw [Int.neg_mul,Int.mul_comm (dt y e1)];omega
def ub:Nat->Nat->Nat->Nat
 | 0,_,_=>0
 | k+1,l,b=>l+b+ub k l (2*b+1)
theorem zJC{n l:Nat}(hn:n<=2^l): ∀(N:List Nat) (Es:List Vec) (b B:Nat) (x:Fn),N.Nodup->(∀e∈Es,e.length=n/\Bts b e)->Inj N Es->(∀e∈Es,dt x e=0)->(∀i,i∉N->Bt B (x i))-> ∀i,Bt (ub N.length l b+B) (x i)
 | [],Es,b,B,x,_,_,_,_,hB=>fun i=>(hB i (by simp)).mono (by simp)
 | q::N,Es,b,B,x,nd,hE,hI,hx,hB=>by
  rw [List.nodup_cons] at nd;obtain ⟨e1,he1,h0⟩:=hI.pick;have hl: ∀e∈Es,e.length=n:=fun e he=>(hE e he).1;have ih:=zJC hn N (Es.map (cross e1 q)) (2*b+1) B (fun i=>x i+(-(x q))*(if i=q then 1 else 0)) nd.2 (fun e he=>?_) (hI.cross nd.1 hl he1 h0) (fun e he=>?_) (fun i hi=>?_)
  ·have hd:Bt (ub N.length l (2*b+1)+B+b+l) (dt (fun i=>x i+(-(x q))*(if i=q then 1 else 0)) e1):=zCc e1 _ l (by rw [hl e1 he1];exact hn) ih (hE e1 he1).2;rw [zEQ,hx e1 he1] at hd;have hq:Bt (ub N.length l (2*b+1)+B+b+l) (x q):=by
    refine hd.le ?_;rw [Int.zero_add,Int.natAbs_mul,Int.natAbs_neg];exact Nat.le_mul_of_pos_right _ (by omega)
   intro i;by_cases e:i=q
   ·rw [e];exact hq.mono (by simp only [List.length_cons,ub];omega)
   ·have:=ih i;rw [if_neg e] at this;have:Bt (ub N.length l (2*b+1)+B) (x i):=by simpa using this
    exact this.mono (by simp only [List.length_cons,ub];omega)
  ·obtain ⟨e',he',rfl⟩:=List.mem_map.mp he;exact ⟨zDA (hl e1 he1) (hl e' he'),zDv (hl e1 he1) (hl e' he') (hE e1 he1).2 (hE e' he').2⟩
  ·obtain ⟨e',he',rfl⟩:=List.mem_map.mp he;rw [zEQ,zCf (hl e1 he1) (hl e' he'),hx e' he',hx e1 he1,zCm (hl e1 he1) (hl e' he')]
   grind
  ·show Bt B (x i+ -(x q)*(if i=q then 1 else 0));by_cases e:i=q
   ·rw [if_pos e,e];have:x q+ -x q*1=0:=by omega
    rw [this];exact Bt.zero
   ·rw [if_neg e];have:=hB i (by simp [e,hi]);simpa using this
theorem zJF{n:Nat}{N0:List Nat}{K:Fn->Prop}(hK: ∀f:Vec,f.length=n->(∀q∈N0,zA f q=0)->(∀x,K x->dt x f=0)-> ∀i,zA f i=0){p:Nat}(hp:p<n)(hp0:p∉N0): ∀(N:List Nat) (Es:List Vec) (b:Nat),N.Nodup->(∀q∈N,q∈N0/\q<n)->(∀e∈Es,e.length=n/\Bts b e)->Inj N Es->(∀x,K x-> ∀e∈Es,dt x e=0)->(∀e∈Es,∀q∈N0,q∉N->zA e q=0)->
  ∃y:Fn,y p≠0/\Bt (ub N.length 0 b) (y p)/\(∀e∈Es,dt y e=0)/\(∀i,i∉N0->i≠p->y i=0)/\ ∀i,n<=i->y i=0
 | [],Es,b,_,_,hE,_,hx,hz=>by
  refine ⟨fun i=>if i=p then 1 else 0,by simp,by simp;exact Bt.one,fun e he=>?_,fun i _ hi=>if_neg hi,fun i hi=>if_neg (by omega)⟩;rw [zBc];exact hK e (hE e he).1 (fun q hq=>hz e he q hq (by simp)) (fun x hx'=>hx x hx' e he) p
 | q::N,Es,b,nd,hN,hE,hI,hx,hz=>by
  rw [List.nodup_cons] at nd;obtain ⟨e1,he1,h0⟩:=hI.pick;have hl: ∀e∈Es,e.length=n:=fun e he=>(hE e he).1;obtain ⟨y,y1,y2,y3,y4,y5⟩:=zJF hK hp hp0 N (Es.map (cross e1 q)) (2*b+1) nd.2 (fun r hr=>hN r (by simp [hr])) (fun e he=>by
   obtain ⟨e',he',rfl⟩:=List.mem_map.mp he;exact ⟨zDA (hl e1 he1) (hl e' he'),zDv (hl e1 he1) (hl e' he') (hE e1 he1).2 (hE e' he').2⟩) (hI.cross nd.1 hl he1 h0) (fun x hx' e he=>by
   obtain ⟨e',he',rfl⟩:=List.mem_map.mp he;rw [zCf (hl e1 he1) (hl e' he'),hx x hx' e' he',hx x hx' e1 he1];simp) (fun e he r hr hrN=>by
   obtain ⟨e',he',rfl⟩:=List.mem_map.mp he;rw [zCm (hl e1 he1) (hl e' he')];by_cases e:r=q
   ·rw [e];grind
   ·rw [hz e' he' r hr (by simp [e,hrN]),hz e1 he1 r hr (by simp [e,hrN])];simp)
  have hpq:p≠q:=fun z=>hp0 (by rw [z];exact (hN q (by simp)).1);refine ⟨fun i=>zA e1 q*y i+(-(dt y e1))*(if i=q then 1 else 0),?_,?_,fun e he=>?_,fun i hi hip=>?_,fun i hi=>?_⟩
  ·show zA e1 q*y p+ -(dt y e1)*(if p=q then 1 else 0)≠0;rw [if_neg hpq,Int.mul_zero,Int.add_zero];exact fun z=>(Int.mul_eq_zero.mp z).elim h0 y1
  ·show Bt _ (zA e1 q*y p+ -(dt y e1)*(if p=q then 1 else 0));rw [if_neg hpq,Int.mul_zero,Int.add_zero];exact (((hE e1 he1).2 q).mul y2).mono (by simp only [List.length_cons,ub];omega)
  ·rw [zEQ,zBK];have z:=y3 (cross e1 q e) (List.mem_map_of_mem he);rw [zCf (hl e1 he1) (hl e he)] at z;rw [Int.neg_mul,Int.mul_comm (dt y e1)];omega
  ·show zA e1 q*y i+ -(dt y e1)*(if i=q then 1 else 0)=0;rw [y4 i hi hip,if_neg (fun z=>hi (by rw [z];exact (hN q (by simp)).1))];simp
  ·show zA e1 q*y i+ -(dt y e1)*(if i=q then 1 else 0)=0;rw [y5 i hi,if_neg (fun z=>by have:=(hN q (by simp)).2;omega)];simp
theorem Sp.dvd{n:Nat}: ∀{S:List Stp} {y:Fn} {q:Stp},Ech n S->Sp S y->q∈S->(∀s∈S,s.1<q.1->y s.1=0)->zA q.2 q.1∣y q.1
 |(p,v)::S,y,q,h,hy,hq,hz=>by
  have h':=h;obtain ⟨h1,h2,h3,h4,h5,h6⟩:=h;rcases List.mem_cons.mp hq with rfl | hq
  ·obtain ⟨c,hc⟩:=hy;have e:=Sp.ahead (j:=p) h6 hc h5;exact ⟨c,by show y p=zA v p*c;rw [Int.mul_comm];omega⟩
  ·exact Sp.dvd h6 (Sp.rest h' hy (hz (p,v) (by simp) (h5 q hq))) hq fun s hs=>hz s (by simp [hs])
theorem zFj: ∀(f:Vec) (x:Fn) (p:Nat),(∀i,i≠p->x i*zA f i=0)->dt x f=x p*zA f p
 | [],x,p,_=>by simp [dt,zMt]
 | c::f,x,0,h=>by
  simp only [dt];rw [zBI];have: ∀(f:Vec) (y:Fn),(∀i,y i*zA f i=0)->dt y f=0:=by
   intro f
   induction f with
   | nil=>intro y _;rfl
   | cons d f ih=>
    intro y hy;simp only [dt];have a:=hy 0;rw [zBI] at a;rw [a,ih _ fun i=>by have:=hy (i+1);rwa [zAs] at this];rfl
  rw [this f _ fun i=>by have:=h (i+1) (by omega);rwa [zAs] at this];simp
 | c::f,x,p+1,h=>by
  simp only [dt];have a:=h 0 (by omega);rw [zBI] at a;rw [zAs,zFj f (fun i=>x (i+1)) p fun i hi=>by have:=h (i+1) (by omega);rwa [zAs] at this,a];simp
theorem zOX{n:Nat}{f:Vec}: ∀{S:List Stp},Ech n S->(∀q∈S,dt (zA q.2) f=0)-> ∀(h0: ∀i,(∀q∈S,i≠q.1)->(∃q∈S,q.1<=i)->zA f i=0),∀q∈S,zA f q.1=0
 | [],_,_,_,q,hq=>(nomatch hq)
 |(p,v)::S,⟨h1,h2,h3,h4,h5,h6⟩,hd,h0,q,hq=>by
  have ih:=zOX h6 (fun q hq=>hd q (by simp [hq])) fun i hi ⟨s,hs,hsi⟩=>h0 i (fun r hr=>by
   rcases List.mem_cons.mp hr with rfl | hr
   ·have:=h5 s hs;show i≠p;omega
   ·exact hi r hr) ⟨s,by simp [hs],hsi⟩
  rcases List.mem_cons.mp hq with rfl | hq
  ·have z:=hd (p,v) (by simp);rw [zFj f (zA v) p fun i hi=>by
    by_cases hip:i<p
    ·rw [h4 i hip];simp
    ·by_cases hS: ∃s∈S,i=s.1
     ·obtain ⟨s,hs,rfl⟩:=hS;rw [ih s hs];simp
     ·rw [h0 i (fun r hr=>by
       rcases List.mem_cons.mp hr with rfl | hr
       ·exact hi
       ·exact fun e=>hS ⟨r,hr,e⟩) ⟨(p,v),by simp,by show p<=i;omega⟩]
      simp] at z
   rcases Int.mul_eq_zero.mp z with z | z
   ·have h3':0<zA v p:=h3;omega
   ·exact z
  ·exact ih q hq
def bare(n:Nat)(S:List Stp):List Nat:=(List.range n).filter fun i=>S.all fun q=>q.1 !=i
theorem zAL{n:Nat}{S:List Stp}{i:Nat}:i∈bare n S↔i<n/\ ∀q∈S,q.1≠i:=by
 simp [bare,List.mem_filter]
theorem zHl(n:Nat)(S:List Stp):(bare n S).Nodup:=List.Pairwise.filter _ List.nodup_range
theorem zGD(n:Nat)(S:List Stp):(bare n S).length<=n:=by
 have:=List.length_filter_le (fun i=>S.all fun q=>q.1 !=i) (List.range n);simpa [bare] using this
theorem zBN{l l':Nat}(hl:l<=l'): ∀{k k' b b':Nat},k<=k'->b<=b'->ub k l b<=ub k' l' b'
 | 0,_,_,_,_,_=>zPk _
 | k+1,0,_,_,h,_=>by omega
 | k+1,k'+1,b,b',h,hb=>by
  have:=zBN hl (k:=k) (k':=k') (b:=2*b+1) (b':=2*b'+1) (by omega) (by omega);simp only [ub];omega
structure Kern(n:Nat)(Es:List Vec)(b:Nat)(S:List Stp):Prop where
 ech:Ech n S
 ker: ∀x,Sp S x↔(∀i,n<=i->x i=0)/\ ∀e∈Es,dt x e=0
 el: ∀e∈Es,e.length=n/\Bts b e
theorem Kern.inj{n b:Nat}{Es:List Vec}{S:List Stp}(h:Kern n Es b S):Inj (bare n S) Es:=by
 intro y hy he;have hs:Sp S y:=(h.ker y).mpr ⟨fun i hi=>hy i fun z=>by have:=(zAL.mp z).1;omega,he⟩;refine Sp.small h.ech hs fun q hq=>?_;have:=hy q.1 fun z=>(zAL.mp z).2 q hq rfl;have:=(h.ech.mem hq).2.2.1;omega
theorem Kern.pivot{n b:Nat}{Es:List Vec}{S:List Stp}(h:Kern n Es b S){q:Stp}(hq:q∈S):Bt (ub n 0 b) (zA q.2 q.1):=by
 have hm:=h.ech.mem hq;obtain ⟨y,y1,y2,y3,y4,y5⟩:=zJF (n:=n) (N0:=bare n S) (K:=Sp S) (fun f hf hz hv i=>by
  by_cases hi: ∃s∈S,i=s.1
  ·obtain ⟨s,hs,rfl⟩:=hi;exact zOX h.ech (fun r hr=>hv _ (Sp.mem hr)) (fun j hj _=>by
    by_cases hjn:j<n
    ·exact hz j (zAL.mpr ⟨hjn,fun r hr z=>hj r hr z.symm⟩)
    ·exact zi (by omega)) s hs
  ·by_cases hin:i<n
   ·exact hz i (zAL.mpr ⟨hin,fun r hr z=>hi ⟨r,hr,z.symm⟩⟩)
   ·exact zi (by omega)) (p:=q.1) hm.2.1 (fun z=>(zAL.mp z).2 q hq rfl) (bare n S) Es b (zHl n S) (fun r hr=>⟨hr,(zAL.mp hr).1⟩) h.el h.inj (fun x hx=>((h.ker x).mp hx).2) (fun e _ r hr hn=>absurd hr hn)
 have hs:Sp S y:=(h.ker y).mpr ⟨y5,y3⟩;have hd:=Sp.dvd h.ech hs hq fun s hs' hlt=>y4 s.1 (fun z=>(zAL.mp z).2 s hs' rfl) (by omega);refine (y2.mono (zBN (zPZ 0) (zGD n S) (zPZ b))).le ?_;exact Nat.le_of_dvd (by omega) (Int.natAbs_dvd_natAbs.mpr hd)
theorem Kern.grow{n b l B:Nat}{Es:List Vec}{S:List Stp}(h:Kern n Es b S)(hl:n+1<=2^l){x:Fn}{c:Vec->Int}{z:Int}(hx: ∀i,n<=i->x i=0)(he: ∀e∈Es,dt x e+c e*z=0)(hc: ∀e∈Es,Bt b (c e))(hz:Bt B z)(hp: ∀q∈S,Bt B (x q.1)): ∀i,Bt (ub n l b+B) (x i):=by
 have app: ∀(e:Vec) (y:Fn) (d:Int),dt y (e++ [d])=dt y e+y e.length*d:=by
  intro e
  induction e with
  | nil=>intro y d;simp [dt]
  | cons a e ih=>intro y d;simp only [List.cons_append,dt,List.length_cons];rw [ih];omega
 have low: ∀(e:Vec) (y y':Fn),(∀i,i<e.length->y i=y' i)->dt y e=dt y' e:=by
  intro e
  induction e with
  | nil=>intro y y' _;rfl
  | cons a e ih=>intro y y' hy;simp only [dt];rw [hy 0 (by simp),ih _ _ fun i hi=>hy (i+1) (by simp;omega)]
 have key:=zJC (n:=n+1) (l:=l) hl (bare n S) (Es.map fun e=>e++ [c e]) b B (fun i=>if i=n then z else x i) (zHl n S) (fun e he'=>by
  obtain ⟨e',h1,rfl⟩:=List.mem_map.mp he';obtain ⟨a1,a2⟩:=h.el e' h1;refine ⟨by simp [a1],fun i=>?_⟩;by_cases hi:i<n
  ·have:zA (e'++ [c e']) i=zA e' i:=by simp [zA,List.getElem?_append_left (show i<e'.length by omega)]
   rw [this];exact a2 i
  ·by_cases hi':i=n
   ·have:zA (e'++ [c e']) i=c e':=by rw [hi'];simp [zA,<-a1]
    rw [this];exact hc e' h1
   ·rw [zi (by simp;omega)];exact Bt.zero) (fun y hy he'=>h.inj y hy fun e h1=>by
   have:=he' (e++ [c e]) (List.mem_map_of_mem h1);rw [app,(h.el e h1).1,hy n (fun t=>by have:=(zAL.mp t).1;omega)] at this;simpa using this) (fun e he'=>by
   obtain ⟨e',h1,rfl⟩:=List.mem_map.mp he';rw [app,(h.el e' h1).1,low e' _ x fun i hi=>if_neg (by have:=(h.el e' h1).1;omega)];have:=he e' h1;rw [if_pos rfl,Int.mul_comm z];omega) (fun i hi=>by
   show Bt B (if i=n then z else x i);split
   ·exact hz
   ·by_cases hin:i<n
    ·by_cases hS: ∃q∈S,q.1=i
     ·obtain ⟨q,hq,rfl⟩:=hS;exact hp q hq
     ·exact absurd (zAL.mpr ⟨hin,fun q hq e=>hS ⟨q,hq,e⟩⟩) hi
    ·rw [hx i (by omega)];exact Bt.zero)
 intro i;by_cases hi:i=n
 ·rw [hi,hx n (zPZ n)];exact Bt.zero
 ·have:=key i;rw [if_neg hi] at this;exact this.mono (Nat.add_le_add_right (zBN (zPZ l) (zGD n S) (zPZ b)) B)
theorem zFM{n:Nat}: ∀{S:List Stp},Ech n S->Red S-> ∀q∈S,∀r∈S,0<=zA q.2 r.1/\zA q.2 r.1<=zA r.2 r.1
 | [],_,_,q,hq,_,_=>(nomatch hq)
 |(p,v)::S,⟨h1,h2,h3,h4,h5,h6⟩,⟨r1,r2⟩,q,hq,r,hr=>by
  rcases List.mem_cons.mp hq with rfl | hq<;>rcases List.mem_cons.mp hr with rfl | hr
  ·exact ⟨Int.le_of_lt h3,Int.le_refl _⟩
  ·have:=r1 r hr;exact ⟨this.1,Int.le_of_lt this.2⟩
  ·have z:=(h6.mem hq).2.2.2 p (h5 q hq);show 0<=zA q.2 p/\zA q.2 p<=zA v p;omega
  ·exact zFM h6 r2 q hq r hr
theorem zFt{b:Nat}{x y:Int}(h:Bt b y)(h1: -y<=x)(h2:x<=y):Bt b x:=h.le (by omega)
theorem Kern.steps{n b l:Nat}{Es:List Vec}{S:List Stp}(h:Kern n Es b S)(hr:Red S)(hl:n+1<=2^l){q:Stp}(hq:q∈S):Bts (ub n l b+ub n 0 b) q.2:=by
 have hm:=(h.ker _).mp (Sp.mem hq);refine h.grow hl (x:=zA q.2) (c:=fun _=>0) (z:=0) hm.1 (fun e he=>by rw [hm.2 e he];simp) (fun _ _=>Bt.zero) Bt.zero fun r hr'=>?_;have:=zFM h.ech hr q hq r hr';exact zFt (h.pivot hr') (by omega) this.2
theorem zGQ{e:Vec}: ∀{S S':List Stp},S'<:+S-> ∀q∈(part e S').1,q∈(part e S).1
 | [],S',h,q,hq=>by rw [List.suffix_nil.mp h] at hq;exact hq
 |(p,v)::S,S',h,q,hq=>by
  rcases List.suffix_cons_iff.mp h with rfl | h
  ·exact hq
  ·have ih:=zGQ (e:=e) h q hq;simp only [part];split
   ·exact zQC _ ih
   ·split
    ·exact ih
    ·split<;>exact zQC _ ih
theorem zGq{n:Nat}{e:Vec}: ∀{S S':List Stp},Ech n S->S'<:+S-> ∀q∈(part e S).1,q∈(part e S').1\/ ∀s∈S',q.1<s.1
 | [],S',_,h,q,hq=>by rw [List.suffix_nil.mp h];exact .inl hq
 |(p,v)::S,S',⟨h1,h2,h3,h4,h5,h6⟩,h,q,hq=>by
  rcases List.suffix_cons_iff.mp h with rfl | h
  ·exact .inl hq
  ·have ih:=zGq (e:=e) h6 h q;have hd:q.1=p->q∈(part e S').1\/ ∀s∈S',q.1<s.1:=fun z=> .inr fun s hs=>by rw [z];exact h5 s (h.subset hs)
   simp only [part] at hq;split at hq
   ·rcases List.mem_cons.mp hq with rfl | hq
    ·exact hd rfl
    ·exact ih hq
   ·split at hq
    ·exact ih hq
    ·split at hq
     ·rcases List.mem_cons.mp hq with rfl | hq
      ·exact hd rfl
      ·exact ih hq
     ·rcases List.mem_cons.mp hq with rfl | hq
      ·exact hd rfl
      ·exact ih hq
theorem zHF{n:Nat}{e:Vec}: ∀{S:List Stp},Ech n S->Red S->0<(part e S).2.2-> ∀q∈(part e S).1,- zA q.2 q.1<zA (part e S).2.1 q.1/\zA (part e S).2.1 q.1<zA q.2 q.1
 | [],_,_,hr=>by simp [part] at hr
 |(p,v)::S,h,hR,hr=>by
  have hE:=h;obtain ⟨h1,h2,h3,h4,h5,h6⟩:=h;have I:=zv (e:=e) h6;have J:=zHF (e:=e) h6 hR.2;simp only [part] at hr⊢;generalize part e S=r at I J hr⊢;obtain ⟨k,vec,rc⟩:=r;simp only at I J hr⊢;by_cases h0:dt (zA v) e=0
  ·rw [if_pos h0] at hr⊢;simp only at hr⊢;intro q hq;rcases List.mem_cons.mp hq with rfl | hq
   ·have:=I.ahead hr p h5;have h3':0<zA v p:=h3;show - zA v p<zA vec p/\zA vec p<zA v p;omega
   ·exact J hr q hq
  ·rw [if_neg h0] at hr⊢;by_cases hr0:rc=0
   ·rw [if_pos hr0] at hr⊢;simp only at hr⊢;have ek:=I.same hr0;subst ek;intro q hq;have:=hR.1 q hq;split
    ·omega
    ·rw [zCo h1 h1];omega
   ·rw [if_neg hr0] at hr⊢;have hrp:0<rc:=by have:=I.r0;omega
    obtain ⟨g1,g2,g3,_⟩:=zAA (one:=dt (zA v) e) hrp;have P:=zv (e:=e) hE;have hvl:=I.len hrp;have hkp: ∀q∈k,p<q.1:=fun q hq=>by
     obtain ⟨s,hs,e1⟩:=I.pl q hq;rw [<-e1];exact h5 s hs
    have hg:0<rc/(zu (dt (zA v) e) rc).1:=Int.ediv_pos_of_pos_of_dvd hrp (by omega) g3;have hpw:0<zA (zU (zP (rc/(zu (dt (zA v) e) rc).1) v (-(dt (zA v) e/(zu (dt (zA v) e) rc).1)) vec) k) p:=by
     rw [(yB I.ech (zZ h1 hvl)).2.2.2 p hkp,zCo h1 hvl,I.ahead hrp p h5];have:=Int.mul_pos hg h3;omega
    have hech:Ech n ((p,zU (zP (rc/(zu (dt (zA v) e) rc).1) v (-(dt (zA v) e/(zu (dt (zA v) e) rc).1)) vec) k)::k):=by
     obtain ⟨l1,l2,l3,l4⟩:=yB (r:=zP (rc/(zu (dt (zA v) e) rc).1) v (-(dt (zA v) e/(zu (dt (zA v) e) rc).1)) vec) I.ech (zZ h1 hvl);refine ⟨l1,h2,hpw,fun j hj=>?_,hkp,I.ech⟩;rw [l4 j fun q hq=>Nat.lt_trans hj (hkp q hq),zCo h1 hvl,h4 j hj,I.ahead hrp j fun q hq=>Nat.lt_trans hj (h5 q hq)];simp
    split
    ·intro q hq;have z:=(yB (r:=zP (zu (dt (zA v) e) rc).2.1 v (zu (dt (zA v) e) rc).2.2 vec) hech (zZ h1 hvl)).2.2.1 q hq;have:=(hech.mem hq).2.2.1;show - zA q.2 q.1<zA (zU _ _) q.1/\zA (zU _ _) q.1<zA q.2 q.1;omega
    ·intro q hq;rcases List.mem_cons.mp hq with rfl | hq
     ·have:=I.ahead hrp p h5;simp only;omega
     ·exact J hrp q hq
theorem zEb{n R:Nat}{e:Vec}: ∀{S:List Stp},Ech n S->(∀q∈S,Bt R (dt (zA q.2) e))->Bt R (part e S).2.2
 | [],_,_=>Bt.zero
 |(p,v)::S,h,hB=>by
  have h6:=h.2.2.2.2.2;have I:=zv (e:=e) h6;have ih:=zEb (e:=e) h6 fun q hq=>hB q (by simp [hq]);have hv:=hB (p,v) (by simp);simp only [part];generalize part e S=r at I ih⊢;obtain ⟨k,vec,rc⟩:=r;simp only at I ih⊢;split
  ·exact ih
  ·split
   ·exact hv.le (by simp)
   ·rename_i h0 hr0
    have hr:0<rc:=by have:=I.r0;omega
    obtain ⟨g1,_⟩:=zAA (one:=dt (zA v) e) hr;split
    ·rename_i hlt
     exact ih.le (by simp only;omega)
    ·exact ih
theorem zGU{e:Vec}: ∀{n:Nat} {S:List Stp},Ech n S->(part e S).2.2=0->(part e S).2.1= []
 | n,[],_,_=>rfl
 | n,(p,v)::S,h,hr=>by
  have h6:=h.2.2.2.2.2;have I:=zv (e:=e) h6;have ih:=zGU (e:=e) h6;simp only [part] at hr⊢;generalize part e S=r at I ih hr⊢;obtain ⟨k,vec,rc⟩:=r;simp only at I ih hr⊢;by_cases h0:dt (zA v) e=0
  ·rw [if_pos h0] at hr⊢;exact ih hr
  ·rw [if_neg h0] at hr⊢;by_cases hr0:rc=0
   ·rw [if_pos hr0] at hr;simp only at hr;omega
   ·rw [if_neg hr0] at hr⊢;have hrp:0<rc:=by have:=I.r0;omega
    obtain ⟨g1,_⟩:=zAA (one:=dt (zA v) e) hrp;split at hr
    ·simp only at hr;omega
    ·exact absurd hr hr0
theorem zAK{n:Nat}: ∀{S S':List Stp},Ech n S->S'<:+S->Ech n S'
 | [],S',_,h=>by rw [List.suffix_nil.mp h];trivial
 |(p,v)::S,S',hE,h=>by
  rcases List.suffix_cons_iff.mp h with rfl | h
  ·exact hE
  ·exact zAK hE.2.2.2.2.2 h
theorem zEU: ∀{S S':List Stp},Red S->S'<:+S->Red S'
 | [],S',_,h=>by rw [List.suffix_nil.mp h];trivial
 |(p,v)::S,S',hE,h=>by
  rcases List.suffix_cons_iff.mp h with rfl | h
  ·exact hE
  ·exact zEU hE.2 h
theorem Kern.part{n b:Nat}{Es:List Vec}{S:List Stp}{e:Vec}(h:Kern n Es b S)(he:e.length=n/\Bts b e):Kern n (Es++ [e]) b (part e S).1:=by
 have P:=zv (e:=e) h.ech;refine ⟨P.ech,fun x=>?_,fun e' h'=>?_⟩
 ·rcases Int.lt_or_eq_of_le P.r0 with hr | hr
  ·constructor
   ·intro hx;obtain ⟨a,b⟩:=(h.ker x).mp ((P.sp hr x).mpr ⟨0,hx.congr fun i=>by simp⟩);refine ⟨a,fun e' h'=>?_⟩;rcases List.mem_append.mp h' with z | z
    ·exact b e' z
    ·rw [List.mem_singleton.mp z];exact Sp.dt hx P.dt0
   ·rintro ⟨a,b⟩;obtain ⟨c,hx⟩:=(P.sp hr x).mp ((h.ker x).mpr ⟨a,fun e' h'=>b e' (by simp [h'])⟩);have z1:=Sp.dt hx P.dt0;rw [zAa,zBK,b e (by simp),P.dtv hr] at z1;have z2:c*(FrV.part e S).2.2=0:=by omega
    rcases Int.mul_eq_zero.mp z2 with z | z
    ·subst z;exact hx.congr fun i=>by simp
    ·omega
  ·have ek:=P.same hr.symm;constructor
   ·intro hx;have hx':=hx;rw [ek] at hx';obtain ⟨a,b⟩:=(h.ker x).mp hx';refine ⟨a,fun e' h'=>?_⟩;rcases List.mem_append.mp h' with z | z
    ·exact b e' z
    ·rw [List.mem_singleton.mp z];exact Sp.dt hx P.dt0
   ·rintro ⟨a,b⟩;rw [ek];exact (h.ker x).mpr ⟨a,fun e' h'=>b e' (by simp [h'])⟩
 ·rcases List.mem_append.mp h' with z | z
  ·exact h.el e' z
  ·rw [List.mem_singleton.mp z];exact he
def VV(n l b:Nat):Nat:=3*ub n l b+b+l
structure PartOk(V:Nat)(e:Vec)(S:List Stp):Prop where
 eq:Bts V e
 s: ∀q∈S,Bts V q.2
 k: ∀S',S'<:+S-> ∀q∈(part e S').1,Bts V q.2
 v: ∀S',S'<:+S->Bts V (part e S').2.1
 r: ∀S',S'<:+S->Bt V (part e S').2.2
theorem zMN{n b l:Nat}{Es:List Vec}{S:List Stp}{e:Vec}(h:Kern n Es b S)(hR:Red S)(he:e.length=n/\Bts b e)(hl:n+1<=2^l):PartOk (VV n l b) e S:=by
 have u0:ub n 0 b<=ub n l b:=zBN (zPk l) (zPZ n) (zPZ b);have hk:=h.part he;have hkR:=zEI (e:=e) h.ech hR;have hs: ∀q∈S,Bts (ub n l b+ub n 0 b) q.2:=fun q hq=>h.steps hR hl hq;have hown: ∀q∈S,Bt (ub n l b+ub n 0 b+b+l) (dt (zA q.2) e):=fun q hq=>zCc e _ l (by rw [he.1];omega) (hs q hq) he.2;have hr: ∀S',S'<:+S->Bt (ub n l b+ub n 0 b+b+l) (part e S').2.2:=fun S' h'=>zEb (zAK h.ech h') fun q hq=>hown q (h'.subset hq);refine ⟨he.2.mono (by unfold VV;omega),fun q hq=>(hs q hq).mono (by unfold VV;omega),fun S' h' q hq=>(hk.steps hkR hl (zGQ h' q hq)).mono (by unfold VV;omega),fun S' h'=>?_,fun S' h'=>(hr S' h').mono (by unfold VV;omega)⟩;have E':=zAK h.ech h';have P:=zv (e:=e) E';rcases Int.lt_or_eq_of_le P.r0 with hp | hp
 ·have spx:Sp S (zA (part e S').2.1):=by
   have a:Sp S' (zA (part e S').2.1):=(P.sp hp _).mpr ⟨1,Sp.zero _ fun i=>by omega⟩;exact Sp.of a fun q hq=>Sp.mem (h'.subset hq)
  have kx:=(h.ker _).mp spx;have g:=hk.grow hl (x:=zA (part e S').2.1) (c:=fun e'=>if dt (zA (part e S').2.1) e'=0 then 0 else -1) (z:=(part e S').2.2) (B:=ub n l b+ub n 0 b+b+l) kx.1 (fun e' h1=>by
   show _+(if dt (zA (part e S').2.1) e'=0 then 0 else -1)*_=0;rcases List.mem_append.mp h1 with z | z
   ·rw [if_pos (kx.2 e' z),kx.2 e' z];simp
   ·rw [List.mem_singleton.mp z];have:=P.dtv hp;rw [if_neg (by omega),this];omega) (fun e' _=>by
   show Bt b (if dt (zA (part e S').2.1) e'=0 then 0 else -1);split
   ·exact Bt.zero
   ·exact Bt.one.neg) (hr S' h') (fun q hq=>by
   rcases zGq h.ech h' q hq with z | z
   ·have:=zHF E' (zEU hR h') hp q z;exact (zFt (hk.pivot hq) (by omega) (by omega)).mono (by omega)
   ·rw [P.ahead hp q.1 z];exact Bt.zero)
  exact fun i=>(g i).mono (by unfold VV;omega)
 ·rw [zGU E' hp.symm];exact fun i=>Bt.zero
end FrV
namespace Fr
open PySem PySem.Spec PyProof.Rows L2 FrM
def top(i:Nat):Stmt:=PySem.Challenge.pw_measurewise_k11_whole_open_and_put_in.main.body.getD i (.Pass ⟨0,0,0,0⟩)
abbrev zCN:Stmt:=top 4
abbrev zCE:Stmt:=top 5
abbrev zEz:Stmt:=top 7
abbrev zFX:Stmt:=top 10
abbrev zBD:Stmt:=top 11
abbrev zCT:Stmt:=top 12
abbrev zBt:Stmt:=top 13
abbrev zEJ:Stmt:=top 14
abbrev zDh:Stmt:=top 15
abbrev zBP:Stmt:=top 16
abbrev zDa:Stmt:=top 17
abbrev zBx:Stmt:=top 22
abbrev zDH:Stmt:=top 23
abbrev zEn:Stmt:=top 26
abbrev zCa:Stmt:=top 27
abbrev zEq:Stmt:=top 28
abbrev zCM:Stmt:=top 29
abbrev zFW:Stmt:=top 30
abbrev zHI:Stmt:=top 31
abbrev zDL:Stmt:=top 32
abbrev zBb:Stmt:=top 33
abbrev zEd:Stmt:=top 35
abbrev zGp:Stmt:=top 36
abbrev zGM:Stmt:=top 37
abbrev zDC:Stmt:=top 39
abbrev zEg:Stmt:=top 40
abbrev zCV:Stmt:=top 41
abbrev zCS:Stmt:=top 42
abbrev zGk:Stmt:=top 44
abbrev zEM:Stmt:=top 45
abbrev zCv:Stmt:=top 46
abbrev zCY:Stmt:=top 47
abbrev zCO:Stmt:=top 48
abbrev zFT:Stmt:=top 49
abbrev zGf:Stmt:=top 50
abbrev zDD:Stmt:=top 51
abbrev zEt:Stmt:=top 52
abbrev zEH:Stmt:=top 53
theorem zAH:bootBuiltins "list" =some (.type "list"):=by decide+kernel
theorem zGZ:bootBuiltins "max" =some (.builtin "max"):=by decide+kernel
theorem zEh:bootBuiltins "all" =some (.builtin "all"):=by decide+kernel
theorem zNw:bootBuiltins "any" =some (.builtin "any"):=by decide+kernel
theorem zGv:bootBuiltins "sum" =some (.builtin "sum"):=by decide+kernel
theorem ye:bootBuiltins "isinstance" =some (.builtin "isinstance"):=by decide+kernel
theorem yo:bootBuiltins "len" =some (.builtin "len"):=by decide+kernel
theorem zJR:bootBuiltins "abs" =some (.builtin "abs"):=by decide+kernel
theorem zGs:bootBuiltins "int" =some (.type "int"):=by decide+kernel
theorem zHx:bootBuiltins "bool" =some (.type "bool"):=by decide+kernel
inductive Kd (H:Hp):V->Prop
 | non:Kd H .non
 | bl (b:Bool):Kd H (.bl b)
 | int (i:Int):Kd H (.int i)
 | str (x:Str):Kd H (.str x)
 | lst {a:Addr} {xs:List V} (e:H a=some (.lst xs)):Kd H (.ref a)
 | tup {a:Addr} {xs:List V} (e:H a=some (.tup xs)):Kd H (.ref a)
def isW:V->Bool
 | .int _=>true
 | _=>false
def zKI:V->Bool
 | .int _=>true
 | .bl _=>true
 | _=>false
theorem zIb(K:zQK):PySem.W.kitOne K (.type "NoneType") (.type "int")=some false:=by kernel_rfl
theorem zIl(K:zQK):PySem.W.kitOne K (.type "bool") (.type "int")=some true:=by kernel_rfl
theorem zFk(K:zQK):PySem.W.kitOne K (.type "int") (.type "int")=some true:=by kernel_rfl
theorem zJb(K:zQK):PySem.W.kitOne K (.type "str") (.type "int")=some false:=by kernel_rfl
theorem zIR(K:zQK):PySem.W.kitOne K (.type "list") (.type "int")=some false:=by kernel_rfl
theorem zHO(K:zQK):PySem.W.kitOne K (.type "tuple") (.type "int")=some false:=by kernel_rfl
theorem zHM(K:zQK):PySem.W.kitOne K (.type "bool") (.type "bool")=some true:=by kernel_rfl
theorem zEi(K:zQK):PySem.W.kitOne K (.type "int") (.type "bool")=some false:=by kernel_rfl
theorem zOH(K:zQK){H:Hp}{x:V}(k:Kd H x): ∃t,TyOf K H x t/\PySem.W.kitOne K t (.type "int")=some (zKI x):=by
 cases k with
 | non=>exact ⟨_,.non,zIb K⟩
 | bl b=>exact ⟨_,.bl b,zIl K⟩
 | int i=>exact ⟨_,.int i,zFk K⟩
 | str x=>exact ⟨_,.str x,zJb K⟩
 | lst e=>exact ⟨_,.lst e,zIR K⟩
 | tup e=>exact ⟨_,.tup e,zHO K⟩
theorem zMZ(K:zQK){H:Hp}{x:V}(k:Kd H x)(h:zKI x=true): ∃t,TyOf K H x t/\PySem.W.kitOne K t (.type "bool")=some (!isW x):=by
 cases k with
 | bl b=>exact ⟨_,.bl b,zHM K⟩
 | int i=>exact ⟨_,.int i,zEi K⟩
 | non=>cases h
 | str x=>cases h
 | lst e=>cases h
 | tup e=>cases h
structure Bn(mg:Str->Option Value):Prop where
 isi:mg "isinstance" =none
 int:mg "int" =none
 bool:mg "bool" =none
 tuple:mg "tuple" =none
 len:mg "len" =none
 range:mg "range" =none
 str:mg "str" =none
 abs:mg "abs" =none
 list:mg "list" =none
 all:mg "all" =none
 any:mg "any" =none
 sum:mg "sum" =none
 zip:mg "zip" =none
 reversed:mg "reversed" =none
 enumerate:mg "enumerate" =none
 max:mg "max" =none
section
variable {P:Program}{w:World}{K:zQK}{mg:Str->Option Value}{base:Heap}
def zDe:Sp:=fun vs H Q _=> ∃x,vs= [x] /\Kd H x/\Q (.bl (isW x)) H
theorem zMV:FnScope ["thing"] ["thing"] (zF zCN):=⟨rfl,rfl,rfl,by decide+kernel,rfl,by decide+kernel,by decide+kernel⟩
theorem zJz{f:Addr}{fd:FuncData}(F:Fun K "is_whole" "is_whole" zCN f fd)(B:Bn mg):FnOk P w K mg base CX0 1 f fd ["thing"] zDe:=by
 refine F.ok zMV (fun vs H Q E h=>?_) (fun cdv A outer s H vs Q E hr h=>?_)
 ·obtain ⟨x,rfl,_⟩:=h;rfl
 ·obtain ⟨x,rfl,kd,q⟩:=h;refine ⟨_,zBL (zCZ (zJE (zCh zEC (by rfl) B.isi ye (yi (pv 0) (yi (zFN (v:= .ty "int") (by rfl) B.int zGs rfl) zAt)))
   (zJO (zJg (zCh zEC (by rfl) B.isi ye (yi (pv 0) (yi (zFN (v:= .ty "bool") (by rfl) B.bool zHx rfl) zAt))))))),?_⟩
  obtain ⟨t,ty,e⟩:=zOH K kd;refine ⟨x,rfl,x,.ty "int",t,.type "int",_,rfl,rfl,ty,e,_,rfl,?_⟩;cases hx:zKI x with
  | false=>
   refine zBY ?_;have:isW x=false:=by cases x<;>first | rfl | cases hx
   rw [this] at q;exact q
  | true=>
   refine zp ?_;obtain ⟨t',ty',e'⟩:=zMZ K kd hx;refine ⟨x,rfl,x,.ty "bool",t',.type "bool",_,rfl,rfl,ty',e',_,rfl,?_⟩;rw [Bool.not_not];exact q
def zFy:Sp:=fun vs H Q _=> ∃a b:Int,vs= [.int a,.int b] /\0<b/\Q (.int ((Int.gcd a b:Nat):Int)) H
theorem zDi:FnScope ["above","below","greater","lesser","rest"] ["above","below"] (zF zEz):=⟨rfl,rfl,rfl,by decide+kernel,rfl,by decide+kernel,by decide+kernel⟩
theorem zNG{f:Addr}{fd:FuncData}(F:Fun K "common_divisor" "common_divisor" zEz f fd):FnOk P w K mg base CX0 1 f fd ["above","below"] zFy:=by
 refine F.ok zDi (fun vs H Q E h=>?_) (fun cdv A outer s H vs Q E hr h=>?_)
 ·obtain ⟨a,b,rfl,_⟩:=h;rfl
 ·obtain ⟨a,b,rfl,hb,q⟩:=h;refine ⟨_,zAV (zBj (i:=2) zDi.nd rfl (Or.inl rfl) (pv 1)) (zAV (zBj (i:=3) zDi.nd rfl (Or.inl rfl) (zAC zBi (pv 0) (pv 1)))
   (zAV (zHB PassesOwn.never (zFV zAm (pv 3) zAR (zJr _))
    (zAV (zBj (i:=4) zDi.nd rfl (Or.inl rfl) (zAC zBi (pv 2) (pv 3))) (zAV (zBj (i:=2) zDi.nd rfl (Or.inl rfl) (pv 3)) (zBL (zBj (i:=3) zDi.nd rfl (Or.inl rfl) (pv 4))))))
   (zBL (zCZ (pv 2))))),?_⟩
  refine ⟨_,rfl,_,rfl,_,rfl,_,_,rfl,rfl,hb,?_⟩;refine zEF (fun σ H'=>H'=H/\ ∃(g l:Int) (r:Option V),σ= [some (.int a),some (.int b),some (.int g),some (.int l),r] /\0<g/\0<=l/\Int.gcd g l=Int.gcd a b)
   (fun (σ:L2.St) _=>match σ[3]? with | some (some (V.int l))=>l.toNat | _=>0) ⟨rfl,b,a % b,none,rfl,hb,zPn _ (by omega),zGY a b hb⟩ ?_ ?_
  ·rintro σ H' ⟨rfl,g,l,r,rfl,hg,hl,e⟩;refine ⟨_,rfl,_,_,rfl,rfl,_,rfl,?_⟩;refine yl (fun z=>?_) (fun z=>?_)
   ·have hp:0<l:=by simpa using z
    refine ⟨_,rfl,_,rfl,_,_,rfl,rfl,hp,_,rfl,_,rfl,⟨rfl,l,g % l,_,rfl,hp,zPn _ (by omega),?_⟩,?_⟩
    ·rw [zGY g l hp,e]
    ·show (g % l).toNat<l.toNat;have:=zPh g hp;have:=zPn g (by omega:l≠0);omega
   ·have hz:l=0:=by
     have: ¬0<l:=by simpa using z
     omega
    subst hz;refine ⟨_,rfl,?_⟩;rw [<-e,zKf g (by omega)] at q;exact q
  ·rintro σ H' R R' hR ⟨v,e1,i,j,e2,e3,k,e4,q'⟩;exact ⟨v,e1,i,j,e2,e3,k,e4,hR _ _ q'⟩
end
open FrV
theorem zC.upd{H:Hp}{p:Addr}{o:HO}(hp:H p=none):zC H (L2.upd H p o):=fun b u e=>by rw [zH (yU e hp)];exact e
theorem zC.store{H H':Hp}{D:Addr}{o:HO}(s:zC H H')(hD:H D=none):zC H (L2.upd H' D o):=fun b u e=>by rw [zH (yU e hD)];exact s b u e
theorem zC.none{H H':Hp}(s:zC H H'){a:Addr}(h:H' a=none):H a=none:=by
 cases z:H a with
 | none=>rfl
 | some o=>rw [s _ _ z] at h;cases h
theorem zJt{H:Hp}{a:Addr}(h:H a=none)(o:HO): ∃G,L2.upd H a o=G/\zC H G/\G a=some o:=⟨_,rfl,zC.upd h,zB⟩
theorem bs(n:Nat)(h:n<=60:=by decide):n<=sizeLine:=by rw [zPg];omega
theorem zBO{b:Bool}{p q:Prop}(h:b=false)(hq:q):if b=true then p else q:=by rw [h];exact hq
theorem zIq{b:Bool}{p q:Prop}(h:b=true)(hq:p):if b=true then p else q:=by rw [h];exact hq
theorem yQ{σ:L2.St}(h:σ.length=1): ∃a,σ= [a] :=List.length_eq_one_iff.mp h
theorem zh{σ:L2.St}(h:σ.length=2): ∃a b,σ= [a,b] :=by
 cases σ with
 | nil=>cases h
 | cons a r=>
  obtain ⟨b,rfl⟩:=List.length_eq_one_iff.mp (show r.length=1 by simpa using h);exact ⟨a,b,rfl⟩
theorem Paired.get'{α β:Type}{F:α->β->Prop}{xs:List α}{ys:List β}(h:Paired F xs ys){i:Nat}{x:α}(e:xs[i]?=some x): ∃y,ys[i]?=some y/\F x y:=by
 induction h generalizing i with
 | nil=>simp at e
 | @cons a b l1 l2 h1 _ ih=>
  cases i with
  | zero=>simp at e;subst e;exact ⟨b,rfl,h1⟩
  | succ i=>exact ih (by simpa using e)
theorem Paired.getR{α β:Type}{F:α->β->Prop}{xs:List α}{ys:List β}(h:Paired F xs ys){i:Nat}{y:β}(e:ys[i]?=some y): ∃x,xs[i]?=some x/\F x y:=by
 induction h generalizing i with
 | nil=>simp at e
 | @cons a b l1 l2 h1 _ ih=>
  cases i with
  | zero=>simp at e;subst e;exact ⟨a,rfl,h1⟩
  | succ i=>exact ih (by simpa using e)
theorem Paired.snoc'{α β:Type}{F:α->β->Prop}{xs:List α}{ys:List β}{a:α}{b:β}(h:Paired F xs ys)(k:F a b):Paired F (xs++ [a]) (ys++ [b]):=by
 induction h with
 | nil=>exact .cons k .nil
 | cons r _ ih=>exact .cons r ih
theorem Paired.app{α β:Type}{F:α->β->Prop}{xs zs:List α}{ys ws:List β}(h:Paired F xs ys)(k:Paired F zs ws):Paired F (xs++zs) (ys++ws):=by
 induction h with
 | nil=>exact k
 | cons r _ ih=>exact .cons r ih
theorem Paired.len{α β:Type}{F:α->β->Prop}{xs:List α}{ys:List β}(h:Paired F xs ys):xs.length=ys.length:=by
 induction h with
 | nil=>rfl
 | cons _ _ ih=>simp [ih]
theorem Paired.mapM{α β:Type}{F G:α->β->Prop}{xs:List α}{ys:List β}(h:Paired F xs ys)(f: ∀a b,a∈xs->F a b->G a b):Paired G xs ys:=by
 induction h with
 | nil=>exact .nil
 | cons r _ ih=>exact .cons (f _ _ (by simp) r) (ih fun a b ha=>f a b (by simp [ha]))
def LI(H:Hp)(a:Addr)(v:Vec):Prop:=H a=some (.lst (v.map V.int))
theorem LI.same{H H':Hp}{a:Addr}{v:Vec}(h:LI H a v)(s:zC H H'):LI H' a v:=s _ _ h
abbrev LIs(H:Hp)(as:List Addr)(vs:List Vec):Prop:=Paired (LI H) as vs
def LL(H:Hp)(l:Addr)(vs:List Vec):Prop:= ∃as,H l=some (.lst (as.map V.ref))/\LIs H as vs
theorem LIs.same{H H':Hp}{as:List Addr}{vs:List Vec}(h:LIs H as vs)(s:zC H H'):LIs H' as vs:=Paired.mapP h fun a v e=>s _ _ e
theorem LL.same{H H':Hp}{l:Addr}{vs:List Vec}(h:LL H l vs)(s:zC H H'):LL H' l vs:=let ⟨as,e,p⟩:=h;⟨as,s _ _ e,LIs.same p s⟩
abbrev Mk2:=Nat×Int
def zBv(e:Vec):List Mk2:=((List.range e.length).map fun i=>(i,zA e i)).filter fun p=>p.2 !=0
abbrev MkA(H:Hp)(ts:List Addr)(ms:List Mk2):Prop:=Paired (fun t (p:Mk2)=>H t=some (.tup [.int (p.1:Int),.int p.2])) ts ms
def MkL(H:Hp)(l:Addr)(ms:List Mk2):Prop:= ∃ts:List Addr,H l=some (.lst (ts.map V.ref))/\MkA H ts ms
theorem MkA.same{H H':Hp}{ts:List Addr}{ms:List Mk2}(h:MkA H ts ms)(s:zC H H'):MkA H' ts ms:=Paired.mapP h fun a v e=>s _ _ e
theorem MkL.same{H H':Hp}{l:Addr}{ms:List Mk2}(h:MkL H l ms)(s:zC H H'):MkL H' l ms:=let ⟨as,e,p⟩:=h;⟨as,s _ _ e,MkA.same p s⟩
def StO(C:Addr)(H:Hp)(o:Addr)(q:Stp):Prop:= ∃dx a,H o=some (.ins C dx [("place",.int (q.1:Int)),("vector",.ref a)])/\LI H a q.2
theorem StO.same{C:Addr}{H H':Hp}{o:Addr}{q:Stp}(h:StO C H o q)(s:zC H H'):StO C H' o q:=let ⟨dx,a,e,p⟩:=h;⟨dx,a,s _ _ e,p.same s⟩
abbrev StA(C:Addr)(H:Hp)(os:List Addr)(S:List Stp):Prop:=Paired (StO C H) os S
def StL(C:Addr)(H:Hp)(l:Addr)(S:List Stp):Prop:= ∃os,H l=some (.lst (os.map V.ref))/\StA C H os S
theorem StA.same{C:Addr}{H H':Hp}{os:List Addr}{S:List Stp}(h:StA C H os S)(s:zC H H'):StA C H' os S:=Paired.mapP h fun a v e=>e.same s
theorem StL.same{C:Addr}{H H':Hp}{l:Addr}{S:List Stp}(h:StL C H l S)(s:zC H H'):StL C H' l S:=let ⟨os,e,p⟩:=h;⟨os,s _ _ e,StA.same p s⟩
theorem ya{b:Nat}{x:Int}(h:Bt b x)(hb:b<60000000):Sz 60000000 x:=by
 unfold Sz;exact zPm h (Nat.pow_lt_pow_right (by decide) hb)
theorem zT{v:Vec}{i:Nat}(h:i<v.length):(v.map V.int)[i]?=some (.int (zA v i)):=by
 rw [zPa,zAl h];rfl
theorem zDb{v:Vec}{i:Nat}(h:i<v.length):v.take (i+1)=v.take i++ [zA v i] :=by
 rw [zPs,zAl h];rfl
section
variable {P:Program}{w:World}{K:zQK}{mg:Str->Option Value}{base:Heap}
def zKM(H:Hp)(Q:VK)(v:Vec):Prop:= ∀l H',zC H H'->H l=none->LI H' l v->Q (.ref l) H'
def zFo:Sp:=fun vs H Q _=> ∃p n:Nat,vs= [.int (p:Int),.int (n:Int)] /\n<=1000/\zKM H Q (zS p n)
theorem zOt:FnScope ["place","length"] ["place","length"] (zF zFX):=⟨rfl,rfl,rfl,by decide+kernel,rfl,by decide+kernel,by decide+kernel⟩
theorem zIL{p n i:Nat}(h:i<n):(zS p n).take (i+1)=(zS p n).take i++ [if i=p then 1 else 0] :=by
 rw [zDb (by rw [yN];exact h),yd];simp [h]
theorem zMy{f:Addr}{fd:FuncData}(F:Fun K "one_at" "one_at" zFX f fd)(B:Bn mg):FnOk P w K mg base CX0 1 f fd ["place","length"] zFo:=by
 refine F.ok zOt (fun vs H Q E h=>?_) (fun cdv A outer s H vs Q E hr h=>?_)
 ·obtain ⟨p,n,rfl,_⟩:=h;rfl
 ·obtain ⟨p,n,rfl,hn,q⟩:=h;refine ⟨_,QB.out (zM
   (ze (zc ["other"] ["place"] [0] rfl (yZ rfl B.range (qc (qw 1 rfl) zD rfl) rfl) rfl (by decide+kernel) rfl (by decide+kernel) (zN rfl yb) rfl (fr1 ⟨rfl,rfl,rfl,_,rfl,rfl⟩) (zO rfl) (fun _ _ _ _=>(zJ 0 (show (["other","place"] :List Str).Nodup by decide+kernel) rfl (.inl rfl) (.inr rfl))) (fun _ _ _ _=>zV) (fun _ _ _ _=>(zEP (zl zAz (qw 0 rfl) (qx 1 rfl) rfl) zG zG)) (fun _=>rfl)))),?_⟩
  refine ⟨_,rfl,n,rfl,by omega,by omega,fun D hD=>?_⟩;refine zR n (fun i ys H'=>i<=n/\ys=((zS p n).take i).map V.int/\H'=L2.upd H D (.lst ys)) ⟨zPk _,by simp,rfl⟩ (by rw [zPg];omega) ?_ ?_ ?_
  ·rintro i ys H' hi ⟨_,rfl,rfl⟩;exact ⟨by simp;omega,zB,fun h=>h,fun h=>Nat.le_of_eq h.symm⟩
  ·rintro i ys H' x H'' hi ⟨_,rfl,rfl⟩ ⟨rfl,rfl⟩ pre hpre;obtain ⟨p0,rfl⟩:=yQ hpre;refine ⟨⟨[some (.int ((0:Int)+(i:Int)))],rfl,rfl⟩,zp ?_⟩;refine ⟨_,rfl,_,rfl,rfl,_,rfl,?_⟩;have fin: ∀z:Int,z=(if i=p then 1 else 0)->L2.upd H D (.lst (((zS p n).take i).map V.int)) D=some (.lst (((zS p n).take i).map V.int))/\(i+1<=n/\((zS p n).take i).map V.int++ [.int z] =((zS p n).take (i+1)).map V.int/\L2.upd (L2.upd H D (.lst (((zS p n).take i).map V.int))) D (.lst (((zS p n).take i).map V.int++ [.int z]))=L2.upd H D (.lst (((zS p n).take i).map V.int++ [.int z]))):=fun z hz=>by
    refine ⟨zB,hi,?_,by rw [zy]⟩;rw [zIL hi,zPr,hz];rfl
   refine yl (fun c=>?_) (fun c=>?_)
   ·refine fin 1 ?_;have:(0:Int)+(i:Int)=(p:Int):=by simpa using c
    rw [if_pos (by omega)]
   ·refine fin 0 ?_;have: ¬(0:Int)+(i:Int)=(p:Int):=by simpa using c
    rw [if_neg (by omega)]
  ·rintro ys H' ⟨_,rfl,rfl⟩;refine q _ _ (zC.upd hD) hD ?_;show L2.upd H D _ D=_;rw [zB,List.take_of_length_le (by rw [yN];exact zPZ _)]
def zBJ:Sp:=fun vs H Q _=> ∃(a b:Int) (p r:Addr) (u v:Vec),vs= [.int a,.ref p,.int b,.ref r] /\LI H p u/\LI H r v/\u.length=v.length/\u.length<=1000/\Bt 50000000 a/\Bt 50000000 b/\Bts 50000000 u/\Bts 50000000 v/\zKM H Q (zP a u b v)
theorem zLh:FnScope ["factor","one","other_factor","other"] ["factor","one","other_factor","other"] (zF zBD):=⟨rfl,rfl,rfl,by decide+kernel,rfl,by decide+kernel,by decide+kernel⟩
theorem zEN{f:Addr}{fd:FuncData}(F:Fun K "mixed" "mixed" zBD f fd)(B:Bn mg):FnOk P w K mg base CX0 1 f fd ["factor","one","other_factor","other"] zBJ:=by
 refine F.ok zLh (fun vs H Q E h=>?_) (fun cdv A outer s H vs Q E hr h=>?_)
 ·obtain ⟨a,b,p,r,u,v,rfl,_⟩:=h;rfl
 ·obtain ⟨a,b,p,r,u,v,rfl,hp,hv,hl,hn,ba,bb,bu,bv,q⟩:=h;refine ⟨_,QB.out (zM
   (ze (zc ["mine","yours"] ["factor","other_factor"] [0,2] rfl (zDV (K:=K) rfl rfl B.zip (qc (qw 1 rfl) (qc (qw 3 rfl) zD rfl) rfl) rfl rfl) rfl (by decide+kernel) rfl (by decide+kernel) (zN rfl (zN rfl yb)) rfl (fr2 ⟨rfl,rfl,rfl,_,rfl,rfl⟩ ⟨rfl,rfl,rfl,_,rfl,rfl⟩) (zO rfl) (fun _ _ _ _=>(zBC (K:=K) (n:=2) rfl rfl (yG (zJ 0 (show (["mine","yours","factor","other_factor"] :List Str).Nodup by decide+kernel) rfl (.inl rfl) (.inr rfl)) (yG (zJ 1 (show (["mine","yours","factor","other_factor"] :List Str).Nodup by decide+kernel) rfl (.inl rfl) (.inr rfl)) zBB rfl) rfl) rfl rfl)) (fun _ _ _ _=>zV) (fun _ _ _ _=>(zAM (zAP (qx 2 rfl) (qw 0 rfl)) (zAP (qx 3 rfl) (qw 1 rfl)))) (fun _=>rfl)))),?_⟩
  refine ⟨_,rfl,_,rfl,p,r,rfl,⟨_,SqL.of hp⟩,⟨_,SqL.of hv⟩,fun D hD=>?_⟩;have hm:(zP a u b v).length=u.length:=zZ rfl hl.symm;refine zR u.length (fun i ys H'=>i<=u.length/\ys=((zP a u b v).take i).map V.int/\zC H H'/\H' D=some (.lst ys)) ⟨zPk _,by simp,zC.upd hD,zB⟩ (by rw [zPg];omega) ?_ ?_ ?_
  ·rintro i ys H' hi ⟨_,rfl,s1,e1⟩;refine ⟨by simp;omega,e1,fun h=>⟨_,_,_,_,SqL.of (hp.same s1),SqL.of (hv.same s1),zT h,zT (by omega)⟩,fun h=>⟨_,_,SqL.of (hp.same s1),SqL.of (hv.same s1),.inl (by simp;omega)⟩⟩
  ·rintro i ys H' x H'' hi ⟨_,rfl,s1,e1⟩ ⟨t,x1,y1,hx,hy,ht,rfl,rfl⟩ pre hpre;obtain ⟨p0,p1,rfl⟩:=zh hpre;have hx':=hx _ (SqL.of (hp.same s1));have hy':=hy _ (SqL.of (hv.same s1));rw [zT hi] at hx';rw [zT (show i<v.length by omega)] at hy';cases hx';cases hy';have st:=zC.upd ht (o:= .tup [.int (zA u i),.int (zA v i)]);refine ⟨t,_,rfl,SqT.of zB,rfl,_,_,rfl,_,_,rfl,rfl,⟨[some (.int (zA u i)),some (.int (zA v i))],rfl,rfl⟩,zp ?_⟩;refine ⟨_,rfl,_,rfl,_,_,rfl,rfl,⟨ya ba (by decide),ya (bu i) (by decide)⟩,_,rfl,_,rfl,_,_,rfl,rfl,⟨ya bb (by decide),ya (bv i) (by decide)⟩,_,_,rfl,rfl,st _ _ e1,hi,?_,zC.store (s1.trans st) hD,zB⟩;rw [zDb (by rw [hm];exact hi),yJ hl,zPr];rfl
  ·rintro ys H' ⟨_,rfl,s1,e1⟩;refine q _ _ s1 hD ?_;show H' D=_;rw [e1,List.take_of_length_le (by rw [hm];exact zPZ _)]
def zDZ:Sp:=fun vs H Q _=> ∃(p:Addr) (e:Vec),vs= [.ref p] /\LI H p e/\e.length<=1000/\ ∀l H',zC H H'->MkL H' l (zBv e)->Q (.ref l) H'
theorem zLy:FnScope ["vector"] ["vector"] (zF zCT):=⟨rfl,rfl,rfl,by decide+kernel,rfl,by decide+kernel,by decide+kernel⟩
def zBe(e:Vec)(i:Nat):List Mk2:=((List.range i).map fun i=>(i,zA e i)).filter fun p=>p.2 !=0
theorem zDK(e:Vec)(i:Nat):zBe e (i+1)=zBe e i++(if zA e i=0 then [] else [(i,zA e i)]):=by
 unfold zBe;rw [List.range_succ,zPr,List.filter_append];congr 1;by_cases h:zA e i=0
 ·simp [h]
 ·simp [h]
theorem zDn(e:Vec)(i:Nat):(zBe e i).length<=i:=by
 have:=List.length_filter_le (fun p:Mk2=>p.2 !=0) ((List.range i).map fun i=>(i,zA e i));simpa [zBe] using this
theorem zKe{f:Addr}{fd:FuncData}(F:Fun K "marks_of" "marks_of" zCT f fd)(B:Bn mg):FnOk P w K mg base CX0 1 f fd ["vector"] zDZ:=by
 refine F.ok zLy (fun vs H Q E h=>?_) (fun cdv A outer s H vs Q E hr h=>?_)
 ·obtain ⟨p,e,rfl,_⟩:=h;rfl
 ·obtain ⟨p,e,rfl,hp,hn,q⟩:=h;refine ⟨_,QB.out (zM
   (ze (zc (cl:= []) ["place","number"] [] [] rfl (zGt (K:=K) rfl rfl B.enumerate (qc (qw 0 rfl) zD rfl) rfl) rfl (by decide+kernel) rfl (by decide+kernel) (fun _ _ h=>nomatch h) rfl (fun j y i h=>nomatch h) (zO rfl) (fun _ _ _ _=>(zBC (K:=K) (n:=2) rfl rfl (yG (zJ 0 (show (["place","number"] :List Str).Nodup by decide+kernel) rfl (.inl rfl) (.inr rfl)) (yG (zJ 1 (show (["place","number"] :List Str).Nodup by decide+kernel) rfl (.inl rfl) (.inr rfl)) zBB rfl) rfl) rfl rfl)) (fun _ _ _ _=>(zDG (zl zBF (qw 1 rfl) zG rfl))) (fun _ _ _ _=>(zBw (qc (qw 0 rfl) (qc (qw 1 rfl) zD rfl) rfl))) (fun _=>rfl)))),?_⟩
  refine ⟨_,rfl,p,rfl,⟨_,SqL.of hp⟩,fun D hD=>?_⟩;refine zR e.length (fun i ys H'=> ∃ts:List Addr,i<=e.length/\ys=ts.map V.ref/\MkA H' ts (zBe e i)/\zC H H'/\H' D=some (.lst ys)) ⟨[],zPk _,rfl,.nil,zC.upd hD,zB⟩ (by rw [zPg];omega) ?_ ?_ ?_
  ·rintro i ys H' hi ⟨ts,_,rfl,hm,s1,e1⟩;have:=Paired.len hm;have:=zDn e i;refine ⟨by simp;omega,e1,fun h=>⟨_,_,SqL.of (hp.same s1),zT h⟩,fun h=>⟨_,SqL.of (hp.same s1),by simp;omega⟩⟩
  ·rintro i ys H' x H'' hi ⟨ts,_,rfl,hm,s1,e1⟩ ⟨t,y,hy,ht,rfl,rfl⟩ pre hpre;obtain ⟨p0,p1,rfl⟩:=zh hpre;have hy':=hy _ (SqL.of (hp.same s1));rw [zT hi] at hy';cases hy';have st:=zC.upd ht (o:= .tup [.int (i:Int),.int (zA e i)]);refine ⟨t,_,rfl,SqT.of zB,rfl,_,_,rfl,_,_,rfl,rfl,⟨[some (.int (i:Int)),some (.int (zA e i))],rfl,rfl⟩,?_⟩;refine ⟨_,rfl,rfl,_,rfl,?_⟩;refine yl (fun c=>?_) (fun c=>?_)
   ·have hne: ¬zA e i=0:=fun z=>by rw [z] at c;simp at c
    refine ⟨_,rfl,_,rfl,by show 2<=sizeLine;decide,fun t2 ht2=>⟨?_,ts++ [t2],hi,by simp,?_,?_,zB⟩⟩
    ·exact zC.upd ht2 _ _ (st _ _ e1)
    ·rw [zDK,if_neg hne];have st2:=st.trans (zC.upd ht2 (o:= .tup [.int (i:Int),.int (zA e i)]));have hDt:t2≠D:=fun z=>by rw [z,st _ _ e1] at ht2;cases ht2
     refine Paired.snoc' (Paired.mapP hm fun a m ea=>?_) ?_
     ·have:=st2 _ _ ea;rw [zH fun z=>by rw [z] at this;have z2:=zC.upd ht2 (o:= .tup [.int (i:Int),.int (zA e i)]) _ _ (st _ _ e1);rw [z2] at this;cases this];exact this
     ·rw [zH hDt];exact zB
    ·exact zC.store ((s1.trans st).trans (zC.upd ht2)) hD
   ·have hz:zA e i=0:=by simpa using c
    refine ⟨ts,hi,rfl,?_,s1.trans st,st _ _ e1⟩;rw [zDK,if_pos hz,zPw];exact MkA.same hm st
  ·rintro ys H' ⟨ts,_,rfl,hm,s1,e1⟩;exact q _ _ s1 ⟨ts,e1,hm⟩
end
section
variable {P:Program}{w:World}{K:zQK}{mg:Str->Option Value}{base:Heap}
theorem zGK: ∀(e:Vec) (x:Fn),dt x e=((List.range e.length).map fun i=>x i*zA e i).sum
 | [],_=>rfl
 | c::e,x=>by
  simp only [dt];rw [zGK e,List.length_cons,List.range_succ_eq_map,List.map_cons,List.sum_cons,List.map_map,zBI];congr 2
theorem zKN(e:Vec)(x:Fn):((zBv e).map fun p=>x p.1*p.2).sum=dt x e:=by
 rw [zGK];unfold zBv;generalize List.range e.length=l
 induction l with
 | nil=>rfl
 | cons i l ih=>
  rw [List.map_cons,List.map_cons,List.sum_cons];by_cases h:zA e i=0
  ·rw [List.filter_cons_of_neg (by simp [h]),ih,h];simp
  ·rw [List.filter_cons_of_pos (by simp [h]),List.map_cons,List.sum_cons,ih]
theorem zJc{e:Vec}{p:Mk2}(h:p∈zBv e):p.1<e.length/\p.2=zA e p.1:=by
 obtain ⟨h1,_⟩:=List.mem_filter.mp h;obtain ⟨i,hi,rfl⟩:=List.mem_map.mp h1;exact ⟨by simpa using hi,rfl⟩
theorem zJI(e:Vec):(zBv e).length<=e.length:=zDn e e.length
def zCQ:Sp:=fun vs H Q _=> ∃(p m:Addr) (v e:Vec),vs= [.ref p,.ref m] /\LI H p v/\MkL H m (zBv e)/\e.length<=v.length/\v.length<=1000/\Bts 50000000 v/\Bts 50000000 e/\ ∀H',zC H H'->Q (.int (dt (zA v) e)) H'
theorem zLp:FnScope ["vector","marks"] ["vector","marks"] (zF zBt):=⟨rfl,rfl,rfl,by decide+kernel,rfl,by decide+kernel,by decide+kernel⟩
theorem zHC{f:Addr}{fd:FuncData}(F:Fun K "reach_of" "reach_of" zBt f fd)(B:Bn mg):FnOk P w K mg base CX0 1 f fd ["vector","marks"] zCQ:=by
 refine F.ok zLp (fun vs H Q E h=>?_) (fun cdv A outer s H vs Q E hr h=>?_)
 ·obtain ⟨p,m,v,e,rfl,_⟩:=h;rfl
 ·obtain ⟨p,m,v,e,rfl,hp,⟨ts,em,hm⟩,hl,hn,bv,be,q⟩:=h;have lm:=Paired.len hm;have lk:=zJI e;refine ⟨_,QB.out (zM
   (ze (yK (zEL (K:=K) rfl rfl) rfl B.sum zGv (qc (zc ["place","number"] ["vector"] [0] rfl (zj (K:=K) rfl (qw 1 rfl)) rfl (by decide+kernel) rfl (by decide+kernel) (zN rfl yb) rfl (fr1 ⟨rfl,rfl,rfl,_,rfl,rfl⟩) (zO rfl) (fun _ _ _ _=>(zBC (K:=K) (n:=2) rfl rfl (yG (zJ 0 (show (["place","number","vector"] :List Str).Nodup by decide+kernel) rfl (.inl rfl) (.inr rfl)) (yG (zJ 1 (show (["place","number","vector"] :List Str).Nodup by decide+kernel) rfl (.inl rfl) (.inr rfl)) zBB rfl) rfl) rfl rfl)) (fun _ _ _ _=>zV) (fun _ _ _ _=>(zAP (yA (K:=K) rfl (qx 2 rfl) (qw 0 rfl) (fun _ _=>rfl)) (qw 1 rfl))) (fun _=>rfl)) zD rfl) rfl))),?_⟩
  refine ⟨_,rfl,m,rfl,⟨_,SqL.of em⟩,fun D hD=>?_⟩;refine zR ts.length (fun i ys H'=>i<=ts.length/\ys=(((zBv e).take i).map fun p=>zA v p.1*p.2).map V.int/\zC H H'/\H' D=some (.lst ys)) ⟨zPk _,by simp,zC.upd hD,zB⟩ (by rw [zPg];omega) ?_ ?_ ?_
  ·rintro i ys H' hi ⟨_,rfl,s1,e1⟩;refine ⟨by simp;omega,e1,fun h=>⟨_,_,SqL.of (s1 _ _ em),zPV (by simpa using h)⟩,fun h=>⟨_,SqL.of (s1 _ _ em),by simp;omega⟩⟩
  ·rintro i ys H' x H'' hi ⟨_,rfl,s1,e1⟩ ⟨rfl,hx⟩ pre hpre;obtain ⟨p0,p1,rfl⟩:=zh hpre;have hx':=hx _ (SqL.of (s1 _ _ em));rw [zPa,zPV hi] at hx';cases hx';obtain ⟨mk,emk,et⟩:=Paired.get' hm (zPV hi);obtain ⟨m1,m2⟩:=zJc (zPz emk);have b2:Bt 50000000 mk.2:=by rw [m2];exact be _
   refine ⟨ts[i],_,rfl,SqT.of (s1 _ _ et),rfl,_,_,rfl,_,_,rfl,rfl,⟨[some (.int (mk.1:Int)),some (.int mk.2)],rfl,rfl⟩,zp ?_⟩;refine ⟨_,rfl,_,rfl,p,_,_,_,rfl,rfl,SqL.of (hp.same s1),zn (zT (show mk.1<v.length by omega)),_,rfl,_,_,rfl,rfl,⟨ya (bv _) (by decide),ya b2 (by decide)⟩,e1,hi,?_,zC.store s1 hD,zB⟩;rw [zPs,emk];simp
  ·rintro ys H' ⟨_,rfl,s1,e1⟩;refine ⟨D,_,rfl,SqL.of e1,?_⟩;rw [lm,zPu,zKN];exact q _ s1
theorem zFC(a:Int){b:Int}(h:0<b):(a/b).natAbs<=a.natAbs:=by
 have h1:=Int.emod_def a b;have h2:=zPn a (b:=b) (by omega);have h3:=zPh a h;rcases Int.lt_or_le a 0 with z | z
 ·have k1:a/b<0:=Int.ediv_lt_of_lt_mul h (by omega);have k2:a<=a/b:=by
   rcases Int.lt_or_le (a/b) a with y | y
   ·have k3:=Int.mul_le_mul_of_nonneg_left (show a/b<=a - 1 by omega) (Int.le_of_lt h);have k4:=Int.mul_le_mul_of_nonpos_right (show 1<=b by omega) (show a<=0 by omega);rw [Int.mul_sub,Int.mul_one] at k3;omega
   ·exact y
  omega
 ·have k1:0<=a/b:=Int.ediv_nonneg z (Int.le_of_lt h);have k2:a/b<=a:=Int.ediv_le_self _ z;omega
theorem Bt.div{k:Nat}{a b:Int}(h:Bt k a)(hb:0<b):Bt k (a/b):=h.le (zFC a hb)
def zGC:Sp:=fun vs H Q _=> ∃(a b:Int),vs= [.int a,.int b] /\0<b/\Bt 25000000 a/\Bt 25000000 b/\ ∀t H',zC H H'->H' t=some (.tup [.int (zu a b).1,.int (zu a b).2.1,.int (zu a b).2.2])->Q (.ref t) H'
theorem zAg:FnScope ["one","other","greater","lesser","factor","factor_behind","times","rest","factor_ahead","least"] ["one","other"] (zF zEJ):=⟨rfl,rfl,rfl,by decide+kernel,rfl,by decide+kernel,by decide+kernel⟩
theorem zMP{g l f fb:Int}(h:0<l):egl g l f fb=egl l (g - g/l*l) fb (f - g/l*fb):=by
 rw [egl,dif_pos h]
theorem zKh{g f fb:Int}:egl g 0 f fb=(g,f):=by
 rw [egl,dif_neg (by decide)]
structure Eg(b g l f fb:Int):Prop where
 g0:0<g
 l0:0<=l
 gb:g<=b
 lb:l<=b
 s:f.natAbs*l.natAbs+fb.natAbs*g.natAbs<=b.natAbs
theorem Eg.step{b g l f fb:Int}(I:Eg b g l f fb)(h:0<l):Eg b l (g - g/l*l) fb (f - g/l*fb)/\(g - g/l*l).toNat<l.toNat/\(g/l).natAbs<=b.natAbs/\fb.natAbs<=b.natAbs:=by
 have e:=Int.emod_def g l;have e':g - g/l*l=g % l:=by rw [e,Int.mul_comm]
 have n2:=zPh g h;have n1:=zPn g (b:=l) (by omega);have q0:0<=g/l:=Int.ediv_nonneg (Int.le_of_lt I.g0) (Int.le_of_lt h);have q1:g/l<=g:=Int.ediv_le_self _ (Int.le_of_lt I.g0);have gb:=I.gb;have fbb:fb.natAbs<=b.natAbs:=by
  have h1:=I.s;have h2:fb.natAbs*1<=fb.natAbs*g.natAbs:=Nat.mul_le_mul_left _ (by have:=I.g0;omega);omega
 refine ⟨⟨h,by rw [e'];exact n1,I.lb,by rw [e'];have:=I.lb;omega,?_⟩,by rw [e'];omega,by omega,fbb⟩;rw [e'];have t1:(f - g/l*fb).natAbs<=f.natAbs+(g/l).natAbs*fb.natAbs:=by
  have:=Int.natAbs_sub_le f (g/l*fb);rw [Int.natAbs_mul] at this;exact this
 have t2:g.natAbs=(g % l).natAbs+(g/l).natAbs*l.natAbs:=by
  have:g=g % l+g/l*l:=by rw [e];grind
  have h3:(g/l*l).natAbs=(g/l).natAbs*l.natAbs:=Int.natAbs_mul _ _;have h4:0<=g/l*l:=Int.mul_nonneg q0 (Int.le_of_lt h);omega
 have s:=I.s;have m1:(f - g/l*fb).natAbs*l.natAbs<=(f.natAbs+(g/l).natAbs*fb.natAbs)*l.natAbs:=Nat.mul_le_mul_right _ t1;generalize (g/l).natAbs=Q at*;generalize (g % l).natAbs=R at*;generalize f.natAbs=F at*;generalize fb.natAbs=G at*;generalize l.natAbs=L at*;generalize g.natAbs=N at*;subst t2;have:F*L+G*(R+Q*L)=G*R+(F+Q*G)*L:=by grind
 omega
theorem zJZ{f:Addr}{fd:FuncData}(F:Fun K "divisor_of" "divisor_of" zEJ f fd)(ht:P.given.tree=none):FnOk P w K mg base CX0 34 f fd ["one","other"] zGC:=by
 refine F.ok zAg (fun vs H Q E h=>?_) (fun cdv A outer s H vs Q E hr h=>?_)
 ·obtain ⟨a,b,rfl,_⟩:=h;rfl
 ·obtain ⟨a,b,rfl,hb,za,zb,q⟩:=h;have deep:DeepE (zAi CX0 P w K mg base ["one","other","greater","lesser","factor","factor_behind","times","rest","factor_ahead","least"] "divisor_of" (zF zEJ) f cdv A outer s H E):=zAn hr (by decide) ht rfl rfl;have ok: ∀x:Int,x.natAbs<=b.natAbs->Sz 60000000 x:=fun x hx=>ya (zb.le hx) (by decide);refine ⟨_,QB.out (zE
   (zW 2 zAg.nd rfl (qw 1 rfl) rfl) (zE
   (zW 3 zAg.nd rfl (zAB (qw 0 rfl) (qw 1 rfl)) rfl) (zE
   (zW 4 zAg.nd rfl zG rfl) (zE
   (zW 5 zAg.nd rfl zG rfl) (zE
   (zHS PassesOwn.never (zl zAm (qw 3 rfl) zG rfl) (zE
    (zW 6 zAg.nd rfl (yk (deep.up rfl rfl rfl) (qw 2 rfl) (qw 3 rfl)) rfl) (zE
    (zW 7 zAg.nd rfl (zBZ (qw 2 rfl) (zAP (qw 6 rfl) (qw 3 rfl))) rfl) (zE
    (zW 2 zAg.nd rfl (qw 3 rfl) rfl) (zE
    (zW 3 zAg.nd rfl (qw 7 rfl) rfl) (zE
    (zW 8 zAg.nd rfl (qw 4 rfl) rfl) (zE
    (zW 4 zAg.nd rfl (qw 5 rfl) rfl) (zM
    (zW 5 zAg.nd rfl (zBZ (qw 8 rfl) (zAP (qw 6 rfl) (qw 4 rfl))) rfl))))))))) (zE
   (zW 9 zAg.nd rfl (zAB (qw 4 rfl) (yk (deep.up rfl rfl rfl) (qw 1 rfl) (qw 2 rfl))) rfl) (zM
   (ze (zBw (qc (qw 2 rfl) (qc (qw 9 rfl) (qc (yk (deep.up rfl rfl rfl) (zBZ (qw 2 rfl) (zAP (qw 9 rfl) (qw 0 rfl))) (qw 1 rfl)) zD rfl) rfl) rfl)))))))))),?_⟩
  refine ⟨_,rfl,_,rfl,_,rfl,_,_,rfl,rfl,hb,?_⟩;have n2:=zPh a hb;have n1:=zPn a (b:=b) (by omega);refine zEF (fun σ H'=>H'=H/\ ∃(g l f fb:Int) (r1 r2 r3:Option V),σ= [some (.int a),some (.int b),some (.int g),some (.int l),some (.int f),some (.int fb),r1,r2,r3,none] /\Eg b g l f fb/\egl g l f fb=egl b (a % b) 0 1)
   (fun (σ:L2.St) _=>match σ[3]? with | some (some (V.int l))=>l.toNat | _=>0) ⟨rfl,b,a % b,0,1,none,none,none,rfl,⟨hb,n1,Int.le_refl b,by omega,by simp⟩,rfl⟩ ?_ ?_
  ·rintro σ H' ⟨rfl,g,l,f,fb,r1,r2,r3,rfl,I,e⟩;refine ⟨_,rfl,_,_,rfl,rfl,_,rfl,?_⟩;refine yl (fun z=>?_) (fun z=>?_)
   ·have hp:0<l:=by simpa using z
    obtain ⟨I',mu,t1,t2⟩:=I.step hp;have bl:l.natAbs<=b.natAbs:=by have:=I.lb;omega
    refine ⟨_,rfl,_,rfl,_,_,rfl,rfl,hp,_,rfl,_,rfl,_,rfl,_,_,rfl,rfl,⟨ok _ t1,ok _ bl⟩,_,_,rfl,rfl,_,rfl,_,rfl,_,rfl,_,rfl,_,rfl,_,rfl,_,rfl,_,_,rfl,rfl,⟨ok _ t1,ok _ t2⟩,_,_,rfl,rfl,⟨rfl,l,_,fb,_,_,_,_,rfl,I',?_⟩,mu⟩;rw [<-e,zMP hp]
   ·have hz:l=0:=by
     have: ¬0<l:=by simpa using z
     have:=I.l0;omega
    subst hz;rw [zKh] at e;have D:=zAA (one:=a) hb;have e1:(zu a b).1=g:=by show (egl b (a % b) 0 1).1=g;rw [<-e]
    have e2:(zu a b).2.1=f %(b/g):=by show (egl b (a % b) 0 1).2 %(b/(egl b (a % b) 0 1).1)=_;rw [<-e]
    have e3:(zu a b).2.2=(g - f %(b/g)*a)/b:=by show ((egl b (a % b) 0 1).1 -(egl b (a % b) 0 1).2 %(b/(egl b (a % b) 0 1).1)*a)/b=_;rw [<-e]
    rw [e1,e2] at D;obtain ⟨g0,_,_,_,l0,l1,w0⟩:=D;have bl:(f %(b/g)).natAbs<=b.natAbs:=by
     have:b/g<=b:=Int.ediv_le_self _ (Int.le_of_lt hb);omega
    rw [e1,e2,e3] at q;refine ⟨_,rfl,_,rfl,_,rfl,_,_,rfl,rfl,g0,_,_,rfl,rfl,w0,?_⟩;refine ⟨_,rfl,_,rfl,_,rfl,_,rfl,_,rfl,_,_,rfl,rfl,⟨ok _ bl,ya za (by decide)⟩,_,_,rfl,rfl,_,rfl,_,_,rfl,rfl,hb,by show 3<=sizeLine;decide,fun t ht=>?_⟩;exact q t _ (zC.upd ht) zB
  ·rintro σ H' R R' hR ⟨v,e1,i,j,e2,e3,k,e4,q'⟩;exact ⟨v,e1,i,j,e2,e3,k,e4,hR _ _ q'⟩
end
structure SC(K:zQK)(C:Addr):Prop where
 cl:Cls K C
 n1:ym K C "place"
 n2:ym K C "vector"
theorem zCy: ∀(S:List Stp) (r:Vec) (p:Nat) (v:Vec),zU r (S++ [(p,v)])=zP 1 (zU r S) (-(zA (zU r S) p/zA v p)) v
 | [],_,_,_=>rfl
 |(q,u)::S,r,p,v=>zCy S (zP 1 r (-(zA r q/zA u q)) u) p v
theorem zIo{u v:Vec}(h:u.length=v.length):zP 1 u 0 v=u:=zHH (zZ rfl h.symm) fun i=>by rw [yJ h];omega
theorem zCs{n:Nat}: ∀{S:List Stp} {r:Vec},r.length=n->(∀q∈S,q.2.length=n)->(zU r S).length=n
 | [],_,h,_=>h
 |(p,v)::S,r,h,hs=>zCs (S:=S) (zZ h (hs (p,v) (by simp))) fun q hq=>hs q (by simp [hq])
theorem zHq{n R W:Nat}: ∀{S:List Stp} {r:Vec},r.length=n->(∀q∈S,q.2.length=n/\0<zA q.2 q.1/\Bts W q.2)->Bts R r->Bts (R+S.length*(W+1)) (zU r S)
 | [],_,_,_,h=>h.mono (by omega)
 |(p,v)::S,r,hl,hs,h=>by
  obtain ⟨h1,h2,h3⟩:=hs (p,v) (by simp);simp only at h1 h2 h3;have hm:Bts (R+W+1) (zP 1 r (-(zA r p/zA v p)) v):=fun i=>by
   rw [yJ (by omega),Int.one_mul];exact Bt.add ((h i).mono (by omega)) ((Bt.div (h p) h2).neg.mul (h3 i))
  have:=zHq (S:=S) (W:=W) (zZ hl h1) (fun q hq=>hs q (by simp [hq])) hm;refine Bts.mono this ?_;rw [List.length_cons,Nat.succ_mul];omega
section
variable {P:Program}{w:World}{K:zQK}{mg:Str->Option Value}{base:Heap}
def zBp(C:Addr):Sp:=fun vs H Q _=> ∃(r l:Addr) (v:Vec) (S:List Stp) (n R W:Nat),vs= [.ref r,.ref l] /\LI H r v/\StL C H l S/\v.length=n/\n<=1000/\S.length<=1000/\(∀q∈S,q.2.length=n/\q.1<n/\0<zA q.2 q.1/\Bts W q.2)/\Bts R v/\R+S.length*(W+1)+W<=50000000/\
 ∀l' H',zC H H'->(l'=r\/H l'=none)->LI H' l' (zU v S)->Q (.ref l') H'
theorem zDB:FnScope ["vector","steps","rest","step","times"] ["vector","steps"] (zF zBP):=⟨rfl,rfl,rfl,by decide+kernel,rfl,by decide+kernel,by decide+kernel⟩
theorem zHv{f fM C:Addr}{fd fdM:FuncData}(F:Fun K "lessened" "lessened" zBP f fd)(B:Bn mg)(ht:P.given.tree=none)(T:SC K C)
  (FM:Fun K "mixed" "mixed" zBD fM fdM) (bM:zL K fdM ["factor","one","other_factor","other"] []) (mM:mg "mixed" =some (.ref fM)):FnOk P w K mg base CX0 34 f fd ["vector","steps"] (zBp C):=by
 have GM:FnOk P w K mg base CX0 1 fM fdM ["factor","one","other_factor","other"] zBJ:=zEN FM B;refine F.ok zDB (fun vs H Q E h=>?_) (fun cdv A outer s H vs Q E hr h=>?_)
 ·obtain ⟨r,l,v,S,n,R,W,rfl,_⟩:=h;rfl
 ·obtain ⟨r,l,v,S,n,R,W,rfl,hv,⟨os,el,hs⟩,hn,hn0,hS,hq,bR,hz,q⟩:=h;have deep:DeepE (zAi CX0 P w K mg base ["vector","steps","rest","step","times"] "lessened" (zF zBP) f cdv A outer s H E):=zAn hr (by decide) ht rfl rfl;have hr1:Room 1 _:=hr.mono (by decide);have lS:=Paired.len hs;refine ⟨_,QB.out (zE
   (zW 2 zDB.nd rfl (qw 0 rfl) rfl) (zE
   (zAF PassesOwn.never rfl (zj (K:=K) rfl (qw 1 rfl)) (zJ 3 zDB.nd rfl (Or.inl rfl) (.inr rfl)) (zE
    (zW 4 zDB.nd rfl (yk (deep.up rfl rfl rfl) (yA (K:=K) rfl (qw 2 rfl) (zk (K:=K) rfl (qw 3 rfl) rfl) (fun _ _=>rfl)) (yA (K:=K) rfl (zk (K:=K) rfl (qw 3 rfl) rfl) (zk (K:=K) rfl (qw 3 rfl) rfl) (fun _ _=>rfl))) rfl) (zM
    (yX (zl zBF (qw 4 rfl) zG rfl) (zM
     (zW 2 zDB.nd rfl (zI GM hr1 rfl mM FM.kp bM .nil zK (qc zG (qc (qw 2 rfl) (qc (zCB (qw 4 rfl)) (qc (zk (K:=K) rfl (qw 3 rfl) rfl) zD rfl) rfl) rfl) rfl) rfl rfl rfl) rfl)) yV))) (fun _=>rfl)) (zM
   (ze (qw 2 rfl))))),?_⟩
  refine ⟨_,rfl,_,rfl,l,rfl,⟨_,SqL.of el⟩,?_⟩;refine yj S.length (fun i σ H'=> ∃(rr:Addr) (sv tv:Option V),σ= [some (.ref r),some (.ref l),some (.ref rr),sv,tv] /\i<=S.length/\zC H H'/\LI H' rr (zU v (S.take i))/\(rr=r\/H rr=none)) ⟨r,none,none,rfl,zPk _,zC.refl H,hv,.inl rfl⟩ ?_ ?_ ?_ ?_
  ·rintro i σ H' hi ⟨rr,sv,tv,rfl,_,s1,hl,hfr⟩;exact ⟨_,_,SqL.of (s1 _ _ el),zPV (by simp;omega)⟩
  ·rintro σ H' ⟨rr,sv,tv,rfl,_,s1,hl,hfr⟩;exact ⟨_,SqL.of (s1 _ _ el),by simp;omega⟩
  ·rintro i σ H' x H'' hi ⟨rr,sv,tv,rfl,_,s1,hl,hfr⟩ ⟨rfl,hx⟩;have hx':=hx _ (SqL.of (s1 _ _ el));rw [zPa,zPV (show i<os.length by omega)] at hx';cases hx';obtain ⟨⟨p,u⟩,eS,⟨dx,a,ho,hu⟩⟩:=Paired.get' hs (zPV (show i<os.length by omega));obtain ⟨u1,u2,u3,u4⟩:=hq (p,u) (zPz eS);simp only at u1 u2 u3 u4;have eT:S.take (i+1)=S.take i++ [(p,u)] :=by rw [zPs,eS];rfl
   have hmem: ∀q∈S.take i,q.2.length=n/\0<zA q.2 q.1/\Bts W q.2:=fun q hm=>let ⟨z1,_,z3,z4⟩:=hq q (List.mem_of_mem_take hm);⟨z1,z3,z4⟩;have ll:(zU v (S.take i)).length=n:=zCs hn fun q hm=>(hmem q hm).1;have lb:=zHq (S:=S.take i) (W:=W) hn hmem bR;have lz:R+(S.take i).length*(W+1)<=R+S.length*(W+1):=Nat.add_le_add_left (Nat.mul_le_mul_right _ (by simp;omega)) R;generalize hL:zU v (S.take i)=L at hl ll lb;have b1:Bts 50000000 L:=lb.mono (by omega);have ho1:=s1 _ _ ho;have hu1:=hu.same s1;refine ⟨_,rfl,_,rfl,os[i],C,dx,_,_,rfl,ho1,T.cl,T.n1,rfl,rr,_,_,_,rfl,rfl,SqL.of hl,zn (zT (show p<L.length by omega)),_,rfl,os[i],C,dx,_,_,rfl,ho1,T.cl,T.n2,rfl,_,rfl,os[i],C,dx,_,_,rfl,ho1,T.cl,T.n1,rfl,a,_,_,_,rfl,rfl,SqL.of hu1,zn (zT (show p<u.length by omega)),_,_,rfl,rfl,u3,?_⟩;refine ⟨_,rfl,rfl,_,rfl,?_⟩;refine yl (fun c=>?_) (fun c=>?_)
   ·refine ⟨_,rfl,_,rfl,_,rfl,_,rfl,os[i],C,dx,_,_,rfl,ho1,T.cl,T.n2,rfl,1,-(zA L p/zA u p),rr,a,L,u,rfl,hl,hu1,by omega,by omega,Bt.one,(Bt.div (b1 p) u3).neg,b1,u4.mono (by omega),fun l' H2 s2 hn2 h2=>?_⟩;refine ⟨l',_,_,rfl,hi,s1.trans s2,?_,.inr (zC.none s1 hn2)⟩;rw [eT,zCy,hL];exact h2
   ·refine ⟨rr,_,_,rfl,hi,s1,?_,hfr⟩;have hz:zA L p/zA u p=0:=by simpa using c
    rw [eT,zCy,hL,hz];show LI H'' rr (zP 1 L (-0) u);rw [Int.neg_zero,zIo (by omega)];exact hl
  ·rintro σ H' ⟨rr,sv,tv,rfl,_,s1,hl,hfr⟩;refine ⟨_,rfl,?_⟩;rw [zPu] at hl;exact q _ _ s1 hfr hl
def zt(vs:List Vec)(n:Nat):List Vec:=(List.range n).map fun i=>vs.map fun v=>zA v i
structure NewL(H0 H:Hp)(r:Addr):Prop where
 new:H0 r=none
 all: ∀as:List Addr,H r=some (.lst (as.map V.ref))-> ∀a∈as,H0 a=none
theorem NewL.mono{H0 H1 H:Hp}{r:Addr}(h:NewL H1 H r)(s:zC H0 H1):NewL H0 H r:=⟨zC.none s h.new,fun as e a ha=>zC.none s (h.all as e a ha)⟩
theorem NewL.same{H0 H H':Hp}{r:Addr}{R:List Vec}(h:NewL H0 H r)(hr:LL H r R)(s:zC H H'):NewL H0 H' r:=by
 obtain ⟨rs,e,_⟩:=hr;refine ⟨h.new,fun as e' a ha=>h.all as ?_ a ha⟩;rw [s _ _ e] at e';rw [e,e']
theorem zGy: ∀{as bs:List Addr},as.map V.ref=bs.map V.ref->as=bs
 | [],[],_=>rfl
 | [],_::_,h=>by cases h
 | _::_,[],h=>by cases h
 | a::as,b::bs,h=>by
  rw [List.map_cons,List.map_cons] at h;injection h with h1 h2;injection h1 with h1;rw [h1,zGy h2]
def zEZ:Sp:=fun vs H Q _=> ∃(l:Addr) (us:List Vec) (n:Nat),vs= [.ref l,.int (n:Int)] /\LL H l us/\(∀u∈us,u.length=n)/\n<=1000/\us.length<=1000/\ ∀r H',zC H H'->NewL H H' r->LL H' r (zt us n)->Q (.ref r) H'
theorem zNb:FnScope ["vectors","count"] ["vectors","count"] (zF zDh):=⟨rfl,rfl,rfl,by decide+kernel,rfl,by decide+kernel,by decide+kernel⟩
theorem zHL{us:List Vec}{n i:Nat}(h:i<n):(zt us n).take (i+1)=(zt us n).take i++ [us.map fun v=>zA v i] :=by
 rw [zPs];congr 1;simp [zt,h]
theorem zMk{f:Addr}{fd:FuncData}(F:Fun K "rows_of" "rows_of" zDh f fd)(B:Bn mg):FnOk P w K mg base CX0 1 f fd ["vectors","count"] zEZ:=by
 refine F.ok zNb (fun vs H Q E h=>?_) (fun cdv A outer s H vs Q E hr h=>?_)
 ·obtain ⟨l,us,n,rfl,_⟩:=h;rfl
 ·obtain ⟨l,us,n,rfl,⟨as,el,ha⟩,hu,hn,hl,q⟩:=h;have la:=Paired.len ha;refine ⟨_,QB.out (zM
   (ze (zFF ["place"] ["vectors"] [0] rfl (yZ rfl B.range (qc (qw 1 rfl) zD rfl) rfl) rfl rfl (by decide+kernel) (zN rfl yb) rfl (fr1 ⟨rfl,rfl,rfl,_,fun _=>rfl,rfl⟩) (fun _=>zO rfl) (fun _ _ _ _=>(zJ 0 (show (["place","vectors"] :List Str).Nodup by decide+kernel) rfl (.inr rfl) (.inl rfl))) (fun _ _ _ _=>zV) (fun _ _ _ _=>(zc ["vector"] ["place"] [0] rfl (zj (K:=K) rfl (qx 1 rfl)) rfl (by decide+kernel) rfl (by decide+kernel) (zN rfl yb) rfl (fr1 ⟨rfl,rfl,rfl,_,rfl,rfl⟩) (zO rfl) (fun _ _ _ _=>(zJ 0 (show (["vector","place"] :List Str).Nodup by decide+kernel) rfl (.inl rfl) (.inr rfl))) (fun _ _ _ _=>zV) (fun _ _ _ _=>(yA (K:=K) rfl (qw 0 rfl) (qx 1 rfl) (fun _ _=>rfl))) (fun _=>rfl))) (fun _=>rfl)))),?_⟩
  refine ⟨_,rfl,n,rfl,by omega,by omega,fun D hD=>?_⟩;refine zR n (fun i ys H'=> ∃rs:List Addr,i<=n/\ys=rs.map V.ref/\LIs H' rs ((zt us n).take i)/\rs.length=i/\D∉rs/\(∀a∈rs,H a=none)/\zC H H'/\H' D=some (.lst ys)) ⟨[],zPk _,rfl,by rw [List.take_zero];exact .nil,rfl,by simp,by simp,zC.upd hD,zB⟩ (by rw [zPg];omega) ?_ ?_ ?_
  ·rintro i ys H' hi ⟨rs,_,rfl,_,hrl,_,_,s1,e1⟩;exact ⟨by simp;omega,e1,fun h=>h,fun h=>Nat.le_of_eq h.symm⟩
  ·rintro i ys H' x H'' hi ⟨rs,_,rfl,hrs,hrl,hnd,hnew,s1,e1⟩ ⟨rfl,rfl⟩ pre hpre;obtain ⟨p0,rfl⟩:=yQ hpre;refine ⟨⟨[some (.int ((0:Int)+(i:Int)))],rfl,rfl⟩,zp ?_⟩;refine ⟨_,rfl,l,rfl,⟨_,SqL.of (s1 _ _ el)⟩,fun D2 hD2=>?_⟩;refine zR as.length (fun j ys H2=>j<=as.length/\ys=((us.map fun v=>zA v i).take j).map V.int/\H2=L2.upd H'' D2 (.lst ys)) ⟨zPk _,by simp,rfl⟩ (by rw [zPg];omega) ?_ ?_ ?_
   ·rintro j ys H2 hj ⟨_,rfl,rfl⟩;have e2:=zC.upd hD2 (o:= .lst (((us.map fun v=>zA v i).take j).map V.int)) _ _ (s1 _ _ el);exact ⟨by simp;omega,zB,fun h=>⟨_,_,SqL.of e2,zPV (by simpa using h)⟩,fun h=>⟨_,SqL.of e2,by simp;omega⟩⟩
   ·rintro j ys H2 x H3 hj ⟨_,rfl,rfl⟩ ⟨rfl,hx⟩ pre hpre;obtain ⟨p1,rfl⟩:=yQ hpre;have s2:=s1.trans (zC.upd hD2 (o:= .lst (((us.map fun v=>zA v i).take j).map V.int)));have hx':=hx _ (SqL.of (s2 _ _ el));rw [zPa,zPV hj] at hx';cases hx';obtain ⟨u,eu,hu1⟩:=Paired.get' ha (zPV hj);have lu:=hu u (zPz eu);refine ⟨⟨[some (.ref as[j])],rfl,rfl⟩,zp ?_⟩;refine ⟨_,rfl,_,rfl,as[j],_,_,_,rfl,rfl,SqL.of (hu1.same s2),by rw [Int.zero_add];exact zn (zT (show i<u.length by omega)),zB,hj,?_,by rw [zy]⟩;rw [zPs,zPa,eu];simp
   ·rintro ys H2 ⟨_,rfl,rfl⟩;have sD:=zC.upd hD2 (o:= .lst (((us.map fun v=>zA v i).take as.length).map V.int));have hne:D2≠D:=fun z=>by rw [z,e1] at hD2;cases hD2
    refine ⟨sD _ _ e1,rs++ [D2],hi,by simp,?_,by simp [hrl],by simp [hnd,Ne.symm hne],fun a ha=>(List.mem_append.mp ha).elim (hnew a) fun h=>by rw [List.mem_singleton.mp h];exact zC.none s1 hD2,zC.store (s1.trans sD) hD,zB⟩;rw [zHL hi];refine Paired.snoc' (Paired.mapM hrs fun a v hm ea=>?_) ?_
    ·have z:=sD _ _ ea;show L2.upd _ D _ a=_;rw [zH fun haD=>hnd (by rw [<-haD];exact hm)];exact z
    ·show L2.upd _ D _ D2=_;rw [zH hne,zB,la,<-zPc (f:=fun v=>zA v i),zPu]
  ·rintro ys H' ⟨rs,_,rfl,hrs,_,_,hnew,s1,e1⟩;rw [List.take_of_length_le (by simp [zt])] at hrs;exact q _ _ s1 ⟨hD,fun as e a ha=>hnew a (by rw [e] at e1;injection e1 with e1;injection e1 with e1;rw [<-zGy e1];exact ha)⟩ ⟨rs,e1,hrs⟩
end
section
variable {P:Program}{w:World}{K:zQK}{mg:Str->Option Value}{base:Heap}
def zBM(C:Addr):Sp:=fun vs H Q _=> ∃(x dx:Addr) (p v:V),vs= [.ref x,p,v] /\H x=some (.ins C dx [])/\Q .non (L2.upd H x (.ins C dx [("place",p),("vector",v)]))
theorem zMB:FnScope ["self","place","vector"] ["self","place","vector"] (zF (zw (top 9) 0)):=⟨rfl,rfl,rfl,by decide+kernel,rfl,by decide+kernel,by decide+kernel⟩
theorem zGP{f C:Addr}{fd:FuncData}(F:Fun K "__init__" "Step.__init__" (zw (top 9) 0) f fd)(T:SC K C):FnOk P w K mg base CX0 1 f fd ["self","place","vector"] (zBM C):=by
 refine F.ok zMB (fun vs H Q E h=>?_) (fun cdv A outer s H vs Q E hr h=>?_)
 ·obtain ⟨x,dx,p,v,rfl,_⟩:=h;rfl
 ·obtain ⟨x,dx,p,v,rfl,hx,q⟩:=h;refine ⟨_,QB.out (zE
   (zAw (K:=K) rfl (qw 0 rfl) (qw 1 rfl) rfl) (zM
   (zAw (K:=K) rfl (qw 0 rfl) (qw 2 rfl) rfl))),?_⟩
  refine ⟨_,rfl,_,rfl,x,C,dx,[],rfl,hx,T.cl,T.n1,by show 0<1000;decide,?_⟩;refine ⟨_,rfl,_,rfl,x,C,dx,[("place",p)],rfl,zB,T.cl,T.n2,by show 1<1000;decide,?_⟩;rw [zy];exact q
theorem LI.store{H:Hp}{k a:Addr}{v:Vec}{os:List Addr}{o:HO}(h:LI H a v)(hv:v≠ [])(hk:H k=some (.lst (os.map V.ref))):LI (L2.upd H k o) a v:=by
 unfold LI at*;rw [zH fun z=>?_]
 ·exact h
 ·rw [z,hk] at h;cases v with
  | nil=>exact hv rfl
  | cons x v=>
   cases os with
   | nil=>cases h
   | cons y os=>cases h
theorem StO.store{C:Addr}{H:Hp}{k x:Addr}{q:Stp}{os:List Addr}{o:HO}(h:StO C H x q)(hv:q.2≠ [])(hk:H k=some (.lst (os.map V.ref))):StO C (L2.upd H k o) x q:=by
 obtain ⟨dx,a,e,p⟩:=h;exact ⟨dx,a,by rw [zH fun z=>by rw [z,hk] at e;cases e];exact e,p.store hv hk⟩
theorem StA.store{C:Addr}{H:Hp}{k:Addr}{xs:List Addr}{S:List Stp}{os:List Addr}{o:HO}(h:StA C H xs S)(hv: ∀q∈S,q.2≠ [])(hk:H k=some (.lst (os.map V.ref))):StA C (L2.upd H k o) xs S:=by
 induction h with
 | nil=>exact .nil
 | cons r _ ih=>exact .cons (r.store (hv _ (by simp)) hk) (ih fun q hq=>hv q (by simp [hq]))
theorem zOd{V':Nat}{own r:Int}(hr:0<r)(b1:Bt (2*V'+10) own)(b2:Bt V' r):Bt (3*V'+11) (zu own r).2.2/\Bt V' (zu own r).2.1/\Bt V' (zu own r).1:=by
 obtain ⟨g1,g2,g3,g4,g5,g6,g7⟩:=zAA (one:=own) hr;generalize zu own r=d at*;obtain ⟨g,x,y⟩:=d;simp only at*;have gr:g<=r:=Int.le_of_dvd hr g3;have bg:Bt V' g:=b2.le (by omega);have bx:Bt V' x:=b2.le (by
  have:r/g<=r:=Int.ediv_le_self _ (Int.le_of_lt hr);omega)
 refine ⟨?_,bx,bg⟩;have e:y*r=g+(-x)*own:=by grind
 have b3:Bt (3*V'+11) (y*r):=by
  rw [e];exact Bt.add (bg.mono (by omega)) ((bx.neg.mul b1).mono (by omega))
 refine b3.le ?_;rw [Int.natAbs_mul];exact Nat.le_mul_of_pos_right _ (by omega)
theorem zMi{e:Vec}{p:Nat}{u:Vec}{S:List Stp}(h:dt (zA u) e=0):FrV.part e ((p,u)::S)=((p,u)::(FrV.part e S).1,(FrV.part e S).2):=by simp [FrV.part,h]
theorem zHp{e:Vec}{p:Nat}{u:Vec}{S:List Stp}(h:dt (zA u) e≠0)(h0:(FrV.part e S).2.2=0):FrV.part e ((p,u)::S)=((FrV.part e S).1,(if 0<dt (zA u) e then u else zP (-1) u 0 u),((dt (zA u) e).natAbs:Int)):=by simp [FrV.part,h,h0]
def zBX(e:Vec)(p:Nat)(u:Vec)(S:List Stp):Stp:=(p,zU (zP ((FrV.part e S).2.2/(zu (dt (zA u) e) (FrV.part e S).2.2).1) u (-(dt (zA u) e/(zu (dt (zA u) e) (FrV.part e S).2.2).1)) (FrV.part e S).2.1) (FrV.part e S).1)
theorem zHj{e:Vec}{p:Nat}{u:Vec}{S:List Stp}(h:dt (zA u) e≠0)(h0:(FrV.part e S).2.2≠0)(hl:(zu (dt (zA u) e) (FrV.part e S).2.2).1<(FrV.part e S).2.2):
  FrV.part e ((p,u)::S)=(zBX e p u S::(FrV.part e S).1,zU (zP (zu (dt (zA u) e) (FrV.part e S).2.2).2.1 u (zu (dt (zA u) e) (FrV.part e S).2.2).2.2 (FrV.part e S).2.1) (zBX e p u S::(FrV.part e S).1),(zu (dt (zA u) e) (FrV.part e S).2.2).1):=by
 simp only [FrV.part,if_neg h,if_neg h0,if_pos hl];rfl
theorem zHR{e:Vec}{p:Nat}{u:Vec}{S:List Stp}(h:dt (zA u) e≠0)(h0:(FrV.part e S).2.2≠0)(hl: ¬(zu (dt (zA u) e) (FrV.part e S).2.2).1<(FrV.part e S).2.2):
  FrV.part e ((p,u)::S)=(zBX e p u S::(FrV.part e S).1,(FrV.part e S).2):=by
 simp only [FrV.part,if_neg h,if_neg h0,if_neg hl];rfl
theorem zCr{e:Vec}: ∀(S:List Stp),(FrV.part e S).1.length<=S.length
 | [] =>zPZ _
 |(p,u)::S=>by
  have ih:=zCr (e:=e) S;simp only [FrV.part];split
  ·simp only [List.length_cons];omega
  ·split
   ·simp only [List.length_cons];omega
   ·split<;>(simp only [List.length_cons];omega)
structure RPt(C:Addr)(H0 H:Hp)(t:Addr)(k:List Stp)(vec:Vec)(r:Int):Prop where
 ex: ∃(kl:Addr) (vv:V),H t=some (.tup [.ref kl,vv,.int r])/\H0 kl=none/\StL C H kl k/\(0<r-> ∃va,vv= .ref va/\LI H va vec)
def zGz(C:Addr):Sp:=fun vs H Q _=> ∃(l m:Addr) (S:List Stp) (e:Vec) (n V':Nat),vs= [.ref l,.ref m] /\StL C H l S/\MkL H m (zBv e)/\Ech n S/\e.length=n/\n<=1000/\S.length<=12/\PartOk V' e S/\V'<=2500000/\
 ∀t H',zC H H'->RPt C H H' t (FrV.part e S).1 (FrV.part e S).2.1 (FrV.part e S).2.2->Q (.ref t) H'
theorem zAQ:FnScope ["steps","marks","kept","vector","reach","step","own","found","without"] ["steps","marks"] (zF zDa):=⟨rfl,rfl,rfl,by decide+kernel,rfl,by decide+kernel,by decide+kernel⟩
theorem zPK{n:Nat}{S S':List Stp}(h:Ech n S)(k:S'<:+S):Ech n S':=zAK h k
structure PW(C:Addr)(l m:Addr)(tr:List Stp×Vec×Int)(H0:Hp)(σ:L2.St)(H:Hp):Prop where
 ex: ∃(kl:Addr) (vv:V) (os:List Addr) (s5 s6 s7 s8:Option V),σ= [some (.ref l),some (.ref m),some (.ref kl),some vv,some (.int tr.2.2),s5,s6,s7,s8] /\H0 kl=none/\zC H0 H/\H kl=some (.lst (os.map V.ref))/\StA C H os tr.1/\(0<tr.2.2-> ∃va,vv= .ref va/\LI H va tr.2.1)
theorem zMA{f fR fM fD fL fS C:Addr}{fd fdR fdM fdD fdL fdS:FuncData}(F:Fun K "parted" "parted" zDa f fd)(B:Bn mg)(ht:P.given.tree=none)(T:SC K C)
  (FR:Fun K "reach_of" "reach_of" zBt fR fdR) (bR:zL K fdR ["vector","marks"] []) (mR:mg "reach_of" =some (.ref fR))
  (FM:Fun K "mixed" "mixed" zBD fM fdM) (bM:zL K fdM ["factor","one","other_factor","other"] []) (mM:mg "mixed" =some (.ref fM))
  (FD:Fun K "divisor_of" "divisor_of" zEJ fD fdD) (bD:zL K fdD ["one","other"] []) (mD:mg "divisor_of" =some (.ref fD))
  (FL:Fun K "lessened" "lessened" zBP fL fdL) (bL:zL K fdL ["vector","steps"] []) (mL:mg "lessened" =some (.ref fL))
  (FS:Fun K "__init__" "Step.__init__" (zw (top 9) 0) fS fdS) (bS:zL K fdS ["self","place","vector"] []) (MS:Mk K C fS) (mS:mg "Step" =some (.ref C)):FnOk P w K mg base CX0 35 f fd ["steps","marks"] (zGz C):=by
 have GR:FnOk P w K mg base CX0 1 fR fdR ["vector","marks"] zCQ:=zHC FR B;have GM:FnOk P w K mg base CX0 1 fM fdM ["factor","one","other_factor","other"] zBJ:=zEN FM B;have GD:FnOk P w K mg base CX0 34 fD fdD ["one","other"] zGC:=zJZ FD ht;have GL:FnOk P w K mg base CX0 34 fL fdL ["vector","steps"] (zBp C):=zHv FL B ht T FM bM mM;have GS:FnOk P w K mg base CX0 1 fS fdS ["self","place","vector"] (zBM C):=zGP FS T;refine F.ok zAQ (fun vs H Q E h=>?_) (fun cdv A outer s H vs Q E hr h=>?_)
 ·obtain ⟨l,m,S,e,n,V',rfl,_⟩:=h;rfl
 ·obtain ⟨l,m,S,e,n,V',rfl,⟨os,el,hs⟩,hm,hE,he,hn0,hS,ok,hV,q⟩:=h;have deep:DeepE (zAi CX0 P w K mg base ["steps","marks","kept","vector","reach","step","own","found","without"] "parted" (zF zDa) f cdv A outer s H E):=zAn hr (by decide) ht rfl rfl;have hr1:Room 1 _:=hr.mono (by decide);have hr2:Room 2 _:=hr.mono (by decide);have hr34:Room 34 _:=hr;have lS:=Paired.len hs;refine ⟨_,QB.out (zE
   (zW 2 zAQ.nd rfl (zAU zD) rfl) (zE
   (zW 3 zAQ.nd rfl zDc rfl) (zE
   (zW 4 zAQ.nd rfl zG rfl) (zE
   (zAF PassesOwn.never rfl (zIn (K:=K) rfl rfl B.reversed (qc (qw 0 rfl) zD rfl) rfl) (zJ 5 zAQ.nd rfl (Or.inl rfl) (.inr rfl)) (zE
    (zW 6 zAQ.nd rfl (zI GR hr1 rfl mR FR.kp bR .nil zK (qc (zk (K:=K) rfl (qw 5 rfl) rfl) (qc (qw 1 rfl) zD rfl) rfl) rfl rfl rfl) rfl) (zM
    (yX (zl zAz (qw 6 rfl) zG rfl) (zM
     (zBH (zDQ (K:=K) rfl (qw 2 rfl) (qw 5 rfl) rfl rfl rfl) rfl)) (zM
     (yX (zl zAz (qw 4 rfl) zG rfl) (zE
      (zW 4 zAQ.nd rfl (yK zGe rfl B.abs zJR (qc (qw 6 rfl) zD rfl) rfl) rfl) (zM
      (zW 3 zAQ.nd rfl (zEP (zl zAm (qw 6 rfl) zG rfl) (zk (K:=K) rfl (qw 5 rfl) rfl) (zI GM hr1 rfl mM FM.kp bM .nil zK (qc (zCB zG) (qc (zk (K:=K) rfl (qw 5 rfl) rfl) (qc zG (qc (zk (K:=K) rfl (qw 5 rfl) rfl) zD rfl) rfl) rfl) rfl) rfl rfl rfl)) rfl))) (zE
      (zW 7 zAQ.nd rfl (zI GD hr34 rfl mD FD.kp bD .nil zK (qc (qw 6 rfl) (qc (qw 4 rfl) zD rfl) rfl) rfl rfl rfl) rfl) (zE
      (zW 8 zAQ.nd rfl (zI GM hr1 rfl mM FM.kp bM .nil zK (qc (yk (deep.up rfl rfl rfl) (qw 4 rfl) (yL (K:=K) rfl (qw 7 rfl) zG (fun _ _=>rfl))) (qc (zk (K:=K) rfl (qw 5 rfl) rfl) (qc (zCB (yk (deep.up rfl rfl rfl) (qw 6 rfl) (yL (K:=K) rfl (qw 7 rfl) zG (fun _ _=>rfl)))) (qc (qw 3 rfl) zD rfl) rfl) rfl) rfl) rfl rfl rfl) rfl) (zE
      (zBH (zDQ (K:=K) rfl (qw 2 rfl) (zBq MS GS hr2 rfl mS bS .nil zK (qc (zk (K:=K) rfl (qw 5 rfl) rfl) (qc (zI GL hr34 rfl mL FL.kp bL .nil zK (qc (qw 8 rfl) (qc (qw 2 rfl) zD rfl) rfl) rfl rfl rfl) zD rfl) rfl) rfl rfl rfl) rfl rfl rfl) rfl) (zM
      (yX (zl zIO (yL (K:=K) rfl (qw 7 rfl) zG (fun _ _=>rfl)) (qw 4 rfl) rfl) (zE
       (zW 4 zAQ.nd rfl (yL (K:=K) rfl (qw 7 rfl) zG (fun _ _=>rfl)) rfl) (zM
       (zW 3 zAQ.nd rfl (zI GL hr34 rfl mL FL.kp bL .nil zK (qc (zI GM hr1 rfl mM FM.kp bM .nil zK (qc (yL (K:=K) rfl (qw 7 rfl) zG (fun _ _=>rfl)) (qc (zk (K:=K) rfl (qw 5 rfl) rfl) (qc (yL (K:=K) rfl (qw 7 rfl) zG (fun _ _=>rfl)) (qc (qw 3 rfl) zD rfl) rfl) rfl) rfl) rfl rfl rfl) (qc (qw 2 rfl) zD rfl) rfl) rfl rfl rfl) rfl))) yV)))))))))) (fun _=>rfl)) (zM
   (ze (zBw (qc (qw 2 rfl) (qc (qw 3 rfl) (qc (qw 4 rfl) zD rfl) rfl) rfl)))))))),?_⟩
  refine ⟨bs 0,fun kl hkl=>?_⟩;refine ⟨_,rfl,l,_,rfl,SqL.of (zC.upd hkl _ _ el),?_⟩;refine yj S.length (fun i σ H'=>i<=S.length/\PW C l m (FrV.part e (S.drop (S.length - i))) H σ H') ⟨zPk _,⟨kl,.non,[],none,none,none,none,by rw [Nat.sub_zero,List.drop_length];rfl,hkl,zC.upd hkl,zB,by rw [Nat.sub_zero,List.drop_length];exact .nil,by rw [Nat.sub_zero,List.drop_length];simp [FrV.part]⟩⟩ ?_ ?_ ?_ ?_
  ·rintro i σ H' hi ⟨_,⟨kl,vv,os',s5,s6,s7,s8,rfl,hk0,s1,ek,hk,hv⟩⟩;exact ⟨by simp;omega,_,_,SqL.of (s1 _ _ el),zPV (by simp;omega)⟩
  ·rintro σ H' ⟨_,_⟩;show (os.map V.ref).length<=S.length;simp;omega
  ·rintro i σ H' x H'' hi ⟨_,⟨kl,vv,os',s5,s6,s7,s8,rfl,hk0,s1,ek,hk,hv⟩⟩ ⟨rfl,hx⟩;have hx':=hx _ (SqL.of (s1 _ _ el));have hlen:(os.map V.ref).length=S.length:=by simp;omega
   rw [hlen] at hx';have hj:S.length - 1 - i<os.length:=by omega
   rw [zPa,zPV hj] at hx';cases hx';obtain ⟨⟨p,u⟩,eS,hso⟩:=Paired.get' hs (zPV hj);generalize os[S.length - 1 - i] =o at hso⊢;have hso':=hso;obtain ⟨dx,a,ho,hu⟩:=hso;have eD:S.drop (S.length -(i+1))=(p,u)::S.drop (S.length - i):=by
    have h1:S.length -(i+1)=S.length - 1 - i:=by omega
    rw [h1,List.drop_eq_getElem_cons (show S.length - 1 - i<S.length by omega)];rw [zPV (show S.length - 1 - i<S.length by omega)] at eS;rw [Option.some.inj eS];congr 2;omega
   have sf:S.drop (S.length -(i+1))<:+S:=List.drop_suffix _ _;have sf0:S.drop (S.length - i)<:+S:=List.drop_suffix _ _;have hE1:=zAK hE sf;have hmemS:(p,u)∈S:=zPz eS;obtain ⟨u1,u2,u3,u4⟩:=hE.mem hmemS;simp only at u1 u2 u3 u4;have bu:=ok.s (p,u) hmemS;have b0:=ok.k _ sf0;have bv:=ok.v _ sf0;have brc:=ok.r _ sf0;have I:=zv (e:=e) (zAK hE sf0);have kle:(FrV.part e (S.drop (S.length - i))).1.length<=12:=by
    have:=zCr (e:=e) (S.drop (S.length - i));rw [List.length_drop] at this;omega
   have lk:=Paired.len hk;generalize hS':S.drop (S.length - i)=S' at*;have hE':Ech n S':=zPK hE sf0;have n1:1<=n:=by omega
   have une:u≠ [] :=fun z=>by rw [z] at u1;simp at u1;omega
   have kne: ∀q∈(FrV.part e S').1,q.2≠ [] :=fun q hq z=>by
    have:=(I.ech.mem hq).1;rw [z] at this;simp at this;omega
   have rle: ∀x:Nat,x<=12->x<sizeLine:=fun x hx=>by rw [zPg];omega
   have bo:Bt (V'+V'+10) (dt (zA u) e):=zCc e _ 10 (by rw [he];exact zPj hn0 (by decide)) bu ok.eq;have eD':S.drop (S.length -(i+1))=(p,u)::S':=eD;have ho1:=s1 _ _ ho;have hu1:=hu.same s1;refine ⟨_,rfl,o,C,dx,_,_,rfl,ho1,T.cl,T.n2,rfl,_,rfl,a,m,u,e,rfl,hu1,hm.same s1,by omega,by omega,bu.mono (by omega),ok.eq.mono (by omega),fun H2 s2=>?_⟩;have s12:=s1.trans s2;replace ho1:=s2 _ _ ho1;replace hu1:=hu1.same s2;replace ek:=s2 _ _ ek;replace hk:=StA.same hk s2;have hso2:StO C H2 o (p,u):=⟨dx,a,ho1,hu1⟩;refine ⟨_,rfl,rfl,_,rfl,?_⟩;refine yl (fun c=>?_) (fun c=>?_)
   ·have c0:dt (zA u) e=0:=by simpa using c
    refine ⟨_,rfl,.inl ⟨rfl,_,SqL.of ek⟩,_,rfl,kl,_,_,rfl,rfl,ek,rle _ (by simp;omega),hi,?_⟩;rw [eD',zMi c0];refine ⟨kl,vv,o::os',_,_,_,_,rfl,hk0,zC.store s12 hk0,zB,.cons (hso2.store une ek) (StA.store hk kne ek),fun hr0=>?_⟩;obtain ⟨va,z1,z2⟩:=hv hr0;exact ⟨va,z1,(z2.same s2).store (fun z=>by have:=I.len hr0;rw [z] at this;simp at this;omega) ek⟩
   ·have c0:dt (zA u) e≠0:=by simpa using c
    refine ⟨_,rfl,rfl,_,rfl,?_⟩;refine yl (fun c=>?_) (fun c=>?_)
    ·have r0:(FrV.part e S').2.2=0:=by simpa using c
     have eab:(if dt (zA u) e<0 then -(dt (zA u) e) else dt (zA u) e)=((dt (zA u) e).natAbs:Int):=by split<;>omega
     refine ⟨_,rfl,_,rfl,_,rfl,_,_,rfl,rfl,_,rfl,?_⟩;refine yl (fun c=>?_) (fun c=>?_)
     ·have c1:0<dt (zA u) e:=by simpa using c
      refine ⟨_,rfl,o,C,dx,_,_,rfl,ho1,T.cl,T.n2,rfl,hi,?_⟩;rw [eD',zHp c0 r0,if_pos c1];exact ⟨kl,.ref a,os',_,_,_,_,by rw [eab];rfl,hk0,s12,ek,hk,fun _=>⟨a,rfl,hu1⟩⟩
     ·have c1: ¬0<dt (zA u) e:=by simpa using c
      refine ⟨_,rfl,_,rfl,o,C,dx,_,_,rfl,ho1,T.cl,T.n2,rfl,_,rfl,o,C,dx,_,_,rfl,ho1,T.cl,T.n2,rfl,-1,0,a,a,u,u,rfl,hu1,hu1,rfl,by omega,Bt.one.neg,Bt.zero,bu.mono (by omega),bu.mono (by omega),fun vl H3 s3 _ hl3=>?_⟩;refine ⟨hi,?_⟩;rw [eD',zHp c0 r0,if_neg c1];exact ⟨kl,.ref vl,os',_,_,_,_,by rw [eab];rfl,hk0,s12.trans s3,s3 _ _ ek,StA.same hk s3,fun _=>⟨vl,rfl,hl3⟩⟩
    ·have r0:(FrV.part e S').2.2≠0:=by simpa using c
     have rp:0<(FrV.part e S').2.2:=by have:=I.r0;omega
     obtain ⟨va,rfl,hva⟩:=hv rp;replace hva:=hva.same s2;have lva:=I.len rp;have vne:(FrV.part e S').2.1≠ [] :=fun z=>by rw [z] at lva;simp at lva;omega
     obtain ⟨g1,g2,g3,g4,g5,g6,g7⟩:=zAA (one:=dt (zA u) e) rp;have bo2:Bt (2*V'+10) (dt (zA u) e):=bo.mono (by omega);obtain ⟨by',bx',bg'⟩:=zOd rp bo2 brc;have hEn:=zv (e:=e) hE1;have bkn:=ok.k _ sf;have lkn:=zCr (e:=e) (S.drop (S.length -(i+1)));rw [eD'] at hEn bkn lkn;have lkn2:(FrV.part e ((p,u)::S')).1.length<=12:=by
      have:S'.length<=S.length - 1:=by
       have:=congrArg List.length eD';rw [List.length_drop,List.length_cons] at this;omega
      rw [List.length_cons] at lkn;omega
     have eK:(FrV.part e ((p,u)::S')).1=zBX e p u S'::(FrV.part e S').1:=by
      by_cases hl:(zu (dt (zA u) e) (FrV.part e S').2.2).1<(FrV.part e S').2.2
      ·rw [zHj c0 r0 hl]
      ·rw [zHR c0 r0 hl]
     rw [eK] at bkn lkn2;have hEk:=hEn.ech;rw [eK] at hEk;have hqk: ∀q∈(FrV.part e S').1,q.2.length=n/\q.1<n/\0<zA q.2 q.1/\Bts V' q.2:=fun q hq=>let ⟨z1,z2,z3,_⟩:=I.ech.mem hq;⟨z1,z2,z3,b0 q hq⟩;have hqn: ∀q∈zBX e p u S'::(FrV.part e S').1,q.2.length=n/\q.1<n/\0<zA q.2 q.1/\Bts V' q.2:=fun q hq=>let ⟨z1,z2,z3,_⟩:=hEk.mem hq;⟨z1,z2,z3,bkn q hq⟩;have mulk: ∀x:Nat,x<=12->x*(V'+1)<=12*(V'+1):=fun x hx=>Nat.mul_le_mul_right _ hx;have hNS:zBX e p u S'=(p,zU (zP ((FrV.part e S').2.2/(zu (dt (zA u) e) (FrV.part e S').2.2).1) u (-(dt (zA u) e/(zu (dt (zA u) e) (FrV.part e S').2.2).1)) (FrV.part e S').2.1) (FrV.part e S').1):=rfl;refine ⟨_,rfl,_,rfl,_,_,rfl,rp,bo2.mono (by omega),brc.mono (by omega),fun t H3 s3 et=>?_⟩;have hgd:Bt (2*V'+10) ((FrV.part e S').2.2/(zu (dt (zA u) e) (FrV.part e S').2.2).1):=(Bt.div brc g1).mono (by omega);have hod:Bt (2*V'+10) (-(dt (zA u) e/(zu (dt (zA u) e) (FrV.part e S').2.2).1)):=(Bt.div bo2 g1).neg;have hmx:=zEj (k:=0) (l:=0) (u:=u) (v:=(FrV.part e S').2.1) (by omega) hgd bu hod bv;refine ⟨_,rfl,_,rfl,t,_,_,_,rfl,rfl,SqT.of et,rfl,_,_,rfl,rfl,g1,_,rfl,o,C,dx,_,_,rfl,s3 _ _ ho1,T.cl,T.n2,rfl,_,rfl,_,rfl,t,_,_,_,rfl,rfl,SqT.of et,rfl,_,_,rfl,rfl,g1,_,rfl,_,rfl,_,_,a,va,u,(FrV.part e S').2.1,rfl,hu1.same s3,hva.same s3,by omega,by omega,hgd.mono (by omega),hod.mono (by omega),bu.mono (by omega),bv.mono (by omega),fun wl H4 s4 _ hw=>?_⟩;have s34:=s3.trans s4;refine ⟨_,rfl,.inl ⟨rfl,_,SqL.of (s34 _ _ ek)⟩,_,rfl,o,C,dx,_,_,rfl,s34 _ _ ho1,T.cl,T.n1,rfl,_,rfl,_,rfl,wl,kl,_,(FrV.part e S').1,n,2*V'+10+V'+1,V',rfl,hw,⟨os',s34 _ _ ek,StA.same hk s34⟩,zZ u1 lva,hn0,by omega,hqk,hmx,by have:=mulk _ kle;omega,fun ll H5 s5 _ hl5=>?_⟩;intro x dx2 hx5 hdx5 hne5;have sx:zC H5 (L2.upd (L2.upd (L2.upd H5 dx2 (.own x)) x (.ins C dx2 [])) x (.ins C dx2 [("place",.int (p:Int)),("vector",.ref ll)])):=zC.store (zC.store (zC.upd hdx5) hx5) hx5;have ex:(L2.upd (L2.upd (L2.upd H5 dx2 (.own x)) x (.ins C dx2 [])) x (.ins C dx2 [("place",.int (p:Int)),("vector",.ref ll)])) x=some (.ins C dx2 [("place",.int (p:Int)),("vector",.ref ll)]):=zB;refine ⟨x,dx2,_,_,rfl,zB,rfl,?_⟩;generalize L2.upd (L2.upd (L2.upd H5 dx2 (.own x)) x (.ins C dx2 [])) x (.ins C dx2 [("place",.int (p:Int)),("vector",.ref ll)])=H6 at sx ex⊢;have s26:zC H2 H6:=(s34.trans s5).trans sx;have s46:zC H4 H6:=s5.trans sx;have ek6:=s26 _ _ ek;refine ⟨kl,_,_,rfl,rfl,ek6,rle _ (by simp;omega),?_⟩;have et6:=(s4.trans s46) _ _ et;have hN6:StO C H6 x (zBX e p u S'):=⟨dx2,ll,ex,hl5.same sx⟩;have hnne:(zBX e p u S').2≠ [] :=fun z=>by
      have:=(hqn (zBX e p u S') (by simp)).1;rw [z] at this;simp at this;omega
     have hk6:StA C H6 (x::os') (zBX e p u S'::(FrV.part e S').1):= .cons hN6 (StA.same hk s26);have hne7: ∀q∈zBX e p u S'::(FrV.part e S').1,q.2≠ [] :=fun q hq z=>by
      have:=(hqn q hq).1;rw [z] at this;simp at this;omega
     have hk7:=StA.store (o:= .lst (.ref x::os'.map V.ref)) hk6 hne7 ek6;have et7:L2.upd H6 kl (.lst (.ref x::os'.map V.ref)) t=_:=(zH fun z=>by rw [z,ek6] at et6;cases et6).trans et6;have ho7:L2.upd H6 kl (.lst (.ref x::os'.map V.ref)) o=_:=(zH fun z=>by have h6:=s26 _ _ ho1;rw [z,ek6] at h6;cases h6).trans (s26 _ _ ho1);have hu7:=(hu1.same s26).store (o:= .lst (.ref x::os'.map V.ref)) une ek6;have hva7:=(hva.same s26).store (o:= .lst (.ref x::os'.map V.ref)) vne ek6;have ek7:L2.upd H6 kl (.lst (.ref x::os'.map V.ref)) kl=some (.lst ((x::os').map V.ref)):=zB;have s7:zC H (L2.upd H6 kl (.lst (.ref x::os'.map V.ref))):=zC.store (s12.trans s26) hk0;generalize L2.upd H6 kl (.lst (.ref x::os'.map V.ref))=H7 at hk7 et7 ho7 hu7 hva7 ek7 s7⊢;refine ⟨_,rfl,t,_,_,_,rfl,rfl,SqT.of et7,rfl,_,rfl,_,_,rfl,rfl,_,rfl,?_⟩;refine yl (fun c=>?_) (fun c=>?_)
     ·have hlt:(zu (dt (zA u) e) (FrV.part e S').2.2).1<(FrV.part e S').2.2:=by simpa using c
      have hm2:=zEj (k:=0) (l:=0) (u:=u) (v:=(FrV.part e S').2.1) (by omega) (bx'.mono (show V'<=3*V'+11 by omega)) bu by' bv;refine ⟨_,rfl,t,_,_,_,rfl,rfl,SqT.of et7,rfl,?_⟩;refine ⟨_,rfl,t,_,_,_,rfl,rfl,SqT.of et7,rfl,_,rfl,o,C,dx,_,_,rfl,ho7,T.cl,T.n2,rfl,_,rfl,t,_,_,_,rfl,rfl,SqT.of et7,rfl,_,rfl,_,_,a,va,u,(FrV.part e S').2.1,rfl,hu7,hva7,by omega,by omega,bx'.mono (by omega),by'.mono (by omega),bu.mono (by omega),bv.mono (by omega),fun ml H8 s8 _ hm8=>?_⟩;refine ⟨_,rfl,ml,kl,_,zBX e p u S'::(FrV.part e S').1,n,3*V'+11+V'+1,V',rfl,hm8,⟨x::os',s8 _ _ ek7,StA.same hk7 s8⟩,zZ u1 lva,hn0,by omega,hqn,hm2,by have:=mulk _ lkn2;omega,fun vl H9 s9 _ hv9=>?_⟩;refine ⟨hi,?_⟩;rw [eD',zHj c0 r0 hlt];have s79:=s8.trans s9;exact ⟨kl,.ref vl,x::os',_,_,_,_,rfl,hk0,s7.trans s79,s79 _ _ ek7,StA.same hk7 s79,fun _=>⟨vl,rfl,hv9⟩⟩
     ·have hge: ¬(zu (dt (zA u) e) (FrV.part e S').2.2).1<(FrV.part e S').2.2:=by simpa using c
      refine ⟨hi,?_⟩;rw [eD',zHR c0 r0 hge];exact ⟨kl,.ref va,x::os',_,_,_,_,rfl,hk0,s7,ek7,hk7,fun _=>⟨va,rfl,hva7⟩⟩
  ·rintro σ H' ⟨_,⟨kl,vv,os',s5,s6,s7,s8,rfl,hk0,s1,ek,hk,hv⟩⟩;rw [Nat.sub_self,List.drop_zero] at hk hv⊢;refine ⟨_,rfl,_,rfl,_,rfl,by show 3<=sizeLine;decide,fun t ht=>?_⟩;have st:=zC.upd ht (o:= .tup [.ref kl,vv,.int (FrV.part e S).2.2]);exact q t _ (s1.trans st) ⟨kl,vv,zB,hk0,⟨os',st _ _ ek,StA.same hk st⟩,fun h=>let ⟨va,z1,z2⟩:=hv h;⟨va,z1,z2.same st⟩⟩
end
theorem zDu{xs:List V}{i:Int}(h0:0<=i)(hi:i<=xs.length):zAv xs (some i) none=xs.drop i.toNat:=by
 have e1:HT.sIx xs.length 0 (some i)=i.toNat:=by
  unfold HT.sIx;simp only;rw [if_neg (by omega)];omega
 have e2:HT.sIx xs.length xs.length none=xs.length:=by unfold HT.sIx;rfl
 unfold zAv;rw [e1,e2,List.take_of_length_le (by rw [List.length_drop];omega)]
theorem zGW{xs:List V}{i:Int}(h0:0<=i)(hi:i<=xs.length):zAv xs none (some i)=xs.take i.toNat:=by
 have e1:HT.sIx xs.length xs.length (some i)=i.toNat:=by
  unfold HT.sIx;simp only;rw [if_neg (by omega)];omega
 have e2:HT.sIx xs.length 0 none=0:=by unfold HT.sIx;rfl
 unfold zAv;rw [e1,e2,List.drop_zero,Nat.sub_zero]
theorem zFf{v:Vec}{n:Nat}(h:n<=v.length):zAv (v.map V.int) (some (n:Int)) none=(v.drop n).map V.int:=by
 rw [zDu (by omega) (by simp;omega),List.map_drop];rfl
theorem zFS{v:Vec}{n:Nat}(h:n<=v.length):zAv (v.map V.int) none (some (n:Int))=(v.take n).map V.int:=by
 rw [zGW (by omega) (by simp;omega),List.map_take];rfl
def But(ex:List Addr)(H H':Hp):Prop:= ∀b u,H b=some u->b∉ex->H' b=some u
theorem zC.but{H H':Hp}(s:zC H H')(ex:List Addr):But ex H H':=fun b u e _=>s b u e
theorem But.trans{ex:List Addr}{H H1 H2:Hp}(a:But ex H H1)(b:But ex H1 H2):But ex H H2:=fun c u e z=>b c u (a c u e z) z
theorem But.same{ex:List Addr}{H0 H H':Hp}(s:zC H0 H)(b:But ex H H')(hn: ∀a∈ex,H0 a=none):zC H0 H':=fun c u e=>b c u (s c u e) fun z=>by rw [hn c z] at e;cases e
structure PC(K:zQK)(C:Addr):Prop where
 cl:Cls K C
 n1:ym K C "number"
 n2:ym K C "vector"
 n3:ym K C "reach"
structure LC(K:zQK)(C:Addr):Prop where
 cl:Cls K C
 n1:ym K C "unknowns"
 n2:ym K C "steps"
 n3:ym K C "fixed"
 n4:ym K C "spent"
def SpO(C:Addr)(H:Hp)(o:Addr)(q:Spt):Prop:= ∃dx a,H o=some (.ins C dx [("number",.int (q.1:Int)),("vector",.ref a),("reach",.int q.2.2)])/\LI H a q.2.1
theorem SpO.same{C:Addr}{H H':Hp}{o:Addr}{q:Spt}(h:SpO C H o q)(s:zC H H'):SpO C H' o q:=let ⟨dx,a,e,p⟩:=h;⟨dx,a,s _ _ e,p.same s⟩
abbrev SpA(C:Addr)(H:Hp)(os:List Addr)(S:List Spt):Prop:=Paired (SpO C H) os S
theorem SpA.same{C:Addr}{H H':Hp}{os:List Addr}{S:List Spt}(h:SpA C H os S)(s:zC H H'):SpA C H' os S:=Paired.mapP h fun a v e=>e.same s
structure SoO(CS CP CL:Addr)(H:Hp)(o pl:Addr)(n:Nat)(s:Stt):Prop where
 ex: ∃dx sl fl os,H o=some (.ins CL dx [("unknowns",.int (n:Int)),("steps",.ref sl),("fixed",.ref fl),("spent",.ref pl)])/\StL CS H sl s.steps/\LL H fl s.fixed/\H pl=some (.lst (os.map V.ref))/\SpA CP H os s.spent
theorem SoO.same{CS CP CL:Addr}{H H':Hp}{o pl:Addr}{n:Nat}{s:Stt}(h:SoO CS CP CL H o pl n s)(z:zC H H'):SoO CS CP CL H' o pl n s:=by
 obtain ⟨dx,sl,fl,os,e1,e2,e3,e4,e5⟩:=h;exact ⟨dx,sl,fl,os,z _ _ e1,e2.same z,e3.same z,z _ _ e4,SpA.same e5 z⟩
section
variable {P:Program}{w:World}{K:zQK}{mg:Str->Option Value}{base:Heap}
def zCP:Sp:=fun vs H Q _=> ∃z m:Int,vs= [.int z,.int m] /\0<=m/\Q (.int (FrV.lo z m)) H
theorem zMo:FnScope ["number","modulus"] ["number","modulus"] (zF zBx):=⟨rfl,rfl,rfl,by decide+kernel,rfl,by decide+kernel,by decide+kernel⟩
theorem zIB{f:Addr}{fd:FuncData}(F:Fun K "left_over" "left_over" zBx f fd):FnOk P w K mg base CX0 1 f fd ["number","modulus"] zCP:=by
 refine F.ok zMo (fun vs H Q E h=>?_) (fun cdv A outer s H vs Q E hr h=>?_)
 ·obtain ⟨z,m,rfl,_⟩:=h;rfl
 ·obtain ⟨z,m,rfl,hm,q⟩:=h;refine ⟨_,QB.out (zE
   (yX (zl zAz (qw 1 rfl) zG rfl) (zM
    (ze (qw 0 rfl))) yV) (zM
   (ze (zAB (qw 0 rfl) (qw 1 rfl))))),?_⟩
  refine ⟨_,rfl,rfl,_,rfl,?_⟩;unfold FrV.lo at q;refine yl (fun c=>?_) (fun c=>?_)
  ·have c0:m=0:=by simpa using c
   rw [if_pos c0] at q;exact ⟨_,rfl,q⟩
  ·have c0:m≠0:=by simpa using c
   rw [if_neg c0] at q;exact ⟨_,rfl,_,rfl,_,_,rfl,rfl,(by show 0<m;omega),q⟩
def zFQ:Sp:=fun vs H Q _=> ∃(p:Addr) (v:Vec) (m:Int),vs= [.ref p,.int m] /\LI H p v/\v.length<=1000/\0<=m/\zKM H Q (los v m)
theorem zLv:FnScope ["vector","modulus"] ["vector","modulus"] (zF zDH):=⟨rfl,rfl,rfl,by decide+kernel,rfl,by decide+kernel,by decide+kernel⟩
theorem zKO{f fO:Addr}{fd fdO:FuncData}(F:Fun K "all_left_over" "all_left_over" zDH f fd)(FO:Fun K "left_over" "left_over" zBx fO fdO)(bO:zL K fdO ["number","modulus"] [])(mO:mg "left_over" =some (.ref fO)):FnOk P w K mg base CX0 2 f fd ["vector","modulus"] zFQ:=by
 have GO:FnOk P w K mg base CX0 1 fO fdO ["number","modulus"] zCP:=zIB FO;refine F.ok zLv (fun vs H Q E h=>?_) (fun cdv A outer s H vs Q E hr h=>?_)
 ·obtain ⟨p,v,m,rfl,_⟩:=h;rfl
 ·obtain ⟨p,v,m,rfl,hp,hn,hm,q⟩:=h;have hr1:Room 1 _:=hr;refine ⟨_,QB.out (zM
   (ze (zc ["number"] ["modulus"] [1] rfl (zj (K:=K) rfl (qw 0 rfl)) rfl (by decide+kernel) rfl (by decide+kernel) (zN rfl yb) rfl (fr1 ⟨rfl,rfl,rfl,_,rfl,rfl⟩) (zO rfl) (fun _ _ _ _=>(zJ 0 (show (["number","modulus"] :List Str).Nodup by decide+kernel) rfl (.inl rfl) (.inr rfl))) (fun _ _ _ _=>zV) (fun _ _ _ _=>(zI GO hr1 rfl mO FO.kp bO .nil zK (qc (qw 0 rfl) (qc (qx 1 rfl) zD rfl) rfl) rfl rfl rfl)) (fun _=>rfl)))),?_⟩
  refine ⟨_,rfl,p,rfl,⟨_,SqL.of hp⟩,fun D hD=>?_⟩;refine zR v.length (fun i ys H'=>i<=v.length/\ys=((los v m).take i).map V.int/\H'=L2.upd H D (.lst ys)) ⟨zPk _,by simp,rfl⟩ (by rw [zPg];omega) ?_ ?_ ?_
  ·rintro i ys H' hi ⟨_,rfl,rfl⟩;have e2:=hp.same (zC.upd hD (o:= .lst (((los v m).take i).map V.int)));exact ⟨by simp;omega,zB,fun h=>⟨_,_,SqL.of e2,zT h⟩,fun h=>⟨_,SqL.of e2,by simp;omega⟩⟩
  ·rintro i ys H' x H'' hi ⟨_,rfl,rfl⟩ ⟨rfl,hx⟩ pre hpre;obtain ⟨p0,rfl⟩:=yQ hpre;have hx':=hx _ (SqL.of (hp.same (zC.upd hD (o:= .lst (((los v m).take i).map V.int)))));rw [zT hi] at hx';cases hx';refine ⟨⟨[some (.int (zA v i))],rfl,rfl⟩,zp ?_⟩;refine ⟨_,rfl,_,rfl,_,_,rfl,hm,zB,hi,?_,by rw [zy]⟩;rw [zDb (by rw [zAp];exact hi),zBn,zPr];rfl
  ·rintro ys H' ⟨_,rfl,rfl⟩;refine q _ _ (zC.upd hD) hD ?_;show L2.upd H D _ D=_;rw [zB,List.take_of_length_le (by rw [zAp];exact zPZ _)]
def zDt(C:Addr):Sp:=fun vs H Q _=> ∃(x dx:Addr) (j v r:V),vs= [.ref x,j,v,r] /\H x=some (.ins C dx [])/\Q .non (L2.upd H x (.ins C dx [("number",j),("vector",v),("reach",r)]))
theorem zKL:FnScope ["self","number","vector","reach"] ["self","number","vector","reach"] (zF (zw (top 24) 0)):=⟨rfl,rfl,rfl,by decide+kernel,rfl,by decide+kernel,by decide+kernel⟩
theorem zJJ{f C:Addr}{fd:FuncData}(F:Fun K "__init__" "Spent.__init__" (zw (top 24) 0) f fd)(T:PC K C):FnOk P w K mg base CX0 1 f fd ["self","number","vector","reach"] (zDt C):=by
 refine F.ok zKL (fun vs H Q E h=>?_) (fun cdv A outer s H vs Q E hr h=>?_)
 ·obtain ⟨x,dx,j,v,r,rfl,_⟩:=h;rfl
 ·obtain ⟨x,dx,j,v,r,rfl,hx,q⟩:=h;refine ⟨_,QB.out (zE
   (zAw (K:=K) rfl (qw 0 rfl) (qw 1 rfl) rfl) (zE
   (zAw (K:=K) rfl (qw 0 rfl) (qw 2 rfl) rfl) (zM
   (zAw (K:=K) rfl (qw 0 rfl) (qw 3 rfl) rfl)))),?_⟩
  refine ⟨_,rfl,_,rfl,x,C,dx,[],rfl,hx,T.cl,T.n1,by show 0<1000;decide,?_⟩;refine ⟨_,rfl,_,rfl,x,C,dx,[("number",j)],rfl,zB,T.cl,T.n2,by show 1<1000;decide,?_⟩;refine ⟨_,rfl,_,rfl,x,C,dx,[("number",j),("vector",v)],rfl,zB,T.cl,T.n3,by show 2<1000;decide,?_⟩;rw [zy,zy];exact q
def zGH(C:Addr):Sp:=fun vs H Q _=> ∃(x dx:Addr) (u s f:V),vs= [.ref x,u,s,f] /\H x=some (.ins C dx [])/\ ∀pl,H pl=none->Q .non (L2.upd (L2.upd H pl (.lst [])) x (.ins C dx [("unknowns",u),("steps",s),("fixed",f),("spent",.ref pl)]))
theorem zOB:FnScope ["self","unknowns","steps","fixed"] ["self","unknowns","steps","fixed"] (zF (zw (top 25) 0)):=⟨rfl,rfl,rfl,by decide+kernel,rfl,by decide+kernel,by decide+kernel⟩
theorem zMY{f C:Addr}{fd:FuncData}(F:Fun K "__init__" "Solution.__init__" (zw (top 25) 0) f fd)(T:LC K C):FnOk P w K mg base CX0 1 f fd ["self","unknowns","steps","fixed"] (zGH C):=by
 refine F.ok zOB (fun vs H Q E h=>?_) (fun cdv A outer s H vs Q E hr h=>?_)
 ·obtain ⟨x,dx,u,s,f,rfl,_⟩:=h;rfl
 ·obtain ⟨x,dx,u,s',f',rfl,hx,q⟩:=h;refine ⟨_,QB.out (zE
   (zAw (K:=K) rfl (qw 0 rfl) (qw 1 rfl) rfl) (zE
   (zAw (K:=K) rfl (qw 0 rfl) (qw 2 rfl) rfl) (zE
   (zAw (K:=K) rfl (qw 0 rfl) (qw 3 rfl) rfl) (zM
   (zAw (K:=K) rfl (qw 0 rfl) (zAU zD) rfl))))),?_⟩
  refine ⟨_,rfl,_,rfl,x,C,dx,[],rfl,hx,T.cl,T.n1,by show 0<1000;decide,?_⟩;refine ⟨_,rfl,_,rfl,x,C,dx,[("unknowns",u)],rfl,zB,T.cl,T.n2,by show 1<1000;decide,?_⟩;refine ⟨_,rfl,_,rfl,x,C,dx,[("unknowns",u),("steps",s')],rfl,zB,T.cl,T.n3,by show 2<1000;decide,?_⟩;refine ⟨bs 0,fun pl hpl=>?_⟩;rw [zy,zy] at hpl;have hne:pl≠x:=fun z=>by rw [z,zB] at hpl;cases hpl
  refine ⟨_,rfl,x,C,dx,[("unknowns",u),("steps",s'),("fixed",f')],rfl,by rw [zH (Ne.symm hne),zB];rfl,T.cl,T.n4,by show 3<1000;decide,?_⟩;rw [zH hne] at hpl;have e:=q pl hpl;have e2:L2.upd (L2.upd (L2.upd (L2.upd (L2.upd H x (.ins C dx (yO "unknowns" u []))) x (.ins C dx (yO "steps" s' [("unknowns",u)]))) x (.ins C dx (yO "fixed" f' [("unknowns",u),("steps",s')]))) pl (.lst [])) x (.ins C dx (yO "spent" (.ref pl) [("unknowns",u),("steps",s'),("fixed",f')]))=L2.upd (L2.upd H pl (.lst [])) x (.ins C dx [("unknowns",u),("steps",s'),("fixed",f'),("spent",.ref pl)]):=by
   funext b
   unfold L2.upd;by_cases z1:b=x
   ·simp [z1];rfl
   ·by_cases z2:b=pl
    ·simp [z1,z2,hne]
    ·simp [z1,z2]
  rw [<-e2] at e;exact e
end
theorem LI.but{H H':Hp}{o pl a:Addr}{CL dx:Addr}{fs:List (Str×V)}{os:List Addr}{v:Vec}(h:LI H a v)(hv:v≠ [])(ho:H o=some (.ins CL dx fs))(hp:H pl=some (.lst (os.map V.ref)))(b:But [o,pl] H H'):LI H' a v:=by
 refine b a _ h fun z=>?_;simp only [List.mem_cons,List.not_mem_nil,or_false] at z;unfold LI at h;rcases z with z | z
 ·rw [z,ho] at h;cases h
 ·rw [z,hp] at h;cases v with
  | nil=>exact hv rfl
  | cons x v=>
   cases os with
   | nil=>cases h
   | cons y os=>cases h
theorem StO.but{H H':Hp}{C o pl x:Addr}{CL dx:Addr}{u:V}{fs:List (Str×V)}{os:List Addr}{q:Stp}(h:StO C H x q)(hv:q.2≠ [])(ho:H o=some (.ins CL dx (("unknowns",u)::fs)))(hp:H pl=some (.lst (os.map V.ref)))(b:But [o,pl] H H'):StO C H' x q:=by
 obtain ⟨dx',a,e,p⟩:=h;refine ⟨dx',a,b x _ e fun z=>?_,p.but hv ho hp b⟩;simp only [List.mem_cons,List.not_mem_nil,or_false] at z;rcases z with z | z
 ·rw [z,ho] at e;injection e with e;injection e with _ _ e;injection e with e;injection e with e;exact absurd e (by decide)
 ·rw [z,hp] at e;cases e
theorem StA.but{H H':Hp}{C o pl:Addr}{CL dx:Addr}{u:V}{fs:List (Str×V)}{os xs:List Addr}{S:List Stp}(h:StA C H xs S)(hv: ∀q∈S,q.2≠ [])(ho:H o=some (.ins CL dx (("unknowns",u)::fs)))(hp:H pl=some (.lst (os.map V.ref)))(b:But [o,pl] H H'):StA C H' xs S:=by
 induction h with
 | nil=>exact .nil
 | cons r _ ih=>exact .cons (r.but (hv _ (by simp)) ho hp b) (ih fun q hq=>hv q (by simp [hq]))
theorem SpO.but{H H':Hp}{C o pl x:Addr}{CL dx:Addr}{u:V}{fs:List (Str×V)}{os:List Addr}{q:Spt}(h:SpO C H x q)(hv:q.2.1≠ [])(ho:H o=some (.ins CL dx (("unknowns",u)::fs)))(hp:H pl=some (.lst (os.map V.ref)))(b:But [o,pl] H H'):SpO C H' x q:=by
 obtain ⟨dx',a,e,p⟩:=h;refine ⟨dx',a,b x _ e fun z=>?_,p.but hv ho hp b⟩;simp only [List.mem_cons,List.not_mem_nil,or_false] at z;rcases z with z | z
 ·rw [z,ho] at e;injection e with e;injection e with _ _ e;injection e with e;injection e with e;exact absurd e (by decide)
 ·rw [z,hp] at e;cases e
theorem SpA.but{H H':Hp}{C o pl:Addr}{CL dx:Addr}{u:V}{fs:List (Str×V)}{os xs:List Addr}{S:List Spt}(h:SpA C H xs S)(hv: ∀q∈S,q.2.1≠ [])(ho:H o=some (.ins CL dx (("unknowns",u)::fs)))(hp:H pl=some (.lst (os.map V.ref)))(b:But [o,pl] H H'):SpA C H' xs S:=by
 induction h with
 | nil=>exact .nil
 | cons r _ ih=>exact .cons (r.but (hv _ (by simp)) ho hp b) (ih fun q hq=>hv q (by simp [hq]))
theorem LIs.but{H H':Hp}{o pl:Addr}{CL dx:Addr}{fs:List (Str×V)}{os xs:List Addr}{S:List Vec}(h:LIs H xs S)(hv: ∀q∈S,q≠ [])(ho:H o=some (.ins CL dx fs))(hp:H pl=some (.lst (os.map V.ref)))(b:But [o,pl] H H'):LIs H' xs S:=by
 induction h with
 | nil=>exact .nil
 | cons r _ ih=>exact .cons (LI.but r (hv _ (by simp)) ho hp b) (ih fun q hq=>hv q (by simp [hq]))
theorem zFJ{H:Hp}{a:Addr}{o:HO}{ex:List Addr}(h:a∈ex):But ex H (L2.upd H a o):=fun b u e z=>by rw [zH fun y=>z (by rw [y];exact h)];exact e
section
variable {P:Program}{w:World}{K:zQK}{mg:Str->Option Value}{base:Heap}
structure TkOk(n m V':Nat)(E:Eqn)(s:Stt):Prop where
 e1:E.1.length=n
 e2:E.2.length=m
 nn:n<=12
 mm:m<=1000
 ech:Ech n s.steps
 sl:s.steps.length<=12
 fl:s.fixed.length=m
 fn: ∀f∈s.fixed,f.length=n/\Bts V' f
 ok:PartOk V' E.1 s.steps
 bc:Bts V' E.2
 pl:s.spent.length<=1000
 pn: ∀q∈s.spent,q.2.1.length=n
def zGd(CS CP CL:Addr):Sp:=fun vs H Q _=> ∃(o pl q:Addr) (j n m V':Nat) (E:Eqn) (st:Stt),vs= [.ref o,.int (j:Int),.ref q] /\SoO CS CP CL H o pl n st/\LI H q (E.1++E.2)/\TkOk n m V' E st/\V'<=2500000/\
 (zAx E st=true-> ∀H',But [o,pl] H H'->SoO CS CP CL H' o pl n (take j E st)->Q .non H')/\(zAx E st=false-> ∀H',zC H H'->Q (.int (FrV.part E.1 st.steps).2.2) H')
theorem zCz:FnScope ["self","number","equation","marks","found","reach","sums"] ["self","number","equation"] (zF (zw (top 25) 1)):=⟨rfl,rfl,rfl,by decide+kernel,rfl,by decide+kernel,by decide+kernel⟩
theorem zLu{f fK fQ fR fO fL fM fP CS CP CL:Addr}{fd fdK fdQ fdR fdO fdL fdM fdP:FuncData}(F:Fun K "take_in" "Solution.take_in" (zw (top 25) 1) f fd)(B:Bn mg)(ht:P.given.tree=none)(T:LC K CL)(TP:PC K CP)
  (FK:Fun K "marks_of" "marks_of" zCT fK fdK) (bK:zL K fdK ["vector"] []) (mK:mg "marks_of" =some (.ref fK)) (GK:FnOk P w K mg base CX0 1 fK fdK ["vector"] zDZ)
  (FQ:Fun K "parted" "parted" zDa fQ fdQ) (bQ:zL K fdQ ["steps","marks"] []) (mQ:mg "parted" =some (.ref fQ)) (GQ:FnOk P w K mg base CX0 35 fQ fdQ ["steps","marks"] (zGz CS))
  (FR:Fun K "reach_of" "reach_of" zBt fR fdR) (bR:zL K fdR ["vector","marks"] []) (mR:mg "reach_of" =some (.ref fR)) (GR:FnOk P w K mg base CX0 1 fR fdR ["vector","marks"] zCQ)
  (FO:Fun K "left_over" "left_over" zBx fO fdO) (bO:zL K fdO ["number","modulus"] []) (mO:mg "left_over" =some (.ref fO)) (GO:FnOk P w K mg base CX0 1 fO fdO ["number","modulus"] zCP)
  (FL:Fun K "lessened" "lessened" zBP fL fdL) (bL:zL K fdL ["vector","steps"] []) (mL:mg "lessened" =some (.ref fL)) (GL:FnOk P w K mg base CX0 34 fL fdL ["vector","steps"] (zBp CS))
  (FM:Fun K "mixed" "mixed" zBD fM fdM) (bM:zL K fdM ["factor","one","other_factor","other"] []) (mM:mg "mixed" =some (.ref fM)) (GM:FnOk P w K mg base CX0 1 fM fdM ["factor","one","other_factor","other"] zBJ)
  (FP:Fun K "__init__" "Spent.__init__" (zw (top 24) 0) fP fdP) (bP:zL K fdP ["self","number","vector","reach"] []) (MP:Mk K CP fP) (mP:mg "Spent" =some (.ref CP)) (GP:FnOk P w K mg base CX0 1 fP fdP ["self","number","vector","reach"] (zDt CP)):FnOk P w K mg base CX0 36 f fd ["self","number","equation"] (zGd CS CP CL):=by
 refine F.ok zCz (fun vs H Q E h=>?_) (fun cdv A outer s H vs Q E hr h=>?_)
 ·obtain ⟨o,pl,q,j,n,m,V',E',st,rfl,_⟩:=h;rfl
 ·obtain ⟨o,pl,q,j,n,m,V',⟨e,c⟩,st,rfl,⟨dx,sl,fl,os,eo,hsl,hfl,epl,hos⟩,hq,ok,hV,q1,q2⟩:=h;have deep:DeepE (zAi CX0 P w K mg base ["self","number","equation","marks","found","reach","sums"] "Solution.take_in" (zF (zw (top 25) 1)) f cdv A outer s H E):=zAn hr (by decide) ht rfl rfl;have hr1:Room 1 _:=hr.mono (by decide);have hr2:Room 2 _:=hr.mono (by decide);have hr34:Room 34 _:=hr.mono (by decide);have hr35:Room 35 _:=hr;have le:e.length=n:=ok.e1;have lc:c.length=m:=ok.e2;have nn:=ok.nn;have mm:=ok.mm;have P':=zv (e:=e) ok.ech;refine ⟨_,QB.out (zE
   (yt 3 zCz.nd rfl (Or.inr rfl) (zI GK hr1 rfl mK FK.kp bK .nil zK (qc (zBa (K:=K) rfl (qw 2 rfl) zAj (zAk (zk (K:=K) rfl (qx 0 rfl) rfl))) zD rfl) rfl rfl rfl) rfl (.inl rfl)) (zE
   (yt 4 zCz.nd rfl (Or.inr rfl) (zI GQ hr35 rfl mQ FQ.kp bQ .nil zK (qc (zk (K:=K) rfl (qx 0 rfl) rfl) (qc (qx 3 rfl) zD rfl) rfl) rfl rfl rfl) rfl (.inl rfl)) (zE
   (yt 5 zCz.nd rfl (Or.inr rfl) (yL (K:=K) rfl (qx 4 rfl) zG (fun _ _=>rfl)) rfl (.inl rfl)) (zE
   (zAe yn 6 (by exact zCz.nd) rfl (Or.inl rfl) (.inr rfl) ["vector","own"] ["marks"] [3] rfl (zDV (K:=K) rfl rfl B.zip (qc (zk (K:=K) rfl (qx 0 rfl) rfl) (qc (zBa (K:=K) rfl (qw 2 rfl) (zAk (zk (K:=K) rfl (qx 0 rfl) rfl)) zAj) zD rfl) rfl) rfl rfl) rfl (by decide+kernel) rfl (by decide+kernel) (zN rfl yb) rfl (fr1 ⟨rfl,rfl,rfl,_,rfl,rfl⟩) (zO rfl) (fun _ _ _ _=>(zBC (K:=K) (n:=2) rfl rfl (yG (zJ 0 (show (["vector","own","marks"] :List Str).Nodup by decide+kernel) rfl (.inl rfl) (.inr rfl)) (yG (zJ 1 (show (["vector","own","marks"] :List Str).Nodup by decide+kernel) rfl (.inl rfl) (.inr rfl)) zBB rfl) rfl) rfl rfl)) (fun _ _ _ _=>zV) (fun C s₂ H₂ fp xe E hp=>(zAM (zI GR hr1 rfl mR FR.kp bR .nil zK (qc (qw 0 rfl) (qc (qx 2 rfl) zD rfl) rfl) rfl rfl rfl) (qw 1 rfl))) (fun _=>rfl) rfl) (zE
   (yX (zDd (yK (zIw (K:=K) rfl rfl) rfl B.any zNw (qc (zc ["own"] ["reach"] [5] rfl (zj (K:=K) rfl (qw 6 rfl)) rfl (by decide+kernel) rfl (by decide+kernel) (zN rfl yb) rfl (fr1 ⟨rfl,rfl,rfl,_,rfl,rfl⟩) (zO rfl) (fun _ _ _ _=>(zJ 0 (show (["own","reach"] :List Str).Nodup by decide+kernel) rfl (.inl rfl) (.inr rfl))) (fun _ _ _ _=>zV) (fun _ _ _ _=>(zFv zBF (zI GO hr1 rfl mO FO.kp bO .nil zK (qc (qw 0 rfl) (qc (qx 1 rfl) zD rfl) rfl) rfl rfl rfl) zG rfl)) (fun _=>rfl)) zD rfl) rfl) (fun _=>rfl)) (zM
    (ze (qx 5 rfl))) yV) (zE
   (yX (zl zAm (qx 5 rfl) zG rfl) (zE
    (zAw (K:=K) rfl (qx 0 rfl) (yL (K:=K) rfl (qx 4 rfl) zG (fun _ _=>rfl)) rfl) (zE
    (zAw (K:=K) rfl (qx 0 rfl) (zc ["vector","own"] ["self","found","reach"] [0,4,5] rfl (zDV (K:=K) rfl rfl B.zip (qc (zk (K:=K) rfl (qx 0 rfl) rfl) (qc (qw 6 rfl) zD rfl) rfl) rfl rfl) rfl (by decide+kernel) rfl (by decide+kernel) (zN rfl (zN rfl (zN rfl yb))) rfl (fr3 ⟨rfl,rfl,rfl,_,rfl,rfl⟩ ⟨rfl,rfl,rfl,_,rfl,rfl⟩ ⟨rfl,rfl,rfl,_,rfl,rfl⟩) (zO rfl) (fun _ _ _ _=>(zBC (K:=K) (n:=2) rfl rfl (yG (zJ 0 (show (["vector","own","self","found","reach"] :List Str).Nodup by decide+kernel) rfl (.inl rfl) (.inr rfl)) (yG (zJ 1 (show (["vector","own","self","found","reach"] :List Str).Nodup by decide+kernel) rfl (.inl rfl) (.inr rfl)) zBB rfl) rfl) rfl rfl)) (fun _ _ _ _=>zV) (fun _ _ _ _=>(zI GL hr34 rfl mL FL.kp bL .nil zK (qc (zI GM hr1 rfl mM FM.kp bM .nil zK (qc zG (qc (qw 0 rfl) (qc (zCB (yk (deep.up rfl rfl rfl) (qw 1 rfl) (qx 4 rfl))) (qc (yL (K:=K) rfl (qx 3 rfl) zG (fun _ _=>rfl)) zD rfl) rfl) rfl) rfl) rfl rfl rfl) (qc (zk (K:=K) rfl (qx 2 rfl) rfl) zD rfl) rfl) rfl rfl rfl)) (fun _=>rfl)) rfl) (zM
    (zBH (zEG (K:=K) rfl (zk (K:=K) rfl (qx 0 rfl) rfl) (zBq MP GP hr2 rfl mP bP .nil zK (qc (qw 1 rfl) (qc (yL (K:=K) rfl (qx 4 rfl) zG (fun _ _=>rfl)) (qc (qx 5 rfl) zD rfl) rfl) rfl) rfl rfl rfl) rfl rfl rfl) rfl)))) yV) (zM
   (ze zDc)))))))),?_⟩
  refine ⟨_,rfl,_,rfl,o,CL,dx,_,_,rfl,eo,T.cl,T.n1,rfl,_,rfl,q,_,rfl,SqL.of hq,fun p1 hp1=>?_⟩;rw [zFS (by simp;omega),List.take_left' le] at*;obtain ⟨H1,g1,s1,e1⟩:=zJt hp1 (.lst (e.map V.int));rw [g1];refine ⟨p1,e,rfl,e1,by omega,fun ml H2 s2 hml=>?_⟩;have s02:=s1.trans s2;refine ⟨_,rfl,o,CL,dx,_,_,rfl,s02 _ _ eo,T.cl,T.n2,rfl,_,rfl,sl,ml,st.steps,e,n,V',rfl,hsl.same s02,hml,ok.ech,le,by omega,ok.sl,ok.ok,hV,fun t H3 s3 ⟨kl,vv,et,hkl,hkk,hvv⟩=>?_⟩;have s03:=s02.trans s3;refine ⟨_,rfl,t,_,_,_,rfl,rfl,SqT.of et,rfl,?_⟩;generalize hpt:FrV.part e st.steps=pt at*;obtain ⟨k,vec,rc⟩:=pt;simp only at*;have r0:0<=rc:=P'.r0;obtain ⟨as,efl,has⟩:=hfl;have la:=Paired.len has;have lf:=ok.fl;have bo: ∀f'∈st.fixed,Bt (V'+V'+10) (dt (zA f') e):=fun f' hf=>zCc e _ 10 (by rw [le];omega) (ok.fn f' hf).2 ok.ok.eq;refine ⟨_,rfl,o,CL,dx,_,_,rfl,s03 _ _ eo,T.cl,T.n3,rfl,_,rfl,_,rfl,o,CL,dx,_,_,rfl,s03 _ _ eo,T.cl,T.n1,rfl,_,rfl,q,_,rfl,SqL.of (hq.same s03),fun p2 hp2=>?_⟩;rw [zFf (by simp;omega),List.drop_left' le] at*;obtain ⟨H4,g4,s4,e4⟩:=zJt hp2 (.lst (c.map V.int));rw [g4];have s04:=s03.trans s4;have hp2':LI H4 p2 c:=e4;refine ⟨fl,p2,rfl,⟨_,SqL.of (s04 _ _ efl)⟩,⟨_,SqL.of e4⟩,fun D hD=>?_⟩;have lsum:(yP e c st.fixed).length=m:=by simp [yP,lf,lc]
  have gsum: ∀i f',st.fixed[i]?=some f'->(yP e c st.fixed)[i]?=some (dt (zA f') e+zA c i):=fun i f' hf=>zBk (e:=e) (by omega) hf;refine zR m (fun i ys H'=>i<=m/\ys=((yP e c st.fixed).take i).map V.int/\zC H4 H'/\H' D=some (.lst ys)) ⟨zPk _,by simp,zC.upd hD,zB⟩ (by rw [zPg];omega) ?_ ?_ ?_
  ·rintro i ys H' hi ⟨_,rfl,s5,e5⟩;refine ⟨by simp;omega,e5,fun h=>⟨_,_,_,_,SqL.of (s5 _ _ (s04 _ _ efl)),SqL.of (hp2'.same s5),zPV (by simp;omega),zT (by omega)⟩,fun h=>⟨_,_,SqL.of (s5 _ _ (s04 _ _ efl)),SqL.of (hp2'.same s5),.inl (by simp;omega)⟩⟩
  ·rintro i ys H' x H'' hi ⟨_,rfl,s5,e5⟩ ⟨t2,x1,y1,hx,hy,ht2,rfl,rfl⟩ pre hpre;obtain ⟨p0,p1',rfl⟩:=zh hpre;have hx':=hx _ (SqL.of (s5 _ _ (s04 _ _ efl)));have hy':=hy _ (SqL.of (hp2'.same s5));have hia:i<as.length:=by omega
   rw [zPa,zPV hia] at hx';rw [zT (show i<c.length by omega)] at hy';cases hx';cases hy';obtain ⟨f',ef,hf⟩:=Paired.get' has (zPV hia);obtain ⟨lf',bf⟩:=ok.fn f' (zPz ef);have st2:=zC.upd ht2 (o:= .tup [.ref as[i],.int (zA c i)]);have s05:=(s04.trans s5).trans st2;refine ⟨t2,_,rfl,SqT.of zB,rfl,_,_,rfl,_,_,rfl,rfl,⟨[some (.ref as[i]),some (.int (zA c i))],rfl,rfl⟩,zp ?_⟩;refine ⟨_,rfl,_,rfl,as[i],ml,f',e,rfl,hf.same s05,hml.same (((s3.trans s4).trans s5).trans st2),by omega,by omega,bf.mono (by omega),ok.ok.eq.mono (by omega),fun H6 s6=>?_⟩;refine ⟨_,rfl,_,_,rfl,rfl,(st2.trans s6) _ _ e5,hi,?_,zC.store ((s5.trans st2).trans s6) hD,zB⟩;rw [zPs,gsum i f' ef];simp
  rintro ys H5 ⟨_,rfl,s5,e5⟩;rw [List.take_of_length_le (by omega)] at e5;have s05:=s04.trans s5;have hany:((yP e c st.fixed).map fun z=>!decide (V.int (FrV.lo z rc)=V.int 0)).any id=!zAx (e,c) st:=by
   unfold zAx;simp only [hpt]
   induction (yP e c st.fixed) with
   | nil=>rfl
   | cons z l ih=>
    rw [List.map_cons,List.any_cons,ih,List.all_cons,Bool.not_and];congr 1;by_cases h0:FrV.lo z rc=0
    ·simp [h0]
    ·simp [h0]
  refine ⟨_,rfl,D,rfl,⟨_,SqL.of e5⟩,fun D2 hD2=>?_⟩;refine zR m (fun i ys H'=>i<=m/\ys=(((yP e c st.fixed).take i).map fun z=>!decide (V.int (FrV.lo z rc)=V.int 0)).map V.bl/\H'=L2.upd H5 D2 (.lst ys)) ⟨zPk _,by simp,rfl⟩ (by rw [zPg];omega) ?_ ?_ ?_
  ·rintro i ys H' hi ⟨_,rfl,rfl⟩;have e6:=zC.upd hD2 (o:= .lst ((((yP e c st.fixed).take i).map fun z=>!decide (V.int (FrV.lo z rc)=V.int 0)).map V.bl)) _ _ e5;refine ⟨by simp;omega,zB,fun h=>⟨_,_,SqL.of e6,zPV (by simp;omega)⟩,fun h=>⟨_,SqL.of e6,by simp;omega⟩⟩
  ·rintro i ys H' x H'' hi ⟨_,rfl,rfl⟩ ⟨rfl,hx⟩ pre hpre;obtain ⟨p0,rfl⟩:=yQ hpre;have e6:=zC.upd hD2 (o:= .lst ((((yP e c st.fixed).take i).map fun z=>!decide (V.int (FrV.lo z rc)=V.int 0)).map V.bl)) _ _ e5;have hx':=hx _ (SqL.of e6);rw [zPa,zPV (show i<(yP e c st.fixed).length by omega)] at hx';cases hx';refine ⟨⟨[some (.int (yP e c st.fixed)[i])],rfl,rfl⟩,zp ?_⟩;refine ⟨_,rfl,_,rfl,_,_,rfl,r0,rfl,zB,hi,?_,by rw [zy]⟩;rw [zPs,zPV (show i<(yP e c st.fixed).length by omega),zPr,zPr];rfl
  rintro ys H6 ⟨_,rfl,rfl⟩;rw [List.take_of_length_le (show (yP e c st.fixed).length<=m by omega)];have sD2:=zC.upd hD2 (o:= .lst (((yP e c st.fixed).map fun z=>!decide (V.int (FrV.lo z rc)=V.int 0)).map V.bl));refine ⟨D2,_,rfl,SqL.of zB,_,rfl,?_⟩;rw [hany];generalize L2.upd H5 D2 (.lst (((yP e c st.fixed).map fun z=>!decide (V.int (FrV.lo z rc)=V.int 0)).map V.bl))=H6 at sD2⊢;have s06:=s05.trans sD2;cases hfit:zAx (e,c) st with
  | false=>exact zp ⟨_,rfl,q2 hfit _ s06⟩
  | true=>
  refine zBY ?_;refine ⟨_,rfl,_,_,rfl,rfl,_,rfl,?_⟩;refine yl (fun cc=>?_) (fun cc=>?_)
  ·have rp:0<rc:=by simpa using cc
   obtain ⟨va,rfl,hva⟩:=hvv rp;have lv:vec.length=n:=P'.len rp;have n1:1<=n:=by
    rcases Nat.eq_zero_or_pos n with z | z
    ·have ee:e= [] :=List.length_eq_zero_iff.mp (by omega);have:=P'.dtv rp;rw [ee] at this;simp [dt] at this;omega
    ·exact z
   have lne: ∀v:Vec,v.length=n->v≠ [] :=fun v hl z=>by rw [z] at hl;simp at hl;omega
   have kne: ∀q∈k,q.2≠ [] :=fun q hq=>lne _ (P'.ech.mem hq).1;have bk:=ok.ok.k _ List.suffix_rfl;have bvec:=ok.ok.v _ List.suffix_rfl;have brc:=ok.ok.r _ List.suffix_rfl;have lkk:=zCr (e:=e) st.steps;rw [hpt] at bk bvec brc lkk;simp only at bk bvec brc lkk;have lk12:k.length<=12:=zPj lkk ok.sl;obtain ⟨ks,ekl,hks⟩:=hkk;have s36:=(s4.trans s5).trans sD2;have eo6:=s06 _ _ eo;have et6:=s36 _ _ et;have epl6:=s06 _ _ epl;have ekl6:=s36 _ _ ekl;have hks6:=StA.same hks s36;have hva6:=hva.same s36;have hos6:=SpA.same hos s06;have efl6:=s06 _ _ efl;have has6:=LIs.same has s06;have e56:=sD2 _ _ e5;have klpl:kl≠pl:=fun z=>by rw [z,s02 _ _ epl] at hkl;cases hkl
   refine ⟨_,rfl,t,_,_,_,rfl,rfl,SqT.of et6,rfl,_,rfl,o,CL,dx,_,rfl,eo6,T.cl,T.n2,by show 4<1000;decide,?_⟩;have nO: ∀{a:Addr} {xs:List V},H6 a=some (.lst xs)->a≠o:=fun h z=>by rw [z,eo6] at h;cases h
   have b7:But [o,pl] H6 (L2.upd H6 o (.ins CL dx (yO "steps" (.ref kl) [("unknowns",.int (n:Int)),("steps",.ref sl),("fixed",.ref fl),("spent",.ref pl)]))):=zFJ (by simp);have eo7:(L2.upd H6 o (.ins CL dx (yO "steps" (.ref kl) [("unknowns",.int (n:Int)),("steps",.ref sl),("fixed",.ref fl),("spent",.ref pl)]))) o=some (.ins CL dx [("unknowns",.int (n:Int)),("steps",.ref kl),("fixed",.ref fl),("spent",.ref pl)]):=zB;have st7: ∀{a:Addr} {xs:List V},H6 a=some (.lst xs)->(L2.upd H6 o (.ins CL dx (yO "steps" (.ref kl) [("unknowns",.int (n:Int)),("steps",.ref sl),("fixed",.ref fl),("spent",.ref pl)]))) a=some (.lst xs):=fun h=>by rw [zH (nO h)];exact h
   have et7:(L2.upd H6 o (.ins CL dx (yO "steps" (.ref kl) [("unknowns",.int (n:Int)),("steps",.ref sl),("fixed",.ref fl),("spent",.ref pl)]))) t=_:=(zH fun z=>by rw [z,eo6] at et6;cases et6).trans et6;generalize L2.upd H6 o (.ins CL dx (yO "steps" (.ref kl) [("unknowns",.int (n:Int)),("steps",.ref sl),("fixed",.ref fl),("spent",.ref pl)]))=H7 at b7 eo7 st7 et7⊢;have ekl7:=st7 ekl6;have efl7:=st7 efl6;have e57:=st7 e56;have epl7:=st7 epl6;have hks7:=StA.but hks6 kne eo6 epl6 b7;have hva7:=LI.but hva6 (lne _ lv) eo6 epl6 b7;have hos7:=SpA.but hos6 (fun q hq=>lne _ (ok.pn q hq)) eo6 epl6 b7;have has7:=LIs.but has6 (fun q hq=>lne _ (ok.fn q hq).1) eo6 epl6 b7;refine ⟨_,rfl,o,CL,dx,_,_,rfl,eo7,T.cl,T.n3,rfl,_,rfl,fl,D,rfl,⟨_,SqL.of efl7⟩,⟨_,SqL.of e57⟩,fun D3 hD3=>?_⟩;have hnf: ∀i f',st.fixed[i]?=some f'->(List.zipWith (fun f own=>zU (zP 1 f (-(own/rc)) vec) k) st.fixed (yP e c st.fixed))[i]?=some (zU (zP 1 f' (-((dt (zA f') e+zA c i)/rc)) vec) k):=fun i f' hf=>by
    rw [List.getElem?_zipWith,hf,gsum i f' hf]
   have lnf:(List.zipWith (fun f own=>zU (zP 1 f (-(own/rc)) vec) k) st.fixed (yP e c st.fixed)).length=m:=by simp [lf,lsum]
   refine zR m (fun i ys H'=> ∃rs:List Addr,i<=m/\ys=rs.map V.ref/\LIs H' rs ((List.zipWith (fun f own=>zU (zP 1 f (-(own/rc)) vec) k) st.fixed (yP e c st.fixed)).take i)/\rs.length=i/\D3∉rs/\zC H7 H'/\H' D3=some (.lst ys)) ⟨[],zPk _,rfl,by rw [List.take_zero];exact .nil,rfl,by simp,zC.upd hD3,zB⟩ (by rw [zPg];omega) ?_ ?_ ?_
   ·rintro i ys H' hi ⟨rs,_,rfl,_,hrl,_,s8,e8⟩;refine ⟨by simp;omega,e8,fun h=>⟨_,_,_,_,SqL.of (s8 _ _ efl7),SqL.of (s8 _ _ e57),zPV (by simp;omega),zPV (by simp;omega)⟩,fun h=>⟨_,_,SqL.of (s8 _ _ efl7),SqL.of (s8 _ _ e57),.inl (by simp;omega)⟩⟩
   ·rintro i ys H' x H'' hi ⟨rs,_,rfl,hrs,hrl,hnd,s8,e8⟩ ⟨t2,x1,y1,hx,hy,ht2,rfl,rfl⟩ pre hpre;obtain ⟨p0,p1',rfl⟩:=zh hpre;have hx':=hx _ (SqL.of (s8 _ _ efl7));have hy':=hy _ (SqL.of (s8 _ _ e57));have hia:i<as.length:=by omega
    rw [zPa,zPV hia] at hx';cases hx';obtain ⟨f',ef,hf⟩:=Paired.get' has7 (zPV hia);rw [zPa,gsum i f' ef] at hy';cases hy';obtain ⟨lf',bf⟩:=ok.fn f' (zPz ef);have bz:Bt (2*V'+11) (dt (zA f') e+zA c i):=Bt.mono (Bt.add (bo f' (zPz ef)) ((ok.bc i).mono (show V'<=V'+V'+10 by omega))) (by omega);have bz2:Bt (2*V'+11) (-((dt (zA f') e+zA c i)/rc)):=(Bt.div bz rp).neg;have st2:=zC.upd ht2 (o:= .tup [.ref as[i],.int (dt (zA f') e+zA c i)]);have s79:=s8.trans st2;have hmx:=zEj (k:=0) (l:=0) (x:=1) (u:=f') (v:=vec) (by omega) (Bt.one (a:=2*V'+11)) bf bz2 bvec;refine ⟨t2,_,rfl,SqT.of zB,rfl,_,_,rfl,_,_,rfl,rfl,⟨[some (.ref as[i]),some (.int (dt (zA f') e+zA c i))],rfl,rfl⟩,zp ?_⟩;refine ⟨_,rfl,_,rfl,_,rfl,_,_,rfl,rfl,rp,_,rfl,_,rfl,t,_,_,_,rfl,rfl,SqT.of (s79 _ _ et7),rfl,1,_,as[i],va,f',vec,rfl,hf.same s79,hva7.same s79,by omega,by omega,Bt.one,bz2.mono (by omega),bf.mono (by omega),bvec.mono (by omega),fun ml2 H8 s8' _ hm8=>?_⟩;have s78:=s79.trans s8';refine ⟨_,rfl,o,CL,dx,_,_,rfl,s78 _ _ eo7,T.cl,T.n2,rfl,ml2,kl,_,k,n,2*V'+11+V'+1,V',rfl,hm8,⟨ks,s78 _ _ ekl7,StA.same hks7 s78⟩,zZ lf' lv,by omega,by omega,fun q hq=>let ⟨z1,z2,z3,_⟩:=P'.ech.mem hq;⟨z1,z2,z3,bk q hq⟩,hmx,by have:=Nat.mul_le_mul_right (V'+1) lk12;omega,fun ll H9 s9 _ hl9=>?_⟩;have s89:=(st2.trans s8').trans s9;have sll:zC H7 H9:=s78.trans s9;by_cases hDl:ll=D3
    ·exfalso;have z:=s89 _ _ e8;rw [<-hDl,hl9] at z;have l9:(zU (zP 1 f' (-((dt (zA f') e+zA c i)/rc)) vec) k).length=n:=zCs (zZ lf' lv) fun q hq=>(P'.ech.mem hq).1;generalize zU (zP 1 f' (-((dt (zA f') e+zA c i)/rc)) vec) k=L at l9 z;cases L with
     | nil=>simp at l9;omega
     | cons a L=>
      cases rs with
      | nil=>cases z
      | cons b rs=>cases z
    refine ⟨s89 _ _ e8,rs++ [ll],hi,by simp,?_,by simp [hrl],by simp [hnd,Ne.symm hDl],zC.store sll hD3,zB⟩;rw [zPs,hnf i f' ef];refine Paired.snoc' (Paired.mapM hrs fun a v hm ea=>?_) ?_
    ·show L2.upd _ D3 _ a=_;rw [zH fun z=>hnd (by rw [<-z];exact hm)];exact s89 _ _ ea
    ·show L2.upd _ D3 _ ll=_;rw [zH hDl];exact hl9
   rintro ys H8 ⟨rs,_,rfl,hrs,hrl,hnd,s8,e8⟩;rw [List.take_of_length_le (by omega)] at hrs;have eo8:=s8 _ _ eo7;have epl8:=s8 _ _ epl7;have D3pl:D3≠pl:=fun z=>by rw [z,epl7] at hD3;cases hD3
   refine ⟨_,rfl,o,CL,dx,_,rfl,eo8,T.cl,T.n3,by show 4<1000;decide,?_⟩;have nO8: ∀{a:Addr} {xs:List V},H8 a=some (.lst xs)->a≠o:=fun h z=>by rw [z,eo8] at h;cases h
   have b9:But [o,pl] H8 (L2.upd H8 o (.ins CL dx (yO "fixed" (.ref D3) [("unknowns",.int (n:Int)),("steps",.ref kl),("fixed",.ref fl),("spent",.ref pl)]))):=zFJ (by simp);have eo9:(L2.upd H8 o (.ins CL dx (yO "fixed" (.ref D3) [("unknowns",.int (n:Int)),("steps",.ref kl),("fixed",.ref fl),("spent",.ref pl)]))) o=some (.ins CL dx [("unknowns",.int (n:Int)),("steps",.ref kl),("fixed",.ref D3),("spent",.ref pl)]):=zB;have st9: ∀{a:Addr} {xs:List V},H8 a=some (.lst xs)->(L2.upd H8 o (.ins CL dx (yO "fixed" (.ref D3) [("unknowns",.int (n:Int)),("steps",.ref kl),("fixed",.ref fl),("spent",.ref pl)]))) a=some (.lst xs):=fun h=>by rw [zH (nO8 h)];exact h
   have et8:=s8 _ _ et7;have et9:(L2.upd H8 o (.ins CL dx (yO "fixed" (.ref D3) [("unknowns",.int (n:Int)),("steps",.ref kl),("fixed",.ref fl),("spent",.ref pl)]))) t=_:=(zH fun z=>by rw [z,eo8] at et8;cases et8).trans et8;generalize L2.upd H8 o (.ins CL dx (yO "fixed" (.ref D3) [("unknowns",.int (n:Int)),("steps",.ref kl),("fixed",.ref fl),("spent",.ref pl)]))=H9 at b9 eo9 st9 et9⊢;have hnl: ∀v∈List.zipWith (fun f own=>zU (zP 1 f (-(own/rc)) vec) k) st.fixed (yP e c st.fixed),v.length=n:=fun v hv=>by
    obtain ⟨i,hi⟩:=List.mem_iff_getElem?.mp hv;cases hf:st.fixed[i]? with
    | none=>simp [List.getElem?_zipWith,hf] at hi
    | some f'=>
     rw [hnf i f' hf] at hi;cases hi;exact zCs (zZ (ok.fn f' (zPz hf)).1 lv) fun q hq=>(P'.ech.mem hq).1
   have ekl9:=st9 (s8 _ _ ekl7);have epl9:=st9 epl8;have eD9:=st9 e8;have hks9:=StA.but (StA.same hks7 s8) kne eo8 epl8 b9;have hva9:=LI.but (hva7.same s8) (lne _ lv) eo8 epl8 b9;have hos9:=SpA.but (SpA.same hos7 s8) (fun q hq=>lne _ (ok.pn q hq)) eo8 epl8 b9;have hrs9:=LIs.but hrs (fun v hv=>lne _ (hnl v hv)) eo8 epl8 b9;refine ⟨_,rfl,o,CL,dx,_,_,rfl,eo9,T.cl,T.n4,rfl,.inl ⟨rfl,_,SqL.of epl9⟩,_,rfl,_,rfl,t,_,_,_,rfl,rfl,SqT.of et9,rfl,_,rfl,?_⟩;intro x dx2 hx9 hdx9 hne9;have sx:zC H9 (L2.upd (L2.upd (L2.upd H9 dx2 (.own x)) x (.ins CP dx2 [])) x (.ins CP dx2 [("number",.int (j:Int)),("vector",.ref va),("reach",.int rc)])):=zC.store (zC.store (zC.upd hdx9) hx9) hx9;have ex:(L2.upd (L2.upd (L2.upd H9 dx2 (.own x)) x (.ins CP dx2 [])) x (.ins CP dx2 [("number",.int (j:Int)),("vector",.ref va),("reach",.int rc)])) x=some (.ins CP dx2 [("number",.int (j:Int)),("vector",.ref va),("reach",.int rc)]):=zB;refine ⟨x,dx2,_,_,_,rfl,zB,rfl,?_⟩;generalize L2.upd (L2.upd (L2.upd H9 dx2 (.own x)) x (.ins CP dx2 [])) x (.ins CP dx2 [("number",.int (j:Int)),("vector",.ref va),("reach",.int rc)])=H10 at sx ex⊢;have epl10:=sx _ _ epl9;have eo10:=sx _ _ eo9;have lo':=Paired.len hos;have lpl:=ok.pl;refine ⟨pl,_,_,rfl,rfl,epl10,by rw [zPg];simp;omega,?_⟩;have b11:But [o,pl] H10 (L2.upd H10 pl (.lst (os.map V.ref++ [.ref x]))):=zFJ (by simp);have opl:o≠pl:=fun z=>by rw [z,epl] at eo;cases eo
   have eo11:(L2.upd H10 pl (.lst (os.map V.ref++ [.ref x]))) o=_:=(zH opl).trans eo10;have ekl11:(L2.upd H10 pl (.lst (os.map V.ref++ [.ref x]))) kl=_:=(zH klpl).trans (sx _ _ ekl9);have eD11:(L2.upd H10 pl (.lst (os.map V.ref++ [.ref x]))) D3=_:=(zH D3pl).trans (sx _ _ eD9);have ep11:(L2.upd H10 pl (.lst (os.map V.ref++ [.ref x]))) pl=some (.lst ((os++ [x]).map V.ref)):=by rw [zB,zPr];rfl
   have hks11:=StA.but (StA.same hks9 sx) kne eo10 epl10 b11;have hos11:=SpA.but (SpA.same hos9 sx) (fun q hq=>lne _ (ok.pn q hq)) eo10 epl10 b11;have hrs11:=LIs.but (LIs.same hrs9 sx) (fun v hv=>lne _ (hnl v hv)) eo10 epl10 b11;have hx11:SpO CP (L2.upd H10 pl (.lst (os.map V.ref++ [.ref x]))) x (j,vec,rc):=SpO.but (q:=(j,vec,rc)) ⟨dx2,va,ex,hva9.same sx⟩ (lne _ lv) eo10 epl10 b11;generalize L2.upd H10 pl (.lst (os.map V.ref++ [.ref x]))=H11 at b11 eo11 ekl11 eD11 ep11 hks11 hos11 hrs11 hx11⊢;refine q1 hfit _ ((((((zC.but s06 _).trans b7).trans (zC.but s8 _)).trans b9).trans (zC.but sx _)).trans b11) ?_;have etk:take j (e,c) st=⟨k,List.zipWith (fun f own=>zU (zP 1 f (-(own/rc)) vec) k) st.fixed (yP e c st.fixed),st.spent++ [(j,vec,rc)]⟩:=by
    unfold take;simp only [hpt];rw [if_neg (by omega)]
   rw [etk];exact ⟨dx,kl,D3,os++ [x],eo11,⟨ks,ekl11,hks11⟩,⟨rs,eD11,hrs11⟩,ep11,Paired.snoc' hos11 hx11⟩
  ·have rz:rc=0:=by
    have: ¬0<rc:=by simpa using cc
    omega
   refine q1 hfit _ (zC.but s06 _) ?_;have:take j (e,c) st=st:=by simp [take,hpt,rz]
   rw [this];exact SoO.same ⟨dx,sl,fl,os,eo,hsl,⟨as,efl,has⟩,epl,hos⟩ s06
end
end Fr
namespace FrV
def zBT(n:Nat)(q:Nat->Vec)(len:Nat)(j:Nat)(E:Eqn)(s:Stt):Cl:=s.spent.reverse.foldl (fun c s=>turn n q len s c) ⟨zS j len,q j,(part E.1 s.steps).2.2⟩
def yp(n:Nat)(q:Nat->Vec)(len:Nat):Nat->List Eqn->Stt->Stt ⊕(Vec×Int)
 | _,[],s=> .inl s
 | j,E::r,s=>if zAx E s=true then yp n q len (j+1) r (take j E s) else .inr (short (zBT n q len j E s).fac (zBT n q len j E s).mod)
theorem zDw{n len j:Nat}{q:Nat->Vec}{E:Eqn}{r:List Eqn}{s:Stt}(h:zAx E s=true):yp n q len j (E::r) s=yp n q len (j+1) r (take j E s):=by
 rw [yp,if_pos h]
theorem zEA{n len j:Nat}{q:Nat->Vec}{E:Eqn}{r:List Eqn}{s:Stt}(h:zAx E s=false):yp n q len j (E::r) s= .inr (short (zBT n q len j E s).fac (zBT n q len j E s).mod):=by
 rw [yp,if_neg (by rw [h];exact zPi)]
def whole(Es:List Eqn)(j:Nat):Vec:=((Es[j]?).map fun E=>E.1++E.2).getD []
theorem zAW{Es:List Eqn}{j:Nat}{E:Eqn}(h:Es[j]?=some E):whole Es j=E.1++E.2:=by simp [whole,h]
structure EqOk(n m b:Nat)(Es:List Eqn):Prop where
 l1: ∀E∈Es,E.1.length=n
 l2: ∀E∈Es,E.2.length=m
 b1: ∀E∈Es,Bts b E.1
 b2: ∀E∈Es,Bts b E.2
def VB6(b:Nat):Nat:=190*b+228
theorem zIW{n b:Nat}(h:n<=6):VV n 3 b<=VB6 b:=by
 have h1:ub n 3 b<=ub 6 3 b:=zBN (zPZ 3) h (zPZ b);have h2:ub 6 3 b=63*b+75:=by simp only [ub];omega
 unfold VV VB6;omega
theorem Sol.kern{n m b:Nat}{Es:List Eqn}{s:Stt}(I:Sol n m Es s)(ok:EqOk n m b Es):Kern n (Es.map (·.1)) b s.steps:=by
 refine ⟨I.ech,fun x=>(I.ker x).trans ?_,fun e he=>?_⟩
 ·constructor
  ·rintro ⟨a,c⟩;refine ⟨a,fun e he=>?_⟩;obtain ⟨E,hE,rfl⟩:=List.mem_map.mp he;exact c E hE
  ·rintro ⟨a,c⟩;exact ⟨a,fun E hE=>c E.1 (List.mem_map_of_mem hE)⟩
 ·obtain ⟨E,hE,rfl⟩:=List.mem_map.mp he;exact ⟨ok.l1 E hE,ok.b1 E hE⟩
theorem Sol.fixedB{n m b:Nat}{Es:List Eqn}{s:Stt}(I:Sol n m Es s)(ok:EqOk n m b Es)(hn:n<=6){f:Vec}(hf:f∈s.fixed):Bts (VB6 b) f:=by
 have Kn:=I.kern ok;obtain ⟨k,hk⟩:=List.mem_iff_getElem?.mp hf;have hl:=I.fn f hf;have g:=Kn.grow (l:=3) (by show n+1<=8;omega) (x:=zA f) (c:=fun e=> -(dt (zA f) e)) (z:=1) (B:=ub n 0 b) (fun i hi=>zi (by omega)) (fun e he=>by omega) (fun e he=>by
  obtain ⟨E,hE,rfl⟩:=List.mem_map.mp he;have:=I.fx k f hk E hE;have e2: -(dt (zA f) E.1)=zA E.2 k:=by omega
  show Bt b (-(dt (zA f) E.1));rw [e2];exact ok.b2 E hE k) Bt.one (fun r hr=>by
  have:=I.fr f hf r hr;exact zFt (Kn.pivot hr) (by omega) (by omega))
 have u0:ub n 0 b<=ub n 3 b:=zBN (zPk 3) (zPZ n) (zPZ b);have:=zIW (b:=b) hn;unfold VV at this;exact fun i=>(g i).mono (by omega)
structure Run(n m b:Nat)(Es:List Eqn)(j:Nat)(s:Stt):Prop where
 jl:j<=Es.length
 sol:Sol n m (Es.take j) s
 chn:Chn n (whole Es) s.spent.reverse (Sp s.steps)
 sp: ∀x∈s.spent,x.1<j/\0<x.2.2/\x.2.1.length=n/\Bts (VB6 b) x.2.1/\Bt (VB6 b) x.2.2
 sl:s.spent.length<=j
theorem Run.start(n m b:Nat)(Es:List Eqn):Run n m b Es 0 (yr n m):=⟨zPk _,zKg n m,zKP n m _,fun x hx=>(nomatch hx),zPZ _⟩
theorem EqOk.take{n m b:Nat}{Es:List Eqn}(ok:EqOk n m b Es)(j:Nat):EqOk n m b (Es.take j):=⟨fun E h=>ok.l1 E (List.mem_of_mem_take h),fun E h=>ok.l2 E (List.mem_of_mem_take h),fun E h=>ok.b1 E (List.mem_of_mem_take h),fun E h=>ok.b2 E (List.mem_of_mem_take h)⟩
theorem Run.partOk{n m b j:Nat}{Es:List Eqn}{s:Stt}{E:Eqn}(R:Run n m b Es j s)(ok:EqOk n m b Es)(hn:n<=6)(hE:E∈Es):PartOk (VB6 b) E.1 s.steps:=by
 have p:=zMN (l:=3) (R.sol.kern (ok.take j)) R.sol.red ⟨ok.l1 E hE,ok.b1 E hE⟩ (by show n+1<=8;omega);have v:=zIW (b:=b) hn;exact ⟨p.eq.mono v,fun q hq=>(p.s q hq).mono v,fun S' h q hq=>(p.k S' h q hq).mono v,fun S' h=>(p.v S' h).mono v,fun S' h=>(p.r S' h).mono v⟩
theorem Run.next{n m b j:Nat}{Es:List Eqn}{s:Stt}{E:Eqn}(R:Run n m b Es j s)(ok:EqOk n m b Es)(hn:n<=6)(hE:Es[j]?=some E)(hf:zAx E s=true):Run n m b Es (j+1) (take j E s):=by
 have hj:j<Es.length:=(List.getElem?_eq_some_iff.mp hE).1;have hm:=zPz hE;have et:Es.take (j+1)=Es.take j++ [E] :=by rw [zPs,hE];rfl
 have pk:=R.partOk ok hn hm;have P:=zv (e:=E.1) R.sol.ech;refine ⟨hj,by rw [et];exact zKy R.sol (ok.l2 E hm) hf,R.chn.take R.sol (by rw [zAW hE,<-ok.l1 E hm];simp),fun x hx=>?_,?_⟩
 ·unfold FrV.take at hx;simp only at hx;split at hx
  ·have:=R.sp x hx;exact ⟨by omega,this.2⟩
  ·rename_i h0
   rcases List.mem_append.mp hx with z | z
   ·have:=R.sp x z;exact ⟨by omega,this.2⟩
   ·rw [List.mem_singleton.mp z];have hr:0<(part E.1 s.steps).2.2:=by have:=P.r0;omega
    exact ⟨Nat.lt_succ_self j,hr,P.len hr,pk.v _ List.suffix_rfl,pk.r _ List.suffix_rfl⟩
 ·have:=R.sl;unfold FrV.take;simp only;split
  ·omega
  ·simp;omega
theorem zGE{n m b:Nat}{Es:List Eqn}(ok:EqOk n m b Es)(hn:n<=6): ∀(r:List Eqn) (j:Nat) (s:Stt),Run n m b Es j s->Es.drop j=r->
  match yp n (whole Es) Es.length j r s with
  | .inl s'=>Run n m b Es Es.length s'
  | .inr (f,d)=> ∃k,k<m/\Clash n k Es.length (whole Es) f d
 | [],j,s,R,h=>by
  have:j=Es.length:=by
   have:=List.drop_eq_nil_iff.mp h;have:=R.jl;omega
  rw [yp];simp only;rw [<-this];exact R
 | E::r,j,s,R,h=>by
  have hE:Es[j]?=some E:=by
   have:=congrArg (fun l=>l[0]?) h;simpa using this
  have hj:j<Es.length:=(List.getElem?_eq_some_iff.mp hE).1;have hm:=zPz hE;have hd:Es.drop (j+1)=r:=by
   rw [<-List.drop_drop,h];rfl
  cases hf:zAx E s with
  | true=>
   rw [zDw hf];exact zGE ok hn r (j+1) _ (R.next ok hn hE hf) hd
  | false=>
   rw [zEA hf];simp only;obtain ⟨k,F,hF,I⟩:=zDj (len:=Es.length) (q:=whole Es) (j:=j) R.sol (ok.l2 E hm) (ok.l1 E hm) (zAW hE) hj hf;have hkm:k<m:=by
    have:=(List.getElem?_eq_some_iff.mp hF).1;have:=R.sol.fl;omega
   obtain ⟨L',hL',I'⟩:=zFU (ss:=s.spent.reverse) R.chn I (fun x hx=>by
    obtain ⟨x1,_⟩:=R.sp x (List.mem_reverse.mp hx);have hx':x.1<Es.length:=by omega
    have eE:Es[x.1]?=some Es[x.1] :=zPV hx';have hEm:=zQA hx';refine ⟨hx',by rw [zAW eE];simp [ok.l1 _ hEm,ok.l2 _ hEm],?_⟩;have:=R.sol.fx k F hF Es[x.1] (by
     refine zPz (i:=x.1) ?_;rw [List.getElem?_take,if_pos x1,eE])
    rw [zAW eE];have t1:(Es[x.1].1++Es[x.1].2).take n=Es[x.1].1:=by rw [<-ok.l1 _ hEm];simp
    have t2:zA (Es[x.1].1++Es[x.1].2) (n+k)=zA Es[x.1].2 k:=by
     simp only [zA,List.getD_eq_getElem?_getD];rw [List.getElem?_append_right (by rw [ok.l1 _ hEm];omega)];congr 2;rw [ok.l1 _ hEm];omega
    rw [t1,t2];exact this)
   exact ⟨k,hkm,(Clash.of I' hL' (fun i hi=>zi (by rw [R.sol.fn F (zPz hF)];exact hi))).short.1⟩
structure ClB(M:Nat)(c:Cl):Prop where
 f:Bts M c.fac
 t:Bts M c.tot
 m:Bt M c.mod
 m0:0<=c.mod
theorem zOb{M:Nat}{z m:Int}(hz:Bt M z)(hm:0<=m):Bt M (lo z m)\/(0<m/\(lo z m).natAbs<=m.natAbs):=by
 unfold lo;split
 ·exact .inl hz
 ·have h1:=zPn z (b:=m) (by omega);have h2:=zPh z (b:=m) (by omega);exact .inr ⟨by omega,by omega⟩
theorem zCR{M:Nat}{z m:Int}(hz:Bt M z)(hm:0<=m)(bm:Bt M m):Bt M (lo z m):=by
 rcases zOb hz hm with h |⟨_,h⟩
 ·exact h
 ·exact bm.le h
end FrV
namespace Fr
open PySem PySem.Spec PyProof.Rows L2 FrM FrV
section
variable {P:Program}{w:World}{K:zQK}{mg:Str->Option Value}{base:Heap}
def zGn(CS CP CL:Addr):Sp:=fun vs H Q _=> ∃(o pl:Addr) (n:Nat) (st:Stt),vs= [.ref o] /\SoO CS CP CL H o pl n st/\n<=1000/\st.steps.length<=500/\st.fixed.length<=500/\(∀q∈st.steps,q.2.length=n)/\(∀f∈st.fixed,f.length=n)/\
 ∀r H',zC H H'->NewL H H' r->LL H' r (zt (st.steps.map (·.2)++st.fixed) n)->Q (.ref r) H'
theorem zNp:FnScope ["self"] ["self"] (zF (zw (top 25) 2)):=⟨rfl,rfl,rfl,by decide+kernel,rfl,by decide+kernel,by decide+kernel⟩
theorem zMT{f fW CS CP CL:Addr}{fd fdW:FuncData}(F:Fun K "rows_told" "Solution.rows_told" (zw (top 25) 2) f fd)(B:Bn mg)(T:LC K CL)(TS:SC K CS)
  (FW:Fun K "rows_of" "rows_of" zDh fW fdW) (bW:zL K fdW ["vectors","count"] []) (mW:mg "rows_of" =some (.ref fW)) (GW:FnOk P w K mg base CX0 1 fW fdW ["vectors","count"] zEZ):FnOk P w K mg base CX0 2 f fd ["self"] (zGn CS CP CL):=by
 refine F.ok zNp (fun vs H Q E h=>?_) (fun cdv A outer s H vs Q E hr h=>?_)
 ·obtain ⟨o,pl,n,st,rfl,_⟩:=h;rfl
 ·obtain ⟨o,pl,n,st,rfl,⟨dx,sl,fl,os,eo,⟨ss,esl,hss⟩,⟨as,efl,has⟩,epl,hos⟩,hn,l1,l2,n1,n2,q⟩:=h;have hr1:Room 1 _:=hr;have ls:=Paired.len hss;have la:=Paired.len has;refine ⟨_,QB.out (zM
   (ze (zI GW hr1 rfl mW FW.kp bW .nil zK (qc (zBG (zc (cl:= []) ["step"] [] [] rfl (zj (K:=K) rfl (zk (K:=K) rfl (qw 0 rfl) rfl)) rfl (by decide+kernel) rfl (by decide+kernel) (fun _ _ h=>nomatch h) rfl (fun j y i h=>nomatch h) (zO rfl) (fun _ _ _ _=>(zJ 0 (show (["step"] :List Str).Nodup by decide+kernel) rfl (.inl rfl) (.inr rfl))) (fun _ _ _ _=>zV) (fun _ _ _ _=>(zk (K:=K) rfl (qw 0 rfl) rfl)) (fun _=>rfl)) (zk (K:=K) rfl (qw 0 rfl) rfl)) (qc (zk (K:=K) rfl (qw 0 rfl) rfl) zD rfl) rfl) rfl rfl rfl))),?_⟩
  refine ⟨_,rfl,o,CL,dx,_,_,rfl,eo,T.cl,T.n2,rfl,sl,rfl,⟨_,SqL.of esl⟩,fun D hD=>?_⟩;refine zR ss.length (fun i ys H'=> ∃vs:List Addr,i<=ss.length/\ys=vs.map V.ref/\vs.length=i/\LIs H vs ((st.steps.map (·.2)).take i)/\H'=L2.upd H D (.lst ys)) ⟨[],zPk _,rfl,rfl,by rw [List.take_zero];exact .nil,rfl⟩ (by rw [zPg];omega) ?_ ?_ ?_
  ·rintro i ys H' hi ⟨vs,_,rfl,hl,_,rfl⟩;have e2:=zC.upd hD (o:= .lst (vs.map V.ref)) _ _ esl;exact ⟨by simp;omega,zB,fun h=>⟨_,_,SqL.of e2,zPV (by simpa using h)⟩,fun h=>⟨_,SqL.of e2,by simp;omega⟩⟩
  ·rintro i ys H' x H'' hi ⟨vs,_,rfl,hl,hvs,rfl⟩ ⟨rfl,hx⟩ pre hpre;obtain ⟨p0,rfl⟩:=yQ hpre;have e2:=zC.upd hD (o:= .lst (vs.map V.ref));have hx':=hx _ (SqL.of (e2 _ _ esl));rw [zPa,zPV hi] at hx';cases hx';obtain ⟨⟨p,u⟩,eS,⟨dx',a,ho,hu⟩⟩:=Paired.get' hss (zPV hi);refine ⟨⟨[some (.ref ss[i])],rfl,rfl⟩,zp ?_⟩;refine ⟨_,rfl,ss[i],CS,dx',_,_,rfl,e2 _ _ ho,TS.cl,TS.n2,rfl,zB,vs++ [a],hi,by simp,by simp [hl],?_,by rw [zy]⟩;rw [zPs,zPa,eS];exact Paired.snoc' hvs hu
  ·rintro ys H' ⟨vs,_,rfl,hl,hvs,rfl⟩;rw [List.take_of_length_le (by simp;omega)] at hvs;have sD:=zC.upd hD (o:= .lst (vs.map V.ref));have eD:(L2.upd H D (.lst (vs.map V.ref))) D=_:=zB;refine ⟨_,rfl,o,CL,dx,_,_,rfl,sD _ _ eo,T.cl,T.n3,rfl,D,fl,_,_,rfl,rfl,eD,sD _ _ efl,by rw [zPg];simp;omega,fun p hp=>?_⟩;have sp:=zC.upd hp (o:= .lst (vs.map V.ref++as.map V.ref));have s2:=sD.trans sp;refine ⟨_,rfl,o,CL,dx,_,_,rfl,s2 _ _ eo,T.cl,T.n1,rfl,p,_,n,rfl,⟨vs++as,by rw [zB,zPr],LIs.same (Paired.app hvs has) s2⟩,fun u hu=>?_,hn,by simp;omega,fun r H3 s3 hn3 h3=>q r H3 (s2.trans s3) (hn3.mono s2) h3⟩;rcases List.mem_append.mp hu with z | z
   ·obtain ⟨q',hq',rfl⟩:=List.mem_map.mp z;exact n1 q' hq'
   ·exact n2 u z
def zGF(CS CP CL:Addr):Sp:=fun vs H Q _=> ∃n m:Nat,vs= [.int (n:Int),.int (m:Int)] /\n<=1000/\m<=1000/\ ∀o pl H',zC H H'->H o=none->H pl=none->SoO CS CP CL H' o pl n (yr n m)->Q (.ref o) H'
theorem zJT:FnScope ["unknowns","names","steps"] ["unknowns","names"] (zF zEn):=⟨rfl,rfl,rfl,by decide+kernel,rfl,by decide+kernel,by decide+kernel⟩
theorem zMf(n:Nat):(List.replicate (n:Int).toNat [V.int 0]).flatten=(List.replicate n (0:Int)).map V.int:=by
 rw [Int.toNat_natCast]
 induction n with
 | zero=>rfl
 | succ n ih=>rw [List.replicate_succ,List.flatten_cons,ih,List.replicate_succ];rfl
theorem zMC{f fA fS fI CS CP CL:Addr}{fd fdA fdS fdI:FuncData}(F:Fun K "open_solution" "open_solution" zEn f fd)(B:Bn mg)(T:LC K CL)(TS:SC K CS)
  (FA:Fun K "one_at" "one_at" zFX fA fdA) (bA:zL K fdA ["place","length"] []) (mA:mg "one_at" =some (.ref fA)) (GA:FnOk P w K mg base CX0 1 fA fdA ["place","length"] zFo)
  (bS:zL K fdS ["self","place","vector"] []) (MS:Mk K CS fS) (mS:mg "Step" =some (.ref CS)) (GS:FnOk P w K mg base CX0 1 fS fdS ["self","place","vector"] (zBM CS))
  (bLs:zL K fdI ["self","unknowns","steps","fixed"] []) (MLs:Mk K CL fI) (mLs:mg "Solution" =some (.ref CL)) (GLs:FnOk P w K mg base CX0 1 fI fdI ["self","unknowns","steps","fixed"] (zGH CL)):FnOk P w K mg base CX0 3 f fd ["unknowns","names"] (zGF CS CP CL):=by
 refine F.ok zJT (fun vs H Q E h=>?_) (fun cdv A outer s H vs Q E hr h=>?_)
 ·obtain ⟨n,m,rfl,_⟩:=h;rfl
 ·obtain ⟨n,m,rfl,hn,hm,q⟩:=h;have hr1:Room 1 _:=hr.mono (by decide);have hr2:Room 2 _:=hr;refine ⟨_,QB.out (zE
   (zAe yn 2 (by exact zJT.nd) rfl (Or.inl rfl) (.inr rfl) ["place"] ["unknowns"] [0] rfl (yZ rfl B.range (qc (qx 0 rfl) zD rfl) rfl) rfl (by decide+kernel) rfl (by decide+kernel) (zN rfl yb) rfl (fr1 ⟨rfl,rfl,rfl,_,rfl,rfl⟩) (zO rfl) (fun _ _ _ _=>(zJ 0 (show (["place","unknowns"] :List Str).Nodup by decide+kernel) rfl (.inl rfl) (.inr rfl))) (fun _ _ _ _=>zV) (fun C s₂ H₂ fp xe E hp=>(zBq MS GS (hr2.mono (by decide)) rfl mS bS .nil zK (qc (qw 0 rfl) (qc (zI GA hr1 rfl mA FA.kp bA .nil zK (qc (qw 0 rfl) (qc (qx 1 rfl) zD rfl) rfl) rfl rfl rfl) zD rfl) rfl) rfl rfl rfl)) (fun _=>rfl) rfl) (zM
   (ze (zBq MLs GLs (hr2.mono (by decide)) rfl mLs bLs .nil zK (qc (qx 0 rfl) (qc (qw 2 rfl) (qc (zc ["name"] ["unknowns"] [0] rfl (yZ rfl B.range (qc (qw 1 rfl) zD rfl) rfl) rfl (by decide+kernel) rfl (by decide+kernel) (zN rfl yb) rfl (fr1 ⟨rfl,rfl,rfl,_,rfl,rfl⟩) (zO rfl) (fun _ _ _ _=>(zJ 0 (show (["name","unknowns"] :List Str).Nodup by decide+kernel) rfl (.inl rfl) (.inr rfl))) (fun _ _ _ _=>zV) (fun _ _ _ _=>(zOf (zAU (qc zG zD rfl)) (qx 1 rfl))) (fun _=>rfl)) zD rfl) rfl) rfl) rfl rfl rfl)))),?_⟩
  refine ⟨_,rfl,n,rfl,by omega,by omega,fun D hD=>?_⟩;refine zR n (fun i ys H'=> ∃os:List Addr,i<=n/\ys=os.map V.ref/\os.length=i/\StA CS H' os (((List.range n).map fun p=>(p,zS p n)).take i)/\zC H H'/\H' D=some (.lst ys)) ⟨[],zPk _,rfl,rfl,by rw [List.take_zero];exact .nil,zC.upd hD,zB⟩ (by rw [zPg];omega) ?_ ?_ ?_
  ·rintro i ys H' hi ⟨os,_,rfl,hl,_,s1,e1⟩;exact ⟨by simp;omega,e1,fun h=>h,fun h=>Nat.le_of_eq h.symm⟩
  ·rintro i ys H' x H'' hi ⟨os,_,rfl,hl,hos,s1,e1⟩ ⟨rfl,hx⟩ pre hpre;obtain ⟨p0,rfl⟩:=yQ hpre;rw [Int.zero_add] at hx;subst hx;refine ⟨⟨[some (.int (i:Int))],rfl,rfl⟩,zp ?_⟩;refine ⟨_,rfl,_,rfl,_,rfl,i,n,rfl,hn,fun l H2 s2 _ hl2=>?_⟩;intro x dx hx hdx hne;have sx:zC H2 (L2.upd (L2.upd (L2.upd H2 dx (.own x)) x (.ins CS dx [])) x (.ins CS dx [("place",.int (i:Int)),("vector",.ref l)])):=zC.store (zC.store (zC.upd hdx) hx) hx;have ex:(L2.upd (L2.upd (L2.upd H2 dx (.own x)) x (.ins CS dx [])) x (.ins CS dx [("place",.int (i:Int)),("vector",.ref l)])) x=some (.ins CS dx [("place",.int (i:Int)),("vector",.ref l)]):=zB;refine ⟨x,dx,_,_,rfl,zB,rfl,?_⟩;generalize L2.upd (L2.upd (L2.upd H2 dx (.own x)) x (.ins CS dx [])) x (.ins CS dx [("place",.int (i:Int)),("vector",.ref l)])=H3 at sx ex⊢;have s23:=s2.trans sx;have e3:=s23 _ _ e1;refine ⟨e3,os++ [x],hi,by simp,by simp [hl],?_,zC.store (s1.trans s23) hD,zB⟩;have hne: ∀p:Nat,zS p n≠ [] :=fun p z=>by have:=yN p n;rw [z] at this;simp at this;omega
   rw [zPs,show ((List.range n).map fun p=>(p,zS p n))[i]?=some (i,zS i n) by simp [hi]];refine Paired.snoc' (StA.store (StA.same hos s23) (fun q hq=>?_) e3) (StO.store (q:=(i,zS i n)) ⟨dx,l,ex,hl2.same sx⟩ (hne i) e3);obtain ⟨p,_,rfl⟩:=List.mem_map.mp (List.mem_of_mem_take hq);exact hne p
  rintro ys H1 ⟨os,_,rfl,hl,hos,s1,e1⟩;rw [List.take_of_length_le (by simp)] at hos;refine ⟨_,rfl,_,rfl,_,rfl,m,rfl,by omega,by omega,fun D2 hD2=>?_⟩;refine zR m (fun i ys H'=> ∃as:List Addr,i<=m/\ys=as.map V.ref/\as.length=i/\D2∉as/\LIs H' as (List.replicate i (List.replicate n 0))/\zC H1 H'/\H' D2=some (.lst ys)) ⟨[],zPk _,rfl,rfl,by simp,.nil,zC.upd hD2,zB⟩ (by rw [zPg];omega) ?_ ?_ ?_
  ·rintro i ys H' hi ⟨as,_,rfl,hl,_,_,s2,e2⟩;exact ⟨by simp;omega,e2,fun h=>h,fun h=>Nat.le_of_eq h.symm⟩
  ·rintro i ys H' x H'' hi ⟨as,_,rfl,hl,hnd,has,s2,e2⟩ ⟨rfl,hx⟩ pre hpre;obtain ⟨p0,rfl⟩:=yQ hpre;subst hx;refine ⟨⟨[some (.int ((0:Int)+(i:Int)))],rfl,rfl⟩,zp ?_⟩;refine ⟨bs 1,fun l hl'=>?_⟩;have sl:=zC.upd hl' (o:= .lst [.int 0]);refine ⟨_,rfl,l,_,_,rfl,rfl,zB,by omega,by omega,by rw [zPg];simp;omega,fun p hp=>?_⟩;rw [zMf];have sp:=sl.trans (zC.upd hp (o:= .lst ((List.replicate n (0:Int)).map V.int)));have hpD:p≠D2:=fun z=>by rw [z,sl _ _ e2] at hp;cases hp
   refine ⟨sp _ _ e2,as++ [p],hi,by simp,by simp [hl],by simp [hnd,Ne.symm hpD],?_,zC.store (s2.trans sp) hD2,zB⟩;rw [List.replicate_succ'];refine Paired.snoc' (Paired.mapM has fun a v hm ea=>?_) ?_
   ·show L2.upd _ D2 _ a=_;rw [zH fun z=>hnd (by rw [<-z];exact hm)];exact sp _ _ ea
   ·show L2.upd _ D2 _ p=_;rw [zH hpD];exact zB
  rintro ys H2 ⟨as,_,rfl,hl,_,has,s2,e2⟩;intro x dx hx hdx hne;have sx0:zC H2 (L2.upd (L2.upd H2 dx (.own x)) x (.ins CL dx [])):=zC.store (zC.upd hdx) hx;have ex0:(L2.upd (L2.upd H2 dx (.own x)) x (.ins CL dx [])) x=some (.ins CL dx []):=zB;refine ⟨x,dx,_,_,_,rfl,ex0,fun pl hpl=>⟨rfl,?_⟩⟩;have hpx:pl≠x:=fun z=>by rw [z,ex0] at hpl;cases hpl
  have hpl2:=zC.none sx0 hpl;have s3:zC H2 (L2.upd (L2.upd (L2.upd (L2.upd H2 dx (.own x)) x (.ins CL dx [])) pl (.lst [])) x (.ins CL dx [("unknowns",.int (n:Int)),("steps",.ref D),("fixed",.ref D2),("spent",.ref pl)])):=zC.store (sx0.trans (zC.upd hpl)) hx;have s13:=(s1.trans s2).trans s3;exact q x pl _ s13 (zC.none (s1.trans s2) hx) (zC.none (s1.trans s2) hpl2) ⟨dx,D,D2,[],zB,⟨os,(s2.trans s3) _ _ e1,StA.same hos (s2.trans s3)⟩,⟨as,s3 _ _ e2,LIs.same has s3⟩,by rw [zH hpx,zB];rfl,.nil⟩
def zGm:Sp:=fun vs H Q _=> ∃z m:Int,vs= [.int z,.int m] /\0<=m/\Bt 50000000 z/\Bt 50000000 m/\Q (.int (zAI z m)) H
theorem zIx:FnScope ["number","modulus","rest"] ["number","modulus"] (zF zEq):=⟨rfl,rfl,rfl,by decide+kernel,rfl,by decide+kernel,by decide+kernel⟩
theorem zME{f fO:Addr}{fd fdO:FuncData}(F:Fun K "nearest" "nearest" zEq f fd)(FO:Fun K "left_over" "left_over" zBx fO fdO)(bO:zL K fdO ["number","modulus"] [])(mO:mg "left_over" =some (.ref fO))(GO:FnOk P w K mg base CX0 1 fO fdO ["number","modulus"] zCP):FnOk P w K mg base CX0 2 f fd ["number","modulus"] zGm:=by
 refine F.ok zIx (fun vs H Q E h=>?_) (fun cdv A outer s H vs Q E hr h=>?_)
 ·obtain ⟨z,m,rfl,_⟩:=h;rfl
 ·obtain ⟨z,m,rfl,hm,bz,bm,q⟩:=h;have hr1:Room 1 _:=hr;have bl:=zCR bz hm bm;refine ⟨_,QB.out (zE
   (zW 2 zIx.nd rfl (zI GO hr1 rfl mO FO.kp bO .nil zK (qc (qw 0 rfl) (qc (qw 1 rfl) zD rfl) rfl) rfl rfl rfl) rfl) (zM
   (ze (zEP (t_w (zEa (zl zAm (qw 1 rfl) zG rfl) (zEW (zl zAm (zAP zG (qw 2 rfl)) (qw 1 rfl) rfl)))) (zBZ (qw 2 rfl) (qw 1 rfl)) (qw 2 rfl))))),?_⟩
  refine ⟨_,rfl,_,rfl,z,m,rfl,hm,?_⟩;refine ⟨_,rfl,_,_,rfl,rfl,_,rfl,?_⟩;unfold zAI at q;refine yl (fun c=>?_) (fun c=>?_)
  ·have c1:0<m:=by simpa using c
   refine ⟨_,rfl,_,_,rfl,rfl,⟨ya (Bt.one.add Bt.one:Bt 2 (1+1)) (by decide),ya bl (by decide)⟩,_,rfl,_,_,rfl,rfl,_,rfl,?_⟩;refine yl (fun c=>?_) (fun c=>?_)
   ·have c2:m<2*FrV.lo z m:=by simpa using c
    rw [if_pos ⟨c1,c2⟩] at q;exact ⟨_,rfl,_,rfl,_,_,rfl,rfl,q⟩
   ·have c2: ¬m<2*FrV.lo z m:=by simpa using c
    rw [if_neg (fun h=>c2 h.2)] at q;exact ⟨_,rfl,q⟩
  ·have c1: ¬0<m:=by simpa using c
   rw [if_neg (fun h=>c1 h.1)] at q;exact ⟨_,rfl,q⟩
end
section
variable {P:Program}{w:World}{K:zQK}{mg:Str->Option Value}{base:Heap}
def zFH:Sp:=fun vs H Q _=> ∃(p:Addr) (f:Vec) (m:Int),vs= [.ref p,.int m] /\LI H p f/\f.length<=1000/\0<=m/\0<f.foldl yu m/\Bts 50000000 f/\Bt 50000000 m/\ ∀t l H',zC H H'->H' t=some (.tup [.ref l,.int (short f m).2])->LI H' l (short f m).1->Q (.ref t) H'
theorem zCL:FnScope ["factors","modulus","divisor","factor","least"] ["factors","modulus"] (zF zCM):=⟨rfl,rfl,rfl,by decide+kernel,rfl,by decide+kernel,by decide+kernel⟩
theorem zKH{f fG fN:Addr}{fd fdG fdN:FuncData}(F:Fun K "shortened" "shortened" zCM f fd)(B:Bn mg)(ht:P.given.tree=none)
  (FG:Fun K "common_divisor" "common_divisor" zEz fG fdG) (bG:zL K fdG ["above","below"] []) (mG:mg "common_divisor" =some (.ref fG)) (GG:FnOk P w K mg base CX0 1 fG fdG ["above","below"] zFy)
  (FN:Fun K "nearest" "nearest" zEq fN fdN) (bN:zL K fdN ["number","modulus"] []) (mN:mg "nearest" =some (.ref fN)) (GN:FnOk P w K mg base CX0 2 fN fdN ["number","modulus"] zGm):FnOk P w K mg base CX0 34 f fd ["factors","modulus"] zFH:=by
 refine F.ok zCL (fun vs H Q E h=>?_) (fun cdv A outer s H vs Q E hr h=>?_)
 ·obtain ⟨p,f,m,rfl,_⟩:=h;rfl
 ·obtain ⟨p,f',m,rfl,hp,hn,hm,hd,bf,bm,q⟩:=h;have deep:DeepE (zAi CX0 P w K mg base ["factors","modulus","divisor","factor","least"] "shortened" (zF zCM) f cdv A outer s H E):=zAn hr (by decide) ht rfl rfl;have hr1:Room 1 _:=hr.mono (by decide);have hr2:Room 2 _:=hr.mono (by decide);refine ⟨_,QB.out (zE
   (yt 2 zCL.nd rfl (Or.inr rfl) (qw 1 rfl) rfl (.inl rfl)) (zE
   (zAF PassesOwn.never rfl (zj (K:=K) rfl (qw 0 rfl)) (zJ 3 zCL.nd rfl (Or.inl rfl) (.inr rfl)) (zM
    (yX (zl zBF (qw 3 rfl) zG rfl) (zM
     (yt 2 zCL.nd rfl (Or.inr rfl) (zEP (zl zAz (qx 2 rfl) zG rfl) (yK zGe rfl B.abs zJR (qc (qw 3 rfl) zD rfl) rfl) (zI GG hr1 rfl mG FG.kp bG .nil zK (qc (qw 3 rfl) (qc (qx 2 rfl) zD rfl) rfl) rfl rfl rfl)) rfl (.inl rfl))) yV)) (fun _=>rfl)) (zE
   (yt 4 zCL.nd rfl (Or.inr rfl) (yk (deep.up rfl rfl rfl) (qw 1 rfl) (qx 2 rfl)) rfl (.inl rfl)) (zM
   (ze (zBw (qc (zc ["factor"] ["divisor","least"] [2,4] rfl (zj (K:=K) rfl (qw 0 rfl)) rfl (by decide+kernel) rfl (by decide+kernel) (zN rfl (zN rfl yb)) rfl (fr2 ⟨rfl,rfl,rfl,_,rfl,rfl⟩ ⟨rfl,rfl,rfl,_,rfl,rfl⟩) (zO rfl) (fun _ _ _ _=>(zJ 0 (show (["factor","divisor","least"] :List Str).Nodup by decide+kernel) rfl (.inl rfl) (.inr rfl))) (fun _ _ _ _=>zV) (fun _ _ _ _=>(zI GN hr2 rfl mN FN.kp bN .nil zK (qc (yk (deep.up rfl rfl rfl) (qw 0 rfl) (qx 1 rfl)) (qc (qx 2 rfl) zD rfl) rfl) rfl rfl rfl)) (fun _=>rfl)) (qc (qx 4 rfl) zD rfl) rfl))))))),?_⟩
  refine ⟨_,rfl,_,rfl,p,rfl,⟨_,SqL.of hp⟩,?_⟩;refine yj f'.length (fun i σ H'=> ∃s3:Option V,σ= [some (.ref p),some (.int m),some (.int ((f'.take i).foldl yu m)),s3,none] /\i<=f'.length/\H'=H) ⟨none,rfl,zPk _,rfl⟩ ?_ ?_ ?_ ?_
  ·rintro i σ H' hi ⟨s3,rfl,_,rfl⟩;exact ⟨_,_,SqL.of hp,zT hi⟩
  ·rintro σ H' ⟨s3,rfl,_,rfl⟩;exact ⟨_,SqL.of hp,by simp⟩
  ·rintro i σ H' x H'' hi ⟨s3,rfl,_,rfl⟩ ⟨rfl,hx⟩;have hx':=hx _ (SqL.of hp);rw [zT hi] at hx';cases hx';have ed:(f'.take (i+1)).foldl yu m=yu ((f'.take i).foldl yu m) (zA f' i):=by rw [zDb hi,List.foldl_append];rfl
   have d0:0<=(f'.take i).foldl yu m:=(zFL (f'.take i) hm).1;generalize (f'.take i).foldl yu m=d at ed d0⊢;refine ⟨_,rfl,rfl,_,rfl,?_⟩;rw [show yu d (zA f' i)=(if zA f' i=0 then d else if d=0 then ((zA f' i).natAbs:Int) else (Int.gcd (zA f' i) d:Int)) from rfl] at ed;refine yl (fun c=>?_) (fun c=>?_)
   ·have c0:zA f' i≠0:=by simpa using c
    rw [if_neg c0] at ed;refine ⟨_,rfl,rfl,_,rfl,?_⟩;refine yl (fun c=>?_) (fun c=>?_)
    ·have c1:d=0:=by simpa using c
     rw [if_pos c1] at ed;refine ⟨_,rfl,_,rfl,⟨some (.int (zA f' i)),?_,hi,rfl⟩⟩;rw [ed];have:(if zA f' i<0 then -(zA f' i) else zA f' i)=((zA f' i).natAbs:Int):=by split<;>omega
     rw [<-this];rfl
    ·have c1:d≠0:=by simpa using c
     rw [if_neg c1] at ed;refine ⟨_,rfl,_,rfl,_,_,rfl,by omega,⟨some (.int (zA f' i)),?_,hi,rfl⟩⟩;rw [ed];rfl
   ·have c0:zA f' i=0:=by simpa using c
    rw [if_pos c0] at ed;refine ⟨some (.int (zA f' i)),?_,hi,rfl⟩;rw [ed];rfl
  rintro σ H' ⟨s3,rfl,_,rfl⟩;rw [zPu];have e1:(short f' m).2=m/f'.foldl yu m:=rfl;have e2:(short f' m).1=f'.map fun x=>zAI (x/f'.foldl yu m) (m/f'.foldl yu m):=rfl;rw [e1,e2] at q;generalize f'.foldl yu m=d at hd q⊢;have hm2:0<=m/d:=Int.ediv_nonneg hm (Int.le_of_lt hd);have bm2:=Bt.div bm hd;refine ⟨_,rfl,_,rfl,_,_,rfl,rfl,hd,?_⟩;refine ⟨_,rfl,p,rfl,⟨_,SqL.of hp⟩,fun D hD=>?_⟩;refine zR f'.length (fun i ys H2=>i<=f'.length/\ys=((f'.map fun x=>zAI (x/d) (m/d)).take i).map V.int/\H2=L2.upd H' D (.lst ys)) ⟨zPk _,by simp,rfl⟩ (by rw [zPg];omega) ?_ ?_ ?_
  ·rintro i ys H2 hi ⟨_,rfl,rfl⟩;have e2:=hp.same (zC.upd hD (o:= .lst (((f'.map fun x=>zAI (x/d) (m/d)).take i).map V.int)));exact ⟨by simp;omega,zB,fun h=>⟨_,_,SqL.of e2,zT h⟩,fun h=>⟨_,SqL.of e2,by simp;omega⟩⟩
  ·rintro i ys H2 x H3 hi ⟨_,rfl,rfl⟩ ⟨rfl,hx⟩ pre hpre;obtain ⟨p0,rfl⟩:=yQ hpre;have hx':=hx _ (SqL.of (hp.same (zC.upd hD (o:= .lst (((f'.map fun x=>zAI (x/d) (m/d)).take i).map V.int)))));rw [zT hi] at hx';cases hx';refine ⟨⟨[some (.int (zA f' i))],rfl,rfl⟩,zp ?_⟩;refine ⟨_,rfl,_,rfl,_,_,rfl,rfl,hd,_,rfl,_,_,rfl,hm2,Bt.div (bf i) hd,bm2,zB,hi,?_,by rw [zy]⟩;rw [zPs,zPa,zAl hi];simp
  ·rintro ys H2 ⟨_,rfl,rfl⟩;rw [List.take_of_length_le (by simp)];have sD:=zC.upd hD (o:= .lst ((f'.map fun x=>zAI (x/d) (m/d)).map V.int));refine ⟨_,rfl,by show 2<=sizeLine;decide,fun t ht=>?_⟩;have st:=zC.upd ht (o:= .tup [.ref D,.int (m/d)]);exact q t D _ (sD.trans st) zB (st _ _ zB)
theorem zMx{n m len M V':Nat}{q:Nat->Vec}{s:Spt}{c:Cl}(h:ClB M c)(lf:c.fac.length=len)(lt:c.tot.length=n+m)(hn:n<=12)(hq:(q s.1).length=n+m)(bq:Bts V' (q s.1))(hr:0<s.2.2)(bv:Bts V' s.2.1)(br:Bt V' s.2.2)(hM:V'<=M):
  ClB (M+3*V'+6) (turn n q len s c)/\(turn n q len s c).fac.length=len/\(turn n q len s c).tot.length=n+m:=by
 have bown:Bt (M+V'+4) (FrV.lo (dt (zA s.2.1) (c.tot.take n)) c.mod):=by
  refine zCR ?_ h.m0 (h.m.mono (by omega));have:=zCc (a:=V') (b:=M) (c.tot.take n) (zA s.2.1) 4 (by simp;omega) bv (fun i=>by
   rw [zBd];split
   ·exact h.t i
   ·exact Bt.zero)
  exact this.mono (by omega)
 have hg:0<(Int.gcd (FrV.lo (dt (zA s.2.1) (c.tot.take n)) c.mod) s.2.2:Int):=by
  have:=Int.gcd_pos_of_ne_zero_right (FrV.lo (dt (zA s.2.1) (c.tot.take n)) c.mod) (show s.2.2≠0 by omega);omega
 have hgd:(Int.gcd (FrV.lo (dt (zA s.2.1) (c.tot.take n)) c.mod) s.2.2:Int)∣s.2.2:=Int.gcd_dvd_right _ _;unfold turn;simp only;generalize FrV.lo (dt (zA s.2.1) (c.tot.take n)) c.mod=own at*;have bs':Bt V' (s.2.2/(Int.gcd own s.2.2:Int)):=Bt.div br hg;have s0:0<=s.2.2/(Int.gcd own s.2.2:Int):=Int.ediv_nonneg (Int.le_of_lt hr) (Int.le_of_lt hg);generalize s.2.2/(Int.gcd own s.2.2:Int)=scale at*;have bt:Bt (M+2*V'+4) (-(own*scale/s.2.2)):=(Bt.div ((bown.mul bs').mono (by omega)) hr).neg;have b0:0<=c.mod*scale:=Int.mul_nonneg h.m0 s0;have bm:Bt (M+3*V'+6) (c.mod*scale):=(h.m.mul bs').mono (by omega);refine ⟨⟨fun i=>?_,fun i=>?_,bm,b0⟩,by rw [zAp,zZ lf (yN _ _)],by rw [zAp,zZ lt hq]⟩
 ·rw [zBn,yJ (by rw [lf,yN])];refine zCR (Bt.mono (Bt.add (a:=M+2*V'+5) ((bs'.mul (h.f i)).mono (by omega)) ?_) (by omega)) b0 bm;rw [yd];split
  ·rw [Int.mul_one];exact bt.mono (by omega)
  ·rw [Int.mul_zero];exact Bt.zero
 ·rw [zBn,yJ (by rw [lt,hq])];exact zCR (Bt.mono (Bt.add (a:=M+3*V'+5) ((bs'.mul (h.t i)).mono (by omega)) ((bt.mul (bq i)).mono (by omega))) (by omega)) b0 bm
theorem zHr{n m len V':Nat}{q:Nat->Vec}(hn:n<=12): ∀(ss:List Spt) (M:Nat) (c:Cl),ClB M c->c.fac.length=len->c.tot.length=n+m->V'<=M->(∀s∈ss,(q s.1).length=n+m/\Bts V' (q s.1)/\0<s.2.2/\Bts V' s.2.1/\Bt V' s.2.2)->
  ClB (M+ss.length*(3*V'+6)) (ss.foldl (fun c s=>turn n q len s c) c)/\(ss.foldl (fun c s=>turn n q len s c) c).fac.length=len/\(ss.foldl (fun c s=>turn n q len s c) c).tot.length=n+m
 | [],M,c,h,lf,lt,_,_=>⟨by simpa using h,lf,lt⟩
 | s::ss,M,c,h,lf,lt,hM,hs=>by
  obtain ⟨h1,h2,h3,h4,h5⟩:=hs s (by simp);obtain ⟨t1,t2,t3⟩:=zMx (m:=m) h lf lt hn h1 h2 h3 h4 h5 hM;obtain ⟨r1,r2,r3⟩:=zHr hn ss (M+3*V'+6) (turn n q len s c) t1 t2 t3 (by omega) fun s' hs'=>hs s' (by simp [hs']);rw [List.foldl_cons];refine ⟨?_,r2,r3⟩;have:M+(s::ss).length*(3*V'+6)=M+3*V'+6+ss.length*(3*V'+6):=by rw [List.length_cons,Nat.succ_mul];omega
  rw [this];exact r1
end
section
variable {P:Program}{w:World}{K:zQK}{mg:Str->Option Value}{base:Heap}
abbrev zf(Es:List Eqn):List Vec:=Es.map fun E=>E.1++E.2
theorem zFl{Es:List Eqn}{j:Nat}(h:j<Es.length):(zf Es)[j]?=some (whole Es j):=by
 rw [zPa,zPV h,zAW (zPV h)];rfl
structure CkOk(n m V':Nat)(Es:List Eqn)(st:Stt):Prop where
 nn:n<=12
 mm:m<=500
 le:Es.length<=500
 w: ∀j,j<Es.length->(whole Es j).length=n+m/\Bts V' (whole Es j)
 sp: ∀x∈st.spent,x.1<Es.length/\0<x.2.2/\x.2.1.length=n/\Bts V' x.2.1/\Bt V' x.2.2
 sl:st.spent.length<=12
def zFB(CS CP CL:Addr):Sp:=fun vs H Q _=> ∃(o pl l:Addr) (j n m V':Nat) (r:Int) (Es:List Eqn) (st:Stt),vs= [.ref o,.ref l,.int (j:Int),.int r] /\SoO CS CP CL H o pl n st/\LL H l (zf Es)/\j<Es.length/\CkOk n m V' Es st/\V'<=1000000/\0<=r/\Bt V' r/\
 ∀t fl H',zC H H'->H' t=some (.tup [.ref fl,.int (st.spent.reverse.foldl (fun c s=>turn n (whole Es) Es.length s c) ⟨zS j Es.length,whole Es j,r⟩).mod])->LI H' fl (st.spent.reverse.foldl (fun c s=>turn n (whole Es) Es.length s c) ⟨zS j Es.length,whole Es j,r⟩).fac->
  ClB 40000000 (st.spent.reverse.foldl (fun c s=>turn n (whole Es) Es.length s c) ⟨zS j Es.length,whole Es j,r⟩)->Q (.ref t) H'
theorem zAE:FnScope ["solution","equations","number","reach","factors","total","modulus","spent","own","scale","times"] ["solution","equations","number","reach"] (zF zCa):=⟨rfl,rfl,rfl,by decide+kernel,rfl,by decide+kernel,by decide+kernel⟩
theorem zJw{f fA fO fR fK fG fT fM CS CP CL:Addr}{fd fdA fdO fdR fdK fdG fdT fdM:FuncData}(F:Fun K "clash_of" "clash_of" zCa f fd)(B:Bn mg)(ht:P.given.tree=none)(T:LC K CL)(TP:PC K CP)
  (FA:Fun K "one_at" "one_at" zFX fA fdA) (bA:zL K fdA ["place","length"] []) (mA:mg "one_at" =some (.ref fA)) (GA:FnOk P w K mg base CX0 1 fA fdA ["place","length"] zFo)
  (FO:Fun K "left_over" "left_over" zBx fO fdO) (bO:zL K fdO ["number","modulus"] []) (mO:mg "left_over" =some (.ref fO)) (GO:FnOk P w K mg base CX0 1 fO fdO ["number","modulus"] zCP)
  (FR:Fun K "reach_of" "reach_of" zBt fR fdR) (bR:zL K fdR ["vector","marks"] []) (mR:mg "reach_of" =some (.ref fR)) (GR:FnOk P w K mg base CX0 1 fR fdR ["vector","marks"] zCQ)
  (FK:Fun K "marks_of" "marks_of" zCT fK fdK) (bK:zL K fdK ["vector"] []) (mK:mg "marks_of" =some (.ref fK)) (GK:FnOk P w K mg base CX0 1 fK fdK ["vector"] zDZ)
  (FG:Fun K "common_divisor" "common_divisor" zEz fG fdG) (bG:zL K fdG ["above","below"] []) (mG:mg "common_divisor" =some (.ref fG)) (GG:FnOk P w K mg base CX0 1 fG fdG ["above","below"] zFy)
  (FT:Fun K "all_left_over" "all_left_over" zDH fT fdT) (bT:zL K fdT ["vector","modulus"] []) (mT:mg "all_left_over" =some (.ref fT)) (GT:FnOk P w K mg base CX0 2 fT fdT ["vector","modulus"] zFQ)
  (FM:Fun K "mixed" "mixed" zBD fM fdM) (bM:zL K fdM ["factor","one","other_factor","other"] []) (mM:mg "mixed" =some (.ref fM)) (GM:FnOk P w K mg base CX0 1 fM fdM ["factor","one","other_factor","other"] zBJ):FnOk P w K mg base CX0 34 f fd ["solution","equations","number","reach"] (zFB CS CP CL):=by
 refine F.ok zAE (fun vs H Q E h=>?_) (fun cdv A outer s H vs Q E hr h=>?_)
 ·obtain ⟨o,pl,l,j,n,m,V',r,Es,st,rfl,_⟩:=h;rfl
 ·obtain ⟨o,pl,l,j,n,m,V',r,Es,st,rfl,⟨dx,sl,fl,os,eo,hsl,hfl,epl,hos⟩,⟨as,el,has⟩,hj,ok,hV,r0,br,q⟩:=h;have deep:DeepE (zAi CX0 P w K mg base ["solution","equations","number","reach","factors","total","modulus","spent","own","scale","times"] "clash_of" (zF zCa) f cdv A outer s H E):=zAn hr (by decide) ht rfl rfl;have hr1:Room 1 _:=hr.mono (by decide);have hr2:Room 2 _:=hr.mono (by decide);have nn:=ok.nn;have mm:=ok.mm;have lE:=ok.le;have sl12:=ok.sl;have la:as.length=Es.length:=by have:=Paired.len has;simpa using this
  have lo':=Paired.len hos;refine ⟨_,QB.out (zE
   (zW 4 zAE.nd rfl (zI GA hr1 rfl mA FA.kp bA .nil zK (qc (qw 2 rfl) (qc (yK (yH (K:=K) rfl) rfl B.len yo (qc (qw 1 rfl) zD rfl) rfl) zD rfl) rfl) rfl rfl rfl) rfl) (zE
   (zW 5 zAE.nd rfl (yA (K:=K) rfl (qw 1 rfl) (qw 2 rfl) (fun _ _=>rfl)) rfl) (zE
   (zW 6 zAE.nd rfl (qw 3 rfl) rfl) (zE
   (zAF PassesOwn.never rfl (zIn (K:=K) rfl rfl B.reversed (qc (zk (K:=K) rfl (qw 0 rfl) rfl) zD rfl) rfl) (zJ 7 zAE.nd rfl (Or.inl rfl) (.inr rfl)) (zE
    (zW 8 zAE.nd rfl (zI GO hr1 rfl mO FO.kp bO .nil zK (qc (zI GR hr1 rfl mR FR.kp bR .nil zK (qc (zk (K:=K) rfl (qw 7 rfl) rfl) (qc (zI GK hr1 rfl mK FK.kp bK .nil zK (qc (zBa (K:=K) rfl (qw 5 rfl) zAj (zAk (zk (K:=K) rfl (qw 0 rfl) rfl))) zD rfl) rfl rfl rfl) zD rfl) rfl) rfl rfl rfl) (qc (qw 6 rfl) zD rfl) rfl) rfl rfl rfl) rfl) (zE
    (zW 9 zAE.nd rfl (yk (deep.up rfl rfl rfl) (zk (K:=K) rfl (qw 7 rfl) rfl) (zI GG hr1 rfl mG FG.kp bG .nil zK (qc (qw 8 rfl) (qc (zk (K:=K) rfl (qw 7 rfl) rfl) zD rfl) rfl) rfl rfl rfl)) rfl) (zE
    (zW 10 zAE.nd rfl (yk (deep.up rfl rfl rfl) (zAP (qw 8 rfl) (qw 9 rfl)) (zk (K:=K) rfl (qw 7 rfl) rfl)) rfl) (zE
    (zW 6 zAE.nd rfl (zAP (qw 6 rfl) (qw 9 rfl)) rfl) (zE
    (zW 5 zAE.nd rfl (zI GT hr2 rfl mT FT.kp bT .nil zK (qc (zI GM hr1 rfl mM FM.kp bM .nil zK (qc (qw 9 rfl) (qc (qw 5 rfl) (qc (zCB (qw 10 rfl)) (qc (yA (K:=K) rfl (qw 1 rfl) (zk (K:=K) rfl (qw 7 rfl) rfl) (fun _ _=>rfl)) zD rfl) rfl) rfl) rfl) rfl rfl rfl) (qc (qw 6 rfl) zD rfl) rfl) rfl rfl rfl) rfl) (zM
    (zW 4 zAE.nd rfl (zI GT hr2 rfl mT FT.kp bT .nil zK (qc (zI GM hr1 rfl mM FM.kp bM .nil zK (qc (qw 9 rfl) (qc (qw 4 rfl) (qc (zCB (qw 10 rfl)) (qc (zI GA hr1 rfl mA FA.kp bA .nil zK (qc (zk (K:=K) rfl (qw 7 rfl) rfl) (qc (yK (yH (K:=K) rfl) rfl B.len yo (qc (qw 1 rfl) zD rfl) rfl) zD rfl) rfl) rfl rfl rfl) zD rfl) rfl) rfl) rfl) rfl rfl rfl) (qc (qw 6 rfl) zD rfl) rfl) rfl rfl rfl) rfl))))))) (fun _=>rfl)) (zM
   (ze (zBw (qc (qw 4 rfl) (qc (qw 6 rfl) zD rfl) rfl)))))))),?_⟩
  refine ⟨_,rfl,_,rfl,l,_,rfl,.inl (SqL.of el),j,Es.length,by rw [zPc,la];rfl,by omega,fun fa H1 s1 _ hfa=>?_⟩;obtain ⟨wj,ewj,hwj⟩:=Paired.getR has (zFl hj);refine ⟨_,rfl,_,rfl,l,_,_,_,rfl,rfl,SqL.of (s1 _ _ el),zn (by rw [zPa,ewj];rfl),?_⟩;refine ⟨_,rfl,?_⟩;refine ⟨_,rfl,o,CL,dx,_,_,rfl,s1 _ _ eo,T.cl,T.n4,rfl,pl,_,rfl,SqL.of (s1 _ _ epl),?_⟩;have hlen:(os.map V.ref).length=st.spent.length:=by simp;omega
  rw [hlen];have c0:ClB V' ⟨zS j Es.length,whole Es j,r⟩:=⟨fun i=>by
   show Bt V' (zA (zS j Es.length) i);rw [yd];split
   ·exact Bt.one
   ·exact Bt.zero,(ok.w j hj).2,br,r0⟩
  have hss: ∀s∈st.spent.reverse,(whole Es s.1).length=n+m/\Bts V' (whole Es s.1)/\0<s.2.2/\Bts V' s.2.1/\Bt V' s.2.2:=fun s hs=>by
   obtain ⟨z1,z2,z3,z4,z5⟩:=ok.sp s (List.mem_reverse.mp hs);exact ⟨(ok.w _ z1).1,(ok.w _ z1).2,z2,z4,z5⟩
  have bnd: ∀i,i<=12->V'+i*(3*V'+6)<=38000000:=fun i hi=>by
   have:=Nat.mul_le_mul_right (3*V'+6) hi;omega
  have turnsI: ∀i,i<=st.spent.length->ClB 38000000 ((st.spent.reverse.take i).foldl (fun c s=>turn n (whole Es) Es.length s c) ⟨zS j Es.length,whole Es j,r⟩)/\((st.spent.reverse.take i).foldl (fun c s=>turn n (whole Es) Es.length s c) ⟨zS j Es.length,whole Es j,r⟩).fac.length=Es.length/\((st.spent.reverse.take i).foldl (fun c s=>turn n (whole Es) Es.length s c) ⟨zS j Es.length,whole Es j,r⟩).tot.length=n+m:=fun i hi=>by
   obtain ⟨t1,t2,t3⟩:=zHr (m:=m) (V':=V') (len:=Es.length) (q:=whole Es) nn (st.spent.reverse.take i) V' ⟨zS j Es.length,whole Es j,r⟩ c0 (yN _ _) (ok.w j hj).1 (zPZ _) (fun s hs=>hss s (List.mem_of_mem_take hs));have b:=bnd (st.spent.reverse.take i).length (by simp;omega);exact ⟨⟨t1.f.mono b,t1.t.mono b,t1.m.mono b,t1.m0⟩,t2,t3⟩
  refine yj st.spent.length (fun i σ H'=> ∃(c:Cl) (fa ta:Addr) (s7 s8 s9 s10:Option V),c=(st.spent.reverse.take i).foldl (fun c s=>turn n (whole Es) Es.length s c) ⟨zS j Es.length,whole Es j,r⟩/\σ= [some (.ref o),some (.ref l),some (.int (j:Int)),some (.int r),some (.ref fa),some (.ref ta),some (.int c.mod),s7,s8,s9,s10] /\i<=st.spent.length/\zC H H'/\LI H' fa c.fac/\LI H' ta c.tot) ⟨_,fa,wj,none,none,none,none,rfl,rfl,zPk _,s1,hfa,hwj.same s1⟩ ?_ ?_ ?_ ?_
  ·rintro i σ H' hi ⟨c,fa,ta,s7,s8,s9,s10,hc,rfl,_,s2,hf,htt⟩;exact ⟨hi,_,_,SqL.of (s2 _ _ epl),zPV (by simp;omega)⟩
  ·rintro σ H' _;exact zPZ _
  ·rintro i σ H' x H'' hi ⟨c,fa,ta,s7,s8,s9,s10,hc,rfl,_,s2,hf,htt⟩ ⟨rfl,hx⟩;have hx':=hx _ (SqL.of (s2 _ _ epl));have hjo:st.spent.length - 1 - i<os.length:=by omega
   rw [zPa,zPV hjo] at hx';cases hx';obtain ⟨⟨js,vec,rs⟩,eS,hso⟩:=Paired.get' hos (zPV hjo);obtain ⟨dx',va,eso,hva⟩:=hso;obtain ⟨z1,z2,z3,z4,z5⟩:=ok.sp (js,vec,rs) (zPz eS);simp only at z1 z2 z3 z4 z5;have eR:st.spent.reverse[i]?=some (js,vec,rs):=by rw [List.getElem?_reverse (by omega)];exact eS
   have eT:(st.spent.reverse.take (i+1)).foldl (fun c s=>turn n (whole Es) Es.length s c) ⟨zS j Es.length,whole Es j,r⟩=turn n (whole Es) Es.length (js,vec,rs) c:=by
    rw [zPs,eR,List.foldl_append,<-hc];rfl
   obtain ⟨tb,tf,tt⟩:=turnsI i (by omega);obtain ⟨tb',_⟩:=turnsI (i+1) hi;rw [<-hc] at tb tf tt;rw [eT] at tb';obtain ⟨ws,ews,hws⟩:=Paired.getR has (zFl z1);obtain ⟨wl,wb⟩:=ok.w js z1;have eo2:=s2 _ _ eo;have eso2:=s2 _ _ eso;refine ⟨_,rfl,os[st.spent.length - 1 - i],CP,dx',_,_,rfl,eso2,TP.cl,TP.n2,rfl,_,rfl,_,rfl,o,CL,dx,_,_,rfl,eo2,T.cl,T.n1,rfl,_,rfl,ta,_,rfl,SqL.of htt,fun p1 hp1=>?_⟩;rw [zFS (by omega)] at*;obtain ⟨H3,g3,s3,e3⟩:=zJt hp1 (.lst ((c.tot.take n).map V.int));rw [g3];refine ⟨p1,c.tot.take n,rfl,e3,by simp;omega,fun mk H4 s4 hmk=>?_⟩;have s34:=s3.trans s4;have btk:Bts 38000000 (c.tot.take n):=fun i=>by
    rw [zBd];split
    ·exact tb.t i
    ·exact Bt.zero
   refine ⟨va,mk,vec,c.tot.take n,rfl,(hva.same s2).same s34,hmk,by simp;omega,by omega,z4.mono (by omega),btk.mono (by omega),fun H5 s5=>?_⟩;have s35:=s34.trans s5;refine ⟨_,rfl,_,_,rfl,tb.m0,?_⟩;have etr:turn n (whole Es) Es.length (js,vec,rs) c=⟨los (zP (rs/(Int.gcd (FrV.lo (dt (zA vec) (c.tot.take n)) c.mod) rs:Int)) c.fac (-(FrV.lo (dt (zA vec) (c.tot.take n)) c.mod*(rs/(Int.gcd (FrV.lo (dt (zA vec) (c.tot.take n)) c.mod) rs:Int))/rs)) (zS js Es.length)) (c.mod*(rs/(Int.gcd (FrV.lo (dt (zA vec) (c.tot.take n)) c.mod) rs:Int))),los (zP (rs/(Int.gcd (FrV.lo (dt (zA vec) (c.tot.take n)) c.mod) rs:Int)) c.tot (-(FrV.lo (dt (zA vec) (c.tot.take n)) c.mod*(rs/(Int.gcd (FrV.lo (dt (zA vec) (c.tot.take n)) c.mod) rs:Int))/rs)) (whole Es js)) (c.mod*(rs/(Int.gcd (FrV.lo (dt (zA vec) (c.tot.take n)) c.mod) rs:Int))),c.mod*(rs/(Int.gcd (FrV.lo (dt (zA vec) (c.tot.take n)) c.mod) rs:Int))⟩:=rfl;have bown:Bt 40000000 (FrV.lo (dt (zA vec) (c.tot.take n)) c.mod):=by
    refine zCR ?_ tb.m0 (tb.m.mono (by omega));exact (zCc (c.tot.take n) (zA vec) 4 (by simp;omega) z4 btk).mono (by omega)
   generalize FrV.lo (dt (zA vec) (c.tot.take n)) c.mod=own at etr bown⊢;have hg:0<(Int.gcd own rs:Int):=by
    have:=Int.gcd_pos_of_ne_zero_right own (show rs≠0 by omega);omega
   have bsc:Bt V' (rs/(Int.gcd own rs:Int)):=Bt.div z5 hg;have sc0:0<=rs/(Int.gcd own rs:Int):=Int.ediv_nonneg (Int.le_of_lt z2) (Int.le_of_lt hg);have s25:=s2.trans s35;refine ⟨_,rfl,os[st.spent.length - 1 - i],CP,dx',_,_,rfl,s35 _ _ eso2,TP.cl,TP.n3,rfl,_,rfl,_,rfl,os[st.spent.length - 1 - i],CP,dx',_,_,rfl,s35 _ _ eso2,TP.cl,TP.n3,rfl,_,_,rfl,z2,_,_,rfl,rfl,hg,?_⟩;generalize rs/(Int.gcd own rs:Int)=scale at etr bsc sc0⊢;refine ⟨_,rfl,_,rfl,_,_,rfl,rfl,⟨ya bown (by decide),ya (b:=V') bsc (by omega)⟩,_,rfl,os[st.spent.length - 1 - i],CP,dx',_,_,rfl,s35 _ _ eso2,TP.cl,TP.n3,rfl,_,_,rfl,rfl,z2,?_⟩;have bti:Bt 41000000 (-(own*scale/rs)):=(Bt.div ((bown.mul bsc).mono (by omega)) z2).neg;refine ⟨_,rfl,_,rfl,_,_,rfl,rfl,⟨ya tb.m (by decide),ya (b:=V') bsc (by omega)⟩,?_⟩;have m0:0<=c.mod*scale:=Int.mul_nonneg tb.m0 sc0;refine ⟨_,rfl,_,rfl,_,rfl,_,rfl,_,rfl,_,rfl,os[st.spent.length - 1 - i],CP,dx',_,_,rfl,s35 _ _ eso2,TP.cl,TP.n1,rfl,l,_,_,_,rfl,rfl,SqL.of (s25 _ _ el),zn (by rw [zPa,ews];rfl),scale,-(own*scale/rs),ta,ws,c.tot,whole Es js,rfl,htt.same s35,hws.same s25,by omega,by omega,bsc.mono (by omega),bti.mono (by omega),tb.t.mono (by omega),wb.mono (by omega),fun mt H6 s6 _ hmt=>?_⟩;refine ⟨_,rfl,mt,_,_,rfl,hmt,by rw [zZ tt wl];omega,m0,fun nt H7 s7 _ hnt=>?_⟩;have s27:=(s25.trans s6).trans s7;have s57:=s6.trans s7;refine ⟨_,rfl,_,rfl,_,rfl,_,rfl,_,rfl,os[st.spent.length - 1 - i],CP,dx',_,_,rfl,(s35.trans s57) _ _ eso2,TP.cl,TP.n1,rfl,_,rfl,l,_,rfl,.inl (SqL.of (s27 _ _ el)),js,Es.length,by rw [zPc,la];rfl,by omega,fun oa H8 s8 _ hoa=>?_⟩;refine ⟨scale,-(own*scale/rs),fa,oa,c.fac,zS js Es.length,rfl,(hf.same (s35.trans s57)).same s8,hoa,by rw [tf,yN],by omega,bsc.mono (by omega),bti.mono (by omega),tb.f.mono (by omega),fun i=>?_,fun mf H9 s9 _ hmf=>?_⟩
   ·rw [yd];split
    ·exact Bt.one
    ·exact Bt.zero
   refine ⟨_,rfl,mf,_,_,rfl,hmf,by rw [zZ tf (yN _ _)];omega,m0,fun nf H10 s10 _ hnf=>?_⟩;have s710:=(s8.trans s9).trans s10;refine ⟨_,nf,nt,_,_,_,_,eT.symm,by rw [etr];rfl,hi,s27.trans s710,by rw [etr];exact hnf,by rw [etr];exact hnt.same s710⟩
  ·rintro σ H' ⟨c,fa,ta,s7,s8,s9,s10,hc,rfl,_,s2,hf,htt⟩;rw [List.take_of_length_le (by simp)] at hc;obtain ⟨tb,_⟩:=turnsI st.spent.length (zPZ _);rw [List.take_of_length_le (by simp)] at tb;refine ⟨_,rfl,_,rfl,by show 2<=sizeLine;decide,fun t ht=>?_⟩;have stt:=zC.upd ht (o:= .tup [.ref fa,.int c.mod]);refine q t fa _ (s2.trans stt) (by rw [<-hc];exact zB) (by rw [<-hc];exact hf.same stt) ⟨tb.f.mono (by decide),tb.t.mono (by decide),tb.m.mono (by decide),tb.m0⟩
end
section
variable {P:Program}{w:World}{K:zQK}{mg:Str->Option Value}{base:Heap}
structure SvOk(n m b:Nat)(Es:List Eqn):Prop where
 ok:EqOk n m b Es
 nn:n<=6
 mm:m<=100
 le:Es.length<=12
 bb:b<=5000
theorem zMd{M:Nat}{z l:Int}(hz:Bt M z)(hl:Bt M l)(l0:0<=l):Bt M (zAI z l):=by
 have h:=zCR hz l0 hl;unfold zAI;split
 ·rename_i c
  have h1:=zPn z (b:=l) (by omega);have h2:=zPh z (b:=l) (by omega);have e:FrV.lo z l=z % l:=by unfold FrV.lo;rw [if_neg (by omega)]
  rw [e];exact hl.le (by omega)
 ·exact h
theorem zKJ{M:Nat}{f:Vec}{m:Int}(hf:Bts M f)(hm:Bt M m)(m0:0<=m)(hd:0<f.foldl yu m):Bts M (short f m).1:=fun i=>by
 rw [show (short f m).1=f.map fun x=>zAI (x/f.foldl yu m) (m/f.foldl yu m) from rfl];show Bt M (((f.map fun x=>zAI (x/f.foldl yu m) (m/f.foldl yu m))[i]?).getD 0);rw [zPa];cases e:f[i]? with
 | none=>exact zPk _
 | some x=>
  have hx:Bt M x:=by have:=hf i;simpa [zA,e] using this
  exact zMd (Bt.div hx hd) (Bt.div hm hd) (Int.ediv_nonneg m0 (Int.le_of_lt hd))
def zAu(H:Hp)(Q:VK)(n m:Nat)(Es:List Eqn):Prop:=match yp n (whole Es) Es.length 0 Es (yr n m) with
 | .inl st=> ∀t r H',zC H H'->H' t=some (.tup [.str "solved",.int (st.steps.length:Int),.ref r])->NewL H H' r->LL H' r (zt (st.steps.map (·.2)++st.fixed) n)->Q (.ref t) H'
 | .inr (f,d)=> ∀t fl H',zC H H'->H' t=some (.tup [.str "clash",.ref fl,.int d])->LI H' fl f->Bts 50000000 f->Q (.ref t) H'
def zFx:Sp:=fun vs H Q _=> ∃(l:Addr) (n m b:Nat) (Es:List Eqn),vs= [.int (n:Int),.int (m:Int),.ref l] /\LL H l (zf Es)/\SvOk n m b Es/\zAu H Q n m Es
theorem zCj:FnScope ["unknowns","names","equations","solution","number","equation","reach","found","short"] ["unknowns","names","equations"] (zF zFW):=⟨rfl,rfl,rfl,by decide+kernel,rfl,by decide+kernel,by decide+kernel⟩
theorem zFD{b:Nat}{u v:Vec}(h1:Bts b u)(h2:Bts b v):Bts b (u++v):=fun i=>by
 by_cases h:i<u.length
 ·have:zA (u++v) i=zA u i:=by simp [zA,List.getElem?_append_left h]
  rw [this];exact h1 i
 ·have:zA (u++v) i=zA v (i - u.length):=by simp [zA,List.getElem?_append_right (show u.length<=i by omega)]
  rw [this];exact h2 _
theorem zHo{n:Nat}: ∀{S:List Stp} {a:Nat},Ech n S->(∀q∈S,a<=q.1)->S.length+a<=n\/S= []
 | [],_,_,_=> .inr rfl
 |(p,v)::S,a,⟨h1,h2,h3,h4,h5,h6⟩,ha=>by
  have hp:=ha (p,v) (by simp);simp only at hp;rcases zHo (a:=p+1) h6 (fun q hq=>h5 q hq) with h | h
  ·exact .inl (by simp only [List.length_cons];omega)
  ·subst h;exact .inl (by simp;omega)
theorem zDR{n:Nat}{S:List Stp}(h:Ech n S):S.length<=n:=by
 rcases zHo (a:=0) h (fun _ _=>zPk _) with h | h
 ·omega
 ·rw [h];exact zPk _
theorem zMv{f fU fC fH fT fW CS CP CL:Addr}{fd fdU fdC fdH fdT fdW:FuncData}(F:Fun K "solution_of" "solution_of" zFW f fd)(B:Bn mg)(T:LC K CL)
  (FU:Fun K "open_solution" "open_solution" zEn fU fdU) (bU:zL K fdU ["unknowns","names"] []) (mU:mg "open_solution" =some (.ref fU)) (GU:FnOk P w K mg base CX0 3 fU fdU ["unknowns","names"] (zGF CS CP CL))
  (FC:Fun K "clash_of" "clash_of" zCa fC fdC) (bC:zL K fdC ["solution","equations","number","reach"] []) (mC:mg "clash_of" =some (.ref fC)) (GC:FnOk P w K mg base CX0 34 fC fdC ["solution","equations","number","reach"] (zFB CS CP CL))
  (FH:Fun K "shortened" "shortened" zCM fH fdH) (bH:zL K fdH ["factors","modulus"] []) (mH:mg "shortened" =some (.ref fH)) (GH:FnOk P w K mg base CX0 34 fH fdH ["factors","modulus"] zFH)
  (mtT:Meth K CL "take_in" fT) (bT:zL K fdT ["self","number","equation"] []) (GT:FnOk P w K mg base CX0 36 fT fdT ["self","number","equation"] (zGd CS CP CL))
  (mtW:Meth K CL "rows_told" fW) (bW:zL K fdW ["self"] []) (GW:FnOk P w K mg base CX0 2 fW fdW ["self"] (zGn CS CP CL)):FnOk P w K mg base CX0 37 f fd ["unknowns","names","equations"] zFx:=by
 have cl:=T.cl;refine F.ok zCj (fun vs H Q E h=>?_) (fun cdv A outer s H vs Q E hr h=>?_)
 ·obtain ⟨l,n,m,b,Es,rfl,_⟩:=h;rfl
 ·obtain ⟨l,n,m,b,Es,rfl,⟨as,el,has⟩,ok,q⟩:=h;have hr2:Room 2 _:=hr.mono (by decide);have hr3:Room 3 _:=hr.mono (by decide);have hr34:Room 34 _:=hr.mono (by decide);have hr36:Room 36 _:=hr;have la:as.length=Es.length:=by have:=Paired.len has;simpa using this
  have nn:=ok.nn;have mm:=ok.mm;have lE:=ok.le;have bb:=ok.bb;have eo:=ok.ok;have hV:VB6 b<=1000000:=by unfold VB6;omega
  have hbV:b<=VB6 b:=by unfold VB6;omega
  refine ⟨_,QB.out (zE
   (zW 3 zCj.nd rfl (zI GU hr3 rfl mU FU.kp bU .nil zK (qc (qw 0 rfl) (qc (qw 1 rfl) zD rfl) rfl) rfl rfl rfl) rfl) (zE
   (zAF PassesOwn.never rfl (zGt (K:=K) rfl rfl B.enumerate (qc (qw 2 rfl) zD rfl) rfl) (zBC (K:=K) (n:=2) rfl rfl (yG (zJ 4 zCj.nd rfl (Or.inl rfl) (.inr rfl)) (yG (zJ 5 zCj.nd rfl (Or.inl rfl) (.inr rfl)) zBB rfl) rfl) rfl rfl) (zE
    (zW 6 zCj.nd rfl (zNx (qw 3 rfl) cl mtT GT hr36 bT .nil zK (qc (qw 4 rfl) (qc (qw 5 rfl) zD rfl) rfl) rfl rfl rfl) rfl) (zM
    (yX (zGJ (qw 6 rfl) rfl) (zE
     (zW 7 zCj.nd rfl (zI GC hr34 rfl mC FC.kp bC .nil zK (qc (qw 3 rfl) (qc (qw 2 rfl) (qc (qw 4 rfl) (qc (qw 6 rfl) zD rfl) rfl) rfl) rfl) rfl rfl rfl) rfl) (zE
     (zW 8 zCj.nd rfl (zI GH hr34 rfl mH FH.kp bH .nil zK (qc (yL (K:=K) rfl (qw 7 rfl) zG (fun _ _=>rfl)) (qc (yL (K:=K) rfl (qw 7 rfl) zG (fun _ _=>rfl)) zD rfl) rfl) rfl rfl rfl) rfl) (zM
     (ze (zBw (qc zEO (qc (yL (K:=K) rfl (qw 8 rfl) zG (fun _ _=>rfl)) (qc (yL (K:=K) rfl (qw 8 rfl) zG (fun _ _=>rfl)) zD rfl) rfl) rfl)))))) yV))) (fun _=>rfl)) (zM
   (ze (zBw (qc zEO (qc (yK (yH (K:=K) rfl) rfl B.len yo (qc (zk (K:=K) rfl (qw 3 rfl) rfl) zD rfl) rfl) (qc (zLb (qw 3 rfl) cl mtW GW hr2 bW .nil zK rfl) zD rfl) rfl) rfl)))))),?_⟩
  refine ⟨_,rfl,_,rfl,n,m,rfl,by omega,by omega,fun o pl H1 s1 ho hpl hso=>?_⟩;refine ⟨_,rfl,l,rfl,⟨_,SqL.of (s1 _ _ el)⟩,?_⟩;refine yj Es.length (fun i σ H'=> ∃(st:Stt) (s4 s5 s6 s7 s8:Option V),σ= [some (.int (n:Int)),some (.int (m:Int)),some (.ref l),some (.ref o),s4,s5,s6,s7,s8] /\zC H H'/\SoO CS CP CL H' o pl n st/\Run n m b Es i st/\yp n (whole Es) Es.length 0 Es (yr n m)=yp n (whole Es) Es.length i (Es.drop i) st) ⟨_,none,none,none,none,none,rfl,s1,hso,Run.start n m b Es,rfl⟩ ?_ ?_ ?_ ?_
  ·rintro i σ H' hi ⟨st,s4,s5,s6,s7,s8,rfl,s2,hs,hR,hrun⟩;exact ⟨_,_,SqL.of (s2 _ _ el),zPV (by simp;omega)⟩
  ·rintro σ H' ⟨st,s4,s5,s6,s7,s8,rfl,s2,hs,hR,hrun⟩;exact ⟨_,SqL.of (s2 _ _ el),by simp;omega⟩
  ·rintro i σ H' x H'' hi ⟨st,s4,s5,s6,s7,s8,rfl,s2,hs,hR,hrun⟩ ⟨t,y,hy,ht,rfl,rfl⟩;have hy':=hy _ (SqL.of (s2 _ _ el));have hia:i<as.length:=by omega
   rw [zPa,zPV hia] at hy';cases hy';obtain ⟨wv,ew,hw⟩:=Paired.get' has (zPV hia);have hE:Es[i]?=some Es[i] :=zPV hi;have hEm:Es[i] ∈Es:=zQA hi;rw [zPa,hE] at ew;cases ew;have st2:=zC.upd ht (o:= .tup [.int (i:Int),.ref as[i]]);have s3:=s2.trans st2;have pk:=hR.partOk eo nn hEm;have tk:TkOk n m (VB6 b) Es[i] st:=⟨eo.l1 _ hEm,eo.l2 _ hEm,by omega,by omega,hR.sol.ech,zPj (zDR hR.sol.ech) (by omega),hR.sol.fl,fun f' hf=>⟨hR.sol.fn f' hf,hR.sol.fixedB (eo.take i) nn hf⟩,pk,(eo.b2 _ hEm).mono hbV,by have:=hR.sl;omega,fun x hx=>(hR.sp x hx).2.2.1⟩;have hd:Es.drop i=Es[i] ::Es.drop (i+1):=List.drop_eq_getElem_cons hi;refine ⟨t,_,rfl,SqT.of zB,rfl,_,_,rfl,_,_,rfl,rfl,?_⟩;obtain ⟨dx,sl,fl,os,eo',z2,z3,z4,z5⟩:=SoO.same hs st2;have hs3:SoO CS CP CL _ o pl n st:=⟨dx,sl,fl,os,eo',z2,z3,z4,z5⟩;refine ⟨_,rfl,o,dx,_,rfl,eo',rfl,_,rfl,_,rfl,o,pl,as[i],i,n,m,VB6 b,Es[i],st,rfl,hs3,hw.same s3,tk,by omega,fun hf H4 b4 hs4=>?_,fun hf H4 s4'=>?_⟩
   ·
    have s4':zC H H4:=But.same s3 b4 (by intro a ha;simp at ha;rcases ha with rfl | rfl;exact ho;exact hpl);refine ⟨_,rfl,_,rfl,zBO (by rfl) ?_⟩;refine ⟨_,_,_,_,_,_,rfl,s4',hs4,hR.next eo nn hE hf,?_⟩;rw [hrun,hd,zDw hf]
   ·
    have s5':=s3.trans s4';have hr0:0<=(FrV.part Es[i].1 st.steps).2.2:=(zv (e:=Es[i].1) hR.sol.ech).r0;have hrb:=pk.r _ List.suffix_rfl;have hck:CkOk n m (VB6 b) Es st:=⟨by omega,by omega,by omega,fun j hj=>by
     have hjm:Es[j] ∈Es:=zQA hj;rw [zAW (zPV hj)];exact ⟨by simp [eo.l1 _ hjm,eo.l2 _ hjm],(zFD (eo.b1 _ hjm) (eo.b2 _ hjm)).mono hbV⟩,fun x hx=>by
     obtain ⟨y1,y2⟩:=hR.sp x hx;exact ⟨by omega,y2⟩,by have:=hR.sl;omega⟩
    have hrs:=zGE eo nn (Es.drop i) i st hR rfl;rw [hd,zEA hf] at hrs;obtain ⟨k,hk,hcl⟩:=hrs;rw [hd,zEA hf] at hrun;refine ⟨_,rfl,_,rfl,zIq (by rfl) ?_⟩;refine ⟨_,rfl,_,rfl,_,rfl,_,rfl,o,pl,l,i,n,m,VB6 b,_,Es,st,rfl,SoO.same hs3 s4',LL.same ⟨as,el,has⟩ s5',hi,hck,hV,hr0,hrb,fun t2 fa H5 s5 et2 hfa hcb=>?_⟩;have hC:st.spent.reverse.foldl (fun c s=>turn n (whole Es) Es.length s c) ⟨zS i Es.length,whole Es i,(FrV.part Es[i].1 st.steps).2.2⟩=zBT n (whole Es) Es.length i Es[i] st:=rfl;rw [hC] at et2 hfa hcb;have hcl0: ∃k,Clash n k Es.length (whole Es) (zBT n (whole Es) Es.length i Es[i] st).fac (zBT n (whole Es) Es.length i Es[i] st).mod:=by
     obtain ⟨k,Fv,hF,I⟩:=zDj (len:=Es.length) (q:=whole Es) (j:=i) hR.sol (eo.l2 _ hEm) (eo.l1 _ hEm) (zAW hE) hi hf;obtain ⟨L',hL',I'⟩:=zFU (ss:=st.spent.reverse) hR.chn I (fun x hx=>by
      obtain ⟨x1,_⟩:=hR.sp x (List.mem_reverse.mp hx);have hx':x.1<Es.length:=by omega
      have eE:Es[x.1]?=some Es[x.1] :=zPV hx';have hEm':=zQA hx';refine ⟨hx',(hck.w _ hx').1,?_⟩;have:=hR.sol.fx k Fv hF Es[x.1] (by
       refine zPz (i:=x.1) ?_;rw [List.getElem?_take,if_pos x1,eE])
      rw [zAW eE];have t1:(Es[x.1].1++Es[x.1].2).take n=Es[x.1].1:=by rw [<-eo.l1 _ hEm'];simp
      have t2:zA (Es[x.1].1++Es[x.1].2) (n+k)=zA Es[x.1].2 k:=by
       simp only [zA,List.getD_eq_getElem?_getD];rw [List.getElem?_append_right (by rw [eo.l1 _ hEm'];omega)];congr 2;rw [eo.l1 _ hEm'];omega
      rw [t1,t2];exact this)
     exact ⟨k,Clash.of I' hL' (fun i hi=>zi (by rw [hR.sol.fn Fv (zPz hF)];exact hi))⟩
    obtain ⟨k0,hcl0⟩:=hcl0;have hdv:=hcl0.short.2;have lfa:=hcl0.fl;generalize zBT n (whole Es) Es.length i Es[i] st=c at et2 hfa hcb hdv lfa hrun;refine ⟨_,rfl,t2,_,_,_,rfl,rfl,SqT.of et2,rfl,_,rfl,t2,_,_,_,rfl,rfl,SqT.of et2,rfl,fa,c.fac,c.mod,rfl,hfa,by omega,hcb.m0,hdv,hcb.f.mono (by decide),hcb.m.mono (by decide),fun t3 ls H6 s6 et3 hls=>?_⟩;refine ⟨_,rfl,t3,_,_,_,rfl,rfl,SqT.of et3,rfl,_,rfl,t3,_,_,_,rfl,rfl,SqT.of et3,rfl,by show 3<=sizeLine;decide,fun t4 ht4=>?_⟩;unfold zAu at q;rw [hrun] at q;have st4:=zC.upd ht4 (o:= .tup [.str "clash",.ref ls,.int (short c.fac c.mod).2]);exact q t4 ls _ (((s5'.trans s5).trans s6).trans st4) zB (hls.same st4) (zKJ (hcb.f.mono (by decide)) (hcb.m.mono (by decide)) hcb.m0 hdv)
  ·rintro σ H' ⟨st,s4,s5,s6,s7,s8,rfl,s2,hs,hR,hrun⟩;rw [List.drop_length,yp] at hrun;unfold zAu at q;rw [hrun] at q;simp only at q;have hs':=hs;obtain ⟨dx,sl,fl,os,eo',⟨ss,esl,hss⟩,z3,z4,z5⟩:=hs';have lss:=Paired.len hss;refine ⟨_,rfl,o,CL,dx,_,_,rfl,eo',T.cl,T.n2,rfl,sl,_,rfl,.inl (SqL.of esl),_,rfl,o,dx,_,rfl,eo',rfl,o,pl,n,st,rfl,hs,by omega,zPj (zDR hR.sol.ech) (by omega),by rw [hR.sol.fl];omega,fun q' hq=>(hR.sol.ech.mem hq).1,hR.sol.fn,fun r H3 s3 hn3 hr3=>?_⟩;refine ⟨by show 3<=sizeLine;decide,fun t ht=>?_⟩;have e1:((ss.map V.ref).length:Int)=(st.steps.length:Int):=by rw [zPc,lss]
   rw [e1];have st4:=zC.upd ht (o:= .tup [.str "solved",.int (st.steps.length:Int),.ref r]);exact q t r _ ((s2.trans s3).trans st4) zB ((hn3.mono s2).same hr3 st4) (hr3.same st4)
end
section
variable {P:Program}{w:World}{K:zQK}{mg:Str->Option Value}{base:Heap}
structure FunD(K:zQK)(x qual:Str)(st:Stmt)(dV:Value)(f:Addr)(fd:FuncData):Prop where
 ex: ∃(oc:Value) (od:Option Addr) (kV doc pm:Value) (an:Option Addr) (cdv ct:Value) (osl:Array (Option Value)),
  fd=PySem.W.fnOf x qual (zAT st) (yw st) (zF st) dV kV doc pm an cdv ct/\K.lookup f=some ⟨oc,od,.func fd,osl⟩/\PySem.W.codeIn K cdv qual=true
 kp:PySem.W.keepIn K (.ref f)=true
theorem zLm{x qual:Str}{st:Stmt}{f:Addr}{oc:Value}{od an:Option Addr}{osl:Array (Option Value)}{dV kV doc pm cdv ct:Value}(l:K.lookup f=some ⟨oc,od,.func (PySem.W.fnOf x qual (zAT st) (yw st) (zF st) dV kV doc pm an cdv ct),osl⟩)
  (c:PySem.W.codeIn K cdv qual=true) (k:PySem.W.keepIn K (.ref f)=true):FunD K x qual st dV f (PySem.W.fnOf x qual (zAT st) (yw st) (zF st) dV kV doc pm an cdv ct):=⟨⟨oc,od,kV,doc,pm,an,cdv,ct,osl,rfl,l,c⟩,k⟩
theorem FunD.ok{x qual:Str}{st:Stmt}{dV:Value}{f:Addr}{fd:FuncData}{N ps:List Str}{k:Nat}{sp:Sp}(F:FunD K x qual st dV f fd)(S:FnScope N ps (zF st))(len: ∀vs H Q E,sp vs H Q E->vs.length=ps.length)
  (hbody: ∀(cdv:Value) (A:Around) (outer:List Env) (s:Shared) (H:Hp) (vs:List V) (Q:VK) (E:XK),Room k (A.deeper (envOfC qual (zF st) s.heap.objs.size f cdv))->sp vs H Q E->
   ∃t,PSs (zAi CX0 P w K mg base N qual (zF st) f cdv A outer s H E).nox (yw st) t/\t {nx:=fun _ H'=>Q .non H',rt:=Q} (start N vs) H):FnOk P w K mg base CX0 (k+1) f fd ps sp:=by
 obtain ⟨oc,od,kV,doc,pm,an,cdv,ct,osl,rfl,lk,hcd⟩:=F.ex;refine zLR lk hcd S len fun A outer s H vs Q E hr hsp=>?_;obtain ⟨t,h,q⟩:=hbody cdv A outer s H vs Q E hr hsp;exact ⟨t,h.nox,q⟩
def zGT:Sp:=fun vs H Q _=> ∃i l k:Int,vs= [.int i,.int l,.int k] /\l<=i/\i<=k/\Q (.int i) H
theorem zNa:FnScope ["thing","least","most"] ["thing","least","most"] (zF zCE):=⟨rfl,rfl,rfl,by decide+kernel,rfl,by decide+kernel,by decide+kernel⟩
theorem zMj{f fWh:Addr}{fd fdWh:FuncData}{dN:Value}(F:FunD K "need_whole" "need_whole" zCE dN f fd)
  (FWh:Fun K "is_whole" "is_whole" zCN fWh fdWh) (bWh:zL K fdWh ["thing"] []) (mWh:mg "is_whole" =some (.ref fWh)) (GWh:FnOk P w K mg base CX0 1 fWh fdWh ["thing"] zDe):FnOk P w K mg base CX0 2 f fd ["thing","least","most"] zGT:=by
 refine F.ok zNa (fun vs H Q E h=>?_) (fun cdv A outer s H vs Q E hr1 h=>?_)
 ·obtain ⟨i,l,k,rfl,_⟩:=h;rfl
 ·obtain ⟨i,l,k,rfl,h1,h2,q⟩:=h;refine ⟨_,QB.out (zE
   (yX (zEe (zDd (zI GWh hr1 rfl mWh FWh.kp bWh .nil zK (qc (qw 0 rfl) zD rfl) rfl rfl rfl) (fun _=>rfl))) zCU yV) (zE
   (yX (zl zIO (qw 0 rfl) (qw 1 rfl) rfl) zCU yV) (zE
   (yX (t_w (zEa (zGJ (qw 2 rfl) rfl) (zEW (zl zAm (qw 0 rfl) (qw 2 rfl) rfl)))) zCU yV) (zM
   (ze (qw 0 rfl)))))),?_⟩
  refine ⟨_,rfl,_,rfl,.int i,_,rfl,zBY ?_⟩;refine ⟨_,rfl,_,rfl,i,l,rfl,rfl,_,rfl,?_⟩;refine zBO (zPv (by omega)) ?_;refine ⟨_,rfl,_,rfl,zp ?_⟩;refine ⟨_,rfl,_,rfl,i,k,rfl,rfl,_,rfl,?_⟩;refine zBO (zPv (by omega)) ?_;exact ⟨_,rfl,q⟩
theorem zCH(K:zQK):PySem.W.kitOne K (.type "list") (.type "list")=some true:=by kernel_rfl
def zIZ:Sp:=fun vs H Q _=> ∃(a:Addr) (v:Vec) (n:Nat),vs= [.ref a,.int (n:Int)] /\LI H a v/\v.length=n/\n<=1000/\ ∀H',zC H H'->Q (.bl true) H'
theorem zOi:FnScope ["thing","length"] ["thing","length"] (zF zHI):=⟨rfl,rfl,rfl,by decide+kernel,rfl,by decide+kernel,by decide+kernel⟩
theorem zOL{f fWh:Addr}{fd fdWh:FuncData}(F:Fun K "is_equation" "is_equation" zHI f fd)(B:Bn mg)
  (FWh:Fun K "is_whole" "is_whole" zCN fWh fdWh) (bWh:zL K fdWh ["thing"] []) (mWh:mg "is_whole" =some (.ref fWh)) (GWh:FnOk P w K mg base CX0 1 fWh fdWh ["thing"] zDe):FnOk P w K mg base CX0 2 f fd ["thing","length"] zIZ:=by
 refine F.ok zOi (fun vs H Q E h=>?_) (fun cdv A outer s H vs Q E hr1 h=>?_)
 ·obtain ⟨a,v,n,rfl,_⟩:=h;rfl
 ·obtain ⟨a,v,n,rfl,ha,hn,h1000,q⟩:=h;refine ⟨_,QB.out (zE
   (yX (t_w (zKK (zEe (zDd (yK (zBV (K:=K) rfl) rfl B.isi ye (qc (qw 0 rfl) (qc (zDF (v:= .ty "list") rfl B.list zAH rfl (by decide) rfl) zD rfl) rfl) rfl) (fun _=>rfl))) (zIc (zl zBF (yK (yH (K:=K) rfl) rfl B.len yo (qc (qw 0 rfl) zD rfl) rfl) (qw 1 rfl) rfl)))) (zM
    (ze zGx)) yV) (zM
   (ze (yK (zBz (K:=K) rfl rfl) rfl B.all zEh (qc (zc (cl:= []) ["number"] [] [] rfl (zj (K:=K) rfl (qw 0 rfl)) rfl (by decide+kernel) rfl (by decide+kernel) (fun _ _ h=>nomatch h) rfl (fun j y i h=>nomatch h) (zO rfl) (fun _ _ _ _=>(zJ 0 (show (["number"] :List Str).Nodup by decide+kernel) rfl (.inl rfl) (.inr rfl))) (fun _ _ _ _=>zV) (fun _ _ _ _=>(zI GWh hr1 rfl mWh FWh.kp bWh .nil zK (qc (qw 0 rfl) zD rfl) rfl rfl rfl)) (fun _=>rfl)) zD rfl) rfl)))),?_⟩
  refine ⟨_,rfl,_,.ty "list",_,.type "list",_,rfl,rfl,.lst ha,zCH K,_,rfl,zBY ?_⟩;refine ⟨_,rfl,a,_,rfl,.inl (SqL.of ha),_,rfl,rfl,_,rfl,?_⟩;refine zBO (by rw [zPc,hn,zPt rfl];rfl) ?_;refine ⟨_,rfl,a,rfl,⟨_,SqL.of ha⟩,fun D hD=>?_⟩;refine zR v.length (fun i ys H'=>i<=v.length/\ys=(List.replicate i true).map V.bl/\H'=L2.upd H D (.lst ys)) ⟨zPk _,rfl,rfl⟩ (by rw [zPg];omega) ?_ ?_ ?_
  ·rintro i ys H2 hi ⟨_,rfl,rfl⟩;have e2:=ha.same (zC.upd hD (o:= .lst ((List.replicate i true).map V.bl)));exact ⟨by simp,zB,fun h=>⟨_,_,SqL.of e2,zT h⟩,fun h=>⟨_,SqL.of e2,by simp;omega⟩⟩
  ·rintro i ys H2 x H3 hi ⟨_,rfl,rfl⟩ ⟨rfl,hx⟩ pre hpre;obtain ⟨p0,rfl⟩:=yQ hpre;have hx':=hx _ (SqL.of (ha.same (zC.upd hD (o:= .lst ((List.replicate i true).map V.bl)))));rw [zT hi] at hx';cases hx';refine ⟨⟨[some (.int (zA v i))],rfl,rfl⟩,zp ?_⟩;refine ⟨_,rfl,.int (zA v i),rfl,.int _,zB,hi,?_,by rw [zy]⟩;rw [List.replicate_succ',zPr];rfl
  ·rintro ys H2 ⟨_,rfl,rfl⟩;refine ⟨D,List.replicate v.length true,rfl,SqL.of zB,?_⟩;rw [show (List.replicate v.length true).all id=true by simp];exact q _ (zC.upd hD)
def zFA:Sp:=fun vs H Q _=> ∃(l:Addr) (n m:Nat) (xs:List Vec),vs= [.int (n:Int),.int (m:Int),.ref l] /\LL H l xs/\(∀x∈xs,x.length=n+m)/\n<=240/\m<=6/\xs.length<=240/\ ∀H',zC H H'->Q .non H'
theorem zLx:FnScope ["unknowns","names","equations"] ["unknowns","names","equations"] (zF zDL):=⟨rfl,rfl,rfl,by decide+kernel,rfl,by decide+kernel,by decide+kernel⟩
structure Gm(mg:Str->Option Value):Prop where
 mu: ∃t,mg "MOST_UNKNOWNS" =some (.int 240 t)
 mn: ∃t,mg "MOST_NAMES" =some (.int 6 t)
 me: ∃t,mg "MOST_EQUATIONS" =some (.int 240 t)
theorem zKY{f fN fI:Addr}{fd fdN fdI:FuncData}{dN:Value}(F:Fun K "need_equations" "need_equations" zDL f fd)(B:Bn mg)(G:Gm mg)
  (FN:FunD K "need_whole" "need_whole" zCE dN fN fdN) (bN:zL K fdN ["thing","least","most"] []) (mN:mg "need_whole" =some (.ref fN)) (GN:FnOk P w K mg base CX0 2 fN fdN ["thing","least","most"] zGT)
  (FI:Fun K "is_equation" "is_equation" zHI fI fdI) (bI:zL K fdI ["thing","length"] []) (mI:mg "is_equation" =some (.ref fI)) (GI:FnOk P w K mg base CX0 2 fI fdI ["thing","length"] zIZ):FnOk P w K mg base CX0 3 f fd ["unknowns","names","equations"] zFA:=by
 obtain ⟨tu,mu⟩:=G.mu;obtain ⟨tn,mn⟩:=G.mn;obtain ⟨te,me⟩:=G.me;refine F.ok zLx (fun vs H Q E h=>?_) (fun cdv A outer s H vs Q E hr2 h=>?_)
 ·obtain ⟨l,n,m,xs,rfl,_⟩:=h;rfl
 ·obtain ⟨l,n,m,xs,rfl,⟨as,el,has⟩,hx,hn,hm,h240,q⟩:=h;refine ⟨_,QB.out (zE
   (zBH (zI GN hr2 rfl mN FN.kp bN .nil zK (qc (qx 0 rfl) (qc zG (qc (zGb (v:= .int 240) rfl mu ⟨tu,rfl⟩ rfl) zD rfl) rfl) rfl) rfl rfl rfl) rfl) (zE
   (zBH (zI GN hr2 rfl mN FN.kp bN .nil zK (qc (qx 1 rfl) (qc zG (qc (zGb (v:= .int 6) rfl mn ⟨tn,rfl⟩ rfl) zD rfl) rfl) rfl) rfl rfl rfl) rfl) (zE
   (yX (t_w (zKK (zEe (zDd (yK (zBV (K:=K) rfl) rfl B.isi ye (qc (qw 2 rfl) (qc (zDF (v:= .ty "list") rfl B.list zAH rfl (by decide) rfl) zD rfl) rfl) rfl) (fun _=>rfl))) (zIc (zl zAm (yK (yH (K:=K) rfl) rfl B.len yo (qc (qw 2 rfl) zD rfl) rfl) (zGb (v:= .int 240) rfl me ⟨te,rfl⟩ rfl) rfl)))) zCU yV) (zM
   (yX (zEe (zDd (yK (zBz (K:=K) rfl rfl) rfl B.all zEh (qc (zc ["equation"] ["unknowns","names"] [0,1] rfl (zj (K:=K) rfl (qw 2 rfl)) rfl (by decide+kernel) rfl (by decide+kernel) (zN rfl (zN rfl yb)) rfl (fr2 ⟨rfl,rfl,rfl,_,rfl,rfl⟩ ⟨rfl,rfl,rfl,_,rfl,rfl⟩) (zO rfl) (fun _ _ _ _=>(zJ 0 (show (["equation","unknowns","names"] :List Str).Nodup by decide+kernel) rfl (.inl rfl) (.inr rfl))) (fun _ _ _ _=>zV) (fun _ _ _ _=>(zI GI hr2 rfl mI FI.kp bI .nil zK (qc (qw 0 rfl) (qc (zAM (qx 1 rfl) (qx 2 rfl)) zD rfl) rfl) rfl rfl rfl)) (fun _=>rfl)) zD rfl) rfl) (fun _=>rfl))) zCU yV))))),?_⟩
  refine ⟨_,rfl,(n:Int),0,240,rfl,by omega,by omega,?_⟩;refine ⟨_,rfl,(m:Int),0,6,rfl,by omega,by omega,?_⟩;have la:=Paired.len has;refine ⟨_,rfl,_,.ty "list",_,.type "list",_,rfl,rfl,.lst el,zCH K,_,rfl,zBY ?_⟩;refine ⟨_,rfl,l,_,rfl,.inl (SqL.of el),_,_,rfl,rfl,_,rfl,?_⟩;refine zBO (zPv (by rw [zPc];omega)) ?_;refine ⟨_,rfl,l,rfl,⟨_,SqL.of el⟩,fun D hD=>?_⟩;refine zR as.length (fun i ys H'=>i<=as.length/\ys=(List.replicate i true).map V.bl/\zC H H'/\H' D=some (.lst ys)) ⟨zPk _,rfl,zC.upd hD,zB⟩ (by rw [zPg];omega) ?_ ?_ ?_
  ·rintro i ys H2 hi ⟨_,rfl,s2,e2⟩;have e3:=s2 _ _ el;exact ⟨by simp,e2,fun h=>⟨_,_,SqL.of e3,zPV (by simpa using h)⟩,fun h=>⟨_,SqL.of e3,by simp;omega⟩⟩
  ·rintro i ys H2 x H3 hi ⟨_,rfl,s2,e2⟩ ⟨rfl,hx'⟩ pre hpre;obtain ⟨p0,rfl⟩:=yQ hpre;have hx':=hx' _ (SqL.of (s2 _ _ el));rw [zPa,zPV hi] at hx';cases hx';obtain ⟨v,ev,hv⟩:=Paired.get' has (zPV hi);refine ⟨⟨[some (.ref as[i])],rfl,rfl⟩,zp ?_⟩;refine ⟨_,rfl,_,rfl,_,rfl,n,m,rfl,rfl,as[i],v,n+m,by simp,hv.same s2,hx v (zPz ev),by omega,fun H4 s4=>⟨s4 _ _ e2,hi,?_,zC.store (s2.trans s4) hD,zB⟩⟩;rw [List.replicate_succ',zPr];rfl
  ·rintro ys H2 ⟨_,rfl,s2,e2⟩;refine ⟨D,List.replicate as.length true,rfl,SqL.of e2,_,rfl,?_⟩;refine zBO (by simp) ?_;exact q _ s2
theorem zKa:FnScope ["unknowns","names","equations"] ["unknowns","names","equations"] (zF zBb):=⟨rfl,rfl,rfl,by decide+kernel,rfl,by decide+kernel,by decide+kernel⟩
def zCi:Sp:=fun vs H Q _=> ∃(l:Addr) (n m b:Nat) (Es:List Eqn),vs= [.int (n:Int),.int (m:Int),.ref l] /\LL H l (zf Es)/\SvOk n m b Es/\m<=6/\zAu H Q n m Es
theorem zAu.same{H H':Hp}{Q:VK}{n m:Nat}{Es:List Eqn}(h:zAu H Q n m Es)(s:zC H H'):zAu H' Q n m Es:=by
 unfold zAu at h⊢;split at h
 ·rename_i st e
  exact fun t r H2 s2 et hn=>h t r H2 (s.trans s2) et (hn.mono s)
 ·rename_i f d e
  exact fun t r H2 s2=>h t r H2 (s.trans s2)
theorem zIr{f fN fS:Addr}{fd fdN fdS:FuncData}(F:Fun K "solved" "solved" zBb f fd)
  (FN:Fun K "need_equations" "need_equations" zDL fN fdN) (bN:zL K fdN ["unknowns","names","equations"] []) (mN:mg "need_equations" =some (.ref fN)) (GN:FnOk P w K mg base CX0 3 fN fdN ["unknowns","names","equations"] zFA)
  (FS:Fun K "solution_of" "solution_of" zFW fS fdS) (bS:zL K fdS ["unknowns","names","equations"] []) (mS:mg "solution_of" =some (.ref fS)) (GS:FnOk P w K mg base CX0 37 fS fdS ["unknowns","names","equations"] zFx):FnOk P w K mg base CX0 38 f fd ["unknowns","names","equations"] zCi:=by
 refine F.ok zKa (fun vs H Q E h=>?_) (fun cdv A outer s H vs Q E hr37 h=>?_)
 ·obtain ⟨l,n,m,b,Es,rfl,_⟩:=h;rfl
 ·obtain ⟨l,n,m,b,Es,rfl,hl,ok,m6,q⟩:=h;have hr3:Room 3 _:=hr37.mono (by decide);refine ⟨_,QB.out (zE
   (zBH (zI GN hr3 rfl mN FN.kp bN .nil zK (qc (qw 0 rfl) (qc (qw 1 rfl) (qc (qw 2 rfl) zD rfl) rfl) rfl) rfl rfl rfl) rfl) (zM
   (ze (zI GS hr37 rfl mS FS.kp bS .nil zK (qc (qw 0 rfl) (qc (qw 1 rfl) (qc (qw 2 rfl) zD rfl) rfl) rfl) rfl rfl rfl)))),?_⟩
  have nn:=ok.nn;have le:=ok.le;have lw:(zf Es).length=Es.length:=by simp [zf]
  refine ⟨_,rfl,_,rfl,_,rfl,l,n,m,zf Es,rfl,hl,fun x hx=>?_,by omega,m6,by omega,fun H1 s1=>?_⟩
  ·obtain ⟨e,he,rfl⟩:=List.mem_map.mp hx;simp [ok.ok.l1 e he,ok.ok.l2 e he]
  ·exact ⟨_,rfl,_,rfl,_,rfl,l,n,m,b,Es,rfl,hl.same s1,ok,q.same s1⟩
end
section
variable {P:Program}{w:World}{K:zQK}{mg:Str->Option Value}{base:Heap}
def col(F:List Vec)(j:Nat):Nat->Int:=fun i=>zA (F.getD i []) j
def zBE(row:Vec)(k m:Nat)(F:List Vec):Vec:=(List.range m).map fun j=>zA row (k+j)+((List.range k).map fun i=>zA row i*col F j i).sum
def zHJ:Sp:=fun vs H Q _=> ∃(r f:Addr) (row:Vec) (k m:Nat) (F:List Vec),vs= [.ref r,.int (k:Int),.int (m:Int),.ref f] /\LI H r row/\LL H f F/\row.length=k+m/\F.length=k/\(∀x∈F,x.length=m)/\k+m<=1000/\
 Bts 50000000 row/\(∀x∈F,Bts 50000000 x)/\ ∀p H',zC H H'->H p=none->LI H' p (zBE row k m F)->Q (.ref p) H'
theorem zNn:FnScope ["row","free","names","found"] ["row","free","names","found"] (zF zEd):=⟨rfl,rfl,rfl,by decide+kernel,rfl,by decide+kernel,by decide+kernel⟩
theorem zMW{f:Addr}{fd:FuncData}(F:Fun K "put_in_row" "put_in_row" zEd f fd)(B:Bn mg):FnOk P w K mg base CX0 1 f fd ["row","free","names","found"] zHJ:=by
 refine F.ok zNn (fun vs H Q E h=>?_) (fun cdv A outer s H vs Q E hr h=>?_)
 ·obtain ⟨r,f,row,k,m,F,rfl,_⟩:=h;rfl
 ·obtain ⟨r,f,row,k,m,F,rfl,hr,⟨as,ef,has⟩,hl,hF,hm,h1000,br,bF,q⟩:=h;refine ⟨_,QB.out (zM
   (ze (zFF ["name"] ["row","free","found"] [0,1,3] rfl (yZ rfl B.range (qc (qw 2 rfl) zD rfl) rfl) rfl rfl (by decide+kernel) (zN rfl (zN rfl (zN rfl yb))) rfl (fr3 ⟨rfl,rfl,rfl,_,fun _=>rfl,rfl⟩ ⟨rfl,rfl,rfl,_,fun _=>rfl,rfl⟩ ⟨rfl,rfl,rfl,_,fun _=>rfl,rfl⟩) (fun _=>zO rfl) (fun _ _ _ _=>(zJ 0 (show (["name","row","free","found"] :List Str).Nodup by decide+kernel) rfl (.inr rfl) (.inl rfl))) (fun _ _ _ _=>zV) (fun _ _ _ _=>(zAM (yA (K:=K) rfl (qx 1 rfl) (zAM (qx 2 rfl) (qx 0 rfl)) (fun _ _=>rfl)) (yK (zEL (K:=K) rfl rfl) rfl B.sum zGv (qc (zc ["place"] ["name","row","found"] [0,1,3] rfl (yZ rfl B.range (qc (qx 2 rfl) zD rfl) rfl) rfl (by decide+kernel) rfl (by decide+kernel) (zN rfl (zN rfl (zN rfl yb))) rfl (fr3 ⟨rfl,rfl,rfl,_,rfl,rfl⟩ ⟨rfl,rfl,rfl,_,rfl,rfl⟩ ⟨rfl,rfl,rfl,_,rfl,rfl⟩) (zO rfl) (fun _ _ _ _=>(zJ 0 (show (["place","name","row","found"] :List Str).Nodup by decide+kernel) rfl (.inl rfl) (.inr rfl))) (fun _ _ _ _=>zV) (fun _ _ _ _=>(zAP (yA (K:=K) rfl (qx 2 rfl) (qw 0 rfl) (fun _ _=>rfl)) (yA (K:=K) rfl (yA (K:=K) rfl (qx 3 rfl) (qw 0 rfl) (fun _ _=>rfl)) (qx 1 rfl) (fun _ _=>rfl)))) (fun _=>rfl)) zD rfl) rfl))) (fun _=>rfl)))),?_⟩
  have la:=Paired.len has;refine ⟨_,rfl,(m:Int),rfl,by omega,by omega,fun D hD=>?_⟩;refine zR m (fun j ys H'=>j<=m/\ys=((zBE row k m F).take j).map V.int/\zC H H'/\H' D=some (.lst ys)) ⟨zPk _,by simp,zC.upd hD,zB⟩ (by rw [zPg];omega) ?_ ?_ ?_
  ·rintro j ys H1 hj ⟨_,rfl,s1,e1⟩;exact ⟨by simp;omega,e1,fun h=>h,fun h=>Nat.le_of_eq h.symm⟩
  ·rintro j ys H1 x H2 hj ⟨_,rfl,s1,e1⟩ ⟨rfl,rfl⟩ pre hpre;obtain ⟨p0,rfl⟩:=yQ hpre;refine ⟨⟨[some (.int ((0:Int)+(j:Int)))],rfl,rfl⟩,zp ?_⟩;refine ⟨_,rfl,_,rfl,_,rfl,(k:Int),(0:Int)+(j:Int),rfl,rfl,r,_,_,_,rfl,rfl,SqL.of (hr.same s1),by rw [Int.zero_add,<-Int.natCast_add];exact zn (zT (show k+j<row.length by omega)),?_⟩;refine ⟨_,rfl,(k:Int),rfl,by omega,by omega,fun D2 hD2=>?_⟩;refine zR k (fun i ys H3=>i<=k/\ys=(((List.range k).map fun i=>zA row i*col F j i).take i).map V.int/\H3=L2.upd H2 D2 (.lst ys)) ⟨zPk _,by simp,rfl⟩ (by rw [zPg];omega) ?_ ?_ ?_
   ·rintro i ys H3 hi ⟨_,rfl,rfl⟩;exact ⟨by simp;omega,zB,fun h=>h,fun h=>Nat.le_of_eq h.symm⟩
   ·rintro i ys H3 x H4 hi ⟨_,rfl,rfl⟩ ⟨rfl,rfl⟩ pre hpre;obtain ⟨p1,rfl⟩:=yQ hpre;have s2:=s1.trans (zC.upd hD2 (o:= .lst ((((List.range k).map fun i=>zA row i*col F j i).take i).map V.int)));have hia:i<as.length:=by omega
    obtain ⟨u,eu,hu⟩:=Paired.get' has (zPV hia);have um:=zPz eu;have ec:col F j i=zA u j:=by simp only [col,List.getD,eu,Option.getD_some]
    have lu:=hm u um;refine ⟨⟨[some (.int ((0:Int)+(i:Int)))],rfl,rfl⟩,zp ?_⟩;refine ⟨_,rfl,_,rfl,r,_,_,_,rfl,rfl,SqL.of (hr.same s2),by rw [Int.zero_add];exact zn (zT (show i<row.length by omega)),?_⟩;refine ⟨_,rfl,_,rfl,f,_,_,_,rfl,rfl,SqL.of (s2 _ _ ef),by rw [Int.zero_add];exact zn (show (as.map V.ref)[i]?=some (.ref as[i]) by rw [zPa,zPV hia];rfl),?_⟩;refine ⟨_,rfl,as[i],_,_,_,rfl,rfl,SqL.of (hu.same s2),by rw [Int.zero_add];exact zn (zT (show j<u.length by omega)),_,_,rfl,rfl,⟨ya (br i) (by omega),ya (bF u um j) (by omega)⟩,zB,hi,?_,by rw [zy]⟩;rw [zPs,zPa,List.getElem?_range hi,<-ec];simp
   ·rintro ys H3 ⟨_,rfl,rfl⟩;have sD:=zC.upd hD2 (o:= .lst ((((List.range k).map fun i=>zA row i*col F j i).take k).map V.int));have ek:((List.range k).map fun i=>zA row i*col F j i).take k=(List.range k).map fun i=>zA row i*col F j i:=List.take_of_length_le (by simp);refine ⟨D2,_,rfl,SqL.of zB,_,_,rfl,rfl,sD _ _ e1,hj,?_,zC.store (s1.trans sD) hD,zB⟩;rw [ek,zPs,zBE,zPa,List.getElem?_range hj];simp
  ·rintro ys H1 ⟨_,rfl,s1,e1⟩;rw [List.take_of_length_le (by simp [zBE])] at e1;exact q _ _ s1 hD e1
def zIE:Sp:=fun vs H Q _=> ∃(l f:Addr) (rows:List Vec) (k m:Nat) (F:List Vec),vs= [.ref l,.int (k:Int),.int (m:Int),.ref f] /\LL H l rows/\LL H f F/\(∀r∈rows,r.length=k+m/\Bts 50000000 r)/\F.length=k/\(∀x∈F,x.length=m/\Bts 50000000 x)/\k+m<=1000/\rows.length<=1000/\
 ∀p H',zC H H'->LL H' p (rows.map fun r=>zBE r k m F)->Q (.ref p) H'
theorem zOw:FnScope ["rows","free","names","found"] ["rows","free","names","found"] (zF zGp):=⟨rfl,rfl,rfl,by decide+kernel,rfl,by decide+kernel,by decide+kernel⟩
theorem zNI{f fR:Addr}{fd fdR:FuncData}(F:Fun K "put_in" "put_in" zGp f fd)
  (FR:Fun K "put_in_row" "put_in_row" zEd fR fdR) (bR:zL K fdR ["row","free","names","found"] []) (mR:mg "put_in_row" =some (.ref fR)) (GR:FnOk P w K mg base CX0 1 fR fdR ["row","free","names","found"] zHJ):FnOk P w K mg base CX0 2 f fd ["rows","free","names","found"] zIE:=by
 refine F.ok zOw (fun vs H Q E h=>?_) (fun cdv A outer s H vs Q E hr1 h=>?_)
 ·obtain ⟨l,f,rows,k,m,F,rfl,_⟩:=h;rfl
 ·obtain ⟨l,f,rows,k,m,F,rfl,⟨as,el,has⟩,hf,hrow,hF,hm,h1000,hl,q⟩:=h;refine ⟨_,QB.out (zM
   (ze (zc ["row"] ["free","names","found"] [1,2,3] rfl (zj (K:=K) rfl (qw 0 rfl)) rfl (by decide+kernel) rfl (by decide+kernel) (zN rfl (zN rfl (zN rfl yb))) rfl (fr3 ⟨rfl,rfl,rfl,_,rfl,rfl⟩ ⟨rfl,rfl,rfl,_,rfl,rfl⟩ ⟨rfl,rfl,rfl,_,rfl,rfl⟩) (zO rfl) (fun _ _ _ _=>(zJ 0 (show (["row","free","names","found"] :List Str).Nodup by decide+kernel) rfl (.inl rfl) (.inr rfl))) (fun _ _ _ _=>zV) (fun _ _ _ _=>(zI GR hr1 rfl mR FR.kp bR .nil zK (qc (qw 0 rfl) (qc (qx 1 rfl) (qc (qx 2 rfl) (qc (qx 3 rfl) zD rfl) rfl) rfl) rfl) rfl rfl rfl)) (fun _=>rfl)))),?_⟩
  have la:=Paired.len has;refine ⟨_,rfl,l,rfl,⟨_,SqL.of el⟩,fun D hD=>?_⟩;refine zR as.length (fun i ys H'=> ∃rs:List Addr,i<=as.length/\ys=rs.map V.ref/\LIs H' rs ((rows.map fun r=>zBE r k m F).take i)/\rs.length=i/\D∉rs/\zC H H'/\H' D=some (.lst ys)) ⟨[],zPk _,rfl,by rw [List.take_zero];exact .nil,rfl,by simp,zC.upd hD,zB⟩ (by rw [zPg];omega) ?_ ?_ ?_
  ·rintro i ys H1 hi ⟨rs,_,rfl,_,hrl,_,s1,e1⟩;have e2:=s1 _ _ el;exact ⟨by simp;omega,e1,fun h=>⟨_,_,SqL.of e2,zPV (by simpa using h)⟩,fun h=>⟨_,SqL.of e2,by simp;omega⟩⟩
  ·rintro i ys H1 x H2 hi ⟨rs,_,rfl,hrs,hrl,hnd,s1,e1⟩ ⟨rfl,hx⟩ pre hpre;obtain ⟨p0,rfl⟩:=yQ hpre;have hx':=hx _ (SqL.of (s1 _ _ el));rw [zPa,zPV hi] at hx';cases hx';obtain ⟨u,eu,hu⟩:=Paired.get' has (zPV hi);have um:=zPz eu;refine ⟨⟨[some (.ref as[i])],rfl,rfl⟩,zp ?_⟩;refine ⟨_,rfl,_,rfl,_,rfl,_,rfl,as[i],f,u,k,m,F,rfl,hu.same s1,hf.same s1,(hrow u um).1,hF,fun x hx=>(hm x hx).1,h1000,(hrow u um).2,fun x hx=>(hm x hx).2,fun p H3 s3 hp0 hp=>?_⟩;have hne:p≠D:=fun z=>by rw [z,e1] at hp0;cases hp0
   refine ⟨s3 _ _ e1,rs++ [p],hi,by simp,?_,by simp [hrl],by simp [hnd,Ne.symm hne],zC.store (s1.trans s3) hD,zB⟩;rw [zPs,zPa,eu];refine Paired.snoc' (Paired.mapM hrs fun a v hm ea=>?_) ?_
   ·have z:=s3 _ _ ea;show L2.upd _ D _ a=_;rw [zH fun haD=>hnd (by rw [<-haD];exact hm)];exact z
   ·show L2.upd _ D _ p=_;rw [zH hne];exact hp
  ·rintro ys H1 ⟨rs,_,rfl,hrs,_,_,s1,e1⟩;rw [List.take_of_length_le (by simp;omega)] at hrs;exact q _ _ s1 ⟨rs,e1,hrs⟩
end
section
variable {P:Program}{w:World}{K:zQK}{mg:Str->Option Value}{base:Heap}
def zCl(k m:Nat)(r w:Vec):Eqn:=(r.take k,(List.range m).map fun j=>zA r (k+j) - zA w j)
def yf(k m:Nat)(rows wanted:List Vec):List Eqn:=List.zipWith (zCl k m) rows wanted
def zFw(H:Hp)(Q:VK)(n m:Nat)(Es:List Eqn):Prop:=match yp n (whole Es) Es.length 0 Es (yr n m) with
 | .inl st=> ∀r H',zC H H'->LL H' r ((zt (st.steps.map (·.2)++st.fixed) n).map fun v=>v.drop st.steps.length)->Q (.ref r) H'
 | .inr _=> ∀H',zC H H'->Q .non H'
def zIQ:Sp:=fun vs H Q _=> ∃(l wl:Addr) (rows wanted:List Vec) (k m b:Nat),vs= [.ref l,.int (k:Int),.int (m:Int),.ref wl] /\LL H l rows/\LL H wl wanted/\rows.length=wanted.length/\(∀r∈rows,r.length=k+m)/\(∀x∈wanted,x.length=m)/\
 SvOk k m b (yf k m rows wanted)/\zFw H Q k m (yf k m rows wanted)
theorem zIJ:FnScope ["rows","free","names","wanted","equations","told"] ["rows","free","names","wanted"] (zF zGM):=⟨rfl,rfl,rfl,by decide+kernel,rfl,by decide+kernel,by decide+kernel⟩
theorem zNN{f fS:Addr}{fd fdS:FuncData}(F:Fun K "met_by" "met_by" zGM f fd)(B:Bn mg)
  (FS:Fun K "solution_of" "solution_of" zFW fS fdS) (bS:zL K fdS ["unknowns","names","equations"] []) (mS:mg "solution_of" =some (.ref fS)) (GS:FnOk P w K mg base CX0 37 fS fdS ["unknowns","names","equations"] zFx):FnOk P w K mg base CX0 38 f fd ["rows","free","names","wanted"] zIQ:=by
 refine F.ok zIJ (fun vs H Q E h=>?_) (fun cdv A outer s H vs Q E hr37 h=>?_)
 ·obtain ⟨l,wl,rows,wanted,k,m,b,rfl,_⟩:=h;rfl
 ·obtain ⟨l,wl,rows,wanted,k,m,b,rfl,⟨as,el,has⟩,⟨bs',ew,hbs⟩,hlen,hrow,hwan,ok,q⟩:=h;refine ⟨_,QB.out (zE
   (zHy yn 4 (by exact zIJ.nd) rfl (Or.inl rfl) (.inr rfl) ["row","exponents"] ["free","names"] [1,2] rfl (zDV (K:=K) rfl rfl B.zip (qc (qw 0 rfl) (qc (qw 3 rfl) zD rfl) rfl) rfl rfl) rfl rfl (by decide+kernel) (zN rfl (zN rfl yb)) rfl (fr2 ⟨rfl,rfl,rfl,_,fun _=>rfl,rfl⟩ ⟨rfl,rfl,rfl,_,fun _=>rfl,rfl⟩) (fun _=>zO rfl) (fun _ _ _ _=>(zBC (K:=K) (n:=2) rfl rfl (yG (zJ 0 (show (["row","exponents","free","names"] :List Str).Nodup by decide+kernel) rfl (.inr rfl) (.inl rfl)) (yG (zJ 1 (show (["row","exponents","free","names"] :List Str).Nodup by decide+kernel) rfl (.inr rfl) (.inl rfl)) zBB rfl) rfl) rfl rfl)) (fun _ _ _ _=>zV) (fun C s₂ H₂ fp xe E hp=>(zBG (zBa (K:=K) rfl (qx 0 rfl) zAj (zAk (qx 2 rfl))) (zc ["name"] ["row","exponents","free"] [0,1,2] rfl (yZ rfl B.range (qc (qx 3 rfl) zD rfl) rfl) rfl (by decide+kernel) rfl (by decide+kernel) (zN rfl (zN rfl (zN rfl yb))) rfl (fr3 ⟨rfl,rfl,rfl,_,rfl,rfl⟩ ⟨rfl,rfl,rfl,_,rfl,rfl⟩ ⟨rfl,rfl,rfl,_,rfl,rfl⟩) (zO rfl) (fun _ _ _ _=>(zJ 0 (show (["name","row","exponents","free"] :List Str).Nodup by decide+kernel) rfl (.inl rfl) (.inr rfl))) (fun _ _ _ _=>zV) (fun _ _ _ _=>(zBZ (yA (K:=K) rfl (qx 1 rfl) (zAM (qx 3 rfl) (qw 0 rfl)) (fun _ _=>rfl)) (yA (K:=K) rfl (qx 2 rfl) (qw 0 rfl) (fun _ _=>rfl)))) (fun _=>rfl)))) (fun _=>rfl) rfl) (zE
   (yt 5 zIJ.nd rfl (Or.inr rfl) (zI GS hr37 rfl mS FS.kp bS .nil zK (qc (qx 1 rfl) (qc (qx 2 rfl) (qc (qw 4 rfl) zD rfl) rfl) rfl) rfl rfl rfl) rfl (.inl rfl)) (zE
   (yX (zl zAz (yL (K:=K) rfl (qx 5 rfl) zG (fun _ _=>rfl)) zEO rfl) (zM
    (ze zDc)) yV) (zM
   (ze (zc ["row"] ["told"] [5] rfl (zj (K:=K) rfl (yL (K:=K) rfl (qx 5 rfl) zG (fun _ _=>rfl))) rfl (by decide+kernel) rfl (by decide+kernel) (zN rfl yb) rfl (fr1 ⟨rfl,rfl,rfl,_,rfl,rfl⟩) (zO rfl) (fun _ _ _ _=>(zJ 0 (show (["row","told"] :List Str).Nodup by decide+kernel) rfl (.inl rfl) (.inr rfl))) (fun _ _ _ _=>zV) (fun _ _ _ _=>(zBa (K:=K) rfl (qw 0 rfl) (zAk (yL (K:=K) rfl (qx 1 rfl) zG (fun _ _=>rfl))) zAj)) (fun _=>rfl))))))),?_⟩
  have la:=Paired.len has;have lb:=Paired.len hbs;have k6:=ok.nn;have m100:=ok.mm;have lE:(yf k m rows wanted).length=rows.length:=by simp [yf,hlen]
  have l12:=ok.le;have gE: ∀(i:Nat) (u v:Vec),rows[i]?=some u->wanted[i]?=some v->(zf (yf k m rows wanted))[i]?=some (u.take k++(List.range m).map fun j=>zA u (k+j) - zA v j):=fun i u v h1 h2=>by
   simp only [zf,yf,zPa,List.getElem?_zipWith,h1,h2,Option.map_some,zCl]
  have lW:(zf (yf k m rows wanted)).length=rows.length:=by rw [zf,zPc,lE]
  generalize yf k m rows wanted=Es at lE l12 gE lW ok q;refine ⟨_,rfl,_,rfl,l,wl,rfl,⟨_,SqL.of el⟩,⟨_,SqL.of ew⟩,fun D hD=>?_⟩;refine zR rows.length (fun i ys H'=> ∃rs:List Addr,i<=rows.length/\ys=rs.map V.ref/\LIs H' rs ((zf Es).take i)/\rs.length=i/\D∉rs/\zC H H'/\H' D=some (.lst ys)) ⟨[],zPk _,rfl,by rw [List.take_zero];exact .nil,rfl,by simp,zC.upd hD,zB⟩ (by rw [zPg];omega) ?_ ?_ ?_
  ·rintro i ys H1 hi ⟨rs,_,rfl,_,hrl,_,s1,e1⟩;exact ⟨by simp;omega,e1,fun h=>⟨_,_,_,_,SqL.of (s1 _ _ el),SqL.of (s1 _ _ ew),zPV (by simp;omega),zPV (by simp;omega)⟩,fun h=>⟨_,_,SqL.of (s1 _ _ el),SqL.of (s1 _ _ ew),.inl (by simp;omega)⟩⟩
  ·rintro i ys H1 x H2 hi ⟨rs,_,rfl,hrs,hrl,hnd,s1,e1⟩ ⟨t,x1,y1,hx,hy,ht,rfl,rfl⟩ pre hpre;obtain ⟨p0,p1,rfl⟩:=zh hpre;have hx':=hx _ (SqL.of (s1 _ _ el));have hy':=hy _ (SqL.of (s1 _ _ ew));have hia:i<as.length:=by omega
   have hib:i<bs'.length:=by omega
   rw [zPa,zPV hia] at hx';rw [zPa,zPV hib] at hy';cases hx';cases hy';obtain ⟨u,eu,hu⟩:=Paired.get' has (zPV hia);obtain ⟨v,ev,hv⟩:=Paired.get' hbs (zPV hib);have lu:=hrow u (zPz eu);have lv:=hwan v (zPz ev);have gW:=gE i u v eu ev;have st:=zC.upd ht (o:= .tup [.ref as[i],.ref bs'[i]]);have s2:=s1.trans st;refine ⟨t,_,rfl,SqT.of zB,rfl,_,_,rfl,_,_,rfl,rfl,⟨[some (.ref as[i]),some (.ref bs'[i])],rfl,rfl⟩,zp ?_⟩;refine ⟨_,rfl,_,rfl,_,rfl,as[i],_,rfl,SqL.of (hu.same s2),fun pa hpa=>?_⟩;rw [zFS (by omega)];have sa:=zC.upd hpa (o:= .lst ((u.take k).map V.int));have s3:=s2.trans sa;refine ⟨_,rfl,(m:Int),rfl,by omega,by omega,fun D2 hD2=>?_⟩;refine zR m (fun j ys H4=>j<=m/\ys=(((List.range m).map fun j=>zA u (k+j) - zA v j).take j).map V.int/\H4=L2.upd _ D2 (.lst ys)) ⟨zPk _,by simp,rfl⟩ (by rw [zPg];omega) ?_ ?_ ?_
   ·rintro j ys H4 hj ⟨_,rfl,rfl⟩;exact ⟨by simp;omega,zB,fun h=>h,fun h=>Nat.le_of_eq h.symm⟩
   ·rintro j ys H4 x H5 hj ⟨_,rfl,rfl⟩ ⟨rfl,rfl⟩ pre hpre;obtain ⟨p2,rfl⟩:=yQ hpre;have s4:=s3.trans (zC.upd hD2 (o:= .lst ((((List.range m).map fun j=>zA u (k+j) - zA v j).take j).map V.int)));refine ⟨⟨[some (.int ((0:Int)+(j:Int)))],rfl,rfl⟩,zp ?_⟩;refine ⟨_,rfl,_,rfl,_,rfl,(k:Int),(0:Int)+(j:Int),rfl,rfl,as[i],_,_,_,rfl,rfl,SqL.of (hu.same s4),by rw [Int.zero_add,<-Int.natCast_add];exact zn (zT (show k+j<u.length by omega)),?_⟩;refine ⟨_,rfl,_,rfl,bs'[i],_,_,_,rfl,rfl,SqL.of (hv.same s4),by rw [Int.zero_add];exact zn (zT (show j<v.length by omega)),_,_,rfl,rfl,zB,hj,?_,by rw [zy]⟩;rw [zPs,zPa,List.getElem?_range hj];simp
   ·rintro ys H4 ⟨_,rfl,rfl⟩;rw [List.take_of_length_le (show ((List.range m).map fun j=>zA u (k+j) - zA v j).length<=m by simp)];have sb:=zC.upd hD2 (o:= .lst (((List.range m).map fun j=>zA u (k+j) - zA v j).map V.int));refine ⟨pa,D2,_,_,rfl,rfl,sb _ _ zB,zB,by rw [zPg];simp;omega,fun p hp=>?_⟩;rw [<-zPr];have sc:=zC.upd hp (o:= .lst ((u.take k++(List.range m).map fun j=>zA u (k+j) - zA v j).map V.int));have sx:=(st.trans sa).trans (sb.trans sc);have hne:p≠D:=fun z=>by
     have:=(st.trans sa).trans sb _ _ e1;rw [z] at hp;rw [this] at hp;cases hp
    refine ⟨sx _ _ e1,rs++ [p],hi,by simp,?_,by simp [hrl],by simp [hnd,Ne.symm hne],zC.store (s1.trans sx) hD,zB⟩;rw [zPs,gW];refine Paired.snoc' (Paired.mapM hrs fun a v hm ea=>?_) ?_
    ·have z:=sx _ _ ea;show L2.upd _ D _ a=_;rw [zH fun haD=>hnd (by rw [<-haD];exact hm)];exact z
    ·show L2.upd _ D _ p=_;rw [zH hne,zB]
  ·rintro ys H1 ⟨rs,_,rfl,hrs,_,_,s1,e1⟩;rw [List.take_of_length_le (Nat.le_of_eq lW)] at hrs;refine ⟨_,rfl,_,rfl,_,rfl,D,k,m,b,Es,rfl,⟨rs,e1,hrs⟩,ok,?_⟩;unfold zFw at q;unfold zAu;generalize yp k (whole Es) Es.length 0 Es (yr k m)=z at q⊢;cases z with
   | inr fd=>
    intro t fl H2 s2 et _ _;refine ⟨_,rfl,t,_,_,_,rfl,rfl,SqT.of et,rfl,rfl,_,rfl,zIq (by rfl) ?_⟩;exact q _ (s1.trans s2)
   | inl st=>
    simp only at q;intro t r H2 s2 et _ hr;obtain ⟨cs,ec,hcs⟩:=hr;refine ⟨_,rfl,t,_,_,_,rfl,rfl,SqT.of et,rfl,rfl,_,rfl,zBO (by rfl) ?_⟩;refine ⟨_,rfl,t,_,_,_,rfl,rfl,SqT.of et,rfl,r,rfl,⟨_,SqL.of ec⟩,fun D3 hD3=>?_⟩;have lc:=Paired.len hcs;have lr:(zt (st.steps.map (·.2)++st.fixed) k).length=k:=by simp [zt]
    have hrl': ∀x∈zt (st.steps.map (·.2)++st.fixed) k,st.steps.length<=x.length:=fun x hx=>by
     obtain ⟨y,_,rfl⟩:=List.mem_map.mp hx;simp
    generalize zt (st.steps.map (·.2)++st.fixed) k=R at hcs lc lr hrl' q;refine zR cs.length (fun i ys H'=> ∃rs:List Addr,i<=cs.length/\ys=rs.map V.ref/\LIs H' rs ((R.map fun v=>v.drop st.steps.length).take i)/\rs.length=i/\D3∉rs/\zC H2 H'/\H' D3=some (.lst ys)) ⟨[],zPk _,rfl,by rw [List.take_zero];exact .nil,rfl,by simp,zC.upd hD3,zB⟩ (by rw [zPg];omega) ?_ ?_ ?_
    ·rintro i ys H3 hi ⟨rs,_,rfl,_,hrl,_,s3,e3⟩;have e4:=s3 _ _ ec;exact ⟨by simp;omega,e3,fun h=>⟨_,_,SqL.of e4,zPV (by simpa using h)⟩,fun h=>⟨_,SqL.of e4,by simp;omega⟩⟩
    ·rintro i ys H3 x H4 hi ⟨rs,_,rfl,hrs,hrl,hnd,s3,e3⟩ ⟨rfl,hx⟩ pre hpre;obtain ⟨p0,rfl⟩:=yQ hpre;have hx':=hx _ (SqL.of (s3 _ _ ec));rw [zPa,zPV hi] at hx';cases hx';obtain ⟨u,eu,hu⟩:=Paired.get' hcs (zPV hi);refine ⟨⟨[some (.ref cs[i])],rfl,rfl⟩,zp ?_⟩;refine ⟨_,rfl,_,rfl,t,_,_,_,rfl,rfl,SqT.of (s3 _ _ et),rfl,_,rfl,cs[i],_,rfl,SqL.of (hu.same s3),fun p hp=>?_⟩;rw [zFf (hrl' u (zPz eu))];have sc:=zC.upd hp (o:= .lst ((u.drop st.steps.length).map V.int));have hne:p≠D3:=fun z=>by rw [z,e3] at hp;cases hp
     refine ⟨sc _ _ e3,rs++ [p],hi,by simp,?_,by simp [hrl],by simp [hnd,Ne.symm hne],zC.store (s3.trans sc) hD3,zB⟩;rw [zPs,zPa,eu];refine Paired.snoc' (Paired.mapM hrs fun a v hm ea=>?_) ?_
     ·have z:=sc _ _ ea;show L2.upd _ D3 _ a=_;rw [zH fun haD=>hnd (by rw [<-haD];exact hm)];exact z
     ·show L2.upd _ D3 _ p=_;rw [zH hne,zB]
    ·rintro ys H3 ⟨rs,_,rfl,hrs,_,_,s3,e3⟩;rw [List.take_of_length_le (by simp;omega)] at hrs;exact q _ _ ((s1.trans s2).trans s3) ⟨rs,e3,hrs⟩
end
section
variable {P:Program}{w:World}{K:zQK}{mg:Str->Option Value}{base:Heap}
def zLN:Sp:=fun vs H Q _=> ∃n k:Int,vs= [.int n,.int k] /\0<=k/\k<=1000/\ ∀r:Int,0<=r->r<2147483629->Q (.int r) H
theorem zLH:FnScope ["_law_number_here","_law_k"] ["_law_number_here","_law_k"] (zF zGk):=⟨rfl,rfl,rfl,by decide+kernel,rfl,by decide+kernel,by decide+kernel⟩
theorem zNS{f:Addr}{fd:FuncData}(F:Fun K "_law_mixed" "_law_mixed" zGk f fd):FnOk P w K mg base CX0 1 f fd ["_law_number_here","_law_k"] zLN:=by
 refine F.ok zLH (fun vs H Q E h=>?_) (fun cdv A outer s H vs Q E hr h=>?_)
 ·obtain ⟨n,k,rfl,_⟩:=h;rfl
 ·obtain ⟨n,k,rfl,h0,h1,q⟩:=h;refine ⟨_,zAV (zBj (i:=0) zLH.nd rfl (Or.inl rfl) (zAC zBi (zAC zBl (zAC zEY (zAC zEY (zAC zBi (pv 0) zAR) (zAC zBl (zAC zBl zAR (pv 1)) (pv 1))) (zAC zBl zAR (pv 1))) zAR) zAR))
   (zBL (zCZ (zAC zBi (zAC zBl (pv 0) (zAC zEY zAR (zAC zBl zAR (pv 1)))) zAR))),?_⟩
  refine ⟨_,rfl,_,_,rfl,rfl,(by show (0:Int)<2147483647;decide),_,rfl,_,_,rfl,rfl,.inl ⟨by decide,by decide⟩,_,rfl,_,_,rfl,rfl,.inr ⟨by omega,by omega⟩,_,_,rfl,rfl,_,rfl,_,_,rfl,rfl,.inl ⟨by decide,by decide⟩,_,_,rfl,rfl,
   _,_,rfl,rfl,.inr ⟨by decide,by decide⟩,_,_,rfl,rfl,(by show (0:Int)<2147483647;decide),?_⟩
  refine ⟨_,rfl,_,rfl,_,_,rfl,rfl,.inl ⟨by decide,by decide⟩,_,_,rfl,rfl,_,_,rfl,rfl,.inr ⟨by omega,by omega⟩,_,_,rfl,rfl,(by show (0:Int)<2147483629;decide),?_⟩;exact q _ (zPn _ (by decide)) (zPh _ (by decide))
def zEf(K:zQK):Sp:=fun vs H Q _=> ∃(a:Addr) (ns:List Int) (k:Int),vs= [.ref a,.int k] /\SqL K H a (ns.map V.int)/\ns.length<=63/\0<=k/\k<=1000/\ ∀(r:Int) H',zC H H'->0<=r->r<2147483629->Q (.int r) H'
theorem zOm:FnScope ["_law_script","_law_k"] ["_law_script","_law_k"] (zF zEM):=⟨rfl,rfl,rfl,by decide+kernel,rfl,by decide+kernel,by decide+kernel⟩
theorem zOY{f fM:Addr}{fd fdM:FuncData}(F:Fun K "_law_number" "_law_number" zEM f fd)(B:Bn mg)(FM:Fun K "_law_mixed" "_law_mixed" zGk fM fdM)(bM:zL K fdM ["_law_number_here","_law_k"] [])(mM:mg "_law_mixed" =some (.ref fM)):
  FnOk P w K mg base CX0 2 f fd ["_law_script","_law_k"] (zEf K):=by
 have GM:FnOk P w K mg base CX0 1 fM fdM ["_law_number_here","_law_k"] zLN:=zNS FM;refine F.ok zOm (fun vs H Q E h=>?_) (fun cdv A outer s H vs Q E hr h=>?_)
 ·obtain ⟨a,ns,k,rfl,_⟩:=h;rfl
 ·obtain ⟨a,ns,k,rfl,hs,hl,h0,h1,q⟩:=h;have hu:=zIj hr;refine ⟨_,zAV (zLE (zFV (zKm (Nat.lt_of_succ_lt hu)) (pv 0) (zJS zAt) (zJr _)) (zBL (zCZ (zFI GM hr (by rfl) mM FM.kp bM .nil zK (yi zAR (yi (pv 1) zAt))))) zHV)
   (zBL (zCZ (zFI GM hr (by rfl) mM FM.kp bM .nil zK (yi (zIe zHT (pv 0) (zAC zBi (pv 1) (zCh zDE (by rfl) B.len yo (yi (pv 0) zAt))) (fun _ _=>rfl)) (yi (pv 1) zAt))))),?_⟩
  refine ⟨_,rfl,zPk _,fun p hp=>?_⟩;have s1:zC H (L2.upd H p (.lst [])):=zC.upd hp;refine ⟨a,p,_,rfl,rfl,s1.seq hs,SqL.of zB,_,rfl,?_⟩;cases ns with
  | nil=>
   refine zp ?_;exact ⟨_,rfl,17,k,rfl,h0,h1,fun r r0 r1=>q r _ s1 r0 r1⟩
  | cons n ns=>
   refine zBY ?_;have hlen:(0:Int)<(((n::ns).map V.int).length:Int):=by simp
   have m0:=zPn k (by omega:(((n::ns).map V.int).length:Int)≠0);have m1:=zPh k hlen;obtain ⟨j,hj⟩: ∃j:Nat,k %(((n::ns).map V.int).length:Int)=j:=⟨(k %(((n::ns).map V.int).length:Int)).toNat,by omega⟩;have hj2:j<(n::ns).length:=by
    rw [hj,zPc] at m1;omega
   refine ⟨_,rfl,_,rfl,_,rfl,a,_,rfl,.inl (s1.seq hs),_,_,rfl,rfl,hlen,a,_,_,.int ((n::ns)[j]),rfl,rfl,s1.seq hs,?_,_,rfl,_,k,rfl,h0,h1,fun r r0 r1=>q r _ s1 r0 r1⟩;rw [hj];refine zn ?_;rw [zPa,zPV hj2];rfl
def zKw:Sp:=fun vs H Q _=> ∃i:Int,vs= [.int i] /\Q (.bl true) H
theorem zPS:FnScope ["_law_found"] ["_law_found"] (zF zCv):=⟨rfl,rfl,rfl,by decide+kernel,rfl,by decide+kernel,by decide+kernel⟩
theorem zOz{f:Addr}{fd:FuncData}(F:Fun K "_law_whole" "_law_whole" zCv f fd)(B:Bn mg):FnOk P w K mg base CX0 1 f fd ["_law_found"] zKw:=by
 refine F.ok zPS (fun vs H Q E h=>?_) (fun cdv A outer s H vs Q E hr h=>?_)
 ·obtain ⟨x,rfl,_⟩:=h;rfl
 ·obtain ⟨x,rfl,q⟩:=h;refine ⟨_,QB.out (zM
   (ze (zFq (yK (zBV (K:=K) rfl) rfl B.isi ye (qc (qw 0 rfl) (qc (zDF (v:= .ty "int") rfl B.int zGs rfl (by decide) rfl) zD rfl) rfl) rfl) (zIk (zOq (yK (zBV (K:=K) rfl) rfl B.isi ye (qc (qw 0 rfl) (qc (zDF (v:= .ty "bool") rfl B.bool zHx rfl (by decide) rfl) zD rfl) rfl) rfl)))))),?_⟩
  refine ⟨_,rfl,_,.ty "int",_,.type "int",_,rfl,rfl,.int x,zFk K,_,rfl,zp ?_⟩;exact ⟨_,rfl,_,.ty "bool",_,.type "bool",_,rfl,rfl,.int x,zEi K,_,rfl,q⟩
def zFu:Sp:=fun vs H Q _=> ∃(a:Addr) (v:Vec) (n:Nat),vs= [.ref a,.int (n:Int)] /\LI H a v/\v.length=n/\n<=1000/\ ∀H',zC H H'->Q (.bl true) H'
theorem zOk:FnScope ["_law_found","_law_size"] ["_law_found","_law_size"] (zF zCY):=⟨rfl,rfl,rfl,by decide+kernel,rfl,by decide+kernel,by decide+kernel⟩
theorem zMz{f fWh:Addr}{fd fdWh:FuncData}(F:Fun K "_law_wholes" "_law_wholes" zCY f fd)(B:Bn mg)
  (FWh:Fun K "_law_whole" "_law_whole" zCv fWh fdWh) (bWh:zL K fdWh ["_law_found"] []) (mWh:mg "_law_whole" =some (.ref fWh)) (GWh:FnOk P w K mg base CX0 1 fWh fdWh ["_law_found"] zKw):FnOk P w K mg base CX0 2 f fd ["_law_found","_law_size"] zFu:=by
 refine F.ok zOk (fun vs H Q E h=>?_) (fun cdv A outer s H vs Q E hr1 h=>?_)
 ·obtain ⟨a,v,n,rfl,_⟩:=h;rfl
 ·obtain ⟨a,v,n,rfl,ha,hn,h1000,q⟩:=h;refine ⟨_,QB.out (zM
   (ze (zFq (yK (zBV (K:=K) rfl) rfl B.isi ye (qc (qw 0 rfl) (qc (zDF (v:= .ty "list") rfl B.list zAH rfl (by decide) rfl) zD rfl) rfl) rfl) (zFq (zFv zAz (yK (yH (K:=K) rfl) rfl B.len yo (qc (qw 0 rfl) zD rfl) rfl) (qw 1 rfl) rfl) (zIk (yK (zBz (K:=K) rfl rfl) rfl B.all zEh (qc (zc (cl:= []) ["_law_number_here"] [] [] rfl (zj (K:=K) rfl (qw 0 rfl)) rfl (by decide+kernel) rfl (by decide+kernel) (fun _ _ h=>nomatch h) rfl (fun j y i h=>nomatch h) (zO rfl) (fun _ _ _ _=>(zJ 0 (show (["_law_number_here"] :List Str).Nodup by decide+kernel) rfl (.inl rfl) (.inr rfl))) (fun _ _ _ _=>zV) (fun _ _ _ _=>(zI GWh hr1 rfl mWh FWh.kp bWh .nil zK (qc (qw 0 rfl) zD rfl) rfl rfl rfl)) (fun _=>rfl)) zD rfl) rfl)))))),?_⟩
  refine ⟨_,rfl,_,.ty "list",_,.type "list",_,rfl,rfl,.lst ha,zCH K,_,rfl,zp ?_⟩;refine ⟨_,rfl,a,_,rfl,.inl (SqL.of ha),_,rfl,rfl,_,rfl,?_⟩;refine zIq (by rw [zPc,hn,zPt rfl]) ?_;refine ⟨_,rfl,a,rfl,⟨_,SqL.of ha⟩,fun D hD=>?_⟩;refine zR v.length (fun i ys H'=>i<=v.length/\ys=(List.replicate i true).map V.bl/\H'=L2.upd H D (.lst ys)) ⟨zPk _,rfl,rfl⟩ (by rw [zPg];omega) ?_ ?_ ?_
  ·rintro i ys H2 hi ⟨_,rfl,rfl⟩;have e2:=ha.same (zC.upd hD (o:= .lst ((List.replicate i true).map V.bl)));exact ⟨by simp,zB,fun h=>⟨_,_,SqL.of e2,zT h⟩,fun h=>⟨_,SqL.of e2,by simp;omega⟩⟩
  ·rintro i ys H2 x H3 hi ⟨_,rfl,rfl⟩ ⟨rfl,hx⟩ pre hpre;obtain ⟨p0,rfl⟩:=yQ hpre;have hx':=hx _ (SqL.of (ha.same (zC.upd hD (o:= .lst ((List.replicate i true).map V.bl)))));rw [zT hi] at hx';cases hx';refine ⟨⟨[some (.int (zA v i))],rfl,rfl⟩,zp ?_⟩;refine ⟨_,rfl,_,rfl,zB,hi,?_,by rw [zy]⟩;rw [List.replicate_succ',zPr];rfl
  ·rintro ys H2 ⟨_,rfl,rfl⟩;refine ⟨D,List.replicate v.length true,rfl,SqL.of zB,?_⟩;rw [show (List.replicate v.length true).all id=true by simp];exact q _ (zC.upd hD)
def dot(u v:Vec):Int:=(List.zipWith (fun x y=>x*y) u v).sum
def zID:Sp:=fun vs H Q _=> ∃(a b:Addr) (u v:Vec),vs= [.ref a,.ref b] /\LI H a u/\LI H b v/\v.length<=u.length/\u.length<=1000/\Bts 50000000 u/\Bts 50000000 v/\ ∀H',zC H H'->Q (.int (dot u v)) H'
theorem zPM:FnScope ["_law_row","_law_values"] ["_law_row","_law_values"] (zF zFT):=⟨rfl,rfl,rfl,by decide+kernel,rfl,by decide+kernel,by decide+kernel⟩
theorem zOp{f:Addr}{fd:FuncData}(F:Fun K "_law_sum" "_law_sum" zFT f fd)(B:Bn mg):FnOk P w K mg base CX0 1 f fd ["_law_row","_law_values"] zID:=by
 refine F.ok zPM (fun vs H Q E h=>?_) (fun cdv A outer s H vs Q E hr h=>?_)
 ·obtain ⟨a,b,u,v,rfl,_⟩:=h;rfl
 ·obtain ⟨a,b,u,v,rfl,ha,hb,hl,hn,bu,bv,q⟩:=h;refine ⟨_,QB.out (zM
   (ze (yK (zEL (K:=K) rfl rfl) rfl B.sum zGv (qc (zc (cl:= []) ["_law_here","_law_there"] [] [] rfl (zDV (K:=K) rfl rfl B.zip (qc (qw 0 rfl) (qc (qw 1 rfl) zD rfl) rfl) rfl rfl) rfl (by decide+kernel) rfl (by decide+kernel) (fun _ _ h=>nomatch h) rfl (fun j y i h=>nomatch h) (zO rfl) (fun _ _ _ _=>(zBC (K:=K) (n:=2) rfl rfl (yG (zJ 0 (show (["_law_here","_law_there"] :List Str).Nodup by decide+kernel) rfl (.inl rfl) (.inr rfl)) (yG (zJ 1 (show (["_law_here","_law_there"] :List Str).Nodup by decide+kernel) rfl (.inl rfl) (.inr rfl)) zBB rfl) rfl) rfl rfl)) (fun _ _ _ _=>zV) (fun _ _ _ _=>(zAP (qw 0 rfl) (qw 1 rfl))) (fun _=>rfl)) zD rfl) rfl))),?_⟩
  refine ⟨_,rfl,_,rfl,a,b,rfl,⟨_,SqL.of ha⟩,⟨_,SqL.of hb⟩,fun D hD=>?_⟩;have lz:(List.zipWith (fun x y=>x*y) u v).length=v.length:=by simp;omega
  refine zR v.length (fun i ys H'=>i<=v.length/\ys=((List.zipWith (fun x y=>x*y) u v).take i).map V.int/\zC H H'/\H' D=some (.lst ys)) ⟨zPk _,by simp,zC.upd hD,zB⟩ (by rw [zPg];omega) ?_ ?_ ?_
  ·rintro i ys H' hi ⟨_,rfl,s1,e1⟩;refine ⟨by simp;omega,e1,fun h=>⟨_,_,_,_,SqL.of (ha.same s1),SqL.of (hb.same s1),zT (by omega),zT h⟩,fun h=>⟨_,_,SqL.of (ha.same s1),SqL.of (hb.same s1),.inr (by simp;omega)⟩⟩
  ·rintro i ys H' x H'' hi ⟨_,rfl,s1,e1⟩ ⟨t,x1,y1,hx,hy,ht,rfl,rfl⟩ pre hpre;obtain ⟨p0,p1,rfl⟩:=zh hpre;have hx':=hx _ (SqL.of (ha.same s1));have hy':=hy _ (SqL.of (hb.same s1));rw [zT (show i<u.length by omega)] at hx';rw [zT (show i<v.length by omega)] at hy';cases hx';cases hy';have st:=zC.upd ht (o:= .tup [.int (zA u i),.int (zA v i)]);refine ⟨t,_,rfl,SqT.of zB,rfl,_,_,rfl,_,_,rfl,rfl,⟨[some (.int (zA u i)),some (.int (zA v i))],rfl,rfl⟩,zp ?_⟩;refine ⟨_,rfl,_,rfl,_,_,rfl,rfl,⟨ya (bu i) (by decide),ya (bv i) (by decide)⟩,st _ _ e1,hi,?_,zC.store (s1.trans st) hD,zB⟩;rw [zPs,List.getElem?_zipWith,zPV (show i<u.length by omega),zPV (show i<v.length by omega)];simp [zA,zPV (show i<u.length by omega),zPV (show i<v.length by omega)]
  ·rintro ys H' ⟨_,rfl,s1,e1⟩;rw [List.take_of_length_le (Nat.le_of_eq lz)] at e1;exact ⟨D,_,rfl,SqL.of e1,q _ s1⟩
theorem SqL.but{K:zQK}{H H':Hp}{p a:Addr}{xs:List V}(h:SqL K H a xs)(b:But [p] H H')(hn:a≠p):SqL K H' a xs:=by
 rcases h with (h |⟨o,h⟩)| h
 ·exact .inl (.inl (b _ _ h (by simpa using hn)))
 ·exact .inl (.inr ⟨o,b _ _ h (by simpa using hn)⟩)
 ·exact .inr h
theorem But.upd{H:Hp}{p:Addr}{o:HO}:But [p] H (L2.upd H p o):=fun b u e z=>by rw [zH (by simpa using z)];exact e
def Scr(K:zQK)(H:Hp)(a p:Addr)(ns:List Int):Prop:=(SqL K H a (ns.map V.int)/\a≠p)\/ ∀H',SqL K H' a (ns.map V.int)
theorem Scr.sq{K:zQK}{H:Hp}{a p:Addr}{ns:List Int}(h:Scr K H a p ns):SqL K H a (ns.map V.int):=h.elim (fun h=>h.1) fun h=>h H
theorem Scr.but{K:zQK}{H H':Hp}{a p:Addr}{ns:List Int}(h:Scr K H a p ns)(b:But [p] H H'):Scr K H' a p ns:=h.elim (fun h=> .inl ⟨SqL.but h.1 b h.2,h.2⟩) .inr
theorem Scr.of{K:zQK}{H:Hp}{a p:Addr}{ns:List Int}(h:SqL K H a (ns.map V.int))(hp:H p=none):Scr K H a p ns:=by
 rcases id h with (e |⟨o,e⟩)| e
 ·exact .inl ⟨h,fun z=>by rw [z,hp] at e;cases e⟩
 ·exact .inl ⟨h,fun z=>by rw [z,hp] at e;cases e⟩
 ·exact .inr fun _=> .inr e
def zGr(K:zQK):Sp:=fun vs H Q _=> ∃(a p:Addr) (ns:List Int) (c:Int) (n:Nat) (m:Int),vs= [.ref a,.ref p,.int (n:Int),.int m] /\Scr K H a p ns/\ns.length<=63/\H p=some (.lst [.int c])/\0<=c/\c+n<=1000/\0<=m/\m<=5/\
 ∀l v H',But [p] H H'->H' p=some (.lst [.int (c+n)])->H l=none->LI H' l v->v.length=n->(∀i,(zA v i).natAbs<=5)->Q (.ref l) H'
theorem zIN:FnScope ["_law_script","_law_spot","_law_size","_law_most","_law_found","_law_k","_law_number_here"] ["_law_script","_law_spot","_law_size","_law_most"] (zF zCO):=⟨rfl,rfl,rfl,by decide+kernel,rfl,by decide+kernel,by decide+kernel⟩
theorem zOh{f fN:Addr}{fd fdN:FuncData}(F:Fun K "_law_drawn" "_law_drawn" zCO f fd)(B:Bn mg)
  (FN:Fun K "_law_number" "_law_number" zEM fN fdN) (bN:zL K fdN ["_law_script","_law_k"] []) (mN:mg "_law_number" =some (.ref fN)) (GN:FnOk P w K mg base CX0 2 fN fdN ["_law_script","_law_k"] (zEf K)):FnOk P w K mg base CX0 3 f fd ["_law_script","_law_spot","_law_size","_law_most"] (zGr K):=by
 refine F.ok zIN (fun vs H Q E h=>?_) (fun cdv A outer s H vs Q E hr2 h=>?_)
 ·obtain ⟨a,p,ns,c,n,m,rfl,_⟩:=h;rfl
 ·obtain ⟨a,p,ns,c,n,m,rfl,ha,hns,hp,c0,c1,m0,m1,q⟩:=h;refine ⟨_,QB.out (zE
   (zW 4 zIN.nd rfl (zAU zD) rfl) (zE
   (zAF PassesOwn.never rfl (yZ rfl B.range (qc (qw 2 rfl) zD rfl) rfl) (zJ 5 zIN.nd rfl (Or.inl rfl) (.inr rfl)) (zE
    (zHD (qw 1 rfl) zG (zAM (yA (K:=K) rfl (qw 1 rfl) zG (fun _ _=>rfl)) zG) rfl) (zE
    (zW 6 zIN.nd rfl (zI GN hr2 rfl mN FN.kp bN .nil zK (qc (qw 0 rfl) (qc (yA (K:=K) rfl (qw 1 rfl) zG (fun _ _=>rfl)) zD rfl) rfl) rfl rfl rfl) rfl) (zM
    (zBH (zEG (K:=K) rfl (qw 4 rfl) (zLP (zBZ (zAB (zBo (qw 6 rfl) zG) (zAM (zLP zG (qw 3 rfl)) zG)) (qw 3 rfl)) (zCk zJN rfl B.int zGs (qc (zFv zAm (zAB (qw 6 rfl) zG) zG rfl) zD rfl) rfl)) rfl rfl rfl) rfl)))) (fun _=>rfl)) (zM
   (ze (qw 4 rfl))))),?_⟩
  refine ⟨zPk _,fun l hl=>?_⟩;have hlp:l≠p:=fun z=>by rw [z,hp] at hl;cases hl
  have sl:=zC.upd hl (o:= .lst []);refine ⟨_,rfl,(n:Int),rfl,by omega,by omega,?_⟩;refine yj n (fun i σ H'=> ∃(s5 s6:Option V) (v:Vec),σ= [some (.ref a),some (.ref p),some (.int (n:Int)),some (.int m),some (.ref l),s5,s6] /\i<=n/\v.length=i/\(∀i,(zA v i).natAbs<=5)/\H' l=some (.lst (v.map V.int))/\H' p=some (.lst [.int (c+i)])/\But [p] H H') ⟨none,none,[],rfl,zPk _,rfl,fun _=>by simp [zA],zB,by rw [show c+((0:Nat):Int)=c by omega];exact sl _ _ hp,zC.but sl _⟩ ?_ ?_ ?_ ?_
  ·rintro i σ H1 hi ⟨s5,s6,v,rfl,_⟩;exact hi
  ·rintro σ H1 ⟨s5,s6,v,rfl,_⟩;exact zPZ _
  ·rintro i σ H1 x H2 hi ⟨s5,s6,v,rfl,_,lv,bv,el,ep,bt⟩ ⟨rfl,rfl⟩;refine ⟨_,rfl,p,_,_,_,rfl,rfl,SqL.of ep,rfl,_,_,rfl,rfl,_,rfl,p,_,0,0,rfl,rfl,ep,rfl,?_⟩;have b1:But [p] H2 (L2.upd H2 p (.lst [.int (c+i+1)])):=But.upd;refine ⟨_,rfl,_,rfl,p,_,_,_,rfl,rfl,SqL.of zB,rfl,a,ns,c+i+1,rfl,((ha.but bt).but b1).sq,hns,by omega,by omega,fun r H3 s3 r0 r1=>?_⟩;have el3:=s3 _ _ (b1 _ _ el (by simpa using hlp));have ep3:H3 p=some (.lst [.int (c+i+1)]):=s3 _ _ zB;have mp:(0:Int)<2*m+1:=by omega
   have y0:=zPn (r/3) (show (2*m+1:Int)≠0 by omega);have y1:=zPh (r/3) mp;refine ⟨_,rfl,.inl ⟨rfl,_,SqL.of el3⟩,_,rfl,r,3,rfl,rfl,⟨by decide,by decide⟩,_,rfl,2,m,rfl,rfl,.inl ⟨by decide,by decide⟩,_,_,rfl,rfl,_,_,rfl,rfl,mp,_,rfl,_,_,rfl,rfl,_,rfl,r,3,rfl,rfl,by decide,_,_,rfl,rfl,.inr ⟨_,rfl,_,_,rfl,rfl,.inl ⟨by omega,by omega⟩,l,_,_,rfl,rfl,el3,?_,?_⟩⟩
   ·rw [zPc,zPg];omega
   ·generalize r/3 %(2*m+1)=y at y0 y1⊢;refine ⟨_,_,v++ [(y - m)*(if decide (0<r % 3)=true then 1 else 0)],rfl,hi,by simp [lv],fun j=>?_,?_,?_,?_⟩
    ·have hz:((y - m)*(if decide (0<r % 3)=true then 1 else 0)).natAbs<=5:=by split<;>omega
     generalize (y - m)*(if decide (0<r % 3)=true then 1 else 0)=z at hz⊢;by_cases hj:j<v.length
     ·rw [show zA (v++ [z]) j=zA v j from by simp [zA,List.getElem?_append_left hj]];exact bv j
     ·by_cases hj2:j=v.length
      ·subst hj2;rw [show zA (v++ [z]) v.length=z from by simp [zA]];exact hz
      ·rw [show zA (v++ [z]) j=0 from zi (by simp;omega)];omega
    ·rw [zB,zPr];rfl
    ·rw [zH (Ne.symm hlp),ep3,show c+((i+1:Nat):Int)=c+i+1 by omega]
    ·exact fun b u e z=>by rw [zH (yU e hl)];exact (bt.trans (b1.trans (zC.but s3 _))) b u e z
  ·rintro σ H1 ⟨s5,s6,v,rfl,_,lv,bv,el,ep,bt⟩;exact ⟨_,rfl,q l v H1 bt ep hl el lv bv⟩
end
end Fr
namespace L2
open PySem PySem.Spec PyProof.Rows
section
variable {X:Cx}{K:zQK}
def zHu(K:zQK)(b:Bool):R2:=fun x y H Q=> ∃(p q:Addr) (as bs:List Addr) (f:Nat->List V),x= .ref p/\y= .ref q/\SqL K H p (as.map V.ref)/\SqL K H q (bs.map V.ref)/\as.length=bs.length/\
 (∀i a,as[i]?=some a->SqL K H a (f i))/\(∀i a,bs[i]?=some a->SqL K H a (f i))/\(∀i,∀x∈f i,zDO x=true)/\Q (.bl b) H
theorem zJo{as:List Addr}{us:List Value}(r:zQ (as.map V.ref) us){j:Nat}(h:j<us.length): ∃a,as[j]?=some a/\us[j] = .ref a:=by
 have l:=r.length;rw [zPc] at l;have ha:as[j]?=some as[j] :=zPV (by omega);obtain ⟨u,b,c⟩:=r.get (i:=j) (show (as.map V.ref)[j]?=some (.ref as[j]) by rw [zPa,ha];rfl);rw [zPV h] at b;cases c;exact ⟨_,ha,Option.some.inj b⟩
theorem zEs{A:Around}{pins:List (Addr×Obj)}{σ:St}{H:Hp}{s:Shared}{as bs:List Addr}{f:Nat->List V}{us vs:List Value}(I:Inv X pins σ H s)(hu:A.units+1<cLine)
  (h1: ∀i a,as[i]?=some a->SqL X.K H a (f i)) (h2: ∀i a,bs[i]?=some a->SqL X.K H a (f i)) (hf: ∀i,∀x∈f i,zDO x=true) (r1:zQ (as.map V.ref) us) (r2:zQ (bs.map V.ref) vs):
  ∀j (h1:j<us.toArray.size) (h2:j<vs.toArray.size),SeqAt.EqAt A.in1 s us.toArray[j] vs.toArray[j] ((fun _=>true) j):=by
 intro j g1 g2;obtain ⟨a,ea,ua⟩:=zJo r1 (show j<us.length by simpa using g1);obtain ⟨b,eb,ub⟩:=zJo r2 (show j<vs.length by simpa using g2);show SeqAt.EqAt A.in1 s us[j] vs[j] true;rw [ua,ub];by_cases hab:a=b
 ·subst hab;exact SeqAt.EqAt.same _
 ·obtain ⟨us',q1,t1,_⟩:=I.list (h1 j a ea);obtain ⟨vs',q2,t2,_⟩:=I.list (h2 j b eb);have l1:=q1.length;have l2:=q2.length;refine SeqAt.EqAt.of_refs hab ?_;have z:=SeqAt.RcAt.lists (A:=A.in1) (e:=fun _=>true) t1.isList t2.isList (by simp;omega) (show A.units+1<cLine from hu) (zII (hf j) q1 q2);rw [zCn] at z;exact z
theorem zMK(hK:X.K=K)(hu:X.A.units+1<cLine):OpR X (compareOp .NotEq) (zHu K false):=by
 subst hK;intro pins s σ H x y v u Q I rx ry h;obtain ⟨p,q,as,bs,f,rfl,rfl,e1,e2,hl,h1,h2,hf,hq⟩:=h;cases rx;cases ry;obtain ⟨us,r1,t1,_⟩:=I.list e1;obtain ⟨vs,r2,t2,_⟩:=I.list e2;have l1:=r1.length;have l2:=r2.length;rw [zPc] at l1 l2;have es:us.toArray.size=vs.toArray.size:=by simp;omega
 have z:=SeqAt.RcNeAt.lists (A:=X.A) (e:=fun _=>true) t1.isList t2.isList es (by omega) (zEs I hu h1 h2 hf r1 r2);rw [zCn] at z;refine z _ _ _ _ ?_;exact ⟨.bl false,H,I,rfl,hq⟩
end
section
variable {X:Cx}{K:zQK}
structure SmLL(K:zQK)(H:Hp)(l m:Addr):Prop where
 ex: ∃(as bs:List Addr) (f:Nat->List V),SqL K H l (as.map V.ref)/\SqL K H m (bs.map V.ref)/\as.length=bs.length/\(∀i a,as[i]?=some a->SqL K H a (f i))/\(∀i a,bs[i]?=some a->SqL K H a (f i))/\ ∀i,∀x∈f i,zDO x=true
def zMe(K:zQK)(b:Bool):R2:=fun x y H Q=> ∃(p q l m:Addr) (k:Int),x= .ref p/\y= .ref q/\SqT K H p [.int k,.ref l] /\SqT K H q [.int k,.ref m] /\SmLL K H l m/\Q (.bl b) H
theorem zMh{A:Around}{pins:List (Addr×Obj)}{σ:St}{H:Hp}{s:Shared}{l m:Addr}{k:Int}{us vs:List Value}(I:Inv X pins σ H s)(hu:A.units+2<cLine)(h:SmLL X.K H l m)(r1:zQ [.int k,.ref l] us)(r2:zQ [.int k,.ref m] vs):
  ∀j (h1:j<us.toArray.size) (h2:j<vs.toArray.size),SeqAt.EqAt A.in1 s us.toArray[j] vs.toArray[j] ((fun _=>true) j):=by
 obtain ⟨as,bs,f,e1,e2,hl,h1,h2,hf⟩:=h;obtain ⟨t1,r1⟩: ∃t,us= [.int k t,.ref l] :=by
  cases r1 with
  | cons a b=>
   cases b with
   | cons c d=>
    cases d;obtain ⟨t,rfl⟩:=a;cases c;exact ⟨t,rfl⟩
 obtain ⟨t2,r2⟩: ∃t,vs= [.int k t,.ref m] :=by
  cases r2 with
  | cons a b=>
   cases b with
   | cons c d=>
    cases d;obtain ⟨t,rfl⟩:=a;cases c;exact ⟨t,rfl⟩
 subst r1 r2;intro j g1 g2
 match j,g1,g2 with
 | 0,_,_=>exact zFh (A:=A.in1) (s:=s) (x:= .int k) rfl ⟨_,rfl⟩ ⟨_,rfl⟩
 | 1,_,_=>
  show SeqAt.EqAt A.in1 s (.ref l) (.ref m) true;by_cases hab:l=m
  ·subst hab;exact SeqAt.EqAt.same _
  ·obtain ⟨us',q1,t1,_⟩:=I.list e1;obtain ⟨vs',q2,t2,_⟩:=I.list e2;have l1:=q1.length;have l2:=q2.length;rw [zPc] at l1 l2;refine SeqAt.EqAt.of_refs hab ?_;have z:=SeqAt.RcAt.lists (A:=A.in1) (e:=fun _=>true) t1.isList t2.isList (by simp;omega) (show A.units+1<cLine by omega) (zEs (A:=A.in1) I (show A.units+1+1<cLine by omega) h1 h2 hf q1 q2);rw [zCn] at z;exact z
 | j+2,g1,_=>exact absurd g1 (by simp)
theorem zMU(hK:X.K=K)(hu:X.A.units+2<cLine):OpR X (compareOp .Eq) (zMe K true):=by
 subst hK;intro pins s σ H x y v u Q I rx ry h;obtain ⟨p,q,l,m,k,rfl,rfl,h1,h2,f,hq⟩:=h;cases rx;cases ry;obtain ⟨us,r1,t1,_⟩:=I.tuple h1;obtain ⟨vs,r2,t2,_⟩:=I.tuple h2;have l1:=r1.length;have l2:=r2.length;have z:=SeqAt.RcAt.tuples (A:=X.A) (e:=fun _=>true) (show s.heap.IsTuple p us.toArray from t1) (show s.heap.IsTuple q vs.toArray from t2) (by omega) (zMh I hu f r1 r2);have es:us.toArray.size=vs.toArray.size:=by simp only [zPp];rw [<-l1,<-l2];rfl
 rw [zCn,es] at z;refine z _ _ _ _ ?_;simp only [beq_self_eq_true,Bool.and_self];exact ⟨.bl true,H,I,rfl,hq⟩
variable {o:Expr}{to:TE}{apos cpos:Pos}
end
end L2
namespace FrV
theorem zHz{n m b:Nat}{Es:List Eqn}(ok:EqOk n m b Es)(hn:n<=6)(X:Nat->Fn)(h0: ∀k i,n<=i->X k i=0)(hX: ∀k,k<m-> ∀E∈Es,dt (X k) E.1+zA E.2 k=0):
  ∀(r:List Eqn) (j:Nat) (s:Stt),Run n m b Es j s->Es.drop j=r-> ∃s',yp n (whole Es) Es.length j r s= .inl s'/\Run n m b Es Es.length s'
 | [],j,s,R,h=>by
  have:j=Es.length:=by
   have:=List.drop_eq_nil_iff.mp h;have:=R.jl;omega
  refine ⟨s,by rw [yp],?_⟩;rw [<-this];exact R
 | E::r,j,s,R,h=>by
  have hE:Es[j]?=some E:=by
   have:=congrArg (fun l=>l[0]?) h;simpa using this
  have hm:=zPz hE;have hd:Es.drop (j+1)=r:=by
   rw [<-List.drop_drop,h];rfl
  have et:Es.take (j+1)=Es.take j++ [E] :=by rw [zPs,hE];rfl
  have hf:zAx E s=true:=zJd R.sol (ok.l2 E hm) X h0 fun k hk E' hE'=>hX k hk E' (List.mem_of_mem_take (by rw [<-et] at hE';exact hE'));rw [zDw hf];exact zHz ok hn X h0 hX r (j+1) _ (R.next ok hn hE hf) hd
theorem zCd{n m b:Nat}{Es:List Eqn}(ok:EqOk n m b Es)(hn:n<=6)(X:Nat->Fn)(h0: ∀k i,n<=i->X k i=0)(hX: ∀k,k<m-> ∀E∈Es,dt (X k) E.1+zA E.2 k=0):
  ∃s,yp n (whole Es) Es.length 0 Es (yr n m)= .inl s/\Run n m b Es Es.length s:=zHz ok hn X h0 hX Es 0 _ (Run.start n m b Es) rfl
theorem Run.all{n m b:Nat}{Es:List Eqn}{s:Stt}(R:Run n m b Es Es.length s):Sol n m Es s:=by
 have:=R.sol
 rwa [zPu] at this
def zr:List Stp->List Stp
 | [] => []
 |(p,v)::S=>(p,zU v (zr S))::zr S
theorem zCJ: ∀(S:List Stp),(zr S).length=S.length
 | [] =>rfl
 |(p,v)::S=>by simp [zr,zCJ S]
theorem zEX: ∀{S:List Stp} {q:Stp},q∈zr S-> ∃s∈S,s.1=q.1
 |(p,v)::S,q,h=>by
  rcases List.mem_cons.mp h with rfl | h
  ·exact ⟨(p,v),by simp,rfl⟩
  ·obtain ⟨s,hs,e⟩:=zEX h;exact ⟨s,by simp [hs],e⟩
theorem Sp.cons_iff{p p':Nat}{v v':Vec}{S T:List Stp}(h: ∀x,Sp T x↔Sp S x)(hv:Sp S (fun i=>zA v i - zA v' i))(x:Fn):Sp ((p',v')::T) x↔Sp ((p,v)::S) x:=by
 constructor
 ·rintro ⟨c,hc⟩;exact ⟨c,(Sp.lin 1 (-c) ((h _).mp hc) hv).congr fun i=>by grind⟩
 ·rintro ⟨c,hc⟩;exact ⟨c,(h _).mpr ((Sp.lin 1 c hc hv).congr fun i=>by grind)⟩
theorem zBr{n:Nat}: ∀{S:List Stp},Ech n S->Ech n (zr S)/\Red (zr S)/\ ∀x,Sp (zr S) x↔Sp S x
 | [],h=>⟨trivial,trivial,fun x=>Iff.rfl⟩
 |(p,v)::S,⟨h1,h2,h3,h4,h5,h6⟩=>by
  obtain ⟨e,r,s⟩:=zBr h6;obtain ⟨k1,k2,k3,k4⟩:=yB (r:=v) e h1;have hp: ∀q∈zr S,p<q.1:=fun q hq=>by
   obtain ⟨s,hs,e⟩:=zEX hq;rw [<-e];exact h5 s hs
  refine ⟨⟨k1,h2,by rw [k4 p hp];exact h3,fun j hj=>?_,hp,e⟩,⟨k3,r⟩,fun x=>Sp.cons_iff s ((s _).mp k2) x⟩;rw [k4 j fun q hq=>Nat.lt_trans hj (hp q hq)];exact h4 j hj
theorem zBy{n:Nat}(p:Nat): ∀{k:List Stp},Ech n k->k=k.filter (fun q=>decide (q.1<p))++k.filter (fun q=>decide (q.1=p))++k.filter (fun q=>decide (p<q.1))/\
  ((k.filter fun q=>decide (q.1=p))= [] \/ ∃v,(k.filter fun q=>decide (q.1=p))= [(p,v)])
 | [],_=>⟨rfl,.inl rfl⟩
 |(a,v)::k,⟨h1,h2,h3,h4,h5,h6⟩=>by
  obtain ⟨e,o⟩:=zBy p h6;have none:p<=a->k.filter (fun q=>decide (q.1<p))= [] /\k.filter (fun q=>decide (q.1=p))= [] /\k.filter (fun q=>decide (p<q.1))=k:=fun hpa=>by
   refine ⟨List.filter_eq_nil_iff.mpr fun q hq=>?_,List.filter_eq_nil_iff.mpr fun q hq=>?_,List.filter_eq_self.mpr fun q hq=>?_⟩
   all_goals have:=h5 q hq;simp;omega
  rcases Nat.lt_trichotomy a p with h | h | h
  ·have t: ¬a=p:=by omega
   have u: ¬p<a:=by omega
   simp only [List.filter_cons,h,t,u,decide_true,decide_false,if_true,Bool.false_eq_true,if_false,List.cons_append];exact ⟨by rw [<-e],o⟩
  ·subst h;obtain ⟨n1,n2,n3⟩:=none (zPZ _);simp [List.filter_cons,n1,n2,n3]
  ·have t: ¬a=p:=by omega
   have u: ¬a<p:=by omega
   obtain ⟨n1,n2,n3⟩:=none (zQD h);simp [List.filter_cons,n1,n2,n3,t,u,h]
theorem zHZ{n:Nat}: ∀{A B:List Stp},Ech n A->Ech n B->(∀a∈A,∀b∈B,a.1<b.1)->Ech n (A++B)
 | [],B,_,hB,_=>hB
 |(p,v)::A,B,⟨h1,h2,h3,h4,h5,h6⟩,hB,h=>⟨h1,h2,h3,h4,fun q hq=>by
   rcases List.mem_append.mp hq with z | z
   ·exact h5 q z
   ·exact h (p,v) (by simp) q z,zHZ h6 hB fun a ha b hb=>h a (by simp [ha]) b hb⟩
theorem zAf{n:Nat}(f:Stp->Bool): ∀{k:List Stp},Ech n k->Ech n (k.filter f)
 | [],_=>trivial
 |(p,v)::k,⟨h1,h2,h3,h4,h5,h6⟩=>by
  rw [List.filter_cons];split
  ·exact ⟨h1,h2,h3,h4,fun q hq=>h5 q (List.mem_filter.mp hq).1,zAf f h6⟩
  ·exact zAf f h6
def yx(k:List Stp)(p:Nat)(w:Vec):List Stp:=k.filter (fun q=>decide (q.1<p))++(p,w)::k.filter (fun q=>decide (p<q.1))
theorem zAS{k:List Stp}{p:Nat}{w:Vec}{q:Stp}:q∈yx k p w↔q=(p,w)\/(q∈k/\q.1≠p):=by
 simp only [yx,List.mem_append,List.mem_cons,List.mem_filter,decide_eq_true_eq];constructor
 ·rintro (⟨h,z⟩| rfl |⟨h,z⟩)
  ·exact .inr ⟨h,by omega⟩
  ·exact .inl rfl
  ·exact .inr ⟨h,by omega⟩
 ·rintro (rfl |⟨h,z⟩)
  ·exact .inr (.inl rfl)
  ·rcases Nat.lt_or_gt_of_ne z with y | y
   ·exact .inl ⟨h,y⟩
   ·exact .inr (.inr ⟨h,y⟩)
theorem zIA{n:Nat}{k:List Stp}{p:Nat}{w:Vec}(h:Ech n k)(l:w.length=n)(hp:p<n)(h0:0<zA w p)(hz: ∀j,j<p->zA w j=0):Ech n (yx k p w):=by
 refine zHZ (zAf _ h) ⟨l,hp,h0,hz,fun q hq=>?_,zAf _ h⟩ fun a ha b hb=>?_
 ·simpa using (List.mem_filter.mp hq).2
 ·have h1:a.1<p:=by simpa using (List.mem_filter.mp ha).2
  rcases List.mem_cons.mp hb with rfl | hb
  ·exact h1
  ·have h2:p<b.1:=by simpa using (List.mem_filter.mp hb).2
   omega
theorem zMc{n:Nat}{k:List Stp}{p:Nat}{r:Vec}(hr:r.length=n)(hn: ∀q∈k,q.1≠p){sg:Int}(hs:sg=1\/sg= -1)(x:Fn):Sp (yx k p (zP sg r 0 r)) x↔Sp ((0,r)::k) x:=by
 have e: ∀i,zA (zP sg r 0 r) i=sg*zA r i:=fun i=>by rw [yJ rfl];simp
 constructor
 ·intro h;refine h.of fun q hq=>?_;rcases zAS.mp hq with rfl |⟨hq,_⟩
  ·exact (Sp.smul sg Sp.head).congr fun i=>(e i).symm
  ·exact (Sp.mem hq).tail
 ·intro h;refine h.of fun q hq=>?_;rcases List.mem_cons.mp hq with rfl | hq
  ·refine (Sp.smul sg (Sp.mem (zAS.mpr (.inl rfl)))).congr fun i=>?_;show sg*zA (zP sg r 0 r) i=zA r i;rw [e];rcases hs with rfl | rfl<;>grind
  ·exact Sp.mem (zAS.mpr (.inr ⟨hq,hn q hq⟩))
theorem zMH{n:Nat}{k:List Stp}{p:Nat}{r own:Vec}(hk:Ech n k)(hr:r.length=n)(ho:(p,own)∈k)(hz: ∀j,j<p->zA r j=0){g f1 f2:Int}(g0:0<g)(d1:g∣zA r p)(d2:g∣zA own p)(hf:f1*zA r p+f2*zA own p=g):
  Ech n (yx k p (zP f1 r f2 own))/\(zU (zP (zA own p/g) r (-(zA r p/g)) own) (k.filter fun q=>decide (p<q.1))).length=n/\
  (∀j,j<=p->zA (zU (zP (zA own p/g) r (-(zA r p/g)) own) (k.filter fun q=>decide (p<q.1))) j=0)/\
  ∀x,Sp ((0,zU (zP (zA own p/g) r (-(zA r p/g)) own) (k.filter fun q=>decide (p<q.1)))::yx k p (zP f1 r f2 own)) x↔Sp ((0,r)::k) x:=by
 obtain ⟨o1,o2,o3,o4⟩:=hk.mem ho;simp only at o1 o2 o3 o4;obtain ⟨s,es⟩:=d1;obtain ⟨t,et⟩:=d2;have hs:zA r p/g=s:=by rw [es];exact Int.mul_ediv_cancel_left _ (by omega)
 have ht:zA own p/g=t:=by rw [et];exact Int.mul_ediv_cancel_left _ (by omega)
 have one:f1*s+f2*t=1:=by
  have:g*(f1*s+f2*t)=g*1:=by rw [es,et] at hf;grind
  exact Int.eq_of_mul_eq_mul_left (by omega) this
 rw [hs,ht];have eN:=fun i=>yJ (a:=f1) (b:=f2) (u:=r) (v:=own) (by omega) i;have eM:=fun i=>yJ (a:=t) (b:= -s) (u:=r) (v:=own) (by omega) i;have lM:(zP t r (-s) own).length=n:=zZ hr o1;have hB:=zAf (fun q=>decide (p<q.1)) hk;obtain ⟨k1,k2,k3,k4⟩:=yB (r:=zP t r (-s) own) hB lM;have mB: ∀q∈k.filter (fun q=>decide (p<q.1)),q∈k/\p<q.1:=fun q hq=>by
  have:=List.mem_filter.mp hq;exact ⟨this.1,by simpa using this.2⟩
 refine ⟨zIA hk (zZ hr o1) o2 (by rw [eN,hf];exact g0) (fun j hj=>by rw [eN,hz j hj,o4 j hj];simp),k1,fun j hj=>?_,fun x=>⟨fun h=>h.of fun q hq=>?_,fun h=>h.of fun q hq=>?_⟩⟩
 ·rw [k4 j fun q hq=>by have:=(mB q hq).2;omega,eM];rcases Nat.lt_or_eq_of_le hj with z | rfl
  ·rw [hz j z,o4 j z];simp
  ·rw [es,et];grind
 ·rcases List.mem_cons.mp hq with rfl | hq
  ·have b:Sp ((0,r)::k) (fun i=>zA (zP t r (-s) own) i - zA (zU (zP t r (-s) own) (k.filter fun q=>decide (p<q.1))) i):=k2.of fun q hq=>(Sp.mem (mB q hq).1).tail;have a:Sp ((0,r)::k) (fun i=>t*zA r i+ -s*zA own i):=Sp.lin t (-s) Sp.head (Sp.mem ho).tail;exact (Sp.sub a b).congr fun i=>by simp only;rw [eM];grind
  ·rcases zAS.mp hq with rfl |⟨hq,_⟩
   ·exact (Sp.lin f1 f2 Sp.head (Sp.mem ho).tail).congr fun i=>(eN i).symm
   ·exact (Sp.mem hq).tail
 ·have cN:Sp ((0,zU (zP t r (-s) own) (k.filter fun q=>decide (p<q.1)))::yx k p (zP f1 r f2 own)) (zA (zP f1 r f2 own)):=(Sp.mem (zAS.mpr (.inl rfl))).tail;have cM:Sp ((0,zU (zP t r (-s) own) (k.filter fun q=>decide (p<q.1)))::yx k p (zP f1 r f2 own)) (zA (zP t r (-s) own)):=by
   have b:Sp ((0,zU (zP t r (-s) own) (k.filter fun q=>decide (p<q.1)))::yx k p (zP f1 r f2 own)) (fun i=>zA (zP t r (-s) own) i - zA (zU (zP t r (-s) own) (k.filter fun q=>decide (p<q.1))) i):=k2.of fun q hq=>(Sp.mem (zAS.mpr (.inr ⟨(mB q hq).1,by have:=(mB q hq).2;omega⟩))).tail;exact (Sp.add b Sp.head).congr fun i=>by omega
  rcases List.mem_cons.mp hq with rfl | hq
  ·refine (Sp.lin s f2 cN cM).congr fun i=>?_;rw [eN,eM];have:zA r i*(f1*s+f2*t)=zA r i:=by rw [one];simp
   grind
  ·by_cases hp:q.1=p
   ·have:q=(p,own):=by
     obtain ⟨_,o⟩:=zBy p hk;have m1:q∈k.filter (fun q=>decide (q.1=p)):=List.mem_filter.mpr ⟨hq,by simpa using hp⟩;have m2:(p,own)∈k.filter (fun q=>decide (q.1=p)):=List.mem_filter.mpr ⟨ho,by simp⟩;rcases o with o |⟨v,o⟩
     ·rw [o] at m1;cases m1
     ·rw [o] at m1 m2;rw [List.mem_singleton.mp m1,List.mem_singleton.mp m2]
    subst this;refine (Sp.lin t (-f1) cN cM).congr fun i=>?_;rw [eN,eM];have:zA own i*(f1*s+f2*t)=zA own i:=by rw [one];simp
    grind
   ·exact (Sp.mem (zAS.mpr (.inr ⟨hq,hp⟩))).tail
theorem zDs{n V:Nat}: ∀{S:List Stp} {r:Vec} {b:Nat},Ech n S->r.length=n->Bts b r->(∀q∈S,Bts V q.2)->Bts (b+S.length*(V+1)) (zU r S)
 | [],r,b,_,_,hb,_=>by simpa [zU] using hb
 |(p,v)::S,r,b,⟨h1,h2,h3,h4,h5,h6⟩,hr,hb,hV=>by
  have hv:=hV (p,v) (by simp);have hm:Bts (b+(V+1)) (zP 1 r (-(zA r p/zA v p)) v):=fun i=>by
   rw [yJ (by omega)];have hq:(-(zA r p/zA v p)).natAbs<=(zA r p).natAbs:=by
    rw [Int.natAbs_neg];exact Int.natAbs_ediv_le_natAbs _ _
   have t1:Bt (b+V) (1*zA r i):=by rw [Int.one_mul];exact (hb i).mono (by omega)
   have t2:Bt (b+V) (-(zA r p/zA v p)*zA v i):=Bt.mul (Bt.le (hb p) hq) (hv i);exact (t1.add t2).mono (by omega)
  have:=zDs (b:=b+(V+1)) h6 (zZ hr h1) hm fun q hq=>hV q (by simp [hq]);show Bts _ (zU (zP 1 r (-(zA r p/zA v p)) v) S);refine this.mono ?_;simp only [List.length_cons,Nat.add_mul,Nat.one_mul];omega
theorem zCF{n:Nat}{S:List Stp}(h:Ech n S):S.length<=n:=by
 have: ∀{S:List Stp} {a:Nat},Ech n S->(∀q∈S,a<=q.1)->S.length+a<=n\/S= [] :=fun {S}=>by
  induction S with
  | nil=>exact fun _ _=> .inr rfl
  | cons q S ih=>
   obtain ⟨p,v⟩:=q;rintro a ⟨h1,h2,h3,h4,h5,h6⟩ ha;have hp:=ha (p,v) (by simp);simp only at hp;rcases ih (a:=p+1) h6 (fun q hq=>h5 q hq) with h | h
   ·exact .inl (by simp only [List.length_cons];omega)
   ·subst h;exact .inl (by simp;omega)
 rcases this (a:=0) h (fun _ _=>zPk _) with h | h
 ·omega
 ·rw [h];exact zPk _
theorem zMr{a c:Nat}{x y:Int}(hx:Bt a x)(hy:Bt c y)(h:0<y):Bt c (zu x y).1/\Bt c (zu x y).2.1/\Bt (a+1) (zu x y).2.2:=by
 obtain ⟨g0,d1,d2,e,f0,f1,q0⟩:=zAA (one:=x) h;have gy:(zu x y).1<=y:=Int.le_of_dvd h d2;have qy:y/(zu x y).1<=y:=Int.ediv_le_self _ (by omega);refine ⟨hy.le (by omega),hy.le (by omega),?_⟩;generalize (zu x y).2.1=f at*;generalize (zu x y).2.2=t at*;generalize (zu x y).1=g at*;have h1:(t*y).natAbs<=y.natAbs*(x.natAbs+1):=by
  have:t*y=g - f*x:=by omega
  rw [this];have a1:(g - f*x).natAbs<=g.natAbs+(f*x).natAbs:=by omega
  have a2:(f*x).natAbs<=y.natAbs*x.natAbs:=by rw [Int.natAbs_mul];exact Nat.mul_le_mul (by omega) (zPZ _)
  rw [Nat.mul_add];omega
 rw [Int.natAbs_mul,Nat.mul_comm] at h1;have h2:=Nat.le_of_mul_le_mul_left h1 (by omega);have hx':x.natAbs<=2^a:=hx;have one:1<=2^a:=Nat.one_le_two_pow;show t.natAbs<=2^(a+1);rw [Nat.pow_succ];omega
theorem zHt{u v:Vec}{x y:Int}{k l b c:Nat}(h:u.length=v.length)(h1:Bt k x)(h2:Bts b u)(h3:Bt l y)(h4:Bts c v):Bts (Nat.max (k+b) (l+c)+1) (zP x u y v):=fun i=>by
 rw [yJ h];exact ((h1.mul (h2 i)).mono (Nat.le_max_left _ _)).add ((h3.mul (h4 i)).mono (Nat.le_max_right _ _))
def Cs(G:List Vec):List Stp:=G.map (Prod.mk 0)
theorem zGj{n p:Nat}{e:Vec}(he:e.length=n): ∀{G:List Vec} {y:Fn},(∀g∈G,g.length=n)->Sp (Cs G) y->Sp (Cs (G.map (cross e p))) (fun i=>zA e p*y i - y p*zA e i)
 | [],y,_,h=>fun i=>by show zA e p*y i - y p*zA e i=0;rw [h i,h p];simp
 | g::G,y,hl,⟨c,h⟩=>by
  have ih:=zGj (p:=p) he (fun g hg=>hl g (by simp [hg])) h;refine ⟨c,ih.congr fun i=>?_⟩;show zA e p*(y i - c*zA g i) -(y p - c*zA g p)*zA e i=zA e p*y i - y p*zA e i - c*zA (cross e p g) i;rw [zCm he (hl g (by simp))]
  grind
def pw:Nat->Nat->Nat
 | 0,_=>0
 | k+1,b=>b+2+pw k (2*b+1)
def pvb:Nat->Nat->Nat
 | 0,b=>b
 | k+1,b=>pvb k (2*b+1)
theorem zJK: ∀(k:Nat) (b:Nat),b<=pvb k b
 | 0,_=>zPZ _
 | k+1,b=>zPj (by omega) (zJK k (2*b+1))
theorem zFe{n:Nat}: ∀(S:List Stp) (G:List Vec) (b:Nat),Ech n S->(∀g∈G,g.length=n/\Bts b g)->(∀g∈G,Sp S (zA g))->(∀x,Sp S x-> ∃d:Int,d≠0/\Sp (Cs G) (fun i=>d*x i))->
  (∀q∈S,Bt (pvb S.length b) (zA q.2 q.1))/\ ∀(x:Fn) (B:Nat),Sp S x->(∀q∈S,Bt B (x q.1))-> ∀i,Bt (B+pw S.length b) (x i)
 | [],G,b,_,_,_,_=>⟨fun q hq=>(nomatch hq),fun x B h _ i=>by rw [h i];exact Bt.zero⟩
 |(p,v)::S,G,b,hE,hG,hS,hQ=>by
  have hE':=hE;obtain ⟨h1,h2,h3,h4,h5,h6⟩:=hE;obtain ⟨e,he,hp⟩: ∃e∈G,zA e p≠0:=by
   refine Classical.byContradiction fun z=>?_;have zz: ∀g∈G,zA g p=0:=fun g hg=>Classical.byContradiction fun y=>z ⟨g,hg,y⟩;obtain ⟨d,hd,hs⟩:=hQ (zA v) Sp.head;have: ∀{G:List Vec} {y:Fn},(∀g∈G,zA g p=0)->Sp (Cs G) y->y p=0:=fun {G}=>by
    induction G with
    | nil=>exact fun _ h=>h p
    | cons g G ih=>
     rintro y hg ⟨c,h⟩;have:=ih (fun g h=>hg g (by simp [h])) h;simp only [hg g (by simp),Int.mul_zero,Int.sub_zero] at this;exact this
   have:=this zz hs;rcases Int.mul_eq_zero.mp this with y | y
   ·exact hd y
   ·omega
  obtain ⟨le,be⟩:=hG e he;have hlin: ∀x,Sp ((p,v)::S) x->Sp S (fun i=>zA e p*x i - x p*zA e i):=fun x hx=>
   Sp.rest hE' ((Sp.lin (zA e p) (-(x p)) hx (hS e he)).congr fun i=>by grind) (by grind)
  obtain ⟨i1,i2⟩:=zFe S (G.map (cross e p)) (2*b+1) h6 (fun g' hg'=>by
    obtain ⟨g,hg,rfl⟩:=List.mem_map.mp hg';exact ⟨zDA le (hG g hg).1,zDv le (hG g hg).1 be (hG g hg).2⟩) (fun g' hg'=>by
    obtain ⟨g,hg,rfl⟩:=List.mem_map.mp hg';exact (hlin _ (hS g hg)).congr fun i=>by rw [zCm le (hG g hg).1]) (fun x hx=>by
    obtain ⟨d,hd,hs⟩:=hQ x hx.tail;have hx0:x p=0:=Sp.ahead (j:=p) h6 hx h5;refine ⟨zA e p*d,Int.mul_ne_zero hp hd,(zGj le (fun g hg=>(hG g hg).1) hs).congr fun i=>?_⟩;rw [hx0];grind)
  refine ⟨fun q hq=>?_,fun x B hx hB i=>?_⟩
  ·rcases List.mem_cons.mp hq with rfl | hq
   ·have dv:=Sp.dvd hE' (hS e he) (q:=(p,v)) (by simp) (fun s hs hlt=>by
     rcases List.mem_cons.mp hs with rfl | hs
     ·exact absurd hlt (Nat.lt_irrefl _)
     ·have h1:=h5 s hs;have h2:s.1<p:=hlt;omega)
    have:(zA v p).natAbs<=(zA e p).natAbs:=Nat.le_of_dvd (by omega) (Int.natAbs_dvd_natAbs.mpr dv);exact ((be p).le this).mono (zJK _ _)
   ·exact i1 q hq
  ·have k:=i2 _ (B+b+1) (hlin x hx) (fun q hq=>by
    have t1:Bt (B+b) (zA e p*x q.1):=((be p).mul (hB q (by simp [hq]))).mono (by omega);have t2:Bt (B+b) (x p*zA e q.1):=(hB (p,v) (by simp)).mul (be q.1);have:=t1.add t2.neg
    rwa [<-Int.sub_eq_add_neg] at this) i
   have t3:Bt (B+b) (x p*zA e i):=(hB (p,v) (by simp)).mul (be i);have t4:=(k.mono (show _<=B+b+1+pw S.length (2*b+1) by omega)).add (t3.mono (show _<=B+b+1+pw S.length (2*b+1) by omega));have e2:zA e p*x i - x p*zA e i+x p*zA e i=zA e p*x i:=by omega
   rw [e2] at t4;have:(x i).natAbs<=(zA e p*x i).natAbs:=by
    rw [Int.natAbs_mul];exact Nat.le_mul_of_pos_left _ (by omega)
   refine (t4.le this).mono ?_;show _<=B+(b+2+pw S.length (2*b+1));omega
structure NF(n:Nat)(G:List Vec)(T:List Stp):Prop where
 ech:Ech n T
 red:Red T
 sp: ∀x,Sp T x↔Sp (Cs G) x
 len:T.length<=G.length
def NB(b:Nat):Nat:=127*b+140
theorem zIY{n b:Nat}{G:List Vec}{T:List Stp}(he:Ech n T)(hr:Red T)(hs: ∀x,Sp T x↔Sp (Cs G) x)(hn:n<=6)(hG: ∀g∈G,g.length=n/\Bts b g): ∀q∈T,Bts (NB b) q.2:=fun q hq i=>by
 have l6:T.length<=6:=zPj (zCF he) hn;obtain ⟨k1,k2⟩:=zFe T G b he hG (fun g hg=>(hs _).mpr (Sp.mem (q:=(0,g)) (List.mem_map.mpr ⟨g,hg,rfl⟩))) (fun x hx=>⟨1,by decide,((hs x).mp hx).congr fun i=>by simp⟩);have hp: ∀k,k<=6-> ∀b,pvb k b<=64*b+63/\pw k b<=63*b+69:=fun k hk b=>by
  have:k=0\/k=1\/k=2\/k=3\/k=4\/k=5\/k=6:=by omega
  rcases this with rfl | rfl | rfl | rfl | rfl | rfl | rfl<;>simp only [pvb,pw] <;>omega
 have h1:=hp _ l6 b;have:=k2 (zA q.2) (64*b+63) (Sp.mem hq) (fun r hr'=>by
  have m:=zFM he hr q hq r hr';exact zFt ((k1 r hr').mono h1.1) (by omega) m.2) i
 exact this.mono (by unfold NB;omega)
theorem Sp.perm{A B:List Stp}(h: ∀q,q∈A↔q∈B)(x:Fn):Sp A x↔Sp B x:=⟨fun z=>z.of fun q hq=>Sp.mem ((h q).mp hq),fun z=>z.of fun q hq=>Sp.mem ((h q).mpr hq)⟩
theorem zNM(n:Nat):NF n [] [] :=⟨trivial,trivial,fun x=>Iff.rfl,zPZ _⟩
theorem zHm{n:Nat}{G:List Vec}{T T':List Stp}{v:Vec}(h:NF n G T)(s: ∀x,Sp T' x↔Sp ((0,v)::T) x)(x:Fn):Sp T' x↔Sp (Cs (G++ [v])) x:=by
 refine (s x).trans ((Sp.cons_iff (v:=v) (p:=0) (p':=0) (S:=Cs G) h.sp (Sp.zero _ fun i=>by omega) x).trans (Sp.perm (fun q=>?_) x));simp only [Cs,zPr,List.map_cons,List.map_nil,List.mem_append,List.mem_cons,List.not_mem_nil,or_false];exact Or.comm
theorem NF.uniq{n:Nat}{G G':List Vec}{T T':List Stp}(h:NF n G T)(h':NF n G' T')(e: ∀x,Sp (Cs G) x↔Sp (Cs G') x):T=T':=
 Ech.uniq h.ech h.red h'.ech h'.red fun x=>(h.sp x).trans ((e x).trans (h'.sp x).symm)
end FrV
namespace Fr
open PySem PySem.Spec PyProof.Rows L2 FrM FrV
section
variable {P:Program}{w:World}{K:zQK}{mg:Str->Option Value}{base:Heap}
def LLb(H:Hp)(l:Addr)(vs:List Vec)(p:Addr):Prop:= ∃as,H l=some (.lst (as.map V.ref))/\LIs H as vs/\p∉as/\l≠p
theorem LIs.butp{H H':Hp}{as:List Addr}{vs:List Vec}{p:Addr}(h:LIs H as vs)(b:But [p] H H')(hp:p∉as):LIs H' as vs:=
 Paired.mapM h fun a v ha e=>b _ _ e (by simp only [List.mem_singleton];exact fun z=>hp (z▸ha))
theorem LLb.but{H H':Hp}{l p:Addr}{vs:List Vec}(h:LLb H l vs p)(b:But [p] H H'):LLb H' l vs p:=by
 obtain ⟨as,e,h1,h2,h3⟩:=h;exact ⟨as,b _ _ e (by simpa using h3),h1.butp b h2,h2,h3⟩
theorem LLb.ll{H:Hp}{l p:Addr}{vs:List Vec}(h:LLb H l vs p):LL H l vs:=let ⟨as,e,h1,_⟩:=h;⟨as,e,h1⟩
def Sm(v:Vec):Prop:= ∀i,(zA v i).natAbs<=5
theorem Sm.bts{v:Vec}(h:Sm v):Bts 50000000 v:=fun i=>zPj (zPj (h i) (show 5<=2^3 by decide)) (show 2^3<=2^50000000 from Nat.pow_le_pow_right (by decide) (by decide))
def zq(W:List Vec)(j:Nat):Vec:=W.map fun x=>zA x j
theorem yM{W:List Vec}{j:Nat}:(zq W j).length=W.length:=by simp [zq]
theorem Sm.col{W:List Vec}(h: ∀x∈W,Sm x)(j:Nat):Sm (zq W j):=fun i=>by
 by_cases hi:i<W.length
 ·rw [show zA (zq W j) i=zA W[i] j by simp [zA,zq,zPV hi]];exact h _ (zQA hi) j
 ·rw [zi (by rw [yM];omega)];decide
theorem zEB{K:zQK}{H:Hp}{l D:Addr}{as:List Addr}{R:List Vec}{j:Nat}{jv:Int}{suf rest:L2.St}{Q:VK}(el:H l=some (.lst (as.map V.ref)))(has:LIs H as R)(hj: ∀x∈R,j<x.length)(hl:R.length<=1000)(hD:H D=none)(hv:jv=(j:Int))(hs:suf=some (.int jv)::rest)
  (q:Q (.ref D) (L2.upd H D (.lst ((zq R j).map V.int)))):CompInv (Itl K l) (yR 0) (fun _ H Q=>Q true H) (tOp (zIm K) (yY 0) (yY 1)) 1 suf H D Q:=by
 subst hs hv;have la:=Paired.len has;refine zR as.length (fun i ys H'=>i<=as.length/\ys=((zq R j).take i).map V.int/\H'=L2.upd H D (.lst ys)) ⟨zPk _,by simp,rfl⟩ (by rw [zPg];omega) ?_ ?_ ?_
 ·rintro i ys H2 hi ⟨_,rfl,rfl⟩;have e2:=zC.upd hD (o:= .lst (((zq R j).take i).map V.int)) _ _ el;exact ⟨by simp;omega,zB,fun h=>⟨_,_,SqL.of e2,zPV (by simpa using h)⟩,fun h=>⟨_,SqL.of e2,by simp;omega⟩⟩
 ·rintro i ys H2 x H3 hi ⟨_,rfl,rfl⟩ ⟨rfl,hx⟩ pre hpre;obtain ⟨p0,rfl⟩:=yQ hpre;have s2:=zC.upd hD (o:= .lst (((zq R j).take i).map V.int));have hx':=hx _ (SqL.of (s2 _ _ el));rw [zPa,zPV hi] at hx';cases hx';obtain ⟨u,eu,hu⟩:=Paired.get' has (zPV hi);refine ⟨⟨[some (.ref as[i])],rfl,rfl⟩,zp ?_⟩;refine ⟨_,rfl,_,rfl,as[i],_,_,_,rfl,rfl,SqL.of (hu.same s2),zn (zT (hj u (zPz eu))),zB,hi,?_,by rw [zy]⟩;rw [zPs,zq,zPa,eu];simp
 ·rintro ys H2 ⟨_,rfl,rfl⟩;rw [List.take_of_length_le (by rw [yM];omega)];exact q
theorem Bts.take'{b:Nat}{v:Vec}(h:Bts b v)(k:Nat):Bts b (v.take k):=fun i=>by
 by_cases hi:i<k
 ·rw [show zA (v.take k) i=zA v i by simp [zA,List.getElem?_take,hi]];exact h i
 ·rw [show zA (v.take k) i=0 by simp [zA,List.getElem?_take,hi]];exact zPk _
theorem Bts.col{b:Nat}{W:List Vec}(h: ∀x∈W,Bts b x)(j:Nat):Bts b (zq W j):=fun i=>by
 by_cases hi:i<W.length
 ·rw [show zA (zq W j) i=zA W[i] j by simp [zA,zq,zPV hi]];exact h _ (zQA hi) j
 ·rw [zi (by rw [yM];omega)];exact zPk _
theorem zLj{b:Bool}{ta tb:TE}{σ:L2.St}{H:Hp}{Q:VK}(v:V)(h1:b=true-> ∀Q':VK,Q' v H->ta σ H Q')(h2:b=false-> ∀Q':VK,Q' v H->tb σ H Q')(q:Q v H):if b=true then ta σ H Q else tb σ H Q:=by
 cases b
 ·exact zBY (h2 rfl Q q)
 ·exact zp (h1 rfl Q q)
theorem zOD{u v:Vec}{n i:Nat}(h:u.length=n):zA (u++v) (n+i)=zA v i:=by
 subst h;simp [zA,List.getElem?_append_right]
theorem zAY{K:zQK}{H:Hp}{l D:Addr}{R:List Vec}{suf:L2.St}{Q:VK}(hR:LL H l R)(hl:R.length<=1000)(hD:H D=none)
  (q: ∀rs H',zC H H'->H' D=some (.lst (rs.map V.ref))->LIs H' rs R->(∀a∈rs,H a=none)/\rs.Nodup/\D∉rs->Q (.ref D) H'):CompInv (Itl K l) (yR 0) (fun _ H Q=>Q true H) (tCB (fun xs H Q=> ∃p ys,xs= [V.ref p] /\(SqL K H p ys\/SqT K H p ys)/\ ∀l,H l=none->Q (V.ref l) (upd H l (HO.lst ys))) (zAN (yY 0) zBg)) 1 suf H D Q:=by
 obtain ⟨as,el,has⟩:=hR;have la:=Paired.len has;refine zR as.length (fun i ys H'=> ∃rs:List Addr,i<=as.length/\ys=rs.map V.ref/\LIs H' rs (R.take i)/\rs.length=i/\D∉rs/\(∀a∈rs,H a=none)/\rs.Nodup/\zC H H'/\H' D=some (.lst ys)) ⟨[],zPk _,rfl,by rw [List.take_zero];exact .nil,rfl,by simp,by simp,.nil,zC.upd hD,zB⟩ (by rw [zPg];omega) ?_ ?_ ?_
 ·rintro i ys H1 hi ⟨rs,_,rfl,_,hrl,_,_,_,s1,e1⟩;have e2:=s1 _ _ el;exact ⟨by simp;omega,e1,fun h=>⟨_,_,SqL.of e2,zPV (by simpa using h)⟩,fun h=>⟨_,SqL.of e2,by simp;omega⟩⟩
 ·rintro i ys H1 x H2 hi ⟨rs,_,rfl,hrs,hrl,hnd,hno,hdp,s1,e1⟩ ⟨rfl,hx⟩ pre hpre;obtain ⟨p0,rfl⟩:=yQ hpre;have hx':=hx _ (SqL.of (s1 _ _ el));rw [zPa,zPV hi] at hx';cases hx';obtain ⟨u,eu,hu⟩:=Paired.get' has (zPV hi);refine ⟨⟨[some (.ref as[i])],rfl,rfl⟩,zp ?_⟩;refine ⟨_,rfl,as[i],_,rfl,.inl (SqL.of (hu.same s1)),fun p hp=>?_⟩;have sc:=zC.upd hp (o:= .lst (u.map V.int));have hne:p≠D:=fun z=>by rw [z,e1] at hp;cases hp
  refine ⟨sc _ _ e1,rs++ [p],hi,by simp,?_,by simp [hrl],by simp [hnd,Ne.symm hne],fun a ha=>?_,?_,zC.store (s1.trans sc) hD,zB⟩
  ·rw [zPs,eu];refine Paired.snoc' (Paired.mapM hrs fun a v hm ea=>?_) ?_
   ·have z:=sc _ _ ea;show L2.upd _ D _ a=_;rw [zH fun haD=>hnd (by rw [<-haD];exact hm)];exact z
   ·show L2.upd _ D _ p=_;rw [zH hne,zB]
  ·rcases List.mem_append.mp ha with h | h
   ·exact hno a h
   ·rw [List.mem_singleton.mp h];exact zC.none s1 hp
  ·refine List.nodup_append.mpr ⟨hdp,by simp,fun a ha b hb=>?_⟩;rw [List.mem_singleton.mp hb];obtain ⟨j,hj⟩:=List.mem_iff_getElem?.mp ha;obtain ⟨v,_,hv⟩:=Paired.get' hrs hj;exact fun z=>by rw [<-z,show _=some _ from hv] at hp;cases hp
 ·rintro ys H1 ⟨rs,_,rfl,hrs,_,hnd,hno,hdp,s1,e1⟩;rw [List.take_of_length_le (by omega)] at hrs;exact q rs _ s1 e1 hrs ⟨hno,hdp,hnd⟩
theorem zMg{K:zQK}{H:Hp}{l D:Addr}{R:List Vec}{m:Nat}{suf rest:L2.St}{Q:VK}(hR:LL H l R)(hl:R.length<=1000)(hm: ∀x∈R,x.length=m)(h1000:m<=1000)(hD:H D=none)(hs:suf=some (.int (m:Int))::rest)
  (q: ∀H',zC H H'->H' D=some (.lst ((List.replicate R.length true).map V.bl))->Q (.ref D) H'):CompInv (Itl K l) (yR 0) (fun _ H Q=>Q true H) (zFs zFu [] E0 (zAN (yY 0) (zAN (yY 1) zBg))) 1 suf H D Q:=by
 subst hs;obtain ⟨as,el,has⟩:=hR;have la:=Paired.len has;refine zR as.length (fun i ys H'=>i<=as.length/\ys=(List.replicate i true).map V.bl/\zC H H'/\H' D=some (.lst ys)) ⟨zPk _,rfl,zC.upd hD,zB⟩ (by rw [zPg];omega) ?_ ?_ ?_
 ·rintro i ys H2 hi ⟨_,rfl,s2,e2⟩;have e3:=s2 _ _ el;exact ⟨by simp,e2,fun h=>⟨_,_,SqL.of e3,zPV (by simpa using h)⟩,fun h=>⟨_,SqL.of e3,by simp;omega⟩⟩
 ·rintro i ys H2 x H3 hi ⟨_,rfl,s2,e2⟩ ⟨rfl,hx'⟩ pre hpre;obtain ⟨p0,rfl⟩:=yQ hpre;have hx':=hx' _ (SqL.of (s2 _ _ el));rw [zPa,zPV hi] at hx';cases hx';obtain ⟨v,ev,hv⟩:=Paired.get' has (zPV hi);refine ⟨⟨[some (.ref as[i])],rfl,rfl⟩,zp ?_⟩;refine ⟨_,rfl,_,rfl,as[i],v,m,rfl,hv.same s2,hm v (zPz ev),h1000,fun H4 s4=>⟨s4 _ _ e2,hi,?_,zC.store (s2.trans s4) hD,zB⟩⟩;rw [List.replicate_succ',zPr];rfl
 ·rintro ys H2 ⟨_,rfl,s2,e2⟩;rw [la] at e2;exact q _ s2 e2
theorem zNq{K:zQK}{H:Hp}{p q:Addr}{R:List Vec}{b:Bool}{Q:VK}(h1:LL H p R)(h2:LL H q R)(hq:Q (.bl b) H):zHu K b (.ref p) (.ref q) H Q:=by
 obtain ⟨as,e1,hs1⟩:=h1;obtain ⟨bs',e2,hs2⟩:=h2;refine ⟨p,q,as,bs',fun i=>(R.getD i []).map V.int,rfl,rfl,SqL.of e1,SqL.of e2,by rw [Paired.len hs1,Paired.len hs2],fun i a h=>?_,fun i a h=>?_,fun i x hx=>?_,hq⟩
 ·obtain ⟨v,ev,hv⟩:=Paired.get' hs1 h;show SqL K H a (((R[i]?).getD []).map V.int);rw [ev];exact SqL.of hv
 ·obtain ⟨v,ev,hv⟩:=Paired.get' hs2 h;show SqL K H a (((R[i]?).getD []).map V.int);rw [ev];exact SqL.of hv
 ·obtain ⟨z,_,rfl⟩:=List.mem_map.mp hx;rfl
theorem LL.at{H:Hp}{l:Addr}{vs:List Vec}(h:LL H l vs): ∃ys,H l=some (.lst ys)/\ys.length=vs.length:=let ⟨as,e,p⟩:=h;⟨_,e,by rw [zPc,Paired.len p]⟩
theorem zJp{u v:Vec}{n:Nat}(h1:u.length=n)(h2:v.length=n):dot u v=((List.range n).map fun i=>zA u i*zA v i).sum:=by
 unfold dot;congr 1;refine List.ext_getElem? fun i=>?_;rw [List.getElem?_zipWith,zPa];by_cases hi:i<n
 ·rw [List.getElem?_range hi,zPV (show i<u.length by omega),zPV (show i<v.length by omega)];simp [zA,zPV (show i<u.length by omega),zPV (show i<v.length by omega)]
 ·rw [List.getElem?_eq_none (show u.length<=i by omega),List.getElem?_eq_none (show (List.range n).length<=i by simp;omega)];rfl
theorem zMS{u w v:Vec}(h:v.length=u.length):dot (u++w) v=dot u v:=by
 unfold dot;congr 1;refine List.ext_getElem? fun i=>?_;rw [List.getElem?_zipWith,List.getElem?_zipWith];by_cases hi:i<u.length
 ·rw [List.getElem?_append_left hi]
 ·rw [List.getElem?_eq_none (show v.length<=i by omega),List.getElem?_eq_none (show u.length<=i by omega)];cases (u++w)[i]?<;>rfl
theorem zKC{v:Vec}{n i:Nat}:zA (v.take n) i=if i<n then zA v i else 0:=by
 by_cases h:i<n
 ·simp [zA,List.getElem?_take,h]
 ·simp [zA,List.getElem?_take,h]
theorem zJx{v:Vec}{n i:Nat}:zA (v.drop n) i=zA v (n+i):=by simp [zA,List.getElem?_drop]
theorem zEv{b1:Bool}{u:TT}{σ:L2.St}{H:Hp}{Q:Bool->Hp->Prop}(b2:Bool)(h:b1=true-> ∀Q':Bool->Hp->Prop,Q' b2 H->u σ H Q')(q:Q (b1&&b2) H):if b1=true then u σ H Q else Q false H:=by
 cases b1
 ·exact zBY q
 ·exact zp (h rfl Q q)
theorem zJU{n j:Nat}(h:j<n):ixN n (j:Int)=some j:=by
 rw [ixN,if_pos (by omega),if_pos (by omega)];rfl
end
section
variable {P:Program}{w:World}{K:zQK}{mg:Str->Option Value}{base:Heap}
def zHs(v:Vec)(pv:V):Prop:=(pv= .non/\ ∀i,zA v i=0)\/ ∃p:Nat,pv= .int (p:Int)/\p<v.length/\zA v p≠0/\ ∀j,j<p->zA v j=0
def zFY:Sp:=fun vs H Q _=> ∃(a:Addr) (v:Vec),vs= [.ref a] /\LI H a v/\v.length<=1000/\ ∀pv H',zC H H'->zHs v pv->Q pv H'
theorem zFP:FnScope ["vector","place","number"] ["vector"] (zF zDC):=⟨rfl,rfl,rfl,by decide+kernel,rfl,by decide+kernel,by decide+kernel⟩
theorem zJs{f:Addr}{fd:FuncData}(F:Fun K "first_place" "first_place" zDC f fd)(B:Bn mg):FnOk P w K mg base CX0 1 f fd ["vector"] zFY:=by
 refine F.ok zFP (fun vs H Q E h=>?_) (fun cdv A outer s H vs Q E hr h=>?_)
 ·obtain ⟨a,v,rfl,_⟩:=h;rfl
 ·obtain ⟨a,v,rfl,ha,hl,q⟩:=h;refine ⟨_,QB.out (zE
   (zAF PassesOwn.never rfl (zGt (K:=K) rfl rfl B.enumerate (qc (qw 0 rfl) zD rfl) rfl) (zBC (K:=K) (n:=2) rfl rfl (yG (zJ 1 zFP.nd rfl (Or.inl rfl) (.inr rfl)) (yG (zJ 2 zFP.nd rfl (Or.inl rfl) (.inr rfl)) zBB rfl) rfl) rfl rfl) (zM
    (yX (zl zBF (qw 2 rfl) zG rfl) (zM
     (ze (qw 1 rfl))) yV)) (fun _=>rfl)) (zM
   (ze zDc))),?_⟩
  refine ⟨_,rfl,a,rfl,⟨_,SqL.of ha⟩,?_⟩;refine yj v.length (fun i σ H'=> ∃s1 s2:Option V,σ= [some (.ref a),s1,s2] /\i<=v.length/\zC H H'/\ ∀j,j<i->zA v j=0) ⟨none,none,rfl,zPk _,zC.refl H,fun j h=>absurd h (Nat.not_lt_zero _)⟩ ?_ ?_ ?_ ?_
  ·rintro i σ H' hi ⟨_,_,rfl,_,s1,_⟩;exact ⟨_,_,SqL.of (ha.same s1),zT hi⟩
  ·rintro σ H' ⟨_,_,rfl,_,s1,_⟩;exact ⟨_,SqL.of (ha.same s1),by simp⟩
  ·rintro i σ H' x H'' hi ⟨_,_,rfl,_,s1,z⟩ ⟨t,y,hy,ht,rfl,rfl⟩;have hy':=hy _ (SqL.of (ha.same s1));rw [zT hi] at hy';cases hy';have st:=zC.upd ht (o:= .tup [.int (i:Int),.int (zA v i)]);refine ⟨t,_,rfl,SqT.of zB,rfl,_,_,rfl,_,_,rfl,rfl,?_⟩;refine ⟨_,rfl,rfl,_,rfl,?_⟩;refine yl (fun c=>?_) (fun c=>?_)
   ·exact ⟨_,rfl,q _ _ (s1.trans st) (.inr ⟨i,rfl,hi,by simpa using c,z⟩)⟩
   ·refine ⟨_,_,rfl,hi,s1.trans st,fun j hj=>?_⟩;rcases Nat.lt_or_eq_of_le (Nat.le_of_lt_succ hj) with h | rfl
    ·exact z j h
    ·simpa using c
  ·rintro σ H' ⟨_,_,rfl,_,s1,z⟩;refine q _ _ s1 (.inl ⟨rfl,fun i=>?_⟩)
   ·by_cases h:i<v.length
    ·exact z i h
    ·exact zi (by omega)
def zGR(C:Addr):Sp:=fun vs H Q _=> ∃(l:Addr) (S:List Stp) (n R W:Nat),vs= [.ref l] /\StL C H l S/\Ech n S/\n<=12/\(∀q∈S,Bts R q.2)/\(∀q∈zr S,Bts W q.2)/\R+12*(W+1)+W<=50000000/\ ∀l' H',zC H H'->StL C H' l' (zr S)->Q (.ref l') H'
theorem zGa:FnScope ["steps","kept","step"] ["steps"] (zF zEg):=⟨rfl,rfl,rfl,by decide+kernel,rfl,by decide+kernel,by decide+kernel⟩
theorem zDP: ∀(S:List Stp) (i:Nat),zr (S.drop i)=(zr S).drop i
 | [],i=>by simp [zr]
 |(p,v)::S,0=>rfl
 |(p,v)::S,i+1=>by rw [List.drop_succ_cons,zDP S i,zr,List.drop_succ_cons]
theorem zLf{f fL fS C:Addr}{fd fdL fdS:FuncData}(F:Fun K "all_lessened" "all_lessened" zEg f fd)(B:Bn mg)(T:SC K C)
  (FL:Fun K "lessened" "lessened" zBP fL fdL) (bL:zL K fdL ["vector","steps"] []) (mL:mg "lessened" =some (.ref fL)) (GL:FnOk P w K mg base CX0 34 fL fdL ["vector","steps"] (zBp C))
  (bS:zL K fdS ["self","place","vector"] []) (MS:Mk K C fS) (mS:mg "Step" =some (.ref C)) (GS:FnOk P w K mg base CX0 1 fS fdS ["self","place","vector"] (zBM C)):FnOk P w K mg base CX0 35 f fd ["steps"] (zGR C):=by
 refine F.ok zGa (fun vs H Q E h=>?_) (fun cdv A outer s H vs Q E hr34 h=>?_)
 ·obtain ⟨l,S,n,R,W,rfl,_⟩:=h;rfl
 ·obtain ⟨l,S,n,R,W,rfl,⟨os,el,hs⟩,hE,hn,bR,bW,hz,q⟩:=h;have hr2:Room 2 _:=hr34.mono (by decide);have lS:=Paired.len hs;have S12:S.length<=12:=zPj (zCF hE) hn;refine ⟨_,QB.out (zE
   (zW 1 zGa.nd rfl (zAU zD) rfl) (zE
   (zAF PassesOwn.never rfl (zIn (K:=K) rfl rfl B.reversed (qc (qw 0 rfl) zD rfl) rfl) (zJ 2 zGa.nd rfl (Or.inl rfl) (.inr rfl)) (zM
    (zBH (zDQ (K:=K) rfl (qw 1 rfl) (zBq MS GS hr2 rfl mS bS .nil zK (qc (zk (K:=K) rfl (qw 2 rfl) rfl) (qc (zI GL hr34 rfl mL FL.kp bL .nil zK (qc (zk (K:=K) rfl (qw 2 rfl) rfl) (qc (qw 1 rfl) zD rfl) rfl) rfl rfl rfl) zD rfl) rfl) rfl rfl rfl) rfl rfl rfl) rfl)) (fun _=>rfl)) (zM
   (ze (qw 1 rfl))))),?_⟩
  refine ⟨bs 0,fun kl hkl=>?_⟩;refine ⟨_,rfl,l,_,rfl,SqL.of (zC.upd hkl _ _ el),?_⟩;refine yj S.length (fun i σ H'=> ∃(os':List Addr) (s2:Option V),σ= [some (.ref l),some (.ref kl),s2] /\i<=S.length/\zC H H'/\H' kl=some (.lst (os'.map V.ref))/\StA C H' os' (zr (S.drop (S.length - i)))) ⟨[],none,rfl,zPk _,zC.upd hkl,zB,by rw [Nat.sub_zero,List.drop_length];exact .nil⟩ ?_ ?_ ?_ ?_
  ·rintro i σ H' hi ⟨os',s2,rfl,_,s1,ek,hk⟩;exact ⟨by simp;omega,_,_,SqL.of (s1 _ _ el),zPV (by simp;omega)⟩
  ·rintro σ H' ⟨os',s2,rfl,_⟩;show (os.map V.ref).length<=S.length;simp;omega
  ·rintro i σ H' x H'' hi ⟨os',s2,rfl,_,s1,ek,hk⟩ ⟨rfl,hx⟩;have hx':=hx _ (SqL.of (s1 _ _ el));have hlen:(os.map V.ref).length=S.length:=by simp;omega
   rw [hlen] at hx';have hj:S.length - 1 - i<os.length:=by omega
   rw [zPa,zPV hj] at hx';cases hx';obtain ⟨⟨p,u⟩,eS,hso⟩:=Paired.get' hs (zPV hj);generalize os[S.length - 1 - i] =o at hso⊢;obtain ⟨dx,a,ho,hu⟩:=hso;have eD:S.drop (S.length -(i+1))=(p,u)::S.drop (S.length - i):=by
    have h1:S.length -(i+1)=S.length - 1 - i:=by omega
    rw [h1,List.drop_eq_getElem_cons (show S.length - 1 - i<S.length by omega)];rw [zPV (show S.length - 1 - i<S.length by omega)] at eS;rw [Option.some.inj eS];congr 2;omega
   have hmemS:(p,u)∈S:=zPz eS;obtain ⟨u1,u2,u3,u4⟩:=hE.mem hmemS;simp only at u1 u2 u3 u4;have hE':Ech n (S.drop (S.length - i)):=zAK hE (List.drop_suffix _ _);have hA:=(zBr hE').1;have lA:(zr (S.drop (S.length - i))).length<=12:=by rw [zCJ,List.length_drop];omega
   have bA: ∀q∈zr (S.drop (S.length - i)),Bts W q.2:=fun q hq=>bW q (by rw [zDP] at hq;exact List.mem_of_mem_drop hq);rw [eD];generalize S.drop (S.length - i)=S' at*;have lk:=Paired.len hk;have ho1:=s1 _ _ ho;have hu1:=hu.same s1;have mulk:(zr S').length*(W+1)<=12*(W+1):=Nat.mul_le_mul_right _ lA;refine ⟨_,rfl,.inl ⟨rfl,_,SqL.of ek⟩,_,rfl,o,C,dx,_,_,rfl,ho1,T.cl,T.n1,rfl,_,rfl,o,C,dx,_,_,rfl,ho1,T.cl,T.n2,rfl,_,rfl,a,kl,u,zr S',n,R,W,rfl,hu1,⟨os',ek,hk⟩,u1,by omega,by omega,fun q hq=>let ⟨z1,z2,z3,_⟩:=hA.mem hq;⟨z1,z2,z3,bA q hq⟩,bR _ hmemS,by omega,fun ll H5 s5 _ hl5=>?_⟩;intro x dx2 hx5 hdx5 hne5;have sx:zC H5 (L2.upd (L2.upd (L2.upd H5 dx2 (.own x)) x (.ins C dx2 [])) x (.ins C dx2 [("place",.int (p:Int)),("vector",.ref ll)])):=zC.store (zC.store (zC.upd hdx5) hx5) hx5;have ex:(L2.upd (L2.upd (L2.upd H5 dx2 (.own x)) x (.ins C dx2 [])) x (.ins C dx2 [("place",.int (p:Int)),("vector",.ref ll)])) x=some (.ins C dx2 [("place",.int (p:Int)),("vector",.ref ll)]):=zB;refine ⟨x,dx2,_,_,rfl,zB,rfl,?_⟩;generalize L2.upd (L2.upd (L2.upd H5 dx2 (.own x)) x (.ins C dx2 [])) x (.ins C dx2 [("place",.int (p:Int)),("vector",.ref ll)])=H6 at sx ex⊢;have s16:zC H'' H6:=s5.trans sx;have ek6:=s16 _ _ ek;refine ⟨kl,_,_,rfl,rfl,ek6,by rw [zPg];simp;omega,?_⟩;have hk6:StA C H6 (x::os') ((p,zU u (zr S'))::zr S'):= .cons ⟨dx2,ll,ex,hl5.same sx⟩ (StA.same hk s16);have lne:=yB hA u1;refine ⟨x::os',_,rfl,hi,zC.store (s1.trans s16) hkl,zB,StA.store hk6 (fun q hq z=>?_) ek6⟩;rcases List.mem_cons.mp hq with rfl | hq
   ·have:=lne.1;rw [show zU u (zr S')= [] from z] at this;simp at this;omega
   ·have:=(hA.mem hq).1;rw [z] at this;simp at this;omega
  ·rintro σ H' ⟨os',s2,rfl,_,s1,ek,hk⟩;rw [Nat.sub_self,List.drop_zero] at hk;exact ⟨_,rfl,q kl _ s1 ⟨os',ek,hk⟩⟩
end
section
variable {P:Program}{w:World}{K:zQK}{mg:Str->Option Value}{base:Heap}
structure W1Ok(n b Y W:Nat)(S:List Stp)(v:Vec):Prop where
 ech:Ech n S
 vl:v.length=n
 nn:n<=6
 bS: ∀q∈S,Bts Y q.2
 bv:Bts b v
 bT: ∀T,Ech n T->Red T->(∀x,Sp T x↔Sp ((0,v)::S) x)-> ∀q∈T,Bts W q.2
 sz:b+60*(Y+1)+14*(W+1)<=20000000
def zEw(C:Addr):Sp:=fun vs H Q _=> ∃(l r:Addr) (S:List Stp) (v:Vec) (n b Y W:Nat),vs= [.ref l,.ref r] /\StL C H l S/\LI H r v/\W1Ok n b Y W S v/\
 ∀T l' H',zC H H'->StL C H' l' T->Ech n T->Red T->(∀x,Sp T x↔Sp ((0,v)::S) x)->T.length<=S.length+1->Q (.ref l') H'
theorem yT:FnScope ["steps","vector","kept","rest","place","ahead","behind","there","sign","own","found"] ["steps","vector"] (zF zCV):=⟨rfl,rfl,rfl,by decide+kernel,rfl,by decide+kernel,by decide+kernel⟩
structure W1I(C:Addr)(n b Y:Nat)(S:List Stp)(v:Vec)(H0 H:Hp)(kl rl:Addr)(pv:V)(k:List Stp)(rest:Vec):Prop where
 sm:zC H0 H
 ok:StL C H kl k
 or:LI H rl rest
 ech:Ech n k
 len:rest.length=n
 bk: ∀q∈k,Bts (b+48*(Y+1)) q.2
 at_:(pv= .non/\(∀x,Sp k x↔Sp ((0,v)::S) x)/\k.length<=S.length+1)\/
  ∃p t:Nat,pv= .int (p:Int)/\(∀x,Sp ((0,rest)::k) x↔Sp ((0,v)::S) x)/\k.length<=S.length/\p<n/\zA rest p≠0/\(∀j,j<p->zA rest j=0)/\t<=p/\Bts (b+6*(Y+1)+t*(7*(Y+1))) rest/\ ∀q∈k,p<=q.1->Bts Y q.2
theorem zIs{k:List Stp}{r:Vec}(h: ∀i,zA r i=0)(x:Fn):Sp ((0,r)::k) x↔Sp k x:=⟨fun ⟨c,z⟩=>z.congr fun i=>by rw [h];simp,fun z=>z.tail⟩
theorem W1I.of{C:Addr}{n b Y:Nat}{S:List Stp}{v:Vec}{H0 H:Hp}{kl rl:Addr}{pv:V}{k:List Stp}{rest:Vec}{t a:Nat}(f:zHs rest pv)(sm:zC H0 H)(ok:StL C H kl k)(or:LI H rl rest)(ech:Ech n k)(len:rest.length=n)(bk: ∀q∈k,Bts (b+48*(Y+1)) q.2)
  (sp: ∀x,Sp ((0,rest)::k) x↔Sp ((0,v)::S) x) (kl':k.length<=S.length) (hz: ∀j,j<a->zA rest j=0) (ht:t<=a) (hb:Bts (b+6*(Y+1)+t*(7*(Y+1))) rest) (hY: ∀q∈k,a<=q.1->Bts Y q.2):W1I C n b Y S v H0 H kl rl pv k rest:=by
 refine ⟨sm,ok,or,ech,len,bk,?_⟩;rcases f with ⟨e,z⟩|⟨p,e,h1,h2,h3⟩
 ·exact .inl ⟨e,fun x=>(zIs z x).symm.trans (sp x),by omega⟩
 ·have:a<=p:=by
   rcases Nat.lt_or_ge p a with h | h
   ·exact absurd (hz p h) h2
   ·exact h
  exact .inr ⟨p,t,e,sp,kl',by omega,h2,h3,by omega,hb,fun q hq h=>hY q hq (by omega)⟩
theorem zGX{K:zQK}{C:Addr}(T:SC K C)(R:Int->Int->Bool){H:Hp}{l D:Addr}{os:List Addr}{k:List Stp}{p:Nat}{suf rest:L2.St}{Q:VK}(el:H l=some (.lst (os.map V.ref)))(hk:StA C H os k)(hl:k.length<=100)(hD:H D=none)(hs:suf=some (.int (p:Int))::rest)
  (q: ∀os',StA C H os' (k.filter fun q=>R (q.1:Int) (p:Int))->Q (.ref D) (L2.upd H D (.lst (os'.map V.ref)))):
  CompInv (Itl K l) (yR 0) (zFr (tOp (rI0 fun i j=>V.bl (R i j)) (zEy K (yY 0) "place") (yY 1))) (yY 0) 1 suf H D Q:=by
 subst hs;have lo:=Paired.len hk;refine zR os.length (fun i ys H'=> ∃os',i<=os.length/\ys=os'.map V.ref/\os'.length<=i/\StA C H os' ((k.take i).filter fun q=>R (q.1:Int) (p:Int))/\H'=L2.upd H D (.lst ys)) ⟨[],zPk _,rfl,zPZ _,.nil,rfl⟩ (by rw [zPg];omega) ?_ ?_ ?_
 ·rintro i ys H2 hi ⟨os',_,rfl,l',_,rfl⟩;have e2:=zC.upd hD (o:= .lst (os'.map V.ref)) _ _ el;exact ⟨by rw [zPc];omega,zB,fun h=>⟨_,_,SqL.of e2,zPV (by simpa using h)⟩,fun h=>⟨_,SqL.of e2,by simp;omega⟩⟩
 ·rintro i ys H2 x H3 hi ⟨os',_,rfl,l',hf,rfl⟩ ⟨rfl,hx⟩ pre hpre;obtain ⟨p0,rfl⟩:=yQ hpre;have s2:=zC.upd hD (o:= .lst (os'.map V.ref));have hx':=hx _ (SqL.of (s2 _ _ el));rw [zPa,zPV hi] at hx';cases hx';obtain ⟨⟨a,u⟩,eu,hso⟩:=Paired.get' hk (zPV hi);have hso':=hso;obtain ⟨dx,va,ho,hu⟩:=hso;have et:k.take (i+1)=k.take i++ [(a,u)] :=by rw [zPs,eu];rfl
  refine ⟨⟨[some (.ref os[i])],rfl,rfl⟩,?_⟩;refine ⟨_,rfl,os[i],C,dx,_,_,rfl,s2 _ _ ho,T.cl,T.n1,rfl,_,rfl,_,_,rfl,rfl,_,rfl,yl (fun c=>?_) (fun c=>?_)⟩
  ·refine ⟨_,rfl,zB,os'++ [os[i]],hi,by simp,by simp;omega,?_,by rw [zy]⟩;rw [et,List.filter_append];simp only [List.filter_cons,c,if_true,List.filter_nil];exact Paired.snoc' hf hso'
  ·refine ⟨os',hi,rfl,by omega,?_,rfl⟩;rw [et,List.filter_append];simp only [List.filter_cons,c,Bool.false_eq_true,if_false,List.filter_nil,zPw];exact hf
 ·rintro ys H2 ⟨os',_,rfl,_,hf,rfl⟩;rw [List.take_of_length_le (by omega)] at hf;exact q os' hf
theorem zId{K:zQK}{C:Addr}(T:SC K C){H:Hp}{l D:Addr}{os:List Addr}{k:List Stp}{p:Nat}{suf rest:L2.St}{Q:VK}(el:H l=some (.lst (os.map V.ref)))(hk:StA C H os k)(hl:k.length<=100)(hD:H D=none)(hs:suf=some (.int (p:Int))::rest)
  (q: ∀as,LIs H as ((k.filter fun q=>decide (q.1=p)).map (·.2))->Q (.ref D) (L2.upd H D (.lst (as.map V.ref)))):
  CompInv (Itl K l) (yR 0) (zFr (tOp rEq (zEy K (yY 0) "place") (yY 1))) (zEy K (yY 0) "vector") 1 suf H D Q:=by
 subst hs;have lo:=Paired.len hk;refine zR os.length (fun i ys H'=> ∃as:List Addr,i<=os.length/\ys=as.map V.ref/\as.length<=i/\LIs H as (((k.take i).filter fun q=>decide (q.1=p)).map (·.2))/\H'=L2.upd H D (.lst ys)) ⟨[],zPk _,rfl,zPZ _,.nil,rfl⟩ (by rw [zPg];omega) ?_ ?_ ?_
 ·rintro i ys H2 hi ⟨as,_,rfl,l',_,rfl⟩;have e2:=zC.upd hD (o:= .lst (as.map V.ref)) _ _ el;exact ⟨by rw [zPc];omega,zB,fun h=>⟨_,_,SqL.of e2,zPV (by simpa using h)⟩,fun h=>⟨_,SqL.of e2,by simp;omega⟩⟩
 ·rintro i ys H2 x H3 hi ⟨as,_,rfl,l',hf,rfl⟩ ⟨rfl,hx⟩ pre hpre;obtain ⟨p0,rfl⟩:=yQ hpre;have s2:=zC.upd hD (o:= .lst (as.map V.ref));have hx':=hx _ (SqL.of (s2 _ _ el));rw [zPa,zPV hi] at hx';cases hx';obtain ⟨⟨a,u⟩,eu,dx,va,ho,hu⟩:=Paired.get' hk (zPV hi);have et:k.take (i+1)=k.take i++ [(a,u)] :=by rw [zPs,eu];rfl
  refine ⟨⟨[some (.ref os[i])],rfl,rfl⟩,?_⟩;refine ⟨_,rfl,os[i],C,dx,_,_,rfl,s2 _ _ ho,T.cl,T.n1,rfl,_,rfl,rfl,_,rfl,yl (fun c=>?_) (fun c=>?_)⟩
  ·have c':a=p:=Int.ofNat_inj.mp (by simpa using c);refine ⟨_,rfl,os[i],C,dx,_,_,rfl,s2 _ _ ho,T.cl,T.n2,rfl,zB,as++ [va],hi,by simp,by simp;omega,?_,by rw [zy]⟩;rw [et,List.filter_append,zPr];simp only [List.filter_cons,c',decide_true,if_true,List.filter_nil];exact Paired.snoc' hf hu
  ·have c': ¬a=p:=fun z=>absurd (Int.ofNat_inj.mpr z) (by simpa using c);refine ⟨as,hi,rfl,by omega,?_,rfl⟩;rw [et,List.filter_append];simp only [List.filter_cons,c',decide_false,Bool.false_eq_true,if_false,List.filter_nil,zPw];exact hf
 ·rintro ys H2 ⟨as,_,rfl,_,hf,rfl⟩;rw [List.take_of_length_le (by omega)] at hf;exact q as hf
theorem zHQ{C:Addr}{σ:L2.St}{H:Hp}{Q:VK}{p:Nat}{D5 D6:Addr}{o5 o6:List Addr}{k:List Stp}{w:Vec}{tw:TE}(h4:σ[4]?=some (some (.int (p:Int))))(h5:σ[5]?=some (some (.ref D5)))(h6:σ[6]?=some (some (.ref D6)))
  (e5:H D5=some (.lst (o5.map V.ref))) (e6:H D6=some (.lst (o6.map V.ref))) (s5:StA C H o5 (k.filter fun q=>decide (q.1<p))) (s6:StA C H o6 (k.filter fun q=>decide (p<q.1))) (l5:o5.length<=12) (l6:o6.length<=12)
  (htw: ∀Q':VK,(∀wl H',zC H H'->LI H' wl w->Q' (.ref wl) H')->tw σ H Q') (q: ∀r H',zC H H'->StL C H' r (yx k p w)->Q (.ref r) H'):
  tOp zIK (tOp zIK (yY 5) (zKt (zAN (zIh C (zBM C) [] E0 (zAN (yY 4) (zAN tw zBg))) zBg))) (yY 6) σ H Q:=by
 refine ⟨_,h5,_,h4,htw _ fun wl H1 s1 hw=>?_⟩;intro x dx hx hdx hne;have sx:zC H1 (L2.upd (L2.upd (L2.upd H1 dx (.own x)) x (.ins C dx [])) x (.ins C dx [("place",.int (p:Int)),("vector",.ref wl)])):=zC.store (zC.store (zC.upd hdx) hx) hx;have ex:(L2.upd (L2.upd (L2.upd H1 dx (.own x)) x (.ins C dx [])) x (.ins C dx [("place",.int (p:Int)),("vector",.ref wl)])) x=some (.ins C dx [("place",.int (p:Int)),("vector",.ref wl)]):=zB;refine ⟨x,dx,_,_,rfl,zB,rfl,?_⟩;generalize L2.upd (L2.upd (L2.upd H1 dx (.own x)) x (.ins C dx [])) x (.ins C dx [("place",.int (p:Int)),("vector",.ref wl)])=H2 at sx ex⊢;have s2:=s1.trans sx;refine ⟨bs 1,fun a hp=>?_⟩;have sp:=zC.upd hp (o:= .lst [V.ref x]);refine ⟨D5,a,_,_,rfl,rfl,(s2.trans sp) _ _ e5,zB,by rw [zPg];simp;omega,fun r1 hr1=>?_⟩;have sr:=zC.upd hr1 (o:= .lst (o5.map V.ref++ [V.ref x]));refine ⟨_,h6,r1,D6,_,_,rfl,rfl,zB,((s2.trans sp).trans sr) _ _ e6,by rw [zPg];simp;omega,fun r2 hr2=>?_⟩;have sr2:=zC.upd hr2 (o:= .lst (o5.map V.ref++ [V.ref x] ++o6.map V.ref));have st:=((s2.trans sp).trans sr).trans sr2;exact q r2 _ st ⟨o5++x::o6,by rw [zB];simp,Paired.app (StA.same s5 st) (.cons ⟨dx,wl,((sp.trans sr).trans sr2) _ _ ex,hw.same (((sx.trans sp).trans sr).trans sr2)⟩ (StA.same s6 st))⟩
theorem zHe{n:Nat}{k:List Stp}{p:Nat}{w:Vec}(h:Ech n k):(yx k p w).length+(k.filter fun q=>decide (q.1=p)).length=k.length+1:=by
 have e:k.length=(k.filter fun q=>decide (q.1<p)).length+(k.filter fun q=>decide (q.1=p)).length+(k.filter fun q=>decide (p<q.1)).length:=by
  have e:=congrArg List.length (zBy p h).1
  rwa [zPx,zPx] at e
 have l:(yx k p w).length=(k.filter fun q=>decide (q.1<p)).length+((k.filter fun q=>decide (p<q.1)).length+1):=by
  rw [yx,zPx,List.length_cons]
 omega
theorem zKb{f fL fP fM fD fA fS C:Addr}{fd fdL fdP fdM fdD fdA fdS:FuncData}(F:Fun K "with_one_more" "with_one_more" zCV f fd)(B:Bn mg)(ht:P.given.tree=none)(T:SC K C)
  (FL:Fun K "lessened" "lessened" zBP fL fdL) (bL:zL K fdL ["vector","steps"] []) (mL:mg "lessened" =some (.ref fL)) (GL:FnOk P w K mg base CX0 34 fL fdL ["vector","steps"] (zBp C))
  (FP:Fun K "first_place" "first_place" zDC fP fdP) (bP:zL K fdP ["vector"] []) (mP:mg "first_place" =some (.ref fP)) (GP:FnOk P w K mg base CX0 1 fP fdP ["vector"] zFY)
  (FM:Fun K "mixed" "mixed" zBD fM fdM) (bM:zL K fdM ["factor","one","other_factor","other"] []) (mM:mg "mixed" =some (.ref fM)) (GM:FnOk P w K mg base CX0 1 fM fdM ["factor","one","other_factor","other"] zBJ)
  (FD:Fun K "divisor_of" "divisor_of" zEJ fD fdD) (bD:zL K fdD ["one","other"] []) (mD:mg "divisor_of" =some (.ref fD)) (GD:FnOk P w K mg base CX0 34 fD fdD ["one","other"] zGC)
  (FA:Fun K "all_lessened" "all_lessened" zEg fA fdA) (bA:zL K fdA ["steps"] []) (mA:mg "all_lessened" =some (.ref fA)) (GA:FnOk P w K mg base CX0 35 fA fdA ["steps"] (zGR C))
  (bS:zL K fdS ["self","place","vector"] []) (MS:Mk K C fS) (mS:mg "Step" =some (.ref C)) (GS:FnOk P w K mg base CX0 1 fS fdS ["self","place","vector"] (zBM C)):FnOk P w K mg base CX0 36 f fd ["steps","vector"] (zEw C):=by
 refine F.ok yT (fun vs H Q E h=>?_) (fun cdv A outer s H vs Q E hr35 h=>?_)
 ·obtain ⟨l,r,S,v,n,b,Y,W,rfl,_⟩:=h;rfl
 ·obtain ⟨l,r,S,v,n,b,Y,W,rfl,hS,hv,ok,q⟩:=h;have deep:DeepE (zAi CX0 P w K mg base ["steps","vector","kept","rest","place","ahead","behind","there","sign","own","found"] "with_one_more" (zF zCV) f cdv A outer s H E):=zAn hr35 (by decide) ht rfl rfl;have hr1:Room 1 _:=hr35.mono (by decide);have hr2:Room 2 _:=hr35.mono (by decide);have hr34:Room 34 _:=hr35.mono (by decide);have n6:=ok.nn;have sz:=ok.sz;have lS:S.length<=6:=zPj (zCF ok.ech) n6;have hq0: ∀q∈S,q.2.length=n/\q.1<n/\0<zA q.2 q.1/\Bts Y q.2:=fun q hq=>let ⟨z1,z2,z3,_⟩:=ok.ech.mem hq;⟨z1,z2,z3,ok.bS q hq⟩;have mS6:S.length*(Y+1)<=6*(Y+1):=Nat.mul_le_mul_right _ lS;refine ⟨_,QB.out (zE
   (zW 2 yT.nd rfl (qw 0 rfl) rfl) (zE
   (zW 3 yT.nd rfl (zI GL hr34 rfl mL FL.kp bL .nil zK (qc (qw 1 rfl) (qc (qw 2 rfl) zD rfl) rfl) rfl rfl rfl) rfl) (zE
   (yt 4 yT.nd rfl (Or.inr rfl) (zI GP hr1 rfl mP FP.kp bP .nil zK (qc (qw 3 rfl) zD rfl) rfl rfl rfl) rfl (.inl rfl)) (zE
   (zHS PassesOwn.never (zGJ (qx 4 rfl) rfl) (zE
    (zAe yn 5 (by exact yT.nd) rfl (Or.inl rfl) (.inr rfl) ["step"] ["place"] [4] rfl (zj (K:=K) rfl (qw 2 rfl)) rfl (by decide+kernel) rfl (by decide+kernel) (zN rfl yb) rfl (fr1 ⟨rfl,rfl,rfl,_,rfl,rfl⟩) (zO rfl) (fun _ _ _ _=>(zJ 0 (show (["step","place"] :List Str).Nodup by decide+kernel) rfl (.inl rfl) (.inr rfl))) (fun _ _ _ _=>(zDG (zl zIO (zk (K:=K) rfl (qw 0 rfl) rfl) (qx 1 rfl) rfl))) (fun C s₂ H₂ fp xe E hp=>(qw 0 rfl)) (fun _=>rfl) rfl) (zE
    (zAe yn 6 (by exact yT.nd) rfl (Or.inl rfl) (.inr rfl) ["step"] ["place"] [4] rfl (zj (K:=K) rfl (qw 2 rfl)) rfl (by decide+kernel) rfl (by decide+kernel) (zN rfl yb) rfl (fr1 ⟨rfl,rfl,rfl,_,rfl,rfl⟩) (zO rfl) (fun _ _ _ _=>(zJ 0 (show (["step","place"] :List Str).Nodup by decide+kernel) rfl (.inl rfl) (.inr rfl))) (fun _ _ _ _=>(zDG (zl zAm (zk (K:=K) rfl (qw 0 rfl) rfl) (qx 1 rfl) rfl))) (fun C s₂ H₂ fp xe E hp=>(qw 0 rfl)) (fun _=>rfl) rfl) (zE
    (zAe yn 7 (by exact yT.nd) rfl (Or.inl rfl) (.inr rfl) ["step"] ["place"] [4] rfl (zj (K:=K) rfl (qw 2 rfl)) rfl (by decide+kernel) rfl (by decide+kernel) (zN rfl yb) rfl (fr1 ⟨rfl,rfl,rfl,_,rfl,rfl⟩) (zO rfl) (fun _ _ _ _=>(zJ 0 (show (["step","place"] :List Str).Nodup by decide+kernel) rfl (.inl rfl) (.inr rfl))) (fun _ _ _ _=>(zDG (zl zAz (zk (K:=K) rfl (qw 0 rfl) rfl) (qx 1 rfl) rfl))) (fun C s₂ H₂ fp xe E hp=>(zk (K:=K) rfl (qw 0 rfl) rfl)) (fun _=>rfl) rfl) (zM
    (yX (zl zAz (yK (yH (K:=K) rfl) rfl B.len yo (qc (qw 7 rfl) zD rfl) rfl) zG rfl) (zE
     (zW 8 yT.nd rfl (zEP (zl zAm (yA (K:=K) rfl (qw 3 rfl) (qx 4 rfl) (fun _ _=>rfl)) zG rfl) zG (zCB zG)) rfl) (zE
     (zW 2 yT.nd rfl (zBG (zBG (qw 5 rfl) (zAU (qc (zBq MS GS hr2 rfl mS bS .nil zK (qc (qx 4 rfl) (qc (zI GM hr1 rfl mM FM.kp bM .nil zK (qc (qw 8 rfl) (qc (qw 3 rfl) (qc zG (qc (qw 3 rfl) zD rfl) rfl) rfl) rfl) rfl rfl rfl) zD rfl) rfl) rfl rfl rfl) zD rfl))) (qw 6 rfl)) rfl) (zM
     (yt 4 yT.nd rfl (Or.inr rfl) zDc rfl (.inl rfl))))) (zE
     (zW 9 yT.nd rfl (yA (K:=K) rfl (qw 7 rfl) zG (fun _ _=>rfl)) rfl) (zE
     (zW 10 yT.nd rfl (zI GD hr34 rfl mD FD.kp bD .nil zK (qc (yA (K:=K) rfl (qw 3 rfl) (qx 4 rfl) (fun _ _=>rfl)) (qc (yA (K:=K) rfl (qw 9 rfl) (qx 4 rfl) (fun _ _=>rfl)) zD rfl) rfl) rfl rfl rfl) rfl) (zE
     (zW 2 yT.nd rfl (zBG (zBG (qw 5 rfl) (zAU (qc (zBq MS GS hr2 rfl mS bS .nil zK (qc (qx 4 rfl) (qc (zI GM hr1 rfl mM FM.kp bM .nil zK (qc (yL (K:=K) rfl (qw 10 rfl) zG (fun _ _=>rfl)) (qc (qw 3 rfl) (qc (yL (K:=K) rfl (qw 10 rfl) zG (fun _ _=>rfl)) (qc (qw 9 rfl) zD rfl) rfl) rfl) rfl) rfl rfl rfl) zD rfl) rfl) rfl rfl rfl) zD rfl))) (qw 6 rfl)) rfl) (zE
     (zW 3 yT.nd rfl (zI GL hr34 rfl mL FL.kp bL .nil zK (qc (zI GM hr1 rfl mM FM.kp bM .nil zK (qc (yk (deep.up rfl rfl rfl) (yA (K:=K) rfl (qw 9 rfl) (qx 4 rfl) (fun _ _=>rfl)) (yL (K:=K) rfl (qw 10 rfl) zG (fun _ _=>rfl))) (qc (qw 3 rfl) (qc (zCB (yk (deep.up rfl rfl rfl) (yA (K:=K) rfl (qw 3 rfl) (qx 4 rfl) (fun _ _=>rfl)) (yL (K:=K) rfl (qw 10 rfl) zG (fun _ _=>rfl)))) (qc (qw 9 rfl) zD rfl) rfl) rfl) rfl) rfl rfl rfl) (qc (qw 6 rfl) zD rfl) rfl) rfl rfl rfl) rfl) (zM
     (yt 4 yT.nd rfl (Or.inr rfl) (zI GP hr1 rfl mP FP.kp bP .nil zK (qc (qw 3 rfl) zD rfl) rfl rfl rfl) rfl (.inl rfl))))))))))))) (zM
   (ze (zI GA hr35 rfl mA FA.kp bA .nil zK (qc (qw 2 rfl) zD rfl) rfl rfl rfl))))))),?_⟩
  refine ⟨_,rfl,?_⟩;refine ⟨_,rfl,_,rfl,r,l,v,S,n,b,Y,rfl,hv,hS,ok.vl,by omega,by omega,hq0,ok.bv,by omega,fun rl H1 s1 _ hr1'=>?_⟩;obtain ⟨k1,k2,k3,k4⟩:=yB (r:=v) ok.ech ok.vl;have br:Bts (b+6*(Y+1)) (zU v S):=(zDs ok.ech ok.vl ok.bv ok.bS).mono (by omega);have sp0: ∀x,Sp ((0,zU v S)::S) x↔Sp ((0,v)::S) x:=fun x=>Sp.cons_iff (fun _=>Iff.rfl) k2 x;refine ⟨_,rfl,rl,zU v S,rfl,hr1',by omega,fun pv H2 s2 hf=>?_⟩;refine zEF (fun σ H'=> ∃(kl rl:Addr) (pv:V) (s5 s6 s7 s8 s9 s10:Option V) (k:List Stp) (rest:Vec),σ= [some (.ref l),some (.ref r),some (.ref kl),some (.ref rl),some pv,s5,s6,s7,s8,s9,s10] /\W1I C n b Y S v H H' kl rl pv k rest)
   (fun (σ:L2.St) _=>match σ[4]? with | some (some (V.int p))=>7 - p.toNat | _=>0) ⟨l,rl,pv,none,none,none,none,none,none,S,zU v S,rfl,W1I.of (t:=0) (a:=0) hf (s1.trans s2) (hS.same (s1.trans s2)) (hr1'.same s2) ok.ech k1 (fun q hq=>(ok.bS q hq).mono (by omega)) sp0 (zPZ _) (fun j h=>absurd h (Nat.not_lt_zero _)) (zPZ _) (br.mono (by omega)) fun q hq _=>ok.bS q hq⟩ ?_ ?_
  ·clear hf br sp0 k1 k2 k3 k4 hr1' s1 s2;rintro σ H1 ⟨kl,rl,pv,s5,s6,s7,s8,s9,s10,k,rest,rfl,sm,⟨os,ek,hk⟩,hr,hE,lr,bk,at_⟩;rcases at_ with ⟨rfl,sp,lk⟩|⟨p,t,rfl,sp,lk,hp,hp0,hpz,tp,br,bY⟩
   ·refine ⟨_,rfl,_,rfl,zBY ?_⟩;obtain ⟨z1,z2,z3⟩:=zBr hE;have zs: ∀x,Sp (zr k) x↔Sp ((0,v)::S) x:=fun x=>(z3 x).trans (sp x);exact ⟨_,rfl,kl,k,n,_,W,rfl,⟨os,ek,hk⟩,hE,by omega,bk,ok.bT _ z1 z2 zs,by omega,fun l' H' s' hl'=>q _ _ _ (sm.trans s') hl' z1 z2 zs (by rw [zCJ];exact lk)⟩
   ·refine ⟨_,rfl,_,rfl,zp ?_⟩;have k6:k.length<=6:=by omega
    refine ⟨_,rfl,kl,rfl,⟨_,SqL.of ek⟩,fun D5 hD5=>zGX T (fun i j=>decide (i<j)) ek hk (by omega) hD5 rfl fun o5 h5=>?_⟩;have t5:=zC.upd hD5 (o:= .lst (o5.map V.ref));have e5:L2.upd H1 D5 (.lst (o5.map V.ref)) D5=_:=zB;generalize L2.upd H1 D5 (.lst (o5.map V.ref))=H5 at t5 e5⊢;refine ⟨_,rfl,kl,rfl,⟨_,SqL.of (t5 _ _ ek)⟩,fun D6 hD6=>zGX T (fun i j=>decide (j<i)) (t5 _ _ ek) (StA.same hk t5) (by omega) hD6 rfl fun o6 h6=>?_⟩;have t6:=zC.upd hD6 (o:= .lst (o6.map V.ref));have e6:L2.upd H5 D6 (.lst (o6.map V.ref)) D6=_:=zB;generalize L2.upd H5 D6 (.lst (o6.map V.ref))=H6 at t6 e6⊢;refine ⟨_,rfl,kl,rfl,⟨_,SqL.of ((t5.trans t6) _ _ ek)⟩,fun D7 hD7=>zId T ((t5.trans t6) _ _ ek) (StA.same hk (t5.trans t6)) (by omega) hD7 rfl fun a7 h7=>?_⟩;have t7:=zC.upd hD7 (o:= .lst (a7.map V.ref));have e7:L2.upd H6 D7 (.lst (a7.map V.ref)) D7=_:=zB;generalize L2.upd H6 D7 (.lst (a7.map V.ref))=H7 at t7 e7⊢;have t17:=(t5.trans t6).trans t7;have hr7:=hr.same t17;have e57:=(t6.trans t7) _ _ e5;have e67:=t7 _ _ e6;have h57:=StA.same h5 t17;have h67:=StA.same h6 (t6.trans t7);have f5:(k.filter fun q=>decide ((q.1:Int)<(p:Int)))=k.filter fun q=>decide (q.1<p):=by congr 1;funext q;simp
    have f6:(k.filter fun q=>decide ((p:Int)<(q.1:Int)))=k.filter fun q=>decide (p<q.1):=by congr 1;funext q;simp
    simp only [f5] at h57;simp only [f6] at h67;replace h7:=LIs.same h7 t7;have l5:=Paired.len h57;have l6:=Paired.len h67;have lf5:=List.length_filter_le (fun q:Stp=>decide (q.1<p)) k;have lf6:=List.length_filter_le (fun q:Stp=>decide (p<q.1)) k;clear t5 t6 t7 h5 h6 hD5 hD6 hD7 e5 e6;have t5:t*(7*(Y+1))<=5*(7*(Y+1)):=Nat.mul_le_mul_right _ (by omega);refine ⟨_,rfl,D7,_,rfl,.inl (SqL.of e7),rfl,_,rfl,yl (fun c=>?_) (fun c=>?_)⟩
    ·have c0:a7= [] :=by
      have:a7.length=0:=by
       have:((a7.map V.ref).length:Int)=0:=by simpa using c
       rw [zPc] at this;omega
      exact List.length_eq_zero_iff.mp this
     have th:(k.filter fun q=>decide (q.1=p))= [] :=by
      have:=Paired.len h7;rw [c0,zPc] at this;exact List.length_eq_zero_iff.mp this.symm
     have hn: ∀q∈k,q.1≠p:=fun q hq z=>by
      have:q∈k.filter (fun q=>decide (q.1=p)):=List.mem_filter.mpr ⟨hq,zPt z⟩;rw [th] at this;cases this
     obtain ⟨sg,hsg,h1,h2⟩: ∃sg:Int,(sg=1\/sg= -1)/\(0<zA rest p->sg=1)/\(¬0<zA rest p->sg= -1):=by
      by_cases h:0<zA rest p
      ·exact ⟨1,.inl rfl,fun _=>rfl,fun z=>absurd h z⟩
      ·exact ⟨-1,.inr rfl,fun z=>absurd z h,fun _=>rfl⟩
     have bsg:Bt 50000000 sg:=by
      rcases hsg with rfl | rfl
      ·exact Bt.one
      ·exact Bt.one.neg
     refine ⟨_,rfl,_,rfl,rl,_,_,_,rfl,rfl,SqL.of hr7,zn (zT (show p<rest.length by omega)),_,_,rfl,rfl,_,rfl,zLj (.int sg) (fun c Q' h=>?_) (fun c Q' h=>?_) ?_⟩
     ·rw [h1 (by simpa using c)] at h;exact h
     ·rw [h2 (by simpa using c)] at h;exact ⟨_,rfl,h⟩
     have eN: ∀i,zA (zP sg rest 0 rest) i=sg*zA rest i:=fun i=>by rw [yJ rfl];simp
     refine zHQ (k:=k) (w:=zP sg rest 0 rest) rfl rfl rfl e57 e67 h57 h67 (by omega) (by omega) (fun Q' h=>?_) fun r2 H9 s9 hk9=>?_
     ·exact ⟨_,rfl,_,rfl,_,rfl,sg,0,rl,rl,rest,rest,rfl,hr7,hr7,rfl,by omega,bsg,Bt.zero,br.mono (by omega),br.mono (by omega),fun wl H8 s8 _ hw=>h wl H8 s8 hw⟩
     ·refine ⟨⟨r2,rl,.non,_,_,_,_,_,_,yx k p (zP sg rest 0 rest),rest,rfl,(sm.trans t17).trans s9,hk9,hr7.same s9,zIA hE (zZ lr lr) hp ?_ (fun j hj=>by rw [eN,hpz j hj];simp),lr,fun q hq=>?_,.inl ⟨rfl,fun x=>(zMc lr hn hsg x).trans (sp x),by have:=zHe (p:=p) (w:=zP sg rest 0 rest) hE;rw [th] at this;simp only [List.length_nil] at this;omega⟩⟩,?_⟩
      ·rw [eN];by_cases h:0<zA rest p
       ·rw [h1 h];omega
       ·rw [h2 h];omega
      ·rcases zAS.mp hq with rfl |⟨hq,_⟩
       ·refine fun i=>?_;show Bt _ (zA (zP sg rest 0 rest) i);rw [eN];have:=(br i).mono (show _<=b+48*(Y+1) by omega);rcases hsg with rfl | rfl
        ·rw [Int.one_mul];exact this
        ·rw [Int.neg_mul,Int.one_mul];exact this.neg
       ·exact bk q hq
      ·show 0<7 -((p:Int)).toNat;omega
    ·obtain ⟨_,o⟩:=zBy p hE;rcases o with o |⟨own,o⟩
     ·have:=Paired.len h7;rw [o] at this;have c': ¬(((a7.map V.ref).length:Int)=0):=by simpa using c
      rw [zPc,this] at c';exact absurd rfl c'
     ·rw [o] at h7;obtain ⟨va,rfl⟩: ∃va,a7= [va] :=List.length_eq_one_iff.mp (Paired.len h7);have hown:LI H7 va own:=by
       obtain ⟨y,ey,hy⟩:=Paired.get' h7 (i:=0) rfl;cases ey;exact hy
      have mo:(p,own)∈k:=by
       have:(p,own)∈k.filter fun q=>decide (q.1=p):=by rw [o];simp
       exact (List.mem_filter.mp this).1
      obtain ⟨o1,o2,o3,o4⟩:=hE.mem mo;simp only at o1 o2 o3 o4;have bo:=bY (p,own) mo (zPZ _);simp only at bo;obtain ⟨g0,d1,d2,ef,_⟩:=zAA (one:=zA rest p) o3;obtain ⟨bg,b1,b2⟩:=zMr (br p) (bo p) o3;obtain ⟨n1,n2,n3,n4⟩:=zMH hE lr mo hpz g0 d1 d2 ef;refine ⟨_,rfl,D7,_,_,_,rfl,rfl,SqL.of e7,rfl,?_⟩;refine ⟨_,rfl,_,rfl,rl,_,_,_,rfl,rfl,SqL.of hr7,zn (zT (show p<rest.length by omega)),_,rfl,_,rfl,va,_,_,_,rfl,rfl,SqL.of hown,zn (zT (show p<own.length by omega)),_,_,rfl,o3,(br p).mono (by omega),(bo p).mono (by omega),fun tu H8 s8 et=>?_⟩;generalize zu (zA rest p) (zA own p)=f at*;obtain ⟨g,f1,f2⟩:=f;simp only at*;refine zHQ (k:=k) (w:=zP f1 rest f2 own) rfl rfl rfl (s8 _ _ e57) (s8 _ _ e67) (StA.same h57 s8) (StA.same h67 s8) (by omega) (by omega) (fun Q' h=>?_) fun r2 H9 s9 hk9=>?_
      ·exact ⟨_,rfl,tu,_,_,_,rfl,rfl,SqT.of et,rfl,_,rfl,_,rfl,tu,_,_,_,rfl,rfl,SqT.of et,rfl,_,rfl,f1,f2,rl,va,rest,own,rfl,hr7.same s8,hown.same s8,by omega,by omega,b1.mono (by omega),b2.mono (by omega),br.mono (by omega),bo.mono (by omega),fun wl H8 s8 _ hw=>h wl H8 s8 hw⟩
      have s79:=s8.trans s9;have et9:=s9 _ _ et;have bx:Bt Y (zA own p/g):=Bt.div (bo p) g0;have by':=(Bt.div (br p) g0).neg;have bm:Bts (b+6*(Y+1)+t*(7*(Y+1))+Y+1) (zP (zA own p/g) rest (-(zA rest p/g)) own):=(zHt (show rest.length=own.length by omega) bx br by' bo).mono (Nat.succ_le_succ (Nat.max_le.mpr ⟨by omega,by omega⟩));have hB:=zAf (fun q=>decide (p<q.1)) hE;have mB: ∀q∈k.filter (fun q=>decide (p<q.1)),q∈k/\p<q.1:=fun q hq=>by
       have:=List.mem_filter.mp hq;exact ⟨this.1,by simpa using this.2⟩
      have bB: ∀q∈k.filter (fun q=>decide (p<q.1)),Bts Y q.2:=fun q hq=>bY q (mB q hq).1 (zQD (mB q hq).2);have mul6:(k.filter fun q=>decide (p<q.1)).length*(Y+1)<=6*(Y+1):=Nat.mul_le_mul_right _ (by omega);refine ⟨_,rfl,_,rfl,va,_,_,_,rfl,rfl,SqL.of (hown.same s79),zn (zT (show p<own.length by omega)),_,rfl,tu,_,_,_,rfl,rfl,SqT.of et9,rfl,_,_,rfl,rfl,g0,_,rfl,_,rfl,_,rfl,rl,_,_,_,rfl,rfl,SqL.of (hr7.same s79),zn (zT (show p<rest.length by omega)),_,rfl,tu,_,_,_,rfl,rfl,SqT.of et9,rfl,_,_,rfl,rfl,g0,_,rfl,_,rfl,_,_,rl,va,rest,own,rfl,hr7.same s79,hown.same s79,by omega,by omega,bx.mono (by omega),by'.mono (by omega),br.mono (by omega),bo.mono (by omega),fun ml H10 s10 _ hm=>?_⟩;refine ⟨_,rfl,ml,D6,_,k.filter (fun q=>decide (p<q.1)),n,_,Y,rfl,hm,⟨o6,(s79.trans s10) _ _ e67,StA.same h67 (s79.trans s10)⟩,zZ lr o1,by omega,by omega,fun q hq=>let ⟨z1,z2,z3,_⟩:=hB.mem hq;⟨z1,z2,z3,bB q hq⟩,bm,by omega,fun rl' H11 s11 _ hr11=>?_⟩;have br':=zDs hB (zZ lr o1) bm bB;refine ⟨_,rfl,rl',_,rfl,hr11,by omega,fun pv H12 s12 hf=>?_⟩;have s912:=(s10.trans s11).trans s12;have et':(t+1)*(7*(Y+1))=t*(7*(Y+1))+7*(Y+1):=Nat.succ_mul _ _;refine ⟨⟨r2,rl',pv,_,_,_,_,_,_,_,_,rfl,W1I.of (t:=t+1) (a:=p+1) hf (((sm.trans t17).trans s79).trans s912) (hk9.same s912) (hr11.same s12) n1 n2 (fun q hq=>?_) (fun x=>(n4 x).trans (sp x)) (by have:=zHe (p:=p) (w:=zP f1 rest f2 own) hE;rw [o] at this;simp only [List.length_cons,List.length_nil] at this;omega) (fun j hj=>n3 j (Nat.le_of_lt_succ hj)) (by omega) (br'.mono (by omega)) fun q hq hqp=>?_⟩,?_⟩
      ·rcases zAS.mp hq with rfl |⟨hq,_⟩
       ·exact (zHt (show rest.length=own.length by omega) b1 br b2 bo).mono (by
         have:Nat.max (Y+(b+6*(Y+1)+t*(7*(Y+1)))) (b+6*(Y+1)+t*(7*(Y+1))+1+Y)<=Y+(b+6*(Y+1)+t*(7*(Y+1)))+1:=Nat.max_le.mpr ⟨by omega,by omega⟩;omega)
       ·exact bk q hq
      ·rcases zAS.mp hq with rfl |⟨hq,_⟩
       ·exact absurd hqp (by simp)
       ·exact bY q hq (by omega)
      ·rcases hf with ⟨rfl,_⟩|⟨p',rfl,hp',hne,_⟩
       ·show 0<7 -((p:Int)).toNat;omega
       ·show 7 -((p':Int)).toNat<7 -((p:Int)).toNat;have:p<p':=by
         rcases Nat.lt_or_ge p p' with h | h
         ·exact h
         ·exact absurd (n3 p' h) hne
        rw [n2] at hp';omega
  ·intro σ H' Q Q' h hc;obtain ⟨v',e,c',e',hq⟩:=hc;exact ⟨v',e,c',e',h _ _ hq⟩
end
section
variable {P:Program}{w:World}{K:zQK}{mg:Str->Option Value}{base:Heap}
def zDx(k:Nat)(R:List Vec):List Vec:=(List.range k).map (zq R)
theorem zDT(k:Nat)(R:List Vec):zDx (k+1) R=zDx k R++ [zq R k] :=by simp [zDx,List.range_succ]
theorem zFO{k b:Nat}{R:List Vec}(h: ∀x∈R,Bts b x): ∀g∈zDx k R,g.length=R.length/\Bts b g:=fun g hg=>by
 obtain ⟨j,_,rfl⟩:=List.mem_map.mp hg;exact ⟨yM,Bts.col h j⟩
def zCu(k m:Nat)(R:List Vec)(T:List Stp):List Vec:=(List.range m).map fun j=>zU (zq R (k+j)) T
theorem zJl{K:zQK}{H:Hp}{l D:Addr}{as:List Addr}{R:List Vec}{j k:Nat}{jv:Int}{suf rest:L2.St}{Q:VK}(el:H l=some (.lst (as.map V.ref)))(has:LIs H as R)(hj: ∀x∈R,k+j<x.length)(hl:R.length<=1000)(hD:H D=none)(hv:jv=(j:Int))(hs:suf=some (.int jv)::some (.int (k:Int))::rest)
  (q:Q (.ref D) (L2.upd H D (.lst ((zq R (k+j)).map V.int)))):CompInv (Itl K l) (yR 0) (fun _ H Q=>Q true H) (tOp (zIm K) (yY 0) (tOp (rI0 fun i j=>V.int (i+j)) (yY 2) (yY 1))) 1 suf H D Q:=by
 subst hs hv;have la:=Paired.len has;refine zR as.length (fun i ys H'=>i<=as.length/\ys=((zq R (k+j)).take i).map V.int/\H'=L2.upd H D (.lst ys)) ⟨zPk _,by simp,rfl⟩ (by rw [zPg];omega) ?_ ?_ ?_
 ·rintro i ys H2 hi ⟨_,rfl,rfl⟩;have e2:=zC.upd hD (o:= .lst (((zq R (k+j)).take i).map V.int)) _ _ el;exact ⟨by simp;omega,zB,fun h=>⟨_,_,SqL.of e2,zPV (by simpa using h)⟩,fun h=>⟨_,SqL.of e2,by simp;omega⟩⟩
 ·rintro i ys H2 x H3 hi ⟨_,rfl,rfl⟩ ⟨rfl,hx⟩ pre hpre;obtain ⟨p0,rfl⟩:=yQ hpre;have s2:=zC.upd hD (o:= .lst (((zq R (k+j)).take i).map V.int));have hx':=hx _ (SqL.of (s2 _ _ el));rw [zPa,zPV hi] at hx';cases hx';obtain ⟨u,eu,hu⟩:=Paired.get' has (zPV hi);refine ⟨⟨[some (.ref as[i])],rfl,rfl⟩,zp ?_⟩;refine ⟨_,rfl,_,rfl,_,rfl,_,_,rfl,rfl,as[i],_,_,_,rfl,rfl,SqL.of (hu.same s2),by rw [<-Int.natCast_add];exact zn (zT (hj u (zPz eu))),zB,hi,?_,by rw [zy]⟩;rw [zPs,zq,zPa,eu];simp
 ·rintro ys H2 ⟨_,rfl,rfl⟩;rw [List.take_of_length_le (by rw [yM];omega)];exact q
theorem zKF{K:zQK}{C:Addr}(T:SC K C){H:Hp}{l D:Addr}{os:List Addr}{k:List Stp}{suf:L2.St}{Q:VK}(el:H l=some (.lst (os.map V.ref)))(hk:StA C H os k)(hl:k.length<=100)(hD:H D=none)
  (q: ∀as:List Addr,LIs H as (k.map (·.2))->Q (.ref D) (L2.upd H D (.lst (as.map V.ref)))):
  CompInv (Itl K l) (yR 0) (fun _ H Q=>Q true H) (zEy K (yY 0) "vector") 1 suf H D Q:=by
 have lo:=Paired.len hk;refine zR os.length (fun i ys H'=> ∃as:List Addr,i<=os.length/\ys=as.map V.ref/\as.length=i/\LIs H as ((k.take i).map (·.2))/\H'=L2.upd H D (.lst ys)) ⟨[],zPk _,rfl,rfl,.nil,rfl⟩ (by rw [zPg];omega) ?_ ?_ ?_
 ·rintro i ys H2 hi ⟨as,_,rfl,l',_,rfl⟩;have e2:=zC.upd hD (o:= .lst (as.map V.ref)) _ _ el;exact ⟨by rw [zPc];omega,zB,fun h=>⟨_,_,SqL.of e2,zPV (by simpa using h)⟩,fun h=>⟨_,SqL.of e2,by simp;omega⟩⟩
 ·rintro i ys H2 x H3 hi ⟨as,_,rfl,l',hf,rfl⟩ ⟨rfl,hx⟩ pre hpre;obtain ⟨p0,rfl⟩:=yQ hpre;have s2:=zC.upd hD (o:= .lst (as.map V.ref));have hx':=hx _ (SqL.of (s2 _ _ el));rw [zPa,zPV hi] at hx';cases hx';obtain ⟨⟨a,u⟩,eu,dx,va,ho,hu⟩:=Paired.get' hk (zPV hi);refine ⟨⟨[some (.ref os[i])],rfl,rfl⟩,zp ?_⟩;refine ⟨_,rfl,os[i],C,dx,_,_,rfl,s2 _ _ ho,T.cl,T.n2,rfl,zB,as++ [va],hi,by simp,by simp [l'],?_,by rw [zy]⟩;rw [zPs,eu,zPr];exact Paired.snoc' hf hu
 ·rintro ys H2 ⟨as,_,rfl,_,hf,rfl⟩;rw [List.take_of_length_le (by omega)] at hf;exact q as hf
def zDr(C:Addr):Sp:=fun vs H Q _=> ∃(l:Addr) (R:List Vec) (k m b:Nat),vs= [.int (k:Int),.int (m:Int),.ref l] /\LL H l R/\(∀x∈R,x.length=k+m/\Bts b x)/\R.length<=6/\k<=100/\m<=100/\b<=2000/\
 ∀(T:List Stp) (t r:Addr) H',zC H H'->H' t=some (.tup [.int (T.length:Int),.ref r])->H r=none->LL H' r (zt (T.map (·.2)++zCu k m R T) R.length)->NF R.length (zDx k R) T->Q (.ref t) H'
theorem zBh:FnScope ["free","names","rows","steps","place","fixed"] ["free","names","rows"] (zF zCS):=⟨rfl,rfl,rfl,by decide+kernel,rfl,by decide+kernel,by decide+kernel⟩
theorem zJh{f fO fL fW C:Addr}{fd fdO fdL fdW:FuncData}(F:Fun K "normal" "normal" zCS f fd)(B:Bn mg)(T:SC K C)
  (FO:Fun K "with_one_more" "with_one_more" zCV fO fdO) (bO:zL K fdO ["steps","vector"] []) (mO:mg "with_one_more" =some (.ref fO)) (GO:FnOk P w K mg base CX0 36 fO fdO ["steps","vector"] (zEw C))
  (FL:Fun K "lessened" "lessened" zBP fL fdL) (bL:zL K fdL ["vector","steps"] []) (mL:mg "lessened" =some (.ref fL)) (GL:FnOk P w K mg base CX0 34 fL fdL ["vector","steps"] (zBp C))
  (FW:Fun K "rows_of" "rows_of" zDh fW fdW) (bW:zL K fdW ["vectors","count"] []) (mW:mg "rows_of" =some (.ref fW)) (GW:FnOk P w K mg base CX0 1 fW fdW ["vectors","count"] zEZ):FnOk P w K mg base CX0 37 f fd ["free","names","rows"] (zDr C):=by
 refine F.ok zBh (fun vs H Q E h=>?_) (fun cdv A outer s H vs Q E hr36 h=>?_)
 ·obtain ⟨l,R,k,m,b,rfl,_⟩:=h;rfl
 ·obtain ⟨l,R,k,m,b,rfl,⟨as,el,has⟩,hR,n6,hk,hm,hb,q⟩:=h;have hr1:Room 1 _:=hr36.mono (by decide);have hr34:Room 34 _:=hr36.mono (by decide);have la:=Paired.len has;have bR: ∀x∈R,Bts b x:=fun x hx=>(hR x hx).2;have eNB:NB b=127*b+140:=rfl;refine ⟨_,QB.out (zE
   (yt 3 zBh.nd rfl (Or.inr rfl) (zAU zD) rfl (.inl rfl)) (zE
   (zAF PassesOwn.never rfl (yZ rfl B.range (qc (qx 0 rfl) zD rfl) rfl) (zJ 4 zBh.nd rfl (Or.inr rfl) (.inl rfl)) (zM
    (yt 3 zBh.nd rfl (Or.inr rfl) (zI GO hr36 rfl mO FO.kp bO .nil zK (qc (qx 3 rfl) (qc (zc ["row"] ["place"] [4] rfl (zj (K:=K) rfl (qx 2 rfl)) rfl (by decide+kernel) rfl (by decide+kernel) (zN rfl yb) rfl (fr1 ⟨rfl,rfl,rfl,_,rfl,rfl⟩) (zO rfl) (fun _ _ _ _=>(zJ 0 (show (["row","place"] :List Str).Nodup by decide+kernel) rfl (.inl rfl) (.inr rfl))) (fun _ _ _ _=>zV) (fun _ _ _ _=>(yA (K:=K) rfl (qw 0 rfl) (qx 1 rfl) (fun _ _=>rfl))) (fun _=>rfl)) zD rfl) rfl) rfl rfl rfl) rfl (.inl rfl))) (fun _=>rfl)) (zE
   (zHy yn 5 (by exact zBh.nd) rfl (Or.inl rfl) (.inr rfl) ["name"] ["free","rows","steps"] [0,2,3] rfl (yZ rfl B.range (qc (qw 1 rfl) zD rfl) rfl) rfl rfl (by decide+kernel) (zN rfl (zN rfl (zN rfl yb))) rfl (fr3 ⟨rfl,rfl,rfl,_,fun _=>rfl,rfl⟩ ⟨rfl,rfl,rfl,_,fun _=>rfl,rfl⟩ ⟨rfl,rfl,rfl,_,fun _=>rfl,rfl⟩) (fun _=>zO rfl) (fun _ _ _ _=>(zJ 0 (show (["name","free","rows","steps"] :List Str).Nodup by decide+kernel) rfl (.inr rfl) (.inl rfl))) (fun _ _ _ _=>zV) (fun C s₂ H₂ fp xe E hp=>(zI GL hr34 rfl mL FL.kp bL .nil zK (qc (zc ["row"] ["name","free"] [0,1] rfl (zj (K:=K) rfl (qx 2 rfl)) rfl (by decide+kernel) rfl (by decide+kernel) (zN rfl (zN rfl yb)) rfl (fr2 ⟨rfl,rfl,rfl,_,rfl,rfl⟩ ⟨rfl,rfl,rfl,_,rfl,rfl⟩) (zO rfl) (fun _ _ _ _=>(zJ 0 (show (["row","name","free"] :List Str).Nodup by decide+kernel) rfl (.inl rfl) (.inr rfl))) (fun _ _ _ _=>zV) (fun _ _ _ _=>(yA (K:=K) rfl (qw 0 rfl) (zAM (qx 2 rfl) (qx 1 rfl)) (fun _ _=>rfl))) (fun _=>rfl)) (qc (qx 3 rfl) zD rfl) rfl) rfl rfl rfl)) (fun _=>rfl) rfl) (zM
   (ze (zBw (qc (yK (yH (K:=K) rfl) rfl B.len yo (qc (qx 3 rfl) zD rfl) rfl) (qc (zI GW hr1 rfl mW FW.kp bW .nil zK (qc (zBG (zc (cl:= []) ["step"] [] [] rfl (zj (K:=K) rfl (qx 3 rfl)) rfl (by decide+kernel) rfl (by decide+kernel) (fun _ _ h=>nomatch h) rfl (fun j y i h=>nomatch h) (zO rfl) (fun _ _ _ _=>(zJ 0 (show (["step"] :List Str).Nodup by decide+kernel) rfl (.inl rfl) (.inr rfl))) (fun _ _ _ _=>zV) (fun _ _ _ _=>(zk (K:=K) rfl (qw 0 rfl) rfl)) (fun _=>rfl)) (qw 5 rfl)) (qc (yK (yH (K:=K) rfl) rfl B.len yo (qc (qx 2 rfl) zD rfl) rfl) zD rfl) rfl) rfl rfl rfl) zD rfl) rfl))))))),?_⟩
  refine ⟨bs 0,fun s0 hs0=>?_⟩;have t0:=zC.upd hs0 (o:= .lst []);refine ⟨_,rfl,(k:Int),rfl,by omega,by omega,?_⟩;refine yj k (fun i σ H'=> ∃(sl:Addr) (S:List Stp) (s4:Option V),σ= [some (.int (k:Int)),some (.int (m:Int)),some (.ref l),some (.ref sl),s4,none] /\i<=k/\zC H H'/\StL C H' sl S/\NF R.length (zDx i R) S) ⟨s0,[],none,rfl,zPk _,t0,⟨[],zB,.nil⟩,zNM _⟩ ?_ ?_ ?_ ?_
  ·rintro i σ H1 hi ⟨sl,S,s4,rfl,_⟩;exact hi
  ·rintro σ H1 ⟨sl,S,s4,rfl,_⟩;exact zPZ _
  ·rintro i σ H0 x H1 hi ⟨sl,S,s4,rfl,_,s1,hS,nf⟩ ⟨rfl,rfl⟩;refine ⟨_,rfl,_,rfl,l,rfl,⟨_,SqL.of (s1 _ _ el)⟩,fun D hD=>?_⟩;refine zEB (j:=i) (s1 _ _ el) (LIs.same has s1) (fun x hx=>by rw [(hR x hx).1];omega) (by omega) hD (Int.zero_add _) rfl ?_;have tD:=zC.upd hD (o:= .lst ((zq R i).map V.int));have bn: ∀T',Ech R.length T'->Red T'->(∀x,Sp T' x↔Sp ((0,zq R i)::S) x)-> ∀q∈T',Bts (NB b) q.2:=fun T' h1 h2 h3=>zIY h1 h2 (zHm nf h3) n6 (by rw [<-zDT];exact zFO bR);refine ⟨sl,D,S,zq R i,R.length,b,NB b,NB b,rfl,hS.same tD,zB,⟨nf.ech,yM,n6,zIY nf.ech nf.red nf.sp n6 (zFO bR),Bts.col bR i,bn,by omega⟩,fun T' l' H' s' hl' h1 h2 h3 h4=>?_⟩;refine ⟨l',T',_,rfl,hi,(s1.trans tD).trans s',hl',h1,h2,fun x=>by rw [zDT];exact zHm nf h3 x,?_⟩;have:=nf.len;rw [zDT,zPx];simp only [List.length_cons,List.length_nil];omega
  ·rintro σ H1 ⟨sl,S,s4,rfl,_,s1,⟨os,es,hos⟩,nf⟩;have bS:=zIY nf.ech nf.red nf.sp n6 (zFO bR);have lS:S.length<=6:=zPj (zCF nf.ech) n6;refine ⟨_,rfl,(m:Int),rfl,by omega,by omega,fun D hD=>?_⟩;refine zR m (fun i ys H'=> ∃rs:List Addr,i<=m/\ys=rs.map V.ref/\LIs H' rs ((zCu k m R S).take i)/\rs.length=i/\D∉rs/\zC H1 H'/\H' D=some (.lst ys)) ⟨[],zPk _,rfl,by rw [List.take_zero];exact .nil,rfl,by simp,zC.upd hD,zB⟩ (by rw [zPg];omega) ?_ ?_ ?_
   ·rintro i ys H' hi ⟨rs,_,rfl,_,hrl,_,s2,e2⟩;exact ⟨by simp;omega,e2,fun h=>h,fun h=>Nat.le_of_eq h.symm⟩
   ·rintro i ys H' x H'' hi ⟨rs,_,rfl,hrs,hrl,hnd,s2,e2⟩ ⟨rfl,rfl⟩ pre hpre;obtain ⟨p0,rfl⟩:=yQ hpre;have s12:=s1.trans s2;refine ⟨⟨[some (.int ((0:Int)+(i:Int)))],rfl,rfl⟩,zp ?_⟩;refine ⟨_,rfl,l,rfl,⟨_,SqL.of (s12 _ _ el)⟩,fun D2 hD2=>zJl (j:=i) (k:=k) (s12 _ _ el) (LIs.same has s12) (fun x hx=>by rw [(hR x hx).1];omega) (by omega) hD2 (Int.zero_add _) rfl ?_⟩;have tD:=zC.upd hD2 (o:= .lst ((zq R (k+i)).map V.int));have mul6:S.length*(NB b+1)<=6*(NB b+1):=Nat.mul_le_mul_right _ lS;refine ⟨_,rfl,D2,sl,zq R (k+i),S,R.length,b,NB b,rfl,zB,⟨os,(s2.trans tD) _ _ es,StA.same hos (s2.trans tD)⟩,yM,by omega,by omega,fun q hq=>let ⟨z1,z2,z3,_⟩:=nf.ech.mem hq;⟨z1,z2,z3,bS q hq⟩,Bts.col bR _,by omega,fun l' H3 s3 hfr hl'=>?_⟩;have sD:=tD.trans s3;have hne:l'≠D:=fun z=>by
     rcases hfr with h | h
     ·rw [<-h,z,e2] at hD2;cases hD2
     ·rw [z,tD _ _ e2] at h;cases h
    refine ⟨sD _ _ e2,rs++ [l'],hi,by simp,?_,by simp [hrl],by simp [hnd,Ne.symm hne],zC.store (s2.trans sD) hD,zB⟩;rw [zPs,show (zCu k m R S)[i]?=some (zU (zq R (k+i)) S) by simp [zCu,hi]];refine Paired.snoc' (Paired.mapM hrs fun a v hm ea=>?_) ?_
    ·have z:=sD _ _ ea;show L2.upd _ D _ a=_;rw [zH fun haD=>hnd (by rw [<-haD];exact hm)];exact z
    ·show L2.upd _ D _ l'=_;rw [zH hne];exact hl'
   ·rintro ys H2 ⟨rs,_,rfl,hrs,_,_,s2,e2⟩;rw [List.take_of_length_le (by simp [zCu])] at hrs;have lr:=Paired.len hrs;have lfx:(zCu k m R S).length=m:=by simp [zCu]
    refine ⟨_,rfl,sl,_,rfl,.inl (SqL.of (s2 _ _ es)),?_⟩;refine ⟨_,rfl,sl,rfl,⟨_,SqL.of (s2 _ _ es)⟩,fun D4 hD4=>zKF T (s2 _ _ es) (StA.same hos s2) (by omega) hD4 fun vs hvs=>?_⟩;have t4:=zC.upd hD4 (o:= .lst (vs.map V.ref));have lv:=Paired.len hvs;rw [zPc] at lv;refine ⟨_,rfl,D4,D,_,_,rfl,rfl,zB,t4 _ _ e2,by rw [zPg];simp;omega,fun p hp=>?_⟩;have t5:=zC.upd hp (o:= .lst (vs.map V.ref++rs.map V.ref));have s5:=(s2.trans t4).trans t5;have s15:=s1.trans s5;refine ⟨_,rfl,l,_,rfl,.inl (SqL.of (s15 _ _ el)),p,S.map (·.2)++zCu k m R S,R.length,by rw [zPc,la];rfl,⟨vs++rs,by rw [zB,zPr],LIs.same (Paired.app (LIs.same hvs t4) (LIs.same hrs t4)) t5⟩,fun u hu=>?_,by omega,by simp;omega,fun r H6 s6 hr6 h6=>?_⟩
    ·rcases List.mem_append.mp hu with z | z
     ·obtain ⟨q',hq',rfl⟩:=List.mem_map.mp z;exact (nf.ech.mem hq').1
     ·obtain ⟨j,_,rfl⟩:=List.mem_map.mp z;exact (yB nf.ech yM).1
    ·refine ⟨bs 2,fun t ht=>?_⟩;have lo:=Paired.len hos;have t7:=zC.upd ht (o:= .tup [.int (((os.map V.ref).length:Nat):Int),.ref r]);refine q S t r _ ((s15.trans s6).trans t7) ?_ (zC.none s15 hr6.new) (h6.same t7) nf;rw [zB,zPc,lo]
end
section
variable {P:Program}{w:World}{K:zQK}{mg:Str->Option Value}{base:Heap}
def ful(m:Nat)(W:List Vec)(u:Vec):Eqn:=(u,(List.range m).map fun j=>0 - dot u (zq W j))
def zJy(K:zQK):Sp:=fun vs H Q _=> ∃(a p wl:Addr) (ns:List Int) (c:Int) (W:List Vec) (m k:Nat),vs= [.ref a,.ref p,.ref wl,.int (m:Int),.int (k:Int)] /\Scr K H a p ns/\ns.length<=63/\H p=some (.lst [.int c])/\0<=c/\c<=300/\
 LLb H wl W p/\W.length<=6/\m<=3/\k<=6/\(∀x∈W,x.length=m/\Sm x)/\
 ∀(l:Addr) (us:List Vec) (c':Int) (H':Hp),But [p] H H'->H l=none->H' p=some (.lst [.int c'])->0<=c'->c'<=400->LLb H' l (zf (us.map (ful m W))) p->us.length=k->(∀u∈us,u.length=W.length/\Sm u)->Q (.ref l) H'
theorem zIX:FnScope ["_law_script","_law_spot","_law_wanted","_law_names","_law_many","_law_found","_law_k","_law_row"] ["_law_script","_law_spot","_law_wanted","_law_names","_law_many"] (zF zGf):=⟨rfl,rfl,rfl,by decide+kernel,rfl,by decide+kernel,by decide+kernel⟩
theorem zOu{f fD fS:Addr}{fd fdD fdS:FuncData}(F:Fun K "_law_fulfilled" "_law_fulfilled" zGf f fd)(B:Bn mg)
  (FD:Fun K "_law_drawn" "_law_drawn" zCO fD fdD) (bD:zL K fdD ["_law_script","_law_spot","_law_size","_law_most"] []) (mD:mg "_law_drawn" =some (.ref fD)) (GD:FnOk P w K mg base CX0 3 fD fdD ["_law_script","_law_spot","_law_size","_law_most"] (zGr K))
  (FS:Fun K "_law_sum" "_law_sum" zFT fS fdS) (bS:zL K fdS ["_law_row","_law_values"] []) (mS:mg "_law_sum" =some (.ref fS)) (GS:FnOk P w K mg base CX0 1 fS fdS ["_law_row","_law_values"] zID):FnOk P w K mg base CX0 4 f fd ["_law_script","_law_spot","_law_wanted","_law_names","_law_many"] (zJy K):=by
 refine F.ok zIX (fun vs H Q E h=>?_) (fun cdv A outer s H vs Q E hr3 h=>?_)
 ·obtain ⟨a,p,wl,ns,c,W,m,k,rfl,_⟩:=h;rfl
 ·obtain ⟨a,p,wl,ns,c,W,m,k,rfl,ha,hns,hp,c0,c1,hW,lW,m3,k6,hx,q⟩:=h;have hr1:Room 1 _:=hr3.mono (by decide);refine ⟨_,QB.out (zE
   (zW 5 zIX.nd rfl (zAU zD) rfl) (zE
   (zAF PassesOwn.never rfl (yZ rfl B.range (qc (qw 4 rfl) zD rfl) rfl) (zJ 6 zIX.nd rfl (Or.inl rfl) (.inr rfl)) (zE
    (yt 7 zIX.nd rfl (Or.inr rfl) (zI GD hr3 rfl mD FD.kp bD .nil zK (qc (qw 0 rfl) (qc (qw 1 rfl) (qc (yK (yH (K:=K) rfl) rfl B.len yo (qc (qx 2 rfl) zD rfl) rfl) (qc zG zD rfl) rfl) rfl) rfl) rfl rfl rfl) rfl (.inl rfl)) (zM
    (zBH (zEG (K:=K) rfl (qw 5 rfl) (zBG (qx 7 rfl) (zFF ["_law_name"] ["_law_wanted","_law_row"] [2,7] rfl (yZ rfl B.range (qc (qw 3 rfl) zD rfl) rfl) rfl rfl (by decide+kernel) (zN rfl (zN rfl yb)) rfl (fr2 ⟨rfl,rfl,rfl,_,fun _=>rfl,rfl⟩ ⟨rfl,rfl,rfl,_,fun _=>rfl,rfl⟩) (fun _=>zO rfl) (fun _ _ _ _=>(zJ 0 (show (["_law_name","_law_wanted","_law_row"] :List Str).Nodup by decide+kernel) rfl (.inr rfl) (.inl rfl))) (fun _ _ _ _=>zV) (fun _ _ _ _=>(zBZ zG (zI GS hr1 rfl mS FS.kp bS .nil zK (qc (qx 2 rfl) (qc (zc ["_law_own"] ["_law_name"] [0] rfl (zj (K:=K) rfl (qx 1 rfl)) rfl (by decide+kernel) rfl (by decide+kernel) (zN rfl yb) rfl (fr1 ⟨rfl,rfl,rfl,_,rfl,rfl⟩) (zO rfl) (fun _ _ _ _=>(zJ 0 (show (["_law_own","_law_name"] :List Str).Nodup by decide+kernel) rfl (.inl rfl) (.inr rfl))) (fun _ _ _ _=>zV) (fun _ _ _ _=>(yA (K:=K) rfl (qw 0 rfl) (qx 1 rfl) (fun _ _=>rfl))) (fun _=>rfl)) zD rfl) rfl) rfl rfl rfl))) (fun _=>rfl))) rfl rfl rfl) rfl))) (fun _=>rfl)) (zM
   (ze (qw 5 rfl))))),?_⟩
  refine ⟨zPk _,fun l hl=>?_⟩;have hlp:l≠p:=fun z=>by rw [z,hp] at hl;cases hl
  have sl:=zC.upd hl (o:= .lst []);refine ⟨_,rfl,(k:Int),rfl,by omega,by omega,?_⟩;refine yj k (fun i σ H'=> ∃(s6 s7:Option V) (us:List Vec) (rs:List Addr) (c':Int),σ= [some (.ref a),some (.ref p),some (.ref wl),some (.int (m:Int)),some (.int (k:Int)),some (.ref l),s6,s7] /\i<=k/\us.length=i/\(∀u∈us,u.length=W.length/\Sm u)/\H' l=some (.lst (rs.map V.ref))/\LIs H' rs (zf (us.map (ful m W)))/\p∉rs/\l∉rs/\H' p=some (.lst [.int c'])/\0<=c'/\c'<=300+6*i/\But [p] H H')
   ⟨none,none,[],[],c,rfl,zPk _,rfl,by simp,zB,.nil,by simp,by simp,sl _ _ hp,c0,by omega,zC.but sl _⟩ ?_ ?_ ?_ ?_
  ·rintro i σ H1 hi ⟨s6,s7,us,rs,c',rfl,_⟩;exact hi
  ·rintro σ H1 ⟨s6,s7,us,rs,c',rfl,_⟩;exact zPZ _
  ·rintro i σ H0 x H1 hi ⟨s6,s7,us,rs,c',rfl,_,lu,hus,el,hrs,hpr,hlr,ep,d0,d1,bt⟩ ⟨rfl,rfl⟩;obtain ⟨was,ew,hws,hpw,hwp⟩:=hW.but bt;have lw:=Paired.len hws;have hn:(was.map V.ref).length=W.length:=by rw [zPc,lw]
   refine ⟨_,rfl,_,rfl,_,rfl,wl,_,rfl,.inl (SqL.of ew),a,p,ns,c',(was.map V.ref).length,2,rfl,ha.but bt,hns,ep,d0,by omega,by decide,by decide,fun l1 v H2 b2 ep2 hl1 hv lv bv=>?_⟩;rw [hn] at lv;have nl1:l1≠l:=fun z=>by rw [z,el] at hl1;cases hl1
   have np1:l1≠p:=fun z=>by rw [z,ep] at hl1;cases hl1
   have ew2:=b2 _ _ ew (by simpa using hwp);have hws2:=LIs.butp hws b2 hpw;have el2:=b2 _ _ el (by simpa using hlp);have hrs2:=LIs.butp hrs b2 hpr;have bv':Sm v:=bv;refine ⟨_,rfl,.inl ⟨rfl,_,SqL.of el2⟩,_,rfl,_,rfl,(m:Int),rfl,by omega,by omega,fun D hD=>?_⟩;refine zR m (fun j ys H3=>j<=m/\ys=((ful m W v).2.take j).map V.int/\zC H2 H3/\H3 D=some (.lst ys)) ⟨zPk _,by simp,zC.upd hD,zB⟩ (by rw [zPg];omega) ?_ ?_ ?_
   ·rintro j ys H3 hj ⟨_,rfl,s3,e3⟩;exact ⟨by simp;omega,e3,fun h=>h,fun h=>Nat.le_of_eq h.symm⟩
   ·rintro j ys H3 x H4 hj ⟨_,rfl,s3,e3⟩ ⟨rfl,rfl⟩ pre hpre;obtain ⟨p0,rfl⟩:=yQ hpre;refine ⟨⟨[some (.int ((0:Int)+(j:Int)))],rfl,rfl⟩,zp ?_⟩;refine ⟨_,rfl,_,rfl,wl,rfl,⟨_,SqL.of (s3 _ _ ew2)⟩,fun D2 hD2=>?_⟩;have s4:=zC.upd hD2 (o:= .lst ((zq W j).map V.int));refine zEB (j:=j) (s3 _ _ ew2) (LIs.same hws2 s3) (fun x hx'=>by rw [(hx x hx').1];exact hj) (by omega) hD2 (Int.zero_add _) rfl ?_;refine ⟨l1,D2,v,zq W j,rfl,hv.same (s3.trans s4),zB,Nat.le_of_eq (by rw [yM,lv]),by omega,bv'.bts,(Sm.col (fun x hx'=>(hx x hx').2) j).bts,fun H5 s5=>?_⟩;refine ⟨_,_,rfl,rfl,s5 _ _ (s4 _ _ e3),hj,?_,zC.store (s3.trans (s4.trans s5)) hD,zB⟩;rw [zPs,ful,zPa,List.getElem?_range hj];simp
   rintro ys H3 ⟨_,rfl,s3,e3⟩;rw [List.take_of_length_le (by simp [ful])] at e3;refine ⟨l1,D,_,_,rfl,rfl,s3 _ _ hv,e3,by rw [zPg];simp [ful];omega,fun r hr=>?_⟩;rw [<-zPr];have s5:=zC.upd hr (o:= .lst ((v++(ful m W v).2).map V.int));have s35:=s3.trans s5;have nrl:r≠l:=fun z=>by rw [z,s3 _ _ el2] at hr;cases hr
   have nrp:r≠p:=fun z=>by rw [z,s3 _ _ ep2] at hr;cases hr
   have lrs:rs.length=i:=by rw [Paired.len hrs];simp [lu]
   refine ⟨l,_,_,rfl,rfl,s35 _ _ el2,by rw [zPg];simp;omega,?_⟩;refine ⟨_,_,us++ [v],rs++ [r],_,rfl,hi,by simp [lu],fun u hu=>?_,by rw [zB,zPr];rfl,?_,by simp [hpr,Ne.symm nrp],by simp [hlr,Ne.symm nrl],by rw [zH (Ne.symm hlp)];exact s35 _ _ ep2,by omega,by omega,?_⟩
   ·rcases List.mem_append.mp hu with h | h
    ·exact hus u h
    ·rw [List.mem_singleton.mp h];exact ⟨lv,bv'⟩
   ·rw [show zf ((us++ [v]).map (ful m W))=zf (us.map (ful m W))++ [v++(ful m W v).2] by simp [zf,ful]];refine Paired.snoc' (Paired.mapM hrs2 fun a v hm ea=>?_) ?_
    ·have z:=s35 _ _ ea;show L2.upd _ l _ a=_;rw [zH fun hz=>hlr (by rw [<-hz];exact hm)];exact z
    ·show L2.upd _ l _ r=_;rw [zH nrl];exact zB
   ·exact fun b u e z=>by rw [zH (yU e hl)];exact (bt.trans (b2.trans (zC.but s35 _))) b u e z
  ·rintro σ H1 ⟨s6,s7,us,rs,c',rfl,_,lu,hus,el,hrs,hpr,hlr,ep,d0,d1,bt⟩;exact ⟨_,rfl,q l us c' H1 bt hl ep d0 (by omega) ⟨rs,el,hrs,hpr,hlp⟩ lu hus⟩
end
theorem zCx: ∀(e:Vec) (x:Fn),dt x e=((List.range e.length).map fun i=>zA e i*x i).sum
 | [],_=>rfl
 | a::e,x=>by
  simp only [dt];rw [zCx e,List.length_cons,List.range_succ_eq_map,List.map_cons,List.sum_cons,List.map_map];rw [show zA (a::e) 0=a from rfl,Int.mul_comm];congr 1
theorem zIu{e v:Vec}{x:Fn}(h:v.length=e.length)(hx: ∀i,i<e.length->zA v i=x i):dot e v=dt x e:=by
 rw [zJp rfl h,zCx];congr 1;refine List.map_congr_left fun i hi=>?_;rw [hx i (List.mem_range.mp hi)]
theorem yq{vs:List Vec}{n:Nat}:(zt vs n).length=n:=by simp [zt]
theorem zMO{n m:Nat}{W:List Vec}{us:List Vec}(lW:W.length=n)(hu: ∀u∈us,u.length=n): ∀k,k<m-> ∀E∈us.map (ful m W),dt (zA (zq W k)) E.1+zA E.2 k=0:=by
 intro k hk E hE;obtain ⟨u,hu',rfl⟩:=List.mem_map.mp hE;have l:=hu u hu';have e1:dot u (zq W k)=dt (zA (zq W k)) u:=zIu (by rw [yM];omega) fun _ _=>rfl;have e2:zA (ful m W u).2 k=0 - dot u (zq W k):=by simp [ful,zA,hk]
 rw [e2,e1];show dt _ u+_=0;omega
theorem zHd: ∀(S:List Stp) (c:Fn),FrV.Sp S (fun i=>dt c (S.map fun q=>zA q.2 i))
 | [],_=>fun _=>rfl
 |(p,v)::S,c=>⟨c 0,(zHd S fun i=>c (i+1)).congr fun i=>by
   show dt (fun i=>c (i+1)) (S.map fun q=>zA q.2 i)=c 0*zA v i+dt (fun i=>c (i+1)) (S.map fun q=>zA q.2 i) - c 0*zA v i;omega⟩
theorem zCX{vs:List Vec}{n i:Nat}(hi:i<n):(zt vs n)[i]?=some (vs.map fun v=>zA v i):=by simp [zt,hi]
theorem zGl{s:Stt}{i:Nat}:((s.steps.map (·.2)++s.fixed).map fun v=>zA v i).take s.steps.length=s.steps.map fun q=>zA q.2 i:=by
 rw [zPr,List.take_append_of_le_length (by simp),List.take_of_length_le (by simp),List.map_map];rfl
theorem zLr{s:Stt}{i j:Nat}{f:Vec}(h:s.fixed[j]?=some f):zA ((s.steps.map (·.2)++s.fixed).map fun v=>zA v i) (s.steps.length+j)=zA f i:=by
 simp only [zA,List.getD_eq_getElem?_getD];rw [zPr,List.getElem?_append_right (by simp)];simp [h]
theorem zKv{n m b:Nat}{Es:List Eqn}{s:Stt}(S:Sol n m Es s)(ok:EqOk n m b Es)(hn:n<=6){q:Stp}(hq:q∈s.steps):Bts (VB6 b) q.2:=by
 have g:=(S.kern ok).steps S.red (l:=3) (by show n+1<=8;omega) hq;have u0:ub n 0 b<=ub n 3 b:=zBN (zPk 3) (zPZ n) (zPZ b);have:=zIW (b:=b) hn;unfold FrV.VV at this;exact fun i=>(g i).mono (by omega)
theorem zNr{n m b:Nat}{Es:List Eqn}{s:Stt}(S:Sol n m Es s)(ok:EqOk n m b Es)(hn:n<=6){v:Vec}(hv:v∈s.steps.map (·.2)++s.fixed):Bts (VB6 b) v:=by
 rcases List.mem_append.mp hv with h | h
 ·obtain ⟨q,hq,rfl⟩:=List.mem_map.mp h;exact zKv S ok hn hq
 ·exact S.fixedB ok hn h
theorem zJL{vs:List Vec}{i c:Nat}:zA (vs.map fun v=>zA v i) c=zA (vs.getD c []) i:=by
 show ((vs.map fun v=>zA v i)[c]?).getD 0=zA ((vs[c]?).getD []) i;rw [zPa];cases vs[c]?<;>rfl
theorem zFR{n m b:Nat}{Es:List Eqn}{s:Stt}(S:Sol n m Es s)(ok:EqOk n m b Es)(hn:n<=6): ∀r∈zt (s.steps.map (·.2)++s.fixed) n,r.length=s.steps.length+m/\Bts (VB6 b) r:=by
 intro r hr;obtain ⟨i,_,rfl⟩:=List.mem_map.mp hr;refine ⟨by simp [S.fl],fun c=>?_⟩;rw [zJL];cases e:(s.steps.map (·.2)++s.fixed)[c]? with
 | none=>rw [List.getD,e];exact zPk _
 | some v=>rw [List.getD,e];exact zNr S ok hn (zPz e) i
theorem zLe{n m:Nat}{s:Stt}{O:List Vec}{i:Nat}(hi:i<n){o:Vec}(ho:O[i]?=some o):zCl s.steps.length m ((s.steps.map (·.2)++s.fixed).map fun v=>zA v i) o∈yf s.steps.length m (zt (s.steps.map (·.2)++s.fixed) n) O:=by
 refine zPz (i:=i) ?_;rw [yf,List.getElem?_zipWith,zCX hi,ho]
theorem zML{k:Nat}{st:Stt}{q:Nat}(hq:q<k):((zt (st.steps.map (·.2)++st.fixed) k).map fun v=>v.drop st.steps.length)[q]?=some (st.fixed.map fun f=>zA f q):=by
 rw [zPa,zCX hq];simp [zPr,List.drop_append]
def zOs(m:Nat)(O:List Vec)(E:Eqn):Prop:= ∀j,j<m->dot E.1 (zq O j)+zA E.2 j=0
theorem zLM{e:Vec}{x y:Fn}(h: ∀i,i<e.length->x i=y i):dt x e=dt y e:=by
 rw [zCx,zCx];congr 1;exact List.map_congr_left fun i hi=>by rw [h i (List.mem_range.mp hi)]
theorem zGV: ∀(u v:Vec) (z:Fn),dt z (u++v)=dt z u+dt (fun i=>z (u.length+i)) v
 | [],v,z=>by
  show dt z v=0+dt (fun i=>z (0+i)) v;rw [Int.zero_add];exact yz fun i=>by rw [Nat.zero_add]
 | a::u,v,z=>by
  show z 0*a+dt (fun i=>z (i+1)) (u++v)=(z 0*a+dt (fun i=>z (i+1)) u)+dt _ v;rw [zGV u v,Int.add_assoc];congr 2;refine yz fun i=>?_;show z (u.length+i+1)=z ((a::u).length+i);rw [List.length_cons,show u.length+1+i=u.length+i+1 by omega]
def zCC(U V:List Vec):Prop:= ∀z:Fn,(∀u∈U,dt z u=0)↔ ∀v∈V,dt z v=0
theorem zFp{n:Nat}{E:Eqn}{x:Fn}(h:E.1.length=n):dt (fun i=>if i<n then x i else 0) (E.1++E.2)=dt x E.1:=by
 rw [zGV,zLM (y:=x) (fun i hi=>if_pos (by omega)),zDU _ _ (fun i=>if_neg (by omega)),Int.add_zero]
theorem zGB{n k:Nat}{E:Eqn}{x:Fn}(h:E.1.length=n):dt (fun i=>if i<n then x i else if i=n+k then 1 else 0) (E.1++E.2)=dt x E.1+zA E.2 k:=by
 rw [zGV,zLM (y:=x) (fun i hi=>if_pos (by omega)),<-zBc];congr 1;refine yz fun i=>?_;rw [if_neg (by omega)];by_cases hi:i=k
 ·rw [if_pos hi,if_pos (by omega)]
 ·rw [if_neg hi,if_neg (by omega)]
theorem zCC.eqs{Es Fs:List Eqn}(h:zCC (zf Es) (zf Fs))(z:Fn):(∀E∈Es,dt z (E.1++E.2)=0)↔ ∀E∈Fs,dt z (E.1++E.2)=0:=by
 have:=h z;simp only [zf,List.mem_map,forall_exists_index,and_imp,forall_apply_eq_imp_iff₂] at this;exact this
theorem zCC.hom{n:Nat}{Es Fs:List Eqn}(h:zCC (zf Es) (zf Fs))(l1: ∀E∈Es,E.1.length=n)(l2: ∀E∈Fs,E.1.length=n)(x:Fn):(∀E∈Es,dt x E.1=0)↔ ∀E∈Fs,dt x E.1=0:=by
 have:=h.eqs fun i=>if i<n then x i else 0;constructor
 ·intro z E hE;rw [<-zFp (l2 E hE)];exact this.mp (fun E hE=>by rw [zFp (l1 E hE)];exact z E hE) E hE
 ·intro z E hE;rw [<-zFp (l1 E hE)];exact this.mpr (fun E hE=>by rw [zFp (l2 E hE)];exact z E hE) E hE
theorem zCC.inh{n k:Nat}{Es Fs:List Eqn}(h:zCC (zf Es) (zf Fs))(l1: ∀E∈Es,E.1.length=n)(l2: ∀E∈Fs,E.1.length=n)(x:Fn):(∀E∈Es,dt x E.1+zA E.2 k=0)↔ ∀E∈Fs,dt x E.1+zA E.2 k=0:=by
 have:=h.eqs fun i=>if i<n then x i else if i=n+k then 1 else 0;constructor
 ·intro z E hE;rw [<-zGB (l2 E hE)];exact this.mp (fun E hE=>by rw [zGB (l1 E hE)];exact z E hE) E hE
 ·intro z E hE;rw [<-zGB (l1 E hE)];exact this.mpr (fun E hE=>by rw [zGB (l2 E hE)];exact z E hE) E hE
theorem zOa{n m:Nat}{Es Fs:List Eqn}{s t:Stt}(S:Sol n m Es s)(T:Sol n m Fs t)(l1: ∀E∈Es,E.1.length=n)(l2: ∀E∈Fs,E.1.length=n)(h:zCC (zf Es) (zf Fs)):t.steps=s.steps/\t.fixed=s.fixed:=by
 have e:t.steps=s.steps:=Ech.uniq T.ech T.red S.ech S.red fun x=>by
  rw [T.ker,S.ker,h.hom l1 l2]
 refine ⟨e,List.ext_getElem? fun k=>?_⟩;have f1:=S.fl;have f2:=T.fl;by_cases hk:k<m
 ·have e1:s.fixed[k]?=some (s.fixed[k]'(by omega)):=zPV _;have e2:t.fixed[k]?=some (t.fixed[k]'(by omega)):=zPV _;rw [e1,e2];generalize s.fixed[k]'(by omega)=f at e1;generalize t.fixed[k]'(by omega)=g at e2;have m1:=zPz e1;have m2:=zPz e2;have n1:=S.fn f m1;have n2:=T.fn g m2;congr 1;refine zHH (by omega) fun i=>?_;have d:FrV.Sp s.steps (fun i=>zA g i - zA f i):=(S.ker _).mpr ⟨fun i hi=>by rw [zi (by omega),zi (by omega)];rfl,fun E hE=>by
   rw [zAa];have a1:=S.fx k f e1 E hE;have a2:=(h.inh l1 l2 (zA g)).mpr (T.fx k g e2) E hE;omega⟩
  have:=Sp.small S.ech d (fun q hq=>by
   have b1:=S.fr f m1 q hq;have b2:=T.fr g m2 q (by rw [e];exact hq);constructor<;>omega) i
  omega
 ·rw [List.getElem?_eq_none (by omega),List.getElem?_eq_none (by omega)]
theorem zBW: ∀{e:Vec} {x:Fn},(∀a∈e,a=0)->dt x e=0
 | [],_,_=>rfl
 | a::e,x,h=>by
  show x 0*a+dt _ e=0;rw [h a (by simp),zBW fun a ha=>h a (by simp [ha])];simp
theorem zFg{n:Nat}: ∀{S:List Stp} {c:Fn},Ech n S->(∀i,dt c (S.map fun q=>zA q.2 i)=0)-> ∀j,j<S.length->c j=0
 |(p,v)::S,c,⟨h1,h2,h3,h4,h5,h6⟩,h,j,hj=>by
  have e: ∀i,c 0*zA v i+dt (fun i=>c (i+1)) (S.map fun q=>zA q.2 i)=0:=h;have z:dt (fun i=>c (i+1)) (S.map fun q=>zA q.2 p)=0:=zBW fun a ha=>by
   obtain ⟨q,hq,rfl⟩:=List.mem_map.mp ha;exact (h6.mem hq).2.2.2 p (h5 q hq)
  have ep:=e p;rw [z,Int.add_zero] at ep;have c0:c 0=0:=by
   rcases Int.mul_eq_zero.mp ep with y | y
   ·exact y
   ·omega
  cases j with
  | zero=>exact c0
  | succ j=>
   refine zFg (c:=fun i=>c (i+1)) h6 (fun i=>?_) j (by simpa using hj);have:=e i;rw [c0,Int.zero_mul,Int.zero_add] at this;exact this
theorem zKB{k:Nat}{r:Vec}(h:k<=r.length)(x:Fn):((List.range k).map fun i=>zA r i*x i).sum=dt x (r.take k):=by
 rw [zCx,List.length_take,Nat.min_eq_left h];congr 1;exact List.map_congr_left fun i hi=>by rw [zKC,if_pos (List.mem_range.mp hi)]
theorem zDY{k m j:Nat}{r:Vec}{F:List Vec}(h:k<=r.length)(hj:j<m):zA (zBE r k m F) j=zA r (k+j)+dt (col F j) (r.take k):=by
 rw [<-zKB h];simp [zBE,zA,hj]
abbrev yD(n:Nat)(s:Stt):List Vec:=zt (s.steps.map (·.2)++s.fixed) n
abbrev zAO(n m:Nat)(s:Stt)(P:List Vec):List Vec:=(yD n s).map fun r=>zBE r s.steps.length m P
theorem zDf{n m:Nat}{Es:List Eqn}{s:Stt}(S:Sol n m Es s){P:List Vec}{i:Nat}(hi:i<n):(zAO n m s P)[i]?=some (zBE ((s.steps.map (·.2)++s.fixed).map fun v=>zA v i) s.steps.length m P):=by
 rw [zPa,zCX hi];rfl
theorem zLz{n m j:Nat}{Es:List Eqn}{s:Stt}(S:Sol n m Es s){P:List Vec}(hj:j<m){f:Vec}(hf:s.fixed[j]?=some f)(i:Nat):zA (zBE ((s.steps.map (·.2)++s.fixed).map fun v=>zA v i) s.steps.length m P) j=zA f i+dt (col P j) (s.steps.map fun q=>zA q.2 i):=by
 rw [zDY (by simp) hj,zLr hf,zGl]
theorem zMF{n m j:Nat}{Es:List Eqn}{s:Stt}(S:Sol n m Es s){P:List Vec}(hj:j<m){f:Vec}(hf:s.fixed[j]?=some f)(i:Nat):zA (zq (zAO n m s P) j) i=zA f i+dt (col P j) (s.steps.map fun q=>zA q.2 i):=by
 by_cases hi:i<n
 ·rw [<-zLz S (P:=P) hj hf];have:=zDf S (P:=P) hi;show zA ((zAO n m s P).map fun x=>zA x j) i=_;rw [zJL,List.getD,this];rfl
 ·rw [zi (by rw [yM,zPc,yq];omega),zi (by rw [S.fn f (zPz hf)];omega),zBW fun a ha=>?_]
  ·rfl
  ·obtain ⟨q,hq,rfl⟩:=List.mem_map.mp ha;exact zi (by rw [(S.ech.mem hq).1];omega)
theorem zKQ{n m:Nat}{Es:List Eqn}{s:Stt}(S:Sol n m Es s){P:List Vec}{E:Eqn}(hE:E∈Es)(l1:E.1.length=n):zOs m (zAO n m s P) E:=fun j hj=>by
 have hj':j<s.fixed.length:=by rw [S.fl];exact hj
 have e:s.fixed[j]?=some s.fixed[j] :=zPV hj';rw [zIu (x:=fun i=>1*zA s.fixed[j] i+1*dt (col P j) (s.steps.map fun q=>zA q.2 i)) (by rw [yM,zPc,yq,l1]) (fun i _=>by rw [zMF S hj e];simp),zBA];have a1:=S.fx j _ e E hE;have a2:=((S.ker _).mp (zHd s.steps (col P j))).2 E hE;omega
theorem Sm.bt3{v:Vec}(h:Sm v):Bts 3 v:=fun i=>zPj (h i) (by decide)
theorem zOK{P:List Vec}{b j:Nat}(h: ∀x∈P,Bts b x)(i:Nat):Bt b (col P j i):=by
 show Bt b (zA ((P[i]?).getD []) j);cases e:P[i]? with
 | none=>exact Bt.zero
 | some x=>exact h x (zPz e) j
theorem zJQ{n m b:Nat}{Es:List Eqn}{s:Stt}(S:Sol n m Es s)(ok:EqOk n m b Es)(hn:n<=6){P:List Vec}(hP: ∀x∈P,Sm x): ∀x∈zAO n m s P,x.length=m/\Bts (VB6 b+7) x:=fun x hx=>by
 obtain ⟨r,hr,rfl⟩:=List.mem_map.mp hx;obtain ⟨lr,br⟩:=zFR S ok hn r hr;refine ⟨by simp [zBE],fun j=>?_⟩;by_cases hj:j<m
 ·rw [zDY (by omega) hj];have h6:s.steps.length<=6:=zPj (zDR S.ech) hn;have d:=zCc (r.take s.steps.length) (col P j) 3 (by rw [List.length_take];show _<=8;omega) (fun i=>zOK (fun x hx=>(hP x hx).bt3) i) (Bts.take' br _);exact (((br _).mono (by omega)).add (d.mono (show _<=VB6 b+6 by omega)))
 ·rw [zi (by simp [zBE];omega)];exact Bt.zero
theorem zJm{n m b:Nat}{Es:List Eqn}{s:Stt}(S:Sol n m Es s)(ok:EqOk n m b Es)(hn:n<=6)(hm:m<=3)(hb:b<=20){P:List Vec}(lP:P.length=s.steps.length)(hP: ∀x∈P,x.length=m/\Sm x):
  SvOk s.steps.length m (VB6 b+8) (yf s.steps.length m (yD n s) (zAO n m s P))/\ ∃st,yp s.steps.length (whole (yf s.steps.length m (yD n s) (zAO n m s P))) (yf s.steps.length m (yD n s) (zAO n m s P)).length 0 (yf s.steps.length m (yD n s) (zAO n m s P)) (yr s.steps.length m)= .inl st/\
   (zt (st.steps.map (·.2)++st.fixed) s.steps.length).map (fun v=>v.drop st.steps.length)=P:=by
 have k6:s.steps.length<=6:=zPj (zDR S.ech) hn;have R:=zFR S ok hn;have F:=zJQ (m:=m) S ok hn fun x hx=>(hP x hx).2;have lF:(zAO n m s P).length=n:=by rw [zPc,yq]
 have key: ∀E∈yf s.steps.length m (yD n s) (zAO n m s P),∃i,i<n/\E=zCl s.steps.length m ((s.steps.map (·.2)++s.fixed).map fun v=>zA v i) (zBE ((s.steps.map (·.2)++s.fixed).map fun v=>zA v i) s.steps.length m P):=fun E hE=>by
  obtain ⟨i,hi⟩:=List.mem_iff_getElem?.mp hE;by_cases hn:i<n
  ·rw [yf,List.getElem?_zipWith,zCX hn,zDf S hn] at hi;exact ⟨i,hn,by cases hi;rfl⟩
  ·rw [yf,List.getElem?_zipWith,List.getElem?_eq_none (show (zt _ n).length<=i by rw [yq];omega)] at hi;cases hi
 have rm: ∀i,i<n->((s.steps.map (·.2)++s.fixed).map fun v=>zA v i)∈yD n s:=fun i hi=>zPz (zCX hi);have m2: ∀(r w:Vec) j,j<m->zA (zCl s.steps.length m r w).2 j=zA r (s.steps.length+j) - zA w j:=fun r w j hj=>by simp [zCl,zA,hj]
 have sv:SvOk s.steps.length m (VB6 b+8) (yf s.steps.length m (yD n s) (zAO n m s P)):=by
  refine ⟨⟨fun E hE=>?_,fun E hE=>?_,fun E hE=>?_,fun E hE=>?_⟩,k6,by omega,by simp [yf,yq];omega,by unfold VB6;omega⟩
  ·obtain ⟨i,hi,rfl⟩:=key E hE;simp [zCl]
  ·obtain ⟨i,hi,rfl⟩:=key E hE;simp [zCl]
  ·obtain ⟨i,hi,rfl⟩:=key E hE;exact (Bts.take' (R _ (rm i hi)).2 _).mono (by omega)
  ·obtain ⟨i,hi,rfl⟩:=key E hE;intro j;by_cases hj:j<m
   ·rw [m2 _ _ j hj,Int.sub_eq_add_neg];exact (((R _ (rm i hi)).2 _).mono (by omega)).add (Bt.neg ((F _ (zPz (zDf S hi))).2 j))
   ·rw [zi (by simp [zCl];omega)];exact Bt.zero
 refine ⟨sv,?_⟩;obtain ⟨st,er,R'⟩:=zCd sv.ok k6 (fun j=>col P j) (fun j i hi=>by show zA ((P[i]?).getD []) j=0;rw [List.getElem?_eq_none (by omega)];rfl) (fun j hj E hE=>by
  obtain ⟨i,hi,rfl⟩:=key E hE;rw [m2 _ _ j hj,zDY (by simp) hj];show dt (col P j) (((s.steps.map (·.2)++s.fixed).map fun v=>zA v i).take s.steps.length)+_=0;omega)
 have S':=R'.all;refine ⟨st,er,List.ext_getElem? fun q=>?_⟩;by_cases hq:q<s.steps.length
 ·rw [zML hq,zPV (show q<P.length by omega)];have hx:=hP _ (zQA (show q<P.length by omega));congr 1;refine List.ext_getElem? fun j=>?_;by_cases hj:j<m
  ·have hj':j<st.fixed.length:=by rw [S'.fl];exact hj
   have e:st.fixed[j]?=some st.fixed[j] :=zPV hj';rw [zPa,e,zAl (by omega)];show some (zA st.fixed[j] q)=_;congr 1;have hs:j<s.fixed.length:=by rw [S.fl];exact hj
   have es:s.fixed[j]?=some s.fixed[j] :=zPV hs;have z:=zFg (c:=fun q=>zA st.fixed[j] q - col P j q) S.ech (fun i=>by
    rw [zAa];by_cases hi:i<n
    ·have a:=S'.fx j _ e _ (zLe (s:=s) (m:=m) hi (zDf S (P:=P) hi));rw [m2 _ _ j hj,zDY (by simp) hj] at a;have a':dt (zA st.fixed[j]) (((s.steps.map (·.2)++s.fixed).map fun v=>zA v i).take s.steps.length)+(zA ((s.steps.map (·.2)++s.fixed).map fun v=>zA v i) (s.steps.length+j) -(zA ((s.steps.map (·.2)++s.fixed).map fun v=>zA v i) (s.steps.length+j)+dt (col P j) (((s.steps.map (·.2)++s.fixed).map fun v=>zA v i).take s.steps.length)))=0:=a;rw [zGl] at a';omega
    ·rw [zBW (e:=s.steps.map _),zBW (e:=s.steps.map _)]
     ·rfl
     all_goals
      intro a ha;obtain ⟨q,hq,rfl⟩:=List.mem_map.mp ha;exact zi (by rw [(S.ech.mem hq).1];omega)) q hq
   have c:col P j q=zA P[q] j:=by
    show zA ((P[q]?).getD []) j=_;rw [zPV (show q<P.length by omega)];rfl
   rw [<-c];omega
  ·rw [List.getElem?_eq_none (by rw [zPc,S'.fl];omega),List.getElem?_eq_none (by omega)]
 ·rw [List.getElem?_eq_none (by rw [zPc,yq];omega),List.getElem?_eq_none (by omega)]
section
variable {P:Program}{w:World}{K:zQK}{mg:Str->Option Value}{base:Heap}
theorem zNs{v:Vec}{b n:Nat}(h:v.length=n/\Bts b v):(v.map fun x=>0 - x).length=n/\Bts (b+2) (v.map fun x=>0 - x):=⟨by rw [zPc];exact h.1,fun i=>by
 rw [zGN (fun x=>0 - x) (by simp),Int.zero_sub];exact ((h.2 i).neg).mono (by omega)⟩
theorem zNF{u v:Vec}{b n:Nat}{c:Int}(hu:u.length=n/\Bts b u)(hv:v.length=n/\Bts b v)(h:c.natAbs<=2):(zP 1 u c v).length=n/\Bts (b+2) (zP 1 u c v):=⟨zZ hu.1 hv.1,fun i=>by
 rw [yJ (by omega),Int.one_mul];exact (((hu.2 i).mono (show b<=1+b by omega)).add (Bt.mul (show Bt 1 c from h) (hv.2 i))).mono (by omega)⟩
theorem zKV{K:zQK}{H:Hp}{l D:Addr}{v:Vec}{suf:L2.St}{Q:VK}(hv:LI H l v)(hl:v.length<=1000)(hD:H D=none)
  (q:Q (.ref D) (L2.upd H D (.lst ((v.map fun x=>0 - x).map V.int)))):CompInv (Itl K l) (yR 0) (fun _ H Q=>Q true H) (tOp (rI0 fun i j=>V.int (i - j)) (tC (V.int 0)) (yY 0)) 1 suf H D Q:=by
 refine zR v.length (fun i ys H'=>i<=v.length/\ys=((v.map fun x=>0 - x).take i).map V.int/\H'=L2.upd H D (.lst ys)) ⟨zPk _,by simp,rfl⟩ (by rw [zPg];omega) ?_ ?_ ?_
 ·rintro i ys H2 hi ⟨_,rfl,rfl⟩;have e2:=hv.same (zC.upd hD (o:= .lst (((v.map fun x=>0 - x).take i).map V.int)));exact ⟨by simp;omega,zB,fun h=>⟨_,_,SqL.of e2,zT h⟩,fun h=>⟨_,SqL.of e2,by simp;omega⟩⟩
 ·rintro i ys H2 x H3 hi ⟨_,rfl,rfl⟩ ⟨rfl,hx⟩ pre hpre;obtain ⟨p0,rfl⟩:=yQ hpre;have hx':=hx _ (SqL.of (hv.same (zC.upd hD (o:= .lst (((v.map fun x=>0 - x).take i).map V.int)))));rw [zT hi] at hx';cases hx';refine ⟨⟨[some (.int (zA v i))],rfl,rfl⟩,zp ?_⟩;refine ⟨_,rfl,_,_,rfl,rfl,zB,hi,?_,by rw [zy]⟩;rw [zPs,zPa,zAl hi];simp
 ·rintro ys H2 ⟨_,rfl,rfl⟩;rw [List.take_of_length_le (by simp)];exact q
theorem LIs.put{H:Hp}{cl nl:Addr}{cs:List Addr}{U:List Vec}{o:Nat}{v:Vec}{ys:List V}(h:LIs H cs U)(hn:LI H nl v)(hc:cl∉cs)(hnl:nl≠cl):LIs (L2.upd H cl (.lst ys)) (cs.set o nl) (U.set o v):=by
 have h':LIs (L2.upd H cl (.lst ys)) cs U:=Paired.mapM h fun a u hm ea=>by
  show L2.upd _ cl _ a=_;rw [zH fun z=>hc (by rw [<-z];exact hm)];exact ea
 have hn':LI (L2.upd H cl (.lst ys)) nl v:=by
  show L2.upd _ cl _ nl=_;rw [zH hnl];exact hn
 clear h hn hc
 induction h' generalizing o with
 | nil=>exact .nil
 | cons r t ih=>
  cases o with
  | zero=>exact .cons hn' t
  | succ o=>exact .cons r (ih (o:=o))
theorem Paired.takeP{α β:Type}{F:α->β->Prop}{xs:List α}{ys:List β}(h:Paired F xs ys)(k:Nat):Paired F (xs.take k) (ys.take k):=by
 induction h generalizing k with
 | nil=>simp;exact .nil
 | cons r _ ih=>
  cases k with
  | zero=>exact .nil
  | succ k=>exact .cons r (ih k)
theorem Paired.dropP{α β:Type}{F:α->β->Prop}{xs:List α}{ys:List β}(h:Paired F xs ys)(k:Nat):Paired F (xs.drop k) (ys.drop k):=by
 induction h generalizing k with
 | nil=>simp;exact .nil
 | cons r t ih=>
  cases k with
  | zero=>exact .cons r t
  | succ k=>exact ih k
theorem LIs.notin{H:Hp}{cs:List Addr}{U:List Vec}{p:Addr}(h:LIs H cs U)(hp:H p=none):p∉cs:=fun hm=>by
 obtain ⟨i,hi⟩:=List.mem_iff_getElem?.mp hm;obtain ⟨v,_,hv⟩:=Paired.get' h hi;rw [show H p=_ from hv] at hp;cases hp
structure OtI(N b L:Nat)(U0 U:List Vec):Prop where
 ok: ∀u∈U,u.length=N/\Bts b u
 len:U.length<=L
 sm:zCC U0 U
theorem OtI.mono{N b L b' L':Nat}{U0 U:List Vec}(h:OtI N b L U0 U)(hb:b<=b')(hL:L<=L'):OtI N b' L' U0 U:=⟨fun u hu=>⟨(h.ok u hu).1,(h.ok u hu).2.mono hb⟩,zPj h.len hL,h.sm⟩
theorem OtI.set{N b L:Nat}{U0 U:List Vec}(h:OtI N b L U0 U){o:Nat}{u v:Vec}(ho:U[o]?=some u)(hv:v.length=N/\Bts (b+2) v)(h1: ∀z,(∀x∈U,dt z x=0)->dt z v=0)(h2: ∀z,(∀x∈U.set o v,dt z x=0)->dt z u=0):OtI N (b+2) (L+1) U0 (U.set o v):=by
 refine ⟨fun x hx=>?_,by rw [List.length_set];have:=h.len;omega,fun z=>(h.sm z).trans ⟨fun y x hx=>?_,fun y x hx=>?_⟩⟩
 ·rcases List.mem_or_eq_of_mem_set hx with hx | rfl
  ·exact ⟨(h.ok x hx).1,(h.ok x hx).2.mono (by omega)⟩
  ·exact hv
 ·rcases List.mem_or_eq_of_mem_set hx with hx | rfl
  ·exact y x hx
  ·exact h1 z y
 ·obtain ⟨i,hi⟩:=List.mem_iff_getElem?.mp hx;by_cases e:o=i
  ·subst e;rw [ho] at hi;cases hi;exact h2 z y
  ·exact y x (zPz (i:=i) (by rw [List.getElem?_set_ne e];exact hi))
theorem OtI.add{N b L:Nat}{U0 U:List Vec}(h:OtI N b L U0 U){o o2:Nat}{u v:Vec}{c:Int}(ho:U[o]?=some u)(ho2:U[o2]?=some v)(hne:o≠o2)(hc:c.natAbs<=2):OtI N (b+2) (L+1) U0 (U.set o (zP 1 u c v)):=by
 have k1:=h.ok u (zPz ho);have k2:=h.ok v (zPz ho2);have lu:o<U.length:=(List.getElem?_eq_some_iff.mp ho).1;have e:=fun z=>zCW u v z (by rw [k1.1,k2.1]) 1 c;refine h.set ho (zNF k1 k2 hc) (fun z y=>?_) fun z y=>?_
 ·rw [e,y u (zPz ho),y v (zPz ho2)];simp
 ·have a1:=y (zP 1 u c v) (zPz (i:=o) (List.getElem?_set_self lu));have a2:=y v (zPz (i:=o2) (by rw [List.getElem?_set_ne hne];exact ho2));rw [e,a2] at a1;omega
theorem OtI.neg{N b L:Nat}{U0 U:List Vec}(h:OtI N b L U0 U){o:Nat}{u:Vec}(ho:U[o]?=some u):OtI N (b+2) (L+1) U0 (U.set o (u.map fun x=>0 - x)):=by
 have k1:=h.ok u (zPz ho);have lu:o<U.length:=(List.getElem?_eq_some_iff.mp ho).1;have e: ∀z,dt z (u.map fun x=>0 - x)= -1*dt z u:=fun z=>by
  rw [<-zCb];congr 1;exact List.map_congr_left fun x _=>by omega
 refine h.set ho (zNs k1) (fun z y=>?_) fun z y=>?_
 ·rw [e,y u (zPz ho)];simp
 ·have a1:=y _ (zPz (i:=o) (List.getElem?_set_self lu));rw [e] at a1;omega
theorem OtI.rot{N b L:Nat}{U0 U:List Vec}(h:OtI N b L U0 U)(o:Nat){v:Vec}(hv:v∈U):OtI N (b+2) (L+1) U0 (U.drop o++U.take o++ [v]):=by
 have mm: ∀x,x∈U.drop o++U.take o++ [v] ↔x∈U:=fun x=>by
  rw [List.mem_append,List.mem_append,List.mem_singleton];constructor
  ·rintro ((h | h)| rfl)
   ·exact List.mem_of_mem_drop h
   ·exact List.mem_of_mem_take h
   ·exact hv
  ·intro h;rw [<-List.take_append_drop o U] at h;rcases List.mem_append.mp h with h | h
   ·exact .inl (.inr h)
   ·exact .inl (.inl h)
 refine ⟨fun x hx=>⟨(h.ok x ((mm x).mp hx)).1,(h.ok x ((mm x).mp hx)).2.mono (by omega)⟩,?_,fun z=>(h.sm z).trans ⟨fun y x hx=>y x ((mm x).mp hx),fun y x hx=>y x ((mm x).mpr hx)⟩⟩;have:=h.len;rw [zPx,zPx,List.length_drop,List.length_take,List.length_singleton];omega
def zKz(K:zQK):Sp:=fun vs H Q _=> ∃(a l:Addr) (ns:List Int) (U0:List Vec) (N:Nat),vs= [.ref a,.ref l] /\SqL K H a (ns.map V.int)/\ns.length<=63/\LL H l U0/\(∀x∈U0,x.length=N/\Bts 8 x)/\U0.length<=6/\N<=100/\
 ∀(r:Addr) (U:List Vec) H',zC H H'->LL H' r U->OtI N 18 11 U0 U->Q (.ref r) H'
theorem zCt:FnScope ["_law_script","_law_equations","_law_found","_law_k","_law_number_here","_law_one","_law_other","_law_often","_law_more"] ["_law_script","_law_equations"] (zF zDD):=⟨rfl,rfl,rfl,by decide+kernel,rfl,by decide+kernel,by decide+kernel⟩
theorem zOo{f fN:Addr}{fd fdN:FuncData}(F:Fun K "_law_otherwise" "_law_otherwise" zDD f fd)(B:Bn mg)
  (FN:Fun K "_law_number" "_law_number" zEM fN fdN) (bN:zL K fdN ["_law_script","_law_k"] []) (mN:mg "_law_number" =some (.ref fN)) (GN:FnOk P w K mg base CX0 2 fN fdN ["_law_script","_law_k"] (zEf K)):FnOk P w K mg base CX0 3 f fd ["_law_script","_law_equations"] (zKz K):=by
 refine F.ok zCt (fun vs H Q E h=>?_) (fun cdv A outer s H vs Q E hr2 h=>?_)
 ·obtain ⟨a,l,ns,U0,N,rfl,_⟩:=h;rfl
 ·obtain ⟨a,l,ns,U0,N,rfl,ha,hns,hR,hx,n6,hN,q⟩:=h;have huN:=Nat.lt_of_succ_lt (zIj hr2);refine ⟨_,QB.out (zE
   (zAe (cl:= []) yn 2 (by exact zCt.nd) rfl (Or.inl rfl) (.inr rfl) ["_law_row"] [] [] rfl (zj (K:=K) rfl (qw 1 rfl)) rfl (by decide+kernel) rfl (by decide+kernel) (fun _ _ h=>nomatch h) rfl (fun j y i h=>nomatch h) (zO rfl) (fun _ _ _ _=>(zJ 0 (show (["_law_row"] :List Str).Nodup by decide+kernel) rfl (.inl rfl) (.inr rfl))) (fun _ _ _ _=>zV) (fun C s₂ H₂ fp xe E hp=>(zCk (yy (K:=K) rfl) rfl B.list zAH (qc (qw 0 rfl) zD rfl) rfl)) (fun _=>rfl) rfl) (zE
   (zAF PassesOwn.never rfl (yZ rfl B.range (qc (zAB (zI GN hr2 rfl mN FN.kp bN .nil zK (qc (qw 0 rfl) (qc zG zD rfl) rfl) rfl rfl rfl) zG) zD rfl) rfl) (zJ 3 zCt.nd rfl (Or.inl rfl) (.inr rfl)) (zE
    (zW 4 zCt.nd rfl (zI GN hr2 rfl mN FN.kp bN .nil zK (qc (qw 0 rfl) (qc (zAM zG (qw 3 rfl)) zD rfl) rfl) rfl rfl rfl) rfl) (zE
    (zW 5 zCt.nd rfl (zAB (qw 4 rfl) (yK (zCw rfl) rfl B.max zGZ (qc zG (qc (yK (yH (K:=K) rfl) rfl B.len yo (qc (qw 2 rfl) zD rfl) rfl) zD rfl) rfl) rfl)) rfl) (zE
    (zW 6 zCt.nd rfl (zAB (zBo (qw 4 rfl) zG) (yK (zCw rfl) rfl B.max zGZ (qc zG (qc (yK (yH (K:=K) rfl) rfl B.len yo (qc (qw 2 rfl) zD rfl) rfl) zD rfl) rfl) rfl)) rfl) (zM
    (yX (t_w (zEa (zl (zEK huN) (qw 2 rfl) (zAU zD) rfl) (zEa (zl zBF (qw 5 rfl) (qw 6 rfl) rfl) (zEW (zl zAz (zAB (zBo (qw 4 rfl) zG) zG) zG rfl))))) (zE
     (yt 7 zCt.nd rfl (Or.inr rfl) (zBZ (zAB (zBo (qw 4 rfl) zG) zG) zG) rfl (.inl rfl)) (zE
     (zW 8 zCt.nd rfl (yA (K:=K) rfl (qw 2 rfl) (qw 6 rfl) (fun _ _=>rfl)) rfl) (zM
     (zHD (qw 2 rfl) (qw 5 rfl) (zc ["_law_here","_law_there"] ["_law_often"] [7] rfl (zDV (K:=K) rfl rfl B.zip (qc (yA (K:=K) rfl (qw 2 rfl) (qw 5 rfl) (fun _ _=>rfl)) (qc (qw 8 rfl) zD rfl) rfl) rfl rfl) rfl (by decide+kernel) rfl (by decide+kernel) (zN rfl yb) rfl (fr1 ⟨rfl,rfl,rfl,_,rfl,rfl⟩) (zO rfl) (fun _ _ _ _=>(zBC (K:=K) (n:=2) rfl rfl (yG (zJ 0 (show (["_law_here","_law_there","_law_often"] :List Str).Nodup by decide+kernel) rfl (.inl rfl) (.inr rfl)) (yG (zJ 1 (show (["_law_here","_law_there","_law_often"] :List Str).Nodup by decide+kernel) rfl (.inl rfl) (.inr rfl)) zBB rfl) rfl) rfl rfl)) (fun _ _ _ _=>zV) (fun _ _ _ _=>(zAM (qw 0 rfl) (zAP (qx 2 rfl) (qw 1 rfl)))) (fun _=>rfl)) rfl)))) (zM
     (yX (t_w (zEa (zl (zEK huN) (qw 2 rfl) (zAU zD) rfl) (zEW (zl zAz (zAB (zBo (qw 4 rfl) zG) zG) zG rfl)))) (zM
      (zHD (qw 2 rfl) (qw 5 rfl) (zc (cl:= []) ["_law_here"] [] [] rfl (zj (K:=K) rfl (yA (K:=K) rfl (qw 2 rfl) (qw 5 rfl) (fun _ _=>rfl))) rfl (by decide+kernel) rfl (by decide+kernel) (fun _ _ h=>nomatch h) rfl (fun j y i h=>nomatch h) (zO rfl) (fun _ _ _ _=>(zJ 0 (show (["_law_here"] :List Str).Nodup by decide+kernel) rfl (.inl rfl) (.inr rfl))) (fun _ _ _ _=>zV) (fun _ _ _ _=>(zBZ zG (qw 0 rfl))) (fun _=>rfl)) rfl)) (zM
      (yX (zl (zEK huN) (qw 2 rfl) (zAU zD) rfl) (zM
       (zW 2 zCt.nd rfl (zBG (zBG (zBa (K:=K) rfl (qw 2 rfl) (zAk (qw 5 rfl)) zAj) (zBa (K:=K) rfl (qw 2 rfl) zAj (zAk (qw 5 rfl)))) (zAU (qc (zCk (yy (K:=K) rfl) rfl B.list zAH (qc (yA (K:=K) rfl (qw 2 rfl) (qw 6 rfl) (fun _ _=>rfl)) zD rfl) rfl) zD rfl))) rfl)) yV))))))))) (fun _=>rfl)) (zM
   (ze (qw 2 rfl))))),?_⟩
  obtain ⟨y0,el,ly0⟩:=hR.at;refine ⟨_,rfl,l,rfl,⟨_,SqL.of el⟩,fun D hD=>zAY hR (by omega) hD fun cs H1 s1 e1 h1 hfr=>?_⟩;obtain ⟨_,_,hcD⟩:=hfr;refine ⟨_,rfl,a,ns,3,rfl,s1.seq ha,hns,by decide,by decide,fun r0 H2 s2 g0 g1=>?_⟩;have z0:=zPn r0 (show (6:Int)≠0 by decide);have z1:=zPh r0 (show (0:Int)<6 by decide);obtain ⟨t,et⟩: ∃t:Nat,r0 % 6=t:=⟨(r0 % 6).toNat,by omega⟩;refine ⟨r0,6,rfl,rfl,by decide,r0 % 6,rfl,by omega,by omega,?_⟩;rw [et];have h2:=LIs.same h1 s2;have e2:=s2 _ _ e1;have I0:OtI N (8+2*0) (6+0) U0 U0:=⟨hx,n6,fun z=>Iff.rfl⟩;refine yj t (fun i σ H'=> ∃(cl:Addr) (cs:List Addr) (U:List Vec) (s3 s4 s5 s6 s7 s8:Option V),σ= [some (.ref a),some (.ref l),some (.ref cl),s3,s4,s5,s6,s7,s8] /\i<=t/\H cl=none/\zC H H'/\H' cl=some (.lst (cs.map V.ref))/\LIs H' cs U/\cl∉cs/\OtI N (8+2*i) (6+i) U0 U)
   ⟨D,cs,U0,none,none,none,none,none,none,rfl,zPk _,hD,s1.trans s2,e2,h2,hcD,I0⟩ ?_ ?_ ?_ ?_
  ·rintro i σ H1 hi ⟨cl,cs,U,s3,s4,s5,s6,s7,s8,rfl,_⟩;exact hi
  ·rintro σ H1 ⟨cl,cs,U,s3,s4,s5,s6,s7,s8,rfl,_⟩;exact zPZ _
  ·clear h2 e2 hcD e1 h1 s1 s2 I0 hD;rintro i σ H0 x H1 hi ⟨cl,cs,U,s3,s4,s5,s6,s7,s8,rfl,_,hcl,s1,ec,hcs,hnc,I⟩ ⟨rfl,rfl⟩;have lcs:cs.length=U.length:=Paired.len hcs;have lU:=I.len;have t5:t<=5:=by omega
   refine ⟨_,rfl,_,rfl,_,_,rfl,rfl,a,ns,_,rfl,s1.seq ha,hns,by omega,by omega,fun r H2 s2 g2 g3=>?_⟩;have s12:=s1.trans s2;have ec2:=s2 _ _ ec;have hcs2:=LIs.same hcs s2;have p1:(0:Int)<(if ((cs.map V.ref).length:Int)>1 then ((cs.map V.ref).length:Int) else 1):=by split<;>omega
   refine ⟨_,rfl,_,rfl,cl,_,rfl,.inl (SqL.of ec2),_,_,rfl,_,_,rfl,rfl,p1,?_⟩;refine ⟨_,rfl,r,7,rfl,rfl,⟨by decide,by decide⟩,_,rfl,cl,_,rfl,.inl (SqL.of ec2),_,_,rfl,_,_,rfl,rfl,p1,?_⟩;have cmb: ∀x:Int,0<cs.length-> ∃o:Nat,x %(if ((cs.map V.ref).length:Int)>1 then ((cs.map V.ref).length:Int) else 1)=o/\o<cs.length:=fun x h=>by
    have e:(if ((cs.map V.ref).length:Int)>1 then ((cs.map V.ref).length:Int) else 1)=(cs.length:Int):=by rw [zPc];split<;>omega
    rw [e];have a0:=zPn x (show (cs.length:Int)≠0 by omega);have a1:=zPh x (show (0:Int)<cs.length by omega);exact ⟨(x % cs.length).toNat,by omega,by omega⟩
   generalize ho1:r %(if ((cs.map V.ref).length:Int)>1 then ((cs.map V.ref).length:Int) else 1)=v1;generalize ho2:r/7 %(if ((cs.map V.ref).length:Int)>1 then ((cs.map V.ref).length:Int) else 1)=v2;have hv1:0<cs.length-> ∃o:Nat,v1=o/\o<cs.length:=fun h=>by
    obtain ⟨o,e,z⟩:=cmb r h;exact ⟨o,by rw [<-ho1,e],z⟩
   have hv2:0<cs.length-> ∃o:Nat,v2=o/\o<cs.length:=fun h=>by
    obtain ⟨o,e,z⟩:=cmb (r/7) h;exact ⟨o,by rw [<-ho2,e],z⟩
   have kz:(!(cs.map V.ref).isEmpty)=true->0<cs.length:=fun h=>by
    cases cs with
    | nil=>cases h
    | cons _ _=>exact Nat.succ_pos _
   have gr: ∀o (h:o<cs.length),(cs.map V.ref)[o]?=some (.ref cs[o]):=fun o h=>by rw [zPa,zPV h];rfl
   have et':8+2*(i+1)=8+2*i+2:=by omega
   have el':6+(i+1)=6+i+1:=by omega
   clear ho1 ho2 cmb p1;refine ⟨_,rfl,zPk _,fun pb hpb=>⟨cl,pb,_,rfl,rfl,SqL.of (zC.upd hpb _ _ ec2),SqL.of zB,_,rfl,zEv (!decide (V.int v1=V.int v2)&&decide (V.int (r/50 % 2)=V.int 1)) (fun _ Q' h=>⟨_,rfl,_,rfl,rfl,_,rfl,zEv (decide (V.int (r/50 % 2)=V.int 1)) (fun _ Q' h=>⟨_,rfl,r,50,rfl,rfl,⟨by decide,by decide⟩,_,_,rfl,rfl,by decide,rfl,_,rfl,h⟩) h⟩) ?_⟩⟩;have tb:=zC.upd hpb (o:= .lst []);have s13:=s12.trans tb;have ec3:=tb _ _ ec2;have hcs3:=LIs.same hcs2 tb;generalize L2.upd H2 pb (.lst [])=H3 at tb s13 ec3 hcs3⊢;clear tb s12 ec2 hcs2 hpb s2 s1 hcs ec;refine yl (fun c1=>?_) (fun c1=>?_)
   ·have c1':=Bool.and_eq_true_iff.mp c1;have hk:=kz c1'.1;have hne:v1≠v2:=fun z=>by
     have:=(Bool.and_eq_true_iff.mp c1'.2).1;simp [z] at this
    obtain ⟨o1,rfl,l1⟩:=hv1 hk;obtain ⟨o2,rfl,l2⟩:=hv2 hk;have ho:o1≠o2:=fun z=>hne (by rw [z]);obtain ⟨u1,eu1,hu1⟩:=Paired.get' hcs3 (zPV l1);obtain ⟨u2,eu2,hu2⟩:=Paired.get' hcs3 (zPV l2);have k1:=I.ok u1 (zPz eu1);have k2:=I.ok u2 (zPz eu2);have f0:=zPn (r/100) (show (5:Int)≠0 by decide);have f1:=zPh (r/100) (show (0:Int)<5 by decide);refine ⟨_,rfl,r,100,rfl,rfl,⟨by decide,by decide⟩,_,_,rfl,rfl,by decide,_,_,rfl,rfl,?_⟩;generalize hc:r/100 % 5 - 2=c;have hc2:c.natAbs<=2:=by omega
    have lz:(List.zipWith (fun x y=>x+c*y) u1 u2).length=N:=by simp [k1.1,k2.1]
    have ez:List.zipWith (fun x y=>x+c*y) u1 u2=zP 1 u1 c u2:=by
     unfold zP;congr 1
     funext x y
     rw [Int.one_mul]
    refine ⟨_,rfl,_,rfl,cl,_,_,_,rfl,rfl,SqL.of ec3,zn (gr o2 l2),?_⟩;refine ⟨_,rfl,_,rfl,cl,_,_,_,rfl,rfl,SqL.of ec3,zn (gr o1 l1),_,rfl,cs[o1],cs[o2],rfl,⟨_,SqL.of hu1⟩,⟨_,SqL.of hu2⟩,fun D hD=>?_⟩;refine zR N (fun i ys H'=>i<=N/\ys=((List.zipWith (fun x y=>x+c*y) u1 u2).take i).map V.int/\zC H3 H'/\H' D=some (.lst ys)) ⟨zPk _,by simp,zC.upd hD,zB⟩ (by rw [zPg];omega) ?_ ?_ ?_
    ·rintro i ys H' hi ⟨_,rfl,s3,e3⟩;exact ⟨by rw [zPc,List.length_take];omega,e3,fun h=>⟨_,_,_,_,SqL.of (hu1.same s3),SqL.of (hu2.same s3),zT (by omega),zT (by omega)⟩,fun h=>⟨_,_,SqL.of (hu1.same s3),SqL.of (hu2.same s3),.inr (by simp;omega)⟩⟩
    ·rintro i ys H' x H'' hi ⟨_,rfl,s3,e3⟩ ⟨tt,x1,y1,hx1,hy1,ht,rfl,rfl⟩ pre hpre;obtain ⟨p0,p1,rfl⟩:=zh hpre;have hx':=hx1 _ (SqL.of (hu1.same s3));have hy':=hy1 _ (SqL.of (hu2.same s3));rw [zT (show i<u1.length by omega)] at hx';rw [zT (show i<u2.length by omega)] at hy';cases hx';cases hy';have st:=zC.upd ht (o:= .tup [.int (zA u1 i),.int (zA u2 i)]);refine ⟨tt,_,rfl,SqT.of zB,rfl,_,_,rfl,_,_,rfl,rfl,⟨[some (.int (zA u1 i)),some (.int (zA u2 i))],rfl,rfl⟩,zp ?_⟩;refine ⟨_,rfl,_,rfl,_,rfl,_,_,rfl,rfl,⟨ya (b:=1) (show Bt 1 c from hc2) (by decide),ya (k2.2 i) (by omega)⟩,_,_,rfl,rfl,st _ _ e3,hi,?_,zC.store (s3.trans st) hD,zB⟩;rw [zPs,List.getElem?_zipWith,zAl (show i<u1.length by omega),zAl (show i<u2.length by omega)];simp
    ·rintro ys H' ⟨_,rfl,s3,e3⟩;rw [List.take_of_length_le (by omega),ez] at e3;have nDc:D≠cl:=fun z=>by rw [z,ec3] at hD;cases hD
     refine ⟨_,rfl,_,rfl,cl,_,_,o1,rfl,rfl,s3 _ _ ec3,zJU (by rw [zPc];exact l1),?_⟩;refine ⟨cl,cs.set o1 D,U.set o1 (zP 1 u1 c u2),_,_,_,_,_,_,rfl,hi,hcl,zC.store (s13.trans s3) hcl,by rw [zB,List.map_set],LIs.put (LIs.same hcs3 s3) e3 hnc nDc,fun z=>?_,?_⟩
     ·rcases List.mem_or_eq_of_mem_set z with z | z
      ·exact hnc z
      ·exact nDc z.symm
     ·rw [et',el'];exact I.add eu1 eu2 ho hc2
   ·refine ⟨_,rfl,zPk _,fun pb hpb=>⟨cl,pb,_,rfl,rfl,SqL.of (zC.upd hpb _ _ ec3),SqL.of zB,_,rfl,zEv (decide (V.int (r/50 % 4)=V.int 0)) (fun _ Q' h=>⟨_,rfl,r,50,rfl,rfl,⟨by decide,by decide⟩,_,_,rfl,rfl,by decide,rfl,_,rfl,h⟩) ?_⟩⟩;have tb:=zC.upd hpb (o:= .lst []);have s14:=s13.trans tb;have ec4:=tb _ _ ec3;have hcs4:=LIs.same hcs3 tb;generalize L2.upd H3 pb (.lst [])=H4 at tb s14 ec4 hcs4⊢;clear tb s13 ec3 hcs3 hpb;refine yl (fun c2=>?_) (fun c2=>?_)
    ·obtain ⟨o1,rfl,l1⟩:=hv1 (kz (Bool.and_eq_true_iff.mp c2).1);obtain ⟨u1,eu1,hu1⟩:=Paired.get' hcs4 (zPV l1);have k1:=I.ok u1 (zPz eu1);refine ⟨_,rfl,_,rfl,cl,_,_,_,rfl,rfl,SqL.of ec4,zn (gr o1 l1),cs[o1],rfl,⟨_,SqL.of hu1⟩,fun D hD=>zKV hu1 (by omega) hD ?_⟩;have tD:=zC.upd hD (o:= .lst ((u1.map fun x=>0 - x).map V.int));have nDc:D≠cl:=fun z=>by rw [z,ec4] at hD;cases hD
     refine ⟨_,rfl,_,rfl,cl,_,_,o1,rfl,rfl,tD _ _ ec4,zJU (by rw [zPc];exact l1),?_⟩;refine ⟨cl,cs.set o1 D,U.set o1 (u1.map fun x=>0 - x),_,_,_,_,_,_,rfl,hi,hcl,zC.store (s14.trans tD) hcl,by rw [zB,List.map_set],LIs.put (LIs.same hcs4 tD) zB hnc nDc,fun z=>?_,?_⟩
     ·rcases List.mem_or_eq_of_mem_set z with z | z
      ·exact hnc z
      ·exact nDc z.symm
     ·rw [et',el'];exact I.neg eu1
    ·refine ⟨_,rfl,zPk _,fun pb hpb=>⟨cl,pb,_,rfl,rfl,SqL.of (zC.upd hpb _ _ ec4),SqL.of zB,_,rfl,?_⟩⟩;have tb:=zC.upd hpb (o:= .lst []);have s15:=s14.trans tb;have ec5:=tb _ _ ec4;have hcs5:=LIs.same hcs4 tb;generalize L2.upd H4 pb (.lst [])=H5 at tb s15 ec5 hcs5⊢;clear tb s14 ec4 hcs4 hpb;refine yl (fun c3=>?_) (fun c3=>?_)
     ·have hk:=kz c3;obtain ⟨o1,rfl,l1⟩:=hv1 hk;obtain ⟨o2,rfl,l2⟩:=hv2 hk;obtain ⟨u2,eu2,hu2⟩:=Paired.get' hcs5 (zPV l2);refine ⟨_,rfl,_,rfl,_,rfl,cl,_,rfl,SqL.of ec5,fun pa hpa=>?_⟩;rw [zDu (by omega) (by rw [zPc];omega),Int.toNat_natCast,<-List.map_drop];have ta:=zC.upd hpa (o:= .lst ((cs.drop o1).map V.ref));refine ⟨_,rfl,_,rfl,_,rfl,cl,_,rfl,SqL.of (ta _ _ ec5),fun pc hpc=>?_⟩;rw [zGW (by omega) (by rw [zPc];omega),Int.toNat_natCast,<-List.map_take];have tc:=zC.upd hpc (o:= .lst ((cs.take o1).map V.ref));refine ⟨pa,pc,_,_,rfl,rfl,tc _ _ zB,zB,by rw [zPg];simp;omega,fun pd hpd=>?_⟩;rw [<-zPr];have td:=zC.upd hpd (o:= .lst ((cs.drop o1++cs.take o1).map V.ref));have tad:=(ta.trans tc).trans td;refine ⟨_,rfl,_,rfl,cl,_,_,_,rfl,rfl,SqL.of (tad _ _ ec5),zn (gr o2 l2),cs[o2],_,rfl,.inl (SqL.of (hu2.same tad)),fun pl hpl=>?_⟩;have tl:=zC.upd hpl (o:= .lst (u2.map V.int));refine ⟨bs 1,fun pm hpm=>?_⟩;have tm:=zC.upd hpm (o:= .lst [V.ref pl]);refine ⟨pd,pm,_,_,rfl,rfl,(tl.trans tm) _ _ zB,zB,by rw [zPg];simp;omega,fun pe hpe=>?_⟩;rw [show (cs.drop o1++cs.take o1).map V.ref++ [V.ref pl] =(cs.drop o1++cs.take o1++ [pl]).map V.ref by simp];have te:=zC.upd hpe (o:= .lst ((cs.drop o1++cs.take o1++ [pl]).map V.ref));have hL:LIs _ (cs.drop o1++cs.take o1++ [pl]) (U.drop o1++U.take o1++ [u2]):=Paired.snoc' (LIs.same (Paired.app (Paired.dropP hcs5 o1) (Paired.takeP hcs5 o1)) ((tad.trans tl).trans tm)) (tm _ _ zB);have npe:=zC.none ((tad.trans tl).trans tm) hpe;refine ⟨pe,_,_,_,_,_,_,_,_,rfl,hi,zC.none s15 npe,s15.trans (((tad.trans tl).trans tm).trans te),zB,LIs.same hL te,LIs.notin hL hpe,?_⟩;rw [et',el'];exact I.rot o1 (zPz eu2)
     ·exact ⟨cl,cs,U,_,_,_,_,_,_,rfl,hi,hcl,s15,ec5,hcs5,hnc,I.mono (by omega) (by omega)⟩
  ·rintro σ H1 ⟨cl,cs,U,s3,s4,s5,s6,s7,s8,rfl,_,hcl,s1,ec,hcs,hnc,I⟩;exact ⟨_,rfl,q cl U H1 s1 ⟨cs,ec,hcs⟩ (I.mono (by omega) (by omega))⟩
end
section
variable {P:Program}{w:World}{K:zQK}{mg:Str->Option Value}{base:Heap}
theorem zGO{H:Hp}{Q:VK}{n m:Nat}{Es:List Eqn}{st:Stt}(e:yp n (whole Es) Es.length 0 Es (yr n m)= .inl st)
  (h: ∀t r H',zC H H'->H' t=some (.tup [.str "solved",.int (st.steps.length:Int),.ref r])->NewL H H' r->LL H' r (zt (st.steps.map (·.2)++st.fixed) n)->Q (.ref t) H'):zAu H Q n m Es:=by
 unfold zAu;rw [e];exact h
abbrev pick(so:List Nat)(R:List Vec):List Vec:=so.map fun i=>R.getD i []
def zKD:Sp:=fun vs H Q _=> ∃(el sl:Addr) (n m b:Nat) (Es:List Eqn) (st:Stt) (so:List Nat),vs= [.int (n:Int),.int (m:Int),.ref el,.ref sl] /\LL H el (zf Es)/\SvOk n m b Es/\m<=6/\yp n (whole Es) Es.length 0 Es (yr n m)= .inl st/\H sl=some (.lst (so.map fun i:Nat=>V.int (i:Int)))/\so.length<=6/\(∀i∈so,i<n)/\
 (∀x∈yD n st,x.length=st.steps.length+m/\Bts 2000 x)/\st.steps.length<=6/\
 ∀(T:List Stp) (t r:Addr) H',zC H H'->H' t=some (.tup [.int (T.length:Int),.ref r])->LL H' r (zt (T.map (·.2)++zCu st.steps.length m (pick so (yD n st)) T) (pick so (yD n st)).length)->NF (pick so (yD n st)).length (zDx st.steps.length (pick so (yD n st))) T->Q (.ref t) H'
theorem zOJ:FnScope ["_law_unknowns","_law_names","_law_equations","_law_some","_law_told"] ["_law_unknowns","_law_names","_law_equations","_law_some"] (zF zEt):=⟨rfl,rfl,rfl,by decide+kernel,rfl,by decide+kernel,by decide+kernel⟩
theorem zOc{f fS fO CS:Addr}{fd fdS fdO:FuncData}(F:Fun K "_law_form" "_law_form" zEt f fd)(B:Bn mg)
  (FS:Fun K "solved" "solved" zBb fS fdS) (bS:zL K fdS ["unknowns","names","equations"] []) (mS:mg "solved" =some (.ref fS)) (GS:FnOk P w K mg base CX0 38 fS fdS ["unknowns","names","equations"] zCi)
  (FO:Fun K "normal" "normal" zCS fO fdO) (bO:zL K fdO ["free","names","rows"] []) (mO:mg "normal" =some (.ref fO)) (GO:FnOk P w K mg base CX0 37 fO fdO ["free","names","rows"] (zDr CS)):FnOk P w K mg base CX0 39 f fd ["_law_unknowns","_law_names","_law_equations","_law_some"] zKD:=by
 refine F.ok zOJ (fun vs H Q E h=>?_) (fun cdv A outer s H vs Q E hr38 h=>?_)
 ·obtain ⟨el,sl,n,m,b,Es,st,so,rfl,_⟩:=h;rfl
 ·obtain ⟨el,sl,n,m,b,Es,st,so,rfl,hE,sv,m6,erun,esl,lso,hso,hx,k6,q⟩:=h;have hr37:Room 37 _:=hr38.mono (by decide);refine ⟨_,QB.out (zE
   (yt 4 zOJ.nd rfl (Or.inr rfl) (zI GS hr38 rfl mS FS.kp bS .nil zK (qc (qw 0 rfl) (qc (qw 1 rfl) (qc (zc (cl:= []) ["_law_row"] [] [] rfl (zj (K:=K) rfl (qw 2 rfl)) rfl (by decide+kernel) rfl (by decide+kernel) (fun _ _ h=>nomatch h) rfl (fun j y i h=>nomatch h) (zO rfl) (fun _ _ _ _=>(zJ 0 (show (["_law_row"] :List Str).Nodup by decide+kernel) rfl (.inl rfl) (.inr rfl))) (fun _ _ _ _=>zV) (fun _ _ _ _=>(zCk (yy (K:=K) rfl) rfl B.list zAH (qc (qw 0 rfl) zD rfl) rfl)) (fun _=>rfl)) zD rfl) rfl) rfl) rfl rfl rfl) rfl (.inl rfl)) (zE
   (yX (zl zBF (yL (K:=K) rfl (qx 4 rfl) zG (fun _ _=>rfl)) zEO rfl) (zM
    (ze zDc)) yV) (zM
   (ze (zI GO hr37 rfl mO FO.kp bO .nil zK (qc (yL (K:=K) rfl (qx 4 rfl) zG (fun _ _=>rfl)) (qc (qw 1 rfl) (qc (zc ["_law_at"] ["_law_told"] [4] rfl (zj (K:=K) rfl (qw 3 rfl)) rfl (by decide+kernel) rfl (by decide+kernel) (zN rfl yb) rfl (fr1 ⟨rfl,rfl,rfl,_,rfl,rfl⟩) (zO rfl) (fun _ _ _ _=>(zJ 0 (show (["_law_at","_law_told"] :List Str).Nodup by decide+kernel) rfl (.inl rfl) (.inr rfl))) (fun _ _ _ _=>zV) (fun _ _ _ _=>(yA (K:=K) rfl (yL (K:=K) rfl (qx 1 rfl) zG (fun _ _=>rfl)) (qw 0 rfl) (fun _ _=>rfl))) (fun _=>rfl)) zD rfl) rfl) rfl) rfl rfl rfl))))),?_⟩
  obtain ⟨y3,ee,ly3⟩:=hE.at;have lwE:(zf Es).length=Es.length:=by simp [zf]
  have l12:=sv.le;have n6:=sv.nn;refine ⟨_,rfl,_,rfl,_,rfl,el,rfl,⟨_,SqL.of ee⟩,fun D2 hD2=>zAY hE (by omega) hD2 fun rs H4 s4 e4 h4 _=>⟨D2,n,m,b,Es,rfl,⟨rs,e4,h4⟩,sv,m6,zGO erun fun t rr H5 s5 et _ hR=>?_⟩⟩;have s05:=s4.trans s5;obtain ⟨ras,err,hras⟩:=hR;have lr:=Paired.len hras;rw [show (zt (st.steps.map (·.2)++st.fixed) n).length=n from yq] at lr;refine ⟨_,rfl,t,_,_,_,rfl,rfl,SqT.of et,rfl,rfl,_,rfl,zBY ?_⟩;have lp:(pick so (yD n st)).length=so.length:=by simp
  refine ⟨_,rfl,t,_,_,_,rfl,rfl,SqT.of et,rfl,_,rfl,_,rfl,sl,rfl,⟨_,SqL.of (s05 _ _ esl)⟩,fun D hD=>?_⟩;refine zR so.length (fun i ys H'=> ∃as:List Addr,i<=so.length/\ys=as.map V.ref/\as.length=i/\LIs H5 as ((pick so (yD n st)).take i)/\H'=L2.upd H5 D (.lst ys)) ⟨[],zPk _,rfl,rfl,by rw [List.take_zero];exact .nil,rfl⟩ (by rw [zPg];omega) ?_ ?_ ?_
  ·rintro i ys H' hi ⟨as,_,rfl,la,_,rfl⟩;have e6:=zC.upd hD (o:= .lst (as.map V.ref)) _ _ (s05 _ _ esl);exact ⟨by rw [zPc];omega,zB,fun h=>⟨_,_,SqL.of e6,zPV (by simpa using h)⟩,fun h=>⟨_,SqL.of e6,by simp;omega⟩⟩
  ·rintro i ys H' x H'' hi ⟨as,_,rfl,la,has,rfl⟩ ⟨rfl,hx'⟩ pre hpre;obtain ⟨p0,rfl⟩:=yQ hpre;have s6:=zC.upd hD (o:= .lst (as.map V.ref));have hx':=hx' _ (SqL.of (s6 _ _ (s05 _ _ esl)));rw [zPa,zPV hi] at hx';cases hx';have hj:=hso _ (zQA hi);have hjr:so[i] <ras.length:=by omega
   obtain ⟨u,eu,hu⟩:=Paired.get' hras (zPV hjr);refine ⟨⟨[some (.int (so[i] :Int))],rfl,rfl⟩,zp ?_⟩;refine ⟨_,rfl,t,_,_,_,rfl,rfl,SqT.of (s6 _ _ et),rfl,_,rfl,rr,_,_,_,rfl,rfl,SqL.of (s6 _ _ err),zn (by rw [zPa,zPV hjr];rfl),zB,as++ [ras[so[i]]],hi,by simp,by simp [la],?_,by rw [zy]⟩;rw [zPs,pick,zPa,zPV hi];refine Paired.snoc' has ?_;show LI H5 _ ((yD n st).getD so[i] []);rw [List.getD,eu];exact hu
  ·rintro ys H' ⟨as,_,rfl,la,has,rfl⟩;rw [List.take_of_length_le (by omega)] at has;have s6:=zC.upd hD (o:= .lst (as.map V.ref));refine ⟨D,pick so (yD n st),st.steps.length,m,2000,rfl,⟨as,zB,LIs.same has s6⟩,fun x hx'=>?_,by omega,by omega,by omega,by decide,fun T t2 r2 H7 s7 et2 _ hF nf=>q T t2 r2 H7 ((s05.trans s6).trans s7) et2 hF nf⟩;obtain ⟨i,hi,rfl⟩:=List.mem_map.mp hx';have hin:=hso i hi;have e:(yD n st)[i]?=some ((st.steps.map (·.2)++st.fixed).map fun v=>zA v i):=zCX hin;rw [List.getD,e];exact hx _ (zPz e)
end
section
variable {P:Program}{w:World}{K:zQK}{mg:Str->Option Value}{base:Heap}
theorem zPR{K:zQK}{H:Hp}{p q:Addr}{R:List Vec}(h1:LL H p R)(h2:LL H q R):SmLL K H p q:=by
 refine ⟨?_⟩;obtain ⟨as,e1,h1⟩:=h1;obtain ⟨bs,e2,h2⟩:=h2;refine ⟨as,bs,fun i=>((R[i]?).getD []).map V.int,SqL.of e1,SqL.of e2,by rw [Paired.len h1,Paired.len h2],fun i a ha=>?_,fun i a ha=>?_,fun i x hx=>?_⟩
 ·obtain ⟨v,ev,hv⟩:=Paired.get' h1 ha;show SqL K H a (((R[i]?).getD []).map V.int);rw [ev];exact SqL.of hv
 ·obtain ⟨v,ev,hv⟩:=Paired.get' h2 ha;show SqL K H a (((R[i]?).getD []).map V.int);rw [ev];exact SqL.of hv
 ·obtain ⟨z,_,rfl⟩:=List.mem_map.mp hx;rfl
theorem zNL{A:Around}{k:Nat}(hr:Room k A):A.units+2<cLine:=zPm (Nat.add_le_add_left (by decide:2<=64) _) hr.units
theorem zJf: ∀(u v:Vec),Sm u->Sm v->(dot u v).natAbs<=25*u.length
 | [],_,_,_=>by simp [dot]
 | _::_,[],_,_=>by simp [dot]
 | a::u,b::v,hu,hv=>by
  have h1:a.natAbs<=5:=hu 0;have h2:b.natAbs<=5:=hv 0;have ih:=zJf u v (fun i=>hu (i+1)) fun i=>hv (i+1);have e:dot (a::u) (b::v)=a*b+dot u v:=by simp [dot]
  have h3:=Nat.mul_le_mul h1 h2;rw [<-Int.natAbs_mul] at h3;rw [e,List.length_cons];have:=Int.natAbs_add_le (a*b) (dot u v);omega
theorem zNO{n m:Nat}{W us:List Vec}(lW:W.length=n)(hn:n<=6)(hW: ∀x∈W,x.length=m/\Sm x)(hu: ∀u∈us,u.length=W.length/\Sm u):EqOk n m 8 (us.map (ful m W)):=by
 refine ⟨fun E hE=>?_,fun E hE=>?_,fun E hE=>?_,fun E hE=>?_⟩
 all_goals obtain ⟨u,hm,rfl⟩:=List.mem_map.mp hE
 all_goals obtain ⟨l1,s1⟩:=hu u hm
 ·rw [<-lW];exact l1
 ·simp [ful]
 ·exact fun i=>zPj (s1 i) (by decide)
 ·intro i;show (zA ((List.range m).map fun j=>0 - dot u (zq W j)) i).natAbs<=2^8;by_cases hi:i<m
  ·rw [show zA ((List.range m).map fun j=>0 - dot u (zq W j)) i=0 - dot u (zq W i) by simp [zA,hi]];have:=zJf u (zq W i) s1 (Sm.col (fun x hx=>(hW x hx).2) i);have:2^8=256:=rfl;omega
  ·rw [zi (by simp;omega)];exact zPk _
theorem vb8:VB6 8=1748:=rfl
theorem zOR{n m k:Nat}{W us:List Vec}(lW:W.length=n)(hn:n<=6)(hm:m<=2)(hk:k<=5)(sW: ∀x∈W,x.length=m/\Sm x)(lu:us.length=k)(hu: ∀u∈us,u.length=W.length/\Sm u):
  ∃(Es:List Eqn) (st:Stt),us.map (ful m W)=Es/\Es.length<=5/\SvOk n m 8 Es/\yp n (whole Es) Es.length 0 Es (yr n m)= .inl st/\Sol n m Es st/\st.steps.length<=6/\(∀x∈yD n st,x.length=st.steps.length+m/\Bts 1748 x):=by
 have ok:=zNO (us:=us) lW hn sW hu;have sol:=zMO (m:=m) lW (fun u h=>by rw [(hu u h).1,lW]);have lE:(us.map (ful m W)).length<=5:=by rw [zPc];omega
 have sv:SvOk n m 8 (us.map (ful m W)):=⟨ok,hn,by omega,by omega,by decide⟩;obtain ⟨st,erun,R⟩:=zCd ok hn (fun k=>zA (zq W k)) (fun k i h=>zi (by rw [yM,lW];exact h)) sol;exact ⟨_,st,rfl,lE,sv,erun,R.all,zPj (zDR R.all.ech) hn,fun x hx=>by have z:=zFR R.all ok hn x hx;rw [vb8] at z;exact z⟩
theorem Bts.drop'{b:Nat}{v:Vec}(h:Bts b v)(k:Nat):Bts b (v.drop k):=fun i=>by rw [zJx];exact h _
theorem zNu{n m:Nat}{Es:List Eqn}{st:Stt}(S:Sol n m Es st)(ok:EqOk n m 8 Es)(hn:n<=6)(hm:m<=2){U:List Vec}(I:OtI (n+m) 18 11 (zf Es) U):
  ∃(Fs:List Eqn) (st':Stt),zf Fs=U/\SvOk n m 18 Fs/\yp n (whole Fs) Fs.length 0 Fs (yr n m)= .inl st'/\st'.steps=st.steps/\st'.fixed=st.fixed:=by
 have ew:zf (U.map fun u=>(u.take n,u.drop n))=U:=by
  rw [zf,List.map_map];exact (List.map_congr_left fun u _=>List.take_append_drop n u).trans (List.map_id U)
 have okF:EqOk n m 18 (U.map fun u=>(u.take n,u.drop n)):=by
  refine ⟨fun E hE=>?_,fun E hE=>?_,fun E hE=>?_,fun E hE=>?_⟩
  all_goals obtain ⟨u,hu,rfl⟩:=List.mem_map.mp hE
  all_goals obtain ⟨l1,b1⟩:=I.ok u hu
  ·show (u.take n).length=n;rw [List.length_take];omega
  ·show (u.drop n).length=m;rw [List.length_drop];omega
  ·exact Bts.take' b1 n
  ·exact Bts.drop' b1 n
 generalize U.map (fun u=>(u.take n,u.drop n))=Fs at ew okF;subst ew;have lF:Fs.length<=11:=by have:=I.len;rwa [zf,zPc] at this
 have fx: ∀k,k<m-> ∃f,st.fixed[k]?=some f/\st.fixed.getD k [] =f:=fun k hk=>by
  have e:st.fixed[k]?=some (st.fixed[k]'(by rw [S.fl];exact hk)):=zPV _;exact ⟨_,e,by rw [List.getD,e];rfl⟩
 obtain ⟨st',erun,R⟩:=zCd okF hn (fun k=>zA (st.fixed.getD k [])) (fun k i h=>by
  show zA ((st.fixed[k]?).getD []) i=0;cases e:st.fixed[k]? with
  | none=>rfl
  | some f=>
   show zA f i=0;exact zi (by rw [S.fn f (zPz e)];exact h)) (fun k hk E hE=>by
  obtain ⟨f,e1,e2⟩:=fx k hk;show dt (zA (st.fixed.getD k [])) E.1+_=0;rw [e2];exact (I.sm.inh ok.l1 okF.l1 (zA f)).mp (S.fx k f e1) E hE)
 obtain ⟨c1,c2⟩:=zOa S R.all ok.l1 okF.l1 I.sm;exact ⟨Fs,st',rfl,⟨okF,hn,by omega,by omega,by decide⟩,erun,c1,c2⟩
theorem zJP{H:Hp}{Q:VK}{n m:Nat}{Es:List Eqn}{P:List Vec}(e: ∃st,yp n (whole Es) Es.length 0 Es (yr n m)= .inl st/\(zt (st.steps.map (·.2)++st.fixed) n).map (fun v=>v.drop st.steps.length)=P)
  (h: ∀r H',zC H H'->LL H' r P->Q (.ref r) H'):zFw H Q n m Es:=by
 obtain ⟨st,e1,e2⟩:=e;unfold zFw;rw [e1];simp only;rw [e2];exact h
theorem zHk{K:zQK}{H:Hp}{a p D:Addr}{ns:List Int}{n m:Nat}{c d:Int}{suf rest:L2.St}{Q:VK}(ha:Scr K H a p ns)(hns:ns.length<=63)(ep:H p=some (.lst [.int c]))(c0:0<=c)(c1:c<=500)(d0:0<=d)(d1:d<=5)(hn:n<=6)(hm:m<=3)(hD:H D=none)(hs:suf=some (.ref a)::some (.int (m:Int))::some (.ref p)::rest)
  (q: ∀(W:List Vec) (c':Int) H',But [p] H H'->LLb H' D W p->W.length=n->(∀x∈W,x.length=m/\Sm x)->H' p=some (.lst [.int c'])->0<=c'->c'<=c+18->Q (.ref D) H'):
  CompInv (Itr 0 ((n:Int).toNat)) (yR 0) (fun _ H Q=>Q true H) (zFs (zGr K) [] E0 (zAN (yY 1) (zAN (yY 3) (zAN (yY 2) (zAN (tC (V.int d)) zBg))))) 1 suf H D Q:=by
 subst hs;have hDp:D≠p:=fun z=>by rw [z,ep] at hD;cases hD
 refine zR n (fun i ys H'=> ∃(rs:List Addr) (W:List Vec) (c':Int),i<=n/\ys=rs.map V.ref/\LIs H' rs W/\W.length=i/\(∀x∈W,x.length=m/\Sm x)/\p∉rs/\D∉rs/\H' D=some (.lst ys)/\H' p=some (.lst [.int c'])/\c<=c'/\c'<=c+3*i/\But [p] H H')
  ⟨[],[],c,zPk _,rfl,.nil,rfl,by simp,by simp,by simp,zB,zC.upd hD _ _ ep,by omega,by omega,zC.but (zC.upd hD) _⟩ (by rw [zPg];omega) ?_ ?_ ?_
 ·rintro i ys H2 hi ⟨rs,W,c',_,rfl,hrs,lW,_,_,_,eD,_⟩;have:=Paired.len hrs;exact ⟨by simp;omega,eD,fun h=>h,fun h=>Nat.le_of_eq h.symm⟩
 ·rintro i ys H2 x H3 hi ⟨rs,W,c',_,rfl,hrs,lW,hW,hpr,hDr,eD,ep',c0',c1',bt⟩ ⟨rfl,rfl⟩ pre hpre;obtain ⟨p0,rfl⟩:=yQ hpre;refine ⟨⟨[some (.int ((0:Int)+(i:Int)))],rfl,rfl⟩,zp ?_⟩;refine ⟨_,rfl,_,rfl,_,rfl,a,p,ns,c',m,d,rfl,ha.but bt,hns,ep',by omega,by omega,d0,d1,fun l v H4 b4 ep4 hl hv lv bv=>?_⟩;have nlD:l≠D:=fun z=>by rw [z,eD] at hl;cases hl
  have nlp:l≠p:=fun z=>by rw [z,ep'] at hl;cases hl
  refine ⟨b4 _ _ eD (by simpa using hDp),rs++ [l],W++ [v],c'+m,hi,by simp,?_,by simp [lW],fun x hx=>?_,by simp [hpr,Ne.symm nlp],by simp [hDr,Ne.symm nlD],zB,by rw [zH (Ne.symm hDp)];exact ep4,by omega,by omega,?_⟩
  ·refine Paired.snoc' (Paired.mapM (LIs.butp hrs b4 hpr) fun a v hm ea=>?_) ?_
   ·show L2.upd _ D _ a=_;rw [zH fun z=>hDr (by rw [<-z];exact hm)];exact ea
   ·show L2.upd _ D _ l=_;rw [zH nlD];exact hv
  ·rcases List.mem_append.mp hx with h | h
   ·exact hW x h
   ·rw [List.mem_singleton.mp h];exact ⟨lv,bv⟩
  ·exact fun b u e z=>by rw [zH (yU e hD)];exact (bt.trans b4) b u e z
 ·rintro ys H2 ⟨rs,W,c',_,rfl,hrs,lW,hW,hpr,hDr,eD,ep',c0',c1',bt⟩;exact q W c' H2 bt ⟨rs,eD,hrs,hpr,hDp⟩ lW hW ep' (by omega) (by omega)
theorem zOx{H0 H:Hp}{r p:Addr}{R:List Vec}{o:HO}(h:NewL H0 H r)(hr:LL H r R)(ep:H0 p=some o):LLb H r R p:=by
 obtain ⟨as,e,hs⟩:=hr;exact ⟨as,e,hs,fun z=>(by have y:=h.all as e p z;rw [ep] at y;cases y),fun z=>(by have y:=h.new;rw [z,ep] at y;cases y)⟩
end
section
variable {P:Program}{w:World}{K:zQK}{mg:Str->Option Value}{base:Heap}
def zGA(K:zQK):Sp:=fun vs H Q _=> ∃(a:Addr) (ns:List Int),vs= [.ref a] /\SqL K H a (ns.map V.int)/\ns.length<=63/\ ∀H',Q (.bl true) H'
theorem yg:FnScope ["_law_script","_law_number_here","_law_unknowns","_law_names","_law_spot","_law_wanted","_law_equations","_law_told","_law_free","_law_rows","_law_put","_law_found","_law_row","_law_name","_law_some","_law_at","_law_due","_law_other"] ["_law_script"] (zF zEH):=⟨rfl,rfl,rfl,by decide+kernel,rfl,by decide+kernel,by decide+kernel⟩
theorem zOA{f fN fD fF fS fP fWs fSu fB fFo fOt:Addr}{fd fdN fdD fdF fdS fdP fdWs fdSu fdB fdFo fdOt:FuncData}(F:Fun K "law" "law" zEH f fd)(B:Bn mg)
  (FN:Fun K "_law_number" "_law_number" zEM fN fdN) (bN:zL K fdN ["_law_script","_law_k"] []) (mN:mg "_law_number" =some (.ref fN)) (GN:FnOk P w K mg base CX0 2 fN fdN ["_law_script","_law_k"] (zEf K))
  (FD:Fun K "_law_drawn" "_law_drawn" zCO fD fdD) (bD:zL K fdD ["_law_script","_law_spot","_law_size","_law_most"] []) (mD:mg "_law_drawn" =some (.ref fD)) (GD:FnOk P w K mg base CX0 3 fD fdD ["_law_script","_law_spot","_law_size","_law_most"] (zGr K))
  (FF:Fun K "_law_fulfilled" "_law_fulfilled" zGf fF fdF) (bF:zL K fdF ["_law_script","_law_spot","_law_wanted","_law_names","_law_many"] []) (mF:mg "_law_fulfilled" =some (.ref fF)) (GF:FnOk P w K mg base CX0 4 fF fdF ["_law_script","_law_spot","_law_wanted","_law_names","_law_many"] (zJy K))
  (FS:Fun K "solved" "solved" zBb fS fdS) (bS:zL K fdS ["unknowns","names","equations"] []) (mS:mg "solved" =some (.ref fS)) (GS:FnOk P w K mg base CX0 38 fS fdS ["unknowns","names","equations"] zCi)
  (FP:Fun K "put_in" "put_in" zGp fP fdP) (bP:zL K fdP ["rows","free","names","found"] []) (mP:mg "put_in" =some (.ref fP)) (GP:FnOk P w K mg base CX0 2 fP fdP ["rows","free","names","found"] zIE)
  (FWs:Fun K "_law_wholes" "_law_wholes" zCY fWs fdWs) (bWs:zL K fdWs ["_law_found","_law_size"] []) (mWs:mg "_law_wholes" =some (.ref fWs)) (GWs:FnOk P w K mg base CX0 2 fWs fdWs ["_law_found","_law_size"] zFu)
  (FSu:Fun K "_law_sum" "_law_sum" zFT fSu fdSu) (bSu:zL K fdSu ["_law_row","_law_values"] []) (mSu:mg "_law_sum" =some (.ref fSu)) (GSu:FnOk P w K mg base CX0 1 fSu fdSu ["_law_row","_law_values"] zID)
  (FB:Fun K "met_by" "met_by" zGM fB fdB) (bB:zL K fdB ["rows","free","names","wanted"] []) (mB:mg "met_by" =some (.ref fB)) (GB:FnOk P w K mg base CX0 38 fB fdB ["rows","free","names","wanted"] zIQ)
  (FFo:Fun K "_law_form" "_law_form" zEt fFo fdFo) (bFo:zL K fdFo ["_law_unknowns","_law_names","_law_equations","_law_some"] []) (mFo:mg "_law_form" =some (.ref fFo)) (GFo:FnOk P w K mg base CX0 39 fFo fdFo ["_law_unknowns","_law_names","_law_equations","_law_some"] zKD)
  (FOt:Fun K "_law_otherwise" "_law_otherwise" zDD fOt fdOt) (bOt:zL K fdOt ["_law_script","_law_equations"] []) (mOt:mg "_law_otherwise" =some (.ref fOt)) (GOt:FnOk P w K mg base CX0 3 fOt fdOt ["_law_script","_law_equations"] (zKz K)):FnOk P w K mg base CX0 40 f fd ["_law_script"] (zGA K):=by
 refine F.ok yg (fun vs H Q E h=>?_) (fun cdv A outer s H vs Q E hr39 h=>?_)
 ·obtain ⟨a,ns,rfl,_⟩:=h;rfl
 ·obtain ⟨a,ns,rfl,ha,hns,q⟩:=h;have hr38:Room 38 _:=hr39.mono (by decide);have hr4:Room 4 _:=hr39.mono (by decide);have hr3:Room 3 _:=hr39.mono (by decide);have hr2:Room 2 _:=hr39.mono (by decide);have hr1:Room 1 _:=hr39.mono (by decide);have huL:=zIj hr39;have huT:=zNL hr39;refine ⟨_,QB.out (zE
   (zW 1 yg.nd rfl (zI GN hr2 rfl mN FN.kp bN .nil zK (qc (qx 0 rfl) (qc zG zD rfl) rfl) rfl rfl rfl) rfl) (zE
   (zW 2 yg.nd rfl (zAB (qw 1 rfl) zG) rfl) (zE
   (yt 3 yg.nd rfl (Or.inr rfl) (zAM zG (zAB (zBo (qw 1 rfl) zG) zG)) rfl (.inl rfl)) (zE
   (yt 4 yg.nd rfl (Or.inr rfl) (zAU (qc zG zD rfl)) rfl (.inl rfl)) (zE
   (zAe yn 5 (by exact yg.nd) rfl (Or.inl rfl) (.inr rfl) ["_law_k"] ["_law_script","_law_names","_law_spot"] [0,3,4] rfl (yZ rfl B.range (qc (qw 2 rfl) zD rfl) rfl) rfl (by decide+kernel) rfl (by decide+kernel) (zN rfl (zN rfl (zN rfl yb))) rfl (fr3 ⟨rfl,rfl,rfl,_,rfl,rfl⟩ ⟨rfl,rfl,rfl,_,rfl,rfl⟩ ⟨rfl,rfl,rfl,_,rfl,rfl⟩) (zO rfl) (fun _ _ _ _=>(zJ 0 (show (["_law_k","_law_script","_law_names","_law_spot"] :List Str).Nodup by decide+kernel) rfl (.inl rfl) (.inr rfl))) (fun _ _ _ _=>zV) (fun C s₂ H₂ fp xe E hp=>(zI GD hr3 rfl mD FD.kp bD .nil zK (qc (qx 1 rfl) (qc (qx 3 rfl) (qc (qx 2 rfl) (qc zG zD rfl) rfl) rfl) rfl) rfl rfl rfl)) (fun _=>rfl) rfl) (zE
   (zW 6 yg.nd rfl (zI GF hr4 rfl mF FF.kp bF .nil zK (qc (qx 0 rfl) (qc (qx 4 rfl) (qc (qw 5 rfl) (qc (qx 3 rfl) (qc (zAB (zBo (qw 1 rfl) zG) zG) zD rfl) rfl) rfl) rfl) rfl) rfl rfl rfl) rfl) (zE
   (zW 7 yg.nd rfl (zI GS hr38 rfl mS FS.kp bS .nil zK (qc (qw 2 rfl) (qc (qx 3 rfl) (qc (zc (cl:= []) ["_law_row"] [] [] rfl (zj (K:=K) rfl (qw 6 rfl)) rfl (by decide+kernel) rfl (by decide+kernel) (fun _ _ h=>nomatch h) rfl (fun j y i h=>nomatch h) (zO rfl) (fun _ _ _ _=>(zJ 0 (show (["_law_row"] :List Str).Nodup by decide+kernel) rfl (.inl rfl) (.inr rfl))) (fun _ _ _ _=>zV) (fun _ _ _ _=>(zCk (yy (K:=K) rfl) rfl B.list zAH (qc (qw 0 rfl) zD rfl) rfl)) (fun _=>rfl)) zD rfl) rfl) rfl) rfl rfl rfl) rfl) (zE
   (yX (zl zBF (yL (K:=K) rfl (qw 7 rfl) zG (fun _ _=>rfl)) zEO rfl) (zM
    (ze zGx)) yV) (zE
   (zOl (zOn (K:=K) rfl (qw 7 rfl) (zAk zG) zAj) (zBC (K:=K) rfl rfl (yG (zJ 8 yg.nd rfl (Or.inl rfl) (.inr rfl)) (yG (zJ 9 yg.nd rfl (Or.inl rfl) (.inr rfl)) zBB rfl) rfl) rfl rfl) rfl rfl rfl) (zE
   (zAe yn 10 (by exact yg.nd) rfl (Or.inl rfl) (.inr rfl) ["_law_k"] ["_law_script","_law_names","_law_spot"] [0,3,4] rfl (yZ rfl B.range (qc (qw 8 rfl) zD rfl) rfl) rfl (by decide+kernel) rfl (by decide+kernel) (zN rfl (zN rfl (zN rfl yb))) rfl (fr3 ⟨rfl,rfl,rfl,_,rfl,rfl⟩ ⟨rfl,rfl,rfl,_,rfl,rfl⟩ ⟨rfl,rfl,rfl,_,rfl,rfl⟩) (zO rfl) (fun _ _ _ _=>(zJ 0 (show (["_law_k","_law_script","_law_names","_law_spot"] :List Str).Nodup by decide+kernel) rfl (.inl rfl) (.inr rfl))) (fun _ _ _ _=>zV) (fun C s₂ H₂ fp xe E hp=>(zI GD hr3 rfl mD FD.kp bD .nil zK (qc (qx 1 rfl) (qc (qx 3 rfl) (qc (qx 2 rfl) (qc zG zD rfl) rfl) rfl) rfl) rfl rfl rfl)) (fun _=>rfl) rfl) (zE
   (zW 11 yg.nd rfl (zI GP hr2 rfl mP FP.kp bP .nil zK (qc (zc (cl:= []) ["_law_row"] [] [] rfl (zj (K:=K) rfl (qw 9 rfl)) rfl (by decide+kernel) rfl (by decide+kernel) (fun _ _ h=>nomatch h) rfl (fun j y i h=>nomatch h) (zO rfl) (fun _ _ _ _=>(zJ 0 (show (["_law_row"] :List Str).Nodup by decide+kernel) rfl (.inl rfl) (.inr rfl))) (fun _ _ _ _=>zV) (fun _ _ _ _=>(zCk (yy (K:=K) rfl) rfl B.list zAH (qc (qw 0 rfl) zD rfl) rfl)) (fun _=>rfl)) (qc (qw 8 rfl) (qc (qx 3 rfl) (qc (zc (cl:= []) ["_law_one"] [] [] rfl (zj (K:=K) rfl (qw 10 rfl)) rfl (by decide+kernel) rfl (by decide+kernel) (fun _ _ h=>nomatch h) rfl (fun j y i h=>nomatch h) (zO rfl) (fun _ _ _ _=>(zJ 0 (show (["_law_one"] :List Str).Nodup by decide+kernel) rfl (.inl rfl) (.inr rfl))) (fun _ _ _ _=>zV) (fun _ _ _ _=>(zCk (yy (K:=K) rfl) rfl B.list zAH (qc (qw 0 rfl) zD rfl) rfl)) (fun _=>rfl)) zD rfl) rfl) rfl) rfl) rfl rfl rfl) rfl) (zE
   (yX (t_w (zKK (zl zBF (yK (yH (K:=K) rfl) rfl B.len yo (qc (qw 11 rfl) zD rfl) rfl) (qw 2 rfl) rfl) (zIc (zEe (zDd (yK (zBz (K:=K) rfl rfl) rfl B.all zEh (qc (zc ["_law_row"] ["_law_names"] [3] rfl (zj (K:=K) rfl (qw 11 rfl)) rfl (by decide+kernel) rfl (by decide+kernel) (zN rfl yb) rfl (fr1 ⟨rfl,rfl,rfl,_,rfl,rfl⟩) (zO rfl) (fun _ _ _ _=>(zJ 0 (show (["_law_row","_law_names"] :List Str).Nodup by decide+kernel) rfl (.inl rfl) (.inr rfl))) (fun _ _ _ _=>zV) (fun _ _ _ _=>(zI GWs hr2 rfl mWs FWs.kp bWs .nil zK (qc (qw 0 rfl) (qc (qx 1 rfl) zD rfl) rfl) rfl rfl rfl)) (fun _=>rfl)) zD rfl) rfl) (fun _=>rfl)))))) (zM
    (ze zGx)) yV) (zE
   (zAF PassesOwn.never rfl (zj (K:=K) rfl (qw 6 rfl)) (zJ 12 yg.nd rfl (Or.inl rfl) (.inr rfl)) (zM
    (zAF PassesOwn.never rfl (yZ rfl B.range (qc (qx 3 rfl) zD rfl) rfl) (zJ 13 yg.nd rfl (Or.inr rfl) (.inl rfl)) (zM
     (yX (zl zBF (zAM (zI GSu hr1 rfl mSu FSu.kp bSu .nil zK (qc (qw 12 rfl) (qc (zc ["_law_own"] ["_law_name"] [13] rfl (zj (K:=K) rfl (qw 11 rfl)) rfl (by decide+kernel) rfl (by decide+kernel) (zN rfl yb) rfl (fr1 ⟨rfl,rfl,rfl,_,rfl,rfl⟩) (zO rfl) (fun _ _ _ _=>(zJ 0 (show (["_law_own","_law_name"] :List Str).Nodup by decide+kernel) rfl (.inl rfl) (.inr rfl))) (fun _ _ _ _=>zV) (fun _ _ _ _=>(yA (K:=K) rfl (qw 0 rfl) (qx 1 rfl) (fun _ _=>rfl))) (fun _=>rfl)) zD rfl) rfl) rfl rfl rfl) (yA (K:=K) rfl (qw 12 rfl) (zAM (qw 2 rfl) (qx 13 rfl)) (fun _ _=>rfl))) zG rfl) (zM
      (ze zGx)) yV)) (fun _=>rfl))) (fun _=>rfl)) (zE
   (yX (zl (zMK (K:=K) rfl huL) (zI GB hr38 rfl mB FB.kp bB .nil zK (qc (zc (cl:= []) ["_law_row"] [] [] rfl (zj (K:=K) rfl (qw 9 rfl)) rfl (by decide+kernel) rfl (by decide+kernel) (fun _ _ h=>nomatch h) rfl (fun j y i h=>nomatch h) (zO rfl) (fun _ _ _ _=>(zJ 0 (show (["_law_row"] :List Str).Nodup by decide+kernel) rfl (.inl rfl) (.inr rfl))) (fun _ _ _ _=>zV) (fun _ _ _ _=>(zCk (yy (K:=K) rfl) rfl B.list zAH (qc (qw 0 rfl) zD rfl) rfl)) (fun _=>rfl)) (qc (qw 8 rfl) (qc (qx 3 rfl) (qc (zc (cl:= []) ["_law_row"] [] [] rfl (zj (K:=K) rfl (qw 11 rfl)) rfl (by decide+kernel) rfl (by decide+kernel) (fun _ _ h=>nomatch h) rfl (fun j y i h=>nomatch h) (zO rfl) (fun _ _ _ _=>(zJ 0 (show (["_law_row"] :List Str).Nodup by decide+kernel) rfl (.inl rfl) (.inr rfl))) (fun _ _ _ _=>zV) (fun _ _ _ _=>(zCk (yy (K:=K) rfl) rfl B.list zAH (qc (qw 0 rfl) zD rfl) rfl)) (fun _=>rfl)) zD rfl) rfl) rfl) rfl) rfl rfl rfl) (qw 10 rfl) rfl) (zM
    (ze zGx)) yV) (zE
   (zAe yn 14 (by exact yg.nd) rfl (Or.inl rfl) (.inr rfl) ["_law_at"] ["_law_script"] [0] rfl (yZ rfl B.range (qc (qw 2 rfl) zD rfl) rfl) rfl (by decide+kernel) rfl (by decide+kernel) (zN rfl yb) rfl (fr1 ⟨rfl,rfl,rfl,_,rfl,rfl⟩) (zO rfl) (fun _ _ _ _=>(zJ 0 (show (["_law_at","_law_script"] :List Str).Nodup by decide+kernel) rfl (.inl rfl) (.inr rfl))) (fun _ _ _ _=>(zDG (zl zAm (zAB (zI GN hr2 rfl mN FN.kp bN .nil zK (qc (qx 1 rfl) (qc (zAM zG (qw 0 rfl)) zD rfl) rfl) rfl rfl rfl) zG) zG rfl))) (fun C s₂ H₂ fp xe E hp=>(qw 0 rfl)) (fun _=>rfl) rfl) (zE
   (zW 15 yg.nd rfl (zAB (qw 1 rfl) (yK (zCw rfl) rfl B.max zGZ (qc zG (qc (yK (yH (K:=K) rfl) rfl B.len yo (qc (qw 14 rfl) zD rfl) rfl) zD rfl) rfl) rfl)) rfl) (zE
   (zW 14 yg.nd rfl (zBG (zBa (K:=K) rfl (qw 14 rfl) (zAk (qw 15 rfl)) zAj) (zBa (K:=K) rfl (qw 14 rfl) zAj (zAk (qw 15 rfl)))) rfl) (zE
   (zW 16 yg.nd rfl (zI GFo hr39 rfl mFo FFo.kp bFo .nil zK (qc (qw 2 rfl) (qc (qx 3 rfl) (qc (qw 6 rfl) (qc (qw 14 rfl) zD rfl) rfl) rfl) rfl) rfl rfl rfl) rfl) (zE
   (zW 17 yg.nd rfl (zI GOt hr3 rfl mOt FOt.kp bOt .nil zK (qc (qx 0 rfl) (qc (qw 6 rfl) zD rfl) rfl) rfl rfl rfl) rfl) (zM
   (ze (zFq (zNz (qw 16 rfl) rfl) (zIk (zFv (zMU (K:=K) rfl huT) (zI GFo hr39 rfl mFo FFo.kp bFo .nil zK (qc (qw 2 rfl) (qc (qx 3 rfl) (qc (qw 17 rfl) (qc (qw 14 rfl) zD rfl) rfl) rfl) rfl) rfl rfl rfl) (qw 16 rfl) rfl)))))))))))))))))))))))),?_⟩
  refine ⟨_,rfl,a,ns,0,rfl,ha,hns,by decide,by decide,fun r H1 s1 r0 r1=>?_⟩;refine ⟨_,rfl,r,7,rfl,rfl,by decide,?_⟩;refine ⟨_,rfl,r,7,rfl,rfl,⟨by decide,by decide⟩,_,_,rfl,rfl,by decide,_,_,rfl,rfl,?_⟩;have n0:=zPn r (show (7:Int)≠0 by decide);have n1:=zPh r (show (0:Int)<7 by decide);have m0:=zPn (r/7) (show (2:Int)≠0 by decide);have m1:=zPh (r/7) (show (0:Int)<2 by decide);obtain ⟨n,en⟩: ∃n:Nat,r % 7=n:=⟨(r % 7).toNat,by omega⟩;obtain ⟨m,em⟩: ∃m:Nat,1+r/7 % 2=m:=⟨(1+r/7 % 2).toNat,by omega⟩;rw [en,em];refine ⟨bs 1,fun p hp=>?_⟩;have hn6:n<=6:=by omega
  have hm2:m<=2:=by omega
  have hm3:m<=3:=by omega
  have k0:=zPn (r/14) (show (6:Int)≠0 by decide);have k1:=zPh (r/14) (show (0:Int)<6 by decide);obtain ⟨k,ek⟩: ∃k:Nat,r/14 % 6=k:=⟨(r/14 % 6).toNat,by omega⟩;have hk5:k<=5:=by omega
  refine ⟨_,rfl,(n:Int),rfl,by omega,by omega,fun D hD=>?_⟩;refine zHk (d:=3) (((Scr.of (s1.seq ha) hp)).but But.upd) hns zB (by decide) (by decide) (by decide) (by decide) hn6 hm3 hD rfl fun W c H2 b2 hW lW sW ep c0 c1=>?_;have sc2:=((Scr.of (s1.seq ha) hp).but (But.upd (o:= .lst [.int 200]))).but b2;clear b2 hD hp s1 ha;refine ⟨_,rfl,_,rfl,_,rfl,_,rfl,_,rfl,r,14,rfl,rfl,⟨by decide,by decide⟩,_,_,rfl,rfl,by decide,a,p,D,ns,c,W,m,k,by rw [ek];rfl,sc2,hns,ep,c0,by omega,hW,by omega,hm3,by omega,sW,fun el us c3 H3 b3 _ ep3 c30 c31 hE lu hu=>?_⟩;obtain ⟨Es,st,e1,lE,sv,erun,S,k6,rk⟩:=zOR lW hn6 hm2 hk5 sW lu hu;rw [e1] at hE;have sc3:=sc2.but b3;clear sc2 hW b3 ep lu hu sW e1;have lwE:(zf Es).length=Es.length:=by simp [zf]
  obtain ⟨y3,ee,ly3⟩:=hE.ll.at;refine ⟨_,rfl,_,rfl,_,rfl,el,rfl,⟨_,SqL.of ee⟩,fun D2 hD2=>zAY hE.ll (by omega) hD2 fun rs H4 s4 e4 h4 _=>⟨D2,n,m,8,Es,rfl,⟨rs,e4,h4⟩,sv,by omega,zGO erun fun t rr H5 s5 et hnew hR=>?_⟩⟩;have s35:=s4.trans s5;have hRb:=zOx hnew hR (s4 _ _ ep3);refine ⟨_,rfl,t,_,_,_,rfl,rfl,SqT.of et,rfl,rfl,_,rfl,zBY ?_⟩;refine ⟨_,rfl,_,rfl,t,_,rfl,SqT.of et,fun h=>absurd (show (1:Nat)=0 from h.1) (by decide),fun t2 ht2=>?_⟩;have t6:=zC.upd ht2 (o:= .tup (zAv [.str "solved",.int (st.steps.length:Int),.ref rr] (some 1) none));refine ⟨t2,_,rfl,SqT.of zB,rfl,_,_,rfl,_,_,rfl,rfl,?_⟩;have b36:But [p] H3 _:=zC.but (s35.trans t6) [p];have ep6:=(s35.trans t6) _ _ ep3;have sc6:=sc3.but b36;have hE6:=hE.but b36;have hR6:=hRb.but (zC.but t6 [p]);generalize L2.upd H5 t2 (.tup (zAv [.str "solved",.int (st.steps.length:Int),.ref rr] (some 1) none))=H6 at ep6 sc6 hE6 hR6⊢;clear b36 t6 ht2 hRb hnew hR s35 s4 s5 e4 h4 hD2 et hE ee sc3 ep3;refine ⟨_,rfl,(st.steps.length:Int),rfl,by omega,by omega,fun D6 hD6=>?_⟩;refine zHk (d:=5) sc6 hns ep6 c30 (by omega) (by decide) (by decide) k6 hm3 hD6 rfl fun Pm c7 H7 b7 hP lP sP _ _ _=>?_;have a7:=(sc6.but b7).sq;have hE7:=(hE6.but b7).ll;have hR7:=(hR6.but b7).ll;have hP7:=hP.ll;clear b7 hP sc6 hE6 hR6 hD6 ep6;have lR:(yD n st).length=n:=yq;have rk5: ∀x∈yD n st,x.length=st.steps.length+m/\Bts 50000000 x:=fun x hx=>⟨(rk x hx).1,(rk x hx).2.mono (by decide)⟩;obtain ⟨y7,e7,ly7⟩:=hR7.at;refine ⟨_,rfl,rr,rfl,⟨_,SqL.of e7⟩,fun D8 hD8=>zAY hR7 (by rw [yq];omega) hD8 fun rs8 H8 s8 e8 h8 _=>?_⟩;obtain ⟨y8,e8',ly8⟩:=(hP7.same s8).at;refine ⟨_,rfl,_,rfl,_,rfl,D6,rfl,⟨_,SqL.of e8'⟩,fun D9 hD9=>zAY (hP7.same s8) (by omega) hD9 fun rs9 H9 s9 e9 h9 _=>?_⟩;refine ⟨D8,D9,yD n st,st.steps.length,m,Pm,rfl,LL.same ⟨rs8,e8,h8⟩ s9,⟨rs9,e9,h9⟩,rk5,lP,fun x hx=>⟨(sP x hx).1,(sP x hx).2.bts⟩,by omega,by omega,fun fl H10 s10 hF=>?_⟩;have s70:=(s8.trans s9).trans s10;have lF:(zAO n m st Pm).length=n:=by rw [zPc,yq]
  have Fk:=zJQ (m:=m) S sv.ok hn6 fun x hx=>(sP x hx).2;have hF:LL H10 fl (zAO n m st Pm):=hF;have a10:=s70.seq a7;have hE10:=hE7.same s70;have hR10:=hR7.same s70;have hP10:=hP7.same s70;clear s70 s8 s9 s10 e8 h8 e9 h9 hD8 hD9 e7 e8' a7 hE7 hR7 hP7;obtain ⟨yF,ef,lyF⟩:=hF.at;refine ⟨_,rfl,fl,_,rfl,.inl (SqL.of ef),_,rfl,rfl,_,rfl,zBO (by rw [lyF,lF,zPt rfl];rfl) ?_⟩;refine ⟨_,rfl,fl,rfl,⟨_,SqL.of ef⟩,fun D11 hD11=>zMg hF (by omega) (fun x hx=>(Fk x hx).1) (by omega) hD11 rfl fun H11 s11 e11=>?_⟩;refine ⟨D11,List.replicate (zAO n m st Pm).length true,rfl,SqL.of e11,_,rfl,zBO (by simp) ?_⟩;obtain ⟨bs',ee,hbs⟩:=hE10.same s11;obtain ⟨os,eo,hos⟩:=hF.same s11;have lb:=Paired.len hbs;refine ⟨_,rfl,el,rfl,⟨_,SqL.of ee⟩,?_⟩;refine yj bs'.length (fun i σ H'=> ∃s12 s13:Option V,σ= [some (.ref a),some (.int r),some (.int (n:Int)),some (.int (m:Int)),some (.ref p),some (.ref D),some (.ref el),some (.ref t),some (.int (st.steps.length:Int)),some (.ref rr),some (.ref D6),some (.ref fl),s12,s13,none,none,none,none] /\i<=bs'.length/\zC H11 H') ⟨none,none,rfl,zPk _,zC.refl _⟩ ?_ ?_ ?_ ?_
  ·rintro i σ H4 hi ⟨s12,s13,rfl,_,s4⟩;exact ⟨_,_,SqL.of (s4 _ _ ee),zPV (by simpa using hi)⟩
  ·rintro σ H4 ⟨s12,s13,rfl,_,s4⟩;exact ⟨_,SqL.of (s4 _ _ ee),by simp⟩
  ·clear q;rintro i σ H0 x H4 hi ⟨s12,s13,rfl,_,s4⟩ ⟨rfl,hx'⟩;have hx':=hx' _ (SqL.of (s4 _ _ ee));rw [zPa,zPV hi] at hx';cases hx';obtain ⟨u,eu,hu⟩:=Paired.get' hbs (zPV hi);have hiE:i<Es.length:=by omega
   rw [zf,zPa,zPV hiE] at eu;cases eu;have mE:=zQA hiE;have l1:=sv.ok.l1 _ mE;have l2:=sv.ok.l2 _ mE;have b1:=(sv.ok.b1 _ mE).mono (show 8<=50000000 by decide);have b2:=(sv.ok.b2 _ mE).mono (show 8<=50000000 by decide);have gd:=zKQ (P:=Pm) S mE l1;generalize Es[i] =E' at hu l1 l2 b1 b2 gd;refine ⟨_,rfl,(m:Int),rfl,by omega,by omega,?_⟩;refine yj m (fun j σ H'=> ∃s13:Option V,σ= [some (.ref a),some (.int r),some (.int (n:Int)),some (.int (m:Int)),some (.ref p),some (.ref D),some (.ref el),some (.ref t),some (.int (st.steps.length:Int)),some (.ref rr),some (.ref D6),some (.ref fl),some (.ref bs'[i]),s13,none,none,none,none] /\j<=m/\zC H11 H') ⟨s13,rfl,zPk _,s4⟩ ?_ ?_ ?_ ?_
   ·rintro j σ H5 hj ⟨s13,rfl,_⟩;exact hj
   ·rintro σ H5 ⟨s13,rfl,_⟩;exact zPZ _
   ·rintro j σ H0' x H5 hj ⟨s13,rfl,_,s5⟩ ⟨rfl,rfl⟩;refine ⟨_,rfl,_,rfl,fl,rfl,⟨_,SqL.of (s5 _ _ eo)⟩,fun D2 hD2=>?_⟩;have s6':=zC.upd hD2 (o:= .lst ((zq (zAO n m st Pm) j).map V.int));refine zEB (j:=j) (s5 _ _ eo) (LIs.same hos s5) (fun x hx'=>by rw [(Fk x hx').1];exact hj) (by omega) hD2 (Int.zero_add _) rfl ?_;refine ⟨bs'[i],D2,E'.1++E'.2,zq (zAO n m st Pm) j,rfl,hu.same (s5.trans s6'),zB,by rw [yM,zPx];omega,by rw [zPx];omega,zFD b1 b2,Bts.col (fun x hx'=>(Fk x hx').2.mono (by rw [vb8];decide)) j,fun H6 s7=>?_⟩;rw [zMS (by rw [yM];omega)];refine ⟨_,rfl,_,rfl,_,rfl,_,_,rfl,rfl,bs'[i],_,_,.int (zA E'.2 j),rfl,rfl,SqL.of (hu.same ((s5.trans s6').trans s7)),?_,dot E'.1 (zq (zAO n m st Pm) j),zA E'.2 j,rfl,rfl,rfl,_,rfl,zBO (by rw [gd j hj];rfl) ⟨_,rfl,hj,(s5.trans s6').trans s7⟩⟩;rw [Int.zero_add,show (n:Int)+(j:Int)=((n+j:Nat):Int) by omega,<-zOD (u:=E'.1) (v:=E'.2) l1];exact zn (zT (by rw [zPx];omega))
   ·rintro σ H5 ⟨s13,rfl,_,s5⟩;exact ⟨_,_,rfl,hi,s5⟩
  rintro σ H12 ⟨s12,s13,rfl,_,s12'⟩;have s02:=s11.trans s12';have a12:=s02.seq a10;have hE12:=hE10.same s02;have hR12:=hR10.same s02;have hP12:=hP10.same s02;have hF12:=hF.same s02;clear s02 s11 s12' e11 hD11 ee hbs lb eo hos ef a10 hE10 hR10 hP10 hF;obtain ⟨sv2,run2⟩:=zJm S sv.ok hn6 hm3 (by decide) lP sP;obtain ⟨y12,e12,ly12⟩:=hR12.at;refine ⟨_,rfl,rr,rfl,⟨_,SqL.of e12⟩,fun D8 hD8=>zAY hR12 (by rw [yq];omega) hD8 fun rs8 H8 s8 e8 h8 _=>?_⟩;obtain ⟨y13,e13,ly13⟩:=(hF12.same s8).at;refine ⟨_,rfl,_,rfl,_,rfl,fl,rfl,⟨_,SqL.of e13⟩,fun D9 hD9=>zAY (hF12.same s8) (by omega) hD9 fun rs9 H9 s9 e9 h9 _=>?_⟩;refine ⟨D8,D9,yD n st,zAO n m st Pm,st.steps.length,m,VB6 8+8,rfl,LL.same ⟨rs8,e8,h8⟩ s9,⟨rs9,e9,h9⟩,by rw [lR,lF],fun x hx=>(rk x hx).1,fun x hx=>(Fk x hx).1,sv2,zJP run2 fun fa H13 s13' hFa=>?_⟩;have s70:=(s8.trans s9).trans s13';refine ⟨_,rfl,zNq hFa (hP12.same s70) ⟨_,rfl,zBY ?_⟩⟩;have a13:=s70.seq a12;have hE13:=hE12.same s70;clear s70 s8 s9 s13' e8 h8 e9 h9 hD8 hD9 e12 e13 hFa a12 hE12 hR12 hP12 hF12 run2 sv2;refine ⟨_,rfl,(n:Int),rfl,by omega,by omega,fun D14 hD14=>?_⟩;refine zR n (fun i ys H'=> ∃so:List Nat,i<=n/\ys=so.map (fun i:Nat=>V.int (i:Int))/\so.length<=i/\(∀j∈so,j<i)/\zC H13 H'/\H' D14=some (.lst ys)) ⟨[],zPk _,rfl,zPZ _,by simp,zC.upd hD14,zB⟩ (by rw [zPg];omega) ?_ ?_ ?_
  ·rintro i ys H' hi ⟨so,_,rfl,ls,_,s1,e1⟩;exact ⟨by rw [zPc];omega,e1,fun h=>h,fun h=>Nat.le_of_eq h.symm⟩
  ·rintro i ys H' x H'' hi ⟨so,_,rfl,ls,hs,s1,e1⟩ ⟨rfl,rfl⟩ pre hpre;obtain ⟨p0,rfl⟩:=yQ hpre;refine ⟨⟨[some (.int ((0:Int)+(i:Int)))],rfl,rfl⟩,?_⟩;refine ⟨_,rfl,_,rfl,_,_,rfl,rfl,a,ns,_,rfl,s1.seq a13,hns,by omega,by omega,fun r' H2 s2 g0 g1=>⟨r',3,rfl,rfl,by decide,_,_,rfl,rfl,_,rfl,yl (fun c=>?_) (fun c=>?_)⟩⟩
   ·refine ⟨_,rfl,s2 _ _ e1,so++ [i],hi,by simp,by simp;omega,fun j hj=>?_,zC.store (s1.trans s2) hD14,zB⟩;rcases List.mem_append.mp hj with h | h
    ·have:=hs j h;omega
    ·rw [List.mem_singleton.mp h];omega
   ·exact ⟨so,hi,rfl,by omega,fun j hj=>by have:=hs j hj;omega,s1.trans s2,s2 _ _ e1⟩
  rintro ys H14 ⟨so,_,rfl,lso,hso,s14,e14⟩;have a14:=s14.seq a13;have hE14:=hE13.same s14;clear s14 a13 hE13 hD14;have p1:(0:Int)<(if ((so.map fun i:Nat=>V.int (i:Int)).length:Int)>1 then ((so.map fun i:Nat=>V.int (i:Int)).length:Int) else 1):=by split<;>omega
  refine ⟨_,rfl,_,rfl,D14,_,rfl,.inl (SqL.of e14),_,_,rfl,_,_,rfl,rfl,p1,?_⟩;obtain ⟨o,eo,lo⟩: ∃o:Nat,r %(if ((so.map fun i:Nat=>V.int (i:Int)).length:Int)>1 then ((so.map fun i:Nat=>V.int (i:Int)).length:Int) else 1)=o/\o<=so.length:=by
   have a0:=zPn r (Int.ne_of_gt p1);have a1:=zPh r p1;rw [zPc] at a0 a1⊢;generalize hz:r %(if (so.length:Int)>1 then (so.length:Int) else 1)=z at a0 a1⊢;refine ⟨z.toNat,by omega,?_⟩;split at a1<;>omega
  rw [eo];clear p1 eo;refine ⟨_,rfl,_,rfl,_,rfl,D14,_,rfl,SqL.of e14,fun pa hpa=>?_⟩;rw [zDu (by omega) (by rw [zPc];omega),Int.toNat_natCast,<-List.map_drop];have ta:=zC.upd hpa (o:= .lst ((so.drop o).map fun i:Nat=>V.int (i:Int)));refine ⟨_,rfl,_,rfl,_,rfl,D14,_,rfl,SqL.of (ta _ _ e14),fun pc hpc=>?_⟩;rw [zGW (by omega) (by rw [zPc];omega),Int.toNat_natCast,<-List.map_take];have tc:=zC.upd hpc (o:= .lst ((so.take o).map fun i:Nat=>V.int (i:Int)));refine ⟨pa,pc,_,_,rfl,rfl,tc _ _ zB,zB,by rw [zPg];simp;omega,fun pd hpd=>?_⟩;rw [<-zPr];have td:=zC.upd hpd (o:= .lst ((so.drop o++so.take o).map fun i:Nat=>V.int (i:Int)));have e15:=zB (H:=L2.upd (L2.upd H14 pa (.lst ((so.drop o).map fun i:Nat=>V.int (i:Int)))) pc (.lst ((so.take o).map fun i:Nat=>V.int (i:Int)))) (a:=pd) (o:= .lst ((so.drop o++so.take o).map fun i:Nat=>V.int (i:Int)));have s45:=(ta.trans tc).trans td;have a15:=s45.seq a14;have hE15:=hE14.same s45;have l15:(so.drop o++so.take o).length<=6:=by rw [zPx,List.length_drop,List.length_take];omega
  have h15: ∀i∈so.drop o++so.take o,i<n:=fun i hi=>by
   rcases List.mem_append.mp hi with h | h
   ·exact hso i (List.mem_of_mem_drop h)
   ·exact hso i (List.mem_of_mem_take h)
  generalize so.drop o++so.take o=sx at e15 l15 h15 s45 a15 hE15 td⊢;generalize L2.upd (L2.upd (L2.upd H14 pa _) pc _) pd _=H15 at e15 s45 a15 hE15 td⊢;clear s45 ta tc td hpa hpc hpd a14 hE14 e14 hso lso lo;have rk2: ∀x∈yD n st,x.length=st.steps.length+m/\Bts 2000 x:=fun x hx=>⟨(rk x hx).1,(rk x hx).2.mono (by decide)⟩;refine ⟨_,rfl,_,rfl,_,rfl,_,rfl,el,pd,n,m,8,Es,st,sx,rfl,hE15,sv,by omega,erun,e15,l15,h15,rk2,k6,fun T tt1 rr1 H16 s16 et1 hF1 nf1=>?_⟩;refine ⟨_,rfl,_,rfl,a,el,ns,zf Es,n+m,rfl,s16.seq a15,hns,hE15.same s16,fun x hx=>?_,by omega,by omega,fun r2 U H17 s17 hU I=>?_⟩
  ·obtain ⟨E',hE',rfl⟩:=List.mem_map.mp hx;exact ⟨by rw [zPx,sv.ok.l1 E' hE',sv.ok.l2 E' hE'],zFD (sv.ok.b1 E' hE') (sv.ok.b2 E' hE')⟩
  obtain ⟨Fs,st',rfl,svF,runF,c1',c2'⟩:=zNu S sv.ok hn6 hm2 I;have eR:yD n st'=yD n st:=by rw [yD,yD,c1',c2']
  have s57:=s16.trans s17;refine ⟨_,rfl,_,rfl,zp ?_⟩;refine ⟨_,rfl,_,rfl,_,rfl,_,rfl,r2,pd,n,m,18,Fs,st',sx,rfl,hU,svF,by omega,runF,s57 _ _ e15,l15,h15,by rw [eR,c1'];exact rk2,by rw [c1'];exact k6,fun T2 tt2 rr2 H18 s18 et2 hF2 nf2=>?_⟩;rw [eR,c1'] at hF2 nf2;have eT:T2=T:=NF.uniq nf2 nf1 fun x=>Iff.rfl;subst eT;exact ⟨_,rfl,tt2,tt1,rr2,rr1,(T2.length:Int),rfl,rfl,SqT.of et2,SqT.of ((s17.trans s18) _ _ et1),zPR hF2 (hF1.same (s17.trans s18)),q _⟩
end
def GA(K:zQK)(n:Str)(f:Addr):Prop:=PySem.W.nsIn K mainGlobals n=some (some (.ref f))
def LF(K:zQK)(f:Addr)(n q:Str)(st:Stmt)(dv oc:Value)(od:Option Addr)(kV dc pm:Value)(an:Option Addr)(cd ct:Value)(sl:Array (Option Value)):Prop:=K.lookup f=some ⟨oc,od,.func (PySem.W.fnOf n q (zAT st) (yw st) (zF st) dv kV dc pm an cd ct),sl⟩
def CF(K:zQK)(cd:Value)(q:Str):Prop:=PySem.W.codeIn K cd q=true
def KF(K:zQK)(f:Addr):Prop:=PySem.W.keepIn K (.ref f)=true
theorem zEE{us:List Value}(h:us.length=1): ∃a,us= [a] :=List.length_eq_one_iff.mp h
theorem zAD{us:List Value}(h:us.length=2): ∃a b,us= [a,b] :=by
 cases us with
 | nil=>cases h
 | cons a r=>
  obtain ⟨b,rfl⟩:=zEE (us:=r) (by simpa using h);exact ⟨a,b,rfl⟩
theorem zDM{us:List Value}(h:us.length=3): ∃a b c,us= [a,b,c] :=by
 cases us with
 | nil=>cases h
 | cons a r=>
  obtain ⟨b,c,rfl⟩:=zAD (us:=r) (by simpa using h);exact ⟨a,b,c,rfl⟩
theorem zCI{us:List Value}(h:us.length=4): ∃a b c d,us= [a,b,c,d] :=by
 cases us with
 | nil=>cases h
 | cons a r=>
  obtain ⟨b,c,d,rfl⟩:=zDM (us:=r) (by simpa using h);exact ⟨a,b,c,d,rfl⟩
theorem zPL{us:List Value}(h:us.length=5): ∃a b c d e,us= [a,b,c,d,e] :=by
 cases us with
 | nil=>cases h
 | cons a r=>
  obtain ⟨b,c,d,e,rfl⟩:=zCI (us:=r) (by simpa using h);exact ⟨a,b,c,d,e,rfl⟩
theorem zOV{l:PySem.W.OpenLaw}{w:World}{K:zQK}{h:Heap}{mg:Str->Option Value}{fa:Addr}(ht:l.prog.given.tree=none)(X:K.In h)(G:h.Ns mainGlobals mg)(hfa:mg "law" =some (.ref fa))
  (a0:GA K "is_whole" f0)
  (l0:LF K f0 "is_whole" "is_whole" zCN .none oc0 od0 kV0 dc0 pm0 an0 cd0 ct0 sl0)
  (c0:CF K cd0 "is_whole")
  (k0:KF K f0)
  (a1:GA K "need_whole" f1)
  (l1:LF K f1 "need_whole" "need_whole" zCE (.ref T1) oc1 od1 kV1 dc1 pm1 an1 cd1 ct1 sl1)
  (c1:CF K cd1 "need_whole")
  (k1:KF K f1)
  (d1:K.lookup T1=some ⟨to1,td1,.seq #[.none] tn1,ts1⟩)
  (a2:GA K "common_divisor" f2)
  (l2:LF K f2 "common_divisor" "common_divisor" zEz .none oc2 od2 kV2 dc2 pm2 an2 cd2 ct2 sl2)
  (c2:CF K cd2 "common_divisor")
  (k2:KF K f2)
  (a3:GA K "one_at" f3)
  (l3:LF K f3 "one_at" "one_at" zFX .none oc3 od3 kV3 dc3 pm3 an3 cd3 ct3 sl3)
  (c3:CF K cd3 "one_at")
  (k3:KF K f3)
  (a4:GA K "mixed" f4)
  (l4:LF K f4 "mixed" "mixed" zBD .none oc4 od4 kV4 dc4 pm4 an4 cd4 ct4 sl4)
  (c4:CF K cd4 "mixed")
  (k4:KF K f4)
  (a5:GA K "marks_of" f5)
  (l5:LF K f5 "marks_of" "marks_of" zCT .none oc5 od5 kV5 dc5 pm5 an5 cd5 ct5 sl5)
  (c5:CF K cd5 "marks_of")
  (k5:KF K f5)
  (a6:GA K "reach_of" f6)
  (l6:LF K f6 "reach_of" "reach_of" zBt .none oc6 od6 kV6 dc6 pm6 an6 cd6 ct6 sl6)
  (c6:CF K cd6 "reach_of")
  (k6:KF K f6)
  (a7:GA K "divisor_of" f7)
  (l7:LF K f7 "divisor_of" "divisor_of" zEJ .none oc7 od7 kV7 dc7 pm7 an7 cd7 ct7 sl7)
  (c7:CF K cd7 "divisor_of")
  (k7:KF K f7)
  (a8:GA K "rows_of" f8)
  (l8:LF K f8 "rows_of" "rows_of" zDh .none oc8 od8 kV8 dc8 pm8 an8 cd8 ct8 sl8)
  (c8:CF K cd8 "rows_of")
  (k8:KF K f8)
  (a9:GA K "lessened" f9)
  (l9:LF K f9 "lessened" "lessened" zBP .none oc9 od9 kV9 dc9 pm9 an9 cd9 ct9 sl9)
  (c9:CF K cd9 "lessened")
  (k9:KF K f9)
  (a10:GA K "parted" f10)
  (l10:LF K f10 "parted" "parted" zDa .none oc10 od10 kV10 dc10 pm10 an10 cd10 ct10 sl10)
  (c10:CF K cd10 "parted")
  (k10:KF K f10)
  (a11:GA K "left_over" f11)
  (l11:LF K f11 "left_over" "left_over" zBx .none oc11 od11 kV11 dc11 pm11 an11 cd11 ct11 sl11)
  (c11:CF K cd11 "left_over")
  (k11:KF K f11)
  (a12:GA K "all_left_over" f12)
  (l12:LF K f12 "all_left_over" "all_left_over" zDH .none oc12 od12 kV12 dc12 pm12 an12 cd12 ct12 sl12)
  (c12:CF K cd12 "all_left_over")
  (k12:KF K f12)
  (a13:GA K "open_solution" f13)
  (l13:LF K f13 "open_solution" "open_solution" zEn .none oc13 od13 kV13 dc13 pm13 an13 cd13 ct13 sl13)
  (c13:CF K cd13 "open_solution")
  (k13:KF K f13)
  (a14:GA K "clash_of" f14)
  (l14:LF K f14 "clash_of" "clash_of" zCa .none oc14 od14 kV14 dc14 pm14 an14 cd14 ct14 sl14)
  (c14:CF K cd14 "clash_of")
  (k14:KF K f14)
  (a15:GA K "nearest" f15)
  (l15:LF K f15 "nearest" "nearest" zEq .none oc15 od15 kV15 dc15 pm15 an15 cd15 ct15 sl15)
  (c15:CF K cd15 "nearest")
  (k15:KF K f15)
  (a16:GA K "shortened" f16)
  (l16:LF K f16 "shortened" "shortened" zCM .none oc16 od16 kV16 dc16 pm16 an16 cd16 ct16 sl16)
  (c16:CF K cd16 "shortened")
  (k16:KF K f16)
  (a17:GA K "solution_of" f17)
  (l17:LF K f17 "solution_of" "solution_of" zFW .none oc17 od17 kV17 dc17 pm17 an17 cd17 ct17 sl17)
  (c17:CF K cd17 "solution_of")
  (k17:KF K f17)
  (a18:GA K "is_equation" f18)
  (l18:LF K f18 "is_equation" "is_equation" zHI .none oc18 od18 kV18 dc18 pm18 an18 cd18 ct18 sl18)
  (c18:CF K cd18 "is_equation")
  (k18:KF K f18)
  (a19:GA K "need_equations" f19)
  (l19:LF K f19 "need_equations" "need_equations" zDL .none oc19 od19 kV19 dc19 pm19 an19 cd19 ct19 sl19)
  (c19:CF K cd19 "need_equations")
  (k19:KF K f19)
  (a20:GA K "solved" f20)
  (l20:LF K f20 "solved" "solved" zBb .none oc20 od20 kV20 dc20 pm20 an20 cd20 ct20 sl20)
  (c20:CF K cd20 "solved")
  (k20:KF K f20)
  (a21:GA K "put_in_row" f21)
  (l21:LF K f21 "put_in_row" "put_in_row" zEd .none oc21 od21 kV21 dc21 pm21 an21 cd21 ct21 sl21)
  (c21:CF K cd21 "put_in_row")
  (k21:KF K f21)
  (a22:GA K "put_in" f22)
  (l22:LF K f22 "put_in" "put_in" zGp .none oc22 od22 kV22 dc22 pm22 an22 cd22 ct22 sl22)
  (c22:CF K cd22 "put_in")
  (k22:KF K f22)
  (a23:GA K "met_by" f23)
  (l23:LF K f23 "met_by" "met_by" zGM .none oc23 od23 kV23 dc23 pm23 an23 cd23 ct23 sl23)
  (c23:CF K cd23 "met_by")
  (k23:KF K f23)
  (a24:GA K "_law_mixed" f24)
  (l24:LF K f24 "_law_mixed" "_law_mixed" zGk .none oc24 od24 kV24 dc24 pm24 an24 cd24 ct24 sl24)
  (c24:CF K cd24 "_law_mixed")
  (k24:KF K f24)
  (a25:GA K "_law_number" f25)
  (l25:LF K f25 "_law_number" "_law_number" zEM .none oc25 od25 kV25 dc25 pm25 an25 cd25 ct25 sl25)
  (c25:CF K cd25 "_law_number")
  (k25:KF K f25)
  (a26:GA K "_law_whole" f26)
  (l26:LF K f26 "_law_whole" "_law_whole" zCv .none oc26 od26 kV26 dc26 pm26 an26 cd26 ct26 sl26)
  (c26:CF K cd26 "_law_whole")
  (k26:KF K f26)
  (a27:GA K "_law_wholes" f27)
  (l27:LF K f27 "_law_wholes" "_law_wholes" zCY .none oc27 od27 kV27 dc27 pm27 an27 cd27 ct27 sl27)
  (c27:CF K cd27 "_law_wholes")
  (k27:KF K f27)
  (a28:GA K "_law_drawn" f28)
  (l28:LF K f28 "_law_drawn" "_law_drawn" zCO .none oc28 od28 kV28 dc28 pm28 an28 cd28 ct28 sl28)
  (c28:CF K cd28 "_law_drawn")
  (k28:KF K f28)
  (a29:GA K "_law_sum" f29)
  (l29:LF K f29 "_law_sum" "_law_sum" zFT .none oc29 od29 kV29 dc29 pm29 an29 cd29 ct29 sl29)
  (c29:CF K cd29 "_law_sum")
  (k29:KF K f29)
  (a30:GA K "_law_fulfilled" f30)
  (l30:LF K f30 "_law_fulfilled" "_law_fulfilled" zGf .none oc30 od30 kV30 dc30 pm30 an30 cd30 ct30 sl30)
  (c30:CF K cd30 "_law_fulfilled")
  (k30:KF K f30)
  (a31:GA K "_law_otherwise" f31)
  (l31:LF K f31 "_law_otherwise" "_law_otherwise" zDD .none oc31 od31 kV31 dc31 pm31 an31 cd31 ct31 sl31)
  (c31:CF K cd31 "_law_otherwise")
  (k31:KF K f31)
  (a32:GA K "_law_form" f32)
  (l32:LF K f32 "_law_form" "_law_form" zEt .none oc32 od32 kV32 dc32 pm32 an32 cd32 ct32 sl32)
  (c32:CF K cd32 "_law_form")
  (k32:KF K f32)
  (a33:GA K "first_place" f33)
  (l33:LF K f33 "first_place" "first_place" zDC .none oc33 od33 kV33 dc33 pm33 an33 cd33 ct33 sl33)
  (c33:CF K cd33 "first_place")
  (k33:KF K f33)
  (a34:GA K "all_lessened" f34)
  (l34:LF K f34 "all_lessened" "all_lessened" zEg .none oc34 od34 kV34 dc34 pm34 an34 cd34 ct34 sl34)
  (c34:CF K cd34 "all_lessened")
  (k34:KF K f34)
  (a35:GA K "with_one_more" f35)
  (l35:LF K f35 "with_one_more" "with_one_more" zCV .none oc35 od35 kV35 dc35 pm35 an35 cd35 ct35 sl35)
  (c35:CF K cd35 "with_one_more")
  (k35:KF K f35)
  (a36:GA K "normal" f36)
  (l36:LF K f36 "normal" "normal" zCS .none oc36 od36 kV36 dc36 pm36 an36 cd36 ct36 sl36)
  (c36:CF K cd36 "normal")
  (k36:KF K f36)
  (a37:GA K "law" f37)
  (l37:LF K f37 "law" "law" zEH .none oc37 od37 kV37 dc37 pm37 an37 cd37 ct37 sl37)
  (c37:CF K cd37 "law")
  (k37:KF K f37)
  (mCS:GA K "Step" CS)
  (pgCS:PySem.W.plainGet K CS Str.empty=true)
  (hdCS:PySem.W.hasDictIn K CS=true)
  (poCS:PySem.W.plainOver K CS=true)
  (saCS:PySem.W.findIn K (.ref CS) "__setattr__" =some (some (.builtin "object.__setattr__")))
  (mkCS:PySem.W.makesIn K CS=true)
  (kcCS:PySem.W.keepIn K (.ref CS)=true)
  (nCS_place:PySem.W.findIn K (.ref CS) "place" =some none)
  (nCS_vector:PySem.W.findIn K (.ref CS) "vector" =some none)
  (mCP:GA K "Spent" CP)
  (pgCP:PySem.W.plainGet K CP Str.empty=true)
  (hdCP:PySem.W.hasDictIn K CP=true)
  (poCP:PySem.W.plainOver K CP=true)
  (saCP:PySem.W.findIn K (.ref CP) "__setattr__" =some (some (.builtin "object.__setattr__")))
  (mkCP:PySem.W.makesIn K CP=true)
  (kcCP:PySem.W.keepIn K (.ref CP)=true)
  (nCP_number:PySem.W.findIn K (.ref CP) "number" =some none)
  (nCP_vector:PySem.W.findIn K (.ref CP) "vector" =some none)
  (nCP_reach:PySem.W.findIn K (.ref CP) "reach" =some none)
  (mCL:GA K "Solution" CL)
  (pgCL:PySem.W.plainGet K CL Str.empty=true)
  (hdCL:PySem.W.hasDictIn K CL=true)
  (poCL:PySem.W.plainOver K CL=true)
  (saCL:PySem.W.findIn K (.ref CL) "__setattr__" =some (some (.builtin "object.__setattr__")))
  (mkCL:PySem.W.makesIn K CL=true)
  (kcCL:PySem.W.keepIn K (.ref CL)=true)
  (nCL_unknowns:PySem.W.findIn K (.ref CL) "unknowns" =some none)
  (nCL_steps:PySem.W.findIn K (.ref CL) "steps" =some none)
  (nCL_fixed:PySem.W.findIn K (.ref CL) "fixed" =some none)
  (nCL_spent:PySem.W.findIn K (.ref CL) "spent" =some none)
  (atS:PySem.W.findIn K (.ref CS) "__init__" =some (some (.ref ftS)))
  (itS:PySem.W.isFn K (.ref ftS)=true)
  (ltS:LF K ftS "__init__" "Step.__init__" (zw (top 9) 0) .none octS odtS kVtS dctS pmtS antS cdtS cttS sltS)
  (ctS:CF K cdtS "Step.__init__")
  (ktS:KF K ftS)
  (atP:PySem.W.findIn K (.ref CP) "__init__" =some (some (.ref ftP)))
  (itP:PySem.W.isFn K (.ref ftP)=true)
  (ltP:LF K ftP "__init__" "Spent.__init__" (zw (top 24) 0) .none octP odtP kVtP dctP pmtP antP cdtP cttP sltP)
  (ctP:CF K cdtP "Spent.__init__")
  (ktP:KF K ftP)
  (atI:PySem.W.findIn K (.ref CL) "__init__" =some (some (.ref ftI)))
  (itI:PySem.W.isFn K (.ref ftI)=true)
  (ltI:LF K ftI "__init__" "Solution.__init__" (zw (top 25) 0) .none octI odtI kVtI dctI pmtI antI cdtI cttI sltI)
  (ctI:CF K cdtI "Solution.__init__")
  (ktI:KF K ftI)
  (atT:PySem.W.findIn K (.ref CL) "take_in" =some (some (.ref ftT)))
  (itT:PySem.W.isFn K (.ref ftT)=true)
  (ltT:LF K ftT "take_in" "Solution.take_in" (zw (top 25) 1) .none octT odtT kVtT dctT pmtT antT cdtT cttT sltT)
  (ctT:CF K cdtT "Solution.take_in")
  (ktT:KF K ftT)
  (atW:PySem.W.findIn K (.ref CL) "rows_told" =some (some (.ref ftW)))
  (itW:PySem.W.isFn K (.ref ftW)=true)
  (ltW:LF K ftW "rows_told" "Solution.rows_told" (zw (top 25) 2) .none octW odtW kVtW dctW pmtW antW cdtW cttW sltW)
  (ctW:CF K cdtW "Solution.rows_told")
  (ktW:KF K ftW)
  (mU:PySem.W.nsIn K mainGlobals "MOST_UNKNOWNS" =some (some (.int 240 tU)))
  (mN:PySem.W.nsIn K mainGlobals "MOST_NAMES" =some (some (.int 6 tN)))
  (mE:PySem.W.nsIn K mainGlobals "MOST_EQUATIONS" =some (some (.int 240 tE)))
  (zisi:PySem.W.nsIn K mainGlobals "isinstance" =some none)
  (zint:PySem.W.nsIn K mainGlobals "int" =some none)
  (zbool:PySem.W.nsIn K mainGlobals "bool" =some none)
  (ztuple:PySem.W.nsIn K mainGlobals "tuple" =some none)
  (zlen:PySem.W.nsIn K mainGlobals "len" =some none)
  (zrange:PySem.W.nsIn K mainGlobals "range" =some none)
  (zstr:PySem.W.nsIn K mainGlobals "str" =some none)
  (zabs:PySem.W.nsIn K mainGlobals "abs" =some none)
  (zlist:PySem.W.nsIn K mainGlobals "list" =some none)
  (zall:PySem.W.nsIn K mainGlobals "all" =some none)
  (zany:PySem.W.nsIn K mainGlobals "any" =some none)
  (zsum:PySem.W.nsIn K mainGlobals "sum" =some none)
  (zzip:PySem.W.nsIn K mainGlobals "zip" =some none)
  (zreversed:PySem.W.nsIn K mainGlobals "reversed" =some none)
  (zenumerate:PySem.W.nsIn K mainGlobals "enumerate" =some none)
  (zmax:PySem.W.nsIn K mainGlobals "max" =some none):
  ∃fd:FuncData,(∀(s:Shared) (v:Value),BindsTo s fd ⟨[v],[]⟩ [("_law_script",v)])/\ ∀base:Heap,K.In base->base.Ns mainGlobals mg->FnOk l.prog w K mg base CX0 40 fa fd ["_law_script"] (zGA K):=by
 have e:=hfa.symm.trans (zPY X G a37);cases e;have B:Bn mg:=⟨zPy X G zisi,zPy X G zint,zPy X G zbool,zPy X G ztuple,zPy X G zlen,zPy X G zrange,zPy X G zstr,zPy X G zabs,zPy X G zlist,zPy X G zall,zPy X G zany,zPy X G zsum,zPy X G zzip,zPy X G zreversed,zPy X G zenumerate,zPy X G zmax⟩;have V:Gm mg:=⟨⟨_,zPY X G mU⟩,⟨_,zPY X G mN⟩,⟨_,zPY X G mE⟩⟩;have TCS:SC K CS:=⟨⟨pgCS,hdCS,poCS,saCS⟩,nCS_place,nCS_vector⟩;have MKCS:Mk K CS ftS:=⟨mkCS,atS,itS,kcCS⟩;have TCP:PC K CP:=⟨⟨pgCP,hdCP,poCP,saCP⟩,nCP_number,nCP_vector,nCP_reach⟩;have MKCP:Mk K CP ftP:=⟨mkCP,atP,itP,kcCP⟩;have TCL:LC K CL:=⟨⟨pgCL,hdCL,poCL,saCL⟩,nCL_unknowns,nCL_steps,nCL_fixed,nCL_spent⟩;have MKCL:Mk K CL ftI:=⟨mkCL,atI,itI,kcCL⟩;have FtS:=zY (st:=zw (top 9) 0) ltS ctS ktS;have BtS:=FtS.binds (ps:= ["self","place","vector"]) fun _ _ _ _ _ _ us hl=>by
  obtain ⟨v0,v1,v2,rfl⟩:=zDM hl;rfl
 have FtP:=zY (st:=zw (top 24) 0) ltP ctP ktP;have BtP:=FtP.binds (ps:= ["self","number","vector","reach"]) fun _ _ _ _ _ _ us hl=>by
  obtain ⟨v0,v1,v2,v3,rfl⟩:=zCI hl;rfl
 have FtI:=zY (st:=zw (top 25) 0) ltI ctI ktI;have BtI:=FtI.binds (ps:= ["self","unknowns","steps","fixed"]) fun _ _ _ _ _ _ us hl=>by
  obtain ⟨v0,v1,v2,v3,rfl⟩:=zCI hl;rfl
 have FtT:=zY (st:=zw (top 25) 1) ltT ctT ktT;have BtT:=FtT.binds (ps:= ["self","number","equation"]) fun _ _ _ _ _ _ us hl=>by
  obtain ⟨v0,v1,v2,rfl⟩:=zDM hl;rfl
 have QtT:Meth K CL "take_in" ftT:=⟨atT,itT,ktT⟩;have FtW:=zY (st:=zw (top 25) 2) ltW ctW ktW;have BtW:=FtW.binds (ps:= ["self"]) fun _ _ _ _ _ _ us hl=>by
  obtain ⟨v0,rfl⟩:=zEE hl;rfl
 have QtW:Meth K CL "rows_told" ftW:=⟨atW,itW,ktW⟩;have F0:=zY (st:=zCN) l0 c0 k0;have B0:=F0.binds (ps:= ["thing"]) fun _ _ _ _ _ _ us hl=>by
  obtain ⟨v0,rfl⟩:=zEE hl;rfl
 have M0:=zPY X G a0;have F1:=zLm (st:=zCE) l1 c1 k1;have B1:L2.zL K _ ["thing","least","most"] [] :=fun s us KX hl=>by
  rw [zPw] at hl⊢;obtain ⟨v0,v1,v2,rfl⟩:=zDM hl;exact PySem.W.binds_K (fd:=PySem.W.fnOf "need_whole" "need_whole" (zAT zCE) (yw zCE) (zF zCE) (.ref T1) kV1 dc1 pm1 an1 cd1 ct1) KX rfl d1 rfl rfl rfl
 have M1:=zPY X G a1;have F2:=zY (st:=zEz) l2 c2 k2;have B2:=F2.binds (ps:= ["above","below"]) fun _ _ _ _ _ _ us hl=>by
  obtain ⟨v0,v1,rfl⟩:=zAD hl;rfl
 have M2:=zPY X G a2;have F3:=zY (st:=zFX) l3 c3 k3;have B3:=F3.binds (ps:= ["place","length"]) fun _ _ _ _ _ _ us hl=>by
  obtain ⟨v0,v1,rfl⟩:=zAD hl;rfl
 have M3:=zPY X G a3;have F4:=zY (st:=zBD) l4 c4 k4;have B4:=F4.binds (ps:= ["factor","one","other_factor","other"]) fun _ _ _ _ _ _ us hl=>by
  obtain ⟨v0,v1,v2,v3,rfl⟩:=zCI hl;rfl
 have M4:=zPY X G a4;have F5:=zY (st:=zCT) l5 c5 k5;have B5:=F5.binds (ps:= ["vector"]) fun _ _ _ _ _ _ us hl=>by
  obtain ⟨v0,rfl⟩:=zEE hl;rfl
 have M5:=zPY X G a5;have F6:=zY (st:=zBt) l6 c6 k6;have B6:=F6.binds (ps:= ["vector","marks"]) fun _ _ _ _ _ _ us hl=>by
  obtain ⟨v0,v1,rfl⟩:=zAD hl;rfl
 have M6:=zPY X G a6;have F7:=zY (st:=zEJ) l7 c7 k7;have B7:=F7.binds (ps:= ["one","other"]) fun _ _ _ _ _ _ us hl=>by
  obtain ⟨v0,v1,rfl⟩:=zAD hl;rfl
 have M7:=zPY X G a7;have F8:=zY (st:=zDh) l8 c8 k8;have B8:=F8.binds (ps:= ["vectors","count"]) fun _ _ _ _ _ _ us hl=>by
  obtain ⟨v0,v1,rfl⟩:=zAD hl;rfl
 have M8:=zPY X G a8;have F9:=zY (st:=zBP) l9 c9 k9;have B9:=F9.binds (ps:= ["vector","steps"]) fun _ _ _ _ _ _ us hl=>by
  obtain ⟨v0,v1,rfl⟩:=zAD hl;rfl
 have M9:=zPY X G a9;have F10:=zY (st:=zDa) l10 c10 k10;have B10:=F10.binds (ps:= ["steps","marks"]) fun _ _ _ _ _ _ us hl=>by
  obtain ⟨v0,v1,rfl⟩:=zAD hl;rfl
 have M10:=zPY X G a10;have F11:=zY (st:=zBx) l11 c11 k11;have B11:=F11.binds (ps:= ["number","modulus"]) fun _ _ _ _ _ _ us hl=>by
  obtain ⟨v0,v1,rfl⟩:=zAD hl;rfl
 have M11:=zPY X G a11;have F12:=zY (st:=zDH) l12 c12 k12;have B12:=F12.binds (ps:= ["vector","modulus"]) fun _ _ _ _ _ _ us hl=>by
  obtain ⟨v0,v1,rfl⟩:=zAD hl;rfl
 have M12:=zPY X G a12;have F13:=zY (st:=zEn) l13 c13 k13;have B13:=F13.binds (ps:= ["unknowns","names"]) fun _ _ _ _ _ _ us hl=>by
  obtain ⟨v0,v1,rfl⟩:=zAD hl;rfl
 have M13:=zPY X G a13;have F14:=zY (st:=zCa) l14 c14 k14;have B14:=F14.binds (ps:= ["solution","equations","number","reach"]) fun _ _ _ _ _ _ us hl=>by
  obtain ⟨v0,v1,v2,v3,rfl⟩:=zCI hl;rfl
 have M14:=zPY X G a14;have F15:=zY (st:=zEq) l15 c15 k15;have B15:=F15.binds (ps:= ["number","modulus"]) fun _ _ _ _ _ _ us hl=>by
  obtain ⟨v0,v1,rfl⟩:=zAD hl;rfl
 have M15:=zPY X G a15;have F16:=zY (st:=zCM) l16 c16 k16;have B16:=F16.binds (ps:= ["factors","modulus"]) fun _ _ _ _ _ _ us hl=>by
  obtain ⟨v0,v1,rfl⟩:=zAD hl;rfl
 have M16:=zPY X G a16;have F17:=zY (st:=zFW) l17 c17 k17;have B17:=F17.binds (ps:= ["unknowns","names","equations"]) fun _ _ _ _ _ _ us hl=>by
  obtain ⟨v0,v1,v2,rfl⟩:=zDM hl;rfl
 have M17:=zPY X G a17;have F18:=zY (st:=zHI) l18 c18 k18;have B18:=F18.binds (ps:= ["thing","length"]) fun _ _ _ _ _ _ us hl=>by
  obtain ⟨v0,v1,rfl⟩:=zAD hl;rfl
 have M18:=zPY X G a18;have F19:=zY (st:=zDL) l19 c19 k19;have B19:=F19.binds (ps:= ["unknowns","names","equations"]) fun _ _ _ _ _ _ us hl=>by
  obtain ⟨v0,v1,v2,rfl⟩:=zDM hl;rfl
 have M19:=zPY X G a19;have F20:=zY (st:=zBb) l20 c20 k20;have B20:=F20.binds (ps:= ["unknowns","names","equations"]) fun _ _ _ _ _ _ us hl=>by
  obtain ⟨v0,v1,v2,rfl⟩:=zDM hl;rfl
 have M20:=zPY X G a20;have F21:=zY (st:=zEd) l21 c21 k21;have B21:=F21.binds (ps:= ["row","free","names","found"]) fun _ _ _ _ _ _ us hl=>by
  obtain ⟨v0,v1,v2,v3,rfl⟩:=zCI hl;rfl
 have M21:=zPY X G a21;have F22:=zY (st:=zGp) l22 c22 k22;have B22:=F22.binds (ps:= ["rows","free","names","found"]) fun _ _ _ _ _ _ us hl=>by
  obtain ⟨v0,v1,v2,v3,rfl⟩:=zCI hl;rfl
 have M22:=zPY X G a22;have F23:=zY (st:=zGM) l23 c23 k23;have B23:=F23.binds (ps:= ["rows","free","names","wanted"]) fun _ _ _ _ _ _ us hl=>by
  obtain ⟨v0,v1,v2,v3,rfl⟩:=zCI hl;rfl
 have M23:=zPY X G a23;have F24:=zY (st:=zGk) l24 c24 k24;have B24:=F24.binds (ps:= ["_law_number_here","_law_k"]) fun _ _ _ _ _ _ us hl=>by
  obtain ⟨v0,v1,rfl⟩:=zAD hl;rfl
 have M24:=zPY X G a24;have F25:=zY (st:=zEM) l25 c25 k25;have B25:=F25.binds (ps:= ["_law_script","_law_k"]) fun _ _ _ _ _ _ us hl=>by
  obtain ⟨v0,v1,rfl⟩:=zAD hl;rfl
 have M25:=zPY X G a25;have F26:=zY (st:=zCv) l26 c26 k26;have B26:=F26.binds (ps:= ["_law_found"]) fun _ _ _ _ _ _ us hl=>by
  obtain ⟨v0,rfl⟩:=zEE hl;rfl
 have M26:=zPY X G a26;have F27:=zY (st:=zCY) l27 c27 k27;have B27:=F27.binds (ps:= ["_law_found","_law_size"]) fun _ _ _ _ _ _ us hl=>by
  obtain ⟨v0,v1,rfl⟩:=zAD hl;rfl
 have M27:=zPY X G a27;have F28:=zY (st:=zCO) l28 c28 k28;have B28:=F28.binds (ps:= ["_law_script","_law_spot","_law_size","_law_most"]) fun _ _ _ _ _ _ us hl=>by
  obtain ⟨v0,v1,v2,v3,rfl⟩:=zCI hl;rfl
 have M28:=zPY X G a28;have F29:=zY (st:=zFT) l29 c29 k29;have B29:=F29.binds (ps:= ["_law_row","_law_values"]) fun _ _ _ _ _ _ us hl=>by
  obtain ⟨v0,v1,rfl⟩:=zAD hl;rfl
 have M29:=zPY X G a29;have F30:=zY (st:=zGf) l30 c30 k30;have B30:=F30.binds (ps:= ["_law_script","_law_spot","_law_wanted","_law_names","_law_many"]) fun _ _ _ _ _ _ us hl=>by
  obtain ⟨v0,v1,v2,v3,v4,rfl⟩:=zPL hl;rfl
 have M30:=zPY X G a30;have F31:=zY (st:=zDD) l31 c31 k31;have B31:=F31.binds (ps:= ["_law_script","_law_equations"]) fun _ _ _ _ _ _ us hl=>by
  obtain ⟨v0,v1,rfl⟩:=zAD hl;rfl
 have M31:=zPY X G a31;have F32:=zY (st:=zEt) l32 c32 k32;have B32:=F32.binds (ps:= ["_law_unknowns","_law_names","_law_equations","_law_some"]) fun _ _ _ _ _ _ us hl=>by
  obtain ⟨v0,v1,v2,v3,rfl⟩:=zCI hl;rfl
 have M32:=zPY X G a32;have F33:=zY (st:=zDC) l33 c33 k33;have B33:=F33.binds (ps:= ["vector"]) fun _ _ _ _ _ _ us hl=>by
  obtain ⟨v0,rfl⟩:=zEE hl;rfl
 have M33:=zPY X G a33;have F34:=zY (st:=zEg) l34 c34 k34;have B34:=F34.binds (ps:= ["steps"]) fun _ _ _ _ _ _ us hl=>by
  obtain ⟨v0,rfl⟩:=zEE hl;rfl
 have M34:=zPY X G a34;have F35:=zY (st:=zCV) l35 c35 k35;have B35:=F35.binds (ps:= ["steps","vector"]) fun _ _ _ _ _ _ us hl=>by
  obtain ⟨v0,v1,rfl⟩:=zAD hl;rfl
 have M35:=zPY X G a35;have F36:=zY (st:=zCS) l36 c36 k36;have B36:=F36.binds (ps:= ["free","names","rows"]) fun _ _ _ _ _ _ us hl=>by
  obtain ⟨v0,v1,v2,rfl⟩:=zDM hl;rfl
 have M36:=zPY X G a36;have F37:=zY (st:=zEH) l37 c37 k37;refine ⟨PySem.W.fnOf "law" "law" (zAT zEH) (yw zEH) (zF zEH) .none kV37 dc37 pm37 an37 cd37 ct37,fun s v=> .of_eq rfl,fun base _ _=>?_⟩;have gWh:FnOk l.prog w K mg base CX0 1 f0 _ ["thing"] zDe:=zJz F0 B;have gDiv:FnOk l.prog w K mg base CX0 1 f2 _ ["above","below"] zFy:=zNG F2;have gOne:FnOk l.prog w K mg base CX0 1 f3 _ ["place","length"] zFo:=zMy F3 B;have gMx:FnOk l.prog w K mg base CX0 1 f4 _ ["factor","one","other_factor","other"] zBJ:=zEN F4 B;have gMk:FnOk l.prog w K mg base CX0 1 f5 _ ["vector"] zDZ:=zKe F5 B;have gRe:FnOk l.prog w K mg base CX0 1 f6 _ ["vector","marks"] zCQ:=zHC F6 B;have gLe:FnOk l.prog w K mg base CX0 34 f9 _ ["vector","steps"] (zBp CS):=zHv F9 B ht TCS F4 B4 M4;have gRo:FnOk l.prog w K mg base CX0 1 f8 _ ["vectors","count"] zEZ:=zMk F8 B;have gSI:FnOk l.prog w K mg base CX0 1 ftS _ ["self","place","vector"] (zBM CS):=zGP FtS TCS;have gPa:FnOk l.prog w K mg base CX0 35 f10 _ ["steps","marks"] (zGz CS):=zMA F10 B ht TCS F6 B6 M6 F4 B4 M4 F7 B7 M7 F9 B9 M9 FtS BtS MKCS (zPY X G mCS);have gLf:FnOk l.prog w K mg base CX0 1 f11 _ ["number","modulus"] zCP:=zIB F11;have gLs:FnOk l.prog w K mg base CX0 2 f12 _ ["vector","modulus"] zFQ:=zKO F12 F11 B11 M11;have gPI:FnOk l.prog w K mg base CX0 1 ftP _ ["self","number","vector","reach"] (zDt CP):=zJJ FtP TCP;have gLI:FnOk l.prog w K mg base CX0 1 ftI _ ["self","unknowns","steps","fixed"] (zGH CL):=zMY FtI TCL;have gTk:FnOk l.prog w K mg base CX0 36 ftT _ ["self","number","equation"] (zGd CS CP CL):=zLu FtT B ht TCL TCP F5 B5 M5 gMk F10 B10 M10 gPa F6 B6 M6 gRe F11 B11 M11 gLf F9 B9 M9 gLe F4 B4 M4 gMx FtP BtP MKCP (zPY X G mCP) gPI;have gTo:FnOk l.prog w K mg base CX0 2 ftW _ ["self"] (zGn CS CP CL):=zMT FtW B TCL TCS F8 B8 M8 gRo;have gOp:FnOk l.prog w K mg base CX0 3 f13 _ ["unknowns","names"] (zGF CS CP CL):=zMC F13 B TCL TCS F3 B3 M3 gOne BtS MKCS (zPY X G mCS) gSI BtI MKCL (zPY X G mCL) gLI;have gNe:FnOk l.prog w K mg base CX0 2 f15 _ ["number","modulus"] zGm:=zME F15 F11 B11 M11 gLf;have gSh:FnOk l.prog w K mg base CX0 34 f16 _ ["factors","modulus"] zFH:=zKH F16 B ht F2 B2 M2 gDiv F15 B15 M15 gNe;have gCl:FnOk l.prog w K mg base CX0 34 f14 _ ["solution","equations","number","reach"] (zFB CS CP CL):=zJw F14 B ht TCL TCP F3 B3 M3 gOne F11 B11 M11 gLf F6 B6 M6 gRe F5 B5 M5 gMk F2 B2 M2 gDiv F12 B12 M12 gLs F4 B4 M4 gMx;have gSo:FnOk l.prog w K mg base CX0 37 f17 _ ["unknowns","names","equations"] zFx:=zMv F17 B TCL F13 B13 M13 gOp F14 B14 M14 gCl F16 B16 M16 gSh QtT BtT gTk QtW BtW gTo;have gNw:FnOk l.prog w K mg base CX0 2 f1 _ ["thing","least","most"] zGT:=zMj F1 F0 B0 M0 gWh;have gIE:FnOk l.prog w K mg base CX0 2 f18 _ ["thing","length"] zIZ:=zOL F18 B F0 B0 M0 gWh;have gNE:FnOk l.prog w K mg base CX0 3 f19 _ ["unknowns","names","equations"] zFA:=zKY F19 B V F1 B1 M1 gNw F18 B18 M18 gIE;have gSd:FnOk l.prog w K mg base CX0 38 f20 _ ["unknowns","names","equations"] zCi:=zIr F20 F19 B19 M19 gNE F17 B17 M17 gSo;have gPR:FnOk l.prog w K mg base CX0 1 f21 _ ["row","free","names","found"] zHJ:=zMW F21 B;have gPt:FnOk l.prog w K mg base CX0 2 f22 _ ["rows","free","names","found"] zIE:=zNI F22 F21 B21 M21 gPR;have gMe:FnOk l.prog w K mg base CX0 38 f23 _ ["rows","free","names","wanted"] zIQ:=zNN F23 B F17 B17 M17 gSo;have gNu:FnOk l.prog w K mg base CX0 2 f25 _ ["_law_script","_law_k"] (zEf K):=zOY F25 B F24 B24 M24;have gLW:FnOk l.prog w K mg base CX0 1 f26 _ ["_law_found"] zKw:=zOz F26 B;have gWs:FnOk l.prog w K mg base CX0 2 f27 _ ["_law_found","_law_size"] zFu:=zMz F27 B F26 B26 M26 gLW;have gSu:FnOk l.prog w K mg base CX0 1 f29 _ ["_law_row","_law_values"] zID:=zOp F29 B;have gDr:FnOk l.prog w K mg base CX0 3 f28 _ ["_law_script","_law_spot","_law_size","_law_most"] (zGr K):=zOh F28 B F25 B25 M25 gNu;have gFu:FnOk l.prog w K mg base CX0 4 f30 _ ["_law_script","_law_spot","_law_wanted","_law_names","_law_many"] (zJy K):=zOu F30 B F28 B28 M28 gDr F29 B29 M29 gSu;have gDv:FnOk l.prog w K mg base CX0 34 f7 _ ["one","other"] zGC:=zJZ F7 ht;have gFi:FnOk l.prog w K mg base CX0 1 f33 _ ["vector"] zFY:=zJs F33 B;have gAL:FnOk l.prog w K mg base CX0 35 f34 _ ["steps"] (zGR CS):=zLf F34 B TCS F9 B9 M9 gLe BtS MKCS (zPY X G mCS) gSI;have gW1:FnOk l.prog w K mg base CX0 36 f35 _ ["steps","vector"] (zEw CS):=zKb F35 B ht TCS F9 B9 M9 gLe F33 B33 M33 gFi F4 B4 M4 gMx F7 B7 M7 gDv F34 B34 M34 gAL BtS MKCS (zPY X G mCS) gSI;have gNo:FnOk l.prog w K mg base CX0 37 f36 _ ["free","names","rows"] (zDr CS):=zJh F36 B TCS F35 B35 M35 gW1 F9 B9 M9 gLe F8 B8 M8 gRo;have gOt:FnOk l.prog w K mg base CX0 3 f31 _ ["_law_script","_law_equations"] (zKz K):=zOo F31 B F25 B25 M25 gNu;have gFo:FnOk l.prog w K mg base CX0 39 f32 _ ["_law_unknowns","_law_names","_law_equations","_law_some"] zKD:=zOc F32 B F20 B20 M20 gSd F36 B36 M36 gNo;exact zOA F37 B F25 B25 M25 gNu F28 B28 M28 gDr F30 B30 M30 gFu F20 B20 M20 gSd F22 B22 M22 gPt F27 B27 M27 gWs F29 B29 M29 gSu F23 B23 M23 gMe F32 B32 M32 gFo F31 B31 M31 gOt
theorem zPN{l:PySem.W.OpenLaw}{q:Program}{loose:List Str}{XP:(Str->Option Value)->Heap->Prop}{YP:World->Heap->Prop}{d:DefRec}{K:Params->zQK}(hn:l.most=some 63)(hdf:d.params.defaults= [])(hI:importsNone q=true)
  (hY: ∀(w:World) (h:Heap),YP w h->(K w.params).In h)
  (F: ∀(w:World) (mg:Str->Option Value) (fa:Addr) (h:Heap),(K w.params).In h->h.Ns mainGlobals mg->mg d.name=some (.ref fa)->
   ∃fd:FuncData,(∀(s:Shared) (u:Value),BindsTo s fd ⟨[u],[]⟩ [("_law_script",u)])/\ ∀base:Heap,(K w.params).In base->base.Ns mainGlobals mg->FnOk l.prog w (K w.params) mg base CX0 40 fa fd ["_law_script"] (zGA (K w.params))):
  PySem.W.WalkO q loose XP YP l.row.toRowW d [] (fun f vs=>PySem.call f vs):=
 L2.zLw (n:=63) (k:=40) (x:= "_law_script") (CX:=fun _=>CX0) (sp:=fun w=>zGA (K w.params)) hn (by decide) hdf hI ⟨rfl,by decide,by decide,rfl⟩ hY F (fun _ _ a ns hl _ hS=>⟨a,ns,rfl,hS,hl,fun _=>rfl⟩) fun _ _ _ _ _ z=>z
end Fr
open PySem PySem.W PyProof.Rows
def PySem.W.Fast.tw15601816913797382464:Nat:=0
def PySem.W.Fast.tw9215069824010651080:Nat:=0
def PySem.W.Fast.tw15751561892568201654:Nat:=0
def PySem.W.Fast.tw528902566275776965:Nat:=0
def PySem.W.Fast.tw17408161352029039217:Nat:=0
def PySem.W.Fast.tw2293999606724822751:Nat:=0
def PySem.W.Fast.tw3632932563281980720:Nat:=0
def PySem.W.Fast.tw10314454784418581994:Nat:=0
def PySem.W.Fast.tw4447131536630577640:Nat:=0
def PySem.W.Fast.tw16630839895512004845:Nat:=0
def PySem.W.Fast.tw4282147116359528730:Nat:=0
def PySem.W.Fast.tw2398598127276752473:Nat:=0
def PySem.W.Fast.tw4741348757795235992:Nat:=0
def PySem.W.Fast.tw519339666062922672:Nat:=0
def PySem.W.Fast.tw14859049269818517182:Nat:=0
def PySem.W.Fast.tw2718692464333517805:Nat:=0
def PySem.W.Fast.tw15851012234928307309:Nat:=0
def PySem.W.Fast.tw13420389073663472329:Nat:=0
def PySem.W.Fast.tw6767581600388078100:Nat:=0
def PySem.W.Fast.tw9942173898153093420:Nat:=0
def PySem.W.Fast.tw17398549758663710090:Nat:=0
def PySem.W.Fast.tw8194568005199255241:Nat:=0
def PySem.W.Fast.tw13663317016997311418:Nat:=0
def PySem.W.Fast.tw10034023961662262804:Nat:=0
def PySem.W.Fast.tw4248186864520369562:Nat:=0
def PySem.W.Fast.tw6838882713908804162:Nat:=0
def PySem.W.Fast.tw13135093255313519315:Nat:=0
def PySem.W.Fast.tw10643460526397088887:Nat:=0
def PySem.W.Fast.tw2720352329521292062:Nat:=0
def PySem.W.Fast.tw7972312038540716912:Nat:=0
def PySem.W.Fast.tw13202613345950949700:Nat:=0
def PySem.W.Fast.tw6078155578533096556:Nat:=0
def PySem.W.Fast.tw5998156337635720045:Nat:=0
def PySem.W.Fast.tw9744206519940387363:Nat:=0
def PySem.W.Fast.tw1785627076807132852:Nat:=0
def PySem.W.Fast.tw3866687091190573500:Nat:=0
def PySem.W.Fast.tw13840761524181040045:Nat:=0
def PySem.W.Fast.tw13172093972673135472:Nat:=0
def PySem.W.Fast.tw1853000644294173242:Nat:=0
def PySem.W.Fast.tw18090422277753831519:Nat:=0
def PySem.W.Fast.tw3854652407318005402:Nat:=0
def PySem.W.Fast.tw17085519767451401850:Nat:=0
def PySem.W.Fast.tw13503601766468721855:Nat:=0
def PySem.W.Fast.tw2913607155261062709:Nat:=0
def PySem.W.Fast.tw2620635263927380217:Nat:=0
def PySem.W.Fast.tw8491614724845039116:Nat:=0
def PySem.W.Fast.tw3319269863201807398:Nat:=0
def PySem.W.Fast.tw14295149981882374028:Nat:=0
def PySem.W.Fast.tw16521744088701386378:Nat:=0
def PySem.W.Fast.tw3786974819709078134:Nat:=0
def PySem.W.Fast.tw8379235604698875083:Nat:=0
def PySem.W.Fast.tw9338505695413241143:Nat:=0
def PySem.W.Fast.tw11797606330966958069:Nat:=0
def PySem.W.Fast.tw8360299194327004206:Nat:=0
def PySem.W.Fast.tw15577332111256463874:Nat:=0
def PySem.W.Fast.tw8807394451213894567:Nat:=0
def PySem.W.Fast.tw17878716167657443932:Nat:=0
def PySem.W.Fast.tw1223899308947977972:Nat:=0
def PySem.W.Fast.tw12056554391026866790:Nat:=0
def PySem.W.Fast.tw2396165686610629766:Nat:=0
def PySem.W.Fast.tw11017762482640727068:Nat:=0
def PySem.W.Fast.tw2665966911041533787:Nat:=0
def PySem.W.Fast.tw3024934206267642129:Nat:=0
def PySem.W.Fast.tw7129898351418433619:Nat:=0
def PySem.W.Fast.tw10465158645353569148:Nat:=0
def PySem.W.Fast.tw16150925148218629895:Nat:=0
def PySem.W.Fast.tw8074275354550132707:Nat:=0
def PySem.W.Fast.tw17925419229828314178:Nat:=0
def PySem.W.Fast.tw1162090480933199792:Nat:=0
def PySem.W.Fast.tw11022249968296122867:Nat:=0
def PySem.W.Fast.tw1747671754929814069:Nat:=0
def PySem.W.Fast.tw10029451242848331567:Nat:=0
def PySem.W.Fast.tw13718928539273388606:Nat:=0
def PySem.W.Fast.tw5877504043121283784:Nat:=0
def PySem.W.Fast.tw3673993757485426047:Nat:=0
def PySem.W.Fast.tw4281302008781549495:Nat:=0
def PySem.W.Fast.tw10903857630424480983:Nat:=0
def PySem.W.Fast.tw11237180556689014402:Nat:=0
def PySem.W.Fast.tw13369550222622663689:Nat:=0
def PySem.W.Fast.tw616912081688612722:Nat:=0
def PySem.W.Fast.tw844240509507457615:Nat:=0
def PySem.W.Fast.tw9054716923265281981:Nat:=0
def PySem.W.Fast.tw14096541209324289975:Nat:=0
def PySem.W.Fast.tw646792495916198681:Nat:=0
def PySem.W.Fast.tw11351254808811500073:Nat:=0
def PySem.W.Fast.tw707131479399705204:Nat:=0
def PySem.W.Fast.tw7827542245566602340:Nat:=0
def PySem.W.Fast.tw476760610687468419:Nat:=0
def PySem.W.Fast.tw8687867986085551925:Nat:=0
def PySem.W.Fast.tw9249877482115869795:Nat:=0
def PySem.W.Fast.tw7186083125017441976:Nat:=0
def PySem.W.Fast.tw16017541020731961332:Nat:=0
def PySem.W.Fast.tw10137956457466560293:Nat:=0
def PySem.W.Fast.tw5376843451530784292:Nat:=0
def PySem.W.Fast.tw6060240328431265029:Nat:=0
def PySem.W.Fast.tw15603190379599959509:Nat:=0
def PySem.W.Fast.tw18308269068924821286:Nat:=0
def PySem.W.Fast.tw7246722836057277699:Nat:=0
def PySem.W.Fast.tw17634273191939823737:Nat:=0
def PySem.W.Fast.tw17906900620346169992:Nat:=0
def PySem.W.Fast.tw4273282306141586020:Nat:=0
def PySem.W.Fast.tw8623847452917909871:Nat:=0
def PySem.W.Fast.tw12290325659551688425:Nat:=0
def PySem.W.Fast.tw3920759903231401687:Nat:=0
def PySem.W.Fast.tw8552108688817241260:Nat:=0
def PySem.W.Fast.tw13405033120418334052:Nat:=0
def PySem.W.Fast.tw12148859315935618409:Nat:=0
def PySem.W.Fast.tw2240840194358809963:Nat:=0
def PySem.W.Fast.tw14625153840406056780:Nat:=0
def PySem.W.Fast.tw1370233174460103406:Nat:=0
def PySem.W.Fast.tw11716152908775685704:Nat:=0
def PySem.W.Fast.tw14771703592757188520:Nat:=0
def PySem.W.Fast.tw18408455130160161928:Nat:=0
def PySem.W.Fast.tw6842533229979513220:Nat:=0
def PySem.W.Fast.tw13167973857141862058:Nat:=0
def PySem.W.Fast.tw1695700448036952867:Nat:=0
def PySem.W.Fast.tw4633336607809168191:Nat:=0
def PySem.W.Fast.tw4573351218519199526:Nat:=0
def PySem.W.Fast.tw1021803438833322683:Nat:=0
def PySem.W.Fast.tw9539067749215289277:Nat:=0
def PySem.W.Fast.tw11024288791606109460:Nat:=0
def PySem.W.Fast.tw11548566027447430262:Nat:=0
def PySem.W.Fast.tw18214898583143447609:Nat:=0
def PySem.W.Fast.tw1015277669897492476:Nat:=0
def PySem.W.Fast.tw8272616995959417187:Nat:=0
def PySem.W.Fast.tw3771653286909560185:Nat:=0
def PySem.W.Fast.tw12872490526039757861:Nat:=0
def PySem.W.Fast.tw7156256161110551059:Nat:=0
def PySem.W.Fast.tw10338544338516994601:Nat:=0
def PySem.W.Fast.tw8280516804336255824:Nat:=0
def PySem.W.Fast.tw13492335675448813011:Nat:=0
def PySem.W.Fast.tw5826102555168388339:Nat:=0
def PySem.W.Fast.tw5981890103142867888:Nat:=0
def PySem.W.Fast.tw9249845599865688436:Nat:=0
def PySem.W.Fast.tw14488789666612016368:Nat:=0
def PySem.W.Fast.tw15950969825284321656:Nat:=0
def PySem.W.Fast.tw12511819599415765804:Nat:=0
def PySem.W.Fast.tw11512519960020032289:Nat:=0
def PySem.W.Fast.tw9795706860104358320:Nat:=0
def PySem.W.Fast.tw10137838555576523069:Nat:=0
def PySem.W.Fast.tw17458453436864281572:Nat:=0
def PySem.W.Fast.tw16469719616559276215:Nat:=0
def PySem.W.Fast.tw9052339651887347623:Nat:=0
def PySem.W.Fast.tw15366957978497401274:Nat:=0
def PySem.W.Fast.tw12373288675052011560:Nat:=0
def PySem.W.Fast.tw7192240011972669854:Nat:=0
def PySem.W.Fast.tw5185514168031047604:Nat:=0
def PySem.W.Fast.tw5491373036267254741:Nat:=0
def PySem.W.Fast.tw11576956708176128802:Nat:=0
def PySem.W.Fast.tw10568830341916395468:Nat:=0
set_option maxRecDepth 100000 in
set_option maxHeartbeats 0 in
theorem PySem.Challenge.cw_measurewise_k11_whole_open_and_put_in_holds : PySem.Challenge.rw_measurewise_k11_whole_open_and_put_in.Holds := by
 w_on;o_law;k_head;(case hw=>w_witness2)
 k_fill
 refine Fr.zPN (l:=PySem.Challenge.rw_measurewise_k11_whole_open_and_put_in) rfl rfl ?hI (fun w h Y=>PySem.W.kIn_of Y) ?F
 case hI=>first | rfl | kernel_rfl | decide+kernel
 case F=>
  intro w mg fa h KX G hmg;apply Fr.zOV rfl KX G hmg
  all_goals first |(unfold Fr.LF;k_is)|(unfold Fr.GA;k_is)|(unfold Fr.CF;k_is)|(unfold Fr.KF;k_is)| k_is | kernel_rfl
