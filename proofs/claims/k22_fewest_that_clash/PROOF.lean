import PyProof.Rows.All
import Wide.All
import OpenK.AllK
import Wide.FinOn
import Lean
import PyProof.EqAt
import PyProof.EqKinds
import PyProof.TupleCall
import OpenK.KMore
import PyProof.ExcInit
import PyProof.ExcClass2
import PyProof.InstStoreFacts
import PyProof.ExcArgsOwn
import PyProof.ExcAttrAll.ValueError
import KE.KRevIter
import PyProof.Rows.ZipGen
import PyProof.ListMulRoad
import PyProof.AutoListH
import KE.IntBitsLaws
import PySem.Challenge.RW_measurewise_k22_fewest_that_clash
set_option Elab.async false
set_option linter.all false
set_option maxRecDepth 100000
set_option maxHeartbeats 4000000
section
open PySem PySem.Spec PyProof PyProof.Rows
def zSF:=@List.getElem?_eq_getElem
def zSG:=@wpAny_bind
def zSH:=@Heap.get?_push_of_some
def zSI:=@PySem.W.mg_of
def zSJ:=@Nat.le_refl
def zSK:=@List.getElem?_map
def zSL:=@wpAny_pure
def zSM:=@List.length_map
def zSN:=@Nat.ne_of_lt
def zSO:=@Nat.lt_of_lt_of_le
def zSP:=@Heap.lt_size
def zSQ:=@sizeLine_eq
def zSR:=@Int.emod_lt_of_pos
def zSS:=@Bool.false_ne_true
def zST:=@Nat.le_trans
def zSU:=@Nat.zero_le
def zSV:=@List.mem_append_right
def zSW:=@Nat.lt_of_le_of_lt
def zSX:=@Int.emod_nonneg
def zSY:=@Heap.get?_push_size
def zSZ:=@List.size_toArray
def zSa:=@wpAny_mono
def zSb:=@List.map_append
def zSc:=@List.take_add_one
def zSd:=@decide_eq_true
def zSe:=@List.take_length
def zSf:=@decide_eq_false
def zSg:=@List.append_nil
def zSh:=@List.length_append
def zSi:=@PySem.W.mg_none_of
def zSj:=@List.mem_of_getElem?
def zSk:=@List.getElem_mem
def zSl:=@PySem.W.hideAll_get
def zSm:=@List.mem_cons_of_mem
def zSn:=@Heap.get?_update_other
def zSo:=@Heap.get?_update_self
def zSp:=@Nat.le_of_lt
def zSq:=@Nat.ne_of_gt
def zSr:=@PySem.W.kia_one
def zSs:=@wpAny_holding
def zSt:=@Nat.mul_le_mul_left
def zSu:=@wpAny_truthy_bool
def zSv:=@wpAny_Call_Name_kw
def zSw:=@codeAny_mono
def zSx:=@PySem.W.of_hideAll
abbrev zSy:=@PySem.W.Frag
def zSz:=@List.mem_cons
def zTA:=@Bool.and_eq_true
def zTB:=@List.length_eq_one_iff
def zTC:=@List.mem_append
def zTD:=@List.map_cons
def zTE:=@List.mem_singleton
def zTF:=@List.mem_map
def zTG:=@List.getD_eq_getElem?_getD
def zTH:=@List.length_cons
def zTI:=@Bool.eq_iff_iff
def zTJ:=@List.not_mem_nil
def zTK:=@List.filter_append
def zTL:=@List.getElem?_eq_some_iff
def zTM:=@List.mem_filter
def zTN:=@Bool.not_eq_true'
def zTO:=@List.length_filter_le
end
namespace L2
open PySem PySem.Spec PyProof.Rows
abbrev Key:=Sum Int Str
def zNM:Key->Value->Bool
 | .inl k,v=>Value.isInt k v
 | .inr x,v=>Value.isStrOf x v
def zRs(w:World):Key->Int
 | .inl k=>hashInt k
 | .inr x=>hashStr w x
theorem yW: ∀{k:Key} {v:Value},zNM k v=true->(∃i t,k=Sum.inl i/\v=Value.int i t)\/(∃x t,k=Sum.inr x/\v=Value.str x t)
 | .inl i,v,h=>by
  obtain ⟨t,e⟩:=Value.isInt_shape (k:=i) (v:=v) h;exact .inl ⟨i,t,rfl,e⟩
 | .inr x,v,h=>by
  obtain ⟨t,e⟩:=Value.isStrOf_shape (x:=x) (v:=v) h;exact .inr ⟨x,t,rfl,e⟩
theorem zQl(a b:Int):decide ((Sum.inl a:Key)=Sum.inl b)=(a==b):=by
 by_cases e:a=b
 ·subst e;simp
 ·have h: ¬(Sum.inl a:Key)=Sum.inl b:=fun q=>e (Sum.inl.inj q);rw [zSf h];exact (beq_eq_false_iff_ne.mpr e).symm
theorem zQx(a b:Str):decide ((Sum.inr a:Key)=Sum.inr b)=decide (a=b):=by
 by_cases e:a=b
 ·subst e;simp
 ·have h: ¬(Sum.inr a:Key)=Sum.inr b:=fun q=>e (Sum.inr.inj q);rw [zSf h,zSf e]
theorem zQy(a:Int)(b:Str):decide ((Sum.inl a:Key)=Sum.inr b)=false:=zSf (fun q=>nomatch q)
theorem zQd(a:Str)(b:Int):decide ((Sum.inr a:Key)=Sum.inl b)=false:=zSf (fun q=>nomatch q)
def zDF(prog:Program)(w:World):PySem.KeyKind prog w Key where
 is:=zNM
 hash:=zRs w
 inj:=fun v a b ha hb=>by
  rcases yW ha with ⟨i,t,rfl,rfl⟩|⟨x,t,rfl,rfl⟩
  ·rcases yW hb with ⟨j,u,rfl,e⟩|⟨y,u,rfl,e⟩
   ·injection e with e1 _;rw [e1]
   ·exact nomatch e
  ·rcases yW hb with ⟨j,u,rfl,e⟩|⟨y,u,rfl,e⟩
   ·exact nomatch e
   ·injection e with e1 _;rw [e1]
 byValue:=fun k v h=>by
  rcases yW h with ⟨i,t,rfl,rfl⟩|⟨x,t,rfl,rfl⟩<;>rfl
 pyHash:=fun hv h=>by
  rcases yW hv with ⟨i,t,rfl,rfl⟩|⟨x,t,rfl,rfl⟩
  ·exact wpAny_pyHash_int h
  ·exact wpAny_pyHash_str h
 eqBool:=fun hu hv h=>by
  rcases yW hu with ⟨i,t,rfl,rfl⟩|⟨x,t,rfl,rfl⟩
  ·rcases yW hv with ⟨j,u,rfl,rfl⟩|⟨y,u,rfl,rfl⟩
   ·rw [zQl] at h;exact wpAny_eqBool_int h
   ·rw [zQy] at h;exact SeqAt.EqAt.int_str i t y u _ _ _ _ h
  ·rcases yW hv with ⟨j,u,rfl,rfl⟩|⟨y,u,rfl,rfl⟩
   ·rw [zQd] at h;exact SeqAt.EqAt.str_int x t j u _ _ _ _ h
   ·rw [zQx] at h;exact wpAny_eqBool_str h
 «strs»:=fun k x t v h=>by
  rcases yW h with ⟨i,u,rfl,e⟩|⟨y,u,rfl,e⟩
  ·exact nomatch e
  ·injection e with e1 _;subst e1;cases v<;>rfl
inductive V where
 | non | bl (b:Bool)| int (i:Int)| str (x:Str)| byt (b:Array UInt8)| flt (b:UInt64)| ref (a:Addr)| ty (n:String)
 deriving DecidableEq
def zd:V->Value->Prop
 | .non,u=>u=Value.none
 | .bl b,u=>u=Value.bool b
 | .int i,u=> ∃t,u=Value.int i t
 | .str x,u=> ∃t,u=Value.str x t
 | .byt b,u=> ∃t,u=Value.bytes b t
 | .flt b,u=> ∃t,u=Value.float b t
 | .ref a,u=>u=Value.ref a
 | .ty n,u=>u=Value.type n
abbrev zN:List V->List Value->Prop:=Paired zd
theorem zN.length{xs:List V}{us:List Value}(r:zN xs us):xs.length=us.length:=Paired.length r
theorem zN.get: ∀{xs:List V} {us:List Value} {i:Nat} {x:V},zN xs us->xs[i]?=some x-> ∃u,us[i]?=some u/\zd x u
 | _,_,_,_,.nil,e=>by simp at e
 | _,_,0,_,.cons r _,e=>by simp at e;subst e;exact ⟨_,rfl,r⟩
 | _,_,i+1,x,.cons _ t,e=>by
  obtain ⟨u,h1,h2⟩:=zN.get (i:=i) (x:=x) t (by simpa using e);exact ⟨u,by simpa using h1,h2⟩
theorem zN.set{x:V}{u:Value}(r:zd x u): ∀{xs:List V} {us:List Value} (i:Nat),zN xs us->zN (xs.set i x) (us.set i u)
 | _,_,_,.nil=> .nil
 | _,_,0,.cons _ t=> .cons r t
 | _,_,i+1,.cons q t=> .cons q (zN.set r i t)
theorem zN.append: ∀{xs ys:List V} {us ws:List Value},zN xs us->zN ys ws->zN (xs++ys) (us++ws)
 | _,_,_,_,.nil,s=>s
 | _,_,_,_,.cons r t,s=> .cons r (zN.append t s)
theorem zN.take: ∀{xs:List V} {us:List Value} (n:Nat),zN xs us->zN (xs.take n) (us.take n)
 | _,_,0,_=> .nil
 | _,_,_+1,.nil=> .nil
 | _,_,n+1,.cons r t=> .cons r (zN.take n t)
theorem zN.drop: ∀{xs:List V} {us:List Value} (n:Nat),zN xs us->zN (xs.drop n) (us.drop n)
 | _,_,0,r=>r
 | _,_,_+1,.nil=> .nil
 | _,_,n+1,.cons _ t=>zN.drop n t
def zCm:Option V->Option Value->Prop
 | some v,some u=>zd v u
 | none,none=>True
 | _,_=>False
def KV{κ:Type}:List (κ×V)->List (κ×Value)->Prop:=Paired fun (p:κ×V) (q:κ×Value)=>p.1=q.1/\zd p.2 q.2
def kV:Key->V
 | .inl i=> .int i
 | .inr x=> .str x
inductive HO where
 | lst (xs:List V)
 | tup (xs:List V)
 | dK (kvs:List (Key×V))| dT (kvs:List (List Key×V))
 | set (S:Int->Bool) (n:Nat)
 | ins (C dx:Addr) (fs:List (Str×V))
 | own (x:Addr)
 | xd (fs:List (Str×V))
 | met (f x:Addr)
 | rng (lo hi:Int)
 | frz (o:Obj) (u:HO)
 | tbl (ps:Array Value)
 | ext (φ:Heap->Prop)
abbrev Hp:=Addr->Option HO
def upd(H:Hp)(a:Addr)(o:HO):Hp:=fun b=>if b=a then some o else H b
theorem zB{H:Hp}{a:Addr}{o:HO}:upd H a o a=some o:=by unfold upd;rw [if_pos rfl]
theorem zI{H:Hp}{a b:Addr}{o:HO}(h:b≠a):upd H a o b=H b:=by unfold upd;rw [if_neg h]
theorem yM{H:Hp}{a:Addr}{o u:HO}:upd (upd H a o) a u=upd H a u:=by
 funext b;unfold upd;split<;>rfl
theorem zw{H:Hp}{a b:Addr}{o:HO}(h:H a=some o)(h':H b=none):a≠b:=by
 intro e;subst e;rw [h] at h';cases h'
def zFX(h:Heap)(a:Addr)(items:Array Value):Prop:= ∃o,h.get? a=some o/\o.cls= .type "tuple" /\(∃n,o.data= .seq items n)/\o.dict=none
theorem zFX.new(h:Heap)(items:Array Value):zFX (h.push {cls:= .type "tuple",data:= .seq items}) h.objs.size items:=⟨_,zSY _ rfl,rfl,⟨_,rfl⟩,rfl⟩
section
variable (P:Program)(w:World)
def yL(H:Hp)(h:Heap)(a:Addr):HO->Prop
 | .lst xs=>xs.length<=sizeLine/\ ∃(its:List Value) (n:Nat),zN xs its/\h.get? a=some {cls:= .type "list",data:= .seq its.toArray n}
 | .tup xs=>xs.length<=sizeLine/\ ∃its:List Value,zN xs its/\zFX h a its.toArray
 | .dK kvs=>kvs.length<=sizeLine/\(a==sysModules)=false/\ ∃vs,KV kvs vs/\h.DictOf (zDF P w) a vs
 | .dT kvs=>kvs.length<=sizeLine/\(a==sysModules)=false/\ ∃xs:List (List Key×Addr×Value),
   Paired (fun (p:List Key×V) (q:List Key×Addr×Value)=>p.1=q.1/\H q.2.1=some (.tup (p.1.map kV))/\zd p.2 q.2.2) kvs xs/\
   ∃o es ep,h.get? a=some o/\o.ExactDict/\o.data= .dict es ep/\es.toList=xs.map (entryOfKey (tupleKind (zDF P w)))/\(xs.map (·.1)).Nodup
 | .set S n=>h.SetOf (intKind P w) a S n
 | .ins C dx fs=>H dx=some (.own a)/\fs.length<=1000/\dx≠a/\h.get? a=some (PySem.W.instObj C dx)/\
   ∃mA,h.Ns1 dx mA/\(∀f,zCm (fs.lookup f) (mA f))/\PySem.Within mA (fs.map (·.1))
 | .own _=> ∃o,h.get? a=some o
 | .xd fs=> ∃mA,h.Ns1 a mA/\ ∀f,zCm (fs.lookup f) (mA f)
 | .rng lo hi=> ∃t u v,h.get? a=some {cls:= .type "range",data:= .fields #[.int lo t,.int hi u,.int 1 v]}
 | .frz o u=>h.get? a=some o/\yL H h a u
 | .tbl ps=>h.get? a=some {cls:= .none,data:= .fields ps}
 | .met f x=>h.get? a=some (PySem.W.methodObj (.ref f) (.ref x))
 | .ext φ=>φ h/\(∃o,h.get? a=some o)/\ ∀h1 h2:Heap,φ h1->(∀o,h1.get? a=some o->h2.get? a=some o)->φ h2
def HOk(H:Hp)(h:Heap):Prop:= ∀a o,H a=some o->yL P w H h a o
end
section
variable {P:Program}{w:World}{H H':Hp}{h h':Heap}{a:Addr}{o:HO}
theorem yL.lt(x:yL P w H h a o):a<h.objs.size:=by
 cases o with
 | lst xs=>obtain ⟨_,_,_,_,e⟩:=x;exact zSP e
 | tup xs=>obtain ⟨_,_,_,_,e,_⟩:=x;exact zSP e
 | dK kvs=>obtain ⟨_,_,_,_,o,_,_,e,_⟩:=x;exact zSP e
 | dT kvs=>obtain ⟨_,_,_,_,o,_,_,e,_⟩:=x;exact zSP e
 | set S n=>obtain ⟨o,_,_,_,e,_⟩:=x;exact zSP e
 | ins C dx fs=>obtain ⟨_,_,_,e,_⟩:=x;exact zSP e
 | own y=>obtain ⟨_,e⟩:=x;exact zSP e
 | xd fs=>obtain ⟨_,⟨_,_,_,e,_⟩,_⟩:=x;exact zSP e
 | rng lo hi=>obtain ⟨_,_,_,e⟩:=x;exact zSP e
 | frz ob u=>obtain ⟨e,_⟩:=x;exact zSP e
 | tbl ps=>exact zSP (show h.get? a=some _ from x)
 | met f y=>exact zSP (show h.get? a=some _ from x)
 | ext φ=>obtain ⟨_,⟨_,e⟩,_⟩:=x;exact zSP e
theorem Paired.mapP{α β:Type}{F G:α->β->Prop}: ∀{l₁:List α} {l₂:List β},Paired F l₁ l₂->(∀a b,F a b->G a b)->Paired G l₁ l₂
 | _,_,.nil,_=> .nil
 | _,_,.cons r t,f=> .cons (f _ _ r) (Paired.mapP t f)
theorem yL.stay(x:yL P w H h a o)(k: ∀b u,(b=a\/H b=some (.own a))->h.get? b=some u->h'.get? b=some u)
  (ho: ∀b,H b=some (.own a)->H' b=some (.own a)) (ht: ∀b xs,H b=some (.tup xs)->H' b=some (.tup xs)):yL P w H' h' a o:=by
 induction o with
 | lst xs=>obtain ⟨z,its,n,r,e⟩:=x;exact ⟨z,its,n,r,k _ _ (.inl rfl) e⟩
 | tup xs=>obtain ⟨z,its,r,ob,e,c⟩:=x;exact ⟨z,its,r,ob,k _ _ (.inl rfl) e,c⟩
 | dK kvs=>obtain ⟨z,y,vs,r,ob,es,ep,e,c⟩:=x;exact ⟨z,y,vs,r,ob,es,ep,k _ _ (.inl rfl) e,c⟩
 | dT kvs=>
  obtain ⟨z,y,xs,r,ob,es,ep,e,c⟩:=x;exact ⟨z,y,xs,Paired.mapP r fun p q z=>⟨z.1,ht _ _ z.2.1,z.2.2⟩,ob,es,ep,k _ _ (.inl rfl) e,c⟩
 | set S n=>obtain ⟨ob,es,ep,t,e,c⟩:=x;exact ⟨ob,es,ep,t,k _ _ (.inl rfl) e,c⟩
 | ins C dx fs=>
  obtain ⟨d,z,ne,e,mA,⟨od,es,ep,e2,c⟩,r⟩:=x;exact ⟨ho _ d,z,ne,k _ _ (.inl rfl) e,mA,⟨od,es,ep,k _ _ (.inr d) e2,c⟩,r⟩
 | own y=>obtain ⟨ob,e⟩:=x;exact ⟨ob,k _ _ (.inl rfl) e⟩
 | xd fs=>obtain ⟨mA,⟨od,es,ep,e,c⟩,r⟩:=x;exact ⟨mA,⟨od,es,ep,k _ _ (.inl rfl) e,c⟩,r⟩
 | rng lo hi=>obtain ⟨t,u,v,e⟩:=x;exact ⟨t,u,v,k _ _ (.inl rfl) e⟩
 | frz ob u ih=>obtain ⟨e,q⟩:=x;exact ⟨k _ _ (.inl rfl) e,ih q⟩
 | tbl ps=>
  have e:h.get? a=some {cls:= .none,data:= .fields ps}:=x;show h'.get? a=some {cls:= .none,data:= .fields ps};exact k a _ (.inl rfl) e
 | met f y=>
  have e:h.get? a=some (PySem.W.methodObj (.ref f) (.ref y)):=x;show h'.get? a=some (PySem.W.methodObj (.ref f) (.ref y));exact k a _ (.inl rfl) e
 | ext φ=>obtain ⟨p,⟨o,e⟩,st⟩:=x;exact ⟨st _ _ p fun o q=>k _ _ (.inl rfl) q,⟨o,k _ _ (.inl rfl) e⟩,st⟩
theorem HOk.lt(x:HOk P w H h)(e:H a=some o):a<h.objs.size:=(x a o e).lt
theorem HOk.fresh(x:HOk P w H h)(e:h.objs.size<=a):H a=none:=by
 cases q:H a with
 | none=>rfl
 | some u=>exact absurd (zSO (x.lt q) e) (Nat.lt_irrefl _)
theorem HOk.kept(x:HOk P w H h)(k: ∀b u,h.get? b=some u->h'.get? b=some u):HOk P w H h':=fun a o e=>
 (x a o e).stay (fun b u _ q=>k b u q) (fun _ q=>q) fun _ _ q=>q
theorem HOk.laid(x:HOk P w H h)(k: ∀b u,h.get? b=some u->h'.get? b=some u)(hp:h.objs.size<=a)(new:yL P w (upd H a o) h' a o):HOk P w (upd H a o) h':=fun b u e=>by
 have hn:=x.fresh hp;by_cases hb:b=a
 ·subst hb;rw [zB] at e;cases e;exact new
 ·rw [zI hb] at e;exact (x b u e).stay (fun c v _ q=>k c v q) (fun c q=>by rw [zI (zw q hn)];exact q) fun c xs q=>by rw [zI (zw q hn)];exact q
end
def Rd(H:Hp)(a:Addr)(u:HO):Prop:=H a=some u\/ ∃o,H a=some (.frz o u)
theorem Rd.of{H:Hp}{a:Addr}{u:HO}(h:H a=some u):Rd H a u:= .inl h
theorem Rd.ok{P:Program}{w:World}{H:Hp}{h:Heap}{a:Addr}{u:HO}(r:Rd H a u)(x:HOk P w H h):yL P w H h a u:=by
 rcases r with r |⟨o,r⟩
 ·exact x a u r
 ·obtain ⟨_,q⟩:=x a _ r;exact q
def Mut:Option HO->Prop
 | some (.lst _)=>True
 | some (.dK _)=>True
 | some (.dT _)=>True
 | some (.set _ _)=>True
 | some (.ins _ _ _)=>True
 | some (.ext _)=>True
 | _=>False
section
variable {P:Program}{w:World}{H:Hp}{h h':Heap}{x e:Addr}{o':HO}
theorem HOk.write(ok:HOk P w H h)(mu:Mut (H x))(he:e=x\/H e=some (.own x))(k: ∀b u,b≠e->h.get? b=some u->h'.get? b=some u)(heo: ∃u,h'.get? e=some u)
  (new:yL P w (upd H x o') h' x o'):HOk P w (upd H x o') h':=fun b u q=>by
 have nown: ∀c y,H c=some (.own y)->c≠x:=fun c y r z=>by subst z;rw [r] at mu;exact mu
 have ntup: ∀c xs,H c=some (.tup xs)->c≠x:=fun c xs r z=>by subst z;rw [r] at mu;exact mu
 by_cases hb:b=x
 ·subst hb;rw [zB] at q;cases q;exact new
 ·rw [zI hb] at q;by_cases hbe:b=e
  ·have q':H b=some (.own x):=by
    rcases he with z | z
    ·exact absurd (hbe.trans z) hb
    ·rw [hbe];exact z
   rw [q] at q';cases q';obtain ⟨v,hv⟩:=heo;exact ⟨v,by rw [hbe];exact hv⟩
  ·refine (ok b u q).stay (fun c v hc r=>k c v ?_ r) (fun c r=>by rw [zI (nown c b r)];exact r) fun c xs r=>by rw [zI (ntup c xs r)];exact r
   rcases hc with rfl | hc
   ·exact hbe
   ·rintro rfl;rcases he with z | z
    ·exact nown c b hc z
    ·rw [hc] at z;cases z;exact hb rfl
end
structure Un(fs ex:List Addr)(H H':Hp)(h h':Heap):Prop where
 keep: ∀b o,h.get? b=some o->H b=none->b∉fs->b∉ex->h'.get? b=some o
 slot: ∀b o,h.get? b=some o->H b=none->b∈fs->b∉ex-> ∃sl,h'.get? b=some {o with slots:=sl}
 free: ∀b o,h.get? b=some o->H b=none->b∉ex->H' b=none
 there: ∀b o,h.get? b=some o->b∉ex-> ∃o',h'.get? b=some o'
 tups: ∀b xs,H b=some (.tup xs)->H' b=some (.tup xs)
 frzs: ∀b o u,H b=some (.frz o u)->H' b=some (.frz o u)
 tbls: ∀b ps,H b=some (.tbl ps)-> ∃more,H' b=some (.tbl (ps++more))
section
variable {fs fs' ex ex':List Addr}{H H1 H2:Hp}{h h1 h2 h':Heap}{a x e:Addr}{o:HO}
theorem Un.any(u:Un fs ex H H1 h h1){b:Addr}{ob:Obj}(q:h.get? b=some ob)(n:H b=none)(hx:b∉ex): ∃sl,h1.get? b=some {ob with slots:=sl}:=by
 by_cases hb:b∈fs
 ·exact u.slot b ob q n hb hx
 ·exact ⟨ob.slots,u.keep b ob q n hb hx⟩
theorem Un.kept(k: ∀b u,h.get? b=some u->h'.get? b=some u):Un fs ex H H h h':=
 ⟨fun b ob q _ _ _=>k b ob q,fun b ob q _ _ _=>⟨ob.slots,k b ob q⟩,fun _ _ _ n _=>n,fun b ob q _=>⟨ob,k b ob q⟩,fun _ _ q=>q,fun _ _ _ q=>q,fun _ ps q=>⟨#[],by rw [q];simp⟩⟩
theorem Un.refl:Un fs ex H H h h:=Un.kept fun _ _ q=>q
theorem Un.laid(k: ∀b u,h.get? b=some u->h'.get? b=some u)(hp:h.objs.size<=a)(hn:H a=none):Un fs ex H (upd H a o) h h' where
 keep:=fun b u q _ _ _=>k b u q
 slot:=fun b u q _ _ _=>⟨u.slots,k b u q⟩
 free:=fun b u q n _=>by rw [zI (zSN (zSO (zSP q) hp))];exact n
 there:=fun b u q _=>⟨u,k b u q⟩
 tups:=fun b xs q=>by rw [zI (zw q hn)];exact q
 frzs:=fun b u xs q=>by rw [zI (zw q hn)];exact q
 tbls:=fun b ps q=>⟨#[],by rw [zI (zw q hn),q];simp⟩
theorem Un.write(mu:Mut (H x))(he:e=x\/H e=some (.own x))(k: ∀b u,b≠e->h.get? b=some u->h'.get? b=some u)(heo: ∃u,h'.get? e=some u):Un fs ex H (upd H x o) h h':=by
 have hx: ∀b,H b=none->b≠x:=fun b n z=>by subst z;rw [n] at mu;exact mu
 have hb: ∀b,H b=none->b≠e:=fun b n z=>by
  subst z;rcases he with r | r
  ·exact hx b n r
  ·rw [n] at r;cases r
 have hm: ∀b u,H b=some u-> ¬Mut (some u)->b≠x:=fun b u q nm z=>by subst z;rw [q] at mu;exact nm mu
 refine ⟨fun b u q n _ _=>k b u (hb b n) q,fun b u q n _ _=>⟨u.slots,k b u (hb b n) q⟩,fun b u q n _=>by rw [zI (hx b n)];exact n,fun b u q _=>?_,
  fun b xs q=>by rw [zI (hm b _ q fun z=>z)];exact q,fun b u xs q=>by rw [zI (hm b _ q fun z=>z)];exact q,fun b ps q=>⟨#[],by rw [zI (hm b _ q fun z=>z),q];simp⟩⟩
 by_cases hbe:b=e
 ·subst hbe;exact heo
 ·exact ⟨u,k b u hbe q⟩
end
def trk(h:Heap)(H:Hp):List Addr:=(List.range h.objs.size).filter fun a=>(H a).isSome
def zCl(h:Heap)(H:Hp):Heap:=PySem.W.hideAll h (trk h H)
theorem zLy(h:Heap)(H:Hp):(zCl h H).objs.size=h.objs.size:=PySem.W.hideAll_size _ _
theorem zML{h:Heap}{H:Hp}{b:Addr}{o:Obj}(e:h.get? b=some o)(n:H b=none):(zCl h H).get? b=some o:=
 zSl _ e fun hm=>by
  have q:(H b).isSome=true:=(zTM.mp hm).2;rw [n] at q;simp at q
theorem zNv{h:Heap}{H:Hp}{b:Addr}{o:Obj}(e:(zCl h H).get? b=some o):h.get? b=some o/\H b=none:=by
 have e':h.get? b=some o:=zSx (trk h H) e;refine ⟨e',?_⟩;cases q:H b with
 | none=>rfl
 | some x=>
  have hm:b∈trk h H:=zTM.mpr ⟨List.mem_range.mpr (zSP e'),by simp [q]⟩;have z:(zCl h H).get? b=none:=PySem.W.hideAll_none (trk h H) hm;rw [z] at e;cases e
structure Mod(K:zSy)(mg:Str->Option Value)(base:Heap):Prop where
 kin:K.In base
 glob:base.Ns mainGlobals mg
 blt: ∃mb,base.Ns builtinsNs mb/\ ∀x:Str,x≠ "__name__" ->mb x=bootBuiltins x
 nolimit:base.NoLimit
 seer:base.NoSeer
structure Cx where
 prog:Program
 w:World
 K:zSy
 mg:Str->Option Value
 base:Heap
 A:Around
 N:List Str
 s₀:Shared
 H₀:Hp
 env:Env
 outer:List Env
 stack:List Env
 ex:List Addr
 fn:Str->Bool
 calm:Bool
 pn:List (Addr×Obj)
 xe:Value->Shared->Prop
def yl(l:List Env):List Addr:=l.filterMap (·.frame)
abbrev Cx.fs(X:Cx):List Addr:=yl X.outer
def Vis(sc:Scope)(x:Str):Prop:=sc.names.lookup x=some .local\/sc.names.lookup x=some .cell\/sc.names.lookup x=some .free
def Loc(sc:Scope)(x:Str):Prop:=sc.names.lookup x=some .local\/sc.names.lookup x=some .cell
def zRy(env:Env)(h:Heap)(m:Str->Option Value)(x:Str)(u:Value):Prop:=
 (env.kindOf x=some .local/\m x=some u)\/((env.kindOf x=some .cell\/env.kindOf x=some .free)/\ ∃c,env.cells.lookup x=some c/\h.IsCell c (some u))
structure Cx.Ok(X:Cx):Prop where
 mod:Mod X.K X.mg X.base
 kind:X.env.scope.kind= .function
 glob:X.env.globals=mainGlobals
 blt:X.env.builtins=builtinsNs
 above:X.s₀.heap.objs.size<=X.env.locals
 inj: ∀x y c,X.env.cells.lookup x=some c->X.env.cells.lookup y=some c->x=y
 has: ∀x,(X.env.kindOf x=some .cell\/X.env.kindOf x=some .free)-> ∃c,X.env.cells.lookup x=some c
 cab: ∀x c,X.fn x=true->X.env.cells.lookup x=some c->X.s₀.heap.objs.size<=c
 hd:X.calm=true->X.A.handled=none
 frames:X.A.frames=some X.stack
 stk:X.stack=X.outer\/(X.stack=X.env::X.outer/\X.env.frame=some X.env.locals)
 exf: ∀b∈X.ex,b≠X.env.locals/\ ∀x c,X.env.cells.lookup x=some c->c≠b
 bs: ∀b o,X.base.get? b=some o->X.s₀.heap.get? b=some o/\X.H₀ b=none
 bsz:X.base.objs.size<=X.s₀.heap.objs.size
 noex: ∀b o,X.base.get? b=some o->b∉X.ex
 exfs: ∀b∈X.ex,b∉X.fs
 funs:X.s₀.heap.FunFrames X.base X.outer
 frf: ∀b∈X.fs,X.H₀ b=none
structure Inv(X:Cx)(pins:List (Addr×Obj))(σ:List (Option V))(H:Hp)(s:Shared):Prop where
 ok:X.Ok
 os:s.os=X.s₀.os
 bare:AllBare s.gens
 base:Un X.fs X.ex X.H₀ H X.s₀.heap s.heap
 loc: ∃m,s.heap.Ns X.env.locals m/\ ∀(i:Nat) (x:Str) (v:V),X.N[i]?=some x->σ[i]?=some (some v)->Vis X.env.scope x-> ∃u,zd v u/\zRy X.env s.heap m x u
 cell: ∀x c,X.env.cells.lookup x=some c-> ∃v,s.heap.IsCell c v
 free:H X.env.locals=none
 freeC: ∀x c,X.env.cells.lookup x=some c->H c=none
 pin: ∀p∈X.pn++pins,s.heap.get? p.1=some p.2/\H p.1=none/\p.1≠X.env.locals/\p.1∉X.fs/\ ∀v,p.2.data≠ .cell v
 hok:HOk X.prog X.w H s.heap
 len:σ.length=X.N.length
section
variable {X:Cx}{pins:List (Addr×Obj)}{σ:List (Option V)}{H H':Hp}{s:Shared}{h':Heap}
theorem Cx.Ok.nofr(ok:X.Ok){b:Addr}{o:Obj}(e:X.base.get? b=some o):b∉X.fs:=fun hb=>by
 have:=(ok.funs.mem hb).1;rw [e] at this;cases this
theorem Inv.bs(I:Inv X pins σ H s): ∀b o,X.base.get? b=some o->s.heap.get? b=some o/\H b=none:=fun b o e=>
 ⟨I.base.keep b o (I.ok.bs b o e).1 (I.ok.bs b o e).2 (I.ok.nofr e) (I.ok.noex b o e),I.base.free b o (I.ok.bs b o e).1 (I.ok.bs b o e).2 (I.ok.noex b o e)⟩
theorem Inv.bk(I:Inv X pins σ H s): ∀b o,X.base.get? b=some o->s.heap.get? b=some o:=fun b o e=>(I.bs b o e).1
theorem Inv.mod(I:Inv X pins σ H s):Mod X.K X.mg X.base:=I.ok.mod
theorem Inv.kIn(I:Inv X pins σ H s):X.K.In s.heap:=I.ok.mod.kin.keeps I.bk
theorem Inv.lt(I:Inv X pins σ H s):X.env.locals<s.heap.objs.size:=let ⟨_,hn,_⟩:=I.loc;hn.lt
theorem Inv.sz(I:Inv X pins σ H s):X.s₀.heap.objs.size<=s.heap.objs.size:=zST I.ok.above (zSp I.lt)
theorem Inv.nofs(I:Inv X pins σ H s){a:Addr}(h:s.heap.objs.size<=a):a∉X.fs:=fun hb=>by
 obtain ⟨_,o,ho,_⟩:=I.ok.funs.mem hb;exact absurd (zSO (zSP ho) (zST I.sz h)) (Nat.lt_irrefl _)
theorem Inv.cne(I:Inv X pins σ H s): ∀x c,X.env.cells.lookup x=some c->c≠X.env.locals:=fun x c e z=>by
 obtain ⟨v,o,ho,hd⟩:=I.cell x c e;obtain ⟨m,⟨o',es,ep,ho',hd',_⟩,_⟩:=I.loc;rw [z,ho'] at ho;cases ho;rw [hd'] at hd;cases hd
theorem Inv.funs(I:Inv X pins σ H s):s.heap.FunFrames X.base X.outer:=by
 have all: ∀(l:List Env),(∀b∈yl l,b∈X.fs)->X.s₀.heap.FunFrames X.base l->s.heap.FunFrames X.base l:=by
  intro l
  induction l with
  | nil=>intro _ _;trivial
  | cons env r ih=>
   intro hs hl;obtain ⟨hk,⟨L,o,hf,hn,ho,hd⟩,hr⟩:=hl;have hL:L∈X.fs:=hs L (by unfold yl;rw [List.filterMap_cons,hf];exact List.mem_cons_self);obtain ⟨sl,e⟩:=I.base.slot L o ho (I.ok.frf L hL) hL fun z=>I.ok.exfs L z hL;exact ⟨hk,⟨L,_,hf,hn,e,hd⟩,ih (fun b hb=>hs b (by unfold yl;rw [List.filterMap_cons,hf];exact zSm _ hb)) hr⟩
 exact all X.outer (fun _ hb=>hb) I.ok.funs
theorem Inv.stack(I:Inv X pins σ H s):s.heap.FunFrames X.base X.stack:=by
 rcases I.ok.stk with e |⟨e,hf⟩
 ·rw [e];exact I.funs
 ·rw [e];obtain ⟨m,hn,_⟩:=I.loc;refine .cons (by rw [I.ok.kind];decide) hf hn ?_ I.funs;exact Heap.get?_none_of_le (zST I.ok.bsz I.ok.above)
theorem Inv.stkSub(I:Inv X pins σ H s): ∀b∈yl X.stack,b∈X.env.locals::X.fs:=fun b hb=>by
 rcases I.ok.stk with e |⟨e,hf⟩
 ·rw [e] at hb;exact zSm _ hb
 ·rw [e] at hb;unfold yl at hb;rw [List.filterMap_cons,hf] at hb;exact hb
theorem Inv.stkFree(I:Inv X pins σ H s): ∀b∈yl X.stack,H b=none:=fun b hb=>by
 rcases zSz.mp (I.stkSub b hb) with e | hb
 ·rw [e];exact I.free
 ·obtain ⟨_,o,ho,_⟩:=I.ok.funs.mem hb;exact I.base.free b o ho (I.ok.frf b hb) fun z=>I.ok.exfs b z hb
theorem Inv.step{g':Array GenState}{t':Nat}{d':Drawn}{ch:List Addr}(I:Inv X pins σ H s)
  (hch: ∀b∈ch,(b∈X.ex\/X.s₀.heap.objs.size<=b)/\b≠X.env.locals/\(∀x c,X.env.cells.lookup x=some c->c≠b)/\ ∀p∈X.pn++pins,p.1≠b)
  (keep: ∀b o,b≠X.env.locals->b∉X.fs->b∉ch->s.heap.get? b=some o->H b=none->h'.get? b=some o)
  (slot: ∀b o,b≠X.env.locals->b∈X.fs->b∉ch->s.heap.get? b=some o->H b=none-> ∃sl,h'.get? b=some {o with slots:=sl}) (free: ∀b o,b∉ch->s.heap.get? b=some o->H b=none->H' b=none)
  (there: ∀b o,b∉ch->s.heap.get? b=some o-> ∃o',h'.get? b=some o')
  (tups: ∀b xs,H b=some (.tup xs)->H' b=some (.tup xs)) (frzs: ∀b o u,H b=some (.frz o u)->H' b=some (.frz o u)) (tbls: ∀b ps,H b=some (.tbl ps)-> ∃more,H' b=some (.tbl (ps++more)))
  (ns: ∀m,s.heap.Ns X.env.locals m->h'.Ns X.env.locals m) (hok:HOk X.prog X.w H' h') (hg:AllBare g'):
  Inv X pins σ H' {s with heap:=h',gens:=g',drawn:=d',toks:=t'}:=by
 have neL: ∀b o,X.s₀.heap.get? b=some o->b≠X.env.locals:=fun b o e=>zSN (zSO (zSP e) I.ok.above);have neC: ∀b o,X.s₀.heap.get? b=some o->b∉X.ex->b∉ch:=fun b o e hx hb=>by
  rcases (hch b hb).1 with z | z
  ·exact hx z
  ·exact absurd (zSO (zSP e) z) (Nat.lt_irrefl _)
 have cellK: ∀x c,X.env.cells.lookup x=some c-> ∀v,s.heap.IsCell c v->h'.IsCell c v:=fun x c e v ⟨o,ho,hd⟩=>by
  have nch:c∉ch:=fun z=>(hch c z).2.2.1 x c e rfl;by_cases hc:c∈X.fs
  ·obtain ⟨sl,q⟩:=slot c o (I.cne x c e) hc nch ho (I.freeC x c e);exact ⟨_,q,hd⟩
  ·exact ⟨o,keep c o (I.cne x c e) hc nch ho (I.freeC x c e),hd⟩
 refine ⟨I.ok,I.os,hg,⟨fun b o e n hb hx=>?_,fun b o e n hb hx=>?_,fun b o e n hx=>?_,fun b o e hx=>?_,fun b xs e=>tups b xs (I.base.tups b xs e),fun b o xs e=>frzs b o xs (I.base.frzs b o xs e),fun b ps e=>?_⟩,?_,fun x c e=>?_,?_,fun x c e=>?_,fun p hp=>?_,hok,I.len⟩
 ·exact keep b o (neL b o e) hb (neC b o e hx) (I.base.keep b o e n hb hx) (I.base.free b o e n hx)
 ·obtain ⟨sl,e1⟩:=I.base.slot b o e n hb hx;obtain ⟨sl',e2⟩:=slot b _ (neL b o e) hb (neC b o e hx) e1 (I.base.free b o e n hx);exact ⟨sl',e2⟩
 ·obtain ⟨o',e1⟩:=I.base.there b o e hx;exact free b o' (neC b o e hx) e1 (I.base.free b o e n hx)
 ·obtain ⟨o',e1⟩:=I.base.there b o e hx;exact there b o' (neC b o e hx) e1
 ·obtain ⟨m1,e1⟩:=I.base.tbls b ps e;obtain ⟨m2,e2⟩:=tbls b _ e1;exact ⟨m1++m2,by rw [e2,Array.append_assoc]⟩
 ·obtain ⟨m,hn,hl⟩:=I.loc;refine ⟨m,ns m hn,fun i x v e1 e2 e3=>?_⟩;obtain ⟨u,r,l⟩:=hl i x v e1 e2 e3;refine ⟨u,r,?_⟩;rcases l with l |⟨k,c,e,z⟩
  ·exact .inl l
  ·exact .inr ⟨k,c,e,cellK x c e _ z⟩
 ·obtain ⟨v,z⟩:=I.cell x c e;exact ⟨v,cellK x c e v z⟩
 ·obtain ⟨m,⟨o,_,_,ho,_⟩,_⟩:=I.loc;exact free _ o (fun z=>(hch _ z).2.1 rfl) ho I.free
 ·obtain ⟨v,o,ho,hd⟩:=I.cell x c e;exact free c o (fun z=>(hch c z).2.2.1 x c e rfl) ho (I.freeC x c e)
 ·obtain ⟨e,n,ne,nf,d⟩:=I.pin p hp;have nch:p.1∉ch:=fun z=>(hch p.1 z).2.2.2 p hp rfl;exact ⟨keep p.1 p.2 ne nf nch e n,free p.1 p.2 nch e n,ne,nf,d⟩
theorem Inv.un{t':Nat}(I:Inv X pins σ H s)(u:Un X.fs [] H H' s.heap h')(hok:HOk X.prog X.w H' h'):Inv X pins σ H' {s with heap:=h',toks:=t'}:=by
 obtain ⟨m,⟨o,es,ep,ho,r⟩,_⟩:=id I.loc;obtain ⟨sl,hL⟩:=u.any ho I.free (by simp);exact I.step (g':=s.gens) (d':=s.drawn) (ch:= []) (fun _ z=>nomatch z) (fun b o _ hb _ e n=>u.keep b o e n hb (by simp)) (fun b o _ hb _ e n=>u.slot b o e n hb (by simp)) (fun b o _ e n=>u.free b o e n (by simp)) (fun b o _ e=>u.there b o e (by simp)) u.tups u.frzs u.tbls (fun m' hm=>by
  obtain ⟨o',es',ep',ho',r'⟩:=hm;rw [ho] at ho';cases ho';exact ⟨_,es',ep',hL,r'⟩) hok I.bare
theorem Inv.call{g':Array GenState}{t':Nat}{d':Drawn}{ch:List Addr}(I:Inv X pins σ H s)(u:Un (yl X.stack) ch H H' s.heap h')(hok:HOk X.prog X.w H' h')(hg:AllBare g')
  (hch: ∀b∈ch,(b∈X.ex\/X.s₀.heap.objs.size<=b)/\b≠X.env.locals/\(∀x c,X.env.cells.lookup x=some c->c≠b)/\ ∀p∈X.pn++pins,p.1≠b):
  Inv X pins σ H' {s with heap:=h',gens:=g',drawn:=d',toks:=t'}:=by
 obtain ⟨m,⟨o,es,ep,ho,r⟩,_⟩:=id I.loc;obtain ⟨sl,hL⟩:=u.any ho I.free fun z=>(hch _ z).2.1 rfl;exact I.step (ch:=ch) hch (fun b o hL hb hc e n=>u.keep b o e n (fun z=>(zSz.mp (I.stkSub b z)).elim hL hb) hc) (fun b o _ _ hc e n=>u.any e n hc) (fun b o hc e n=>u.free b o e n hc) (fun b o hc e=>u.there b o e hc) u.tups u.frzs u.tbls (fun m' hm=>by
  obtain ⟨o',es',ep',ho',r'⟩:=hm;rw [ho] at ho';cases ho';exact ⟨_,es',ep',hL,r'⟩) hok hg
theorem Inv.turned{t':Nat}{it:Addr}(I:Inv X pins σ H s)(k: ∀b o,b≠it->s.heap.get? b=some o->h'.get? b=some o)(hn:H it=none)(hL:it≠X.env.locals)
  (h1:it∈X.ex\/X.s₀.heap.objs.size<=it) (h2: ∀x c,X.env.cells.lookup x=some c->c≠it) (h3: ∀p∈X.pn++pins,p.1≠it):Inv X pins σ H {s with heap:=h',toks:=t'}:=by
 have nit: ∀b u,H b=some u->b≠it:=fun b u e z=>by rw [z,hn] at e;cases e
 refine I.step (g':=s.gens) (d':=s.drawn) (ch:= [it]) (fun b hb=>?_) (fun b o _ _ hc e _=>k b o (fun z=>hc (by simp [z])) e) (fun b o _ _ hc e _=>⟨o.slots,k b o (fun z=>hc (by simp [z])) e⟩) (fun _ _ _ _ n=>n)
  (fun b o hc e=>⟨o,k b o (fun z=>hc (by simp [z])) e⟩) (fun _ _ e=>e) (fun _ _ _ e=>e) (fun b ps e=>⟨#[],by rw [e];simp⟩) (fun m hm=>?_) (fun b u e=>?_) I.bare
 ·have e:b=it:=by simpa using hb
  subst e;exact ⟨h1,hL,h2,h3⟩
 ·obtain ⟨o,es,ep,ho,r⟩:=hm;exact ⟨o,es,ep,k _ o (Ne.symm hL) ho,r⟩
 ·refine (I.hok b u e).stay (fun c v hc q=>k c v ?_ q) (fun _ q=>q) fun _ _ q=>q;rcases hc with z | z
  ·rw [z];exact nit b u e
  ·exact nit c _ z
theorem Inv.tok(I:Inv X pins σ H s)(t:Nat):Inv X pins σ H {s with toks:=t}:=I.un (h':=s.heap) (t':=t) Un.refl I.hok
theorem Inv.kept{t':Nat}(I:Inv X pins σ H s)(k: ∀b u,s.heap.get? b=some u->h'.get? b=some u):Inv X pins σ H {s with heap:=h',toks:=t'}:=I.un (Un.kept k) (I.hok.kept k)
theorem Inv.laid{a:Addr}{o:HO}{t':Nat}(I:Inv X pins σ H s)(k: ∀b u,s.heap.get? b=some u->h'.get? b=some u)(hp:s.heap.objs.size<=a)(new:yL X.prog X.w (upd H a o) h' a o):
  Inv X pins σ (upd H a o) {s with heap:=h',toks:=t'}:=I.un (Un.laid k hp (I.hok.fresh hp)) (I.hok.laid k hp new)
theorem Inv.write{x e:Addr}{o:HO}{t':Nat}(I:Inv X pins σ H s)(mu:Mut (H x))(he:e=x\/H e=some (.own x))(k: ∀b u,b≠e->s.heap.get? b=some u->h'.get? b=some u)(heo: ∃u,h'.get? e=some u)
  (new:yL X.prog X.w (upd H x o) h' x o):Inv X pins σ (upd H x o) {s with heap:=h',toks:=t'}:=I.un (Un.write mu he k heo) (I.hok.write mu he k heo new)
theorem Inv.pins_of{pins':List (Addr×Obj)}(I:Inv X pins σ H s)(h: ∀p∈pins',s.heap.get? p.1=some p.2/\H p.1=none/\p.1≠X.env.locals/\p.1∉X.fs/\ ∀v,p.2.data≠ .cell v):Inv X pins' σ H s:=
 ⟨I.ok,I.os,I.bare,I.base,I.loc,I.cell,I.free,I.freeC,fun p hp=>(zTC.mp hp).elim (fun z=>I.pin p (List.mem_append_left _ z)) (h p),I.hok,I.len⟩
theorem zEw{N:List Str}(hN:N.Nodup){i j:Nat}{x:Str}(a:N[i]?=some x)(b:N[j]?=some x):i=j:=by
 obtain ⟨h1,e1⟩:=zTL.mp a;obtain ⟨h2,e2⟩:=zTL.mp b;exact (List.getElem_inj hN).mp (e1.trans e2.symm)
theorem zDx{M:Model}{A:Around}{E:Value->Shared->Prop}{i:Nat}{x:Str}{v:V}{u:Value}{Q:Unit->Shared->Prop}(I:Inv X pins σ H s)(hN:X.N.Nodup)(hi:X.N[i]?=some x)(hx:Loc X.env.scope x)(r:zd v u)
  (h: ∀s',Inv X pins (σ.set i (some v)) H s'->(∃a,Heap.SameBut a s.heap s'.heap/\(a=X.env.locals\/X.env.cells.lookup x=some a))->Q () s') (hf:X.fn x=true\/X.env.scope.names.lookup x=some .local:=by first | exact .inl rfl | exact .inr rfl | assumption):wpAny M A (storeName X.env x u) Q E s:=by
 obtain ⟨m,hn,hl⟩:=id I.loc;have hcls:(X.env.scope.kind== .class ||(X.env.scope.kind== .module&&X.env.locals !=X.env.globals))=false:=by rw [I.ok.kind];rfl
 have hiσ:i<σ.length:=by rw [I.len];exact (zTL.mp hi).1
 have cne:=I.cne;have tracked: ∀{a:Addr} {h':Heap},(∃o,s.heap.get? a=some o/\H a=none)->Heap.SameBut a s.heap h'->HOk X.prog X.w H h':=fun {a h'} ha hs b ob e=>by
  obtain ⟨_,_,hfree⟩:=ha;refine (I.hok b ob e).stay (fun c w' hc q=>(hs.2 c ?_).trans q) (fun _ q=>q) fun _ _ q=>q;rintro rfl;rcases hc with rfl | hc
  ·rw [hfree] at e;cases e
  ·rw [hfree] at hc;cases hc
 rcases hx with hk | hk
 ·refine wpAny_storeName_local hk hn (fun h' hn' hs=>?_) hcls;obtain ⟨oL,_,_,hoL,_⟩:=id hn;refine h _ ⟨I.ok,I.os,I.bare,⟨fun b o e n hb hx=>?_,fun b o e n hb hx=>?_,I.base.free,fun b o e hx=>?_,I.base.tups,I.base.frzs,I.base.tbls⟩,⟨_,hn',fun j y v' e1 e2 e3=>?_⟩,fun y c e=>?_,I.free,I.freeC,fun p hp=>?_,tracked ⟨oL,hoL,I.free⟩ hs,by simpa using I.len⟩ ⟨_,hs,.inl rfl⟩
  ·exact (hs.2 b (zSN (zSO (zSP e) I.ok.above))).trans (I.base.keep b o e n hb hx)
  ·obtain ⟨sl,e1⟩:=I.base.slot b o e n hb hx;exact ⟨sl,(hs.2 b (zSN (zSO (zSP e) I.ok.above))).trans e1⟩
  ·obtain ⟨o',e1⟩:=I.base.there b o e hx;exact ⟨o',(hs.2 b (zSN (zSO (zSP e) I.ok.above))).trans e1⟩
  ·by_cases hj:j=i
   ·subst hj;rw [hi] at e1;cases e1;rw [List.getElem?_set_self hiσ] at e2;cases e2;exact ⟨u,r,.inl ⟨hk,by simp⟩⟩
   ·rw [List.getElem?_set_ne (Ne.symm hj)] at e2;obtain ⟨u',r',q⟩:=hl j y v' e1 e2 e3;refine ⟨u',r',?_⟩;rcases q with ⟨k,e⟩|⟨k,c,e,z⟩
    ·refine .inl ⟨k,?_⟩;have:y≠x:=fun e=>hj (zEw hN e1 (e▸hi));simp [this,e]
    ·exact .inr ⟨k,c,e,z.sameBut hs (cne y c e)⟩
  ·obtain ⟨w',z⟩:=I.cell y c e;exact ⟨w',z.sameBut hs (cne y c e)⟩
  ·obtain ⟨e,n,ne,nf,d⟩:=I.pin p hp;exact ⟨(hs.2 p.1 ne).trans e,n,ne,nf,d⟩
 ·have hfn:X.fn x=true:=by
   rcases hf with z | z
   ·exact z
   ·rw [z] at hk;cases hk
  obtain ⟨c,hc⟩:=I.ok.has x (.inl hk);obtain ⟨w',z⟩:=I.cell x c hc;refine wpAny_storeName_cell I.ok.kind hk hc z (fun h' hc' hs=>?_);obtain ⟨oc,hoc,hocd⟩:=id z;refine h {s with heap:=h'} ⟨I.ok,I.os,I.bare,⟨fun b o e n hb hx=>?_,fun b o e n hb hx=>?_,I.base.free,fun b o e hx=>?_,I.base.tups,I.base.frzs,I.base.tbls⟩,⟨m,hn.sameBut hs (Ne.symm (cne x c hc)),fun j y v' e1 e2 e3=>?_⟩,fun y c' e=>?_,I.free,I.freeC,fun p hp=>?_,tracked ⟨oc,hoc,I.freeC x c hc⟩ hs,by simpa using I.len⟩ ⟨c,hs,.inr hc⟩
  ·exact (hs.2 b (zSN (zSO (zSP e) (I.ok.cab x c hfn hc)))).trans (I.base.keep b o e n hb hx)
  ·obtain ⟨sl,e1⟩:=I.base.slot b o e n hb hx;exact ⟨sl,(hs.2 b (zSN (zSO (zSP e) (I.ok.cab x c hfn hc)))).trans e1⟩
  ·obtain ⟨o',e1⟩:=I.base.there b o e hx;exact ⟨o',(hs.2 b (zSN (zSO (zSP e) (I.ok.cab x c hfn hc)))).trans e1⟩
  ·by_cases hj:j=i
   ·subst hj;rw [hi] at e1;cases e1;rw [List.getElem?_set_self hiσ] at e2;cases e2;exact ⟨u,r,.inr ⟨.inl hk,c,hc,hc'⟩⟩
   ·rw [List.getElem?_set_ne (Ne.symm hj)] at e2;obtain ⟨u',r',q⟩:=hl j y v' e1 e2 e3;refine ⟨u',r',?_⟩;rcases q with q |⟨k,c',e,z'⟩
    ·exact .inl q
    ·refine .inr ⟨k,c',e,z'.sameBut hs ?_⟩;rintro rfl;exact hj (zEw hN e1 (I.ok.inj _ _ _ e hc▸hi))
  ·by_cases hcc:c'=c
   ·subst hcc;exact ⟨_,hc'⟩
   ·obtain ⟨w2,z2⟩:=I.cell y c' e;exact ⟨w2,z2.sameBut hs hcc⟩
  ·obtain ⟨e,n,ne,nf,d⟩:=I.pin p hp;refine ⟨(hs.2 p.1 ?_).trans e,n,ne,nf,d⟩;intro q;rw [q,hoc] at e;have q':oc=p.2:=Option.some.inj e;exact d w' (by rw [<-q'];exact hocd)
theorem zFI{M:Model}{A:Around}{E:Value->Shared->Prop}{i:Nat}{x:Str}{v:V}{u:Value}{Q:Unit->Shared->Prop}(I:Inv X pins σ H s)(hN:X.N.Nodup)(hi:X.N[i]?=some x)(hx:Loc X.env.scope x)(r:zd v u)
  (h: ∀s',Inv X pins (σ.set i (some v)) H s'->Q () s') (hf:X.fn x=true\/X.env.scope.names.lookup x=some .local:=by first | exact .inl rfl | exact .inr rfl | assumption):wpAny M A (storeName X.env x u) Q E s:=
 zDx I hN hi hx r (fun s' I' _=>h s' I') hf
theorem Inv.call'{s':Shared}{ch:List Addr}(I:Inv X pins σ H s)(ho:s'.os=s.os)(u:Un (yl X.stack) ch H H' s.heap s'.heap)(hok:HOk X.prog X.w H' s'.heap)(hg:AllBare s'.gens)
  (hch: ∀b∈ch,(b∈X.ex\/X.s₀.heap.objs.size<=b)/\b≠X.env.locals/\(∀x c,X.env.cells.lookup x=some c->c≠b)/\ ∀p∈X.pn++pins,p.1≠b):Inv X pins σ H' s':=by
 obtain ⟨h',g',d',t',o'⟩:=s';have e:o'=s.os:=ho;subst e;exact I.call (g':=g') (t':=t') (d':=d') u hok hg hch
end
abbrev XK:=Value->Option Addr->Hp->Prop
abbrev St:=List (Option V)
abbrev VK:=V->Hp->Prop
abbrev TE:=St->Hp->VK->Prop
abbrev TT:=St->Hp->(Bool->Hp->Prop)->Prop
abbrev TA:=St->Hp->(List V->Hp->Prop)->Prop
structure Ends where
 nx:St->Hp->Prop
 rt:VK
 bk:St->Hp->Prop:=fun _ _=>False
 ct:St->Hp->Prop:=fun _ _=>False
abbrev TS:=Ends->St->Hp->Prop
def EP(X:Cx)(pins:List (Addr×Obj))(σ:St)(Q:VK)(u:Value)(s':Shared):Prop:= ∃v H',Inv X pins σ H' s'/\zd v u/\Q v H'
def TP(X:Cx)(pins:List (Addr×Obj))(σ:St)(Q:Bool->Hp->Prop)(b:Bool)(s':Shared):Prop:= ∃H',Inv X pins σ H' s'/\Q b H'
def AP(X:Cx)(pins:List (Addr×Obj))(σ:St)(Q:List V->Hp->Prop)(us:List Value)(s':Shared):Prop:= ∃vs H',Inv X pins σ H' s'/\zN vs us/\Q vs H'
def SP(X:Cx)(pins:List (Addr×Obj))(D:Ends)(f:Flow)(s':Shared):Prop:=
 match f with
 | .next=> ∃σ' H',Inv X pins σ' H' s'/\D.nx σ' H'
 | .brk=> ∃σ' H',Inv X pins σ' H' s'/\D.bk σ' H'
 | .cont=> ∃σ' H',Inv X pins σ' H' s'/\D.ct σ' H'
 | .ret u=> ∃v σ' H',Inv X pins σ' H' s'/\zd v u/\D.rt v H'
def PE(X:Cx)(e:Expr)(t:TE):Prop:=
 ∀(pins:List (Addr×Obj)) (s:Shared) (σ:St) (H:Hp) (Q:VK),Inv X pins σ H s->t σ H Q->wpAny (model X.prog X.w) X.A (eval e X.env) (EP X pins σ Q) X.xe s
def PT(X:Cx)(e:Expr)(t:TT):Prop:=
 ∀(pins:List (Addr×Obj)) (s:Shared) (σ:St) (H:Hp) (Q:Bool->Hp->Prop),Inv X pins σ H s->t σ H Q->wpAny (model X.prog X.w) X.A (isTrue e X.env (eval e X.env)) (TP X pins σ Q) X.xe s
def PW(X:Cx)(e:Expr)(t:TT):Prop:=
 ∀(whole:Sem Value) (pins:List (Addr×Obj)) (s:Shared) (σ:St) (H:Hp) (Q:Bool->Hp->Prop),Inv X pins σ H s->t σ H Q->wpAny (model X.prog X.w) X.A (isTrue e X.env whole) (TP X pins σ Q) X.xe s
theorem PW.pt{X:Cx}{e:Expr}{t:TT}(h:PW X e t):PT X e t:=h _
def PA(X:Cx)(es:List Expr)(t:TA):Prop:=
 ∀(pos:Pos) (pins:List (Addr×Obj)) (s:Shared) (σ:St) (H:Hp) (Q:List V->Hp->Prop),Inv X pins σ H s->t σ H Q->wpAny (model X.prog X.w) X.A (spliced (backTo pos (starEach es X.env))) (AP X pins σ Q) X.xe s
def PS(X:Cx)(st:Stmt)(t:TS):Prop:=
 ∀(pins:List (Addr×Obj)) (s:Shared) (σ:St) (H:Hp) (D:Ends),Inv X pins σ H s->t D σ H->wpAny (model X.prog X.w) X.A (exec st X.env) (SP X pins D) X.xe s
def PSs(X:Cx)(st:List Stmt)(t:TS):Prop:=
 ∀(pins:List (Addr×Obj)) (s:Shared) (σ:St) (H:Hp) (D:Ends),Inv X pins σ H s->t D σ H->wpAny (model X.prog X.w) X.A (execs st X.env) (SP X pins D) X.xe s
theorem zS{α:Type}{t:Sem α}{Q Q':α->Shared->Prop}{M:Model}{A:Around}{E:Value->Shared->Prop}{s:Shared}(h:wpAny M A t Q E s)(hQ: ∀a s,Q a s->Q' a s):wpAny M A t Q' E s:=zSa h hQ fun _ _ x=>x
section
variable {X:Cx}
inductive XVar (i:Nat) (σ:St) (H:Hp) (Q:VK):Prop
 | mk (v:V) (h:σ[i]?=some (some v)) (q:Q v H)
def zCU(i:Nat):TE:=fun σ H Q=>XVar i σ H Q
def tC(v:V):TE:=fun _ H Q=>Q v H
theorem zHn{i:Nat}{x:Str}{pos:Pos}(hN:X.N[i]?=some x)(hv:Vis X.env.scope x)(hd:(x==("__debug__" :Str))=false:=by decide)(hcd:(x==("__classdict__" :Str))=false:=by decide):PE X (.Name x pos) (zCU i):=by
 intro pins s σ H Q I h;obtain ⟨v,e,h⟩:=h;obtain ⟨m,hn,hl⟩:=I.loc;obtain ⟨u,r,l⟩:=hl i x v hN e hv;have fin:EP X pins σ Q u s:=⟨v,H,I,r,h⟩;rcases l with ⟨hk,hm⟩|⟨hk,c,hc,hcell⟩
 ·exact wpAny_Name (wpAny_loadName_local I.ok.kind hk hn hm fin) hd
 ·rcases hk with hk | hk
  ·exact wpAny_Name (wpAny_loadName_cell I.ok.kind hk hc hcell fin) hd
  ·exact wpAny_Name (wpAny_loadName_free I.ok.kind hk hc hcell fin hcd) hd
theorem zAU{i j pos}:PE X (.Constant (.int i) j pos) (tC (.int i)):=fun _ _ _ H _ I h=>wpAny_Constant_int ⟨.int i,H,I.tok _,⟨_,rfl⟩,h⟩
theorem zRO{b j pos}:PE X (.Constant (.bool b) j pos) (tC (.bl b)):=fun _ _ _ H _ I h=>Constant_bool ⟨.bl b,H,I,rfl,h⟩
theorem zQQ{j pos}:PE X (.Constant .none j pos) (tC .non):=fun _ _ _ H _ I h=>Constant_none ⟨.non,H,I,rfl,h⟩
theorem zFt{x j pos}:PE X (.Constant (.str x) j pos) (tC (.str x)):=fun _ _ _ H _ I h=>Calls.Constant_str ⟨.str x,H,I.tok _,⟨_,rfl⟩,h⟩
def Gl(X:Cx)(x:Str):Prop:=X.env.kindOf x=some .globalImplicit
theorem zCE{E:Value->Shared->Prop}{pins:List (Addr×Obj)}{s:Shared}{σ:St}{H:Hp}{x:Str}{u:Value}{pos:Pos}{Q:Value->Shared->Prop}(I:Inv X pins σ H s)(hg:Gl X x)(hm:X.mg x=some u)(h:Q u s)
  (hd:(x==("__debug__" :Str))=false:=by decide):wpAny (model X.prog X.w) X.A (eval (.Name x pos) X.env) Q E s:=
 Calls.Name_function_global I.ok.kind hg (Calls.loadGlobal_global (by rw [I.ok.glob];exact I.mod.glob.keeps I.bk) hm h) hd
theorem zBh{E:Value->Shared->Prop}{pins:List (Addr×Obj)}{s:Shared}{σ:St}{H:Hp}{x:Str}{u:Value}{pos:Pos}{Q:Value->Shared->Prop}(I:Inv X pins σ H s)(hg:Gl X x)(hm:X.mg x=none)(hv:bootBuiltins x=some u)(h:Q u s)
  (hn:x≠ "__name__" :=by decide) (hd:(x==("__debug__" :Str))=false:=by decide):wpAny (model X.prog X.w) X.A (eval (.Name x pos) X.env) Q E s:=by
 obtain ⟨mb,h1,h2⟩:=I.mod.blt;exact Calls.Name_function_global I.ok.kind hg (Calls.loadGlobal_builtin (by rw [I.ok.glob];exact I.mod.glob.keeps I.bk) hm (by rw [I.ok.blt];exact h1.keeps I.bk) ((h2 x hn).trans hv) h) hd
theorem zOd{x:Str}{v:V}{u:Value}{pos:Pos}(hg:Gl X x)(hm:X.mg x=some u)(r:zd v u)(hd:(x==("__debug__" :Str))=false:=by decide):PE X (.Name x pos) (tC v):=
 fun _ _ _ H _ I h=>zCE I hg hm ⟨v,H,I,r,h⟩ hd
theorem zGZ{x:Str}{v:V}{u:Value}{pos:Pos}(hg:Gl X x)(hm:X.mg x=none)(hv:bootBuiltins x=some u)(r:zd v u)(hn:x≠ "__name__" :=by decide)(hd:(x==("__debug__" :Str))=false:=by decide):PE X (.Name x pos) (tC v):=
 fun _ _ _ H _ I h=>zBh I hg hm hv ⟨v,H,I,r,h⟩ hn hd
variable {a b:Expr}{ta tb:TE}{pos:Pos}
def PC(X:Cx)(op:CmpOp)(a b:Expr)(t:TE):Prop:=
 ∀(pins:List (Addr×Obj)) (s:Shared) (σ:St) (H:Hp) (Q:VK),Inv X pins σ H s->t σ H Q->
  wpAny (model X.prog X.w) X.A (eval a X.env) (fun v s₁=>wpAny (model X.prog X.w) X.A (eval b X.env) (fun u s₂=>wpAny (model X.prog X.w) X.A (compareOp op v u) (EP X pins σ Q) X.xe s₂) X.xe s₁) X.xe s
theorem zMF(b:Expr){op:CmpOp}(h:op≠ .In)(h2:op≠ .NotIn):behindInMarks op b=false:=by
 have e1:(op==CmpOp.In)=false:=by cases op<;>first | rfl | exact absurd rfl h
 have e2:(op==CmpOp.NotIn)=false:=by cases op<;>first | rfl | exact absurd rfl h2
 cases b<;>simp [behindInMarks,e1,e2]
def zQc(ta:TE):TE:=fun σ H Q=>ta σ H fun x H1=>Q (.bl (decide (x= .non))) H1
def zNV(ta:TE):TE:=fun σ H Q=>ta σ H fun x H1=>Q (.bl (!decide (x= .non))) H1
theorem zd.none_iff{x:V}{v:Value}(r:zd x v):(v==Value.none)=decide (x= .non):=by
 cases x with
 | non=>cases r;rfl
 | bl _=>cases r;rfl
 | int _=>obtain ⟨t,rfl⟩:=r;rfl
 | str _=>obtain ⟨t,rfl⟩:=r;rfl
 | byt _=>obtain ⟨t,rfl⟩:=r;rfl
 | flt _=>obtain ⟨t,rfl⟩:=r;rfl
 | ref _=>cases r;rfl
 | ty _=>cases r;rfl
theorem zQB{j pos'}(ha:PE X a ta):PC X .Is a (.Constant .none j pos') (zQc ta):=by
 intro pins s σ H Q I h;refine zS (ha pins s σ H _ I h) fun v s1 ⟨x,H1,I1,r1,q1⟩=>?_;exact Constant_none (is_none_gen ⟨.bl _,H1,I1,by rw [r1.none_iff];rfl,q1⟩)
theorem zJC{j pos'}(ha:PE X a ta):PC X .IsNot a (.Constant .none j pos') (zNV ta):=by
 intro pins s σ H Q I h;refine zS (ha pins s σ H _ I h) fun v s1 ⟨x,H1,I1,r1,q1⟩=>?_;exact Constant_none (isnot_none_gen ⟨.bl _,H1,I1,by rw [r1.none_iff];rfl,q1⟩)
inductive XB (x:V) (H:Hp) (Q:Bool->Hp->Prop):Prop
 | mk (c:Bool) (h:x= .bl c) (q:Q c H)
def tB(t:TE):TT:=fun σ H Q=>t σ H fun x H1=>XB x H1 Q
theorem zHX{op:CmpOp}{t:TE}(h:PC X op a b t)(h1:behindInMarks op b=false:=by first | exact zMF _ (by decide) (by decide)| rfl):PT X (.Compare a [op] [b] pos) (tB t):=by
 intro pins s σ H Q I hw;refine wpAny_isTrue_Compare1 (zS (h pins s σ H _ I hw) fun v s1 h1=>zS h1 fun u s2 h2=>zS h2 fun c s3 ⟨x,H1,I1,r1,q1⟩=>?_) h1;obtain ⟨d,rfl,q⟩:=q1;cases r1;exact zSu ⟨H1,I1,q⟩
theorem zLg{e:Expr}{t:TE}(h:PE X e t)(he: ∀whole,isTrue e X.env whole=(do let v<-whole;standAt e.pos;holding [v] (truthy v)):=by intro _;rfl):PT X e (tB t):=by
 intro pins s σ H Q I hw;refine isTrue_plain (zS (h pins s σ H _ I hw) fun v s1 ⟨x,H1,I1,r1,q1⟩=>?_) (he _);obtain ⟨d,rfl,q⟩:=q1;cases r1;exact zSu ⟨H1,I1,q⟩
variable {tA tB':TT}{rest:List Expr}
def zPZ(t u:TT):TT:=fun σ H Q=>t σ H fun c H1=>if c=true then u σ H1 Q else Q false H1
def tOr(t u:TT):TT:=fun σ H Q=>t σ H fun c H1=>if c=true then Q true H1 else u σ H1 Q
def zPT(t:TT):TT:=fun σ H Q=>t σ H fun c H1=>Q (!c) H1
theorem zJS(ha:PT X a tA):PW X (.BoolOp .And [a] pos) tA:=by
 intro wh pins s σ H Q I h;refine isTrue_and (zS (ha pins s σ H Q I h) fun c s1 e=>?_);cases c with
 | true=>exact isTrue_and_nil e
 | false=>exact e
theorem zQt(ha:PT X a tA):PW X (.BoolOp .Or [a] pos) tA:=by
 intro wh pins s σ H Q I h;refine isTrue_or (zS (ha pins s σ H Q I h) fun c s1 e=>?_);cases c with
 | false=>exact isTrue_or_nil e
 | true=>exact e
theorem zLq(ha:PT X a tA)(hb:PW X (.BoolOp .And (b::rest) pos) tB'):PW X (.BoolOp .And (a::b::rest) pos) (zPZ tA tB'):=by
 intro wh pins s σ H Q I h;refine isTrue_and (zS (ha pins s σ H _ I h) fun c s1 ⟨H1,I1,q1⟩=>?_);cases c with
 | true=>exact hb wh pins s1 σ H1 Q I1 q1
 | false=>exact ⟨H1,I1,q1⟩
theorem zRW(ha:PT X a tA)(hb:PW X (.BoolOp .Or (b::rest) pos) tB'):PW X (.BoolOp .Or (a::b::rest) pos) (tOr tA tB'):=by
 intro wh pins s σ H Q I h;refine isTrue_or (zS (ha pins s σ H _ I h) fun c s1 ⟨H1,I1,q1⟩=>?_);cases c with
 | true=>exact ⟨H1,I1,q1⟩
 | false=>exact hb wh pins s1 σ H1 Q I1 q1
theorem zKq(ha:PT X a tA):PT X (.UnaryOp .Not a pos) (zPT tA):=by
 intro pins s σ H Q I h;exact isTrue_not (ha pins s σ H (fun c H1=>Q (!c) H1) I h)
inductive XAnd (tb:TE) (x:V) (σ:St) (H:Hp) (Q:VK):Prop
 | mk (c:Bool) (h:x= .bl c) (q:if c=true then tb σ H Q else Q (.bl false) H)
def zNb(ta tb:TE):TE:=fun σ H Q=>ta σ H fun x H1=>XAnd tb x σ H1 Q
inductive XNot (x:V) (H:Hp) (Q:VK):Prop
 | mk (c:Bool) (h:x= .bl c) (q:Q (.bl (!c)) H)
def zNl(ta:TE):TE:=fun σ H Q=>ta σ H fun x H1=>XNot x H1 Q
theorem zKt{op}{t:TE}(h:PE X a t):PE X (.BoolOp op [a] pos) t:=fun pins s σ H Q I hw=>BoolOp_one (h pins s σ H Q I hw)
theorem zLY(ha:PE X a ta)(hb:PE X (.BoolOp .And (b::rest) pos) tb):PE X (.BoolOp .And (a::b::rest) pos) (zNb ta tb):=by
 intro pins s σ H Q I h;refine BoolOp_and (zS (ha pins s σ H _ I h) fun v s1 ⟨x,H1,I1,r1,q1⟩=>?_);obtain ⟨c,rfl,q1⟩:=q1;cases r1;refine zSu ?_;cases c with
 | true=>exact hb pins s1 σ H1 Q I1 q1
 | false=>exact ⟨.bl false,H1,I1,rfl,q1⟩
theorem zKi(ha:PE X a ta):PE X (.UnaryOp .Not a pos) (zNl ta):=by
 intro pins s σ H Q I h;refine UnaryOp_ (zS (ha pins s σ H _ I h) fun v s1 ⟨x,H1,I1,r1,q1⟩=>?_);obtain ⟨c,rfl,q1⟩:=q1;cases r1;exact not_of (zSu ⟨.bl (!c),H1,I1,rfl,q1⟩)
def tIf(t:TT)(ta tb:TE):TE:=fun σ H Q=>t σ H fun c H1=>if c=true then ta σ H1 Q else tb σ H1 Q
theorem zNF{c:Expr}(hc:PT X c tA)(ha:PE X a ta)(hb:PE X b tb):PE X (.IfExp c a b pos) (tIf tA ta tb):=by
 intro pins s σ H Q I h;refine wpAny_IfExp (zS (hc pins s σ H _ I h) fun d s1 ⟨H1,I1,q1⟩=>?_);cases d with
 | true=>exact ha pins s1 σ H1 Q I1 q1
 | false=>exact hb pins s1 σ H1 Q I1 q1
end
def SqL(K:zSy)(H:Hp)(a:Addr)(xs:List V):Prop:=
 Rd H a (.lst xs)\/
  ∃(o:Obj) (its:Array Value) (n:Nat),K.lookup a=some o/\o.cls= .type "list" /\o.dict=none/\o.data= .seq its n/\its.size<=sizeLine/\zN xs its.toList
def SqT(K:zSy)(H:Hp)(a:Addr)(xs:List V):Prop:=
 Rd H a (.tup xs)\/
  ∃(o:Obj) (its:Array Value) (n:Nat),K.lookup a=some o/\o.cls= .type "tuple" /\o.data= .seq its n/\its.size<=sizeLine/\zN xs its.toList
def zRz:Value->Option V
 | .none=>some .non
 | .bool b=>some (.bl b)
 | .int i _=>some (.int i)
 | .str x _=>some (.str x)
 | .bytes b _=>some (.byt b)
 | .float b _=>some (.flt b)
 | .ref a=>some (.ref a)
 | .type n=>some (.ty n)
 | _=>none
theorem zd.abs{x:V}{u:Value}(r:zd x u):zRz u=some x:=by
 cases x with
 | non=>cases r;rfl
 | bl _=>cases r;rfl
 | int _=>obtain ⟨t,rfl⟩:=r;rfl
 | str _=>obtain ⟨t,rfl⟩:=r;rfl
 | byt _=>obtain ⟨t,rfl⟩:=r;rfl
 | flt _=>obtain ⟨t,rfl⟩:=r;rfl
 | ref _=>cases r;rfl
 | ty _=>cases r;rfl
theorem zd.inj{x y:V}{u:Value}(r:zd x u)(q:zd y u):x=y:=Option.some.inj (r.abs.symm.trans q.abs)
theorem zN.inj: ∀{xs ys:List V} {us:List Value},zN xs us->zN ys us->xs=ys
 | _,_,_,.nil,.nil=>rfl
 | _,_,_,.cons r t,.cons r' t'=>by rw [r.inj r',zN.inj t t']
section
variable {X:Cx}{pins:List (Addr×Obj)}{σ:St}{H:Hp}{s:Shared}{a:Addr}{xs ys:List V}
theorem SqL.of{K:zSy}(h:H a=some (.lst xs)):SqL K H a xs:= .inl (.inl h)
theorem SqT.of{K:zSy}(h:H a=some (.tup xs)):SqT K H a xs:= .inl (.inl h)
theorem Inv.list(I:Inv X pins σ H s)(h:SqL X.K H a xs): ∃its:List Value,zN xs its/\PlainL s.heap a its.toArray/\xs.length<=sizeLine:=by
 rcases h with h |⟨o,its,n,hk,hc,hd,hs,hz,r⟩
 ·obtain ⟨z,its,n,r,e⟩:=h.ok I.hok;exact ⟨its,r,⟨_,n,e,rfl,rfl,rfl⟩,z⟩
 ·refine ⟨its.toList,r,⟨o,n,I.kIn a o hk,hc,hd,by simpa using hs⟩,?_⟩;have e:=r.length;simp only [Array.length_toList] at e;omega
theorem Inv.tuple(I:Inv X pins σ H s)(h:SqT X.K H a xs): ∃its:List Value,zN xs its/\IsTup s.heap a its.toArray/\xs.length<=sizeLine:=by
 rcases h with h |⟨o,its,n,hk,hc,hs,hz,r⟩
 ·obtain ⟨z,its,r,o,e,c,⟨n,d⟩,_⟩:=h.ok I.hok;exact ⟨its,r,⟨o,e,c,n,d⟩,z⟩
 ·refine ⟨its.toList,r,⟨o,I.kIn a o hk,hc,n,by simpa using hs⟩,?_⟩;have e:=r.length;simp only [Array.length_toList] at e;omega
theorem Inv.list_inj(I:Inv X pins σ H s)(h:SqL X.K H a xs)(h':SqL X.K H a ys):xs=ys:=by
 obtain ⟨its,r,⟨o,n,e,_,_,d⟩,_⟩:=I.list h;obtain ⟨its',r',⟨o',n',e',_,_,d'⟩,_⟩:=I.list h';rw [e] at e';cases e';rw [d] at d';injection d' with d1 _;have:its=its':=by simpa using congrArg Array.toList d1
 subst this;exact r.inj r'
end
abbrev Cx.wish(X:Cx)(E:Value->Shared->Prop):Cx:={X with xe:=E}
abbrev Cx.nox(X:Cx):Cx:=X.wish fun _ _=>False
theorem Cx.Ok.wish{X:Cx}(ok:X.Ok)(E:Value->Shared->Prop):(X.wish E).Ok:=
 ⟨ok.mod,ok.kind,ok.glob,ok.blt,ok.above,ok.inj,ok.has,ok.cab,ok.hd,ok.frames,ok.stk,ok.exf,ok.bs,ok.bsz,ok.noex,ok.exfs,ok.funs,ok.frf⟩
theorem Cx.Ok.unwish{X:Cx}{E:Value->Shared->Prop}(ok:(X.wish E).Ok):X.Ok:=
 ⟨ok.mod,ok.kind,ok.glob,ok.blt,ok.above,ok.inj,ok.has,ok.cab,ok.hd,ok.frames,ok.stk,ok.exf,ok.bs,ok.bsz,ok.noex,ok.exfs,ok.funs,ok.frf⟩
section
variable {X:Cx}{pins:List (Addr×Obj)}{σ:St}{H:Hp}{s:Shared}{E:Value->Shared->Prop}
theorem Inv.wish(I:Inv X pins σ H s)(E:Value->Shared->Prop):Inv (X.wish E) pins σ H s:=⟨I.ok.wish E,I.os,I.bare,I.base,I.loc,I.cell,I.free,I.freeC,I.pin,I.hok,I.len⟩
theorem Inv.unwish(I:Inv (X.wish E) pins σ H s):Inv X pins σ H s:=⟨I.ok.unwish,I.os,I.bare,I.base,I.loc,I.cell,I.free,I.freeC,I.pin,I.hok,I.len⟩
theorem SP.unwish{D:Ends}{f:Flow}{s':Shared}(h:SP (X.wish E) pins D f s'):SP X pins D f s':=by
 cases f with
 | next=>obtain ⟨σ',H',I,q⟩:=h;exact ⟨σ',H',I.unwish,q⟩
 | brk=>obtain ⟨σ',H',I,q⟩:=h;exact ⟨σ',H',I.unwish,q⟩
 | cont=>obtain ⟨σ',H',I,q⟩:=h;exact ⟨σ',H',I.unwish,q⟩
 | ret u=>obtain ⟨v,σ',H',I,r,q⟩:=h;exact ⟨v,σ',H',I.unwish,r,q⟩
theorem PSs.nox{st:List Stmt}{t:TS}(h:PSs X.nox st t):PSs X st t:=fun pins s σ H D I hw=>
 zSa (h pins s σ H D (I.wish _) hw) (fun _ _ q=>q.unwish) fun _ _ z=>False.elim z
end
section
variable {X:Cx}{st:Stmt}{rest:List Stmt}{t u:TS}{e:Expr}{te:TE}{pos:Pos}
def zNK:TS:=fun D σ H=>D.nx σ H
def zPy(t u:TS):TS:=fun D σ H=>t {D with nx:=u D} σ H
theorem zCv:PSs X [] zNK:=fun _ _ σ H _ I h=>wpAny_execs_nil ⟨σ,H,I,h⟩
theorem yr(h1:PS X st t)(h2:PSs X rest u):PSs X (st::rest) (zPy t u):=by
 intro pins s σ H D I h;refine wpAny_execs_cons (zS (h1 pins s σ H {D with nx:=u D} I h) fun f s1 q=>?_);cases f with
 | next=>
  obtain ⟨σ',H',I',q⟩:=q;exact h2 pins s1 σ' H' D I' q
 | ret v=>exact q
 | brk=>exact q
 | cont=>exact q
theorem zAJ(h1:PS X st t):PSs X [st] t:=by
 intro pins s σ H D I h;refine wpAny_execs_cons (zS (h1 pins s σ H D I h) fun f s1 q=>?_);cases f with
 | next=>exact wpAny_execs_nil q
 | ret v=>exact q
 | brk=>exact q
 | cont=>exact q
theorem Inv.quiet{pins:List (Addr×Obj)}{σ:St}{H:Hp}{s:Shared}(I:Inv X pins σ H s):interactive X.env=false:=by simp [interactive,I.ok.kind]
def zNd(te:TE):TS:=fun D σ H=>te σ H fun _ H1=>D.nx σ H1
theorem zOF(he:PE X e te)(hs:swapsWith e none pos.line X.env=pure false:=by rfl):PS X (.Expr e pos) (zNd te):=by
 intro pins s σ H D I h;exact wpAny_Expr_any (zS (he pins s σ H _ I h) fun v s1 ⟨x,H1,I1,r1,q1⟩=>⟨σ,H1,I1,q1⟩) I.quiet hs
def zQu(te:TE):TS:=fun D σ H=>te σ H D.rt
theorem zCM(he:PE X e te):PS X (.Return (some e) pos) (zQu te):=by
 intro pins s σ H D I h;exact wpAny_Return_some (zS (he pins s σ H _ I h) fun v s1 ⟨x,H1,I1,r1,q1⟩=>⟨x,σ,H1,I1,r1,q1⟩)
def zPc(c:TT)(t u:TS):TS:=fun D σ H=>c σ H fun b H1=>if b=true then t D σ H1 else u D σ H1
theorem zFZ{c:Expr}{a b:List Stmt}{tc:TT}(hc:PT X c tc)(ha:PSs X a t)(hb:PSs X b u):PS X (.If c a b pos) (zPc tc t u):=by
 intro pins s σ H D I h;refine wpAny_If (zS (hc pins s σ H _ I h) fun d s1 ⟨H1,I1,q1⟩=>?_);cases d with
 | true=>exact ha pins s1 σ H1 D I1 q1
 | false=>exact hb pins s1 σ H1 D I1 q1
def zLW:TS:=fun _ _ _=>False
theorem zLl{sts:List Stmt}:PSs X sts zLW:=fun _ _ _ _ _ _ h=>h.elim
end
abbrev TG:=V->St->Hp->(St->Hp->Prop)->Prop
abbrev TGs:=List V->St->Hp->(St->Hp->Prop)->Prop
def PG(X:Cx)(target:Expr)(t:TG):Prop:=
 ∀(pins:List (Addr×Obj)) (s:Shared) (σ:St) (H:Hp) (v:V) (u:Value) (Q:St->Hp->Prop),Inv X pins σ H s->zd v u->t v σ H Q->
  wpAny (model X.prog X.w) X.A (assign target X.env u) (fun _ s'=> ∃σ' H',Inv X pins σ' H' s'/\Q σ' H') X.xe s
def PGs(X:Cx)(ts:List Expr)(t:TGs):Prop:=
 ∀(pins:List (Addr×Obj)) (s:Shared) (σ:St) (H:Hp) (vs:List V) (us:List Value) (Q:St->Hp->Prop),Inv X pins σ H s->zN vs us->t vs σ H Q->
  wpAny (model X.prog X.w) X.A (assignInOrder ((assignEach ts X.env).map (·.2)) us) (fun _ s'=> ∃σ' H',Inv X pins σ' H' s'/\Q σ' H') X.xe s
abbrev zMw:=V->V->V->Hp->(Hp->Prop)->Prop
def zPM(X:Cx)(t:zMw):Prop:=
 ∀(pins:List (Addr×Obj)) (s:Shared) (σ:St) (H:Hp) (o i v:V) (ov iv u:Value) (Q:Hp->Prop),Inv X pins σ H s->zd o ov->zd i iv->zd v u->t o i v H Q->
  wpAny (model X.prog X.w) X.A (setItem ov iv u) (fun _ s'=> ∃H',Inv X pins σ H' s'/\Q H') X.xe s
abbrev TIp:=V->V->Hp->VK->Prop
def PIp(X:Cx)(op:Operator)(t:TIp):Prop:=
 ∀(pins:List (Addr×Obj)) (s:Shared) (σ:St) (H:Hp) (x y:V) (v u:Value) (Q:VK),Inv X pins σ H s->zd x v->zd y u->t x y H Q->
  wpAny (model X.prog X.w) X.A (inplaceOp op v u) (EP X pins σ Q) X.xe s
section
variable {X:Cx}{pos:Pos}
def zAA(i:Nat):TG:=fun v σ H Q=>Q (σ.set i (some v)) H
theorem zPF{i:Nat}{x:Str}(hN:X.N.Nodup)(hi:X.N[i]?=some x)(hx:Loc X.env.scope x)(hf:X.fn x=true\/X.env.scope.names.lookup x=some .local:=by first | exact .inl rfl | exact .inr rfl | assumption):PG X (.Name x pos) (zAA i):=by
 intro pins s σ H v u Q I r h;exact wpAny_assign_Name (zFI I hN hi hx r (fun s' I'=>⟨_,H,I',h⟩) hf)
def zQG:TGs:=fun vs σ H Q=>vs= [] /\Q σ H
inductive XCons (t:TG) (u:TGs) (vs:List V) (σ:St) (H:Hp) (Q:St->Hp->Prop):Prop
 | mk (v:V) (r:List V) (h:vs=v::r) (q:t v σ H fun σ' H'=>u r σ' H' Q)
def zNX(t:TG)(u:TGs):TGs:=fun vs σ H Q=>XCons t u vs σ H Q
theorem zOZ:PGs X [] zQG:=by
 intro pins s σ H vs us Q I r h;obtain ⟨e,h⟩:=h;subst e;cases r;exact assignInOrder_nil ⟨σ,H,I,h⟩
theorem zMz{e:Expr}{es:List Expr}{t:TG}{u:TGs}(h1:PG X e t)(h2:PGs X es u)
  (hs:(assignEach (e::es) X.env).map (·.2)=assign e X.env::(assignEach es X.env).map (·.2):=by rfl):PGs X (e::es) (zNX t u):=by
 intro pins s σ H vs us Q I r h;obtain ⟨v,vr,e1,h⟩:=h;subst e1;cases r with
 | cons r rr=>
  rw [hs];refine assignInOrder_cons (zS (h1 pins s σ H _ _ _ I r h) fun _ s1 ⟨σ1,H1,I1,q1⟩=>?_);exact h2 pins s1 σ1 H1 _ _ Q I1 rr q1
inductive XTup (K:zSy) (n:Nat) (t:TGs) (v:V) (σ:St) (H:Hp) (Q:St->Hp->Prop):Prop
 | mk (a:Addr) (xs:List V) (h:v= .ref a) (h2:SqT K H a xs) (h3:xs.length=n) (q:t xs σ H Q)
def zQq(K:zSy)(n:Nat)(t:TGs):TG:=fun v σ H Q=>XTup K n t v σ H Q
theorem zQw{es:List Expr}{k:Nat}{t:TGs}{n:Nat}(hc:X.calm=true)(h:PGs X es t)
  (hn:(assignEach es X.env).length=n:=by rfl) (hst:(assignEach es X.env).findIdx? (·.1)=none:=by rfl):PG X (.Tuple es k pos) (zQq X.K n t):=by
 intro pins s σ H v u Q I r hw;obtain ⟨a,xs,e1,hq,hl,hw⟩:=hw;subst e1;cases r;obtain ⟨its,rv,ht,hz⟩:=I.tuple hq;refine assign_Tuple_tuple (I.ok.hd hc) ht (by simp [hn,<-hl,rv.length]) hst fun h' hx=>?_;have I1:Inv X pins σ H {s with heap:=h'}:=I.kept (t':=s.toks) fun b o e=>hx b o (zSN (zSP e)) e;exact h pins _ σ H xs _ Q I1 (by simpa using rv) hw
def zDS(te:TE)(g:TG):TS:=fun D σ H=>te σ H fun x H1=>g x σ H1 D.nx
theorem zQm{tg e:Expr}{te:TE}{g:TG}(he:PE X e te)(hg:PG X tg g)(hs:swapsWithSole [tg] e pos.line X.env=pure false:=by rfl)(hw:swappedStores [tg] e X.env=pure none:=by rfl)
  (h1:(assignEach [tg] X.env).map (·.2)= [assign tg X.env] :=by rfl):PS X (.Assign [tg] e pos) (zDS te g):=by
 intro pins s σ H D I h;refine wpAny_Assign_stores (zS (he pins s σ H _ I h) fun v s1 ⟨x,H1,I1,r1,q1⟩=>?_) hs hw;rw [h1];exact zS (hg pins s1 σ H1 x v _ I1 r1 q1) fun _ s2 q=>q
theorem zCT{i:Nat}{x:Str}{e:Expr}{te:TE}{pos':Pos}(hN:X.N.Nodup)(hi:X.N[i]?=some x)(hx:Loc X.env.scope x)(he:PE X e te)(hs:swapsWith e (some (.Name x pos')) pos.line X.env=pure false:=by rfl)(hf:X.fn x=true\/X.env.scope.names.lookup x=some .local:=by first | exact .inl rfl | exact .inr rfl | assumption):
  PS X (.Assign [.Name x pos'] e pos) (zDS te (zAA i)):=by
 intro pins s σ H D I h;refine wpAny_Assign_Name (zS (he pins s σ H _ I h) fun v s1 ⟨y,H1,I1,r1,q1⟩=>?_) hs;exact zFI I1 hN hi hx r1 (fun s2 I2=>⟨_,H1,I2,q1⟩) hf
def zNU(to ti te:TE)(tget:V->V->Hp->VK->Prop)(tip:TIp)(tset:zMw):TS:=fun D σ H=>to σ H fun o H1=>ti σ H1 fun i H2=>tget o i H2 fun x H3=>te σ H3 fun y H4=>tip x y H4 fun z H5=>tset o i z H5 fun H6=>D.nx σ H6
def zQF(X:Cx)(t:V->V->Hp->VK->Prop):Prop:=
 ∀(pins:List (Addr×Obj)) (s:Shared) (σ:St) (H:Hp) (o i:V) (ov iv:Value) (Q:VK),Inv X pins σ H s->zd o ov->zd i iv->t o i H Q->
  wpAny (model X.prog X.w) X.A (getItem ov iv) (EP X pins σ Q) X.xe s
theorem zOV{o i e:Expr}{to ti te:TE}{tget:V->V->Hp->VK->Prop}{tip:TIp}{tset:zMw}{op:Operator}{tpos:Pos}(ho:PE X o to)(hi:PE X i ti)(hg:zQF X tget)(he:PE X e te)(hp:PIp X op tip)(hs:zPM X tset)
  (ha: ∀ov iv new,augStore i ov iv new=(do holding [new,ov,iv] (setItem ov iv new);release [new,ov,iv] [];pure .next):=by intros;rfl):PS X (.AugAssign (.Subscript o i tpos) op e pos) (zNU to ti te tget tip tset):=by
 intro pins s σ H D I h;refine wpAny_AugAssign_SubscriptAny (zS (ho pins s σ H _ I h) fun ov s1 ⟨x1,H1,I1,r1,q1⟩=>?_) ha;refine zS (hi pins s1 σ H1 _ I1 q1) fun iv s2 ⟨x2,H2,I2,r2,q2⟩=>?_;refine zS (hg pins s2 σ H2 x1 x2 ov iv _ I2 r1 r2 q2) fun old s3 ⟨x3,H3,I3,r3,q3⟩=>?_;refine zS (he pins s3 σ H3 _ I3 q3) fun v s4 ⟨x4,H4,I4,r4,q4⟩=>?_;refine zS (hp pins s4 σ H4 x3 x4 old v _ I4 r3 r4 q4) fun new s5 ⟨x5,H5,I5,r5,q5⟩=>?_;exact zS (hs pins s5 σ H5 x1 x2 x5 ov iv new _ I5 r1 r2 r5 q5) fun _ s6 ⟨H6,I6,q6⟩=>⟨σ,H6,I6,q6⟩
def ipI(f:Int->Int->Int):TIp:=fun x y H Q=> ∃i j,x= .int i/\y= .int j/\Q (.int (f i j)) H
theorem zQM:PIp X .Add (ipI fun i j=>i+j):=by
 intro pins s σ H x y v u Q I r1 r2 h;obtain ⟨i,j,e1,e2,q⟩:=h;subst e1;subst e2;obtain ⟨t,rfl⟩:=r1;obtain ⟨t',rfl⟩:=r2;exact iadd_int ⟨.int _,H,I.tok _,⟨_,rfl⟩,q⟩
def zHe(c:TT)(tb:TS):TS:=fun D σ H=> ∃W:Nat->St->Hp->Prop,(∃m,W m σ H)/\ ∀m σ H,W m σ H->
 c σ H fun b H1=>if b=true then∃N:St->Hp->Prop,(∀σ' H',N σ' H'-> ∃m',m'<m/\W m' σ' H')/\tb {D with nx:=N,ct:=N,bk:=D.nx} σ H1 else D.nx σ H1
theorem zII{c:Expr}{body:List Stmt}{tc:TT}{tb:TS}(hp:PassesOwn (model X.prog X.w) X.A X.env X.xe)(hc:PT X c tc)(hb:PSs X body tb):PS X (.While c body [] pos) (zHe tc tb):=by
 intro pins s σ H D I h;obtain ⟨W,⟨m0,w0⟩,turn⟩:=h;refine wpAny_While (codeAny_whileLoop (fun n s'=> ∃σ' H',Inv X pins σ' H' s'/\W n σ' H') ?_ m0 ⟨σ,H,I,w0⟩);rintro n s1 ⟨σ1,H1,I1,w1⟩;refine wpAny_passesOwn hp (zS (hc pins s1 σ1 H1 _ I1 (turn n σ1 H1 w1)) fun b s2 ⟨H2,I2,q2⟩=>?_);cases b with
 | true=>
  obtain ⟨N,hN,q2⟩:=q2;rw [if_pos rfl];refine wpAny_passesOwn hp (zS (hb pins s2 σ1 H2 _ I2 q2) fun f s3 q3=>?_);cases f with
  | next=>
   obtain ⟨σ3,H3,I3,n3⟩:=q3;obtain ⟨m',hm,w3⟩:=hN σ3 H3 n3;exact ⟨m',hm,σ3,H3,I3,w3⟩
  | cont=>
   obtain ⟨σ3,H3,I3,n3⟩:=q3;obtain ⟨m',hm,w3⟩:=hN σ3 H3 n3;exact ⟨m',hm,σ3,H3,I3,w3⟩
  | brk=>exact q3
  | ret v=>exact q3
 | false=>
  rw [if_neg zSS];exact wpAny_execs_nil ⟨σ1,H2,I2,q2⟩
end
structure It where
 go:Nat->Hp->Prop
 yld:Nat->Hp->V->Hp->Prop
 stop:Nat->Hp->Prop
def zBD(X:Cx)(pins:List (Addr×Obj))(H:Hp)(b:Addr):Prop:=
 H b=none/\b≠X.env.locals/\b∉X.fs/\(b∈X.ex\/X.s₀.heap.objs.size<=b)/\(∀x c,X.env.cells.lookup x=some c->c≠b)/\ ∀p∈X.pn++pins,p.1≠b
theorem Inv.fpOk{X:Cx}{pins:List (Addr×Obj)}{σ:St}{H H':Hp}{s:Shared}{b:Addr}(I:Inv X pins σ H s)(hb:s.heap.objs.size<=b)(hn:H' b=none):zBD X pins H' b:=by
 refine ⟨hn,zSq (zSO I.lt hb),I.nofs hb,.inr (zST I.sz hb),fun x c e z=>?_,fun p hp z=>?_⟩
 ·obtain ⟨v,q⟩:=I.cell x c e;exact absurd (zSO q.lt (by rw [z];exact hb)) (Nat.lt_irrefl _)
 ·exact absurd (zSO (zSP (I.pin p hp).1) (by rw [z];exact hb)) (Nat.lt_irrefl _)
structure Turn(P:Program)(w:World)(K:zSy)(tg:Expr)(J:It)(fp:List Addr)(it:Addr)(tn:Nat->Heap->Prop):Prop where
 mem:it∈fp
 obj: ∀i h,tn i h-> ∀b∈fp,∃o,h.get? b=some o/\ ∀v,o.data≠ .cell v
 keep: ∀i h h',tn i h->(∀b∈fp,∀o,h.get? b=some o->h'.get? b=some o)->tn i h'
 item: ∀(X:Cx),X.prog=P->X.w=w->X.K=K->X.calm=true-> ∀(i:Nat) (pins:List (Addr×Obj)) (s:Shared) (σ:St) (H:Hp) (E:Value->Shared->Prop),Inv X pins σ H s->(∀b∈fp,zBD X pins H b)->tn i s.heap->J.go i H->
  wpAny (model P w) X.A (pyNext (.ref it)) (fun r s1=> ∃u,r=some u/\
   wpAny (model P w) X.A (letOwnedTupleGo tg (.ref it) u) (fun _ s2=> ∃x H',Inv X pins σ H' s2/\zd x u/\J.yld i H x H'/\tn (i+1) s2.heap/\ ∀b∈fp,H' b=none) E s1) E s
 done: ∀(X:Cx),X.prog=P->X.w=w->X.K=K->X.calm=true-> ∀(i:Nat) (pins:List (Addr×Obj)) (s:Shared) (σ:St) (H:Hp) (E:Value->Shared->Prop),Inv X pins σ H s->(∀b∈fp,zBD X pins H b)->tn i s.heap->J.stop i H->
  wpAny (model P w) X.A (pyNext (.ref it)) (fun r s1=>r=none/\Inv X pins σ H s1) E s
 self: ∀(A:Around) (i:Nat) (s:Shared) (Q:Value->Shared->Prop) (E:Value->Shared->Prop),tn i s.heap->Q (.ref it) s->wpAny (model P w) A (pyIter (.ref it)) Q E s
abbrev TI:=St->Hp->(It->Hp->Prop)->Prop
def PIE(X:Cx)(pins:List (Addr×Obj))(σ:St)(tg:Expr)(R:It->Hp->Prop)(itv:Value)(s2:Shared):Prop:=
 ∃(it:Addr) (fp:List Addr) (tn:Nat->Heap->Prop) (J:It) (H':Hp),itv= .ref it/\Inv X pins σ H' s2/\Turn X.prog X.w X.K tg J fp it tn/\tn 0 s2.heap/\(∀b∈fp,zBD X pins H' b)/\R J H'
def PI(X:Cx)(tg iter:Expr)(wi:TI):Prop:=
 ∀(pins:List (Addr×Obj)) (s:Shared) (σ:St) (H:Hp) (R:It->Hp->Prop),Inv X pins σ H s->wi σ H R->
  wpAny (model X.prog X.w) X.A (eval iter X.env) (fun v s1=>wpAny (model X.prog X.w) X.A (pyIter v) (PIE X pins σ tg R) X.xe s1) X.xe s
theorem zJk{M:Model}{A:Around}{E:Value->Shared->Prop}{s:Shared}{tg:Expr}{it:Addr}{u:Value}{o:Obj}{n:String}{vs:Array Value}{Q:Unit->Shared->Prop}(ho:s.heap.get? it=some o)(hc:o.cls= .type n)(hd:o.data= .fields vs)
  (hn: ["enumerate","zip","dict_itemiterator","dict_reverseitemiterator","odict_iterator","itertools.zip_longest","itertools.pairwise"].contains n=false) (hQ:Q () s):wpAny M A (letOwnedTupleGo tg (.ref it) u) Q E s:=by
 unfold letOwnedTupleGo;cases tg<;>first
  | exact zSL hQ
  |(cases u<;>first
    | exact zSL hQ
    |(refine zSG (wpAny_load ho ?_)
      rw [hc,hd];show wpAny M A (if (["enumerate","zip","dict_itemiterator","dict_reverseitemiterator","odict_iterator","itertools.zip_longest","itertools.pairwise"].contains n&&vs[0]?==some (rawInt _))=true then _ else _) Q E s;rw [if_neg (by intro h;rw [hn,Bool.false_and] at h;cases h)];exact zSL hQ))
def Itl(K:zSy)(a:Addr):It:=
 ⟨fun i H=> ∃xs x,SqL K H a xs/\xs[i]?=some x,fun i H x H'=>H'=H/\ ∀xs,SqL K H a xs->xs[i]?=some x,fun i H=> ∃xs,SqL K H a xs/\xs.length<=i⟩
def Itr(lo:Int)(n:Nat):It:=⟨fun i _=>i<n,fun i H x H'=>H'=H/\x= .int (lo+i),fun i _=>n<=i⟩
theorem zLs{P:Program}{w:World}{K:zSy}{tg:Expr}(a it:Addr):Turn P w K tg (Itl K a) [it] it (fun i h=>h.IsListIter it a i) where
 mem:=by simp
 obj:=fun i h st b hb=>by
  have e:b=it:=by simpa using hb
  subst e;obtain ⟨o,e,c,d⟩:=st;exact ⟨o,e,fun v z=>by rw [d] at z;cases z⟩
 keep:=fun i h h' st k=>st.at fun o e=>k it (by simp) o e
 item:=by
  intro X hP hw hK hc i pins s σ H E I hf st hg;subst hP hw hK;obtain ⟨xs,x,hq,hx⟩:=hg;obtain ⟨its,rv,p,hz⟩:=I.list hq;obtain ⟨u,hu,ru⟩:=rv.get hx;obtain ⟨f0,f1,f2,f3,f4,f5⟩:=hf it (by simp);refine wpAny_pyNext_list_item st p.isList (x:=u) (by simpa using hu) fun h' st' sb=>?_;have I1:Inv X pins σ H {s with heap:=h'}:=I.turned (t':=s.toks) (fun b o hb e=>(sb.2 b hb).trans e) f0 f1 f3 f4 f5;obtain ⟨o,e,c,d⟩:=id st';exact ⟨u,rfl,zJk (s:={s with heap:=h'}) e c d (by decide) ⟨x,H,I1,ru,⟨rfl,fun ys hy=>by rw [I.list_inj hy hq];exact hx⟩,st',fun b hb=>(hf b hb).1⟩⟩
 done:=by
  intro X hP hw hK hc i pins s σ H E I hf st hg;subst hP hw hK;obtain ⟨xs,hq,hx⟩:=hg;obtain ⟨its,rv,p,hz⟩:=I.list hq;obtain ⟨f0,f1,f2,f3,f4,f5⟩:=hf it (by simp);have hl:=rv.length;exact wpAny_pyNext_list_end (I.ok.hd hc) st p.isList (by simp;omega) fun h' eb=>⟨rfl,I.turned (t':=s.toks) (fun b o hb e=>eb b o hb e) f0 f1 f3 f4 f5⟩
 self:=fun _ _ _ _ _ st h=>wpAny_pyIter_listiter st h
theorem zKP{P:Program}{w:World}{K:zSy}{tg:Expr}(it:Addr)(lo:Int)(n:Nat):Turn P w K tg (Itr lo n) [it] it (fun i h=>IsRangeIter h it (lo+(i:Nat)*1) ((n:Int) -(i:Nat)) 1) where
 mem:=by simp
 obj:=fun i h st b hb=>by
  have e:b=it:=by simpa using hb
  subst e;exact ⟨_,st,fun v z=>by
   have z':Data.fields _=Data.cell v:=z;cases z'⟩
 keep:=fun i h h' st k=>k it (by simp) _ st
 item:=by
  intro X hP hw hK hc i pins s σ H E I hf st hg;subst hP hw hK;obtain ⟨f0,f1,f2,f3,f4,f5⟩:=hf it (by simp);have W:=Walks.range (prog:=X.prog) (w:=X.w) (I.ok.hd hc) it lo 1 n;refine W.item i s _ _ hg st fun v h' tk hv st' kk=>?_;obtain ⟨t,rfl⟩:=hv;have I1:Inv X pins σ H {s with heap:=h',toks:=tk}:=I.turned (fun b o hb e=>kk b o (by simpa using hb) e) f0 f1 f3 f4 f5;refine ⟨_,rfl,zJk (s:={s with heap:=h',toks:=tk}) (n:= "range_iterator") st' rfl rfl (by decide) ⟨.int (lo+i),H,I1,⟨t,?_⟩,⟨rfl,rfl⟩,st',fun b hb=>(hf b hb).1⟩⟩;rw [Int.mul_one]
 done:=by
  intro X hP hw hK hc i pins s σ H E I hf st hg;subst hP hw hK;obtain ⟨f0,f1,f2,f3,f4,f5⟩:=hf it (by simp);exact wpAny_pyNext_range_end (I.ok.hd hc) st (by have:n<=i:=hg;omega) fun h' eb=>⟨rfl,I.turned (t':=s.toks) (fun b o hb e=>eb b o hb e) f0 f1 f3 f4 f5⟩
 self:=fun _ _ _ _ _ st h=>wpAny_pyIter_rangeiter st h
section
variable {X:Cx}{tg:Expr}
inductive XIl (K:zSy) (x:V) (H:Hp) (R:It->Hp->Prop):Prop
 | mk (a:Addr) (h:x= .ref a) (h2: ∃xs,SqL K H a xs) (q:R (Itl K a) H)
def zNW(K:zSy)(tl:TE):TI:=fun σ H R=>tl σ H fun x H1=>XIl K x H1 R
theorem zOU{l:Expr}{tl:TE}(hl:PE X l tl):PI X tg l (zNW X.K tl):=by
 intro pins s σ H R I h;refine zS (hl pins s σ H _ I h) fun v s1 ⟨x,H1,I1,r1,q1⟩=>?_;obtain ⟨a,e,⟨xs,hq⟩,q⟩:=q1;subst e;cases r1;obtain ⟨its,rv,p,hz⟩:=I1.list hq;refine wpAny_pyIter_list p.isList ?_;refine ⟨s1.heap.objs.size,[s1.heap.objs.size],_,_,H1,rfl,I1.kept (t':=s1.toks) fun b o e=>zSH _ e,zLs a _,⟨_,zSY _ rfl,rfl,rfl⟩,fun b hb=>?_,q⟩;have e:b=s1.heap.objs.size:=by simpa using hb
 subst e;exact I1.fpOk (zSJ _) (I1.hok.fresh (zSJ _))
theorem zMT{pins:List (Addr×Obj)}{σ:St}{H:Hp}{s:Shared}{R:It->Hp->Prop}{E:Value->Shared->Prop}{lo hi:Int}{t u v:Tok}{tk:Nat}(I:Inv X pins σ H s)(h1: -(2^62)<=lo)(h2:lo<2^62)(h3: -(2^62)<=hi)(h4:hi<2^62)
  (q:R (Itr lo (hi - lo).toNat) H):wpAny (model X.prog X.w) X.A (pyIter (.ref s.heap.objs.size)) (PIE X pins σ tg R) E {s with heap:=s.heap.push {cls:= .type "range",data:= .fields #[.int lo t,.int hi u,.int 1 v]},toks:=tk}:=by
 refine wpAny_pyIter_range (IsRange.new ..) (small_one h1 h2 h3 h4) ?_;have I1:Inv X pins σ H {s with heap:=s.heap.push {cls:= .type "range",data:= .fields #[.int lo t,.int hi u,.int 1 v]},toks:=tk}:=I.kept fun b o e=>zSH _ e;refine ⟨(s.heap.push {cls:= .type "range",data:= .fields #[.int lo t,.int hi u,.int 1 v]}).objs.size,[(s.heap.push {cls:= .type "range",data:= .fields #[.int lo t,.int hi u,.int 1 v]}).objs.size],_,_,H,rfl,
  I1.kept (t':=tk) fun b o e=>zSH _ e,zKP _ lo (hi - lo).toNat,?_,fun b hb=>?_,q⟩
 ·have e1:lo+((0:Nat):Int)*1=lo:=by simp
  have e2:(((hi - lo).toNat:Nat):Int) -((0:Nat):Int)=Builtin.Range.rangeSize lo hi 1:=by rw [rangeSize_one];split<;>omega
  show IsRangeIter _ _ (lo+((0:Nat):Int)*1) ((((hi - lo).toNat:Nat):Int) -((0:Nat):Int)) 1;rw [e1,e2];exact zSY _ rfl
 ·have e:b=(s.heap.push {cls:= .type "range",data:= .fields #[.int lo t,.int hi u,.int 1 v]}).objs.size:=by simpa using hb
  subst e;exact I1.fpOk (zSJ _) (I1.hok.fresh (zSJ _))
def zNi(ta:TA):TI:=fun σ H R=>ta σ H fun vs H1=> ∃j:Int,vs= [.int j] /\ -(2^62)<=j/\j<2^62/\R (Itr 0 j.toNat) H1
theorem zLh{a:Expr}{ta:TA}{p pos:Pos}(hg:Gl X "range")(hm:X.mg "range" =none)(ha:PA X [a] ta)(hs:starEach [a] X.env= [(false,eval a X.env)] :=by rfl):PI X tg (.Call (.Name "range" p) [a] [] pos) (zNi ta):=by
 intro pins s σ H R I h;refine Call_ (zBh I hg hm boot_range (PyProof.Rows.callWith_type1 (zS (ha pos pins s σ H _ I h) fun us s1 ⟨vs,H1,I1,r1,q1⟩=>?_) hs rfl));obtain ⟨j,e,q1,q2,q⟩:=q1;subst e;cases r1 with
 | cons r rr=>
  cases rr;obtain ⟨t,rfl⟩:=r;exact call_range_1 (zMT I1 (by omega) (by omega) q1 q2 (by simpa using q))
def zPk(wi:TI)(g:TG)(tb:TS):TS:=fun D σ H=>wi σ H fun J H1=> ∃W:Nat->Nat->St->Hp->Prop,(∃m,W 0 m σ H1)/\ ∀i m σ H,W i m σ H->
 (J.stop i H/\D.nx σ H)\/(J.go i H/\ ∃N:St->Hp->Prop,(∀σ' H',N σ' H'-> ∃m',m'<m/\W (i+1) m' σ' H')/\ ∀x H',J.yld i H x H'->g x σ H' fun σ2 H2=>tb {D with nx:=N,ct:=N,bk:=D.nx} σ2 H2)
def zFr(fp:List Addr)(h:Heap):List (Addr×Obj):=fp.filterMap fun b=>(h.get? b).map fun o=>(b,o)
theorem yH{fp:List Addr}{h:Heap}{b:Addr}{o:Obj}(hb:b∈fp)(e:h.get? b=some o):(b,o)∈zFr fp h:=List.mem_filterMap.mpr ⟨b,hb,by rw [e];rfl⟩
theorem zLk{fp:List Addr}{h:Heap}{p:Addr×Obj}(hp:p∈zFr fp h):p.1∈fp/\h.get? p.1=some p.2:=by
 obtain ⟨b,hb,e⟩:=List.mem_filterMap.mp hp;cases q:h.get? b with
 | none=>rw [q] at e;cases e
 | some o=>
  rw [q] at e;have e':(b,o)=p:=Option.some.inj e;subst e';exact ⟨hb,q⟩
theorem Inv.pinned{pins:List (Addr×Obj)}{σ:St}{H:Hp}{s:Shared}{fp:List Addr}(I:Inv X pins σ H s)(hf: ∀b∈fp,zBD X pins H b)(ho: ∀b∈fp,∃o,s.heap.get? b=some o/\ ∀v,o.data≠ .cell v):Inv X (pins++zFr fp s.heap) σ H s:=
 I.pins_of fun p hp=>(zTC.mp hp).elim (fun z=>I.pin p (zSV _ z)) fun z=>by
  obtain ⟨hb,e⟩:=zLk z;obtain ⟨f0,f1,f2,_⟩:=hf p.1 hb;obtain ⟨o,e',d⟩:=ho p.1 hb;rw [e] at e';cases e';exact ⟨e,f0,f1,f2,d⟩
theorem Inv.unpinned{pins pl:List (Addr×Obj)}{σ:St}{H:Hp}{s:Shared}(I:Inv X (pins++pl) σ H s):Inv X pins σ H s:=I.pins_of fun p hp=>I.pin p (zSV _ (List.mem_append_left _ hp))
theorem zQi{iter:Expr}{body:List Stmt}{wi:TI}{g:TG}{tb:TS}{pos:Pos}(hp:PassesOwn (model X.prog X.w) X.A X.env X.xe)(hc:X.calm=true)(hi:PI X tg iter wi)(hg:PG X tg g)(hb:PSs X body tb)
  (hs: ∀x,foldedSetIterable iter X.env x=pure x:=by intro _;rfl):PS X (.For tg iter body [] pos) (zPk wi g tb):=by
 intro pins s σ H D I h;refine wpAny_For (zS (hi pins s σ H _ I h) fun v s1 h1=>zS h1 fun itv s2 h2=>?_) hs;obtain ⟨it,fp,tn,J,H2,e,I2,T,st2,f2,W,⟨m0,w0⟩,turn⟩:=h2;subst e;have stat: ∀{H':Hp},(∀b∈fp,H' b=none)-> ∀b∈fp,zBD X pins H' b:=fun hn b hb=>⟨hn b hb,(f2 b hb).2⟩;refine codeAny_forLoop_any (fun n s'=> ∃i σ' H',Inv X pins σ' H' s'/\tn i s'.heap/\(∀b∈fp,H' b=none)/\W i n σ' H') ?_ m0 ⟨0,σ,H2,I2,st2,fun b hb=>(f2 b hb).1,w0⟩;rintro n s3 ⟨i,σ3,H3,I3,st3,fr3,w3⟩;rcases turn i n σ3 H3 w3 with ⟨stop,qn⟩|⟨go,N,hN,step⟩
 ·refine wpAny_passesOwn hp (zS (T.done X rfl rfl rfl hc i pins s3 σ3 H3 X.xe I3 (stat fr3) st3 stop) fun r s4 ⟨hr,I4⟩=>?_);subst hr;exact wpAny_execs_nil ⟨σ3,H3,I4,qn⟩
 ·refine wpAny_passesOwn hp (zS (T.item X rfl rfl rfl hc i pins s3 σ3 H3 X.xe I3 (stat fr3) st3 go) fun r s4 ⟨u,hr,h4⟩=>?_);subst hr;refine wpAny_passesOwn hp (zS h4 fun _ s5 ⟨x,H5,I5,r5,y5,st5,fr5⟩=>?_);have I5':=I5.pinned (stat fr5) (T.obj _ _ st5);refine wpAny_passesOwn hp (zS (hg _ s5 σ3 H5 x u _ I5' r5 (step x H5 y5)) fun _ s6 ⟨σ6,H6,I6,q6⟩=>?_);refine wpAny_passesOwn hp (zS (hb _ s6 σ6 H6 _ I6 q6) fun f s7 q7=>?_);have again: ∀{σ7:St} {H7:Hp},Inv X (pins++zFr fp s5.heap) σ7 H7 s7->N σ7 H7-> ∃m,m<n/\ ∃i σ' H',Inv X pins σ' H' s7/\tn i s7.heap/\(∀b∈fp,H' b=none)/\W i m σ' H':=fun {σ7 H7} I7 n7=>by
   obtain ⟨m',hm,w7⟩:=hN σ7 H7 n7;refine ⟨m',hm,i+1,σ7,H7,I7.unpinned,T.keep _ _ _ st5 fun b hb o e=>(I7.pin (b,o) (zSV _ (zSV _ (yH hb e)))).1,fun b hb=>?_,w7⟩;obtain ⟨o,e,d⟩:=T.obj _ _ st5 b hb;exact (I7.pin (b,o) (zSV _ (zSV _ (yH hb e)))).2.1
  cases f with
  | next=>obtain ⟨σ7,H7,I7,n7⟩:=q7;exact again I7 n7
  | cont=>obtain ⟨σ7,H7,I7,n7⟩:=q7;exact again I7 n7
  | brk=>obtain ⟨σ7,H7,I7,q7⟩:=q7;exact ⟨σ7,H7,I7.unpinned,q7⟩
  | ret v=>obtain ⟨x7,σ7,H7,I7,r7,q7⟩:=q7;exact ⟨x7,σ7,H7,I7.unpinned,r7,q7⟩
end
theorem zHp{c:TT}{tb:TS}{D:Ends}{σ:St}{H:Hp}(Pv:St->Hp->Prop)(μ:St->Hp->Nat)(h0:Pv σ H)
  (hs: ∀σ H,Pv σ H->c σ H fun b H1=>if b=true then tb {D with nx:=fun σ' H'=>Pv σ' H'/\μ σ' H'<μ σ H,ct:=fun σ' H'=>Pv σ' H'/\μ σ' H'<μ σ H,bk:=D.nx} σ H1 else D.nx σ H1)
  (mono: ∀σ H Q Q',(∀b H1,Q b H1->Q' b H1)->c σ H Q->c σ H Q'):zHe c tb D σ H:=by
 refine ⟨fun m σ H=>m=μ σ H/\Pv σ H,⟨_,rfl,h0⟩,?_⟩;rintro m σ H ⟨rfl,p⟩;refine mono σ H _ _ (fun b H1 q=>?_) (hs σ H p);cases b with
 | true=>exact ⟨_,fun σ' H' ⟨p',l⟩=>⟨_,l,rfl,p'⟩,q⟩
 | false=>exact q
abbrev R2:=V->V->Hp->VK->Prop
def OpR(X:Cx)(f:Value->Value->Sem Value)(r:R2):Prop:=
 ∀(pins:List (Addr×Obj)) (s:Shared) (σ:St) (H:Hp) (x y:V) (v u:Value) (Q:VK),Inv X pins σ H s->zd x v->zd y u->r x y H Q->
  wpAny (model X.prog X.w) X.A (f v u) (EP X pins σ Q) X.xe s
def UnR(X:Cx)(f:Value->Sem Value)(r:V->Hp->VK->Prop):Prop:=
 ∀(pins:List (Addr×Obj)) (s:Shared) (σ:St) (H:Hp) (x:V) (v:Value) (Q:VK),Inv X pins σ H s->zd x v->r x H Q->
  wpAny (model X.prog X.w) X.A (f v) (EP X pins σ Q) X.xe s
def yJ(X:Cx)(f:Value)(r:List V->Hp->VK->Prop):Prop:=
 ∀(pins:List (Addr×Obj)) (s:Shared) (σ:St) (H:Hp) (xs:List V) (us:List Value) (Q:VK),Inv X pins σ H s->zN xs us->r xs H Q->
  wpAny (model X.prog X.w) X.A (call f us) (EP X pins σ Q) X.xe s
def tOp(r:R2)(ta tb:TE):TE:=fun σ H Q=>ta σ H fun x H1=>tb σ H1 fun y H2=>r x y H2 Q
def tUn(r:V->Hp->VK->Prop)(ta:TE):TE:=fun σ H Q=>ta σ H fun x H1=>r x H1 Q
inductive XI (C:Int->Int->Prop) (g:Int->Int->V) (x y:V) (H:Hp) (Q:VK):Prop
 | mk (i j:Int) (h1:x= .int i) (h2:y= .int j) (h:C i j) (q:Q (g i j) H)
def rI(C:Int->Int->Prop)(g:Int->Int->V):R2:=fun x y H Q=>XI C g x y H Q
inductive XI0 (g:Int->Int->V) (x y:V) (H:Hp) (Q:VK):Prop
 | mk (i j:Int) (h1:x= .int i) (h2:y= .int j) (q:Q (g i j) H)
def rI0(g:Int->Int->V):R2:=fun x y H Q=>XI0 g x y H Q
inductive XU (g:Int->V) (x:V) (H:Hp) (Q:VK):Prop
 | mk (i:Int) (h1:x= .int i) (q:Q (g i) H)
def rU(g:Int->V):V->Hp->VK->Prop:=fun x H Q=>XU g x H Q
section
variable {X:Cx}{a b c:Expr}{ta tb tc:TE}{pos:Pos}
theorem zMW(ha:PE X a ta)(hb:PE X b tb){pins:List (Addr×Obj)}{s:Shared}{σ:St}{H:Hp}{R:V->V->Hp->Prop}(I:Inv X pins σ H s)
  (h:ta σ H fun x H1=>tb σ H1 fun y H2=>R x y H2) {Q:Value->Shared->Prop} {f:Value->Value->Sem Value}
  (hf: ∀v u s2 x y H2,Inv X pins σ H2 s2->zd x v->zd y u->R x y H2->wpAny (model X.prog X.w) X.A (f v u) Q X.xe s2):
  wpAny (model X.prog X.w) X.A (eval a X.env) (fun v s₁=>wpAny (model X.prog X.w) X.A (eval b X.env) (fun u s₂=>wpAny (model X.prog X.w) X.A (f v u) Q X.xe s₂) X.xe s₁) X.xe s:=by
 refine zS (ha pins s σ H _ I h) fun v s1 ⟨x,H1,I1,r1,q1⟩=>?_;refine zS (hb pins s1 σ H1 _ I1 q1) fun u s2 ⟨y,H2,I2,r2,q2⟩=>?_;exact hf v u s2 x y H2 I2 r1 r2 q2
theorem zAG{op:Operator}{r:R2}(ho:OpR X (binaryOp op) r)(ha:PE X a ta)(hb:PE X b tb):PE X (.BinOp a op b pos) (tOp r ta tb):=by
 intro pins s σ H Q I h;exact wpAny_BinOp (zMW ha hb I h fun v u s2 x y H2 I2 rx ry q=>ho pins s2 σ H2 x y v u Q I2 rx ry q)
theorem zRJ{op:UnaryOp}{r:V->Hp->VK->Prop}(ho:UnR X (unaryOp op) r)(ha:PE X a ta):PE X (.UnaryOp op a pos) (tUn r ta):=by
 intro pins s σ H Q I h;exact UnaryOp_ (zS (ha pins s σ H _ I h) fun v s1 ⟨x,H1,I1,r1,q1⟩=>ho pins s1 σ H1 x v Q I1 r1 q1)
theorem opI{f:Value->Value->Sem Value}{C:Int->Int->Prop}{g:Int->Int->Int}
  (rule: ∀(i j:Int) (t u:Tok) (s:Shared) (Q:Value->Shared->Prop) (E:Value->Shared->Prop),C i j->Q (.int (g i j) s.toks) {s with toks:=s.toks+1}->wpAny (model X.prog X.w) X.A (f (.int i t) (.int j u)) Q E s):
  OpR X f (rI C fun i j=> .int (g i j)):=by
 intro pins s σ H x y v u Q I rx ry h;obtain ⟨i,j,rfl,rfl,hc,q⟩:=h;obtain ⟨t,rfl⟩:=rx;obtain ⟨t',rfl⟩:=ry;exact rule i j t t' s _ _ hc ⟨.int (g i j),H,I.tok _,⟨_,rfl⟩,q⟩
theorem zQK{f:Value->Value->Sem Value}{g:Int->Int->Int}
  (rule: ∀(i j:Int) (t u:Tok) (s:Shared) (Q:Value->Shared->Prop) (E:Value->Shared->Prop),Q (.int (g i j) s.toks) {s with toks:=s.toks+1}->wpAny (model X.prog X.w) X.A (f (.int i t) (.int j u)) Q E s):
  OpR X f (rI0 fun i j=> .int (g i j)):=by
 intro pins s σ H x y v u Q I rx ry h;obtain ⟨i,j,rfl,rfl,q⟩:=h;obtain ⟨t,rfl⟩:=rx;obtain ⟨t',rfl⟩:=ry;exact rule i j t t' s _ _ ⟨.int (g i j),H,I.tok _,⟨_,rfl⟩,q⟩
theorem zKN{f:Value->Value->Sem Value}{g:Int->Int->Bool}
  (rule: ∀(i j:Int) (t u:Tok) (s:Shared) (Q:Value->Shared->Prop) (E:Value->Shared->Prop),Q (.bool (g i j)) s->wpAny (model X.prog X.w) X.A (f (.int i t) (.int j u)) Q E s):
  OpR X f (rI0 fun i j=> .bl (g i j)):=by
 intro pins s σ H x y v u Q I rx ry h;obtain ⟨i,j,rfl,rfl,q⟩:=h;obtain ⟨t,rfl⟩:=rx;obtain ⟨t',rfl⟩:=ry;exact rule i j t t' s _ _ ⟨.bl (g i j),H,I,rfl,q⟩
def zQk(i j:Int):Prop:=0<j/\j<1073741824
def zKY(i j:Int):Prop:=(-(2^64)<i/\i<2^64)\/(-(2^64)<j/\j<2^64)
theorem zKY.ok{i j:Int}(h:zKY i j):IntMulOk i j:=by
 rcases h with ⟨h1,h2⟩|⟨h1,h2⟩
 ·exact .of_left (intBits_le_64 h1 h2)
 ·exact .of_right (intBits_le_64 h1 h2)
theorem zGA:OpR X (binaryOp .Add) (rI0 fun i j=> .int (i+j)):=zQK fun _ _ _ _ _ _ _ q=>add_int q
theorem zPv:OpR X (binaryOp .Sub) (rI0 fun i j=> .int (i - j)):=zQK fun _ _ _ _ _ _ _ q=>sub_int q
theorem zCI:OpR X (binaryOp .Mult) (rI zKY fun i j=> .int (i*j)):=opI fun _ _ _ _ _ _ _ hc q=>mul_int q hc.ok
theorem zOn:OpR X (binaryOp .FloorDiv) (rI zQk fun i j=> .int (i/j)):=opI fun i j _ _ _ _ _ hc q=>by
 have h1:(0:Int)<j:=hc.1;have h2:j<1073741824:=hc.2;exact floordiv_int (by omega) (by rw [Int.fdiv_eq_ediv_of_nonneg i (by omega)];exact q) (.inl (PyProof.noPylong_small (by omega)))
theorem zCG:OpR X (binaryOp .Mod) (rI (fun _ j=>0<j) fun i j=> .int (i % j)):=opI fun i j _ _ _ _ _ hc q=>by
 have h1:(0:Int)<j:=hc;exact mod_int' (by omega) (by rw [Int.fmod_eq_emod_of_nonneg i (by omega)];exact q)
theorem unI{f:Value->Sem Value}{g:Int->Int}
  (rule: ∀(i:Int) (t:Tok) (s:Shared) (Q:Value->Shared->Prop) (E:Value->Shared->Prop),Q (.int (g i) s.toks) {s with toks:=s.toks+1}->wpAny (model X.prog X.w) X.A (f (.int i t)) Q E s):
  UnR X f (rU fun i=> .int (g i)):=by
 intro pins s σ H x v Q I rx h;obtain ⟨i,rfl,q⟩:=h;obtain ⟨t,rfl⟩:=rx;exact rule i t s _ _ ⟨.int (g i),H,I.tok _,⟨_,rfl⟩,q⟩
theorem zQT:UnR X (unaryOp .USub) (rU fun i=> .int (-i)):=unI fun _ _ _ _ _ q=>neg_int q
def zQO:V->V->Bool
 | .non,.non=>true | .non,.int _=>true | .int _,.non=>true | .non,.bl _=>true | .bl _,.non=>true | .non,.str _=>true | .str _,.non=>true
 | .int _,.int _=>true | .bl _,.bl _=>true | .str _,.str _=>true | .byt _,.byt _=>true
 | .int _,.str _=>true | .str _,.int _=>true | .bl _,.str _=>true | .str _,.bl _=>true
 | _,_=>false
def rEq:R2:=fun x y H Q=>zQO x y=true/\Q (.bl (decide (x=y))) H
def rNe:R2:=fun x y H Q=>zQO x y=true/\Q (.bl (!decide (x=y))) H
theorem zJZ{i j:Int}:decide (V.int i=V.int j)=(i==j):=by
 rw [zTI];simp
theorem zLu{i j:Bool}:decide (V.bl i=V.bl j)=(i==j):=by
 rw [zTI];simp
theorem zJG{i j:Str}:decide (V.str i=V.str j)=(i==j):=by
 rw [zTI];simp
theorem zJX{i j:Array UInt8}:decide (V.byt i=V.byt j)=(i.toList==j.toList):=by
 rw [zTI];cases i;cases j;simp
theorem zp{pins:List (Addr×Obj)}{σ:St}{H:Hp}{s:Shared}{Q:VK}{k k':Bool}(I:Inv X pins σ H s)(q:Q (.bl k) H)(e:k=k'):EP X pins σ Q (.bool k') s:=by
 subst e;exact ⟨.bl k,H,I,rfl,q⟩
theorem yb:OpR X (compareOp .Eq) rEq:=by
 intro pins s σ H x y v u Q I rx ry h;obtain ⟨hs,q⟩:=h;cases x with
 | non=>
  cases rx;cases y with
  | non=>cases ry;exact PySem.EqNone.eq_none_none (zp I q (by simp))
  | bl j=>cases ry;exact PySem.EqNone.eq_none_bool (zp I q (by simp))
  | int j=>obtain ⟨t',rfl⟩:=ry;exact PySem.EqNone.eq_none_int (zp I q (by simp))
  | str j=>obtain ⟨t',rfl⟩:=ry;exact PySem.EqNone.eq_none_str (zp I q (by simp))
  | _=>exact absurd (show false=true from hs) zSS
 | bl i=>
  cases rx;cases y with
  | non=>cases ry;exact PySem.EqNone.eq_bool_none (zp I q (by simp))
  | bl j=>cases ry;exact eq_bool (zp I q zLu)
  | str j=>obtain ⟨t',rfl⟩:=ry;exact PySem.EqMixed.eq_bool_str (zp I q (by simp))
  | _=>exact absurd (show false=true from hs) zSS
 | int i=>
  obtain ⟨t,rfl⟩:=rx;cases y with
  | non=>cases ry;exact PySem.EqNone.eq_int_none (zp I q (by simp))
  | int j=>obtain ⟨t',rfl⟩:=ry;exact eq_int (zp I q zJZ)
  | str j=>obtain ⟨t',rfl⟩:=ry;exact PySem.EqMixed.eq_int_str (zp I q (by simp))
  | _=>exact absurd (show false=true from hs) zSS
 | str i=>
  obtain ⟨t,rfl⟩:=rx;cases y with
  | non=>cases ry;exact PySem.EqNone.eq_str_none (zp I q (by simp))
  | bl j=>cases ry;exact PySem.EqMixed.eq_str_bool (zp I q (by simp))
  | int j=>obtain ⟨t',rfl⟩:=ry;exact PySem.EqMixed.eq_str_int (zp I q (by simp))
  | str j=>obtain ⟨t',rfl⟩:=ry;exact eq_str (zp I q zJG)
  | _=>exact absurd (show false=true from hs) zSS
 | byt i=>
  obtain ⟨t,rfl⟩:=rx;cases y with
  | byt j=>obtain ⟨t',rfl⟩:=ry;exact PySem.W.eq_bytes (zp I q zJX)
  | _=>exact absurd (show false=true from hs) zSS
 | _=>cases y<;>exact absurd (show false=true from hs) zSS
theorem yy:OpR X (compareOp .NotEq) rNe:=by
 intro pins s σ H x y v u Q I rx ry h;obtain ⟨hs,q⟩:=h;cases x with
 | non=>
  cases rx;cases y with
  | non=>cases ry;exact PySem.EqNone.ne_none_none (zp I q (by simp))
  | bl j=>cases ry;exact PySem.EqNone.ne_none_bool (zp I q (by simp))
  | int j=>obtain ⟨t',rfl⟩:=ry;exact PySem.EqNone.ne_none_int (zp I q (by simp))
  | str j=>obtain ⟨t',rfl⟩:=ry;exact PySem.EqNone.ne_none_str (zp I q (by simp))
  | _=>exact absurd (show false=true from hs) zSS
 | bl i=>
  cases rx;cases y with
  | non=>cases ry;exact PySem.EqNone.ne_bool_none (zp I q (by simp))
  | bl j=>cases ry;exact ne_bool (zp I q (congrArg not zLu))
  | str j=>obtain ⟨t',rfl⟩:=ry;exact PySem.EqMixed.ne_bool_str (zp I q (by simp))
  | _=>exact absurd (show false=true from hs) zSS
 | int i=>
  obtain ⟨t,rfl⟩:=rx;cases y with
  | non=>cases ry;exact PySem.EqNone.ne_int_none (zp I q (by simp))
  | int j=>obtain ⟨t',rfl⟩:=ry;exact ne_int (zp I q (congrArg not zJZ))
  | str j=>obtain ⟨t',rfl⟩:=ry;exact PySem.EqMixed.ne_int_str (zp I q (by simp))
  | _=>exact absurd (show false=true from hs) zSS
 | str i=>
  obtain ⟨t,rfl⟩:=rx;cases y with
  | non=>cases ry;exact PySem.EqNone.ne_str_none (zp I q (by simp))
  | bl j=>cases ry;exact PySem.EqMixed.ne_str_bool (zp I q (by simp))
  | int j=>obtain ⟨t',rfl⟩:=ry;exact PySem.EqMixed.ne_str_int (zp I q (by simp))
  | str j=>obtain ⟨t',rfl⟩:=ry;exact ne_str (zp I q (congrArg not zJG))
  | _=>exact absurd (show false=true from hs) zSS
 | byt i=>
  obtain ⟨t,rfl⟩:=rx;cases y with
  | byt j=>obtain ⟨t',rfl⟩:=ry;exact PySem.W.ne_bytes (zp I q (congrArg not zJX))
  | _=>exact absurd (show false=true from hs) zSS
 | _=>cases y<;>exact absurd (show false=true from hs) zSS
theorem zEO:OpR X (compareOp .Lt) (rI0 fun i j=> .bl (decide (i<j))):=zKN fun _ _ _ _ _ _ _ q=>lt_int q
theorem zRP:OpR X (compareOp .LtE) (rI0 fun i j=> .bl (decide (i<=j))):=zKN fun _ _ _ _ _ _ _ q=>le_int q
theorem zAb:OpR X (compareOp .Gt) (rI0 fun i j=> .bl (decide (j<i))):=zKN fun _ _ _ _ _ _ _ q=>gt_int q
theorem zRe:OpR X (compareOp .GtE) (rI0 fun i j=> .bl (decide (j<=i))):=zKN fun _ _ _ _ _ _ _ q=>ge_int q
theorem zFf(b:Expr){op:CmpOp}(h:op≠ .In:=by decide)(h2:op≠ .NotIn:=by decide):behindInMarks op b=false:=by
 have e1:(op==CmpOp.In)=false:=by cases op<;>first | rfl | exact absurd rfl h
 have e2:(op==CmpOp.NotIn)=false:=by cases op<;>first | rfl | exact absurd rfl h2
 cases b<;>simp [behindInMarks,e1,e2]
theorem zOX{op:CmpOp}{r:R2}(ho:OpR X (compareOp op) r)(ha:PE X a ta)(hb:PE X b tb)(hm:behindInMarks op b=false):PE X (.Compare a [op] [b] pos) (tOp r ta tb):=by
 intro pins s σ H Q I h;exact wpAny_Compare1 (zMW ha hb I h fun v u s2 x y H2 I2 rx ry q=>ho pins s2 σ H2 x y v u Q I2 rx ry q) hm
def zFw(t:TE):TT:=fun σ H Q=>t σ H fun x H'=>XB x H' Q
theorem zDB{op:CmpOp}{r:R2}(ho:OpR X (compareOp op) r)(ha:PE X a ta)(hb:PE X b tb)(hm:behindInMarks op b=false):PT X (.Compare a [op] [b] pos) (zFw (tOp r ta tb)):=by
 intro pins s σ H Q I h;refine wpAny_isTrue_Compare1 (zS (ha pins s σ H _ I h) fun v s1 ⟨x,H1,I1,r1,q1⟩=>zS (hb pins s1 σ H1 _ I1 q1) fun u s2 ⟨y,H2,I2,r2,q2⟩=>
  zS (ho pins s2 σ H2 x y v u _ I2 r1 r2 q2) fun c s3 ⟨z,H3,I3,r3,k,e,q3⟩=>?_) hm
 subst e;cases r3;exact zSu ⟨H3,I3,q3⟩
def zLm(r r':R2)(ta tb tc:TE):TE:=fun σ H Q=>ta σ H fun x H1=>tb σ H1 fun y H2=>r x y H2 fun z H3=> ∃k,z= .bl k/\
 (if k=true then tc σ H3 fun w' H4=>r' y w' H4 Q else Q (.bl false) H3)
theorem zMg{op op':CmpOp}{r r':R2}(ho:OpR X (compareOp op) r)(ho':OpR X (compareOp op') r')(ha:PE X a ta)(hb:PE X b tb)(hc:PE X c tc)
  (hm:lastMarks [op,op'] [b,c] =false:=by with_unfolding_all rfl):PT X (.Compare a [op,op'] [b,c] pos) (zFw (zLm r r' ta tb tc)):=by
 intro pins s σ H Q I h;refine isTrue_chain (zS (ha pins s σ H _ I h) fun v s1 ⟨x,H1,I1,r1,q1⟩=>test_link (zS (hb pins s1 σ H1 _ I1 q1) fun u s2 ⟨y,H2,I2,r2,q2⟩=>
  zS (ho pins s2 σ H2 x y v u _ I2 r1 r2 q2) fun d s3 ⟨z,H3,I3,r3,k,e,q3⟩=>?_)) hm
 subst e;cases r3;refine zSu ?_;cases k with
 | false=>
  obtain ⟨k',e',q'⟩:=q3;cases e';exact ite_ff ⟨H3,I3,q'⟩
 | true=>
  refine ite_tt (test_last (zS (hc pins s3 σ H3 _ I3 q3) fun w' s4 ⟨z',H4,I4,r4,q4⟩=>zS (ho' pins s4 σ H4 y z' u w' _ I4 r2 r4 q4) fun d' s5 ⟨z2,H5,I5,r5,k2,e2,q5⟩=>?_));subst e2;cases r5;exact zSu ⟨H5,I5,q5⟩
theorem zDo:(sizeLine:Nat)<2^63:=by rw [zSQ];decide
theorem yx{x:V}{us:List Value}(r:zN [x] us): ∃u,us= [u] /\zd x u:=by
 cases r with
 | cons r1 r2=>cases r2;exact ⟨_,rfl,r1⟩
theorem zIF:yJ X (.builtin "abs") (fun xs H Q=> ∃i,xs= [.int i] /\Q (.int (if i<0 then -i else i)) H):=by
 intro pins s σ H xs us Q I r h;obtain ⟨i,rfl,q⟩:=h;obtain ⟨u,rfl,t,rfl⟩:=yx r;exact call_abs_int fun u tk=>⟨.int (if i<0 then -i else i),H,I.tok _,⟨_,rfl⟩,q⟩
theorem zGk:yJ X (.type "int") (fun xs H Q=>(∃i,xs= [.int i] /\Q (.int i) H)\/ ∃k,xs= [.bl k] /\Q (.int (if k then 1 else 0)) H):=by
 intro pins s σ H xs us Q I r h;rcases h with ⟨i,rfl,q⟩|⟨k,rfl,q⟩
 ·obtain ⟨u,rfl,t,rfl⟩:=yx r;exact call_int_int ⟨.int i,H,I,⟨_,rfl⟩,q⟩
 ·obtain ⟨u,rfl,r1⟩:=yx r;cases r1;exact call_int_bool ⟨.int (if k then 1 else 0),H,I.tok _,⟨_,rfl⟩,q⟩
theorem zIE:yJ X (.type "str") (fun xs H Q=> ∃i,xs= [.int i] /\i.natAbs.log2<1920/\Q (.str (toString i)) H):=by
 intro pins s σ H xs us Q I r h;obtain ⟨i,rfl,hz,q⟩:=h;obtain ⟨u,rfl,t,rfl⟩:=yx r;exact PySem.P.str_of_int hz ⟨.str _,H,I.tok _,⟨_,rfl⟩,q⟩
end
structure ObjM(h:Heap)(x dx C:Addr)(mA:Str->Option Value):Prop where
 obj:h.get? x=some (PySem.W.instObj C dx)
 ns:h.Ns1 dx mA
 ne:dx≠x
theorem zLE{h:Heap}{dx:Addr}{mA:Str->Option Value}(n:h.Ns1 dx mA): ∃od,h.get? dx=some od/\ ∀name,PySem.W.lookIn name od=some (mA name):=by
 obtain ⟨o,es,ep,ho,hd,hk,_,hm⟩:=n;refine ⟨o,ho,fun name=>?_⟩;have e:=hm name;unfold nsFind findBy at e;rw [<-Array.find?_toList] at e;unfold PySem.W.lookIn;rw [hd];dsimp only;split
 ·rename_i y q
  rw [q] at e;exact congrArg some e
 ·rename_i q
  rw [q] at e;have a:es.toList.any (·.refKey)=false:=by
   rw [List.any_eq_false];intro y hy;obtain ⟨z,t,hkey⟩:=hk y (Array.mem_toList_iff.mp hy);simp [DictEntry.refKey,hkey]
  have a': ¬es.toList.any (·.refKey)=true:=by rw [a];exact zSS
  rw [if_neg a'];exact congrArg some e
theorem ObjM.look{h:Heap}{x dx C:Addr}{mA:Str->Option Value}(I:ObjM h x dx C mA): ∃od,PySem.W.InstAt h x (PySem.W.instObj C dx) C (some od)/\ ∀name,PySem.W.lookIn name od=some (mA name):=
 let ⟨od,ho,hl⟩:=zLE I.ns
 ⟨od,⟨I.obj,rfl,rfl,ho⟩,hl⟩
section
variable {prog:Program}{w:World}{A:Around}{E:Value->Shared->Prop}{s:Shared}{K:zSy}{x dx C f:Addr}{mA:Str->Option Value}{name:Str}{v:Value}
theorem zOr{expr:Bool}{Q:Value->Shared->Prop}(X:K.In s.heap)(I:ObjM s.heap x dx C mA)(hg:PySem.W.plainGet K C name=true)(hh:PySem.W.hasDictIn K C=true)
  (ha:PySem.W.findIn K (.ref C) name=some none) (hv:mA name=some v) (hv':PySem.W.handedIn v=true) (h:Q v {s with toks:=s.toks+1}):
  wpAny (model prog w) A (getAttr (.ref x) name expr) Q E s:=by
 obtain ⟨od,J,hl⟩:=I.look;exact PySem.W.get_value X J (PySem.W.plainGet_of hg).1 (PySem.W.findObj_own hh ha rfl (by rw [hl,hv])) hv' h
theorem zMC{pl:Sem Bool}{Q:Value×List Value->Shared->Prop}(X:K.In s.heap)(I:ObjM s.heap x dx C mA)(hg:PySem.W.plainGet K C name=true)
  (hf:PySem.W.findIn K (.ref C) name=some (some (.ref f))) (ht:PySem.W.isFn K (.ref f)=true) (hv:mA name=none) (h:Q (.ref f,[.ref x]) s):
  wpAny (model prog w) A (getMethod (.ref x) name pl) Q E s:=by
 obtain ⟨od,J,hl⟩:=I.look;exact PySem.W.method_fn X J (PySem.W.plainGet_of hg).1 (PySem.W.plainGet_of hg).2 hf (beq_iff_eq.mp ht) (by show (PySem.W.lookIn name od).map (·.isSome)=some false;rw [hl,hv];rfl) h
theorem zOE{ns:List Str}{Q:Unit->Shared->Prop}(X:K.In s.heap)(I:ObjM s.heap x dx C mA)
  (hs:PySem.W.findIn K (.ref C) "__setattr__" =some (some (.builtin "object.__setattr__"))) (hp:PySem.W.plainOver K C=true) (ht:PySem.W.takerIn K C name=some none) (hh:PySem.W.hasDictIn K C=true)
  (hw:PySem.Within mA ns) (hsz:ns.length<=sizeLine)
  (h: ∀h',ObjM h' x dx C (fun y=>if y=name then some v else mA y)->Heap.SameBut dx s.heap h'->Q () {s with heap:=h',toks:=s.toks+2}):
  wpAny (model prog w) A (setAttr (.ref x) name v) Q E s:=by
 obtain ⟨od,J,hl⟩:=I.look;refine PySem.W.set_plain X J hs (PySem.W.osa_open (s:={s with toks:=s.toks+1}) (r:=none) X J hp ht fun b=>?_);obtain ⟨cd,hc,hd'⟩:=PySem.W.any_some hh;have hx:s.heap.get? x=some ⟨.ref C,some dx,.plain,#[]⟩:=I.obj;refine zSG (zSL (zSG (zSG (wpAny_loadPart hx (zSG (PySem.W.Looks.here (s:={s with toks:=s.toks+1}) (PySem.W.looks_clsIn X hc) ?_))))));rw [hd'];refine zSL (a:=some dx) (zSG (zSL (zSG ?_)));refine wpAny_nsSet1 (s:={s with toks:=s.toks+1}) I.ns fun h' hn2 hs2=>?_;obtain ⟨oD,esD,epD,hoD,hdD,hcD⟩:=hn2.count (PySem.Within.cons name v hw);refine zSG (wpAny_lookBehind hoD (by rw [hdD];exact pastItsLine_dict (zST hcD (by rw [zTH];omega))) ?_);exact zSL (h _ ⟨(hs2.2 _ (Ne.symm I.ne)).trans I.obj,hn2,I.ne⟩ hs2)
theorem zMK{R:Result->Shared->Prop}{vs:List Value}{kw:List (Str×Value)}(X:K.In s.heap)(hm:PySem.W.makesIn K C=true)
  (hi:PySem.W.findIn K (.ref C) "__init__" =some (some (.ref f))) (hf:PySem.W.typeIn K (.ref f)=some (.type "function"))
  (h:codeAny (model prog w) (A.under (.builtin "type.__call__" ⟨.ref C::vs,kw⟩)) (.call (.ref f) ⟨.ref (s.heap.objs.size+1)::vs,kw⟩) (PySem.W.InitBack (s.heap.objs.size+1) R)
   {s with heap:=(s.heap.push PySem.W.emptyDict).push (PySem.W.instObj C s.heap.objs.size)}):
  codeAny (model prog w) A (.call (.ref C) ⟨vs,kw⟩) R s:=by
 obtain ⟨hh,g,d,t,os⟩:=s;exact PySem.W.make_core (PySem.W.makes_of X hm) (PySem.W.looks_findIn X hi) (fun self=>PySem.W.bind_fn X self hf) (.inl rfl) h
end
def yT(f:Str)(v:V):List (Str×V)->List (Str×V)
 | [] => [(f,v)]
 |(g,x)::r=>if g=f then (g,v)::r else (g,x)::yT f v r
theorem zEn(f g:Str)(v:V): ∀fs:List (Str×V),(yT f v fs).lookup g=if g=f then some v else fs.lookup g
 | [] =>by
  show List.lookup g [(f,v)] =_;by_cases h:g=f
  ·have hb:(g==f)=true:=beq_iff_eq.mpr h;simp only [List.lookup,hb,if_pos h]
  ·have hb:(g==f)=false:=beq_eq_false_iff_ne.mpr h;simp only [List.lookup,hb,if_neg h]
 |(k,x)::r=>by
  have ih:=zEn f g v r;rw [show yT f v ((k,x)::r)=(if k=f then (k,v)::r else (k,x)::yT f v r) from rfl];by_cases hk:k=f
  ·rw [if_pos hk];by_cases h:g=k
   ·have hb:(g==k)=true:=beq_iff_eq.mpr h;simp only [List.lookup,hb,if_pos (h.trans hk)]
   ·have hb:(g==k)=false:=beq_eq_false_iff_ne.mpr h;simp only [List.lookup,hb,if_neg (fun e:g=f=>h (e.trans hk.symm))]
  ·rw [if_neg hk];by_cases h:g=k
   ·have hb:(g==k)=true:=beq_iff_eq.mpr h;simp only [List.lookup,hb,if_neg (fun e:g=f=>hk (h.symm.trans e))]
   ·have hb:(g==k)=false:=beq_eq_false_iff_ne.mpr h;simp only [List.lookup,hb];exact ih
theorem zDj(f:Str)(v:V): ∀fs:List (Str×V),f∈(yT f v fs).map (·.1)/\ ∀g,g∈fs.map (·.1)->g∈(yT f v fs).map (·.1)
 | [] =>⟨by simp [yT],fun g h=>by simp at h⟩
 |(k,x)::r=>by
  obtain ⟨i1,i2⟩:=zDj f v r;rw [show yT f v ((k,x)::r)=(if k=f then (k,v)::r else (k,x)::yT f v r) from rfl];by_cases hk:k=f
  ·rw [if_pos hk];subst hk;exact ⟨by simp,fun g h=>by simpa using h⟩
  ·rw [if_neg hk];refine ⟨?_,fun g h=>?_⟩
   ·rw [zTD];exact zSm _ i1
   ·rw [zTD] at h⊢;rcases zSz.mp h with e | e
    ·exact zSz.mpr (.inl e)
    ·exact zSm _ (i2 g e)
theorem zEh(f:Str)(v:V): ∀fs:List (Str×V),(yT f v fs).length<=fs.length+1
 | [] =>by simp [yT]
 |(k,x)::r=>by
  have ih:=zEh f v r;rw [show yT f v ((k,x)::r)=(if k=f then (k,v)::r else (k,x)::yT f v r) from rfl];by_cases hk:k=f
  ·rw [if_pos hk,zTH,zTH];omega
  ·rw [if_neg hk,zTH,zTH];omega
theorem zCm.some_of{v:V}{o:Option Value}(r:zCm (some v) o): ∃u,o=some u/\zd v u:=by
 cases o with
 | none=>exact (show False from r).elim
 | some u=>exact ⟨u,rfl,r⟩
theorem zCm.none_of{o:Option Value}(r:zCm none o):o=none:=by
 cases o with
 | none=>rfl
 | some u=>exact (show False from r).elim
theorem zLx{v:V}{u:Value}(r:zd v u):PySem.W.handedIn u=true:=by
 cases v with
 | non=>cases (show u=Value.none from r);rfl
 | bl b=>cases (show u=Value.bool b from r);rfl
 | int i=>obtain ⟨t,e⟩:=(show∃t,u=Value.int i t from r);cases e;rfl
 | str x=>obtain ⟨t,e⟩:=(show∃t,u=Value.str x t from r);cases e;rfl
 | byt b=>obtain ⟨t,e⟩:=(show∃t,u=Value.bytes b t from r);cases e;rfl
 | flt b=>obtain ⟨t,e⟩:=(show∃t,u=Value.float b t from r);cases e;rfl
 | ref a=>cases (show u=Value.ref a from r);rfl
 | ty n=>cases (show u=Value.type n from r);rfl
section
variable {P:Program}{w:World}{H H':Hp}{h h':Heap}{a C dx:Addr}{fs fs':List (Str×V)}
theorem zEL(hok:HOk P w H h)(e:H a=some (.ins C dx fs)): ∃mA,ObjM h a dx C mA/\(∀f,zCm (fs.lookup f) (mA f))/\PySem.Within mA (fs.map (·.1))/\fs.length<=1000/\H dx=some (.own a):=by
 obtain ⟨d,z,ne,ob,mA,n,r,q⟩:=(show yL P w H h a (.ins C dx fs) from hok a _ e);exact ⟨mA,⟨ob,n,ne⟩,r,q,z,d⟩
end
structure Cls(K:zSy)(C:Addr):Prop where
 pg:PySem.W.plainGet K C Str.empty=true
 hd:PySem.W.hasDictIn K C=true
 po:PySem.W.plainOver K C=true
 sa:PySem.W.findIn K (.ref C) "__setattr__" =some (some (.builtin "object.__setattr__"))
theorem Cls.get{K:zSy}{C:Addr}(c:Cls K C)(f:Str):PySem.W.plainGet K C f=true:=c.pg
def yt(K:zSy)(C:Addr)(f:Str):Prop:=PySem.W.findIn K (.ref C) f=some none
theorem yt.taker{K:zSy}{C:Addr}{f:Str}(n:yt K C f):PySem.W.takerIn K C f=some none:=by
 unfold PySem.W.takerIn;rw [show PySem.W.findIn K (.ref C) f=some none from n];rfl
structure Meth(K:zSy)(C:Addr)(m:Str)(f:Addr):Prop where
 at_:PySem.W.findIn K (.ref C) m=some (some (.ref f))
 fn:PySem.W.isFn K (.ref f)=true
 kp:PySem.W.keepIn K (.ref f)=true
section
variable {X:Cx}{pins:List (Addr×Obj)}{σ:St}{H:Hp}{s:Shared}{a C dx:Addr}{fs:List (Str×V)}{f:Str}{v:V}{A:Around}{E:Value->Shared->Prop}
theorem zKc{b:Bool}{Q:Value->Shared->Prop}(I:Inv X pins σ H s)(e:H a=some (.ins C dx fs))(c:Cls X.K C)(n:yt X.K C f)(l:fs.lookup f=some v)
  (h: ∀u s',Inv X pins σ H s'->zd v u->Q u s'):wpAny (model X.prog X.w) A (getAttr (.ref a) f b) Q E s:=by
 obtain ⟨mA,O,r,_,_,_⟩:=zEL I.hok e;obtain ⟨u,hu,ru⟩:=zCm.some_of (v:=v) (o:=mA f) (by rw [<-l];exact r f);exact zOr I.kIn O (c.get f) c.hd n hu (zLx ru) (h u _ (I.tok _) ru)
theorem zFT{m:Str}{g:Addr}{pl:Sem Bool}{Q:Value×List Value->Shared->Prop}(I:Inv X pins σ H s)(e:H a=some (.ins C dx fs))(c:Cls X.K C)(k:Meth X.K C m g)(l:fs.lookup m=none)
  (h:Q (.ref g,[.ref a]) s):wpAny (model X.prog X.w) A (getMethod (.ref a) m pl) Q E s:=by
 obtain ⟨mA,O,r,_,_,_⟩:=zEL I.hok e;have hn:mA m=none:=zCm.none_of (by rw [<-l];exact r m);exact zMC I.kIn O (c.get m) k.at_ k.fn hn h
theorem zKd{y:V}{u:Value}{Q:Unit->Shared->Prop}(I:Inv X pins σ H s)(e:H a=some (.ins C dx fs))(c:Cls X.K C)(n:yt X.K C f)(hl:fs.length<1000)(ry:zd y u)
  (h: ∀s',Inv X pins σ (upd H a (.ins C dx (yT f y fs))) s'->Q () s'):wpAny (model X.prog X.w) A (setAttr (.ref a) f u) Q E s:=by
 obtain ⟨mA,O,r,wi,_,ho⟩:=zEL I.hok e;have hz:(fs.map (·.1)).length<=sizeLine:=by rw [zSM,zSQ];omega
 refine zOE I.kIn O c.sa c.po n.taker c.hd wi hz fun h' O' sb=>h _ ?_;have hd: ∃o,h'.get? dx=some o:=let ⟨o,_,_,e',_⟩:=O'.ns;⟨o,e'⟩;refine I.write (x:=a) (e:=dx) (by rw [e];exact True.intro) (.inr ho) (fun b q hb z=>(sb.2 b hb).trans z) hd ?_;refine ⟨by rw [zI O.ne];exact ho,?_,O.ne,O'.obj,_,O'.ns,fun g=>?_,fun g hg=>?_⟩
 ·have:=zEh f y fs;omega
 ·show zCm ((yT f y fs).lookup g) (if g=f then some u else mA g);rw [zEn];by_cases q:g=f
  ·rw [if_pos q,if_pos q];exact ry
  ·rw [if_neg q,if_neg q];exact r g
 ·by_cases q:g=f
  ·rw [q];exact (zDj f y fs).1
  ·refine (zDj f y fs).2 g (wi g fun z=>hg ?_);show (if g=f then some u else mA g)=none;rw [if_neg q];exact z
theorem Inv.made(I:Inv X pins σ H s):Inv X pins σ (upd (upd H s.heap.objs.size (.own (s.heap.objs.size+1))) (s.heap.objs.size+1) (.ins C s.heap.objs.size []))
  {s with heap:=(s.heap.push PySem.W.emptyDict).push (PySem.W.instObj C s.heap.objs.size)}:=by
 have e1:(s.heap.push PySem.W.emptyDict).get? s.heap.objs.size=some PySem.W.emptyDict:=zSY s.heap rfl;have e2:((s.heap.push PySem.W.emptyDict).push (PySem.W.instObj C s.heap.objs.size)).get? (s.heap.objs.size+1)=some (PySem.W.instObj C s.heap.objs.size):=by
  have:=zSY (s.heap.push PySem.W.emptyDict) (o:=PySem.W.instObj C s.heap.objs.size) rfl
  rwa [Heap.size_push] at this
 have e3:(s.heap.push PySem.W.emptyDict).Ns s.heap.objs.size (fun _=>none):=⟨PySem.W.emptyDict,#[],_,e1,rfl,(fun e he=>absurd he (by simp)),fun _=>rfl⟩;have I1:=I.laid (a:=s.heap.objs.size) (o:= .own (s.heap.objs.size+1)) (h':=s.heap.push PySem.W.emptyDict) (t':=s.toks) (fun b u q=>zSH _ q) (zSJ _) ⟨_,e1⟩;refine I1.laid (a:=s.heap.objs.size+1) (o:= .ins C s.heap.objs.size []) (t':=s.toks) (fun b u q=>zSH _ q) (Nat.le_of_eq (Heap.size_push _ _)) ?_;have ne:s.heap.objs.size≠s.heap.objs.size+1:=zSN (Nat.lt_succ_self _);refine ⟨by rw [zI ne,zB],zSU _,ne,e2,fun _=>none,(Heap.Ns1.of_empty e3).at fun o q=>zSH _ q,fun _=>True.intro,fun y hy=>absurd rfl hy⟩
theorem zPG{prog:Program}{w:World}{env:Env}{e:Expr}{f:Str}{pos:Pos}{s:Shared}{Q:Value->Shared->Prop}(hb:attributeBase e f env (eval e env)=eval e env)
  (h:wpAny (model prog w) A (eval e env) (fun o s₁=>wpAny (model prog w) A (getAttr o f true) Q E s₁) E s):wpAny (model prog w) A (eval (.Attribute e f pos) env) Q E s:=
 Attribute_any_ h (by rw [arm_eval_Attribute,hb])
end
inductive XFld (K:zSy) (f:Str) (x:V) (H1:Hp) (Q:VK):Prop
 | mk (a C dx:Addr) (fs:List (Str×V)) (v:V) (h1:x= .ref a) (h2:H1 a=some (.ins C dx fs)) (h3:Cls K C) (h4:yt K C f) (h5:fs.lookup f=some v) (q:Q v H1)
def zPj(K:zSy)(ta:TE)(f:Str):TE:=fun σ H Q=>ta σ H fun x H1=>XFld K f x H1 Q
inductive XSf (K:zSy) (f:Str) (x y:V) (H2:Hp) (Q:Hp->Prop):Prop
 | mk (a C dx:Addr) (fs:List (Str×V)) (h1:x= .ref a) (h2:H2 a=some (.ins C dx fs)) (h3:Cls K C) (h4:yt K C f) (h5:fs.length<1000) (q:Q (upd H2 a (.ins C dx (yT f y fs))))
def zQz(K:zSy)(ta tv:TE)(f:Str):TS:=fun D σ H=>tv σ H fun y H1=>ta σ H1 fun x H2=>XSf K f x y H2 fun H3=>D.nx σ H3
section
variable {X:Cx}{o e value:Expr}{f:Str}{pos pos' tpos:Pos}{ta tv:TE}
theorem zPx(he:PE X e ta)(hb:attributeBase e f X.env (eval e X.env)=eval e X.env):PE X (.Attribute e f pos) (zPj X.K ta f):=by
 intro pins s σ H Q I h;refine zPG hb (zS (he pins s σ H _ I h) fun u s1 ⟨x,H1,I1,rx,a,C,dx,fs,v,ex,ea,c,n,l,q⟩=>?_);subst ex;obtain rfl:u=Value.ref a:=rx;exact zKc I1 ea c n l fun u' s2 I2 ru=>⟨v,H1,I2,ru,q⟩
theorem zPn(ha:PE X o ta)(hv:PE X value tv)(hs:swapsWith value (some (.Attribute o f pos')) pos.line X.env=pure false):PS X (.Assign [.Attribute o f pos'] value pos) (zQz X.K ta tv f):=by
 intro pins s σ H D I h;refine plainObj_wpAny_Assign_Attribute (zS (hv pins s σ H _ I h) fun u s1 ⟨y,H1,I1,ry,q⟩=>zS (ha pins s1 σ H1 _ I1 q) fun ov s2 ⟨x,H2,I2,rx,a,C,dx,fs,ex,ea,c,n,l,q2⟩=>?_) hs;subst ex;obtain rfl:ov=Value.ref a:=rx;exact zKd I2 ea c n l ry fun s3 I3=>⟨σ,_,I3,q2⟩
end
section
variable {X:Cx}{pins:List (Addr×Obj)}{σ:St}{H:Hp}{s:Shared}{A:Around}{E:Value->Shared->Prop}{Q:Value->Shared->Prop}{c:Value}{b:Bool}
inductive TyOf (K:zSy) (H:Hp):V->Value->Prop where
 | non:TyOf K H .non (.type "NoneType")
 | bl (x:Bool):TyOf K H (.bl x) (.type "bool")
 | int (i:Int):TyOf K H (.int i) (.type "int")
 | str (x:Str):TyOf K H (.str x) (.type "str")
 | flt (x:UInt64):TyOf K H (.flt x) (.type "float")
 | lst {a:Addr} {xs:List V} (e:H a=some (.lst xs)):TyOf K H (.ref a) (.type "list")
 | frz {a:Addr} {o:Obj} {xs:List V} (e:H a=some (.frz o (.lst xs))):TyOf K H (.ref a) (.type "list")
 | tup {a:Addr} {xs:List V} (e:H a=some (.tup xs)):TyOf K H (.ref a) (.type "tuple")
 | dK {a:Addr} {kvs:List (Key×V)} (e:H a=some (.dK kvs)):TyOf K H (.ref a) (.type "dict")
 | dT {a:Addr} {kvs:List (List Key×V)} (e:H a=some (.dT kvs)):TyOf K H (.ref a) (.type "dict")
 | ins {a C dx:Addr} {fs:List (Str×V)} (e:H a=some (.ins C dx fs)) (cl:Cls K C) (ha:PySem.W.findIn K (.ref C) "__class__" =some (some (.builtin "object.__class__")))
   (hn:PySem.W.specialIn K (.builtin "object.__class__") "__get__" =some (some (.builtin "getset_descriptor.__get__"))) (htk:PySem.W.takesIn K (.builtin "object.__class__")=some true)
   (hm:PySem.W.mroIn K C (.type "object")=some true):TyOf K H (.ref a) (.ref C)
theorem zMA{x:V}{u t:Value}(I:Inv X pins σ H s)(rx:zd x u)(ty:TyOf X.K H x t)(e:PySem.W.kitOne X.K t c=some b)(h: ∀tk,Q (.bool b) {s with toks:=tk}):
  wpAny (model X.prog X.w) A (call (.builtin "isinstance") [u,c]) Q E s:=by
 cases ty with
 | non=>cases (show u=Value.none from rx);exact zSr PySem.W.kitx_none I.kIn True.intro e (fun z=>nomatch z) h
 | bl y=>cases (show u=Value.bool y from rx);exact zSr PySem.W.kitx_bool I.kIn True.intro e (fun z=>nomatch z) h
 | int i=>obtain ⟨t,q⟩:=(show∃t,u=Value.int i t from rx);cases q;exact zSr PySem.W.kitx_int I.kIn True.intro e (fun z=>nomatch z) h
 | str y=>obtain ⟨t,q⟩:=(show∃t,u=Value.str y t from rx);cases q;exact zSr PySem.W.kitx_str I.kIn True.intro e (fun z=>nomatch z) h
 | flt y=>obtain ⟨t,q⟩:=(show∃t,u=Value.float y t from rx);cases q;exact zSr PySem.W.kitx_float I.kIn True.intro e (fun z=>nomatch z) h
 | @lst a xs ea=>
  cases (show u=Value.ref a from rx);obtain ⟨_,_,n,_,h1⟩:=(show yL X.prog X.w H s.heap a (.lst xs) from I.hok a _ ea);exact zSr PySem.W.kitx_list I.kIn ⟨_,h1,rfl⟩ e (fun z=>nomatch z) h
 | @frz a ob xs ea=>
  cases (show u=Value.ref a from rx);obtain ⟨_,_,_,n,_,h1⟩:=(show yL X.prog X.w H s.heap a (.frz ob (.lst xs)) from I.hok a _ ea);exact zSr PySem.W.kitx_list I.kIn ⟨_,h1,rfl⟩ e (fun z=>nomatch z) h
 | @tup a xs ea=>
  cases (show u=Value.ref a from rx);obtain ⟨_,_,_,p⟩:=(show yL X.prog X.w H s.heap a (.tup xs) from I.hok a _ ea);obtain ⟨o,h1,h2,_⟩:=p;exact zSr PySem.W.kitx_tuple I.kIn ⟨o,h1,h2⟩ e (fun z=>nomatch z) h
 | @dK a kvs ea=>
  cases (show u=Value.ref a from rx);obtain ⟨_,_,vs,_,p⟩:=(show yL X.prog X.w H s.heap a (.dK kvs) from I.hok a _ ea);obtain ⟨o,es,ep,h1,h2,_⟩:=p;exact zSr PySem.W.kitx_dict I.kIn ⟨o,h1,h2.1⟩ e (fun z=>nomatch z) h
 | @dT a kvs ea=>
  cases (show u=Value.ref a from rx);obtain ⟨_,_,xs,_,o,es,ep,h1,h2,_⟩:=(show yL X.prog X.w H s.heap a (.dT kvs) from I.hok a _ ea);exact zSr PySem.W.kitx_dict I.kIn ⟨o,h1,h2.1⟩ e (fun z=>nomatch z) h
 | @ins a C dx fs ea cl ha hn htk hm=>
  cases (show u=Value.ref a from rx);obtain ⟨mA,O,_⟩:=zEL I.hok ea;obtain ⟨od,J,_⟩:=O.look;exact zSr (PySem.W.kitx_own (cl.get _) cl.hd ha hn htk hm) I.kIn J e (fun z=>nomatch z) h
end
structure Room(k:Nat)(A:Around):Prop where
 hd:A.handled=none
 dp:A.depth+3*k+5<recursionLimit
 un:A.units+16*k+200<cLine
 gd:A.guards=some []
theorem Room.mono{j k:Nat}{A:Around}(r:Room k A)(h:j<=k):Room j A:=⟨r.hd,by have:=r.dp;omega,by have:=r.un;omega,r.gd⟩
theorem Room.deeper{k:Nat}{A:Around}(r:Room (k+1) A)(env:Env):Room k (A.deeper env):=
 ⟨r.hd,by have:=r.dp;show A.depth+1+3*k+5<_;omega,by have:=r.un;show A.units+3+16*k+200<_;omega,r.gd⟩
theorem zKH{A:Around}{C:Addr}{us:List Value}{kw:List (Str×Value)}:(A.under (.builtin "type.__call__" ⟨.ref C::us,kw⟩)).depth=A.depth+1:=by
 first | rfl | simp [Around.under,Code.weight,Code.isCreation,Code.isGuard,Code.isCaller,Code.frames,Code.isFrame,guardIds]
theorem zKB{A:Around}{C:Addr}{us:List Value}{kw:List (Str×Value)}:(A.under (.builtin "type.__call__" ⟨.ref C::us,kw⟩)).units=A.units+1:=by
 first | rfl | simp [Around.under,Code.cUnits,Code.frames,Code.isFrame]
theorem zIp{A:Around}{C:Addr}{us:List Value}{kw:List (Str×Value)}:(A.under (.builtin "type.__call__" ⟨.ref C::us,kw⟩)).guards=A.guards:=by
 show pushGuards [] A.guards=A.guards;cases A.guards<;>rfl
theorem Room.make{k:Nat}{A:Around}(r:Room (k+1) A)(C:Addr)(us:List Value)(kw:List (Str×Value)):Room k (A.under (.builtin "type.__call__" ⟨.ref C::us,kw⟩)):=
 ⟨r.hd,by have:=r.dp;rw [zKH];omega,by have:=r.un;rw [zKB];omega,zIp.trans r.gd⟩
theorem Room.depth{k:Nat}{A:Around}(r:Room k A):A.depth<recursionLimit:=by have:=r.dp;omega
theorem Room.units{k:Nat}{A:Around}(r:Room k A):A.units+64<cLine:=by have:=r.un;omega
def zDr:TA:=fun _ H Q=>Q [] H
def zDi(ta:TE)(tr:TA):TA:=fun σ H Q=>ta σ H fun x H1=>tr σ H1 fun xs H2=>Q (x::xs) H2
section
variable {X:Cx}{e:Expr}{es:List Expr}{te:TE}{t:TA}{pos:Pos}
theorem zAI:PA X [] zDr:=fun _ _ _ _ H Q I h=>Calls.spliced_nil ⟨[],H,I,.nil,h⟩
theorem yR(ha:PE X e te)(hr:PA X es t)(hs:starEach (e::es) X.env=(false,eval e X.env)::starEach es X.env:=by rfl):PA X (e::es) (zDi te t):=by
 intro pos pins s σ H Q I h;rw [hs];show wpAny _ _ (spliced ((false,eval e X.env)::backTo pos (starEach es X.env))) _ _ s;refine Calls.spliced_cons (zS (ha pins s σ H _ I h) fun u s1 ⟨x,H1,I1,r1,q1⟩=>?_);exact zS (hr pos pins s1 σ H1 _ I1 q1) fun us s2 ⟨xs,H2,I2,r2,q2⟩=>⟨x::xs,H2,I2,.cons r1 r2,q2⟩
def zQJ(t:TA):TE:=fun σ H Q=>t σ H fun xs H1=>xs.length<=sizeLine/\ ∀p,H1 p=none->Q (.ref p) (upd H1 p (.tup xs))
def zQL(t:TA):TE:=fun σ H Q=>t σ H fun xs H1=>xs.length<=sizeLine/\ ∀p,H1 p=none->Q (.ref p) (upd H1 p (.lst xs))
theorem zPa{x1}(h:PA X es t):PE X (.Tuple es x1 pos) (zQJ t):=by
 intro pins s σ H Q I hq;refine wpAny_Tuple_spliced (zS (h pos pins s σ H _ I hq) fun us s1 ⟨xs,H1,I1,r,z,q⟩=>⟨by rw [<-r.length];exact z,?_⟩);have hf:H1 s1.heap.objs.size=none:=I1.hok.fresh (zSJ _);refine ⟨.ref s1.heap.objs.size,upd H1 s1.heap.objs.size (.tup xs),I1.laid (t':=s1.toks) (fun b u e=>zSH _ e) (zSJ _) ?_,rfl,q _ hf⟩;exact ⟨z,us,r,⟨_,zSY _ rfl,rfl,⟨_,rfl⟩,rfl⟩⟩
theorem zLX(h:PA X es t):PE X (.List es pos) (zQL t):=by
 intro pins s σ H Q I hq;refine wpAny_List_spliced (zS (h pos pins s σ H _ I hq) fun us s1 ⟨xs,H1,I1,r,z,q⟩=>⟨by rw [<-r.length];exact z,?_⟩);have hf:H1 s1.heap.objs.size=none:=I1.hok.fresh (zSJ _);refine ⟨.ref s1.heap.objs.size,upd H1 s1.heap.objs.size (.lst xs),I1.laid (t':=s1.toks) (fun b u e=>zSH _ e) (zSJ _) ?_,rfl,q _ hf⟩;exact ⟨z,us,0,r,zSY _ rfl⟩
end
abbrev Sp:=List V->Hp->VK->XK->Prop
abbrev CXT:=List Env->Hp->Shared->XK->Value->Shared->Prop
structure Env0(P:Program)(w:World)(K:zSy)(mg:Str->Option Value)(base:Heap)(A:Around)(outer:List Env)(s:Shared)(H:Hp):Prop where
 frames:A.frames=some outer
 mod:Mod K mg base
 bs: ∀b o,base.get? b=some o->s.heap.get? b=some o/\H b=none
 bsz:base.objs.size<=s.heap.objs.size
 funs:s.heap.FunFrames base outer
 frf: ∀b∈yl outer,H b=none
 hok:HOk P w H s.heap
 bare:AllBare s.gens
def CE(outer:List Env)(P:Program)(w:World)(H:Hp)(s:Shared)(Q:VK)(u:Value)(s':Shared):Prop:=
 ∃v H',s'.os=s.os/\AllBare s'.gens/\Un (yl outer) [] H H' s.heap s'.heap/\HOk P w H' s'.heap/\zd v u/\Q v H'
def CR(CX:CXT)(outer:List Env)(P:Program)(w:World)(H:Hp)(s:Shared)(Q:VK)(E:XK)(r:Result)(s':Shared):Prop:=
 match r with
 | .ok (.ret u)=>CE outer P w H s Q u s'
 | .ok _=>False
 | .error e=>CX outer H s E e s'
structure FnOk(P:Program)(w:World)(K:zSy)(mg:Str->Option Value)(base:Heap)(CX:CXT)(k:Nat)(f:Addr)(fd:FuncData)(ps:List Str)(sp:Sp):Prop where
 len: ∀vs H Q E,sp vs H Q E->vs.length=ps.length
 run: ∀(A:Around) (outer:List Env) (s:Shared) (H:Hp) (args:Args) (us:List Value) (vs:List V) (Q:VK) (E:XK),Room k A->Env0 P w K mg base A outer s H->BindsTo s fd args (ps.zip us)->zN vs us->sp vs H Q E->
  codeAny (model P w) A (.call (.ref f) args) (CR CX outer P w H s Q E) s
theorem Env0.make{P:Program}{w:World}{K:zSy}{mg:Str->Option Value}{base:Heap}{A:Around}{outer:List Env}{s:Shared}{H:Hp}(e:Env0 P w K mg base A outer s H)(C:Addr)(us:List Value)(kw:List (Str×Value)):
  Env0 P w K mg base (A.under (.builtin "type.__call__" ⟨.ref C::us,kw⟩)) outer s H:=⟨by first | exact e.frames |(simpa [Around.under,Code.envs,Code.isFrame,pushEnvs] using e.frames),e.mod,e.bs,e.bsz,e.funs,e.frf,e.hok,e.bare⟩
section
variable {X:Cx}{pins:List (Addr×Obj)}{σ:St}{H:Hp}{s s':Shared}
theorem Inv.env0(I:Inv X pins σ H s):Env0 X.prog X.w X.K X.mg X.base X.A X.stack s H:=
 ⟨I.ok.frames,I.ok.mod,I.bs,zST I.ok.bsz I.sz,I.stack,I.stkFree,I.hok,I.bare⟩
theorem Inv.after{Q:VK}{u:Value}(I:Inv X pins σ H s)(h:CE X.stack X.prog X.w H s Q u s'):EP X pins σ Q u s':=by
 obtain ⟨v,H',os,bare,un,hok,r,q⟩:=h;obtain ⟨hh,g,d,t,os'⟩:=s';obtain rfl:os'=s.os:=os;exact ⟨v,H',I.call (h':=hh) (g':=g) (d':=d) (t':=t) (ch:= []) un hok bare (fun b z=>absurd z (by simp)),r,q⟩
end
def zNq(sp:Sp)(dvs:List V)(E:XK)(t:TA):TE:=fun σ H Q=>t σ H fun vs H1=>sp (vs++dvs) H1 Q E
inductive XMeth (C:Addr) (m:Str) (sp:Sp) (dvs:List V) (E:XK) (t:TA) (x:V) (σ:St) (H1:Hp) (Q:VK):Prop
 | mk (a dx:Addr) (fs:List (Str×V)) (h1:x= .ref a) (h2:H1 a=some (.ins C dx fs)) (h3:fs.lookup m=none) (q:t σ H1 fun vs H2=>sp (x::(vs++dvs)) H2 Q E)
def zHJ(C:Addr)(m:Str)(sp:Sp)(dvs:List V)(E:XK)(ta:TE)(t:TA):TE:=fun σ H Q=>ta σ H fun x H1=>XMeth C m sp dvs E t x σ H1 Q
def zNs(C:Addr)(sp:Sp)(dvs:List V)(E:XK)(t:TA):TE:=fun σ H Q=>t σ H fun vs H1=> ∀x dx,H1 x=none->H1 dx=none->dx≠x->
 sp (.ref x::(vs++dvs)) (upd (upd H1 dx (.own x)) x (.ins C dx [])) (fun v H2=>v= .non/\Q (.ref x) H2) E
def zK(K:zSy)(fd:FuncData)(ps:List Str)(ds:List Value):Prop:=
 ∀(s:Shared) (us:List Value),K.In s.heap->(us++ds).length=ps.length->BindsTo s fd ⟨us,[]⟩ (ps.zip (us++ds))
theorem zK.all{K:zSy}{fd:FuncData}{ps:List Str}(h: ∀us:List Value,us.length=ps.length->bindArgs fd ⟨us,[]⟩=pure (ps.zip us)):zK K fd ps [] :=fun s us _ hl=>by
 rw [zSg] at hl⊢;exact .of_eq (h us hl)
def zAg(CX:CXT)(X:Cx)(E:XK):Prop:= ∀(pins:List (Addr×Obj)) (σ:St) (H:Hp) (s:Shared) (e:Value) (s':Shared),Inv X pins σ H s->CX X.stack H s E e s'->X.xe e s'
section
variable {X:Cx}{CX:CXT}{k:Nat}{f C:Addr}{fd:FuncData}{ps:List Str}{sp:Sp}{dvs:List V}{ds:List Value}{E:XK}{x m:Str}{p pos apos:Pos}{e o:Expr}{es:List Expr}{ta:TE}{t:TA}
theorem zHi{pins:List (Addr×Obj)}{σ:St}{H:Hp}{s:Shared}{Q:VK}{us:List Value}{vs:List V}(F:FnOk X.prog X.w X.K X.mg X.base CX k f fd ps sp)(hr:Room k X.A)(hb:zK X.K fd ps ds)(hd:zN dvs ds)(hx:zAg CX X E)
  (I:Inv X pins σ H s) (r:zN vs us) (h:sp (vs++dvs) H Q E):wpAny (model X.prog X.w) X.A (call (.ref f) us) (EP X pins σ Q) X.xe s:=by
 have r2:zN (vs++dvs) (us++ds):=r.append hd;have hl:(us++ds).length=ps.length:=by rw [<-r2.length];exact F.len _ _ _ _ h
 refine wpAny_call (zSw (F.run X.A X.stack s H ⟨us,[]⟩ (us++ds) (vs++dvs) Q E hr I.env0 (hb s us I.kIn hl) r2 h) fun r s' hq=>?_);cases r with
 | error e=>exact hx pins σ H s e s' I hq
 | ok fl=>
  cases fl with
  | ret u=>exact I.after hq
  | next=>exact False.elim hq
  | brk=>exact False.elim hq
  | cont=>exact False.elim hq
theorem zEc(F:FnOk X.prog X.w X.K X.mg X.base CX k f fd ps sp)(hr:Room k X.A)(hg:Gl X x)(hm:X.mg x=some (.ref f))(hk:PySem.W.keepIn X.K (.ref f)=true)(hb:zK X.K fd ps ds)(hd:zN dvs ds)(hx:zAg CX X E)
  (ha:PA X (e::es) t) (hdb:(x==("__debug__" :Str))=false:=by decide) (he:starEach (e::es) X.env=(false,eval e X.env)::starEach es X.env:=by rfl) (hpl:(backTo pos (starEach es X.env)).any (·.1)=false:=by rfl):
  PE X (.Call (.Name x p) (e::es) [] pos) (zNq sp dvs E t):=by
 intro pins s σ H Q I h;refine zSv (zCE I hg hm ?_ hdb);refine PySem.W.callWith_K (h₀:=X.base) I.ok.mod.kin hk (zS (ha pos pins s σ H _ I h) fun us s1 ⟨vs,H1,I1,r,q⟩=>⟨I1.kIn,?_⟩) he hpl;exact zHi F hr hb hd hx I1 r q
theorem zOl{pl:Sem Bool}(he:PE X o ta)(c:Cls X.K C)(hm:Meth X.K C m f)(F:FnOk X.prog X.w X.K X.mg X.base CX k f fd ps sp)(hr:Room k X.A)(hb:zK X.K fd ps ds)(hd:zN dvs ds)(hx:zAg CX X E)(ha:PA X (e::es) t)
  (hst:starEach (e::es) X.env=(false,eval e X.env)::starEach es X.env:=by rfl) (hpl:(backTo pos (starEach es X.env)).any (·.1)=false:=by rfl)
  (ht:eval (.Call (.Attribute o m apos) (e::es) [] pos) X.env=(do
   let ov<-eval o X.env
   standAt apos.atName
   let (f,first)<-holding [ov] (getMethod ov m pl)
   callWith pos f first (backTo pos (starEach (e::es) X.env)) (backToKw pos (keywordEach [] X.env))):=by rfl):
  PE X (.Call (.Attribute o m apos) (e::es) [] pos) (zHJ C m sp dvs E ta t):=by
 intro pins s σ H Q I h;refine PySem.W.methodCall_KW (pl:=pl) (zS (he pins s σ H _ I h) fun u s1 ⟨x,H1,I1,rx,a,dx,fs,ex,ea,l,q⟩=>?_) ht;subst ex;obtain rfl:u=Value.ref a:=rx;refine zFT I1 ea c hm l ?_;refine PySem.W.callWith_K (first:= [.ref a]) (h₀:=X.base) I.ok.mod.kin hm.kp (zS (ha pos pins s1 σ H1 _ I1 q) fun us s2 ⟨vs,H2,I2,r,q2⟩=>⟨I2.kIn,?_⟩) hst hpl;exact zHi (us:= .ref a::us) (vs:= .ref a::vs) F hr hb hd hx I2 (.cons rfl r) q2
theorem zMP{pl:Sem Bool}(he:PE X o ta)(c:Cls X.K C)(hm:Meth X.K C m f)(F:FnOk X.prog X.w X.K X.mg X.base CX k f fd ps sp)(hr:Room k X.A)(hb:zK X.K fd ps ds)(hd:zN dvs ds)(hx:zAg CX X E)
  (ht:eval (.Call (.Attribute o m apos) [] [] pos) X.env=(do
   let ov<-eval o X.env
   standAt apos.atName
   let (f,first)<-holding [ov] (getMethod ov m pl)
   callWith pos f first (backTo pos (starEach [] X.env)) (backToKw pos (keywordEach [] X.env))):=by rfl):
  PE X (.Call (.Attribute o m apos) [] [] pos) (zHJ C m sp dvs E ta zDr):=by
 intro pins s σ H Q I h;refine PySem.W.methodCall_KW (pl:=pl) (zS (he pins s σ H _ I h) fun u s1 ⟨x,H1,I1,rx,a,dx,fs,ex,ea,l,q⟩=>?_) ht;subst ex;obtain rfl:u=Value.ref a:=rx;refine zFT I1 ea c hm l ?_;exact PySem.W.callWith_K0 (first:= [.ref a]) I1.kIn hm.kp (zHi (us:= [.ref a]) (vs:= [.ref a]) F hr hb hd hx I1 (.cons rfl .nil) q)
structure Mk(K:zSy)(C f:Addr):Prop where
 makes:PySem.W.makesIn K C=true
 init:PySem.W.findIn K (.ref C) "__init__" =some (some (.ref f))
 fn:PySem.W.isFn K (.ref f)=true
 kp:PySem.W.keepIn K (.ref C)=true
theorem zMf{pins:List (Addr×Obj)}{σ:St}{H:Hp}{s:Shared}{Q:VK}{us:List Value}{vs:List V}(M:Mk X.K C f)(F:FnOk X.prog X.w X.K X.mg X.base CX k f fd ps sp)(hr:Room (k+1) X.A)(hb:zK X.K fd ps ds)(hd:zN dvs ds)
  (hx:zAg CX X E) (I:Inv X pins σ H s) (r:zN vs us)
  (h: ∀x dx,H x=none->H dx=none->dx≠x->sp (.ref x::(vs++dvs)) (upd (upd H dx (.own x)) x (.ins C dx [])) (fun v H2=>v= .non/\Q (.ref x) H2) E):
  wpAny (model X.prog X.w) X.A (call (.ref C) us) (EP X pins σ Q) X.xe s:=by
 have hq:=h (s.heap.objs.size+1) s.heap.objs.size (I.hok.fresh (Nat.le_succ _)) (I.hok.fresh (zSJ _)) (zSN (Nat.lt_succ_self _));have I2:=Inv.made (C:=C) I;have r2:zN (V.ref (s.heap.objs.size+1)::(vs++dvs)) (Value.ref (s.heap.objs.size+1)::(us++ds)):= .cons rfl (r.append hd);have hl:(Value.ref (s.heap.objs.size+1)::us++ds).length=ps.length:=by
  have e:=r2.length;rw [F.len _ _ _ _ hq] at e;exact e.symm
 refine wpAny_call (zMK (f:=f) I.kIn M.makes M.init (beq_iff_eq.mp M.fn) (zSw (F.run _ X.stack _ _ ⟨Value.ref (s.heap.objs.size+1)::us,[]⟩ (Value.ref (s.heap.objs.size+1)::(us++ds)) _ _ E (hr.make C us [])
  (I2.env0.make C us []) (hb _ (Value.ref (s.heap.objs.size+1)::us) I2.kIn hl) r2 hq) fun r s' hq'=>?_))
 cases r with
 | error e=>exact hx pins σ _ _ e s' I2 hq'
 | ok fl=>
  cases fl with
  | ret u=>
   obtain ⟨v,H',I3,rv,ev,q3⟩:=I2.after hq';subst ev;exact ⟨rv,⟨V.ref (s.heap.objs.size+1),H',I3,rfl,q3⟩⟩
  | next=>exact False.elim hq'
  | brk=>exact False.elim hq'
  | cont=>exact False.elim hq'
theorem zOs(M:Mk X.K C f)(F:FnOk X.prog X.w X.K X.mg X.base CX k f fd ps sp)(hr:Room (k+1) X.A)(hg:Gl X x)(hm:X.mg x=some (.ref C))(hb:zK X.K fd ps ds)(hd:zN dvs ds)(hx:zAg CX X E)
  (ha:PA X (e::es) t) (hdb:(x==("__debug__" :Str))=false:=by decide) (he:starEach (e::es) X.env=(false,eval e X.env)::starEach es X.env:=by rfl) (hpl:(backTo pos (starEach es X.env)).any (·.1)=false:=by rfl):
  PE X (.Call (.Name x p) (e::es) [] pos) (zNs C sp dvs E t):=by
 intro pins s σ H Q I h;refine zSv (zCE I hg hm ?_ hdb);refine PySem.W.callWith_K (h₀:=X.base) I.ok.mod.kin M.kp (zS (ha pos pins s σ H _ I h) fun us s1 ⟨vs,H1,I1,r,q⟩=>⟨I1.kIn,?_⟩) he hpl;exact zMf M F hr hb hd hx I1 r q
end
section
variable {X:Cx}{CX:CXT}{k:Nat}{f C:Addr}{fd:FuncData}{ps ks:List Str}{sp:Sp}{E:XK}{x m:Str}{p pos apos kpos:Pos}{e o:Expr}{es:List Expr}{kws:List Keyword}{te ta:TE}{t tk:TA}{nm:Option Str}
variable {g:List Value->List Value->List Value}{gV:List V->List V->List V}
end
structure FnScope(N P:List Str)(sc:Scope):Prop where
 kind:sc.kind= .function
 co:sc.isCoroutine=false
 gen:sc.isGenerator=false
 nd:N.Nodup
 pre:N.take P.length=P
 par: ∀x∈P,sc.names.lookup x=some .local\/sc.names.lookup x=some .cell
 nofree: ∀y∈sc.names,y.2≠ .free
theorem zGg{kindOf:Str->Option NameKind}{x:Str}: ∀{binds:List (Str×Value)} {m:Str->Option Value},(∀v,(x,v)∉binds)->bindL kindOf binds m x=m x
 | [],_,_=>rfl
 |(n,v)::r,m,h=>by
  unfold bindL;rw [zGg fun w hw=>h w (zSm _ hw)];split
  ·have:x≠n:=by rintro rfl;exact h v List.mem_cons_self
   simp [this]
  ·rfl
theorem zGr{kindOf:Str->Option NameKind}{x:Str}: ∀{binds:List (Str×Value)} {m:Str->Option Value},(∀v,(x,v)∉binds)->bindC kindOf binds m x=m x
 | [],_,_=>rfl
 |(n,v)::r,m,h=>by
  unfold bindC;rw [zGr fun w hw=>h w (zSm _ hw)];split
  ·rfl
  ·have:x≠n:=by rintro rfl;exact h v List.mem_cons_self
   simp [this]
theorem zGn{kindOf:Str->Option NameKind}{x:Str}{v:Value}: ∀{P:List Str} {vs:List Value} {i:Nat} {m:Str->Option Value},P.Nodup->P[i]?=some x->vs[i]?=some v->kindOf x=some .local->
  bindL kindOf (P.zip vs) m x=some v
 | [],_,_,_,_,h,_,_=>by simp at h
 | _::_,[],_,_,_,_,h,_=>by simp at h
 | p::P,w::vs,0,m,nd,h1,h2,hk=>by
  simp at h1 h2;subst h1;subst h2;show bindL kindOf ((p,w)::P.zip vs) m p=_;unfold bindL;rw [zGg fun v hv=>(List.nodup_cons.mp nd).1 (List.of_mem_zip hv).1,if_pos hk];simp
 | p::P,w::vs,i+1,m,nd,h1,h2,hk=>by
  show bindL kindOf ((p,w)::P.zip vs) m x=_;unfold bindL;exact zGn (i:=i) (List.nodup_cons.mp nd).2 (by simpa using h1) (by simpa using h2) hk
theorem zGp{kindOf:Str->Option NameKind}{x:Str}{v:Value}: ∀{P:List Str} {vs:List Value} {i:Nat} {m:Str->Option Value},P.Nodup->P[i]?=some x->vs[i]?=some v->kindOf x≠some .local->
  bindC kindOf (P.zip vs) m x=some v
 | [],_,_,_,_,h,_,_=>by simp at h
 | _::_,[],_,_,_,_,h,_=>by simp at h
 | p::P,w::vs,0,m,nd,h1,h2,hk=>by
  simp at h1 h2;subst h1;subst h2;show bindC kindOf ((p,w)::P.zip vs) m p=_;unfold bindC;rw [zGr fun v hv=>(List.nodup_cons.mp nd).1 (List.of_mem_zip hv).1,if_neg hk];simp
 | p::P,w::vs,i+1,m,nd,h1,h2,hk=>by
  show bindC kindOf ((p,w)::P.zip vs) m x=_;unfold bindC;exact zGp (i:=i) (List.nodup_cons.mp nd).2 (by simpa using h1) (by simpa using h2) hk
def start(N:List Str)(vs:List V):St:=vs.map some++List.replicate (N.length - vs.length) none
def zAZ(CX:CXT)(P:Program)(w:World)(K:zSy)(mg:Str->Option Value)(base:Heap)(N:List Str)(qual:Str)(scope:Scope)(f:Addr)(cd:Value)(A:Around)(outer:List Env)(s:Shared)(H:Hp)(E:XK):Cx where
 prog:=P
 w:=w
 K:=K
 mg:=mg
 base:=base
 A:=A.deeper (envOfC qual scope s.heap.objs.size f cd)
 N:=N
 s₀:=s
 H₀:=H
 env:=envOfC qual scope s.heap.objs.size f cd
 outer:=outer
 stack:=envOfC qual scope s.heap.objs.size f cd::outer
 ex:= []
 calm:=true
 fn:=fun _=>true
 pn:= []
 xe:=fun e s'=>wpAny (model P w) (A.deeper (envOfC qual scope s.heap.objs.size f cd)) (leaving (envOfC qual scope s.heap.objs.size f cd) e) (fun _ s''=>CX outer H s E e s'') (fun e' s''=>CX outer H s E e' s'') s'
theorem zHo{sc:Scope}{n:Nat}{x:Str}(h:sc.names.lookup x=some .cell): ∃c,(cellsFrom n sc.names []).lookup x=some c:=by
 have q:=PySem.W.cellsFrom_some sc.names n [] (.inl h);exact Option.isSome_iff_exists.mp q
theorem zLf{CX:CXT}{P:Program}{w:World}{K:zSy}{mg:Str->Option Value}{base:Heap}{N ps:List Str}{qual:Str}{scope:Scope}{f:Addr}{cd:Value}{A:Around}{outer:List Env}{s s1:Shared}{H:Hp}{E:XK}{us:List Value}{vs:List V}
  (S:FnScope N ps scope) (hd:A.handled=none) (e0:Env0 P w K mg base A outer s H) (hl:vs.length=ps.length) (r:zN vs us)
  (x:InCallC s s.heap.objs.size (bindL (envOfC qual scope s.heap.objs.size f cd).kindOf (ps.zip us) fun _=>none) (cellsFrom (s.heap.objs.size+1) scope.names []) (bindC (envOfC qual scope s.heap.objs.size f cd).kindOf (ps.zip us) fun _=>none) s1):
  Inv (zAZ CX P w K mg base N qual scope f cd A outer s H E) [] (start N vs) H s1:=by
 have hpl:ps.length<=N.length:=by have:=congrArg List.length S.pre;rw [List.length_take] at this;omega
 obtain ⟨h1,tk,rfl,hk⟩:=x.done;have noA: ∀b:Addr,b∉(zAZ CX P w K mg base N qual scope f cd A outer s H E).ex:=fun b z=>absurd (show b∈([] :List Addr) from z) (by simp);refine ⟨⟨e0.mod,S.kind,rfl,rfl,zSJ _,fun y z c h1 h2=>?_,fun y hy=>?_,fun y c _ h=>?_,fun _=>hd,Around.frames_deeper e0.frames,.inr ⟨rfl,rfl⟩,fun b z=>absurd z (noA b),e0.bs,e0.bsz,fun b _ _=>noA b,fun b z=>absurd z (noA b),e0.funs,e0.frf⟩,
  rfl,e0.bare,Un.kept hk,⟨_,x.toInCall.ns,fun i y v h1 h2 h3=>?_⟩,fun y c h=>⟨_,x.cell y c h⟩,e0.hok.fresh (zSJ _),fun y c h=>?_,fun p hp=>absurd (show p∈([] :List (Addr×Obj)) from hp) (by simp),e0.hok.kept hk,?_⟩
 ·exact name_of_addr x.apart (PySem.mem_of_lookup h1) (PySem.mem_of_lookup h2)
 ·have hy:scope.names.lookup y=some .cell\/scope.names.lookup y=some .free:=hy;rcases hy with hy | hy
  ·exact zHo hy
  ·exact absurd rfl (S.nofree _ (PySem.mem_of_lookup hy))
 ·exact zSp (x.above y c (PySem.mem_of_lookup h))
 ·have hi:i<vs.length:=by
   unfold start at h2;by_cases hi:i<vs.length
   ·exact hi
   ·rw [List.getElem?_append_right (by simpa using hi)] at h2;rw [List.getElem?_replicate] at h2;split at h2<;>cases h2
  have ha:vs[i]?=some v:=by
   unfold start at h2;rw [List.getElem?_append_left (by simpa using hi),zSK] at h2;cases e:vs[i]? with
   | none=>rw [e] at h2;cases h2
   | some a=>rw [e] at h2;cases h2;rfl
  obtain ⟨u,hu,rv⟩:=r.get ha;have hp:ps[i]?=some y:=by
   rw [<-S.pre,List.getElem?_take_of_lt (by omega)];exact h1
  have ndP:ps.Nodup:=by rw [<-S.pre];exact S.nd.sublist (List.take_sublist _ _)
  refine ⟨u,rv,?_⟩;rcases S.par y (zSj hp) with k | k
  ·exact .inl ⟨k,zGn ndP hp hu k⟩
  ·obtain ⟨c,e⟩:=zHo (n:=s.heap.objs.size+1) k;refine .inr ⟨.inl k,c,e,?_⟩;have q:=x.cell y c e;rw [zGp ndP hp hu (by show scope.names.lookup y≠_;rw [k];decide)] at q;exact q
 ·exact e0.hok.fresh (zSp (x.above y c (PySem.mem_of_lookup h)))
 ·unfold start;show _=N.length;rw [zSh,zSM,List.length_replicate];omega
theorem zJo{CX:CXT}{P:Program}{w:World}{K:zSy}{mg:Str->Option Value}{base:Heap}{k:Nat}{f:Addr}{name qual:Str}{params:Arguments}{body:List Stmt}{scope:Scope}{dV kV doc pm cdv ct oc:Value}{an od:Option Addr}
  {osl:Array (Option Value)} {N ps:List Str} {sp:Sp} (lk:K.lookup f=some ⟨oc,od,.func (PySem.W.fnOf name qual params body scope dV kV doc pm an cdv ct),osl⟩) (hcd:PySem.W.codeIn K cdv qual=true) (S:FnScope N ps scope)
  (len: ∀vs H Q E,sp vs H Q E->vs.length=ps.length)
  (hbody: ∀(A:Around) (outer:List Env) (s:Shared) (H:Hp) (vs:List V) (Q:VK) (E:XK),Room k (A.deeper (envOfC qual scope s.heap.objs.size f cdv))->sp vs H Q E->
   ∃t,PSs (zAZ CX P w K mg base N qual scope f cdv A outer s H E) body t/\t {nx:=fun _ H'=>Q .non H',rt:=Q} (start N vs) H):
  FnOk P w K mg base CX (k+1) f (PySem.W.fnOf name qual params body scope dV kV doc pm an cdv ct) ps sp:=by
 refine ⟨len,fun A outer s H args us vs Q E hr e0 hb r hsp=>?_⟩;have hl:=len _ _ _ _ hsp;have KX:K.In s.heap:=e0.mod.kin.keeps fun b o e=>(e0.bs b o e).1;have lim:s.heap.NoLimit:=e0.mod.nolimit.keeps fun b o e=>(e0.bs b o e).1;have hkind: ∀y∈ps.zip us,scope.names.lookup y.1=some .local\/(scope.names.lookup y.1=some .cell/\((cellsFrom (s.heap.objs.size+1) scope.names []).lookup y.1).isSome=true):=fun ⟨n,v⟩ hy=>by
  rcases S.par n (List.of_mem_zip hy).1 with q | q
  ·exact .inl q
  ·exact .inr ⟨q,PySem.W.cellsFrom_some _ _ _ (.inl q)⟩
 refine codeAny_call_function hr.depth (KX _ _ lk) rfl S.co S.gen rfl (PySem.W.codeRec_of KX hcd) (hb _ _ _ _ ?_);refine wpAny_newFunctionEnv_cells S.kind hkind fun env he s1 x=>?_;subst he;refine ⟨lim.keeps x.toInCall.keep,codeAny_func ?_⟩;obtain ⟨t,ht,hq⟩:=hbody A outer s H vs Q E (hr.deeper _) hsp;have I:Inv (zAZ CX P w K mg base N qual scope f cdv A outer s H E) [] (start N vs) H s1:=zLf S hr.hd e0 hl r x;refine zSa (ht [] s1 (start N vs) H _ I hq) (fun fl s' hs=>?_) fun e s' hs=>hs;have fin: ∀{σ':St} {H':Hp} {v:V} {u:Value},Inv (zAZ CX P w K mg base N qual scope f cdv A outer s H E) [] σ' H' s'->zd v u->Q v H'->CE outer P w H s Q u s':=
  fun {σ' H' v u} J rv q=>⟨v,H',J.os,J.bare,J.base,J.hok,rv,q⟩
 cases fl with
 | ret u=>
  obtain ⟨v,σ',H',J,rv,q⟩:=hs;exact fin J rv q
 | next=>
  obtain ⟨σ',H',J,q⟩:=hs;exact fin (v:=V.non) (u:=Value.none) J rfl q
 | brk=>
  obtain ⟨_,_,_,q⟩:=hs;exact False.elim q
 | cont=>
  obtain ⟨_,_,_,q⟩:=hs;exact False.elim q
section
variable {X:Cx}{x:Str}{p pos:Pos}{e:Expr}{es:List Expr}{t:TA}{id T:String}{r:List V->Hp->VK->Prop}
def tCB(r:List V->Hp->VK->Prop)(t:TA):TE:=fun σ H Q=>t σ H fun vs H1=>r vs H1 Q
theorem zDT(hc:yJ X (.builtin id) r)(hg:Gl X x)(hm:X.mg x=none)(hv:bootBuiltins x=some (.builtin id))(ha:PA X (e::es) t)(hn:x≠ "__name__" :=by decide)(hdb:(x==("__debug__" :Str))=false:=by decide)
  (he:starEach (e::es) X.env=(false,eval e X.env)::starEach es X.env:=by rfl) (hpl:(backTo pos (starEach es X.env)).any (·.1)=false:=by rfl):PE X (.Call (.Name x p) (e::es) [] pos) (tCB r t):=by
 intro pins s σ H Q I h;refine zSv (zBh I hg hm hv ?_ hn hdb);exact PyProof.Rows.callWith_builtin1 (zS (ha pos pins s σ H _ I h) fun us s1 ⟨vs,H1,I1,r1,q1⟩=>hc pins s1 σ H1 vs us Q I1 r1 q1) he hpl
theorem zLV(hc:yJ X (.type T) r)(hg:Gl X x)(hm:X.mg x=none)(hv:bootBuiltins x=some (.type T))(ha:PA X (e::es) t)(hn:x≠ "__name__" :=by decide)(hdb:(x==("__debug__" :Str))=false:=by decide)
  (he:starEach (e::es) X.env=(false,eval e X.env)::starEach es X.env:=by rfl) (hpl:(backTo pos (starEach es X.env)).any (·.1)=false:=by rfl):PE X (.Call (.Name x p) (e::es) [] pos) (tCB r t):=by
 intro pins s σ H Q I h;refine zSv (zBh I hg hm hv ?_ hn hdb);exact PyProof.Rows.callWith_type1 (zS (ha pos pins s σ H _ I h) fun us s1 ⟨vs,H1,I1,r1,q1⟩=>hc pins s1 σ H1 vs us Q I1 r1 q1) he hpl
end
end L2
namespace HT
open PySem PyProof.Rows
section
open PySem.SeqAt
open PySem.AutoSeq1 (wpAny_loadPart')
open PySem.MeetsSeq PySem.MeetsSeq2 PySem.MeetsSeq3
end
section
variable {prog:Program}{w:World}{A:Around}{E:Value->Shared->Prop}{s:Shared}
def sIx(n d:Nat):Option Int->Nat
 | none=>d
 | some v=>if v<0 then (v+(n:Int)).toNat else min v.toNat n
theorem zPl(n d:Nat)(hd:d<=n)(o:Option Int):sIx n d o<=n:=by
 cases o with
 | none=>exact hd
 | some v=>
  show (if v<0 then (v+(n:Int)).toNat else min v.toNat n)<=n;by_cases hv:v<0
  ·rw [if_pos hv];omega
  ·rw [if_neg hv];exact Nat.min_le_right _ _
theorem zJN(v:Int)(n d:Nat):(if v<0 then max (v+(n:Int)) 0 else min v (n:Int))=((sIx n d (some v):Nat):Int):=by
 show (if v<0 then max (v+(n:Int)) 0 else min v (n:Int))=(((if v<0 then (v+(n:Int)).toNat else min v.toNat n):Nat):Int);by_cases hv:v<0
 ·simp only [if_pos hv];omega
 ·simp only [if_neg hv];omega
theorem zKO(lo hi:Option Int)(n:Nat):Builtin.Slice.sliceAdjust lo hi 1 (n:Int)=(((sIx n 0 lo:Nat):Int),((sIx n n hi:Nat):Int)):=by
 have h1: ¬((1:Int)<0):=by omega
 unfold Builtin.Slice.sliceAdjust;simp only [h1,if_false];refine Prod.ext ?_ ?_
 ·cases lo with
  | none=>rfl
  | some v=>exact zJN v n 0
 ·cases hi with
  | none=>rfl
  | some v=>exact zJN v n n
theorem zKS(i j:Nat):Builtin.Slice.slicePlaces (i:Int) (j:Int) 1=j - i:=by
 unfold Builtin.Slice.slicePlaces;have h1:(1:Int)>0:=by omega
 simp only [h1,if_true,Int.ediv_one];split<;>omega
theorem zFR{v:Value}{o:Option Int}{Q:Option Int->Shared->Prop}(p:IsPart v o)(h:Q o s):wpAny (model prog w) A (Builtin.Slice.slicePartIndex v) Q E s:=by
 cases p with
 | none=>exact slicePart_none h
 | int i t=>exact slicePart_int h
theorem zEz{sl:Addr}{vl vu:Value}{lo hi:Option Int}{n:Nat}{Q:Int×Int×Nat->Shared->Prop}(hs:s.heap.IsSliceOf sl vl vu .none)(pl:IsPart vl lo)(pu:IsPart vu hi)
  (h:Q (((sIx n 0 lo:Nat):Int),1,sIx n n hi - sIx n 0 lo) s):wpAny (model prog w) A (Builtin.Slice.sliceApplied (.ref sl) (pure (n:Int))) Q E s:=by
 obtain ⟨os,hos,hcs,hds⟩:=id hs;unfold Builtin.Slice.sliceApplied Builtin.Slice.sliceFields;refine zSG (zSG (wpAny_field hos hds (x:=vl) rfl (zSG (wpAny_field hos hds (x:=vu) rfl (zSG (wpAny_field hos hds (x:= .none) rfl (zSL ?_)))))));refine zSG (slicePart_none ?_);show wpAny _ _ (if ((1:Int)==0)=true then _ else _) _ _ s;rw [if_neg (by decide)];refine zSG (zFR pl (zSG (zFR pu (zSG (zSL ?_)))));show wpAny _ _ (match Builtin.Slice.sliceAdjust lo hi 1 (n:Int) with |(lo,hi)=>pure (lo,(1:Int),Builtin.Slice.slicePlaces lo hi 1)) _ _ s;rw [zKO lo hi n];show wpAny _ _ (pure (((sIx n 0 lo:Nat):Int),(1:Int),Builtin.Slice.slicePlaces ((sIx n 0 lo:Nat):Int) ((sIx n n hi:Nat):Int) 1)) _ _ s;rw [zKS];exact zSL h
theorem zNG(xs:Array Value)(i k:Nat):((List.range k).filterMap fun (m:Nat)=>xs[((i:Int)+(m:Int)*1).toNat]?).toArray=((xs.toList.drop i).take k).toArray:=by
 have e:(fun (m:Nat)=>xs[((i:Int)+(m:Int)*1).toNat]?)=fun m=>xs[i+m]?:=by
  funext m
  have:((i:Int)+(m:Int)*1).toNat=i+m:=by omega
  rw [this]
 rw [e];have:=pick_run xs i k;rw [List.filterMap_map] at this;have e2:((fun x=>xs[x]?)∘fun x=>i+x)=fun m=>xs[i+m]?:=rfl;rw [e2] at this;rw [this]
theorem getItem_tuple_cut{t sl:Addr}{items:Array Value}{vl vu:Value}{lo hi:Option Int}{Q:Value->Shared->Prop}(ht:IsTup s.heap t items)(hs:s.heap.IsSliceOf sl vl vu .none)(pl:IsPart vl lo)(pu:IsPart vu hi)
  (hw: ¬(sIx items.size 0 lo=0/\sIx items.size items.size hi=items.size))
  (h:Q (.ref s.heap.objs.size) {s with heap:=s.heap.push {cls:= .type "tuple",data:= .seq ((items.toList.drop (sIx items.size 0 lo)).take (sIx items.size items.size hi - sIx items.size 0 lo)).toArray}})
  (hsz:items.size<=sizeLine):wpAny (model prog w) A (getItem (.ref t) (.ref sl)) Q E s:=by
 have htake:sizeOk (.seq ((items.toList.drop (sIx items.size 0 lo)).take (sIx items.size items.size hi - sIx items.size 0 lo)).toArray):=by
  show ((items.toList.drop (sIx items.size 0 lo)).take (sIx items.size items.size hi - sIx items.size 0 lo)).toArray.size<=sizeLine;rw [zSZ,List.length_take,List.length_drop,Array.length_toList];omega
 have hj:sIx items.size items.size hi<=items.size:=zPl _ _ (zSJ _) hi;obtain ⟨os,hos,hcs,hds⟩:=id hs;have hTs:s.TypeIs (.ref sl) "slice" :=⟨os,hos,hcs⟩;unfold getItem
 try with_reducible refine zSs ?_
 first | refine zSG (zSL ?_)| skip
 refine zSG (wpAny_sequenceKey ht.typeIs (by decide) ?_);refine zSG (wpAny_callSpecial?_slot (name:=Str.ofString "__getitem__") ht.typeIs PyProof.Rows.slot_tuple_getitem
  (wpAny_call_entry PyProof.Rows.slot_tuple_getitem ht.typeIs entry_tuple_getitem ?_ (args_tuple_getitem _ _)))
 show wpAny _ _ (Builtin.Tuple.tupleItemsOf (.ref t)>>=_) _ _ s;refine zSG (tupleItemsOf_ ht ?_);refine zSG (wpAny_typeOf hTs ?_);rw [if_pos (by decide)];refine zSG (zEz hs pl pu ?_);have hno: ¬((((sIx items.size 0 lo:Nat):Int)==0&&(1:Int)==1&&(sIx items.size items.size hi - sIx items.size 0 lo)==items.size)=true):=by
  intro q;rw [zTA,zTA] at q;have q1:((sIx items.size 0 lo:Nat):Int)=0:=eq_of_beq q.1.1;have q2:sIx items.size items.size hi - sIx items.size 0 lo=items.size:=eq_of_beq q.2;exact hw ⟨by omega,by omega⟩
 show wpAny _ _ (if (((sIx items.size 0 lo:Nat):Int)==0&&(1:Int)==1&&(sIx items.size items.size hi - sIx items.size 0 lo)==items.size)=true then _ else _) _ _ s;rw [if_neg hno,zNG]
 first
  | exact zSG (m:=Builtin.Tuple.tupleExact _) (wpAny_newObj_type (zSL ⟨_,rfl,zSL h⟩) htake)
  | exact zSG (m:=Builtin.Tuple.tupleExact _) (wpAny_newObj_type (zSG (zSL (zSL ⟨_,rfl,zSL h⟩))) htake)
  | exact zSG (zSG (m:=Builtin.Tuple.tupleExact _) (wpAny_newObj_type (zSL (zSL ⟨_,rfl,zSL h⟩)) htake))
  | exact zSG (zSG (m:=Builtin.Tuple.tupleExact _) (wpAny_newObj_type (zSL ⟨_,rfl,zSL h⟩) htake))
end
end HT
namespace L2
open PySem PySem.Spec PyProof.Rows
abbrev TO:=St->Hp->(Option Int->Hp->Prop)->Prop
def PO(X:Cx)(e:Option Expr)(t:TO):Prop:=
 ∀(pins:List (Addr×Obj)) (s:Shared) (σ:St) (H:Hp) (Q:Option Int->Hp->Prop),Inv X pins σ H s->t σ H Q->
  wpAny (model X.prog X.w) X.A (evalPart e X.env) (fun u s'=> ∃o H',Inv X pins σ H' s'/\IsPart u o/\Q o H') X.xe s
def zJV:TO:=fun _ H Q=>Q none H
inductive XPart (x:V) (H1:Hp) (Q:Option Int->Hp->Prop):Prop
 | mk (i:Int) (h:x= .int i) (q:Q (some i) H1)
def zNo(t:TE):TO:=fun σ H Q=>t σ H fun x H1=>XPart x H1 Q
theorem zJs{ns:List Int}: ∀{us:List Value},zN (ns.map V.int) us->IntsAre us ns:=by
 induction ns with
 | nil=>intro us r;rw [List.map_nil] at r;cases r;exact .nil
 | cons n ns ih=>
  intro us r;rw [zTD] at r;cases r with
  | cons r1 r2=>
   obtain ⟨t,e⟩:=r1;subst e;exact .cons n t (ih r2)
section
variable {X:Cx}{e:Expr}{te:TE}{lo hi:Option Expr}{tl th:TO}{pos p2:Pos}
theorem zOQ:PO X none zJV:=by
 intro pins s σ H Q I h;rw [evalPart_none];exact zSL ⟨none,H,I,.none,h⟩
theorem zNu(h:PE X e te):PO X (some e) (zNo te):=by
 intro pins s σ H Q I hw;rw [evalPart_some];refine zS (h pins s σ H _ I hw) fun u s1 ⟨x,H1,I1,r1,q1⟩=>?_;obtain ⟨i,rfl,q⟩:=q1;obtain ⟨t,rfl⟩:=r1;exact ⟨some i,H1,I1,.int i t,q⟩
def SlR(X:Cx)(r:V->Option Int->Option Int->Hp->VK->Prop):Prop:=
 ∀(pins:List (Addr×Obj)) (s:Shared) (σ:St) (H:Hp) (x:V) (v vl vu:Value) (lo hi:Option Int) (sl:Addr) (Q:VK),Inv X pins σ H s->zd x v->s.heap.IsSliceOf sl vl vu .none->IsPart vl lo->IsPart vu hi->r x lo hi H Q->
  ∃T id,typeLookup (.type T) "__getitem__" =pure (some (.builtin id))/\s.TypeIs v T/\wpAny (model X.prog X.w) X.A (getItem v (.ref sl)) (EP X pins σ Q) X.xe s
def tSl(r:V->Option Int->Option Int->Hp->VK->Prop)(te:TE)(tl th:TO):TE:=fun σ H Q=>te σ H fun x H1=>tl σ H1 fun l H2=>th σ H2 fun u H3=>r x l u H3 Q
theorem zHd{r:V->Option Int->Option Int->Hp->VK->Prop}(hr:SlR X r)(he:PE X e te)(hl:PO X lo tl)(hu:PO X hi th):PE X (.Subscript e (.Slice lo hi none p2) pos) (tSl r te tl th):=by
 intro pins s σ H Q I h;refine Subscript_ (zS (he pins s σ H _ I h) fun v s1 ⟨x,H1,I1,r1,q1⟩=>?_);refine wpAny_Slice (zS (hl pins s1 σ H1 _ I1 q1) fun vl s2 ⟨l,H2,I2,pl,q2⟩=>zS (hu pins s2 σ H2 _ I2 q2) fun vu s3 ⟨u,H3,I3,pu,q3⟩=>?_);rw [evalPart_none];refine zSL ?_;have I4:Inv X pins σ H3 {s3 with heap:=s3.heap.push {cls:= .type "slice",data:= .fields #[vl,vu,.none]}}:=I3.kept (t':=s3.toks) fun b ob q=>zSH _ q;obtain ⟨T,id,hT,ht,hg⟩:=hr pins {s3 with heap:=s3.heap.push {cls:= .type "slice",data:= .fields #[vl,vu,.none]}} σ H3 x v vl vu l u s3.heap.objs.size Q I4 r1 (Heap.IsSliceOf.new ..) pl pu q3;show wpAny (model X.prog X.w) X.A (subscriptTail e (.Slice lo hi none p2) v (.ref s3.heap.objs.size)) (EP X pins σ Q) X.xe {s3 with heap:=s3.heap.push {cls:= .type "slice",data:= .fields #[vl,vu,.none]}};exact tail_any (ops:= [.ref s3.heap.objs.size,v]) ht hT hg (by with_unfolding_all rfl)
def zBU(xs:List V)(lo hi:Option Int):List V:=(xs.drop (HT.sIx xs.length 0 lo)).take (HT.sIx xs.length xs.length hi - HT.sIx xs.length 0 lo)
theorem zEm(xs:List V)(lo hi:Option Int):(zBU xs lo hi).length<=xs.length:=by
 unfold zBU;rw [List.length_take,List.length_drop];omega
def zPP(K:zSy):V->Option Int->Option Int->Hp->VK->Prop:=fun x lo hi H Q=> ∃a xs,x= .ref a/\SqT K H a xs/\
 ¬(HT.sIx xs.length 0 lo=0/\HT.sIx xs.length xs.length hi=xs.length)/\ ∀p,H p=none->Q (.ref p) (upd H p (.tup (zBU xs lo hi)))
theorem zPS:SlR X (zPP X.K):=by
 intro pins s σ H x v vl vu lo hi sl Q I rx hs pl pu h;obtain ⟨a,xs,rfl,hx,hw,q⟩:=h;cases rx;obtain ⟨its,r,ht,hz⟩:=I.tuple hx;have hlen:its.toArray.size=xs.length:=by rw [zSZ];exact r.length.symm
 refine ⟨"tuple",_,PyProof.Rows.slot_tuple_getitem.lookup,ht.typeIs,?_⟩;refine HT.getItem_tuple_cut ht hs pl pu (by rw [hlen];exact hw) ?_ (by rw [hlen];exact hz);rw [hlen];refine ⟨.ref s.heap.objs.size,_,I.laid (t':=s.toks) (o:= .tup (zBU xs lo hi)) (fun b ob q=>zSH _ q) (zSJ _) ?_,rfl,q _ (I.hok.fresh (zSJ _))⟩;exact ⟨zST (zEm xs lo hi) hz,_,(r.drop (HT.sIx xs.length 0 lo)).take (HT.sIx xs.length xs.length hi - HT.sIx xs.length 0 lo),zFX.new _ _⟩
end
def ixN(n:Nat)(i:Int):Option Nat:=if 0<=i then (if i<n then some i.toNat else none) else if -(n:Int)<=i then some (i+n).toNat else none
def atI{α:Type}(xs:List α)(i:Int):Option α:=(ixN xs.length i).bind fun j=>xs[j]?
theorem zJe{n:Nat}{i:Int}{j:Nat}(h:ixN n i=some j):seqIndex? i n=some j/\j<n/\ -(n:Int)<=i/\i<n:=by
 unfold ixN at h;by_cases h0:0<=i
 ·rw [if_pos h0] at h;by_cases h1:i<n
  ·rw [if_pos h1] at h;have e:i.toNat=j:=Option.some.inj h;exact ⟨by rw [seqIndex_of h0 h1,e],by omega,by omega,h1⟩
  ·rw [if_neg h1] at h;cases h
 ·rw [if_neg h0] at h;by_cases h1: -(n:Int)<=i
  ·rw [if_pos h1] at h;have e:(i+n).toNat=j:=Option.some.inj h;exact ⟨by rw [seqIndex_neg (by omega) h1,e],by omega,h1,by omega⟩
  ·rw [if_neg h1] at h;cases h
theorem zJM{α:Type}{xs:List α}{i:Int}{v:α}(h:atI xs i=some v): ∃j,seqIndex? i xs.length=some j/\xs[j]?=some v/\j<xs.length/\ -(xs.length:Int)<=i/\i<xs.length:=by
 unfold atI at h;cases e:ixN xs.length i with
 | none=>rw [e] at h;cases h
 | some j=>
  rw [e] at h;obtain ⟨h1,h2,h3,h4⟩:=zJe e;exact ⟨j,h1,h,h2,h3,h4⟩
theorem yf{α:Type}{xs:List α}{j:Nat}{v:α}(h:xs[j]?=some v):atI xs (j:Int)=some v:=by
 have hj:j<xs.length:=(zTL.mp h).1;have e:ixN xs.length (j:Int)=some j:=by
  unfold ixN;rw [if_pos (by omega),if_pos (by omega)];simp
 unfold atI;rw [e];exact h
def zGR(b:Expr):Prop:= ∀o i,subscripted b false o i=operate [o,i] (getItem o i)
def IxR(X:Cx)(r:R2):Prop:=
 ∀(value slice:Expr) (pins:List (Addr×Obj)) (s:Shared) (σ:St) (H:Hp) (x y:V) (v u:Value) (Q:VK),Inv X pins σ H s->zd x v->zd y u->r x y H Q->
  subscripted slice false v u=operate [v,u] (getItem v u)->wpAny (model X.prog X.w) X.A (subscriptTail value slice v u) (EP X pins σ Q) X.xe s
def MtR(X:Cx)(id:String)(r:V->List V->Hp->VK->Prop):Prop:=
 ∀(pins:List (Addr×Obj)) (s:Shared) (σ:St) (H:Hp) (x:V) (xs:List V) (v:Value) (us:List Value) (Q:VK),Inv X pins σ H s->zd x v->zN xs us->r x xs H Q->
  wpAny (model X.prog X.w) X.A (call (.builtin id) (v::us)) (EP X pins σ Q) X.xe s
section
variable {X:Cx}{a b:Expr}{ta tb:TE}{pos:Pos}
theorem zJx{r:R2}(hr:IxR X r)(ha:PE X a ta)(hb:PE X b tb)(hs:zGR b):PE X (.Subscript a b pos) (tOp r ta tb):=by
 intro pins s σ H Q I h;exact Subscript_ (zMW ha hb I h fun v u s2 x y H2 I2 rx ry q=>hr a b pins s2 σ H2 x y v u Q I2 rx ry q (hs _ _))
inductive XIxL (K:zSy) (x y:V) (H:Hp) (Q:VK):Prop
 | mk (p:Addr) (xs:List V) (i:Int) (v:V) (h1:x= .ref p) (h2:y= .int i) (h3:SqL K H p xs) (h4:atI xs i=some v) (q:Q v H)
def zJr(K:zSy):R2:=fun x y H Q=>XIxL K x y H Q
inductive XIxT (K:zSy) (x y:V) (H:Hp) (Q:VK):Prop
 | mk (p:Addr) (xs:List V) (i:Int) (v:V) (h1:x= .ref p) (h2:y= .int i) (h3:SqT K H p xs) (h4:atI xs i=some v) (q:Q v H)
def zPL(K:zSy):R2:=fun x y H Q=>XIxT K x y H Q
theorem zIs:IxR X (zJr X.K):=by
 intro value slice pins s σ H x y v u Q I rx ry h hs;obtain ⟨p,xs,i,z,rfl,rfl,hq,he,q⟩:=h;cases rx;obtain ⟨t,rfl⟩:=ry;obtain ⟨its,r,pl,hz⟩:=I.list hq;obtain ⟨j,h1,h2,h3,h4,h5⟩:=zJM he;obtain ⟨w,ew,rw'⟩:=r.get h2;have hl:=r.length;have hn:=zDo;have fin:EP X pins σ Q w s:=⟨z,H,I,rw',q⟩;by_cases h0:0<=i
 ·have hj:i.toNat=j:=by
   rw [seqIndex_of h0 h5] at h1;exact Option.some.inj h1
  exact item_listR pl.isList h0 (by omega) (by rw [hj];simpa using ew) fin hs
 ·have hj:(i+(its.toArray.size:Int)).toNat=j:=by
   rw [seqIndex_neg (by omega) h4] at h1;rw [zSZ,<-hl];exact Option.some.inj h1
  exact subscriptTail_builtinR (x:=w) pl.isList.typeIs slot_list_getitem.lookup
   (wpAny_getItem_list_neg (Q:=fun r s'=>r=w/\EP X pins σ Q r s') pl.isList (by omega) (by rw [zSZ] <;>omega) (by omega) (by rw [hj];simpa using ew) ⟨rfl,fin⟩) hs
theorem zQr:IxR X (zPL X.K):=by
 intro value slice pins s σ H x y v u Q I rx ry h hs;obtain ⟨p,xs,i,z,rfl,rfl,hq,he,q⟩:=h;cases rx;obtain ⟨t,rfl⟩:=ry;obtain ⟨its,r,pl,hz⟩:=I.tuple hq;obtain ⟨j,h1,h2,h3,h4,h5⟩:=zJM he;obtain ⟨w,ew,rw'⟩:=r.get h2;have hl:=r.length;have hn:=zDo;have fin:EP X pins σ Q w s:=⟨z,H,I,rw',q⟩;exact subscriptTail_builtinR (x:=w) pl.typeIs slot_tuple_getitem.lookup
  (getItem_tuple (j:=j) (Q:=fun r s'=>r=w/\EP X pins σ Q r s') pl (by omega) (by omega) (by rw [zSZ,<-hl];exact h1) (by simpa using ew) ⟨rfl,fin⟩) hs
theorem zJz(its:List Value)(n j:Nat)(u:Value):Obj.mapSeq (·.setIfInBounds j u) {cls:= .type "list",data:= .seq its.toArray n}={cls:= .type "list",data:= .seq (its.set j u).toArray n}:=by
 simp [Obj.mapSeq]
theorem Inv.lst{pins:List (Addr×Obj)}{σ:St}{H:Hp}{s:Shared}{p:Addr}{xs:List V}(I:Inv X pins σ H s)(h:H p=some (.lst xs)):
  ∃(its:List Value) (n:Nat),zN xs its/\s.heap.get? p=some {cls:= .type "list",data:= .seq its.toArray n}/\xs.length<=sizeLine:=by
 obtain ⟨z,its,n,r,e⟩:=I.hok p _ h;exact ⟨its,n,r,e,z⟩
theorem Inv.lstUpd{pins:List (Addr×Obj)}{σ:St}{H:Hp}{s:Shared}{p:Addr}{xs ys:List V}{its its':List Value}{n n':Nat}{f:Obj->Obj}(I:Inv X pins σ H s)(h:H p=some (.lst xs))
  (ho:s.heap.get? p=some {cls:= .type "list",data:= .seq its.toArray n}) (hf:f {cls:= .type "list",data:= .seq its.toArray n}={cls:= .type "list",data:= .seq its'.toArray n'}) (r:zN ys its') (hz:ys.length<=sizeLine) (t:Nat):
  Inv X pins σ (upd H p (.lst ys)) {s with heap:=s.heap.update p f,toks:=t}:=by
 have e:(s.heap.update p f).get? p=some {cls:= .type "list",data:= .seq its'.toArray n'}:=by
  rw [zSo f ho (by rw [hf] <;>rfl),hf]
 refine I.write (x:=p) (e:=p) (by rw [h];trivial) (.inl rfl) (fun b u hb q=>(zSn _ _ (Ne.symm hb)).trans q) ⟨_,e⟩ ?_;exact ⟨hz,its',n',r,e⟩
def zKQ:V->V->V->Hp->(Hp->Prop)->Prop:=fun o i v H Q=> ∃p xs k j,o= .ref p/\i= .int k/\H p=some (.lst xs)/\ixN xs.length k=some j/\Q (upd H p (.lst (xs.set j v)))
theorem zIP:zPM X zKQ:=by
 intro pins s σ H o i v ov iv u Q I ro ri rv h;obtain ⟨p,xs,k,j,rfl,rfl,hp,hj,q⟩:=h;cases ro;obtain ⟨t,rfl⟩:=ri;obtain ⟨its,n,r,ho,hz⟩:=I.lst hp;obtain ⟨h1,h2,h3,h4⟩:=zJe hj;have hl:=r.length;have hn:=zDo;have I':Inv X pins σ (upd H p (.lst (xs.set j v))) {s with heap:=s.heap.update p (Obj.mapSeq (·.setIfInBounds j u))}:=
  I.lstUpd hp ho (zJz its n j u) (r.set rv j) (by rw [List.length_set];exact hz) s.toks
 by_cases h0:0<=k
 ·have hk:k.toNat=j:=by
   rw [seqIndex_of h0 h4] at h1;exact Option.some.inj h1
  exact PySem.W.ki_setAt ho h0 (by omega) (by rw [zSZ,<-hl];exact h4) (by rw [hk];exact ⟨_,I',q⟩)
 ·have hk:(k+(its.toArray.size:Int)).toNat=j:=by
   rw [seqIndex_neg (by omega) h3] at h1;rw [zSZ,<-hl];exact Option.some.inj h1
  exact PySem.W.ki_setBack ho (by omega) (by rw [zSZ,<-hl];exact h3) (by omega) (by rw [hk];exact ⟨_,I',q⟩)
theorem zIS(lo hi:Option Int)(n:Nat):(sliceBounds lo hi none n).1=((HT.sIx n 0 lo:Nat):Int)/\(sliceBounds lo hi none n).2.1=((HT.sIx n n hi:Nat):Int)/\(sliceBounds lo hi none n).2.2=1:=by
 refine ⟨?_,?_,rfl⟩
 ·cases lo with
  | none=>simp [sliceBounds,HT.sIx]
  | some i=>
   simp only [sliceBounds,HT.sIx,Option.getD_none,show (1:Int)>0 by decide,if_true];by_cases h:i<0
   ·simp only [h,if_true] <;>omega
   ·simp only [h,if_false] <;>omega
 ·cases hi with
  | none=>simp [sliceBounds,HT.sIx]
  | some i=>
   simp only [sliceBounds,HT.sIx,Option.getD_none,show (1:Int)>0 by decide,if_true];by_cases h:i<0
   ·simp only [h,if_true] <;>omega
   ·simp only [h,if_false] <;>omega
theorem zHD(its:List Value)(lo hi:Option Int):slicePick its.toArray lo hi none=((its.drop (HT.sIx its.length 0 lo)).take (HT.sIx its.length its.length hi - HT.sIx its.length 0 lo)).toArray:=by
 obtain ⟨h1,h2,h3⟩:=zIS lo hi its.toArray.size;unfold slicePick;rw [h1,h2,h3];simp only [sliceRange_one,pick_run,zSZ] <;>rfl
def zQX(K:zSy):V->Option Int->Option Int->Hp->VK->Prop:=fun x lo hi H Q=> ∃a xs,x= .ref a/\SqL K H a xs/\ ∀p,H p=none->Q (.ref p) (upd H p (.lst (zBU xs lo hi)))
theorem zNt:SlR X (zQX X.K):=by
 intro pins s σ H x v vl vu lo hi sl Q I rx hs pl pu h;obtain ⟨a,xs,rfl,hx,q⟩:=h;cases rx;obtain ⟨its,r,ht,hz⟩:=I.list hx;have hlen:=r.length;refine ⟨"list",_,slot_list_getitem.lookup,ht.isList.typeIs,?_⟩;refine wpAny_getItem_list_slice ht.isList hs pl pu .none (by simp) ?_ (by rw [zSZ] <;>omega);rw [zHD,<-hlen];refine ⟨.ref s.heap.objs.size,_,I.laid (t':=s.toks) (o:= .lst (zBU xs lo hi)) (fun b ob q=>zSH _ q) (zSJ _) ?_,rfl,q _ (I.hok.fresh (zSJ _))⟩;exact ⟨zST (zEm xs lo hi) hz,_,0,(r.drop (HT.sIx xs.length 0 lo)).take (HT.sIx xs.length xs.length hi - HT.sIx xs.length 0 lo),zSY _ rfl⟩
theorem zDm:yJ X (.builtin "len") (fun xs H Q=> ∃p ys,xs= [.ref p] /\(SqL X.K H p ys\/SqT X.K H p ys)/\Q (.int ys.length) H):=by
 intro pins s σ H xs us Q I r h;obtain ⟨p,ys,rfl,hq,q⟩:=h;obtain ⟨u,rfl,rx⟩:=yx r;cases rx;have hn:=zDo;rcases hq with hq | hq
 ·obtain ⟨its,r',pl,hz⟩:=I.list hq;have hlen:=r'.length;exact Calls.call_len_list pl.isList (by simp only [zSZ] <;>omega) ⟨.int ys.length,H,I.tok _,⟨s.toks+1,by rw [zSZ,hlen]⟩,q⟩
 ·obtain ⟨its,r',pl,hz⟩:=I.tuple hq;have hlen:=r'.length;exact len_tuple pl (by simp only [zSZ] <;>omega) ⟨.int ys.length,H,I.tok _,⟨s.toks+1,by rw [zSZ,hlen]⟩,q⟩
theorem zIY:yJ X (.type "list") (fun xs H Q=> ∃p ys,xs= [.ref p] /\(SqL X.K H p ys\/SqT X.K H p ys)/\ ∀l,H l=none->Q (.ref l) (upd H l (.lst ys))):=by
 intro pins s σ H xs us Q I r h;obtain ⟨p,ys,rfl,hq,q⟩:=h;obtain ⟨u,rfl,rx⟩:=yx r;cases rx;have fin: ∀(its:List Value),zN ys its->ys.length<=sizeLine-> ∀(h':Heap) (c':Nat),(∀b o',s.heap.get? b=some o'->h'.get? b=some o')->
   h'.get? s.heap.objs.size=some {cls:= .type "list",dict:=none,data:= .seq its.toArray c',slots:= #[]}->EP X pins σ Q (.ref s.heap.objs.size) {s with heap:=h'}:=fun its r' hz h' c' kp e=>
  ⟨.ref s.heap.objs.size,_,I.laid (t':=s.toks) kp (zSJ _) (show yL X.prog X.w _ h' _ (.lst ys) from ⟨hz,its,c',r',e⟩),rfl,q _ (I.hok.fresh (zSJ _))⟩
 rcases hq with hq | hq
 ·obtain ⟨its,r',pl,hz⟩:=I.list hq;have hlen:=r'.length;obtain ⟨o,ho,hc,n,hd⟩:=pl.isList;exact call_list_seq p (.inl rfl) ho hc hd (fun h' c' kp e=>fin its r' hz h' c' kp e) (by simp only [zSZ] <;>omega)
 ·obtain ⟨its,r',pl,hz⟩:=I.tuple hq;have hlen:=r'.length;obtain ⟨o,ho,hc,n,hd⟩:=pl;exact call_list_seq p (.inr rfl) ho hc hd (fun h' c' kp e=>fin its r' hz h' c' kp e) (by simp only [zSZ] <;>omega)
def tyV(K:zSy)(T:String)(x:V)(H:Hp):Prop:=match x with
 | .str _=>T= "str"
 | .int _=>T= "int"
 | .ref p=>(T= "list" /\ ∃xs,SqL K H p xs)\/(T= "tuple" /\ ∃o,K.lookup p=some o/\o.cls= .type "tuple" /\o.dict=none)\/
   (T= "dict" /\((∃kvs,H p=some (.dK kvs))\/ ∃kvs,H p=some (.dT kvs)))\/(T= "set" /\ ∃S n,H p=some (.set S n))
 | _=>False
theorem zKr{pins:List (Addr×Obj)}{σ:St}{H:Hp}{s:Shared}{T:String}{x:V}{v:Value}(I:Inv X pins σ H s)(r:zd x v)(ty:tyV X.K T x H):
  s.TypeIs v T/\ ∀a,v= .ref a-> ∃ob,s.heap.get? a=some ob/\ob.dict=none:=by
 cases x with
 | str z=>
  obtain ⟨t,rfl⟩:=r;cases (show T= "str" from ty);exact ⟨typeIs_str s z t,fun _ e=>nomatch e⟩
 | int i=>
  obtain ⟨t,rfl⟩:=r;cases (show T= "int" from ty);exact ⟨typeIs_int s i t,fun _ e=>nomatch e⟩
 | ref p=>
  cases r;rcases ty with ⟨rfl,xs,hq⟩|⟨rfl,o,hk,hc,hd⟩|⟨rfl,hk⟩|⟨rfl,S,n,hk⟩
  ·obtain ⟨its,_,pl,_⟩:=I.list hq;refine ⟨pl.isList.typeIs,fun a e=>?_⟩;cases e;obtain ⟨o,n,e,c,hd,_⟩:=pl;exact ⟨o,e,hd⟩
  ·refine ⟨⟨o,I.kIn p o hk,hc⟩,fun a e=>?_⟩;cases e;exact ⟨o,I.kIn _ o hk,hd⟩
  ·have z: ∃o,s.heap.get? p=some o/\o.ExactDict:=by
    rcases hk with ⟨kvs,hk⟩|⟨kvs,hk⟩
    ·obtain ⟨_,_,_,_,o,_,_,e,ex,_⟩:=I.hok p _ hk;exact ⟨o,e,ex⟩
    ·obtain ⟨_,_,_,_,o,_,_,e,ex,_⟩:=I.hok p _ hk;exact ⟨o,e,ex⟩
   obtain ⟨o,e,ex⟩:=z;refine ⟨⟨o,e,ex.1⟩,fun a e2=>?_⟩;cases e2;exact ⟨o,e,ex.2.1⟩
  ·obtain ⟨o,_,_,_,e,ex,_⟩:=I.hok p _ hk;refine ⟨⟨o,e,ex.1⟩,fun a e2=>?_⟩;cases e2;exact ⟨o,e,ex.2.1⟩
 | _=>exact False.elim ty
def zRD(K:zSy)(T:String)(r:V->List V->Hp->VK->Prop)(to:TE):TE:=fun σ H Q=>to σ H fun x H1=>tyV K T x H1/\r x [] H1 Q
def tBM(K:zSy)(T:String)(r:V->List V->Hp->VK->Prop)(to:TE)(t:TA):TE:=fun σ H Q=>to σ H fun x H1=>tyV K T x H1/\t σ H1 fun xs H2=>r x xs H2 Q
variable {o e:Expr}{es:List Expr}{to:TE}{t:TA}{name:Str}{apos cpos:Pos}{T id:String}{r:V->List V->Hp->VK->Prop}
theorem zQY(pa:PlainAttrs T)(slot:Slot T name id)(hty:typeOf (.builtin id)=pure (.type "method_descriptor"))(hm:MtR X id r)(ho:PE X o to)
  (hbase:attributeBase o name X.env (eval o X.env)=eval o X.env:=by rfl) (hline:(apos.endLine==cpos.line)=true:=by rfl):PE X (.Call (.Attribute o name apos) [] [] cpos) (zRD X.K T r to):=by
 intro pins s σ H Q I h;refine wpAny_Call_method0_late hbase hline (zS (ho pins s σ H _ I h) fun v s1 ⟨x,H1,I1,r1,ty,q1⟩=>?_);obtain ⟨h1,h2⟩:=zKr I1 r1 ty;exact ⟨T,id,pa,slot,hty,h1,h2,Calls.callWith_builtin rfl (PySem.evalArgs_none (hm pins s1 σ H1 x [] v [] Q I1 r1 .nil q1))⟩
theorem zNj(pa:PlainAttrs T)(slot:Slot T name id)(hty:typeOf (.builtin id)=pure (.type "method_descriptor"))(hm:MtR X id r)(ho:PE X o to)(ha:PA X (e::es) t)
  (hbase:attributeBase o name X.env (eval o X.env)=eval o X.env:=by rfl)
  (hfew:((backTo cpos (starEach (e::es) X.env)).all (fun x=>!x.1)&&(backToKw cpos (keywordEach [] X.env)).all (fun x=>x.1.isSome)
   &&decide ((e::es).length+([] :List Keyword).length+(if ([] :List Keyword).isEmpty then 0 else 1)<30))=true:=by rfl)
  (hline:(apos.endLine==cpos.line)=true:=by rfl) (hs:starEach (e::es) X.env=(false,eval e X.env)::starEach es X.env:=by rfl) (hplain:(backTo cpos (starEach es X.env)).any (·.1)=false:=by rfl):
  PE X (.Call (.Attribute o name apos) (e::es) [] cpos) (tBM X.K T r to t):=by
 intro pins s σ H Q I h;refine wpAny_Call_method_late hbase hfew hline rfl (zS (ho pins s σ H _ I h) fun v s1 ⟨x,H1,I1,r1,ty,q1⟩=>?_);obtain ⟨h1,h2⟩:=zKr I1 r1 ty;refine ⟨T,id,pa,slot,hty,h1,h2,?_⟩;have hA:=ha cpos pins s1 σ H1 _ I1 q1;rw [hs] at hA⊢;refine Calls.callWith_builtin (by show (false ||(backTo cpos (starEach es X.env)).any (·.1))=false;rw [hplain] <;>rfl) (Calls.evalArgs_plain ?_);exact zS hA fun us s2 ⟨vs,H2,I2,r2,q2⟩=>hm pins s2 σ H2 x vs v us Q I2 r1 r2 q2
end
def MtM(X:Cx)(id:String)(r:V->List V->Hp->VK->Prop):Prop:=
 ∀(pins:List (Addr×Obj)) (s:Shared) (σ:St) (H:Hp) (x:V) (xs:List V) (v:Value) (us:List Value) (Q:VK),Inv X pins σ H s->zd x v->zN xs us->r x xs H Q->
  wpAny (model X.prog X.w) X.A (call (.builtin id) (v::us)) (EP X pins σ Q) X.xe s
theorem zN.one: ∀{x:V} {us:List Value},zN [x] us-> ∃u,us= [u] /\zd x u
 | _,_,.cons r .nil=>⟨_,rfl,r⟩
theorem zN.two: ∀{x y:V} {us:List Value},zN [x,y] us-> ∃u v,us= [u,v] /\zd x u/\zd y v
 | _,_,_,.cons r (.cons q .nil)=>⟨_,_,rfl,r,q⟩
theorem zN.zero: ∀{us:List Value},zN [] us->us= []
 | _,.nil=>rfl
theorem zN.rep{xs:List V}{us:List Value}(h:zN xs us): ∀k:Nat,zN (List.replicate k xs).flatten (List.replicate k us).flatten
 | 0=> .nil
 | k+1=>by
  rw [List.replicate_succ,List.replicate_succ,List.flatten_cons,List.flatten_cons];exact zN.append h (zN.rep h k)
theorem zGv(its:List Value): ∀(k:Nat) (acc:List Value),
  List.foldl (fun x1 x2=>x1++x2) acc.toArray (List.replicate k its.toArray)=(acc++(List.replicate k its).flatten).toArray
 | 0,acc=>by simp
 | k+1,acc=>by
  have e:acc.toArray++its.toArray=(acc++its).toArray:=by simp
  have e2:(acc++its)++(List.replicate k its).flatten=acc++(List.replicate (k+1) its).flatten:=by
   rw [List.replicate_succ,List.flatten_cons,List.append_assoc]
  rw [<-e2,<-zGv its k (acc++its),<-e,List.replicate_succ,List.foldl_cons]
section
variable {X:Cx}{pins:List (Addr×Obj)}{σ:St}{H:Hp}{s:Shared}{l b:Addr}{xs ys zs:List V}
theorem Inv.lset{its its':List Value}{n:Nat}{f:Array Value->Array Value}{t':Nat}(I:Inv X pins σ H s)(hH:H l=some (.lst xs))
  (e:s.heap.get? l=some {cls:= .type "list",data:= .seq its.toArray n}) (hf:f its.toArray=its'.toArray) (hv:zN ys its') (hz:ys.length<=sizeLine):
  Inv X pins σ (upd H l (.lst ys)) {s with heap:=s.heap.update l (Obj.mapSeq f),toks:=t'}:=by
 have q:=PySem.IsL.update e f;rw [hf] at q;refine I.write (x:=l) (e:=l) (by rw [hH];exact trivial) (.inl rfl) (fun b' u hb hu=>(zSn s.heap (Obj.mapSeq f) (Ne.symm hb)).trans hu) ⟨_,q⟩ ?_;exact ⟨hz,its',_,hv,q⟩
theorem Inv.lnew{its:List Value}{t':Nat}(I:Inv X pins σ H s)(hv:zN ys its)(hz:ys.length<=sizeLine):
  Inv X pins σ (upd H s.heap.objs.size (.lst ys)) {s with heap:=s.heap.push {cls:= .type "list",data:= .seq its.toArray},toks:=t'}:=
 I.laid (fun _ _ q=>zSH _ q) (zSJ _) ⟨hz,its,0,hv,zSY _ rfl⟩
theorem Inv.fresh(I:Inv X pins σ H s):H s.heap.objs.size=none:=I.hok.fresh (zSJ _)
theorem Inv.lstM(I:Inv X pins σ H s)(hH:H l=some (.lst xs)):xs.length<=sizeLine/\ ∃(its:List Value) (n:Nat),zN xs its/\xs.length=its.length/\s.heap.get? l=some {cls:= .type "list",data:= .seq its.toArray n}:=by
 obtain ⟨z,its,n,r,e⟩:=I.hok l _ hH;exact ⟨z,its,n,r,r.length,e⟩
theorem zME{n:Nat}(h:n<=sizeLine):Builtin.List.listTooLong n=false:=by
 unfold Builtin.List.listTooLong;exact zSf (by omega)
end
section
variable {X:Cx}
inductive XApp (x:V) (vs:List V) (H:Hp) (Q:VK):Prop
 | mk (l:Addr) (xs:List V) (y:V) (h1:x= .ref l) (h2:vs= [y]) (h3:H l=some (.lst xs)) (h4:xs.length<sizeLine) (q:Q .non (upd H l (.lst (xs++ [y]))))
def zIz:V->List V->Hp->VK->Prop:=fun x vs H Q=>XApp x vs H Q
theorem zBj:MtM X "list.append" zIz:=by
 intro pins s σ H x vs v us Q I rx rv h;obtain ⟨l,xs,y,rfl,rfl,hH,hz,q⟩:=h;cases rx;obtain ⟨u,rfl,ru⟩:=rv.one;obtain ⟨z,its,n,r,hl,e⟩:=I.lstM hH;refine call_meets F.slot_list_append ⟨_,e,rfl⟩ F.entry_list_append (F.args_list_append_2 _ _) (PySem.list_append l its.toArray n u (by rw [zSZ];omega)) ⟨e,?_⟩;refine ⟨.non,_,I.lset (its':=its++ [u]) hH e (by simp) (r.append (.cons ru .nil)) ?_,rfl,q⟩;rw [zSh,List.length_singleton];omega
def zKs:V->List V->Hp->VK->Prop:=fun x vs H Q=> ∃l xs,x= .ref l/\vs= [] /\H l=some (.lst xs)/\Q .non (upd H l (.lst []))
theorem zMZ:MtM X "list.clear" zKs:=by
 intro pins s σ H x vs v us Q I rx rv h;obtain ⟨l,xs,rfl,rfl,hH,q⟩:=h;cases rx;have hus:=rv.zero;subst hus;obtain ⟨z,its,n,r,hl,e⟩:=I.lstM hH;refine call_meets F.slot_list_clear ⟨_,e,rfl⟩ F.entry_list_clear (F.args_list_clear_1 _) (AutoSeq1.list_clear_list_0 l its.toArray n (by rw [zSZ];omega)) ⟨e,?_⟩;exact ⟨.non,_,I.lset (its':= []) (ys:= []) hH e rfl .nil (zSU _),rfl,q⟩
def zRA:R2:=fun x y H Q=> ∃l b xs zs,x= .ref l/\y= .ref b/\H l=some (.lst xs)/\H b=some (.lst zs)/\xs.length+zs.length<=sizeLine/\ ∀p,H p=none->Q (.ref p) (upd H p (.lst (xs++zs)))
theorem zPV:OpR X (binaryOp .Add) zRA:=by
 intro pins s σ H x y v u Q I rx ry h;obtain ⟨l,b,xs,zs,rfl,rfl,hH,hB,hz,q⟩:=h;cases rx;cases ry;obtain ⟨z,its,n,r,hl,e⟩:=I.lstM hH;obtain ⟨z2,its2,n2,r2,hl2,e2⟩:=I.lstM hB;refine PySem.P.add_list e e2 ?_ (by rw [zSZ,zSZ];omega);have ea:its.toArray++its2.toArray=(its++its2).toArray:=by simp
 rw [ea];exact ⟨.ref _,_,I.lnew (t':=s.toks) (r.append r2) (by rw [zSh];omega),rfl,q _ I.fresh⟩
def zPN:R2:=fun x y H Q=> ∃l k xs,x= .ref l/\y= .int k/\H l=some (.lst xs)/\ -(2^63)<=k/\k<2^63/\xs.length*k.toNat<=sizeLine/\
 ∀p,H p=none->Q (.ref p) (upd H p (.lst (List.replicate k.toNat xs).flatten))
theorem zOM{α:Type}(xs:List α)(k:Nat):(List.replicate k xs).flatten.length=k*xs.length:=by
 induction k with
 | zero=>simp
 | succ k ih=>rw [List.replicate_succ,List.flatten_cons,zSh,ih,Nat.succ_mul,Nat.add_comm]
theorem zQj:OpR X (binaryOp .Mult) zPN:=by
 intro pins s σ H x y v u Q I rx ry h;obtain ⟨l,k,xs,rfl,rfl,hH,h1,h2,hz,q⟩:=h;cases rx;obtain ⟨t,rfl⟩:=ry;obtain ⟨z,its,n,r,hl,e⟩:=I.lstM hH;have hlen:its.toArray.size*k.toNat<=sizeLine:=by rw [zSZ,<-hl];exact hz
 have hcap: ¬its.toArray.size*k.toNat>(2^63 - 1)/8:=by
  have:(sizeLine:Nat)<=(2^63 - 1)/8:=by decide
  omega
 have hfit: ¬(!Builtin.List.listFitsIndex k)=true:=by
  rw [fitsIndex_both h1 h2];exact zSS
 have hlong: ¬Builtin.List.listTooLong (its.toArray.size*k.toNat)=true:=by
  rw [zME hlen];exact zSS
 have hnew:List.foldl (fun x1 x2=>x1++x2) #[] (List.replicate (if its.toArray.isEmpty=true then 0 else k.toNat) its.toArray)=(List.replicate k.toNat its).flatten.toArray:=by
  have f0: ∀m:Nat,List.foldl (fun x1 x2=>x1++x2) #[] (List.replicate m its.toArray)=(List.replicate m its).flatten.toArray:=fun m=>by
   have:=zGv its m [];rw [List.nil_append] at this;exact this
  rw [f0];cases its with
  | nil=>simp
  | cons a r'=>rw [if_neg (by simp)]
 refine wpAny_binaryOp_repeat_ref (T:= "list") (U:= "int") (by decide) ⟨_,e,rfl⟩ (fun s'=>typeIs_int s' k t) noFill_list_mul F.fills_int_mul F.slot_int_rmul repeat_list F.slot_int_index.lookup
  (call_meets F.slot_int_rmul (typeIs_int s k t) F.entry_int_rmul (F.args_int_rmul_2 _ _) (int___rmul___int_list k t l its.toArray n)
   ⟨e,rfl,⟨_,e,rfl⟩,call_meets F.slot_list_mul ⟨_,e,rfl⟩ F.entry_list_mul (F.args_list_mul_2 _ _) (AutoListH.list___mul___list_int_3 l its.toArray n k t hfit hcap hlong) ⟨e,?_⟩⟩)
 rw [hnew];exact ⟨.ref _,_,I.lnew (t':=s.toks) (r.rep k.toNat) (by rw [zOM,Nat.mul_comm];exact hz),rfl,q _ I.fresh⟩
end
section
variable {prog:Program}{w:World}{A:Around}{E:Value->Shared->Prop}{s:Shared}
set_option maxRecDepth 100000 in
end
section
variable {X:Cx}
end
end L2
namespace Att
open PySem PySem.W PySem.Calls PyProof.Rows
theorem zGC{P:Params}{h:Heap}: ∀(ns:List Int) (vs:List Value),WellAll P h vs (ns.map WData.int)->IntsAre vs ns:=by
 intro ns
 induction ns with
 | nil=>
  intro vs w;rw [List.map_nil] at w;cases w;exact .nil
 | cons n ns ih=>
  intro vs w;rw [zTD] at w;cases w with
  | cons a b=>
   cases a;exact .cons _ _ (ih _ b)
theorem zLS{l:OpenLaw}{n:Nat}(hn:l.most=some n){P:Params}{h:Heap}{args:List WData}{vals:List Value}
  (hpre:l.row.toRowW.claim.pre args=true) (hwl:WellAll P h vals args):
  ∃a vs ns,vals= [Value.ref a] /\args= [WData.list (ns.map WData.int)] /\h.get? a=some {cls:= .type "list",data:= .seq vs.toArray}/\IntsAre vs ns/\ns.length<=n:=by
 have hsh:WShape.hasAll [] args [.list .int] =true:=(pre_splitW hpre).1;have hc:l.pre.holds [] {args:=args}=true:=(pre_splitW hpre).2;obtain ⟨d,r,rfl,h1,h2⟩:=hasAllW_cons hsh;obtain rfl:=hasAllW_nil h2;obtain ⟨xs,rfl,h3⟩:=hasW_list h1;obtain ⟨ns,rfl⟩:=items_int h3;have hlen:ns.length<=n:=by
  unfold OpenLaw.pre at hc;have h4:(WTm.not (.lt (.lit (.int (n:Int))) (.len (.arg 0)))).holds [] {args:= [.list (ns.map .int)]}=true:=by
   have h4:=(holds_andW hc).1;rw [hn] at h4;exact h4
  have h5:=condW_of h4 (w_not (w_lt w_lit (w_len_list (w_arg rfl))));rw [zSM] at h5;refine Nat.le_of_not_lt fun q=>?_;have q':(n:Int)<((ns.length:Nat):Int):=by omega
  first
   |(rw [zSd q'] at h5;exact absurd h5 (by decide))
   |(simp at h5;omega)
 cases hwl with
 | cons w1 w2=>
  cases w2;cases w1 with
  | list ho hall=>exact ⟨_,_,ns,rfl,rfl,ho,zGC ns _ hall,hlen⟩
theorem zLN(l:OpenLaw)(args:List WData):l.row.toRowW.claim.post args (.bool true) args=true:=
 postW_of (r:=l.row.toRowW) (X:=(true==true))
  (show WShape.has [] (.bool true) .bool=true by first | rfl | decide | simp [WShape.has,WShape.arms,WShape.armsAll])
  (show (WTm.eq .res (.lit (.bool true))).value [] {args:=args,res:=some (.bool true),after:=args}=some (.bool (true==true)) from w_eq_bool (w_res rfl) w_lit) rfl
theorem attach_call{l:OpenLaw}{n:Nat}{q:Program}{loose:List Str}{XP:(Str->Option Value)->Heap->Prop}{YP:World->Heap->Prop}{d:DefRec}
  (hn:l.most=some n) (hdf:d.params.defaults= [])
  (call: ∀(w:World) (s₀ s₁:Shared) (mg mb:Str->Option Value) (fa:Addr) (o:Obj) (pm cd doc:Value) (a:Addr) (vs:List Value) (ns:List Int),
   Ground q loose [] XP w s₀ mg mb s₁.heap->YP w s₁.heap->
   s₁.heap.get? fa=some o->o.data= .func (docDef d.name d.params d.body d.scope pm cd doc)->s₁.heap.CodeRec cd d.name->mg d.name=some (.ref fa)->
   s₁.heap.get? a=some {cls:= .type "list",data:= .seq vs.toArray}->IntsAre vs ns->ns.length<=n->s₁.gens= #[] ->
   codeAny (model l.prog w) callerA (.call (.ref fa) ⟨[.ref a],[]⟩) (fun r s'=>r= .ok (.ret (.bool true))/\OldK s₁.heap s'.heap/\s'.os=s₁.os/\AllBare s'.gens) s₁):
  WalkO q loose XP YP l.row.toRowW d [] (fun f vs=>PySem.call f vs):=by
 intro w s₀ s₁ mg mb G Y fa o pm cd doc dV kV ho hd hcd hD hmg hg args vals as hpre hlay hrd hwl hlo;obtain rfl:dV= .none:=Dflts.none hD hdf;obtain rfl:kV= .none:=Dflts.noKw hD;obtain ⟨a,vs,ns,rfl,rfl,hobj,hints,hlen⟩:=zLS hn hpre hwl;refine enter_call (zSw (call w s₀ s₁ mg mb fa o pm cd doc a vs ns G Y ho (fd_plain hd) hcd hmg hobj hints hlen hg) fun r s' hq=>?_);obtain ⟨rfl,h2,h3,h4⟩:=hq;exact ⟨.inl ⟨.bool true,.bool true,[],rfl,fun _=>rfl,.bool true,zLN l _,fun _=>⟨List.Pairwise.nil,fun _ hm=>(nomatch hm)⟩⟩,h2,h3,h4⟩
section
variable {prog:Program}{w:World}{A:Around}{E:Value->Shared->Prop}{s:Shared}{K:Frag}
end
end Att
namespace L2
open PySem PySem.Spec PyProof.Rows
theorem zGo: ∀{vs:List Value} {ns:List Int},IntsAre vs ns->zN (ns.map V.int) vs
 | _,_,.nil=> .nil
 | _,_,.cons n t h=> .cons ⟨t,rfl⟩ (zGo h)
def zMc(H:Hp):Prop:= ∀b,H b=none\/ ∃o xs,H b=some (.frz o (.lst xs))
theorem zNJ{P:Program}{w:World}{K:zSy}{mg mb:Str->Option Value}{CX:CXT}{k:Nat}{fa a:Addr}{fd:FuncData}{x:Str}{sp:Sp}{s₁:Shared}{vs:List Value}{ns:List Int}
  (KX:K.In s₁.heap) (hns:s₁.heap.Ns mainGlobals mg) (hb:s₁.heap.Ns builtinsNs mb) (hbb: ∀x:Str,x≠ "__name__" ->mb x=bootBuiltins x) (hlim:s₁.heap.NoLimit) (hse:s₁.heap.NoSeer) (hg:s₁.gens= #[])
  (ha:s₁.heap.get? a=some {cls:= .type "list",data:= .seq vs.toArray}) (hi:IntsAre vs ns) (hl:ns.length<=sizeLine) (hr:Room k callerA)
  (F: ∀base:Heap,K.In base->base.Ns mainGlobals mg->FnOk P w K mg base CX k fa fd [x] sp) (hbind: ∀(s:Shared) (u:Value),BindsTo s fd ⟨[u],[]⟩ [(x,u)])
  (hsp: ∀H:Hp,zMc H->SqL K H a (ns.map V.int)->sp [.ref a] H (fun v _=>v= .bl true) fun _ _ _=>False)
  (hCX: ∀H e s',CX [] H s₁ (fun _ _ _=>False) e s'->False):
  codeAny (model P w) callerA (.call (.ref fa) ⟨[.ref a],[]⟩) (fun r s'=>r= .ok (.ret (.bool true))/\OldK s₁.heap s'.heap/\s'.os=s₁.os/\AllBare s'.gens) s₁:=by
 have rv:=zGo hi;have lenV:=hi.length;have core: ∀H:Hp,zMc H->SqL K H a (ns.map V.int)->HOk P w H s₁.heap->(∀b,H b≠none->b=a)->(H a≠none->K.lookup a=none)->
   codeAny (model P w) callerA (.call (.ref fa) ⟨[.ref a],[]⟩) (fun r s'=>r= .ok (.ret (.bool true))/\OldK s₁.heap s'.heap/\s'.os=s₁.os/\AllBare s'.gens) s₁:=by
  intro H hO hS hok hA hK;have base_of: ∀{b:Addr} {o:Obj},s₁.heap.get? b=some o->H b=none->(zCl s₁.heap H).get? b=some o:=fun e n=>zML e n;have noA: ∀{b:Addr} {o:Obj} {es:Array DictEntry} {ep:Nat},s₁.heap.get? b=some o->o.data= .dict es ep->H b=none:=fun {b o es ep} e d=>by
   cases q:H b with
   | none=>rfl
   | some u=>
    have e':b=a:=hA b (by rw [q];simp);subst e';rw [ha] at e;cases e;have d':Data.seq vs.toArray _=Data.dict es ep:=d;cases d'
  have nsK: ∀{b:Addr} {m:Str->Option Value},s₁.heap.Ns b m->(zCl s₁.heap H).Ns b m:=fun {b m} ⟨o,es,ep,e,d,r⟩=>⟨o,es,ep,base_of e (noA e d),d,r⟩;have hKb:K.In (zCl s₁.heap H):=fun b o e=>base_of (KX b o e) (by
   cases q:H b with
   | none=>rfl
   | some u=>
    have e':b=a:=hA b (by rw [q];simp);subst e';rw [hK (by rw [q];simp)] at e;cases e)
  have hsb:(zCl s₁.heap H).NoSeer:=by
   obtain ⟨mg',bm,ob,g1,g2,g3,g4,g5⟩:=hse.main;have nb:H bm=none:=by
    cases q:H bm with
    | none=>rfl
    | some u=>
     have e':bm=a:=hA bm (by rw [q];simp);subst e';rw [ha] at g3;cases g3;have g4':Value.type "list" =Value.type "module" :=g4;exact absurd g4' (by decide)
   exact ⟨let ⟨mc,h1,h2⟩:=hse.statics;⟨mc,nsK h1,h2⟩,let ⟨mc,h1,h2⟩:=hse.mods;⟨mc,nsK h1,h2⟩,let ⟨mc,h1,h2⟩:=hse.imp;⟨mc,nsK h1,h2⟩,⟨mg',bm,ob,nsK g1,g2,base_of g3 nb,g4,g5⟩⟩
  have hM:Mod K mg (zCl s₁.heap H):=⟨hKb,nsK hns,⟨mb,nsK hb,hbb⟩,(let ⟨mc,h1,h2⟩:=hlim;⟨mc,nsK h1,h2⟩),hsb⟩;have e0:Env0 P w K mg (zCl s₁.heap H) callerA [] s₁ H:=⟨rfl,hM,fun b o e=>zNv e,Nat.le_of_eq (zLy _ _),trivial,fun b hb=>absurd (show b∈([] :List Addr) from hb) (by simp),hok,.of_eq hg⟩;refine zSw ((F _ hKb (nsK hns)).run callerA [] s₁ H ⟨[.ref a],[]⟩ [.ref a] [.ref a] _ _ hr e0 (hbind s₁ (.ref a)) (.cons rfl .nil) (hsp H hO hS)) fun r s' h=>?_;cases r with
  | error e=>exact (hCX H e s' h).elim
  | ok fl=>
   cases fl with
   | next=>exact False.elim h
   | brk=>exact False.elim h
   | cont=>exact False.elim h
   | ret u=>
    obtain ⟨v,H',os,bare,un,hok',r',q⟩:=h;have q':v= .bl true:=q;subst q';obtain rfl:u=Value.bool true:=r';refine ⟨rfl,OldK.of_keep fun b o e=>?_,os,bare⟩;cases q:H b with
    | none=>exact un.keep b o e q (by intro z;exact absurd (show b∈([] :List Addr) from z) (by simp)) (by simp)
    | some u=>
     rcases hO b with z |⟨ob,xs,z⟩
     ·rw [q] at z;cases z
     ·have z2:=un.frzs b ob _ z;obtain ⟨e1,_⟩:=hok b _ z;obtain ⟨e2,_⟩:=hok' b _ z2;rw [e] at e1;cases e1;exact e2
 cases hk:K.lookup a with
 | some o=>
  have e:=KX a o hk;rw [ha] at e;cases e;refine core (fun _=>none) (fun _=> .inl rfl) (.inr ⟨_,vs.toArray,_,hk,rfl,rfl,rfl,by rw [zSZ,lenV];exact hl,by simpa using rv⟩) (fun b u z=>by have z':(none:Option HO)=some u:=z;cases z') (fun b z=>absurd rfl z) fun z=>absurd rfl z
 | none=>
  refine core (fun b=>if b=a then some (.frz {cls:= .type "list",data:= .seq vs.toArray} (.lst (ns.map V.int))) else none) (fun b=>?_) (.inl (.inr ⟨{cls:= .type "list",data:= .seq vs.toArray},if_pos rfl⟩)) (fun b u z=>?_) (fun b z=>?_) fun _=>hk
  ·by_cases hb:b=a
   ·exact .inr ⟨_,_,if_pos hb⟩
   ·exact .inl (if_neg hb)
  ·by_cases hb:b=a
   ·have z':=(if_pos hb).symm.trans z;cases z';subst hb;exact ⟨ha,by rw [zSM];exact hl,vs,_,rv,ha⟩
   ·have z':=(if_neg hb).symm.trans z;cases z'
  ·by_cases hb:b=a
   ·exact hb
   ·exact absurd (if_neg hb) z
theorem zOD{l:PySem.W.OpenLaw}{n k:Nat}{q:Program}{loose:List Str}{XP:(Str->Option Value)->Heap->Prop}{YP:World->Heap->Prop}{d:DefRec}{K:Params->zSy}{CX:World->CXT}{sp:World->Sp}{x:Str}
  (hn:l.most=some n) (hn2:n<=sizeLine) (hdf:d.params.defaults= []) (hI:importsNone q=true) (hr:Room k callerA)
  (hY: ∀(w:World) (h:Heap),YP w h->(K w.params).In h)
  (F: ∀(w:World) (mg:Str->Option Value) (fa:Addr) (h:Heap),(K w.params).In h->h.Ns mainGlobals mg->mg d.name=some (.ref fa)->
   ∃fd:FuncData,(∀(s:Shared) (u:Value),BindsTo s fd ⟨[u],[]⟩ [(x,u)])/\
    ∀base:Heap,(K w.params).In base->base.Ns mainGlobals mg->FnOk l.prog w (K w.params) mg base (CX w) k fa fd [x] (sp w))
  (hsp: ∀(w:World) (H:Hp) (a:Addr) (ns:List Int),ns.length<=n->zMc H->SqL (K w.params) H a (ns.map V.int)->sp w [.ref a] H (fun v _=>v= .bl true) fun _ _ _=>False)
  (hCX: ∀(w:World) (H:Hp) (s:Shared) (e:Value) (s':Shared),CX w [] H s (fun _ _ _=>False) e s'->False):
  PySem.W.WalkO q loose XP YP l.row.toRowW d [] (fun f vs=>PySem.call f vs):=by
 refine Att.attach_call hn hdf fun w s₀ s₁ mg mb fa o pm cd doc a vs ns G Y ho hd hcd hmg hobj hints hlen hg=>?_;have KX:=hY w _ Y;obtain ⟨fd,hb,hF⟩:=F w mg fa _ KX G.T.g hmg;exact zNJ KX G.T.g G.T.b G.T.builtins G.T.nolimit (G.T.seer hI) hg hobj hints (zST hlen hn2) hr hF hb (fun H hO hS=>hsp w H a ns hlen hO hS) fun H e s'=>hCX w H s₁ e s'
def zy(s:Stmt)(j:Nat):Stmt:=match s with
 | .ClassDef _ _ _ body _ _ _ _ _ _ _=>body.getD j (.Pass ⟨0,0,0,0⟩)
 | _=> .Pass ⟨0,0,0,0⟩
def zAV(s:Stmt):Arguments:=match s with
 | .FunctionDef _ a _ _ _ _ _ _ _ _=>a
 | _=>{posonlyargs:= [],args:= [],vararg:=none,kwonlyargs:= [],kw_defaults:= [],kwarg:=none,defaults:= []}
def ym(s:Stmt):List Stmt:=match s with
 | .FunctionDef _ _ b _ _ _ _ _ _ _=>b
 | _=> []
def zG(s:Stmt):Scope:=match s with
 | .FunctionDef _ _ _ _ _ _ sc _ _ _=>sc
 | _=>{kind:= .function,names:= [],isGenerator:=false,isCoroutine:=false}
abbrev CX0:CXT:=fun _ _ _ _ _ _=>False
abbrev E0:XK:=fun _ _ _=>False
theorem zL{X:Cx}:zAg CX0 X E0:=fun _ _ _ _ _ _ _ h=>h.elim
structure Fun(K:zSy)(x qual:Str)(st:Stmt)(f:Addr)(fd:FuncData):Prop where
 ex: ∃(oc:Value) (od:Option Addr) (kV doc pm:Value) (an:Option Addr) (cdv ct:Value) (osl:Array (Option Value)),
  fd=PySem.W.fnOf x qual (zAV st) (ym st) (zG st) .none kV doc pm an cdv ct/\K.lookup f=some ⟨oc,od,.func fd,osl⟩/\PySem.W.codeIn K cdv qual=true
 kp:PySem.W.keepIn K (.ref f)=true
section
variable {P:Program}{w:World}{K:zSy}{mg:Str->Option Value}{base:Heap}
theorem Fun.ok{x qual:Str}{st:Stmt}{f:Addr}{fd:FuncData}{N ps:List Str}{k:Nat}{sp:Sp}(F:Fun K x qual st f fd)(S:FnScope N ps (zG st))(len: ∀vs H Q E,sp vs H Q E->vs.length=ps.length)
  (hbody: ∀(cdv:Value) (A:Around) (outer:List Env) (s:Shared) (H:Hp) (vs:List V) (Q:VK) (E:XK),Room k (A.deeper (envOfC qual (zG st) s.heap.objs.size f cdv))->sp vs H Q E->
   ∃t,PSs (zAZ CX0 P w K mg base N qual (zG st) f cdv A outer s H E).nox (ym st) t/\t {nx:=fun _ H'=>Q .non H',rt:=Q} (start N vs) H):FnOk P w K mg base CX0 (k+1) f fd ps sp:=by
 obtain ⟨oc,od,kV,doc,pm,an,cdv,ct,osl,rfl,lk,hcd⟩:=F.ex;refine zJo lk hcd S len fun A outer s H vs Q E hr hsp=>?_;obtain ⟨t,h,q⟩:=hbody cdv A outer s H vs Q E hr hsp;exact ⟨t,h.nox,q⟩
theorem Fun.binds{x qual:Str}{st:Stmt}{f:Addr}{fd:FuncData}{ps:List Str}(F:Fun K x qual st f fd)
  (h: ∀(kV doc pm:Value) (an:Option Addr) (cdv ct:Value) (us:List Value),us.length=ps.length->bindArgs (PySem.W.fnOf x qual (zAV st) (ym st) (zG st) .none kV doc pm an cdv ct) ⟨us,[]⟩=pure (ps.zip us)):zK K fd ps [] :=by
 obtain ⟨oc,od,kV,doc,pm,an,cdv,ct,osl,rfl,lk,hcd⟩:=F.ex;exact .all (h kV doc pm an cdv ct)
theorem zX{x qual:Str}{st:Stmt}{f:Addr}{oc:Value}{od an:Option Addr}{osl:Array (Option Value)}{kV doc pm cdv ct:Value}(l:K.lookup f=some ⟨oc,od,.func (PySem.W.fnOf x qual (zAV st) (ym st) (zG st) .none kV doc pm an cdv ct),osl⟩)
  (c:PySem.W.codeIn K cdv qual=true) (k:PySem.W.keepIn K (.ref f)=true):Fun K x qual st f (PySem.W.fnOf x qual (zAV st) (ym st) (zG st) .none kV doc pm an cdv ct):=⟨⟨oc,od,kV,doc,pm,an,cdv,ct,osl,rfl,l,c⟩,k⟩
end
theorem zGF{A:Around}{k:Nat}(hr:Room k A):A.units+1<cLine:=zSW (Nat.add_le_add_left (by decide:1<=64) _) hr.units
section
variable {X:Cx}
theorem pv(i:Nat){x:Str}{pos:Pos}(hN:X.N[i]?=some x:=by rfl)(hv:Vis X.env.scope x:=by first | exact Or.inl rfl | exact Or.inr (Or.inl rfl)| exact Or.inr (Or.inr rfl))(hd:(x==("__debug__" :Str))=false:=by decide)
  (hcd:(x==("__classdict__" :Str))=false:=by decide):PE X (.Name x pos) (zCU i):=zHn hN hv hd hcd
end
theorem yC{A B:Prop}(h:B):if false=true then A else B:=by
 rw [if_neg zSS];exact h
theorem zm{A B:Prop}(h:A):if true=true then A else B:=by
 rw [if_pos rfl];exact h
theorem yk{c A B:Prop}[Decidable c](h1:c->A)(h2: ¬c->B):if c then A else B:=by
 by_cases h:c
 ·rw [if_pos h];exact h1 h
 ·rw [if_neg h];exact h2 h
def zC(H H':Hp):Prop:= ∀b o,H b=some o->H' b=some o
theorem zC.refl(H:Hp):zC H H:=fun _ _ h=>h
theorem zC.trans{H H1 H2:Hp}(a:zC H H1)(b:zC H1 H2):zC H H2:=fun c o h=>b c o (a c o h)
theorem zC.seq{K:zSy}{H H':Hp}{a:Addr}{xs:List V}(e:zC H H')(h:SqL K H a xs):SqL K H' a xs:=by
 rcases h with (h |⟨o,h⟩)| h
 ·exact .inl (.inl (e _ _ h))
 ·exact .inl (.inr ⟨o,e _ _ h⟩)
 ·exact .inr h
end L2
namespace FrM
def Sz(n:Nat)(a:Int):Prop:=a.natAbs<2^n
theorem zIJ(a b:Int)(_hb:0<b):Int.gcd b (a % b)=Int.gcd a b:=by
 rw [Int.gcd_comm,Int.emod_def,Int.gcd_sub_mul_left_left]
theorem zMk(g:Int)(h:0<=g):((Int.gcd g 0:Nat):Int)=g:=by
 rw [Int.gcd_zero_right];omega
end FrM
namespace L2
open PySem PySem.Spec PyProof.Rows
theorem yL.there{P:Program}{w:World}{H:Hp}{h:Heap}{a:Addr}{o:HO}(x:yL P w H h a o): ∃u,h.get? a=some u:=by
 cases o with
 | lst xs=>obtain ⟨_,_,_,_,e⟩:=x;exact ⟨_,e⟩
 | tup xs=>obtain ⟨_,_,_,_,e,_⟩:=x;exact ⟨_,e⟩
 | dK kvs=>obtain ⟨_,_,_,_,_,_,_,e,_⟩:=x;exact ⟨_,e⟩
 | dT kvs=>obtain ⟨_,_,_,_,_,_,_,e,_⟩:=x;exact ⟨_,e⟩
 | set S n=>obtain ⟨_,_,_,_,e,_⟩:=x;exact ⟨_,e⟩
 | ins C dx fs=>obtain ⟨_,_,_,e,_⟩:=x;exact ⟨_,e⟩
 | own y=>obtain ⟨_,e⟩:=x;exact ⟨_,e⟩
 | xd fs=>obtain ⟨_,⟨_,_,_,e,_⟩,_⟩:=x;exact ⟨_,e⟩
 | rng lo hi=>obtain ⟨_,_,_,e⟩:=x;exact ⟨_,e⟩
 | frz ob u=>obtain ⟨e,_⟩:=x;exact ⟨_,e⟩
 | tbl ps=>exact ⟨_,(show h.get? a=some _ from x)⟩
 | met f y=>exact ⟨_,(show h.get? a=some _ from x)⟩
 | ext φ=>obtain ⟨_,⟨_,e⟩,_⟩:=x;exact ⟨_,e⟩
theorem HOk.untracked{P:Program}{w:World}{H:Hp}{h:Heap}{a:Addr}(x:HOk P w H h)(e:h.get? a=none):H a=none:=by
 cases q:H a with
 | none=>rfl
 | some o=>
  obtain ⟨u,z⟩:=(x a o q).there;rw [e] at z;cases z
structure FlyU(fs:List Addr)(H H':Hp)(h B h':Heap):Prop where
 keep: ∀b o,h.get? b=some o->H b=none->b∉fs->B.get? b=some o
 slot: ∀b o,h.get? b=some o->H b=none->b∈fs-> ∃sl,h'.get? b=some {o with slots:=sl}
 inB: ∀b o,h.get? b=some o->b∉fs-> ∃o',B.get? b=some o'
 free: ∀b o,h.get? b=some o->H b=none->H' b=none
 tups: ∀b xs,H b=some (.tup xs)->H' b=some (.tup xs)
 frzs: ∀b o u,H b=some (.frz o u)->H' b=some (.frz o u)
 tbls: ∀b ps,H b=some (.tbl ps)-> ∃more,H' b=some (.tbl (ps++more))
theorem FlyU.un{fs:List Addr}{H H':Hp}{h B h':Heap}(U:FlyU fs H H' h B h')(st:B.StaysIn h')(hf: ∀b∈fs,H b=none):Un fs [] H H' h h' where
 keep:=fun b o e n hb _=>st b o (U.keep b o e n hb)
 slot:=fun b o e n hb _=>U.slot b o e n hb
 free:=fun b o e n _=>U.free b o e n
 there:=fun b o e _=>by
  by_cases hb:b∈fs
  ·obtain ⟨sl,q⟩:=U.slot b o e (hf b hb) hb;exact ⟨_,q⟩
  ·obtain ⟨o',q⟩:=U.inB b o e hb;exact ⟨o',st b o' q⟩
 tups:=U.tups
 frzs:=U.frzs
 tbls:=U.tbls
theorem FlyU.land{l:List Env}{H H':Hp}{h B h1 h2:Heap}(U:FlyU (yl l) H H' h B h1)(ff:h1.FunFrames B l)(up:h1.UpToSlots h2):FlyU (yl l) H H' h B h2:=
 ⟨U.keep,fun b o e n hb=>by
  obtain ⟨sl,q⟩:=U.slot b o e n hb;obtain ⟨_,o',e',hd⟩:=ff.mem hb;rw [q] at e';cases e';obtain ⟨sl3,z3⟩:=up b _ q hd;exact ⟨sl3,z3⟩,U.inB,U.free,U.tups,U.frzs,U.tbls⟩
def Fly(P:Program)(w:World):CXT:=fun outer H s E e s'=>
 ∃(ea:Addr) (cls a0:Value) (H':Hp) (B:Heap),e= .ref ea/\s'.os=s.os/\AllBare s'.gens/\Heap.FlyingW B outer ea cls a0 s'.heap/\HOk P w H' B/\FlyU (yl outer) H H' s.heap B s'.heap/\E cls none H'
def zAW(CX:CXT)(X:Cx)(E:St->XK):Prop:= ∀(pins:List (Addr×Obj)) (σ:St) (H:Hp) (s:Shared) (e:Value) (s':Shared),Inv X pins σ H s->CX X.stack H s (E σ) e s'->X.xe e s'
def zGS(X:Cx)(E:St->XK):Prop:= ∀(pins:List (Addr×Obj)) (σ:St) (H:Hp) (s:Shared) (h1:Heap) (ea:Addr) (cls:Value) (args:List Value),Inv X pins σ H s->Heap.MadeExcOf s.heap h1 ea cls args->E σ cls none H->X.xe (.ref ea) {s with heap:=h1}
section
variable {P:Program}{w:World}{K:zSy}{mg:Str->Option Value}{base:Heap}{N:List Str}{qual:Str}{scope:Scope}{f:Addr}{cd:Value}{A:Around}{outer:List Env}{s₀:Shared}{H₀:Hp}{E:XK}
theorem zDZ{env:Env}{l:List Env}{b:Addr}(h:b∈yl l):b∈yl (env::l):=by
 obtain ⟨e,he,q⟩:=List.mem_filterMap.mp h;exact List.mem_filterMap.mpr ⟨e,.tail _ he,q⟩
theorem zFH:zAW (Fly P w) (zAZ (Fly P w) P w K mg base N qual scope f cd A outer s₀ H₀ E) (fun _=>E):=by
 intro pins σ H s e s' I h;obtain ⟨ea,cls,a0,H',B,he,hos,hb,hfl,hok,U,q⟩:=h;subst he;show wpAny (model P w) (A.deeper (envOfC qual scope s₀.heap.objs.size f cd)) (leaving (envOfC qual scope s₀.heap.objs.size f cd) (.ref ea)) (fun _ s''=>Fly P w outer H₀ s₀ E (.ref ea) s'') (fun e' s''=>Fly P w outer H₀ s₀ E e' s'') s';have hfr:(A.deeper (envOfC qual scope s₀.heap.objs.size f cd)).frames=some (envOfC qual scope s₀.heap.objs.size f cd::outer):=I.ok.frames;have nx: ∀b:Addr,b∉([] :List Addr):=fun b=>by simp
 have nst: ∀b o,s₀.heap.get? b=some o->b∉yl outer->b∉yl (envOfC qual scope s₀.heap.objs.size f cd::outer):=fun b o e hb z=>by
  rcases zSz.mp (I.stkSub b z) with y | y
  ·exact zSN (zSO (zSP e) I.ok.above) y
  ·exact hb y
 refine wpAny_leaves_onW hfr rfl hfl fun h' x1 x2=>?_;refine ⟨ea,cls,a0,H',B,rfl,hos.trans I.os,hb,x1,hok,⟨fun b o e n hb=>?_,fun b o e n hb=>?_,fun b o e hb=>?_,fun b o e n=>?_,fun b xs e=>U.tups b xs (I.base.tups b xs e),fun b o u e=>U.frzs b o u (I.base.frzs b o u e),fun b ps e=>?_⟩,q⟩
 ·exact U.keep b o (I.base.keep b o e n hb (nx b)) (I.base.free b o e n (nx b)) (nst b o e hb)
 ·obtain ⟨sl,e1⟩:=I.base.slot b o e n hb (nx b);obtain ⟨sl2,e2⟩:=U.slot b _ e1 (I.base.free b o e n (nx b)) (zDZ hb);obtain ⟨_,o',e3,hd⟩:=hfl.2.2.1.mem (zDZ hb);rw [e2] at e3;cases e3;obtain ⟨sl3,z3⟩:=x2 b _ e2 hd;exact ⟨sl3,z3⟩
 ·obtain ⟨o1,e1⟩:=I.base.there b o e (nx b);exact U.inB b o1 e1 (nst b o e hb)
 ·obtain ⟨o1,e1⟩:=I.base.there b o e (nx b);exact U.free b o1 e1 (I.base.free b o e n (nx b))
 ·obtain ⟨m1,e1⟩:=I.base.tbls b ps e;obtain ⟨m2,e2⟩:=U.tbls b _ e1;exact ⟨m1++m2,by rw [e2,Array.append_assoc]⟩
theorem zBX:zGS (zAZ (Fly P w) P w K mg base N qual scope f cd A outer s₀ H₀ E) (fun _=>E):=by
 intro pins σ H s h1 ea cls args I hx q;show wpAny (model P w) (A.deeper (envOfC qual scope s₀.heap.objs.size f cd)) (leaving (envOfC qual scope s₀.heap.objs.size f cd) (.ref ea)) (fun _ s''=>Fly P w outer H₀ s₀ E (.ref ea) s'') (fun e' s''=>Fly P w outer H₀ s₀ E e' s'') {s with heap:=h1};have hfr:(A.deeper (envOfC qual scope s₀.heap.objs.size f cd)).frames=some (envOfC qual scope s₀.heap.objs.size f cd::outer):=I.ok.frames;have nx: ∀b:Addr,b∉([] :List Addr):=fun b=>by simp
 have nst: ∀b o,s₀.heap.get? b=some o->b∉yl outer->b∉yl (envOfC qual scope s₀.heap.objs.size f cd::outer):=fun b o e hb z=>by
  rcases zSz.mp (I.stkSub b z) with y | y
  ·exact zSN (zSO (zSP e) I.ok.above) y
  ·exact hb y
 have ff:s.heap.FunFrames base (envOfC qual scope s₀.heap.objs.size f cd::outer):=I.stack;have hin: ∀env∈(envOfC qual scope s₀.heap.objs.size f cd::outer),∀b,env.frame=some b->b∈yl (envOfC qual scope s₀.heap.objs.size f cd::outer):=fun env he b hb=>List.mem_filterMap.mpr ⟨env,he,hb⟩;have hokB:HOk P w H (PySem.W.hideAll s.heap (yl (envOfC qual scope s₀.heap.objs.size f cd::outer))):=fun a o e=>(I.hok a o e).stay (fun b u hb e1=>zSl _ e1 fun hm=>by
   have z:=I.stkFree b hm;rcases hb with y | y
   ·rw [y,e] at z;cases z
   ·rw [y] at z;cases z) (fun _ q=>q) fun _ _ q=>q
 refine wpAny_leaves_madeW (base:=PySem.W.hideAll s.heap (yl (envOfC qual scope s₀.heap.objs.size f cd::outer))) (h:=s.heap) hfr rfl (fun b o q=>zSx _ q) (PySem.W.funFrames_hide ff hin) hx fun h' t x1 x2 x3 x4=>?_;refine ⟨ea,cls,.ref t,H,_,rfl,I.os,I.bare,x1,hokB,⟨fun b o e n hb=>?_,fun b o e n hb=>?_,fun b o e hb=>?_,fun b o e n=>I.base.free b o e n (nx b),I.base.tups,I.base.frzs,I.base.tbls⟩,q⟩
 ·exact zSl _ (I.base.keep b o e n hb (nx b)) (nst b o e hb)
 ·obtain ⟨sl,e1⟩:=I.base.slot b o e n hb (nx b);obtain ⟨_,o',e3,hd⟩:=ff.mem (zDZ hb);rw [e1] at e3;cases e3;obtain ⟨sl3,z3⟩:=x4 b _ (hx.keeps b _ e1) hd;exact ⟨sl3,z3⟩
 ·obtain ⟨o1,e1⟩:=I.base.there b o e (nx b);exact ⟨o1,zSl _ e1 (nst b o e hb)⟩
end
section
variable {X:Cx}{CX:CXT}{k:Nat}{f C:Addr}{fd:FuncData}{ps:List Str}{sp:Sp}{dvs:List V}{ds:List Value}{E:St->XK}{x:Str}{p pos:Pos}{e:Expr}{es:List Expr}{t:TA}
def zLJ(sp:Sp)(dvs:List V)(E:St->XK)(t:TA):TE:=fun σ H Q=>t σ H fun vs H1=>sp (vs++dvs) H1 Q (E σ)
theorem zOq{pins:List (Addr×Obj)}{σ:St}{H:Hp}{s:Shared}{Q:VK}{us:List Value}{vs:List V}(F:FnOk X.prog X.w X.K X.mg X.base CX k f fd ps sp)(hr:Room k X.A)(hb:zK X.K fd ps ds)(hd:zN dvs ds)(hx:zAW CX X E)
  (I:Inv X pins σ H s) (r:zN vs us) (h:sp (vs++dvs) H Q (E σ)):wpAny (model X.prog X.w) X.A (call (.ref f) us) (EP X pins σ Q) X.xe s:=by
 have r2:zN (vs++dvs) (us++ds):=r.append hd;have hl:(us++ds).length=ps.length:=by rw [<-r2.length];exact F.len _ _ _ _ h
 refine wpAny_call (zSw (F.run X.A X.stack s H ⟨us,[]⟩ (us++ds) (vs++dvs) Q (E σ) hr I.env0 (hb s us I.kIn hl) r2 h) fun r s' hq=>?_);cases r with
 | error e=>exact hx pins σ H s e s' I hq
 | ok fl=>
  cases fl with
  | ret u=>exact I.after hq
  | next=>exact False.elim hq
  | brk=>exact False.elim hq
  | cont=>exact False.elim hq
theorem zMy(F:FnOk X.prog X.w X.K X.mg X.base CX k f fd ps sp)(hr:Room k X.A)(hg:Gl X x)(hm:X.mg x=some (.ref f))(hk:PySem.W.keepIn X.K (.ref f)=true)(hb:zK X.K fd ps ds)(hd:zN dvs ds)(hx:zAW CX X E)
  (ha:PA X (e::es) t) (hdb:(x==("__debug__" :Str))=false:=by decide) (he:starEach (e::es) X.env=(false,eval e X.env)::starEach es X.env:=by rfl) (hpl:(backTo pos (starEach es X.env)).any (·.1)=false:=by rfl):
  PE X (.Call (.Name x p) (e::es) [] pos) (zLJ sp dvs E t):=by
 intro pins s σ H Q I h;refine zSv (zCE I hg hm ?_ hdb);refine PySem.W.callWith_K (h₀:=X.base) I.ok.mod.kin hk (zS (ha pos pins s σ H _ I h) fun us s1 ⟨vs,H1,I1,r,q⟩=>⟨I1.kIn,?_⟩) he hpl;exact zOq F hr hb hd hx I1 r q
end
theorem zPQ{K:zSy}{h:Heap}{C:Addr}{bmB:List Value}{newId:String}(X:K.In h)(q:PySem.W.excIn K C bmB newId=true):
  ∃bm N nm qn bs hdct sn sub ab col dd k0 k1 k2 k3 k5 mN,h.get? C=some (excClassObj nm qn C N bs bm hdct sn sub ab col dd k0 k1 k2 k3 k5 newId)/\h.Ns N mN/\mN "__init__" =none/\OwnTail h bmB bm:=by
 unfold PySem.W.excIn at q;split at q
 ·rename_i dd cd sl ho
  split at q
  ·rename_i C' bm k0 k1 k2 k3 n k5 hm hs
   simp only [zTA,beq_iff_eq,zTN] at q;obtain ⟨⟨⟨⟨⟨z1,z2⟩,hdel⟩,ht⟩,hok⟩,hni⟩:=q;subst z1 z2;obtain ⟨nm,bs,mro,ns,qn,hd,sn,sub,ab,col,del⟩:=cd;dsimp only at hm hdel hok hni;subst hm hdel;have hsl:sl= #[k0,k1,k2,k3,some (.builtin n),k5] :=by
    obtain ⟨l⟩:=sl;simp only at hs;rw [hs]
   subst hsl;exact ⟨bm,ns,nm,qn,bs,hd,sn,sub,ab,col,dd,k0,k1,k2,k3,k5,_,X _ _ ho,.of_isNs (PySem.W.isNs_of_in X hok),PySem.W.nsMap_none_of_in X hok hni,PySem.W.tail_of_in X ht⟩
  ·cases q
 ·cases q
def zKu(C:Addr)(E:St->XK)(t:TA):TS:=fun _ σ H=>t σ H fun vs H1=>vs.length<=sizeLine/\E σ (.ref C) none H1
theorem zDb{X:Cx}{x:Str}{C:Addr}{e₀:Expr}{rest:List Expr}{t:TA}{E:St->XK}{B newId initId:String}{bmB:List Value}{np cpos pos:Pos}
  (FB:ExcBaseFacts B newId initId bmB) (q:PySem.W.excIn X.K C bmB newId=true) (hr:zGS X E) (hc:X.calm=true) (hg:Gl X x) (hm:X.mg x=some (.ref C)) (ha:PA X (e₀::rest) t)
  (hdb:(x==("__debug__" :Str))=false:=by decide) (he:starEach (e₀::rest) X.env=(false,eval e₀ X.env)::starEach rest X.env:=by rfl)
  (hpl:(backTo cpos (starEach rest X.env)).any (·.1)=false:=by rfl):PS X (.Raise (some (.Call (.Name x np) (e₀::rest) [] cpos)) none pos) (zKu C E t):=by
 intro pins s σ H D I h;obtain ⟨tl,N,nm,qn,bs,hdct,sn,sub,ab,col,dd,k0,k1,k2,k3,k5,mN,hC,hN,hni,T⟩:=zPQ I.ok.mod.kin q;refine wpAny_Raise_call_subT (C:=C) (nm:=nm) (q:=qn) (N:=N) (bs:=bs) (bm:=tl) (hdct:=hdct) (sn:=sn) (sub:=sub) (ab:=ab) (col:=col) (dd:=dd) (k0:=k0) (k1:=k1) (k2:=k2) (k3:=k3) (k5:=k5)
  FB (mN:=mN) (T.hasType FB.hasBase) (I.ok.hd hc) (by rw [he];show (false ||(backTo cpos (starEach rest X.env)).any (·.1))=false;rw [hpl];rfl) hni (zCE I hg hm ⟨rfl,?_⟩ hdb)
 have h2:=ha cpos pins s σ H _ I h;rw [he] at h2⊢;exact Calls.evalArgs_plain (zS h2 fun us s2 ⟨vs,H2,I2,r2,hl,q2⟩=>⟨rfl,by rw [<-r2.length];exact hl,I2.bk _ _ hC,hN.keeps I2.bk,T.keeps I2.bk,fun h' ea hm=>hr pins σ H2 s2 h' ea _ _ I2 hm q2⟩)
def KAt(a:Addr)(C:Value)(h:Heap):Prop:= ∃o,h.get? a=some o/\o.cls=C
def zHx(a:Addr)(C:Value):HO:= .ext (KAt a C)
theorem zOp{P:Program}{w:World}{H:Hp}{h:Heap}{a:Addr}{C:Value}(x:KAt a C h):yL P w H h a (zHx a C):=by
 obtain ⟨o,e,c⟩:=x;exact ⟨⟨o,e,c⟩,⟨o,e⟩,fun h1 h2 ⟨o1,e1,c1⟩ k=>⟨o1,k o1 e1,c1⟩⟩
abbrev Cx.inExc(X:Cx)(e:Addr):Cx:={X with A:=X.A.mark (some (.ref e)),calm:=false,xe:=fun _ _=>False}
theorem Cx.Ok.inExc{X:Cx}(ok:X.Ok)(e:Addr):(X.inExc e).Ok:=
 ⟨ok.mod,ok.kind,ok.glob,ok.blt,ok.above,ok.inj,ok.has,ok.cab,(fun z=>Bool.noConfusion z),ok.frames,ok.stk,ok.exf,ok.bs,ok.bsz,ok.noex,ok.exfs,ok.funs,ok.frf⟩
theorem Inv.inExc{X:Cx}{pins:List (Addr×Obj)}{σ:St}{H:Hp}{s:Shared}(I:Inv X pins σ H s)(e:Addr):Inv (X.inExc e) pins σ H s:=⟨I.ok.inExc e,I.os,I.bare,I.base,I.loc,I.cell,I.free,I.freeC,I.pin,I.hok,I.len⟩
theorem Inv.outExc{X:Cx}{pins:List (Addr×Obj)}{σ:St}{H:Hp}{s:Shared}{e:Addr}(ok:X.Ok)(I:Inv (X.inExc e) pins σ H s):Inv X pins σ H s:=⟨ok,I.os,I.bare,I.base,I.loc,I.cell,I.free,I.freeC,I.pin,I.hok,I.len⟩
abbrev Cx.tryB(X:Cx)(pins:List (Addr×Obj))(E:Value->Shared->Prop):Cx:={X with xe:=E,pn:=X.pn++pins}
theorem Cx.Ok.tryB{X:Cx}(ok:X.Ok)(pins:List (Addr×Obj))(E:Value->Shared->Prop):(X.tryB pins E).Ok:=
 ⟨ok.mod,ok.kind,ok.glob,ok.blt,ok.above,ok.inj,ok.has,ok.cab,ok.hd,ok.frames,ok.stk,ok.exf,ok.bs,ok.bsz,ok.noex,ok.exfs,ok.funs,ok.frf⟩
theorem Inv.tryB{X:Cx}{pins:List (Addr×Obj)}{σ:St}{H:Hp}{s:Shared}(I:Inv X pins σ H s)(E:Value->Shared->Prop):Inv (X.tryB pins E) [] σ H s:=
 ⟨I.ok.tryB pins E,I.os,I.bare,I.base,I.loc,I.cell,I.free,I.freeC,fun p hp=>I.pin p (by simpa using hp),I.hok,I.len⟩
theorem Inv.untry{X:Cx}{pins ps:List (Addr×Obj)}{σ:St}{H:Hp}{s:Shared}{E:Value->Shared->Prop}(ok:X.Ok)(I:Inv (X.tryB pins E) ps σ H s):Inv X pins σ H s:=
 ⟨ok,I.os,I.bare,I.base,I.loc,I.cell,I.free,I.freeC,fun p hp=>I.pin p (List.mem_append_left _ hp),I.hok,I.len⟩
theorem SP.untry{X:Cx}{pins ps:List (Addr×Obj)}{E:Value->Shared->Prop}{D:Ends}{f:Flow}{s':Shared}(ok:X.Ok)(h:SP (X.tryB pins E) ps D f s'):SP X pins D f s':=by
 cases f with
 | next=>obtain ⟨σ',H',I,q⟩:=h;exact ⟨σ',H',I.untry ok,q⟩
 | brk=>obtain ⟨σ',H',I,q⟩:=h;exact ⟨σ',H',I.untry ok,q⟩
 | cont=>obtain ⟨σ',H',I,q⟩:=h;exact ⟨σ',H',I.untry ok,q⟩
 | ret u=>obtain ⟨v,σ',H',I,r,q⟩:=h;exact ⟨v,σ',H',I.untry ok,r,q⟩
theorem zCh{X:Cx}{pins:List (Addr×Obj)}{σ:St}{H:Hp}{s:Shared}{E:Value->Shared->Prop}{A:Around}{i:Nat}{n:Str}{pos:Pos}{Q:Unit->Shared->Prop}(I:Inv X pins σ H s)(hN:X.N.Nodup)(hi:X.N[i]?=some n)(hx:X.env.scope.names.lookup n=some .local)
  (h: ∀s',Inv X pins (σ.set i none) H s'->Q () s'):wpAny (model X.prog X.w) A (do bindName X.env n .none;unbindBehindTheSuite X.env n pos) Q E s:=by
 obtain ⟨m,hn,hl⟩:=id I.loc;have hcls:(X.env.scope.kind== .class ||(X.env.scope.kind== .module&&X.env.locals !=X.env.globals))=false:=by rw [I.ok.kind];rfl
 have hiσ:i<σ.length:=by rw [I.len];exact (zTL.mp hi).1
 obtain ⟨oL,_,_,hoL,_⟩:=id hn;refine wpAny_nameGoes_keeps hx hn hcls fun h' v hn' hs=>h _ ?_;refine ⟨I.ok,I.os,I.bare,⟨fun b o e n hb hx=>?_,fun b o e n hb hx=>?_,I.base.free,fun b o e hx=>?_,I.base.tups,I.base.frzs,I.base.tbls⟩,⟨_,hn',fun j y v' e1 e2 e3=>?_⟩,fun y c e=>?_,I.free,I.freeC,fun p hp=>?_,fun b ob e=>?_,by simpa using I.len⟩
 ·exact (hs.2 b (zSN (zSO (zSP e) I.ok.above))).trans (I.base.keep b o e n hb hx)
 ·obtain ⟨sl,e1⟩:=I.base.slot b o e n hb hx;exact ⟨sl,(hs.2 b (zSN (zSO (zSP e) I.ok.above))).trans e1⟩
 ·obtain ⟨o',e1⟩:=I.base.there b o e hx;exact ⟨o',(hs.2 b (zSN (zSO (zSP e) I.ok.above))).trans e1⟩
 ·by_cases hj:j=i
  ·subst hj;rw [List.getElem?_set_self hiσ] at e2;cases e2
  ·rw [List.getElem?_set_ne (Ne.symm hj)] at e2;obtain ⟨u',r',q⟩:=hl j y v' e1 e2 e3;refine ⟨u',r',?_⟩;rcases q with ⟨k,e⟩|⟨k,c,e,z⟩
   ·refine .inl ⟨k,?_⟩;have hne:y≠n:=fun e=>hj (zEw hN e1 (e▸hi));simp [hne,e]
   ·exact .inr ⟨k,c,e,z.sameBut hs (I.cne y c e)⟩
 ·obtain ⟨w',z⟩:=I.cell y c e;exact ⟨w',z.sameBut hs (I.cne y c e)⟩
 ·obtain ⟨e,n,ne,nf,d⟩:=I.pin p hp;exact ⟨(hs.2 p.1 ne).trans e,n,ne,nf,d⟩
 ·refine (I.hok b ob e).stay (fun c w' hc q=>(hs.2 c ?_).trans q) (fun _ q=>q) fun _ _ q=>q;intro z;subst z;rcases hc with y | y
  ·rw [<-y,I.free] at e;cases e
  ·rw [I.free] at y;cases y
def zKe(K:zSy)(Cv:Value)(i:Nat)(ts:TS)(D:Ends):St->XK:=fun σ cls _ H=>PySem.W.exmOne K cls Cv=some true/\ ∀ea,H ea=none->
 ts {nx:=fun σ' H'=>D.nx (σ'.set i none) H',rt:=D.rt,bk:=fun σ' H'=>D.bk (σ'.set i none) H',ct:=fun σ' H'=>D.ct (σ'.set i none) H'} (σ.set i (some (.ref ea))) (upd H ea (zHx ea cls))
def zRC(K:zSy)(Cv:Value)(i:Nat)(tb:(St->XK)->TS)(ts:TS):TS:=fun D σ H=>tb (zKe K Cv i ts D) D σ H
theorem zQP{X:Cx}{body:List Stmt}{xc n:Str}{np hpos pos:Pos}{b₀:Stmt}{suite:List Stmt}{tb:(St->XK)->TS}{ts:TS}{Cv:Value}{i:Nat}(hst:X.stack=X.env::X.outer)(hfr:X.env.frame=some X.env.locals)(hN:X.N.Nodup)(hi:X.N[i]?=some n)(hn:X.env.scope.names.lookup n=some .local)
  (hg:Gl X xc) (hm:X.mg xc=some Cv\/(X.mg xc=none/\bootBuiltins xc=some Cv/\xc≠ "__name__"))
  (hb: ∀ps xe E,zAW (Fly X.prog X.w) (X.tryB ps xe) E->PSs (X.tryB ps xe) body (tb E)) (hs: ∀e,PSs (X.inExc e) (b₀::suite) ts) (hdb:(xc==("__debug__" :Str))=false:=by decide):
  PS X (.Try body [.ExceptHandler (some (.Name xc np)) (some n) (b₀::suite) hpos] [] [] pos) (zRC X.K Cv i tb ts):=by
 intro pins s σ H D I h;have fall: ∀(σ1:St) (H1 H':Hp) (s1 s':Shared) (ea:Addr) (cls a0:Value) (B:Heap),Inv X pins σ1 H1 s1->s'.os=s1.os->AllBare s'.gens->Heap.FlyingW B X.stack ea cls a0 s'.heap->HOk X.prog X.w H' B->FlyU (yl X.stack) H1 H' s1.heap B s'.heap->zKe X.K Cv i ts D σ1 cls none H'->
   wpAny (model X.prog X.w) X.A (noteFrame (.ref ea) X.env) (fun _ s₂=>wpAny (model X.prog X.w) X.A (setFlight (.ref ea) none) (fun _ s₃=>wpAny (model X.prog X.w) X.A (handleBy (.ref ea) X.env [.ExceptHandler (some (.Name xc np)) (some n) (b₀::suite) hpos]) (SP X pins D) X.xe s₃) X.xe s₂) X.xe s':=by
  intro σ1 H1 H' s1 s' ea cls a0 B I1 hos hbare hfl hok U q;obtain ⟨he,q⟩:=q;have ff:=hfl.2.2.1;rw [hst] at hfl;refine wpAny_looks_onW (by rw [I1.ok.frames,hst]) hfr hfl fun h4 x4 u4=>?_;refine wpAny_landsW x4 fun h5 x5 u5=>?_;have U5:FlyU (yl X.stack) H1 H' s1.heap B h5:=U.land ff (u4.trans u5);have hf1: ∀b∈yl X.stack,H1 b=none:=I1.stkFree;have I5:Inv X pins σ1 H' {s' with heap:=h5}:=I1.call' (s':={s' with heap:=h5}) hos (U5.un x5.1 hf1) (hok.kept x5.1) hbare fun b z=>nomatch z;have ty5:PySem.W.Looks (model X.prog X.w) h5 (typeOf (.ref ea)) cls:=by
   obtain ⟨ob,hob,hc⟩:=x5.there;subst hc;exact (PySem.W.Looks.ld hob).andThen .now
  have I5':=I5.inExc ea;refine wpAny_handleBy_cons (codeAny_handlers_test ?_) (by intro z;cases z);have go:wpAny (model X.prog X.w) (X.A.mark (some (.ref ea))) (eval (.Name xc np) X.env) (fun c s₁=>c=Cv/\s₁={s' with heap:=h5}) (notedBy (model X.prog X.w) (X.A.mark (some (.ref ea))) X.env (cameBackBy (model X.prog X.w) X.A X.env X.xe)) {s' with heap:=h5}:=by
   rcases hm with hm |⟨hm,hv,hnn⟩
   ·exact zCE (X:=X.inExc ea) I5' hg hm ⟨rfl,rfl⟩ hdb
   ·exact zBh (X:=X.inExc ea) I5' hg hm hv ⟨rfl,rfl⟩ hnn hdb
  refine zSa go (fun c s₁ hc=>?_) fun _ _ z=>z;obtain ⟨hc1,hc2⟩:=hc;subst hc1 hc2;refine (PySem.W.exm_one I5.kIn ty5 he).here ?_;show codeAny _ _ _ _ _;refine codeAny_handlers_suite_as ?_;refine lands_againW x5 fun h6 x6 u6=>?_;have ff5:=x5.2.2.1;rw [<-hst] at ff5;have U6:FlyU (yl X.stack) H1 H' s1.heap B h6:=U5.land ff5 u6;have hBe:B.get? ea=none:=x6.2.1;have he':H' ea=none:=hok.untracked hBe;obtain ⟨oe,hoe,hoc⟩:=x6.there;obtain ⟨oe',vs',hoe',_,hod',_⟩:=x6.first;have ns1:s1.heap.get? ea=none:=by
   cases z:s1.heap.get? ea with
   | none=>rfl
   | some o=>
    by_cases y:ea∈yl X.stack
    ·have y':=y;rw [hst] at y';obtain ⟨_,o2,e2,d2⟩:=x6.2.2.1.mem y';rw [hoe'] at e2;cases e2;exact absurd hod' (d2 vs')
    ·obtain ⟨o',e'⟩:=U6.inB ea o z y;rw [hBe] at e';cases e'
  have nu: ∀b o,s1.heap.get? b=some o->b≠ea:=fun b o e z=>by rw [z,ns1] at e;cases e
  have hok6:HOk X.prog X.w H' h6:=hok.kept x6.1;have hokE:HOk X.prog X.w (upd H' ea (zHx ea cls)) h6:=fun b u e=>by
   by_cases y:b=ea
   ·subst y;rw [zB] at e;cases e;exact zOp ⟨oe,hoe,hoc⟩
   ·rw [zI y] at e;exact (hok6 b u e).stay (fun _ _ _ z=>z) (fun c z=>by rw [zI (zw z he')];exact z) fun c xs z=>by rw [zI (zw z he')];exact z
  have un6:=U6.un x6.1 hf1;have unE:Un (yl X.stack) [] H1 (upd H' ea (zHx ea cls)) s1.heap h6:=
   ⟨un6.keep,un6.slot,fun b o e n hx=>by rw [zI (nu b o e)];exact un6.free b o e n hx,un6.there,fun b xs e=>by
    have z:=un6.tups b xs e;rw [zI (zw z he')];exact z,fun b o u e=>by
    have z:=un6.frzs b o u e;rw [zI (zw z he')];exact z,fun b ps e=>by
    obtain ⟨m,z⟩:=un6.tbls b ps e;exact ⟨m,by rw [zI (zw z he')];exact z⟩⟩
  have I6:Inv X pins σ1 (upd H' ea (zHx ea cls)) {s' with heap:=h6}:=I1.call' (s':={s' with heap:=h6}) hos unE hokE hbare fun b z=>nomatch z;refine zFI (X:=X.inExc ea) (I6.inExc ea) hN hi (.inl hn) (v:= .ref ea) rfl (fun s7 I7=>?_) (.inr hn);refine zSa (hs ea pins s7 _ _ _ I7 (q ea he')) (fun f s8 h8=>?_) fun _ _ z=>z.elim;cases f with
  | next=>
   obtain ⟨σ',H8,I8,q8⟩:=h8;exact zCh (I8.outExc I.ok) hN hi hn fun s9 I9=>⟨_,H8,I9,q8⟩
  | brk=>
   obtain ⟨σ',H8,I8,q8⟩:=h8;exact zCh (I8.outExc I.ok) hN hi hn fun s9 I9=>⟨_,H8,I9,q8⟩
  | cont=>
   obtain ⟨σ',H8,I8,q8⟩:=h8;exact zCh (I8.outExc I.ok) hN hi hn fun s9 I9=>⟨_,H8,I9,q8⟩
  | ret u=>
   obtain ⟨v,σ',H8,I8,r8,q8⟩:=h8;exact zCh (I8.outExc I.ok) hN hi hn fun s9 I9=>⟨v,_,H8,I9,r8,q8⟩
 refine wpAny_Try_except ?_;refine zSa (hb pins (fun e s₁=>wpAny (model X.prog X.w) X.A (noteFrame e X.env) (fun _ s₂=>wpAny (model X.prog X.w) X.A (setFlight e none) (fun _ s₃=>wpAny (model X.prog X.w) X.A (handleBy e X.env [.ExceptHandler (some (.Name xc np)) (some n) (b₀::suite) hpos]) (SP X pins D) X.xe s₃) X.xe s₂) X.xe s₁)
  (zKe X.K Cv i ts D) ?_ [] s σ H D (I.tryB _) h) (fun f s1 q=>?_) fun _ _ z=>z
 ·intro ps σ1 H1 s1 e s' I1 hfly;obtain ⟨ea,cls,a0,H',B,he,hos,hbare,hfl,hok,U,q⟩:=hfly;subst he;exact fall σ1 H1 H' s1 s' ea cls a0 B (I1.untry I.ok) hos hbare hfl hok U q
 ·have q':=q.untry I.ok;cases f with
  | next=>exact wpAny_execs_nil q'
  | ret v=>exact q'
  | brk=>exact q'
  | cont=>exact q'
open FrM
theorem zJY{a:Int}{n:Nat}(h:Sz n a):Builtin.Int.intBits a<=n:=by
 unfold Builtin.Int.intBits;split
 ·exact zSU _
 ·rcases Nat.eq_zero_or_pos a.natAbs with h0 | hp
  ·have hn:0<n:=by
    cases n with
    | zero=>exact absurd (show a=0 by omega) (by rename_i q;simpa using q)
    | succ n=>exact Nat.succ_pos n
   have:a.natAbs.log2=0:=by rw [h0];rfl
   omega
  ·have:a.natAbs.log2<n:=(Nat.log2_lt (zSq hp)).mpr h;omega
section
variable {X:Cx}{pos:Pos}
def zKf:V->Value->Prop
 | .ref a,c=>c= .ref a
 | .ty n,c=>c= .type n
 | _,_=>False
theorem zKf.eq{cv:V}{c v:Value}(h:zKf cv c)(r:zd cv v):v=c:=by
 cases cv<;>first | exact h.elim |(cases (show v=_ from r);cases (show c=_ from h);rfl)
def zPm(K:zSy):List V->Hp->VK->Prop:=fun xs H Q=> ∃x cv t c b,xs= [x,cv] /\zKf cv c/\TyOf K H x t/\PySem.W.kitOne K t c=some b/\Q (.bl b) H
theorem zFC:yJ X (.builtin "isinstance") (zPm X.K):=by
 intro pins s σ H xs us Q I r h;obtain ⟨x,cv,t,c,b,rfl,rc,ty,e,q⟩:=h;obtain ⟨u,v,rfl,ru,rv⟩:=zN.two r;have ec:v=c:=rc.eq rv;subst ec;exact zMA I ru ty e fun tk=>⟨.bl b,H,I.tok tk,rfl,q⟩
theorem zMQ(hu:X.A.units<cLine):OpR X (compareOp .Eq) (fun x y H Q=> ∃a b xs,x= .ref a/\y= .ref b/\SqL X.K H a xs/\SqL X.K H b [] /\Q (.bl xs.isEmpty) H):=by
 intro pins s σ H x y v u Q I rx ry h;obtain ⟨a,b,xs,rfl,rfl,ha,hb,q⟩:=h;cases rx;cases ry;obtain ⟨its,r,pl,_⟩:=I.list ha;obtain ⟨its',r',pl',_⟩:=I.list hb;cases r';cases r with
 | nil=>exact SeqAt.eq_listAt (e:=fun _=>true) pl.isList pl'.isList rfl hu (fun j h1 _=>absurd h1 (by simp)) ⟨.bl true,H,I,rfl,q⟩
 | cons r1 r2=>exact SeqAt.eq_list_lengthsAt pl.isList pl'.isList (by simp) hu ⟨.bl false,H,I,rfl,q⟩
theorem zCL(hu:X.A.units<cLine):OpR X (compareOp .NotEq) (fun x y H Q=> ∃a b xs,x= .ref a/\y= .ref b/\SqL X.K H a xs/\SqL X.K H b [] /\Q (.bl (!xs.isEmpty)) H):=by
 intro pins s σ H x y v u Q I rx ry h;obtain ⟨a,b,xs,rfl,rfl,ha,hb,q⟩:=h;cases rx;cases ry;obtain ⟨its,r,pl,_⟩:=I.list ha;obtain ⟨its',r',pl',_⟩:=I.list hb;cases r';cases r with
 | nil=>exact SeqAt.RcNeAt.lists (e:=fun _=>true) pl.isList pl'.isList rfl hu (fun j h1 _=>absurd h1 (by simp)) _ _ _ _ ⟨.bl false,H,I,rfl,q⟩
 | cons r1 r2=>exact SeqAt.RcNeAt.lists_lengths pl.isList pl'.isList (by simp) hu _ _ _ _ ⟨.bl true,H,I,rfl,q⟩
theorem zFB(n:Nat):(List.range n).all (fun _=>true)=true:=by
 rw [List.all_eq_true];intro _ _;rfl
end
theorem zz{h:Heap}{b:Addr}{o:Obj}(e:h.get? b=some o): @LT.lt Nat _ b h.objs.size:=zSP e
abbrev Cx.comp(X:Cx)(scope:Scope)(cl:List (Str×Addr))(C:Addr)(N:List Str)(s₂:Shared)(H₂:Hp)(fp:List Addr):Cx:=
 {X with N:=N,s₀:=s₂,H₀:=H₂,env:=compEnvC scope cl C X.env,outer:=X.stack,ex:=fp,fn:=fun _=>false,pn:= [],xe:=fun _ _=>False}
def zY(fr:List Nat)(σ:St):St:=fr.map fun i=>(σ[i]?).getD none
end L2
namespace PySem
open PySem.Spec
section
variable {prog:Program}{w:World}{A:Around}{E:Value->Shared->Prop}{h:Heap}{g:Array GenState}{d:Drawn}{t:Nat}{os:OsState}
variable {nm q:Str}{C N:Addr}{bs bm bmB:List Value}{hdct:Bool}{sn:List Str}{sub:List Value}{ab:Bool}{col:Option Bool}{dd:Option Addr}{k0 k1 k2 k3 k5:Option Value}{B newId initId:String}
end
end PySem
namespace PySem.W
open PySem PySem.Calls PyProof.Rows Builtin Builtin.ObjectAttr Builtin.Getset_descriptor
def excMro:List Value->Bool
 | .ref _::r=>excMro r
 | l=>l== [.type "ValueError",.type "Exception",.type "BaseException",.type "object"]
section
variable {prog:Program}{w:World}{A:Around}{E:Value->Shared->Prop}{s:Shared}{K:Frag}{x C:Addr}{ox:Obj}{od:Option Obj}{name:Str}{R:Result->Shared->Prop}
theorem zOJ{tk:Tok}{fill expr:Bool}{Q:Value->Shared->Prop}(X:K.In s.heap)(L0:Looks (model prog w) s.heap (typeOf (.ref x)) (.ref C))(hga:findIn K (.ref C) "__getattribute__" =some (some (.builtin "BaseException.__getattribute__")))
  (hgn:findIn K (.ref C) "__getattr__" =some none) (hbe:mroIn K C (.type "BaseException")=some true)
  (h:wpAny (model prog w) A.in1 (Builtin.«object.__getattribute__» ⟨[.ref x,.str name tk],[]⟩) (fun fin s'=>match fin with | .done (.ret v)=>wpAny (model prog w) A (handedOut v) Q E s' | _=>False) (fun _ _=>False) s):
  wpAny (model prog w) A (getAttrBy (.ref x) (.str name tk) fill expr) Q E s:=by
 have L1:=looks_findIn (M:=model prog w) X hga;have L2:=looks_findIn (M:=model prog w) X hgn;have sub:Looks (model prog w) s.heap (isInstance (.ref x) (.type "BaseException")) true:=L0.andThen (looks_mroIn X hbe);have hx2:(Value.builtin "BaseException.__getattribute__" ==Value.builtin "object.__getattribute__")=false:=by decide+kernel
 have FB:=PySem.F.attr_ValueError;unfold getAttrBy;refine zSs (zSG (L0.here (zSG (L1.here ?_))));dsimp only;rw [hx2,Bool.and_false,if_neg (by decide)];unfold getAttrByItsOwn hookBefore;rw [if_pos (show onTheHeap (.ref C)=true from rfl)];refine zSG (L2.here (zSG (wpAny_attempt (zSs ?_))));unfold callGetattribute;rw [if_neg (by cases expr<;>decide)];unfold boundAndCalled;rw [FB.ga.bind (.ref x)];refine zSG (zSL (wpAny_call (codeAny_call_builtin FB.ga.plain PySem.F.entry_bexc_ga (@check_slot (model prog w) _ _ s "BaseException.__getattribute__" "BaseException" "__getattribute__" (.ref x) [.str name tk] [] _ (by decide+kernel) (by decide+kernel) sub (PySem.F.args_bexc_ga (.ref x) (.str name tk)) ?_))));refine zSa h (fun fin s' z=>?_) fun _ _ z=>z.elim;rcases fin with (_ | _ | _ | _)| _<;>first | exact z | exact z.elim
theorem zKF{tp:Value}(X:K.In s.heap)(L0: ∀M,Looks M s.heap (typeOf (.ref x)) (.ref C))(hm:mroIn K C (.type "object")=some true)
  (h:R (.ok (.ret (.ref C))) s):codeAny (model prog w) A (.call (.builtin "getset_descriptor.__get__") ⟨[.builtin "object.__class__",.ref x,tp],[]⟩) R s:=by
 obtain ⟨hh,g,dr,t,os⟩:=s;have L0:=L0 (model prog w);have L1:=looks_mroIn (M:=model prog w) X hm;refine codeAny_call_builtin KF.slot_gs.plain KF.entry_gs (KF.slot_gs.check _ _ _ _ _ _ _ _ KF.type_class (KF.args_gs _ _ _) ?_);unfold Builtin.«getset_descriptor.__get__» descrGet;rw [dga_obj];refine zSG (zSL ?_);unfold descrGetter descrCheckInstance descrNameAndClass isInstance;simp only [KF.owner_class]
 repeat lk
 refine ⟨Code.quiet_builtin _ (by decide+kernel),codeAny_builtin KF.entry_class ?_⟩;unfold Builtin.«object.__class__» shownTypeOf
 repeat lk
 exact h
theorem zIo(X:K.In s.heap)(ha:findIn K (.ref C) "__class__" =some (some (.builtin "object.__class__")))
  (hn:specialIn K (.builtin "object.__class__") "__get__" =some (some (.builtin "getset_descriptor.__get__"))) (htk:takesIn K (.builtin "object.__class__")=some true) (M:Model):
  Looks M s.heap (find (.ref x) (.ref C) "__class__") (.bind (.builtin "getset_descriptor.__get__") (.builtin "object.__class__")):=by
 have L1:=looks_findIn (M:=M) X ha;have L2:Looks M s.heap (getOf (some (.builtin "object.__class__"))) (some (.builtin "getset_descriptor.__get__")):=looks_specialIn X hn;have L3:=looks_takesIn (M:=M) X htk;refine L1.andThen (L2.andThen ?_);refine Looks.andThen (L3.andThen .now) ?_;exact Looks.tag .now
theorem xclass{Q:Option Value->Shared->Prop}(X:K.In s.heap)(L0: ∀M,Looks M s.heap (typeOf (.ref x)) (.ref C))(hga:findIn K (.ref C) "__getattribute__" =some (some (.builtin "BaseException.__getattribute__")))
  (hgn:findIn K (.ref C) "__getattr__" =some none) (hbe:mroIn K C (.type "BaseException")=some true) (hob:mroIn K C (.type "object")=some true)
  (ha:findIn K (.ref C) "__class__" =some (some (.builtin "object.__class__"))) (hn:specialIn K (.builtin "object.__class__") "__get__" =some (some (.builtin "getset_descriptor.__get__"))) (htk:takesIn K (.builtin "object.__class__")=some true)
  (h:Q (some (.ref C)) {s with toks:=s.toks+1}):wpAny (model prog w) A (getAttr? (.ref x) "__class__") Q E s:=by
 have L1:=zIo (x:=x) X ha hn htk (model prog w);obtain ⟨hp0,g,d,t,os⟩:=s;unfold getAttr? getAttrBy?;refine zSG (wpAny_mkText (zSG (wpAny_attempt (zOJ (s:=⟨hp0,g,d,t+1,os⟩) X (L0 _) hga hgn hbe ?_))));refine zSG (zSL (zSG (zSL (zSG ((L0 _).at (zSG (L1.at ?_)))))));show wpAny _ _ (bindTo _ _ _ _) _ _ _;unfold bindTo;refine zSG (zSs (wpAny_call (zKF (s:=⟨hp0,g,d,t+1,os⟩) X L0 hob ?_)));refine zSL ?_;show wpAny _ _ (handedOut (.ref C)) _ _ _;rw [handedOut_of rfl];exact zSL (zSL h)
end
end PySem.W
namespace L2
open PySem PySem.Spec PyProof.Rows
structure XCls(K:zSy)(C:Addr):Prop where
 ga:PySem.W.findIn K (.ref C) "__getattribute__" =some (some (.builtin "BaseException.__getattribute__"))
 gn:PySem.W.findIn K (.ref C) "__getattr__" =some none
 sa:PySem.W.findIn K (.ref C) "__setattr__" =some (some (.builtin "object.__setattr__"))
 be:PySem.W.mroIn K C (.type "BaseException")=some true
 ob:PySem.W.mroIn K C (.type "object")=some true
 mro:(PySem.W.clsIn K C).any (fun cd=>PySem.W.excMro cd.mro)=true
 hd:PySem.W.hasDictIn K C=true
 ca:PySem.W.findIn K (.ref C) "__class__" =some (some (.builtin "object.__class__"))
 cg:PySem.W.specialIn K (.builtin "object.__class__") "__get__" =some (some (.builtin "getset_descriptor.__get__"))
 ct:PySem.W.takesIn K (.builtin "object.__class__")=some true
theorem zGq{a C:Addr}{h:Heap}(k:KAt a (.ref C) h)(M:Model):PySem.W.Looks M h (typeOf (.ref a)) (.ref C):=by
 obtain ⟨o,h1,h2⟩:=k;exact h2▸(PySem.W.Looks.ld h1).andThen .now
theorem zNA{K:zSy}{a C:Addr}(c:XCls K C):PySem.W.KitX K (.ref a) (.ref C) (KAt a (.ref C)) where
 ty:=fun M h _ p=>zGq p M
 it:=fun _ _ X _=>by
  obtain ⟨cdD,hcD,_⟩:=PySem.W.any_some c.hd;unfold PySem.W.clsIn at hcD;split at hcD
  ·rename_i c' d' cd' sl' ho
   intro A' Q' E' s' k q;unfold isType loadHead;exact zSG (wpAny_loadPart (k _ _ (X _ _ ho)) (zSL q))
  ·cases hcD
 ne:=fun h tp dd its n sl X htp=>by
  obtain ⟨cdD,hcD,_⟩:=PySem.W.any_some c.hd;refine Bool.eq_false_iff.mpr fun q=>?_;have e:C=tp:=Value.ref.inj (beq_iff_eq.mp q);subst e;unfold PySem.W.clsIn at hcD;split at hcD
  ·rename_i c' d' cd' sl' ho
   have z:=(X _ _ ho).symm.trans htp;cases z
  ·cases hcD
 ca:=fun X p k=>PySem.W.xclass X (zGq p) c.ga c.gn c.be c.ob c.ca c.cg c.ct k
def zNN(K:zSy):List V->Hp->VK->Prop:=fun xs H Q=> ∃ea C cv c b φ,xs= [.ref ea,cv] /\zKf cv c/\H ea=some (.ext φ)/\(∀h,φ h->KAt ea (.ref C) h)/\XCls K C/\PySem.W.kitOne K (.ref C) c=some b/\Q (.bl b) H
theorem zLQ{X:Cx}:yJ X (.builtin "isinstance") (zNN X.K):=by
 intro pins s σ H xs us Q I r h;obtain ⟨ea,C,cv,c,b,φ,rfl,rc,hH,hφ,xc,e,q⟩:=h;obtain ⟨u,v,rfl,ru,rv⟩:=zN.two r;cases (show u=_ from ru);have ec:v=c:=rc.eq rv;subst ec;obtain ⟨p,_⟩:=(show yL X.prog X.w H s.heap ea (.ext φ) from I.hok ea _ hH);exact zSr (zNA xc) I.kIn (hφ _ p) e (fun z=>nomatch z) fun tk=>⟨.bl b,H,I.tok tk,rfl,q⟩
theorem yc{X:Cx}{K:zSy}(h:X.K=K):yJ X (.builtin "isinstance") (zPm K):=by
 subst h;exact zFC
theorem zJl{X:Cx}{K:zSy}(h:X.K=K):yJ X (.builtin "isinstance") (zNN K):=by
 subst h;exact zLQ
theorem PE.imp{X:Cx}{e:Expr}{t t':TE}(h:PE X e t)(f: ∀σ H Q,t' σ H Q->t σ H Q):PE X e t':=fun pins s σ H Q I q=>h pins s σ H Q I (f σ H Q q)
section
variable {X:Cx}{o e value:Expr}{f:Str}{pos pos':Pos}{ta tv:TE}
end
section
variable {X:Cx}{CX:CXT}{k:Nat}{f C:Addr}{fd:FuncData}{ps:List Str}{sp:Sp}{E:XK}{x:Str}{p pos:Pos}{e:Expr}{es:List Expr}{t:TA}
end
def yG:Expr->Bool
 | .Starred ..=>false
 | _=>true
theorem zh{e:Expr}{es:List Expr}{env:Env}(h:yG e=true):starEach (e::es) env=(false,eval e env)::starEach es env:=by
 cases e<;>first | rfl | cases h
structure QE(X:Cx)(e:Expr)(t:TE):Prop where
 out:PE X e t
structure QA(X:Cx)(es:List Expr)(t:TA):Prop where
 out:PA X es t
section
variable {X:Cx}{a:Expr}{es:List Expr}{ta:TE}{t:TA}{j:Nat}{pos:Pos}
theorem qc(ha:QE X a ta)(hr:QA X es t)(h:yG a=true):QA X (a::es) (zDi ta t):=⟨yR ha.out hr.out (zh h)⟩
theorem zD:QA X [] zDr:=⟨zAI⟩
theorem zF{i:Int}:QE X (.Constant (.int i) j pos) (tC (.int i)):=⟨zAU⟩
theorem zAD{b:Bool}:QE X (.Constant (.bool b) j pos) (tC (.bl b)):=⟨zRO⟩
theorem zBt{x:Str}:QE X (.Constant (.str x) j pos) (tC (.str x)):=⟨zFt⟩
theorem zEb:QE X (.Constant .none j pos) (tC .non):=⟨zQQ⟩
theorem zBw(h:QA X es t):QE X (.Tuple es j pos) (zQJ t):=⟨zPa h.out⟩
theorem zAB(h:QA X es t):QE X (.List es pos) (zQL t):=⟨zLX h.out⟩
theorem zDW(h:QE X a ta):QE X (.UnaryOp .USub a pos) (tUn (rU fun i=> .int (-i)) ta):=⟨zRJ zQT h.out⟩
end
open FrM
structure QT(X:Cx)(e:Expr)(t:TT):Prop where
 out:PT X e t
structure QW(X:Cx)(e:Expr)(t:TT):Prop where
 out:PW X e t
structure QS(X:Cx)(st:Stmt)(t:TS):Prop where
 out:PS X st t
structure QB(X:Cx)(b:List Stmt)(t:TS):Prop where
 out:PSs X b t
structure QI(X:Cx)(tg iter:Expr)(t:TI):Prop where
 out:PI X tg iter t
structure QG(X:Cx)(tg:Expr)(t:TG):Prop where
 out:PG X tg t
structure QGs(X:Cx)(tg:List Expr)(t:TGs):Prop where
 out:PGs X tg t
def yn:List Expr->Bool
 | [] =>true
 | e::es=>yG e&&yn es
theorem yz{pos:Pos}{env:Env}: ∀{es:List Expr},yn es=true->(backTo pos (starEach es env)).any (·.1)=false
 | [],_=>rfl
 | e::es,h=>by
  have h2:yG e=true/\yn es=true:=by simpa [yn] using h
  rw [zh h2.1];show (false ||(backTo pos (starEach es env)).any (·.1))=false;rw [yz h2.2];rfl
section
variable {X:Cx}{K:zSy}{a b c e o:Expr}{es rest:List Expr}{ta tb tc te to:TE}{tA tB':TT}{t:TA}{x:Str}{p pos pos' apos cpos:Pos}{j i:Nat}
def okV(X:Cx)(i:Nat)(x:Str)(k:NameKind):Bool:=X.N[i]?==some x&&(X.env.scope.names.lookup x==some k&&(!(x==("__debug__" :Str))&&!(x==("__classdict__" :Str))))
theorem zJi{k:NameKind}(h:okV X i x k=true):X.N[i]?=some x/\X.env.scope.names.lookup x=some k/\(x==("__debug__" :Str))=false/\(x==("__classdict__" :Str))=false:=by
 unfold okV at h;rw [zTA,zTA,zTA,beq_iff_eq,beq_iff_eq,zTN,zTN] at h;exact h
theorem qw(i:Nat)(h:okV X i x .local=true):QE X (.Name x pos) (zCU i):=let ⟨a,b,c,d⟩:=zJi h;⟨zHn a (.inl b) c d⟩
theorem qx(i:Nat)(h:okV X i x .cell=true):QE X (.Name x pos) (zCU i):=let ⟨a,b,c,d⟩:=zJi h;⟨zHn a (.inr (.inl b)) c d⟩
def okB(x:Str)(e:Expr)(es:List Expr):Bool:=!(x==("__name__" :Str))&&(!(x==("__debug__" :Str))&&(yG e&&yn es))
theorem zJB(h:okB x e es=true):x≠ "__name__" /\(x==("__debug__" :Str))=false/\yG e=true/\yn es=true:=by
 unfold okB at h;rw [zTA,zTA,zTA,zTN,zTN,beq_eq_false_iff_ne] at h;exact h
theorem zCY{v:V}{u:Value}(hg:Gl X x)(hm:X.mg x=some u)(r:zd v u)(hd:(x==("__debug__" :Str))=false):QE X (.Name x pos) (tC v):=⟨zOd hg hm r hd⟩
theorem zAr{v:V}{u:Value}(hg:Gl X x)(hm:X.mg x=none)(hv:bootBuiltins x=some u)(r:zd v u)(hn:x≠ "__name__")(hd:(x==("__debug__" :Str))=false):QE X (.Name x pos) (tC v):=⟨zGZ hg hm hv r hn hd⟩
theorem zDP{op:Operator}{r:R2}(ho:OpR X (binaryOp op) r)(ha:QE X a ta)(hb:QE X b tb):QE X (.BinOp a op b pos) (tOp r ta tb):=⟨zAG ho ha.out hb.out⟩
theorem yu(ha:QE X a ta)(hb:QE X b tb):QE X (.BinOp a .Add b pos) (tOp (rI0 fun i j=> .int (i+j)) ta tb):=zDP zGA ha hb
theorem zES(ha:QE X a ta)(hb:QE X b tb):QE X (.BinOp a .Sub b pos) (tOp (rI0 fun i j=> .int (i - j)) ta tb):=zDP zPv ha hb
theorem zNc(ha:QE X a ta)(hb:QE X b tb):QE X (.BinOp a .Mult b pos) (tOp (rI zKY fun i j=> .int (i*j)) ta tb):=zDP zCI ha hb
theorem zAm(ha:QE X a ta)(hb:QE X b tb):QE X (.BinOp a .FloorDiv b pos) (tOp (rI zQk fun i j=> .int (i/j)) ta tb):=zDP zOn ha hb
theorem yY(ha:QE X a ta)(hb:QE X b tb):QE X (.BinOp a .Mod b pos) (tOp (rI (fun _ j=>0<j) fun i j=> .int (i % j)) ta tb):=zDP zCG ha hb
theorem zEH(ha:QE X a ta)(hb:QE X b tb):QE X (.BinOp a .Add b pos) (tOp zRA ta tb):=zDP zPV ha hb
theorem zRL(ha:QE X a ta):QE X (.UnaryOp .Not a pos) (zNl ta):=⟨zKi ha.out⟩
theorem zHN{op:BoolOp}(h:QE X a ta):QE X (.BoolOp op [a] pos) ta:=⟨zKt h.out⟩
theorem zFV(ha:QE X a ta)(hb:QE X (.BoolOp .And (b::rest) pos) tb):QE X (.BoolOp .And (a::b::rest) pos) (zNb ta tb):=⟨zLY ha.out hb.out⟩
theorem zFS(hc:QT X c tA)(ha:QE X a ta)(hb:QE X b tb):QE X (.IfExp c a b pos) (tIf tA ta tb):=⟨zNF hc.out ha.out hb.out⟩
theorem zCa{op:CmpOp}{r:R2}(ho:OpR X (compareOp op) r)(ha:QE X a ta)(hb:QE X b tb)(hm:behindInMarks op b=false):QE X (.Compare a [op] [b] pos) (tOp r ta tb):=⟨zOX ho ha.out hb.out hm⟩
theorem zU{op:CmpOp}{r:R2}(ho:OpR X (compareOp op) r)(ha:QE X a ta)(hb:QE X b tb)(hm:behindInMarks op b=false):QT X (.Compare a [op] [b] pos) (zFw (tOp r ta tb)):=⟨zDB ho ha.out hb.out hm⟩
theorem zNe(ha:QE X a ta)(h:behindInMarks .Is (.Constant .none j pos')=false):QT X (.Compare a [.Is] [.Constant .none j pos'] pos) (tB (zQc ta)):=⟨zHX (zQB ha.out) h⟩
theorem zFs(ha:QE X a ta)(h:behindInMarks .IsNot (.Constant .none j pos')=false):QT X (.Compare a [.IsNot] [.Constant .none j pos'] pos) (tB (zNV ta)):=⟨zHX (zJC ha.out) h⟩
theorem zOb{op op':CmpOp}{r r':R2}(ho:OpR X (compareOp op) r)(ho':OpR X (compareOp op') r')(ha:QE X a ta)(hb:QE X b tb)(hc:QE X c tc)(hm:lastMarks [op,op'] [b,c] =false):QT X (.Compare a [op,op'] [b,c] pos) (zFw (zLm r r' ta tb tc)):=⟨zMg ho ho' ha.out hb.out hc.out hm⟩
theorem yZ(h:QE X e te)(he: ∀whole,isTrue e X.env whole=(do let v<-whole;standAt e.pos;holding [v] (truthy v))):QT X e (tB te):=⟨zLg h.out he⟩
theorem ya(h:QT X a tA):QT X (.UnaryOp .Not a pos) (zPT tA):=⟨zKq h.out⟩
theorem zDD(h:QT X a tA):QW X (.BoolOp .And [a] pos) tA:=⟨zJS h.out⟩
theorem zAy(h:QT X a tA):QW X (.BoolOp .Or [a] pos) tA:=⟨zQt h.out⟩
theorem zER(ha:QT X a tA)(hb:QW X (.BoolOp .And (b::rest) pos) tB'):QW X (.BoolOp .And (a::b::rest) pos) (zPZ tA tB'):=⟨zLq ha.out hb.out⟩
theorem zAa(ha:QT X a tA)(hb:QW X (.BoolOp .Or (b::rest) pos) tB'):QW X (.BoolOp .Or (a::b::rest) pos) (tOr tA tB'):=⟨zRW ha.out hb.out⟩
theorem t_w(h:QW X e tA):QT X e tA:=⟨h.out.pt⟩
theorem yw(hK:X.K=K)(ha:QE X a ta)(hb:QE X b tb)(hs:zGR b):QE X (.Subscript a b pos) (tOp (zJr K) ta tb):=by
 subst hK;exact ⟨zJx zIs ha.out hb.out hs⟩
theorem zx(hK:X.K=K)(ha:QE X a ta)(hb:QE X b tb)(hs:zGR b):QE X (.Subscript a b pos) (tOp (zPL K) ta tb):=by
 subst hK;exact ⟨zJx zQr ha.out hb.out hs⟩
section
variable {CX:CXT}{k:Nat}{f C:Addr}{fd:FuncData}{ps:List Str}{sp:Sp}{dvs:List V}{ds:List Value}{E:XK}{ES:St->XK}{id T:String}{r:List V->Hp->VK->Prop}
theorem zJ(F:FnOk X.prog X.w X.K X.mg X.base CX k f fd ps sp)(hr:Room k X.A)(hg:Gl X x)(hm:X.mg x=some (.ref f))(hk:PySem.W.keepIn X.K (.ref f)=true)(hb:zK X.K fd ps ds)(hd:zN dvs ds)(hx:zAg CX X E)
  (ha:QA X (e::es) t) (h1:(x==("__debug__" :Str))=false) (h2:yG e=true) (h3:yn es=true):QE X (.Call (.Name x p) (e::es) [] pos) (zNq sp dvs E t):=⟨zEc F hr hg hm hk hb hd hx ha.out h1 (zh h2) (yz h3)⟩
theorem zBy(F:FnOk X.prog X.w X.K X.mg X.base CX k f fd ps sp)(hr:Room k X.A)(hg:Gl X x)(hm:X.mg x=some (.ref f))(hk:PySem.W.keepIn X.K (.ref f)=true)(hb:zK X.K fd ps ds)(hd:zN dvs ds)(hx:zAW CX X ES)
  (ha:QA X (e::es) t) (h1:(x==("__debug__" :Str))=false) (h2:yG e=true) (h3:yn es=true):QE X (.Call (.Name x p) (e::es) [] pos) (zLJ sp dvs ES t):=⟨zMy F hr hg hm hk hb hd hx ha.out h1 (zh h2) (yz h3)⟩
theorem zNz(hc:yJ X (.builtin id) r)(hg:Gl X x)(hm:X.mg x=none)(hv:bootBuiltins x=some (.builtin id))(ha:QA X (e::es) t)(h0:x≠ "__name__")(h1:(x==("__debug__" :Str))=false)(h2:yG e=true)(h3:yn es=true):
  QE X (.Call (.Name x p) (e::es) [] pos) (tCB r t):=⟨zDT hc hg hm hv ha.out h0 h1 (zh h2) (yz h3)⟩
theorem zMe(hc:yJ X (.type T) r)(hg:Gl X x)(hm:X.mg x=none)(hv:bootBuiltins x=some (.type T))(ha:QA X (e::es) t)(h0:x≠ "__name__")(h1:(x==("__debug__" :Str))=false)(h2:yG e=true)(h3:yn es=true):
  QE X (.Call (.Name x p) (e::es) [] pos) (tCB r t):=⟨zLV hc hg hm hv ha.out h0 h1 (zh h2) (yz h3)⟩
theorem zt(hc:yJ X (.builtin id) r)(hg:Gl X x)(hm:X.mg x=none)(hv:bootBuiltins x=some (.builtin id))(ha:QA X (e::es) t)(h:okB x e es=true):QE X (.Call (.Name x p) (e::es) [] pos) (tCB r t):=let ⟨a,b,c,d⟩:=zJB h;zNz hc hg hm hv ha a b c d
theorem zCV(hc:yJ X (.type T) r)(hg:Gl X x)(hm:X.mg x=none)(hv:bootBuiltins x=some (.type T))(ha:QA X (e::es) t)(h:okB x e es=true):QE X (.Call (.Name x p) (e::es) [] pos) (tCB r t):=let ⟨a,b,c,d⟩:=zJB h;zMe hc hg hm hv ha a b c d
end
theorem zr(hK:X.K=K):yJ X (.builtin "len") (fun xs H Q=> ∃p ys,xs= [.ref p] /\(SqL K H p ys\/SqT K H p ys)/\Q (.int ys.length) H):=by
 subst hK;exact zDm
theorem zDg(hK:X.K=K)(ho:QE X o to)(ha:QE X e te)(hb:attributeBase o "append" X.env (eval o X.env)=eval o X.env)(h2:yG e=true)(hl:(apos.endLine==cpos.line)=true):
  QE X (.Call (.Attribute o "append" apos) [e] [] cpos) (tBM K "list" zIz to (zDi te zDr)):=by
 subst hK;exact ⟨zNj PySem.F.plainAttrs_list PySem.F.slot_list_append PySem.F.type_list_append zBj ho.out (yR ha.out zAI (zh h2)) hb (by rw [zh h2];rfl) hl (zh h2) rfl⟩
theorem zNr{t':TE}(h:QE X e te)(f: ∀σ H Q,t' σ H Q->te σ H Q):QE X e t':=⟨PE.imp h.out f⟩
section
variable {st:Stmt}{sts b1 b2:List Stmt}{u v:TS}{g:TG}{gs:TGs}{wi:TI}{tg iter:Expr}
theorem zf:QB X [] zNK:=⟨zCv⟩
theorem zH(h:QS X st u):QB X [st] u:=⟨zAJ h.out⟩
theorem zE(h:QS X st u)(h2:QB X sts v):QB X (st::sts) (zPy u v):=⟨yr h.out h2.out⟩
theorem zO(h:QE X e te):QS X (.Return (some e) pos) (zQu te):=⟨zCM h.out⟩
theorem ye(h:QE X e te)(hs:swapsWith e none pos.line X.env=pure false):QS X (.Expr e pos) (zNd te):=⟨zOF h.out hs⟩
theorem zq(hc:QT X c tA)(ha:QB X b1 u)(hb:QB X b2 v):QS X (.If c b1 b2 pos) (zPc tA u v):=⟨zFZ hc.out ha.out hb.out⟩
theorem zCj(i:Nat)(hN:X.N.Nodup)(hi:X.N[i]?=some x)(hx:Loc X.env.scope x)(he:QE X e te)(hs:swapsWith e (some (.Name x pos')) pos.line X.env=pure false)(hf:X.fn x=true\/X.env.scope.names.lookup x=some .local):
  QS X (.Assign [.Name x pos'] e pos) (zDS te (zAA i)):=⟨zCT hN hi hx he.out hs hf⟩
theorem zT(i:Nat)(hN:X.N.Nodup)(h:(X.N[i]?==some x&&X.env.scope.names.lookup x==some .local)=true)(he:QE X e te)(hs:swapsWith e (some (.Name x pos')) pos.line X.env=pure false):QS X (.Assign [.Name x pos'] e pos) (zDS te (zAA i)):=by
 rw [zTA,beq_iff_eq,beq_iff_eq] at h;exact zCj i hN h.1 (.inl h.2) he hs (.inr h.2)
theorem zNT(he:QE X e te)(hg:QG X tg g)(hs:swapsWithSole [tg] e pos.line X.env=pure false)(hw:swappedStores [tg] e X.env=pure none)(h1:(assignEach [tg] X.env).map (·.2)= [assign tg X.env]):QS X (.Assign [tg] e pos) (zDS te g):=⟨zQm he.out hg.out hs hw h1⟩
theorem zM(i:Nat)(hN:X.N.Nodup)(hi:X.N[i]?=some x)(hx:Loc X.env.scope x)(hf:X.fn x=true\/X.env.scope.names.lookup x=some .local):QG X (.Name x pos) (zAA i):=⟨zPF hN hi hx hf⟩
theorem zBW:QGs X [] zQG:=⟨zOZ⟩
theorem yK(h1:QG X e g)(h2:QGs X es gs)(hs:(assignEach (e::es) X.env).map (·.2)=assign e X.env::(assignEach es X.env).map (·.2)):QGs X (e::es) (zNX g gs):=⟨zMz h1.out h2.out hs⟩
theorem zBO{n:Nat}(hK:X.K=K)(hc:X.calm=true)(h:QGs X es gs)(hn:(assignEach es X.env).length=n)(hst:(assignEach es X.env).findIdx? (·.1)=none):QG X (.Tuple es j pos) (zQq K n gs):=by
 subst hK;exact ⟨zQw hc h.out hn hst⟩
theorem zOL(hp:PassesOwn (model X.prog X.w) X.A X.env X.xe)(hc:QT X c tA)(hb:QB X b1 u):QS X (.While c b1 [] pos) (zHe tA u):=⟨zII hp hc.out hb.out⟩
theorem zn(hK:X.K=K)(h:QE X e te):QI X tg e (zNW K te):=by
 subst hK;exact ⟨zOU h.out⟩
theorem zBm(hg:Gl X "range")(hm:X.mg "range" =none)(h:QA X [a] t)(h2:yG a=true):QI X tg (.Call (.Name "range" p) [a] [] pos) (zNi t):=⟨zLh hg hm h.out (by rw [zh h2];rfl)⟩
theorem zRh(hp:PassesOwn (model X.prog X.w) X.A X.env X.xe)(hc:X.calm=true)(hi:QI X tg iter wi)(hg:QG X tg g)(hb:QB X b1 u)(hs: ∀x,foldedSetIterable iter X.env x=pure x):QS X (.For tg iter b1 [] pos) (zPk wi g u):=⟨zQi hp hc hi.out hg.out hb.out hs⟩
end
end
abbrev zBJ(ifs:List Expr)(env:Env):Sem Bool:=forIn ifs true fun c r=>if r=true then do let ok<-isTrue c env (eval c env);pure (ForInStep.yield ok) else pure (ForInStep.yield r)
theorem yO{P:Program}{w:World}{A:Around}{env:Env}{E:Value->Shared->Prop}{α:Type}{t:Sem α}{Q:α->Shared->Prop}{s:Shared}(h:wpAny (model P w) A t Q (fun _ _=>False) s):wpAny (model P w) A t Q (notedBy (model P w) A env E) s:=zSa h (fun _ _ z=>z) fun _ _ z=>z.elim
theorem zFP{P:Program}{w:World}{A:Around}{R:Result->Shared->Prop}{s:Shared}{elt target iter:Expr}{ifs:List Expr}{scope:Scope}{pos:Pos}{it acc:Value}{env:Env}(J:Nat->Shared->Prop)
  (turn: ∀n s,J n s->wpAny (model P w) A (pyNext it) (fun r s1=>match r with
   | none=>R (.ok .next) s1
   | some v=>wpAny (model P w) A (letOwnedTupleGo target it v) (fun _ s1'=>wpAny (model P w) A (assign target env v) (fun _ s2=>wpAny (model P w) A (zBJ ifs env) (fun ok s3=>
     if ok=true then wpAny (model P w) A (eval elt env) (fun x s4=>wpAny (model P w) A (call (.builtin "list.append") [acc,x]) (fun _ s5=> ∃m,m<n/\J m s5) (fun _ _=>False) s4) (fun _ _=>False) s3
     else∃m,m<n/\J m s3) (fun _ _=>False) s2) (fun _ _=>False) s1') (fun _ _=>False) s1) (fun _ _=>False) s)
  (n:Nat) (h:J n s):codeAny (model P w) A (.compLoop (.ListComp elt [⟨target,iter,ifs,0⟩] scope pos) 0 it acc env) R s:=by
 refine codeAny_loop rfl J (fun n s hJ=>?_) n h;show wpAny _ A ((compTurn (.ListComp elt [⟨target,iter,ifs,0⟩] scope pos) 0 it acc env).onRaise _) _ _ s;refine wpAny_noted ?_;rw [compTurn_list];refine zSG (wpAny_standAt (zSG (zSa (yO (turn n s hJ)) (fun r s1 h1=>?_) fun _ _ z=>z)));cases r with
 | none=>exact zSL h1
 | some v=>
  refine zSG (zSa (yO h1) (fun _ s2 h3=>zSG (zSa (yO h3) (fun _ s3 h4=>zSG (zSa (yO h4) (fun ok s4 h5=>?_) fun _ _ z=>z)) fun _ _ z=>z)) fun _ _ z=>z);cases ok with
  | false=>exact zSL ⟨rfl,h5⟩
  | true=>exact zSG (zSG (zSa (yO h5) (fun x s5 h6=>zSG (zSa (yO h6) (fun _ s6 h7=>zSL (zSL ⟨rfl,h7⟩)) fun _ _ z=>z)) fun _ _ z=>z))
def PTs(X:Cx)(ifs:List Expr)(t:TT):Prop:=(ifs= [] /\t=fun _ H Q=>Q true H)\/ ∃c,ifs= [c] /\PT X c t
def zCW(wi:TI)(g:TG)(tt:TT)(te:TE)(n:Nat)(fr:List Nat):TE:=fun σ H Q=>wi σ H fun J H1=> ∀D,H1 D=none-> ∃W:Nat->Nat->List V->Hp->Prop,(∃m,W 0 m [] (upd H1 D (.lst [])))/\ ∀i m ys H,W i m ys H->
 H D=some (.lst ys)/\((J.stop i H/\Q (.ref D) H)\/(J.go i H/\ys.length<sizeLine/\ ∃N:List V->Hp->Prop,(∀ys' H',N ys' H'-> ∃m',m'<m/\W (i+1) m' ys' H')/\
  ∀x H',J.yld i H x H'-> ∀pre:St,pre.length=n->g x (pre++zY fr σ) H' fun σ2 H2=>(∃zi:St,zi.length=n/\σ2=zi++zY fr σ)/\
   tt σ2 H2 fun b H3=>if b=true then te σ2 H3 fun y H4=>H4 D=some (.lst ys)/\N (ys++ [y]) (upd H4 D (.lst (ys++ [y]))) else N ys H3))
theorem zMb{X:Cx}{elt iter tg:Expr}{ifs:List Expr}{zs:List Str}{pos:Pos}{scope:Scope}{cl:List (Str×Addr)}{ys:List Str}{fr:List Nat}{wi:TI}{g:TG}{tt:TT}{te:TE}(hcm:X.calm=true)
  (hi:PI X tg iter wi) (hclos:closureFor scope X.env=pure cl) (hcell: ∀y∈scope.names,y.2≠ .cell) (hkind:scope.kind= .function) (hnames: ∀y∈scope.names,y.2= .local->scope.names.lookup y.1=some .local)
  (hcl: ∀y a,cl.lookup y=some a->X.env.cells.lookup y=some a)
  (hlen:ys.length=fr.length) (hfr: ∀(j:Nat) y i,ys[j]?=some y->fr[j]?=some i->X.N[i]?=some y/\X.env.kindOf y=some .cell/\(relabel scope X.env).names.lookup y=some .cell/\ ∃a,cl.lookup y=some a/\X.env.cells.lookup y=some a)
  (hhas: ∀y,((relabel scope X.env).names.lookup y=some .cell\/(relabel scope X.env).names.lookup y=some .free)-> ∃a,cl.lookup y=some a)
  (hg: ∀C s₂ H₂ fp,PG (X.comp scope cl C (zs++ys) s₂ H₂ fp) tg g) (hc: ∀C s₂ H₂ fp,PTs (X.comp scope cl C (zs++ys) s₂ H₂ fp) ifs tt) (he: ∀C s₂ H₂ fp,PE (X.comp scope cl C (zs++ys) s₂ H₂ fp) elt te) (hs: ∀v,foldedSetIterable iter X.env v=pure v:=by intro _;rfl):
  PE X (.ListComp elt [⟨tg,iter,ifs,0⟩] scope pos) (zCW wi g tt te zs.length fr):=by
 intro pins s σ H Q I h;rw [eval_ListComp];refine wpAny_comprehension_free (use:=none) rfl hs hclos hkind hnames (zS (hi pins s σ H _ I h) fun v s1 h1=>zS h1 fun itv s2 h2=>?_);obtain ⟨it,fp,tn,J,H2,e,I2,T,st2,f2,h2⟩:=h2;subst e;have hD:H2 s2.heap.objs.size=none:=I2.hok.fresh (zSJ _);obtain ⟨W,⟨m0,w0⟩,turn⟩:=h2 s2.heap.objs.size hD;refine wpAny_newObj_type (wpAny_newFunctionEnv hcell (by intro y hy;simp at hy) (fun h₁ hns₁ hsb₁=>?_) hkind);dsimp only at hns₁ hsb₁⊢;generalize hH3:s2.heap.push {cls:= .type "list",dict:=none,data:= .seq ([] :List Value).toArray}=H3 at hns₁ hsb₁⊢;have hCs:H3.objs.size=s2.heap.objs.size+1:=by rw [<-hH3,Heap.size_push]
 have old: ∀b o,s2.heap.get? b=some o->h₁.get? b=some o:=fun b o e=>
  hsb₁.extBut b o (zSN (by have:=zz e;omega)) (zSH _ (hH3▸zSH _ e))
 have hacc:h₁.get? s2.heap.objs.size=some {cls:= .type "list",dict:=none,data:= .seq ([] :List Value).toArray}:=
  hsb₁.extBut _ _ (zSN (by omega)) (zSH _ (hH3▸zSY _ rfl))
 have fplt: ∀b∈fp,@LT.lt Nat _ b s2.heap.objs.size:=fun b hb=>by
  obtain ⟨o,e,_⟩:=T.obj _ _ st2 b hb;exact zz e
 have okC:(X.comp scope cl H3.objs.size (zs++ys) s2 H2 fp).Ok:=by
  refine ⟨I2.ok.mod,hkind,I2.ok.glob,I2.ok.blt,?_,fun y z a h1 h2=>I2.ok.inj y z a (hcl y a h1) (hcl z a h2),fun y hy=>hhas y hy,fun y a z _=>(nomatch z),I2.ok.hd,I2.ok.frames,.inl rfl,fun b hb=>⟨?_,fun y a e z=>?_⟩,I2.bs,zST I2.ok.bsz I2.sz,fun b o e hb=>?_,fun b hb z=>?_,I2.stack,I2.stkFree⟩
  ·show s2.heap.objs.size<=H3.objs.size;omega
  ·show b≠H3.objs.size;have:=fplt b hb;exact zSN (by omega)
  ·exact (f2 b hb).2.2.2.2.1 y a (hcl y a e) z
  ·rcases (f2 b hb).2.2.2.1 with z | z
   ·exact I2.ok.noex b o e z
   ·have z': @LE.le Nat _ X.s₀.heap.objs.size b:=z;have: @LT.lt Nat _ b X.base.objs.size:=zz e;have:=I2.ok.bsz;omega
  ·rcases zSz.mp (I2.stkSub b z) with y | y
   ·exact (f2 b hb).2.1 y
   ·exact (f2 b hb).2.2.1 y
 have fpok: ∀{H':Hp},(∀b∈fp,H' b=none)-> ∀b∈fp,zBD (X.comp scope cl H3.objs.size (zs++ys) s2 H2 fp) [] H' b:=fun hn b hb=>
  ⟨hn b hb,(okC.exf b hb).1,okC.exfs b hb,.inl hb,(okC.exf b hb).2,fun p hp=>absurd hp (by simp)⟩
 have cellC: ∀y a,cl.lookup y=some a-> ∃v,s2.heap.IsCell a v:=fun y a e=>I2.cell y a (hcl y a e);have start:Inv (X.comp scope cl H3.objs.size (zs++ys) s2 H2 fp) [] (List.replicate zs.length none++zY fr σ) (upd H2 s2.heap.objs.size (.lst [])) {s2 with heap:=h₁,toks:=s2.toks+([] :List (Str×Value)).length}:=by
  refine ⟨okC,rfl,I2.bare,Un.laid old (zSJ _) hD,⟨_,hns₁,fun j y v e1 e2 e3=>?_⟩,fun y a e=>?_,?_,fun y a e=>?_,fun p hp=>absurd hp (by simp),I2.hok.laid old (zSJ _) ⟨zSU _,[],_,.nil,hacc⟩,?_⟩
  ·by_cases hj:j<zs.length
   ·rw [List.getElem?_append_left (by simpa using hj),List.getElem?_replicate] at e2;rw [if_pos hj] at e2;cases e2
   ·obtain ⟨j,rfl⟩: ∃k,j=zs.length+k:=⟨j - zs.length,by omega⟩;have e1':ys[j]?=some y:=by
     have z:=e1;simp only [Cx.comp] at z;rw [List.getElem?_append_right (by omega)] at z;simpa using z
    have e2':(zY fr σ)[j]?=some (some v):=by
     rw [List.getElem?_append_right (by simp)] at e2;simpa using e2
    unfold zY at e2';rw [zSK] at e2';cases q:fr[j]? with
    | none=>rw [q] at e2';cases e2'
    | some i=>
     rw [q] at e2';have e4:(σ[i]?).getD none=some v:=Option.some.inj e2';have e5:σ[i]?=some (some v):=by
      cases q2:σ[i]? with
      | none=>rw [q2] at e4;cases e4
      | some z=>rw [q2] at e4;exact congrArg some e4
     obtain ⟨hN,hk,hl,a,ha,ha'⟩:=hfr j y i e1' q;obtain ⟨m,_,hl2⟩:=I2.loc;obtain ⟨u,r,l⟩:=hl2 i y v hN e5 (.inr (.inl hk));refine ⟨u,r,.inr ⟨.inl hl,a,ha,?_⟩⟩;rcases l with ⟨k,_⟩|⟨_,a2,ea,z⟩
     ·rw [hk] at k;cases k
     ·rw [ha'] at ea;cases ea;obtain ⟨o,ho,hd⟩:=z;exact ⟨o,old _ _ ho,hd⟩
  ·obtain ⟨v,o,ho,hd⟩:=cellC y a e;exact ⟨v,o,old _ _ ho,hd⟩
  ·show upd H2 s2.heap.objs.size (.lst []) H3.objs.size=none;rw [zI (by first | exact zSN (by omega)| exact zSq (by omega))];exact I2.hok.fresh (by omega)
  ·obtain ⟨v,o,ho,hd⟩:=cellC y a e;have:=zz ho;rw [zI (by first | exact zSN (by omega)| exact zSq (by omega))];exact I2.freeC y a (hcl y a e)
  ·show (List.replicate zs.length none++zY fr σ).length=(zs++ys).length;unfold zY;simp [hlen]
 have loop: ∀s₃:Shared,s₃={s2 with heap:=h₁,toks:=s2.toks+([] :List (Str×Value)).length}->
   codeAny (model X.prog X.w) X.A (.compLoop (.ListComp elt [⟨tg,iter,ifs,0⟩] scope pos) 0 (.ref it) (.ref s2.heap.objs.size) (compEnvC scope cl H3.objs.size X.env)) (compPost (model X.prog X.w) X.A X.xe none (EP X pins σ Q) (.ref s2.heap.objs.size) H3.objs.size) s₃:=by
  rintro s₃ rfl;refine zFP (fun n s'=> ∃i pre ys' H',pre.length=zs.length/\Inv (X.comp scope cl H3.objs.size (zs++ys) s2 H2 fp) [] (pre++zY fr σ) H' s'/\tn i s'.heap/\(∀b∈fp,H' b=none)/\W i n ys' H') ?_ m0
   ⟨0,List.replicate zs.length none,[],_,by simp,start,T.keep _ _ _ st2 fun b hb o e=>old b o e,fun b hb=>by
    have:=fplt b hb;rw [zI (by first | exact zSN (by omega)| exact zSq (by omega))];exact (f2 b hb).1,w0⟩
  rintro n s3 ⟨i,pre,ys3,H',hpl,I3,st3,fr3,w3⟩;obtain ⟨hl3,alt⟩:=turn i n ys3 H' w3;rcases alt with ⟨stop,qn⟩|⟨go,hz,N,hN,step⟩
  ·refine zSa (T.done (X.comp scope cl H3.objs.size (zs++ys) s2 H2 fp) rfl rfl rfl hcm i [] s3 _ H' (fun _ _=>False) I3 (fpok fr3) st3 stop) (fun r s4 h4=>?_) fun _ _ z=>z.elim;obtain ⟨hr,I4⟩:=h4;subst hr;obtain ⟨m4,hn4,_⟩:=id I4.loc;refine ⟨m4,hn4,fun h'' hs''=>?_⟩;have hb: ∀b o,b≠H3.objs.size->s4.heap.get? b=some o->h''.get? b=some o:=fun b o hb e=>(hs''.2 b hb).trans e;have I5:Inv X pins σ H' {s4 with heap:=h''}:=by
    refine I2.call' (s':={s4 with heap:=h''}) (ch:=fp) I4.os ⟨fun b o e n hb' hx'=>?_,fun b o e n hb' hx'=>?_,fun b o e n hx'=>I4.base.free b o e n hx',fun b o e hx'=>?_,I4.base.tups,I4.base.frzs,I4.base.tbls⟩ (fun b u e=>?_) I4.bare fun b hb'=>⟨(f2 b hb').2.2.2.1,(f2 b hb').2.1,(f2 b hb').2.2.2.2.1,(f2 b hb').2.2.2.2.2⟩
    ·exact hb b o (zSN (by have:=zz e;omega)) (I4.base.keep b o e n hb' hx')
    ·obtain ⟨sl,q⟩:=I4.base.slot b o e n hb' hx';exact ⟨sl,hb b _ (zSN (by have:=zz e;omega)) q⟩
    ·obtain ⟨o',q⟩:=I4.base.there b o e hx';exact ⟨o',hb b _ (zSN (by have:=zz e;omega)) q⟩
    ·refine (I4.hok b u e).stay (fun c' w' hc' q=>hb c' w' ?_ q) (fun _ q=>q) fun _ _ q=>q;intro z;have fz:H' H3.objs.size=none:=I4.free;rcases hc' with y | y
     ·rw [<-y,z,fz] at e;cases e
     ·rw [z,fz] at y;cases y
   exact ⟨.ref s2.heap.objs.size,H',I5,rfl,qn⟩
  ·refine zSa (T.item (X.comp scope cl H3.objs.size (zs++ys) s2 H2 fp) rfl rfl rfl hcm i [] s3 _ H' (fun _ _=>False) I3 (fpok fr3) st3 go) (fun r s4 h4=>?_) fun _ _ z=>z.elim;obtain ⟨u,hr,h4⟩:=h4;subst hr;dsimp only;have asg:wpAny (model X.prog X.w) X.A (letOwnedTupleGo tg (.ref it) u) (fun _ s5=>wpAny (model X.prog X.w) X.A (assign tg (compEnvC scope cl H3.objs.size X.env) u)
     (fun _ s6=> ∃σ5 H6,(∃pn5,Inv (X.comp scope cl H3.objs.size (zs++ys) s2 H2 fp) pn5 σ5 H6 s6/\(∀b∈fp,∃o,(b,o)∈pn5))/\((∃zi:St,zi.length=zs.length/\σ5=zi++zY fr σ)/\
      tt σ5 H6 fun b H3'=>if b=true then te σ5 H3' fun y H4=>H4 s2.heap.objs.size=some (.lst ys3)/\N (ys3++ [y]) (upd H4 s2.heap.objs.size (.lst (ys3++ [y]))) else N ys3 H3')/\tn (i+1) s6.heap/\ ∀b∈fp,H6 b=none) (fun _ _=>False) s5) (fun _ _=>False) s4:=by
    refine (zS h4 fun _ s5 ⟨x5,H5,I5,r5,y5,st5,fr5⟩=>?_);have I5':=I5.pinned (fpok fr5) (T.obj _ _ st5);refine zSa (hg _ _ _ _ _ s5 _ H5 x5 u _ I5' r5 (step x5 H5 y5 pre hpl)) (fun _ s6 ⟨σ6,H6,I6,q6⟩=>?_) fun _ _ z=>z.elim;exact ⟨σ6,H6,⟨_,I6,fun b hb=>by
     obtain ⟨o,e,_⟩:=T.obj _ _ st5 b hb;exact ⟨o,zSV _ (yH hb e)⟩⟩,q6,T.keep _ _ _ st5 fun b hb o e=>(I6.pin (b,o) (zSV _ (zSV _ (yH hb e)))).1,fun b hb=>by
     obtain ⟨o,e,_⟩:=T.obj _ _ st5 b hb;exact (I6.pin (b,o) (zSV _ (zSV _ (yH hb e)))).2.1⟩
   refine zSa asg (fun _ s5 h5=>zSa h5 (fun _ s6 h6=>?_) fun _ _ z=>z.elim) fun _ _ z=>z.elim;obtain ⟨σ5,H5,⟨pn5,I6,hp6⟩,⟨⟨zi,hl2,rfl⟩,q6⟩,st6,fr5⟩:=h6;have keepTurn: ∀{σ7:St} {H7:Hp} {s7:Shared},Inv (X.comp scope cl H3.objs.size (zs++ys) s2 H2 fp) pn5 σ7 H7 s7->tn (i+1) s7.heap/\ ∀b∈fp,H7 b=none:=fun {σ7 H7 s7} I7=>by
    refine ⟨T.keep _ _ _ st6 fun b hb o e=>?_,fun b hb=>?_⟩
    ·obtain ⟨o',hm⟩:=hp6 b hb;have a1:=(I6.pin (b,o') (zSV _ hm)).1;rw [e] at a1;cases a1;exact (I7.pin (b,_) (zSV _ hm)).1
    ·obtain ⟨o',hm⟩:=hp6 b hb;exact (I7.pin (b,o') (zSV _ hm)).2.1
   have drop: ∀{σ7:St} {H7:Hp} {s7:Shared},Inv (X.comp scope cl H3.objs.size (zs++ys) s2 H2 fp) pn5 σ7 H7 s7->Inv (X.comp scope cl H3.objs.size (zs++ys) s2 H2 fp) [] σ7 H7 s7:=fun I7=>I7.pins_of fun p hp=>absurd hp (by simp);have tests:wpAny (model X.prog X.w) X.A (zBJ ifs (compEnvC scope cl H3.objs.size X.env)) (fun b s7=> ∃H7,Inv (X.comp scope cl H3.objs.size (zs++ys) s2 H2 fp) pn5 (zi++zY fr σ) H7 s7/\
     (if b=true then te (zi++zY fr σ) H7 fun y H4=>H4 s2.heap.objs.size=some (.lst ys3)/\N (ys3++ [y]) (upd H4 s2.heap.objs.size (.lst (ys3++ [y]))) else N ys3 H7)) (fun _ _=>False) s6:=by
    rcases hc H3.objs.size s2 H2 fp with ⟨rfl,rfl⟩|⟨c,rfl,hc2⟩
    ·exact wpAny_tests_nil ⟨H5,I6,q6⟩
    ·exact wpAny_tests_one (zSa (hc2 pn5 s6 _ H5 _ I6 q6) (fun b s7 ⟨H7,I7,q7⟩=>⟨H7,I7,q7⟩) fun _ _ z=>z.elim)
   refine zSa tests (fun b s7 h7=>?_) fun _ _ z=>z.elim;obtain ⟨H7,I7,q7⟩:=h7;cases b with
   | false=>
    obtain ⟨m',hm,w'⟩:=hN _ _ q7;obtain ⟨k1,k2⟩:=keepTurn I7;exact ⟨m',hm,i+1,zi,ys3,H7,hl2,drop I7,k1,k2,w'⟩
   | true=>
    refine zSa (he _ _ _ _ pn5 s7 _ H7 _ I7 q7) (fun y s8 h8=>?_) fun _ _ z=>z.elim;obtain ⟨yv,H8,I8,r8,hl8,n8⟩:=h8;refine zSa (zBj (X:=X.comp scope cl H3.objs.size (zs++ys) s2 H2 fp) pn5 s8 _ H8 (.ref s2.heap.objs.size) [yv] (.ref s2.heap.objs.size) [y] (fun z H9=>N (ys3++ [yv]) H9) I8 rfl (.cons r8 .nil) ⟨s2.heap.objs.size,ys3,yv,rfl,rfl,hl8,hz,n8⟩) (fun _ s9 h9=>?_) fun _ _ z=>z.elim;obtain ⟨_,H9,I9,_,n9⟩:=h9;obtain ⟨m',hm,w'⟩:=hN _ _ n9;obtain ⟨k1,k2⟩:=keepTurn I9;exact ⟨m',hm,i+1,zi,ys3++ [yv],H9,hl2,drop I9,k1,k2,w'⟩
 exact codeAny_compStart_list (loop _ rfl) (T.self X.A 0 _ _ _ (T.keep _ _ _ st2 fun b hb o e=>old b o e) (loop _ rfl))
structure QTs(X:Cx)(ifs:List Expr)(t:TT):Prop where
 out:PTs X ifs t
theorem zo{X:Cx}:QTs X [] (fun _ H Q=>Q true H):=⟨.inl ⟨rfl,rfl⟩⟩
theorem zCP{X:Cx}{c:Expr}{t:TT}(h:QT X c t):QTs X [c] t:=⟨.inr ⟨c,rfl,h.out⟩⟩
theorem zON{X:Cx}{elt iter tg:Expr}{ifs:List Expr}(zs:List Str){pos:Pos}{scope:Scope}{cl:List (Str×Addr)}(ys:List Str)(fr:List Nat){wi:TI}{g:TG}{tt:TT}{te:TE}(hcm:X.calm=true)
  (hi:QI X tg iter wi) (hclos:closureFor scope X.env=pure cl) (hcell: ∀y∈scope.names,y.2≠ .cell) (hkind:scope.kind= .function) (hnames: ∀y∈scope.names,y.2= .local->scope.names.lookup y.1=some .local)
  (hcl: ∀y a,cl.lookup y=some a->X.env.cells.lookup y=some a)
  (hlen:ys.length=fr.length) (hfr: ∀(j:Nat) y i,ys[j]?=some y->fr[j]?=some i->X.N[i]?=some y/\X.env.kindOf y=some .cell/\(relabel scope X.env).names.lookup y=some .cell/\ ∃a,cl.lookup y=some a/\X.env.cells.lookup y=some a)
  (hhas: ∀y,((relabel scope X.env).names.lookup y=some .cell\/(relabel scope X.env).names.lookup y=some .free)-> ∃a,cl.lookup y=some a)
  (hg: ∀C s₂ H₂ fp,QG (X.comp scope cl C (zs++ys) s₂ H₂ fp) tg g) (hc: ∀C s₂ H₂ fp,QTs (X.comp scope cl C (zs++ys) s₂ H₂ fp) ifs tt) (he: ∀C s₂ H₂ fp,QE (X.comp scope cl C (zs++ys) s₂ H₂ fp) elt te) (hs: ∀v,foldedSetIterable iter X.env v=pure v):
  QE X (.ListComp elt [⟨tg,iter,ifs,0⟩] scope pos) (zCW wi g tt te zs.length fr):=
 ⟨zMb hcm hi.out hclos hcell hkind hnames hcl hlen hfr hhas (fun C s H f=>(hg C s H f).out) (fun C s H f=>(hc C s H f).out) (fun C s H f=>(he C s H f).out) hs⟩
section
variable {K:zSy}{g:TG}{tt:TT}{te:TE}{n:Nat}{fr:List Nat}{σ:St}{H:Hp}{Q:VK}
def zEq(g:TG)(tt:TT)(te:TE)(n:Nat)(suf:St)(D:Addr)(x:V)(ys:List V)(H:Hp)(N:List V->Hp->Prop):Prop:=
 ∀pre:St,pre.length=n->g x (pre++suf) H fun σ2 H2=>(∃zi:St,zi.length=n/\σ2=zi++suf)/\tt σ2 H2 fun b H3=>if b=true then te σ2 H3 fun y H4=>H4 D=some (.lst ys)/\N (ys++ [y]) (upd H4 D (.lst (ys++ [y]))) else N ys H3
end
theorem zRa{X:Cx}{K:zSy}{body:List Stmt}{xc n:Str}{np hpos pos:Pos}{b₀:Stmt}{suite:List Stmt}{tb:(St->XK)->TS}{ts:TS}{Cv:Value}(i:Nat)(hK:X.K=K)(hst:X.stack=X.env::X.outer)(hfr:X.env.frame=some X.env.locals)(hN:X.N.Nodup)(hi:X.N[i]?=some n)(hn:X.env.scope.names.lookup n=some .local)
  (hg:Gl X xc) (hm:X.mg xc=some Cv\/(X.mg xc=none/\bootBuiltins xc=some Cv/\xc≠ "__name__"))
  (hb: ∀ps xe E,zAW (Fly X.prog X.w) (X.tryB ps xe) E->QB (X.tryB ps xe) body (tb E)) (hs: ∀e,QB (X.inExc e) (b₀::suite) ts) (hdb:(xc==("__debug__" :Str))=false):
  QS X (.Try body [.ExceptHandler (some (.Name xc np)) (some n) (b₀::suite) hpos] [] [] pos) (zRC K Cv i tb ts):=by
 subst hK;exact ⟨zQP hst hfr hN hi hn hg hm (fun ps xe E hp=>(hb ps xe E hp).out) (fun e=>(hs e).out) hdb⟩
theorem zJJ{X:Cx}{x:Str}{C:Addr}{e₀:Expr}{rest:List Expr}{t:TA}{E:St->XK}{np cpos pos:Pos}
  (q:PySem.W.excIn X.K C [.type "ValueError",.type "Exception",.type "BaseException",.type "object"] "ValueError.__new__" =true) (hr:zGS X E) (hc:X.calm=true) (hg:Gl X x) (hm:X.mg x=some (.ref C)) (ha:QA X (e₀::rest) t)
  (hdb:(x==("__debug__" :Str))=false) (h2:yG e₀=true) (h3:yn rest=true):QS X (.Raise (some (.Call (.Name x np) (e₀::rest) [] cpos)) none pos) (zKu C E t):=
 ⟨zDb PySem.F.excBase_ValueError q hr hc hg hm ha.out hdb (zh h2) (yz h3)⟩
section
variable {κ:Type}[DecidableEq κ]
theorem KV.keys{kvs:List (κ×V)}{vs:List (κ×Value)}(r:KV kvs vs):kvs.map (·.1)=vs.map (·.1):=by
 unfold KV at r
 induction r with
 | nil=>rfl
 | cons h t ih=>rw [zTD,zTD,ih,h.1]
end
section
variable {P:Program}{w:World}{H:Hp}{h:Heap}{a:Addr}
theorem zNm{u:HO}(ok:HOk P w H h)(e:Rd H a u):yL P w H h a u:=e.ok ok
theorem zRV{kvs:List (Key×V)}(ok:HOk P w H h)(e:Rd H a (.dK kvs)):kvs.length<=sizeLine/\(a==sysModules)=false/\ ∃vs,KV kvs vs/\h.DictOf (zDF P w) a vs:=
 show yL P w H h a (.dK kvs) from zNm ok e
end
section
variable {X:Cx}{pins:List (Addr×Obj)}{σ:St}{H:Hp}{s:Shared}{a:Addr}{y v:V}{u r:Value}{o:Option V}{A:Around}{E:Value->Shared->Prop}
end
section
variable {X:Cx}{pins:List (Addr×Obj)}{σ:St}{H:Hp}{s:Shared}{a:Addr}{kvs:List (Key×V)}{k:Key}{u:Value}{A:Around}{E:Value->Shared->Prop}
end
section
variable {X:Cx}{o i e value:Expr}{pos pos' tpos:Pos}{td ty tv:TE}
end
section
variable {X:Cx}{pos:Pos}
end
section
variable {X:Cx}{pins:List (Addr×Obj)}{σ:St}{H:Hp}{s:Shared}{a:Addr}{y d:V}{u r:Value}{o:Option V}{A:Around}{E:Value->Shared->Prop}
end
section
variable {X:Cx}{o e f:Expr}{apos cpos:Pos}{td ty tx:TE}
end
section
variable {X:Cx}{pins:List (Addr×Obj)}{σ:St}{H:Hp}{s:Shared}{a:Addr}{kvs:List (Key×V)}{A:Around}{E:Value->Shared->Prop}
end
section
variable {X:Cx}{pins:List (Addr×Obj)}{σ:St}{H:Hp}{s:Shared}{a:Addr}{y:V}{u:Value}{A:Around}{E:Value->Shared->Prop}
end
theorem Inv.turnedL{X:Cx}{pins:List (Addr×Obj)}{σ:St}{H:Hp}{s:Shared}{h':Heap}{t':Nat}{ch:List Addr}(I:Inv X pins σ H s)(k: ∀b o,b∉ch->s.heap.get? b=some o->h'.get? b=some o)(hf: ∀b∈ch,zBD X pins H b):
  Inv X pins σ H {s with heap:=h',toks:=t'}:=by
 have nit: ∀b u,H b=some u->b∉ch:=fun b u e z=>by rw [(hf b z).1] at e;cases e
 refine I.step (g':=s.gens) (d':=s.drawn) (ch:=ch) (fun b hb=>?_) (fun b o _ _ hc e _=>k b o hc e) (fun b o _ _ hc e _=>⟨o.slots,k b o hc e⟩) (fun _ _ _ _ n=>n)
  (fun b o hc e=>⟨o,k b o hc e⟩) (fun _ _ e=>e) (fun _ _ _ e=>e) (fun b ps e=>⟨#[],by rw [e];simp⟩) (fun m hm=>?_) (fun b u e=>?_) I.bare
 ·obtain ⟨f0,f1,f2,f3,f4,f5⟩:=hf b hb;exact ⟨f3,f1,f4,f5⟩
 ·obtain ⟨o,es,ep,ho,r⟩:=hm;exact ⟨o,es,ep,k _ o (fun z=>(hf _ z).2.1 rfl) ho,r⟩
 ·refine (I.hok b u e).stay (fun c v hc q=>k c v ?_ q) (fun _ q=>q) fun _ _ q=>q;rcases hc with z | z
  ·rw [z];exact nit b u e
  ·exact nit c _ z
theorem zBD.upd{X:Cx}{pins:List (Addr×Obj)}{H:Hp}{b a:Addr}{o:HO}(f:zBD X pins H b)(h:b≠a):zBD X pins (L2.upd H a o) b:=⟨by rw [zI h];exact f.1,f.2⟩
def Ite(K:zSy)(l:Addr):It:=
 ⟨fun i H=> ∃xs x,SqL K H l xs/\xs[i]?=some x,fun i H x H'=> ∃t y,(∀xs,SqL K H l xs->xs[i]?=some y)/\H t=none/\x= .ref t/\H'=upd H t (.tup [.int i,y]),fun i H=> ∃xs,SqL K H l xs/\xs.length<=i⟩
theorem zKm{P:Program}{w:World}{K:zSy}{elts:List Expr}{x1}{pos:Pos}(l e it:Addr)(hne:e≠it):Turn P w K (.Tuple elts x1 pos) (Ite K l) [e,it] e (fun i h=> ∃old,IsEnum h e it i old/\h.IsListIter it l i) where
 mem:=by simp
 obj:=fun i h st b hb=>by
  obtain ⟨old,e1,o,e2,c,d⟩:=st;rcases zSz.mp hb with r | r
  ·subst r;exact ⟨_,e1,fun v z=>by
    have z':Data.fields _=Data.cell v:=z;cases z'⟩
  ·have r':b=it:=by simpa using r
   subst r';exact ⟨o,e2,fun v z=>by rw [d] at z;cases z⟩
 keep:=fun i h h' st k=>let ⟨old,e1,e2⟩:=st;⟨old,k e (by simp) _ e1,e2.at fun o z=>k it (by simp) o z⟩
 item:=by
  intro X hP hw hK hc i pins s σ H E I hf st hg;subst hP hw hK;obtain ⟨xs,x,hq,hx⟩:=hg;obtain ⟨old,hen,hit⟩:=st;obtain ⟨its,rv,p,hz⟩:=I.list hq;obtain ⟨u,hu,ru⟩:=rv.get hx;obtain ⟨f0,f1,f2,f3,f4,f5⟩:=hf e (by simp);obtain ⟨g0,g1,g2,g3,g4,g5⟩:=hf it (by simp);refine wpAny_pyNext_enum_item hen hit p.isList (x:=u) (by simpa using hu) hne fun h1 heo hit1 ht hz1 hk=>⟨_,rfl,?_⟩;refine wpAny_letOwnedTupleGo_enum heo fun h2 he2 hs2=>?_;replace hs2:Heap.SameBut e h1 h2:=hs2;have hn1:s.heap.objs.size≠e:=zSq (zSP hen);have hn2:s.heap.objs.size≠it:=by
   obtain ⟨o,z,_⟩:=hit;exact zSq (zSP z)
  have old': ∀b q,b≠e->b≠it->s.heap.get? b=some q->h2.get? b=some q:=fun b q hb hb2 z=>(hs2.2 b hb).trans (hk b q hb hb2 z);have new:h2.get? s.heap.objs.size=some {cls:= .type "tuple",data:= .seq #[.int i s.toks,u]}:=(hs2.2 _ hn1).trans ht;obtain ⟨oi,hoi,hci⟩:=id hit;obtain ⟨oj,hoj,hcj⟩:=id hit1;have hoj2:h2.get? it=some oj:=(hs2.2 it (Ne.symm hne)).trans hoj;have I1:Inv X pins σ (upd H s.heap.objs.size (.tup [.int i,x])) {s with heap:=s.heap.push {cls:= .type "tuple",data:= .seq #[.int i s.toks,u]},toks:=s.toks+1}:=
   I.laid (fun b q e=>zSH _ e) (zSJ _) ⟨by show 2<=sizeLine;decide,[.int i s.toks,u],.cons ⟨_,rfl⟩ (.cons ru .nil),_,zSY _ rfl,rfl,⟨_,rfl⟩,rfl⟩
  have I2:=Inv.turnedL (h':=h2) (t':=s.toks+1) (ch:= [e,it]) I1 (fun b q hb z=>by
   have hb1:b≠e:=fun y=>hb (by simp [y]);have hb2:b≠it:=fun y=>hb (by simp [y]);replace z:(s.heap.push {cls:= .type "tuple",data:= .seq #[.int i s.toks,u]}).get? b=some q:=z;by_cases hbs:b=s.heap.objs.size
   ·subst hbs;rw [zSY _ rfl] at z;cases z;exact new
   ·rw [Heap.get?_push_ne _ _ _ hbs] at z;exact old' b q hb1 hb2 z) (fun b hb=>(hf b hb).upd (by
     rcases zSz.mp hb with r | r
     ·subst r;exact Ne.symm hn1
     ·have r':b=it:=by simpa using r
      subst r';exact Ne.symm hn2))
  refine ⟨.ref s.heap.objs.size,_,I2,rfl,⟨_,x,fun ys hy=>by rw [I.list_inj hy hq];exact hx,I.hok.fresh (zSJ _),rfl,rfl⟩,⟨u,?_,oj,hoj2,hcj⟩,fun b hb=>?_⟩
  ·have z:((i+1:Nat):Int)=(i:Int)+1:=by omega
   rw [z];exact he2
  ·rcases zSz.mp hb with r | r
   ·subst r;rw [zI (Ne.symm hn1)];exact f0
   ·have r':b=it:=by simpa using r
    subst r';rw [zI (Ne.symm hn2)];exact g0
 done:=by
  intro X hP hw hK hc i pins s σ H E I hf st hg;subst hP hw hK;obtain ⟨xs,hq,hx⟩:=hg;obtain ⟨old,hen,hit⟩:=st;obtain ⟨its,rv,p,hz⟩:=I.list hq;obtain ⟨g0,g1,g2,g3,g4,g5⟩:=hf it (by simp);have hl:=rv.length;exact wpAny_pyNext_enum_end (I.ok.hd hc) hen hit p.isList (by simp;omega) fun h' eb=>⟨rfl,I.turned (t':=s.toks) (fun b o hb e=>eb b o hb e) g0 g1 g3 g4 g5⟩
 self:=fun A i s Q E st h=>by
  obtain ⟨old,e1,_⟩:=st;exact wpAny_pyIter_enum e1 h
def zNf(K:zSy)(ta:TA):TI:=fun σ H R=>ta σ H fun vs H1=> ∃a,vs= [.ref a] /\(∃xs,SqL K H1 a xs)/\R (Ite K a) H1
theorem zNw{X:Cx}{a:Expr}{ta:TA}{p pos tpos:Pos}{elts:List Expr}{x1}(hg:Gl X "enumerate")(hm:X.mg "enumerate" =none)(ha:PA X [a] ta)(hs:starEach [a] X.env= [(false,eval a X.env)]):
  PI X (.Tuple elts x1 tpos) (.Call (.Name "enumerate" p) [a] [] pos) (zNf X.K ta):=by
 intro pins s σ H R I h;refine Call_ (zBh I hg hm boot_enumerate (PyProof.Rows.callWith_type1 (zS (ha pos pins s σ H _ I h) fun us s1 ⟨vs,H1,I1,r1,q1⟩=>?_) hs rfl));obtain ⟨l,e,⟨xs,hq⟩,q⟩:=q1;subst e;obtain ⟨u,rfl,ru⟩:=yx r1;cases ru;obtain ⟨its,rv,pl,hz⟩:=I1.list hq;refine call_enumerate_list pl.isList fun h' he hit hsz hk=>?_;refine wpAny_pyIter_enum he ?_;refine ⟨_,[s1.heap.objs.size+1,s1.heap.objs.size],_,_,H1,rfl,I1.kept (t':=s1.toks) hk,zKm l _ _ (Nat.succ_ne_self _),⟨_,he,hit⟩,fun b hb=>?_,q⟩;rcases zSz.mp hb with r | r
 ·subst r;exact I1.fpOk (Nat.le_succ _) (I1.hok.fresh (Nat.le_succ _))
 ·have r':b=s1.heap.objs.size:=by simpa using r
  subst r';exact I1.fpOk (zSJ _) (I1.hok.fresh (zSJ _))
theorem zHW{X:Cx}{K:zSy}{a:Expr}{ta:TA}{p pos tpos:Pos}{elts:List Expr}{x1}(hK:X.K=K)(hg:Gl X "enumerate")(hm:X.mg "enumerate" =none)(ha:QA X [a] ta)(h2:yG a=true):
  QI X (.Tuple elts x1 tpos) (.Call (.Name "enumerate" p) [a] [] pos) (zNf K ta):=by
 subst hK;exact ⟨zNw hg hm ha.out (by rw [zh h2];rfl)⟩
section
variable {X:Cx}
theorem zGV: ∀{bs:List Bool} {us:List Value},zN (bs.map V.bl) us->us=bs.map Value.bool
 | [],_,r=>by cases r;rfl
 | b::bs,_,r=>by
  cases r with
  | cons h t=>
   cases h;rw [zGV t];rfl
theorem zLD{bs:List Bool}:(List.range bs.length).all (fun i=>bs.getD i false)=bs.all id:=by
 rw [zTI,List.all_eq_true,List.all_eq_true];constructor
 ·intro h b hb;obtain ⟨i,hi,e⟩:=List.getElem_of_mem hb;have:=h i (List.mem_range.mpr hi);rw [zTG,zSF hi] at this;rw [<-e];exact this
 ·intro h i hi;have hi':=List.mem_range.mp hi;rw [zTG,zSF hi'];exact h _ (zSk hi')
theorem zMo(hc:X.calm=true):yJ X (.builtin "all") (fun xs H Q=> ∃(a:Addr) (bs:List Bool),xs= [.ref a] /\SqL X.K H a (bs.map V.bl)/\Q (.bl (bs.all id)) H):=by
 intro pins s σ H xs us Q I r h;obtain ⟨a,bs,rfl,hq,q⟩:=h;obtain ⟨u,rfl,ru⟩:=yx r;cases ru;obtain ⟨its,rv,p,hz⟩:=I.list hq;have e:=zGV rv;subst e;have hlt:a<s.heap.objs.size:=by
  obtain ⟨o,ho,_⟩:=p.isList;exact zSP ho
 refine call_all_walk (wpAny_pyIter_list p.isList ⟨s.heap.objs.size,_,_,_,_,_,fun i=>bs.getD i false,rfl,Walks.list (show X.A.in1.handled=none from I.ok.hd hc) s.heap.objs.size a (zSN hlt) (bs.map Value.bool).toArray,
  ⟨⟨_,zSY _ rfl,rfl,rfl⟩,p.isList.at fun o z=>zSH _ z⟩,fun i v s' Q' E' hP hQ=>?_,fun h' tk hk=>?_⟩)
 ·have e:v= .bool (bs.getD i false):=by
   have hP':((bs.map Value.bool).toArray)[i]?=some v:=hP;rw [List.getElem?_toArray,zSK] at hP';cases q2:bs[i]? with
   | none=>rw [q2] at hP';cases hP'
   | some b=>
    rw [q2] at hP';rw [zTG,q2];exact (Option.some.inj hP').symm
  subst e;exact zSL hQ
 ·have ez:((bs.map Value.bool).toArray).size=bs.length:=by simp
  refine ⟨.bl (bs.all id),H,?_,?_,q⟩
  ·refine I.kept fun b o z=>hk b o (fun y=>?_) (zSH _ z);have y':b=s.heap.objs.size:=by simpa using y
   exact absurd (y'▸zSP z) (Nat.lt_irrefl _)
  ·show Value.bool _=Value.bool _;rw [ez,zLD]
end
end L2
namespace PySem
theorem zHG{prog:Program}{w:World}{h₀:Heap}{a:Addr}{o:Obj}{es:Array DictEntry}{n:Nat}{kvs:List (PyData×PyData)}{as₁ bs₁:List Addr}(h1:h₀.get? a=some o)(h2:o.cls= .type "dict")(h3:o.data= .dict es n)
  (hsys:(a==sysModules)=false) (h4:ReadsAll h₀ (es.toList.map (·.key)) (kvs.map (·.1)) as₁) (h5:ReadsAll h₀ (es.toList.map (·.val)) (kvs.map (·.2)) bs₁) (hs:(PyData.dict kvs).showable=true)
  (n1:PyData.hasDictAll (kvs.map (·.1))=false) (n2:PyData.hasDictAll (kvs.map (·.2))=false) (hsz:(PyData.dict kvs).shown.length<=sizeLine):ShowsBy prog w h₀ a (.dict kvs) "dict" "dict.__repr__" :=by
 have hz':(dictText (PyData.shownKv kvs)).length<=sizeLine:=by simpa only [PyData.shown] using hsz
 obtain ⟨hs1,hs2⟩:=PyData.showableKv_split kvs (by simpa [PyData.showable] using hs);obtain ⟨b1,hb1,k1⟩:=ReprAllK.of_readsAll (prog:=prog) (w:=w) h4 hs1 (fun z=>by rw [n1] at z;cases z) (fun t ht=>let ⟨p,hp,hl⟩:=PyData.shownKv_key_le kvs t ht;zST hl (zST (dictText_mem_le hp) hz'));obtain ⟨b2,hb2,k2⟩:=ReprAllK.of_readsAll (prog:=prog) (w:=w) h5 hs2 (fun z=>by rw [n2] at z;cases z) (fun t ht=>let ⟨p,hp,hl⟩:=PyData.shownKv_val_le kvs t ht;zST hl (zST (dictText_mem_le hp) hz'));have hb:ReadAtMost h₀ (PyData.depthKv kvs) (b1++b2):=(hb1.mono (PyData.depthAll_keys_le kvs)).append (hb2.mono (PyData.depthAll_vals_le kvs));have hna:a∉b1++b2:=not_mem_of_deeper (.dict h1 h2 h3 h4 h5) (by simp only [PyData.depth];omega) hb;refine ⟨F.slot_dict_repr,F.slot_dict_str,F.slot_dict_format,fun s hk0=>⟨o,hk0 _ _ h1,h2⟩,fun A E s Q hg hu hk0 hQ=>?_⟩;simp only [PyData.depth] at hu;simp only [PyData.shown,PyData.shownKv_eq] at hQ;exact call_dict_reprK h1 h2 h3 hsys hna (ReprEntriesK.of_two es.toList _ _
  (k1.more_le (fun b hb=>List.mem_append_left _ hb) (PyData.depthAll_keys_le kvs)) (k2.more_le (fun b hb=>zSV _ hb) (PyData.depthAll_vals_le kvs))) hg (fun b _=>Clear.nil b) hu hk0 hQ (by rw [<-PyData.shownKv_eq];exact hz')
theorem zMY{prog:Program}{w:World}{h₀:Heap}{a:Addr}{d:PyData}{T idr:String}(S:ShowsBy prog w h₀ a d T idr){A:Around}{E:Value->Shared->Prop}{s:Shared}{Q:Value->Shared->Prop}(hg:A.guards=some [])(hu:A.units+(d.depth+1)<cLine)(hk0: ∀b o,h₀.get? b=some o->s.heap.get? b=some o)
  (hQ: ∀h' u tk,(∀b o,s.heap.get? b=some o->h'.get? b=some o)->Q (.str d.shown u) {s with heap:=h',toks:=tk}):wpAny (model prog w) A (Builtin.Str.strOf (.ref a)) Q E s:=
 wpAny_strOf_slot rfl (by omega) (S.typeIs s hk0) S.slotStr S.slotRepr (S.call A.in1 E s _ hg (by show A.units+1+d.depth<cLine;omega) hk0 fun h' u tk hk=>⟨_,_,rfl,hQ h' u tk hk⟩)
theorem zPW{prog:Program}{w:World}{h₀:Heap}{a:Addr}{d:PyData}(S: ∀(prog:Program) (w:World),∃T idr,ShowsBy prog w h₀ a d T idr){A:Around}{E:Value->Shared->Prop}{s:Shared}{Q:Value->Shared->Prop}(hg:A.guards=some [])(hu:A.units+(d.depth+3)<cLine)(hk0: ∀b o,h₀.get? b=some o->s.heap.get? b=some o)
  (hQ: ∀h' u tk,(∀b o,s.heap.get? b=some o->h'.get? b=some o)->Q (.str d.shown u) {s with heap:=h',toks:=tk}):wpAny (model prog w) A (call (.type "str") [.ref a]) Q E s:=
 callType_new F.called_str (by decide) (F.typeCall_str_1 _) (F.newCall_str_1 _) (fun obj=>F.args_object_init_2 obj _) F.entry_str_new
  (meets_str_new (S:=fun A' R s'=>A'.guards=some [] /\A'.units+(d.depth+2)<cLine/\(∀b o,h₀.get? b=some o->s'.heap.get? b=some o)/\
    ∀h' u tk,(∀b o,s'.heap.get? b=some o->h'.get? b=some o)->R (.ok (.ret (.str d.shown u))) {s' with heap:=h',toks:=tk})
   fun prog' w' A' R s' h=>let ⟨T,idr,S'⟩:=S prog' w';zMY (A:=A'.in1) S' h.1 (by show A'.units+1+(d.depth+1)<cLine;have:=h.2.1;omega) h.2.2.1 h.2.2.2)
  ⟨hg,by show A.units+1+(d.depth+2)<cLine;omega,hk0,fun h' u tk hk=>⟨typeIs_str _ _ _,hQ h' u tk hk⟩⟩
end PySem
namespace L2
open PySem PySem.Spec PyProof.Rows
def Dat(H:Hp):Nat->V->PyData->Prop
 | _,.non,d=>d= .none
 | _,.bl b,d=>d= .bool b
 | _,.int i,d=>d= .int i
 | _,.str x,d=>d= .str x
 | n+1,.ref a,d=>(∃xs ds,d= .list ds/\Rd H a (.lst xs)/\Paired (Dat H n) xs ds)\/ ∃xs ds,d= .tuple ds/\H a=some (.tup xs)/\Paired (Dat H n) xs ds
 | _,_,_=>False
section
variable {X:Cx}{pins:List (Addr×Obj)}{σ:St}{H:Hp}{s:Shared}
theorem zEE{n:Nat}(ih: ∀{x:V} {d:PyData} {u:Value},Dat H n x d->zd x u-> ∃as,Reads s.heap u d as): ∀{xs:List V} {ds:List PyData} {us:List Value},Paired (Dat H n) xs ds->zN xs us-> ∃as,ReadsAll s.heap us ds as
 | [],_,_,h,r=>by
  cases h;cases r;exact ⟨[],.nil⟩
 | x::xs,_,_,h,r=>by
  cases h with
  | cons h1 h2=>
   cases r with
   | cons r1 r2=>
    obtain ⟨a1,q1⟩:=ih h1 r1;obtain ⟨a2,q2⟩:=zEE ih h2 r2;exact ⟨a1++a2,.cons q1 q2⟩
theorem zCg(I:Inv X pins σ H s): ∀(n:Nat) {x:V} {d:PyData} {u:Value},Dat H n x d->zd x u-> ∃as,Reads s.heap u d as
 | n,.non,d,u,h,r=>by
  have h':d= .none:=by cases n<;>exact h
  cases h';cases r;exact ⟨[],.none⟩
 | n,.bl b,d,u,h,r=>by
  have h':d= .bool b:=by cases n<;>exact h
  cases h';cases r;exact ⟨[],.bool b⟩
 | n,.int i,d,u,h,r=>by
  have h':d= .int i:=by cases n<;>exact h
  obtain ⟨t,rfl⟩:=r;cases h';exact ⟨[],.int i t⟩
 | n,.str x,d,u,h,r=>by
  have h':d= .str x:=by cases n<;>exact h
  obtain ⟨t,rfl⟩:=r;cases h';exact ⟨[],.str x t⟩
 | 0,.ref a,d,u,h,r=>h.elim
 | n+1,.ref a,d,u,h,r=>by
  cases r;rcases h with ⟨xs,ds,rfl,e,p⟩|⟨xs,ds,rfl,e,p⟩
  ·obtain ⟨_,its,k,rv,ho⟩:=e.ok I.hok;obtain ⟨as,q⟩:=zEE (fun h r=>zCg I n h r) p rv;exact ⟨_,.list ho rfl rfl (by simpa using q)⟩
  ·obtain ⟨_,its,rv,o,ho,hc,⟨k,hd⟩,_⟩:=(show yL X.prog X.w H s.heap a (.tup xs) from I.hok a _ e);obtain ⟨as,q⟩:=zEE (fun h r=>zCg I n h r) p rv;exact ⟨_,.tuple ho hc hd (by simpa using q)⟩
 | n,.byt _,d,u,h,r=>by cases n<;>exact h.elim
 | n,.flt _,d,u,h,r=>by cases n<;>exact h.elim
 | n,.ty _,d,u,h,r=>by cases n<;>exact h.elim
def kD:Key->PyData
 | .inl i=> .int i
 | .inr x=> .str x
theorem zFe: ∀{es:List DictEntry} {vs:List (Key×Value)},Pairs (zDF X.prog X.w) es vs-> ∃as,ReadsAll s.heap (es.map (·.key)) (vs.map fun p=>kD p.1) as
 | [],_,h=>by cases h;exact ⟨[],.nil⟩
 | e::es,_,h=>by
  cases h with
  | @cons _ kv _ kvs h1 h2 h3=>
   obtain ⟨as,q⟩:=zFe h3;obtain ⟨k,v⟩:=kv;rcases yW (k:=k) (v:=e.key) h1 with ⟨i,t,e1,e2⟩|⟨x,t,e1,e2⟩
   ·refine ⟨[] ++as,.cons ?_ q⟩;show Reads s.heap e.key (kD k) [];rw [e2,e1];exact .int i t
   ·refine ⟨[] ++as,.cons ?_ q⟩;show Reads s.heap e.key (kD k) [];rw [e2,e1];exact .str x t
theorem zFy{n:Nat}(I:Inv X pins σ H s): ∀{es:List DictEntry} {vs:List (Key×Value)} {kvs:List (Key×V)} {ds:List PyData},Pairs (zDF X.prog X.w) es vs->KV kvs vs->Paired (fun (p:Key×V) d=>Dat H n p.2 d) kvs ds->
  ∃as,ReadsAll s.heap (es.map (·.val)) ds as
 | [],_,_,_,h,r,p=>by
  cases h;unfold KV at r;cases r;cases p;exact ⟨[],.nil⟩
 | e::es,_,_,_,h,r,p=>by
  cases h with
  | @cons _ kv _ kvs' h1 h2 h3=>
   unfold KV at r;cases r with
   | cons r1 r2=>
    cases p with
    | cons p1 p2=>
     obtain ⟨as,q⟩:=zFy (n:=n) I h3 r2 p2;obtain ⟨b,q1⟩:=zCg I n p1 r1.2;refine ⟨b++as,.cons ?_ q⟩;show Reads s.heap e.val _ b;rw [h2];exact q1
theorem zJU(H:Hp): ∀(n:Nat) {x:V} {d:PyData},Dat H n x d->d.hasDict=false:=by
 have all: ∀{n:Nat},(∀{x:V} {d:PyData},Dat H n x d->d.hasDict=false)-> ∀{xs:List V} {ds:List PyData},Paired (Dat H n) xs ds->PyData.hasDictAll ds=false:=by
  intro n ih xs ds p
  induction p with
  | nil=>simp only [PyData.hasDictAll]
  | cons h _ q=>simp only [PyData.hasDictAll,ih h,q,Bool.or_false]
 intro n
 induction n with
 | zero=>
  intro x d h;cases x<;>first | exact h.elim |(cases (show d=_ from h);simp only [PyData.hasDict])
 | succ n ih=>
  intro x d h;cases x with
  | ref a=>
   rcases h with ⟨xs,ds,rfl,e,p⟩|⟨xs,ds,rfl,e,p⟩
   ·simp only [PyData.hasDict];exact all ih p
   ·simp only [PyData.hasDict];exact all ih p
  | byt b=>exact h.elim
  | flt b=>exact h.elim
  | ty b=>exact h.elim
  | _=>cases (show d=_ from h);simp only [PyData.hasDict]
theorem zMR{H:Hp}{n:Nat}{kvs:List (Key×V)}{ds:List PyData}(p:Paired (fun (p:Key×V) d=>Dat H n p.2 d) kvs ds):PyData.hasDictAll ds=false:=by
 induction p with
 | nil=>simp only [PyData.hasDictAll]
 | cons h _ q=>simp only [PyData.hasDictAll,zJU H n h,q,Bool.or_false]
theorem zGL: ∀ks:List Key,PyData.hasDictAll (ks.map kD)=false
 | [] =>by simp only [List.map_nil,PyData.hasDictAll]
 | .inl i::ks=>by simp only [zTD,PyData.hasDictAll,kD,PyData.hasDict,zGL ks,Bool.or_false]
 | .inr i::ks=>by simp only [zTD,PyData.hasDictAll,kD,PyData.hasDict,zGL ks,Bool.or_false]
def dD(kvs:List (Key×V))(ds:List PyData):PyData:= .dict ((kvs.map fun p=>kD p.1).zip ds)
theorem zLT(hg:X.A.guards=some []){m:Nat}(hu:X.A.units+(m+3)<cLine):yJ X (.type "str") (fun xs H Q=> ∃a kvs ds n,xs= [.ref a] /\Rd H a (.dK kvs)/\Paired (fun (p:Key×V) d=>Dat H n p.2 d) kvs ds/\
  (dD kvs ds).showable=true/\(dD kvs ds).shown.length<=sizeLine/\(dD kvs ds).depth<=m/\Q (.str (dD kvs ds).shown) H):=by
 intro pins s σ H xs us Q I r h;obtain ⟨a,kvs,ds,n,rfl,e,p,sh,sz,dp,q⟩:=h;obtain ⟨u,rfl,ru⟩:=yx r;cases ru;obtain ⟨z,hs,vs,rel,o,es,ep,ho,hc,hd,hk,hp,hn⟩:=zRV I.hok e;obtain ⟨as1,q1⟩:=zFe (X:=X) (s:=s) hp;obtain ⟨as2,q2⟩:=zFy I hp rel p;have ek:vs.map (fun p=>kD p.1)=kvs.map fun p=>kD p.1:=by
  have:=KV.keys rel;have z1:(kvs.map (·.1)).map kD=(vs.map (·.1)).map kD:=by rw [this]
  rw [List.map_map,List.map_map] at z1;exact z1.symm
 have hl:(kvs.map fun p=>kD p.1).length=ds.length:=by
  rw [zSM];exact Paired.length p
 have f1:((kvs.map fun p=>kD p.1).zip ds).map (·.1)=kvs.map fun p=>kD p.1:=List.map_fst_zip (Nat.le_of_eq hl);have f2:((kvs.map fun p=>kD p.1).zip ds).map (·.2)=ds:=List.map_snd_zip (Nat.le_of_eq hl.symm);refine zPW (h₀:=s.heap) (d:=dD kvs ds) (fun prog w=>⟨_,_,zHG (as₁:=as1) (bs₁:=as2) ho hc.1 hd hs (by rw [f1,<-ek];exact q1) (by rw [f2];exact q2) sh ?_ ?_ sz⟩) hg (by omega) (fun _ _ z=>z) fun h' t tk hk'=>⟨.str _,H,I.kept hk',⟨t,rfl⟩,q⟩
 ·rw [f1];have:=zGL (kvs.map (·.1));rw [List.map_map] at this;exact this
 ·rw [f2];exact zMR p
end
end L2
namespace PySem
open PyProof.Rows
section
variable {prog:Program}{w:World}{K:Type}[DecidableEq K]{knd:KeyKind prog w K}{A:Around}{E:Value->Shared->Prop}{s:Shared}
end
end PySem
namespace L2
open PySem PySem.Spec PyProof.Rows
section
variable {X:Cx}
def zDz:V->Bool
 | .int _=>true
 | .str _=>true
 | _=>false
theorem zLL{A:Around}{s:Shared}{x:V}{u v:Value}(f:zDz x=true)(ru:zd x u)(rv:zd x v):SeqAt.EqAt A s u v true:=by
 cases x with
 | int i=>
  obtain ⟨t,rfl⟩:=ru;obtain ⟨t',rfl⟩:=rv;have z:=SeqAt.EqAt.int_int (A:=A) (s:=s) i t i t';simpa using z
 | str i=>
  obtain ⟨t,rfl⟩:=ru;obtain ⟨t',rfl⟩:=rv;have z:=SeqAt.EqAt.str_str (A:=A) (s:=s) i t i t';simpa using z
 | _=>cases f
theorem zFo{A:Around}{s:Shared}{xs:List V}{us vs:List Value}(f: ∀x∈xs,zDz x=true)(ru:zN xs us)(rv:zN xs vs):
  ∀j (h1:j<us.toArray.size) (h2:j<vs.toArray.size),SeqAt.EqAt A s us.toArray[j] vs.toArray[j] true:=by
 intro j h1 h2;have j1:j<us.length:=by simpa using h1
 have j2:j<vs.length:=by simpa using h2
 have l1:=ru.length;have a1:xs[j]?=some xs[j] :=zSF (by omega);obtain ⟨u1,b1,c1⟩:=ru.get a1;obtain ⟨u2,b2,c2⟩:=rv.get a1;have d1:us[j] =u1:=by rw [zSF j1] at b1;exact Option.some.inj b1
 have d2:vs[j] =u2:=by rw [zSF j2] at b2;exact Option.some.inj b2
 have w:=zLL (A:=A) (s:=s) (f _ (zSk (by omega))) c1 c2;simpa [d1,d2] using w
end
end L2
namespace PySem
open PyProof.Rows
section
variable {prog:Program}{w:World}{K:Type}[DecidableEq K]{knd:KeyKind prog w K}{A:Around}{E:Value->Shared->Prop}{s:Shared}
end
section
variable {prog:Program}{w:World}{K:Type}[DecidableEq K]{knd:KeyKind prog w K}{A:Around}{R:Result->Shared->Prop}{d it l:Addr}{items:Array Value}{ps:List (K×Value)}
end
section
variable {prog:Program}{w:World}{K:Type}[DecidableEq K]{knd:KeyKind prog w K}{A:Around}{E:Value->Shared->Prop}{s:Shared}
end
end PySem
namespace L2
open PySem PySem.Spec PyProof.Rows
section
variable {X:Cx}
end
section
variable {X:Cx}{K:zSy}{o i e f value:Expr}{td ty tx tv:TE}{pos pos' apos cpos:Pos}
theorem zBF(hK:X.K=K)(hc:X.calm=true):yJ X (.builtin "all") (fun xs H Q=> ∃(a:Addr) (bs:List Bool),xs= [.ref a] /\SqL K H a (bs.map V.bl)/\Q (.bl (bs.all id)) H):=by
 subst hK;exact zMo hc
theorem zBv(hK:X.K=K):yJ X (.type "list") (fun xs H Q=> ∃p ys,xs= [.ref p] /\(SqL K H p ys\/SqT K H p ys)/\ ∀l,H l=none->Q (.ref l) (upd H l (.lst ys))):=by
 subst hK;exact zIY
end
def zNZ(ns:List (Str×NameKind))(cl:List (Str×Addr)):Bool:=ns.all fun p=>match p.2 with
 | .cell=>(cl.lookup p.1).isSome
 | .free=>(cl.lookup p.1).isSome
 | _=>true
theorem zDY{κ β:Type}[BEq κ][LawfulBEq κ]{y:κ}{b:β}: ∀{l:List (κ×β)},l.lookup y=some b->(y,b)∈l
 | [],h=>by cases h
 |(z,c)::l,h=>by
  rw [List.lookup_cons] at h;split at h
  ·rename_i q
   have:y=z:=by simpa using q
   cases h;rw [this];exact List.mem_cons_self
  ·exact zSm _ (zDY h)
theorem zQ{ns:List (Str×NameKind)}{cl:List (Str×Addr)}(h:zNZ ns cl=true): ∀y,(ns.lookup y=some .cell\/ns.lookup y=some .free)-> ∃a,cl.lookup y=some a:=by
 intro y hy;unfold zNZ at h;rw [List.all_eq_true] at h;rcases hy with e | e
 ·exact Option.isSome_iff_exists.mp (h (y,.cell) (zDY e))
 ·exact Option.isSome_iff_exists.mp (h (y,.free) (zDY e))
theorem fr1{Pp:Str->Nat->Prop}{y:Str}{i:Nat}(h:Pp y i): ∀(j:Nat) (y':Str) (i':Nat),[y][j]?=some y'-> [i][j]?=some i'->Pp y' i':=by
 intro j y' i' h1 h2;cases j with
 | zero=>cases h1;cases h2;exact h
 | succ j=>simp at h1
section
variable {g:TG}{tt:TT}{te:TE}{n:Nat}{fr:List Nat}{σ:St}{H:Hp}{Q:VK}{J:It}
theorem zDR(D:Addr)(len:Nat)(Pv:Nat->List V->Hp->Prop)(h0:Pv 0 [] (upd H D (.lst [])))(hb:len<=sizeLine)
  (hk: ∀i ys H',i<=len->Pv i ys H'->ys.length<=i/\H' D=some (.lst ys)/\(i<len->J.go i H')/\(i=len->J.stop i H'))
  (hs: ∀i ys H' x H'',i<len->Pv i ys H'->J.yld i H' x H''->zEq g tt te n (zY fr σ) D x ys H'' (Pv (i+1))) (hd: ∀ys H',Pv len ys H'->Q (.ref D) H'):
  ∃W:Nat->Nat->List V->Hp->Prop,(∃m,W 0 m [] (upd H D (.lst [])))/\ ∀i m ys H',W i m ys H'->H' D=some (.lst ys)/\((J.stop i H'/\Q (.ref D) H')\/(J.go i H'/\ys.length<sizeLine/\ ∃N:List V->Hp->Prop,(∀ys' H',N ys' H'-> ∃m',m'<m/\W (i+1) m' ys' H')/\
   ∀x H'',J.yld i H' x H''-> ∀pre:St,pre.length=n->g x (pre++zY fr σ) H'' fun σ2 H2=>(∃zi:St,zi.length=n/\σ2=zi++zY fr σ)/\
    tt σ2 H2 fun b H3=>if b=true then te σ2 H3 fun y H4=>H4 D=some (.lst ys)/\N (ys++ [y]) (upd H4 D (.lst (ys++ [y]))) else N ys H3)):=by
 refine ⟨fun i m ys H'=>i<=len/\m=len - i/\Pv i ys H',⟨_,zSU _,rfl,h0⟩,?_⟩;rintro i m ys H' ⟨hi,rfl,p⟩;obtain ⟨hl,hD,hgo,hst⟩:=hk i ys H' hi p;refine ⟨hD,?_⟩;by_cases hlt:i<len
 ·refine .inr ⟨hgo hlt,by omega,Pv (i+1),fun ys' H'' q=>⟨len -(i+1),by omega,hlt,rfl,q⟩,?_⟩;intro x H'' hy;exact hs i ys H' x H'' hlt p hy
 ·have e:i=len:=by omega
  subst e;exact .inl ⟨hst rfl,hd ys H' p⟩
theorem zOB{tb:TS}{D:Ends}(len:Nat)(Pv:Nat->St->Hp->Prop)(h0:Pv 0 σ H)(hgo: ∀i σ H,i<len->Pv i σ H->J.go i H)(hst: ∀σ H,Pv len σ H->J.stop len H)
  (hs: ∀i σ H x H',i<len->Pv i σ H->J.yld i H x H'->g x σ H' fun σ2 H2=>tb {D with nx:=Pv (i+1),ct:=Pv (i+1),bk:=D.nx} σ2 H2) (hd: ∀σ H,Pv len σ H->D.nx σ H):
  ∃W:Nat->Nat->St->Hp->Prop,(∃m,W 0 m σ H)/\ ∀i m σ H,W i m σ H->
   (J.stop i H/\D.nx σ H)\/(J.go i H/\ ∃N:St->Hp->Prop,(∀σ' H',N σ' H'-> ∃m',m'<m/\W (i+1) m' σ' H')/\ ∀x H',J.yld i H x H'->g x σ H' fun σ2 H2=>tb {D with nx:=N,ct:=N,bk:=D.nx} σ2 H2):=by
 refine ⟨fun i m σ H=>i<=len/\m=len - i/\Pv i σ H,⟨_,zSU _,rfl,h0⟩,?_⟩;rintro i m σ H ⟨hi,rfl,p⟩;by_cases hlt:i<len
 ·exact .inr ⟨hgo i σ H hlt p,Pv (i+1),fun σ' H' q=>⟨len -(i+1),by omega,hlt,rfl,q⟩,fun x H' hy=>hs i σ H x H' hlt p hy⟩
 ·have e:i=len:=by omega
  subst e;exact .inl ⟨hst σ H p,hd σ H p⟩
end
def zRr(wi:TI):TI:=fun σ H R=> ∃Rs:It->Hp->Prop,wi σ H Rs/\ ∀J H1,Rs J H1->R J H1
theorem zFa{X:Cx}{tg iter:Expr}{wi:TI}(h:QI X tg iter wi):QI X tg iter (zRr wi):=by
 refine ⟨fun pins s σ H R I ⟨Rs,h1,h2⟩=>?_⟩;refine zS (h.out pins s σ H Rs I h1) fun v s1 q=>zS q fun itv s2 q2=>?_;obtain ⟨it,fp,tn,J,H',a1,a2,a3,a4,a5,a6⟩:=q2;exact ⟨it,fp,tn,J,H',a1,a2,a3,a4,a5,h2 J H' a6⟩
structure CompInv(J:It)(g:TG)(tt:TT)(te:TE)(n:Nat)(suf:St)(H:Hp)(D:Addr)(Q:VK):Prop where
 ex: ∃(len:Nat) (Pv:Nat->List V->Hp->Prop),Pv 0 [] (upd H D (.lst []))/\len<=sizeLine/\(∀i ys H',i<=len->Pv i ys H'->ys.length<=i/\H' D=some (.lst ys)/\(i<len->J.go i H')/\(i=len->J.stop i H'))/\
  (∀i ys H' x H'',i<len->Pv i ys H'->J.yld i H' x H''->zEq g tt te n suf D x ys H'' (Pv (i+1)))/\ ∀ys H',Pv len ys H'->Q (.ref D) H'
theorem zV{J:It}{g:TG}{tt:TT}{te:TE}{n:Nat}{suf:St}{H:Hp}{D:Addr}{Q:VK}(len:Nat)(Pv:Nat->List V->Hp->Prop)(h0:Pv 0 [] (upd H D (.lst [])))(hb:len<=sizeLine)
  (hk: ∀i ys H',i<=len->Pv i ys H'->ys.length<=i/\H' D=some (.lst ys)/\(i<len->J.go i H')/\(i=len->J.stop i H'))
  (hs: ∀i ys H' x H'',i<len->Pv i ys H'->J.yld i H' x H''->zEq g tt te n suf D x ys H'' (Pv (i+1))) (hd: ∀ys H',Pv len ys H'->Q (.ref D) H'):CompInv J g tt te n suf H D Q:=⟨len,Pv,h0,hb,hk,hs,hd⟩
def zHh(wi:TI)(g:TG)(tt:TT)(te:TE)(n:Nat)(fr:List Nat):TE:=fun σ H Q=>wi σ H fun J H1=> ∀D,H1 D=none->CompInv J g tt te n (zY fr σ) H1 D Q
theorem zj{X:Cx}{elt iter tg:Expr}{ifs:List Expr}(zs:List Str){pos:Pos}{scope:Scope}{cl:List (Str×Addr)}(ys:List Str)(fr:List Nat){wi:TI}{g:TG}{tt:TT}{te:TE}(hcm:X.calm=true)
  (hi:QI X tg iter wi) (hclos:closureFor scope X.env=pure cl) (hcell: ∀y∈scope.names,y.2≠ .cell) (hkind:scope.kind= .function) (hnames: ∀y∈scope.names,y.2= .local->scope.names.lookup y.1=some .local)
  (hcl: ∀y a,cl.lookup y=some a->X.env.cells.lookup y=some a)
  (hlen:ys.length=fr.length) (hfr: ∀(j:Nat) y i,ys[j]?=some y->fr[j]?=some i->X.N[i]?=some y/\X.env.kindOf y=some .cell/\(relabel scope X.env).names.lookup y=some .cell/\ ∃a,cl.lookup y=some a/\X.env.cells.lookup y=some a)
  (hhas: ∀y,((relabel scope X.env).names.lookup y=some .cell\/(relabel scope X.env).names.lookup y=some .free)-> ∃a,cl.lookup y=some a)
  (hg: ∀C s₂ H₂ fp,QG (X.comp scope cl C (zs++ys) s₂ H₂ fp) tg g) (hc: ∀C s₂ H₂ fp,QTs (X.comp scope cl C (zs++ys) s₂ H₂ fp) ifs tt) (he: ∀C s₂ H₂ fp,QE (X.comp scope cl C (zs++ys) s₂ H₂ fp) elt te) (hs: ∀v,foldedSetIterable iter X.env v=pure v):
  QE X (.ListComp elt [⟨tg,iter,ifs,0⟩] scope pos) (zHh wi g tt te zs.length fr):=
 zNr (zON zs ys fr hcm (zFa hi) hclos hcell hkind hnames hcl hlen hfr hhas hg hc he hs) fun σ H Q h=>⟨_,h,fun J H1 h1 D hD=>by
  obtain ⟨len,Pv,a0,a1,a2,a3,a4⟩:=(h1 D hD).ex;exact zDR D len Pv a0 a1 a2 a3 a4⟩
structure ForInv(J:It)(g:TG)(tb:TS)(D:Ends)(σ:St)(H:Hp):Prop where
 ex: ∃(len:Nat) (Pv:Nat->St->Hp->Prop),Pv 0 σ H/\(∀i σ H,i<len->Pv i σ H->J.go i H)/\(∀σ H,Pv len σ H->J.stop len H)/\
  (∀i σ H x H',i<len->Pv i σ H->J.yld i H x H'->g x σ H' fun σ2 H2=>tb {D with nx:=Pv (i+1),ct:=Pv (i+1),bk:=D.nx} σ2 H2)/\ ∀σ H,Pv len σ H->D.nx σ H
theorem zAH{J:It}{g:TG}{tb:TS}{D:Ends}{σ:St}{H:Hp}(len:Nat)(Pv:Nat->St->Hp->Prop)(h0:Pv 0 σ H)(hgo: ∀i σ H,i<len->Pv i σ H->J.go i H)(hst: ∀σ H,Pv len σ H->J.stop len H)
  (hs: ∀i σ H x H',i<len->Pv i σ H->J.yld i H x H'->g x σ H' fun σ2 H2=>tb {D with nx:=Pv (i+1),ct:=Pv (i+1),bk:=D.nx} σ2 H2) (hd: ∀σ H,Pv len σ H->D.nx σ H):ForInv J g tb D σ H:=⟨len,Pv,h0,hgo,hst,hs,hd⟩
def zRX(wi:TI)(g:TG)(tb:TS):TS:=fun D σ H=>wi σ H fun J H1=>ForInv J g tb D σ H1
theorem zAd{X:Cx}{tg iter:Expr}{b1:List Stmt}{pos:Pos}{wi:TI}{g:TG}{u:TS}(hp:PassesOwn (model X.prog X.w) X.A X.env X.xe)(hc:X.calm=true)(hi:QI X tg iter wi)(hg:QG X tg g)(hb:QB X b1 u)(hs: ∀x,foldedSetIterable iter X.env x=pure x):QS X (.For tg iter b1 [] pos) (zRX wi g u):=by
 have h:=zRh (pos:=pos) hp hc (zFa hi) hg hb hs;refine ⟨fun pins s σ H D I ht=>h.out pins s σ H D I ⟨_,ht,fun J H1 h1=>?_⟩⟩;obtain ⟨len,Pv,a0,a1,a2,a3,a4⟩:=h1.ex;exact zOB len Pv a0 a1 a2 a3 a4
theorem zCu{X:Cx}{b:List Stmt}:QB X b zLW:=⟨zLl⟩
inductive StrA (H:Hp):V->Str->Prop
 | non:StrA H .non "None"
 | int (i:Int) (h:i.natAbs.log2<1920):StrA H (.int i) (toString i)
 | str (x:Str):StrA H (.str x) x
 | dat {a:Addr} {n:Nat} {d:PyData} (e:Dat H n (.ref a) d) (sh:d.showable=true) (sz:d.shown.length<=sizeLine) (dp:d.depth<=8):StrA H (.ref a) d.shown
 | dict {a:Addr} {kvs:List (Key×V)} {ds:List PyData} {n:Nat} (e:Rd H a (.dK kvs)) (p:Paired (fun (p:Key×V) d=>Dat H n p.2 d) kvs ds) (sh:(dD kvs ds).showable=true) (sz:(dD kvs ds).shown.length<=sizeLine) (dp:(dD kvs ds).depth<=8):StrA H (.ref a) (dD kvs ds).shown
section
variable {X:Cx}
theorem zCc(hg:X.A.guards=some [])(hu:X.A.units+11<cLine):yJ X (.type "str") (fun xs H Q=> ∃x t,xs= [x] /\StrA H x t/\Q (.str t) H):=by
 intro pins s σ H xs us Q I r h;obtain ⟨x,t,rfl,h,q⟩:=h;cases h with
 | non=>
  obtain ⟨u,rfl,r1⟩:=yx r;cases r1;exact PySem.P.str_of_none ⟨.str _,H,I.tok _,⟨_,rfl⟩,q⟩
 | int i hz=>exact zIE pins s σ H _ us Q I r ⟨i,rfl,hz,q⟩
 | str x=>
  obtain ⟨u,rfl,t,rfl⟩:=yx r;exact PySem.P.str_of_str ⟨.str _,H,I,⟨_,rfl⟩,q⟩
 | @dat a n d e sh sz dp=>
  obtain ⟨u,rfl,ru⟩:=yx r;obtain ⟨as,rd⟩:=zCg I n e ru;cases ru;refine str_of_reads rd sh (fun z=>?_) hg (by omega) (fun _ _ z=>z) (fun h' t tk hk'=>⟨.str _,H,I.kept hk',⟨t,rfl⟩,q⟩) sz;rw [zJU H n e] at z;cases z
 | @dict a kvs ds n e p sh sz dp=>exact zLT hg (m:=8) hu pins s σ H _ us Q I r ⟨a,kvs,ds,n,rfl,e,p,sh,sz,dp,q⟩
end
section
variable {H H':Hp}{d:Addr}{kvs:List (Key×V)}
end
section
variable {X:Cx}
structure QO(X:Cx)(e:Option Expr)(t:TO):Prop where
 out:PO X e t
theorem zAp:QO X none zJV:=⟨zOQ⟩
theorem zAj{e:Expr}{te:TE}(h:QE X e te):QO X (some e) (zNo te):=⟨zNu h.out⟩
section
variable {K:zSy}{o e:Expr}{to te:TE}{apos cpos:Pos}
def zQn(K:zSy)(b:Bool):R2:=fun x y H Q=> ∃p q xs,x= .ref p/\y= .ref q/\SqL K H p xs/\SqL K H q xs/\(∀x∈xs,zDz x=true)/\Q (.bl b) H
theorem zOy(hK:X.K=K)(hu:X.A.units<cLine):OpR X (compareOp .NotEq) (zQn K false):=by
 subst hK;intro pins s σ H x y v u Q I rx ry h;obtain ⟨p,q,xs,rfl,rfl,h1,h2,f,hq⟩:=h;cases rx;cases ry;obtain ⟨us,r1,t1,_⟩:=I.list h1;obtain ⟨vs,r2,t2,_⟩:=I.list h2;have l1:=r1.length;have l2:=r2.length;have es:us.toArray.size=vs.toArray.size:=by simp;omega
 have z:=SeqAt.RcNeAt.lists (A:=X.A) (e:=fun _=>true) t1.isList t2.isList es hu (zFo f r1 r2);rw [zFB] at z;refine z _ _ _ _ ?_;exact ⟨.bl false,H,I,rfl,hq⟩
end
section
variable {CX:CXT}{k:Nat}{f C:Addr}{fd:FuncData}{ps:List Str}{sp:Sp}{dvs:List V}{ds:List Value}{E:XK}{Es:St->XK}{x m:Str}{p pos apos:Pos}{e o:Expr}{es:List Expr}{ta:TE}{t:TA}{pl:Sem Bool}
theorem zLI(he:QE X o ta)(c:Cls X.K C)(hm:Meth X.K C m f)(F:FnOk X.prog X.w X.K X.mg X.base CX k f fd ps sp)(hr:Room k X.A)(hb:zK X.K fd ps ds)(hd:zN dvs ds)(hx:zAg CX X E)(ha:QA X (e::es) t)
  (h2:yG e=true) (h3:yn es=true)
  (ht:eval (.Call (.Attribute o m apos) (e::es) [] pos) X.env=(do
   let ov<-eval o X.env
   standAt apos.atName
   let (f,first)<-holding [ov] (getMethod ov m pl)
   callWith pos f first (backTo pos (starEach (e::es) X.env)) (backToKw pos (keywordEach [] X.env)))):
  QE X (.Call (.Attribute o m apos) (e::es) [] pos) (zHJ C m sp dvs E ta t):=⟨zOl he.out c hm F hr hb hd hx ha.out (zh h2) (yz h3) ht⟩
end
section
variable {pos:Pos}
end
end
section
variable {P:Program}{w:World}{K:zSy}{mg:Str->Option Value}{base:Heap}
end
section
variable {X:Cx}{k:Nat}{f:Addr}{fd:FuncData}{ps:List Str}{sp:Sp}{x:Str}{p pos:Pos}{e:Expr}{es:List Expr}{t:TA}
end
end L2
namespace PySem
open PyProof.Rows
section
variable {prog:Program}{w:World}{A:Around}{E:Value->Shared->Prop}{s:Shared}
end
end PySem
namespace PySem
open PyProof.Rows
section
variable {prog:Program}{w:World}{A:Around}{R:Result->Shared->Prop}{I:Addr}{fp wr:List Addr}{G:Array GenState->Array GenState->Prop}{n:Nat}{P:Nat->Value->Prop}{St:Nat->Shared->Prop}
end
section
variable {prog:Program}{w:World}{A:Around}{E:Value->Shared->Prop}{s:Shared}
def zAs(w:World):Obj:={cls:= .type "set",dict:=none,data:= .set #[] 0 (.fresh 0 0 (!w.params.followText "set-order"))}
theorem zId(a:Value){Q₁:Value->Shared->Prop}(h:Q₁ (.ref s.heap.objs.size) {s with heap:=s.heap.push (zAs w)}):
  codeAny (model prog w) A (.call (.builtin "set.__new__") ⟨[.type "set",a],[]⟩) (wants Q₁ E) s:=by
 refine codeAny_of_tree ?_;show wpAny _ A.in1 (checkBuiltinCall "set.__new__" ⟨[.type "set",a],[]⟩>>=fun _=>again (.builtin "set.__new__" ⟨[.type "set",a],[]⟩)) _ _ s;refine zSG (wpAny_of_eq (F.newCall_set_1 a) (zSL ⟨plainId_quiet F.plain_set_new _,codeAny_builtin F.entry_set_new ?_⟩));rw [Around.under_plainId F.plain_set_new _];unfold Builtin.«set.__new__» Builtin.Frozenset.newClass;have hsub:=sub_set_self;obtain ⟨hp,g,d,tk,os⟩:=s;dsimp only
 wp_walk
 refine wpAny_askSetting (zSL ?_);dsimp only;simp only [newObj];exact zSG (wpAny_alloc (zSL (zSL h)))
end
end PySem
namespace PySem.F
theorem slot_seti_next:Slot "set_iterator" "__next__" "set_iterator.__next__" :=Slot.of (owner:= "set_iterator") (n:= "__next__") (by rw [typeLookup_type,builtinLookup_eq_fast];kernel_rfl) (by decide+kernel) (by decide+kernel) (by decide+kernel) (by first | exact .inl (by decide+kernel)| exact .inr (by decide+kernel)) (by rw [isSubtype_type];kernel_rfl)
theorem slot_seti_iter:Slot "set_iterator" "__iter__" "set_iterator.__iter__" :=Slot.of (owner:= "set_iterator") (n:= "__iter__") (by rw [typeLookup_type,builtinLookup_eq_fast];kernel_rfl) (by decide+kernel) (by decide+kernel) (by decide+kernel) (by first | exact .inl (by decide+kernel)| exact .inr (by decide+kernel)) (by rw [isSubtype_type];kernel_rfl)
theorem entry_seti_next:entryFor table "set_iterator.__next__" =some Builtin.«set_iterator.__next__»:=entryFor_of_tree (by kernel_rfl)
theorem entry_seti_iter:entryFor table "set_iterator.__iter__" =some Builtin.«dict_keyiterator.__iter__»:=entryFor_alias (id':= "dict_keyiterator.__iter__") (by kernel_rfl) rfl (by decide+kernel) (by kernel_rfl)
theorem entry_seta_iter:entryFor table "set.__iter__" =some Builtin.«frozenset.__iter__»:=entryFor_alias (id':= "frozenset.__iter__") (by kernel_rfl) rfl (by decide+kernel) (by kernel_rfl)
theorem args_seti_next(a:Value):argsOk "set_iterator.__next__" ⟨[a],[]⟩:=by unfold argsOk;kernel_rfl
theorem args_seti_iter(a:Value):argsOk "set_iterator.__iter__" ⟨[a],[]⟩:=by unfold argsOk;kernel_rfl
end PySem.F
namespace PySem
open PyProof.Rows
theorem zDO{α:Type}: ∀{xs:List α} {i:Nat} (h:i<xs.length),(xs[i] ::xs.eraseIdx i).Perm xs
 | x::xs,0,_=> .rfl
 | x::xs,i+1,h=>by
  show (xs[i]'(Nat.lt_of_succ_lt_succ h)::x::xs.eraseIdx i).Perm (x::xs);exact (List.Perm.swap _ _ _).trans ((zDO (Nat.lt_of_succ_lt_succ h)).cons x)
theorem zOv{α:Type}(next:Nat->Nat): ∀(fuel k:Nat) (left:List α) (out:Array α),left.length=fuel->(pickOrder.go next fuel k left out).toList.Perm (out.toList++left):=by
 intro fuel
 induction fuel with
 | zero=>
  intro k left out h;have:left= [] :=List.eq_nil_of_length_eq_zero h;subst this;unfold pickOrder.go;rw [zSg]
 | succ fuel ih=>
  intro k left out h;unfold pickOrder.go;have hlt:next k % left.length<left.length:=Nat.mod_lt _ (by omega)
  rw [zSF hlt];dsimp only;refine (ih (k+1) _ _ (by rw [List.length_eraseIdx,if_pos hlt];omega)).trans ?_;rw [Array.toList_push,List.append_assoc];exact List.Perm.append_left _ (zDO hlt)
theorem zLR{α:Type}(next:Nat->Nat)(xs:Array α):(pickOrder next xs).toList.Perm xs.toList:=by
 have z:=zOv next xs.size 0 xs.toList #[] (by simp)
 unfold pickOrder;simpa using z
section
variable {prog:Program}{w:World}{A:Around}{E:Value->Shared->Prop}{s:Shared}
theorem zHB{M:Model}{src:Source}{n:Nat}{Q:Nat->Shared->Prop}(hn:n≠0)(h: ∀i d,i<n->Q i {s with drawn:=d}):wpAny M A (choose src n) Q E s:=
 fun _ _ _=>⟨hn,h _ _ (Nat.mod_lt _ (Nat.pos_of_ne_zero hn))⟩
theorem zFp{M:Model}{α:Type}: ∀(n:Nat) (xs:List α) (s:Shared) (Q:List α->Shared->Prop),xs.length=n->(∀ys d,ys.Perm xs->Q ys {s with drawn:=d})->wpAny M A (drawOrder n xs) Q E s
 | 0,[],s,Q,_,h=>zSL (h [] s.drawn .nil)
 | 0,_::_,_,_,e,_=>by cases e
 | n+1,[],_,_,e,_=>by cases e
 | n+1,x::xs,s,Q,e,h=>by
  unfold drawOrder;refine zSG (zHB (by simp) fun i d hi=>?_);rw [zSF hi];dsimp only;refine zSG (zFp n _ _ _ (by rw [List.length_eraseIdx,if_pos hi];simpa using e) fun ys d' hp=>zSL ?_);exact h _ d' ((hp.cons _).trans (zDO hi))
end
end PySem
namespace PySem
open PyProof.Rows
section
variable {prog:Program}{w:World}{A:Around}{E:Value->Shared->Prop}{s:Shared}{it a tp:Addr}{es:Array (Int×Value)}{ep:Nat}{t:SetTable}{order:List Nat}{vals:List Value}{i:Nat}
theorem zEA{oa:Obj}{slot:Nat}{Q:Option (Value×Nat)->Shared->Prop}(hoa:s.heap.get? a=some oa)(hda:oa.data= .set es ep t)(hf:t.fits es.size=true)(ht:w.params.followText "set-order" =true)
  (h:Q (((pickOrder (w.params.setOrder a ep) es)[i]?).map fun e=>(e.2,slot)) s):wpAny (model prog w) A (setNext a slot i ep) Q E s:=by
 unfold setNext;refine zSG (wpAny_setState_of hoa hda hf ?_);dsimp only;unfold setsByText;refine zSG (zSG (wpAny_askSetting (zSL ?_)));rw [if_pos (show ((⟨(model prog w).prog,(model prog w).w.params⟩:Setting).params.followText "set-order")=true from ht)];rw [if_neg (by simp)];unfold setWalk;refine zSG (zSG (wpAny_setState_of hoa hda hf ?_));dsimp only;unfold setsByText;refine zSG (zSG (wpAny_askSetting (zSL ?_)));rw [if_pos (show ((⟨(model prog w).prog,(model prog w).w.params⟩:Setting).params.followText "set-order")=true from ht)];refine zSG (wpAny_askSetting (zSL ?_));exact zSL h
theorem zHb{Q:Option Value->Shared->Prop}(hh:A.handled=none)(h: ∀h',(∀b o,s.heap.get? b=some o->h'.get? b=some o)->Q none {s with heap:=h'}):
  wpAny (model prog w) A.in1 (do let x<-newExc (.type "StopIteration") [];(raiseNew x:Sem Fin)) (fun fin s'=> ∃v,fin=Fin.done (Flow.ret v)/\wpAny (model prog w) A (pure (some v)) Q E s')
   (fun e s'=>wpAny (model prog w) A (do let b<-isInstance e (.type "StopIteration");if b=true then pure none else throw e) Q E s') s:=by
 refine zSG ?_;simp only [newExc,newTuple];refine zSG (wpAny_newObj_type ?_ (by size_fits));refine zSG (m:=firstArgMember _ _) (wpAny_of_eq (a:=Value.none) (by first | rfl |(simp only [firstArgMember];rfl)) ?_);refine wpAny_newObj_type ?_ (by size_fits);simp only [raiseNew];refine zSG (wpAny_handled ?_);rw [show A.in1.handled=none from hh];refine zSG (zSL (wpAny_throw ?_));refine zSG (wpAny_isInstance (T:= "StopIteration") (b:=true) ⟨_,zSY _ rfl,rfl⟩ isSubtype_stop ?_);exact zSL (h _ fun b o e=>zSH _ (zSH _ e))
end
end PySem
namespace PySem
open PyProof.Rows
theorem zJy(es:Array (Int×Value)):((List.range es.size).map fun j=>(es[j]?.map (·.2)).getD .none)=es.toList.map (·.2):=by
 refine List.ext_getElem (by simp) fun j h1 h2=>?_;have hj:j<es.size:=by simpa using h1
 simp [hj]
section
variable {prog:Program}{w:World}{A:Around}{E:Value->Shared->Prop}{s:Shared}{it a tp:Addr}{es:Array (Int×Value)}{ep:Nat}{t:SetTable}{order:List Nat}{vals:List Value}{i:Nat}
end
end PySem
namespace PySem
open PyProof.Rows
section
variable {prog:Program}{w:World}{A:Around}{E:Value->Shared->Prop}{s:Shared}
theorem zKU{vals:List Value}{acc:Array Value}{n:Nat}(hn:vals.length=n)(h:ItemsOf (fun i v=>vals[i]?=some v) acc n):acc.toList=vals:=by
 refine List.ext_getElem? fun i=>?_;rw [Array.getElem?_toList];rcases Nat.lt_or_ge i n with z | z
 ·have hi:i<acc.size:=by have:=h.1;omega
  rw [Array.getElem?_eq_getElem hi];exact (h.2 i _ (by rw [Array.getElem?_eq_getElem hi])).symm
 ·rw [Array.getElem?_eq_none (by have:=h.1;omega),List.getElem?_eq_none (by omega)]
end
end PySem
namespace L2
open PySem PySem.Spec PyProof.Rows
section
variable {X:Cx}
theorem Inv.drew{pins:List (Addr×Obj)}{σ:List (Option V)}{H:Hp}{s:Shared}{d:Drawn}(I:Inv X pins σ H s):Inv X pins σ H {s with drawn:=d}:=
 ⟨I.ok,I.os,I.bare,I.base,I.loc,I.cell,I.free,I.freeC,I.pin,I.hok,I.len⟩
open PySem.Builtin PySem.Builtin.Str in
open PySem.Builtin PySem.Builtin.Str in
theorem zIH{K:zSy}(hK:X.K=K)(hc:X.calm=true):yJ X (.builtin "sum") (fun xs H Q=> ∃(p:Addr) (ns:List Int),xs= [.ref p] /\SqL K H p (ns.map V.int)/\Q (.int ns.sum) H):=by
 subst hK;intro pins s σ H xs us Q I r h;obtain ⟨p,ns,rfl,hq,q⟩:=h;obtain ⟨u,rfl,ru⟩:=yx r;cases ru;obtain ⟨its,rv,pl,_⟩:=I.list hq;have hi:IntsAre its ns:=zJs rv;have hn:=hi.numsOf;obtain ⟨xs,ex⟩:=hi.allInts.items;have hl:s.heap.IsList p (intItems xs):=by rw [<-ex];exact pl.isList
 refine sum_intListG (I.ok.hd hc) hl fun h' tk t' hk=>?_;have e1:preSum (numAt xs) xs.size=ns.sum:=by
  rw [preSum_eq,List.take_of_length_le (by simp),<-nums_intItems,<-ex,<-hn]
 rw [e1];exact ⟨.int _,H,I.kept hk,⟨_,rfl⟩,q⟩
section
variable {K:zSy}{o e:Expr}{to te:TE}{apos cpos:Pos}
theorem zBe{lo hi:Option Expr}{tl th:TO}{pos p2:Pos}(hK:X.K=K)(he:QE X e te)(hl:QO X lo tl)(hu:QO X hi th):QE X (.Subscript e (.Slice lo hi none p2) pos) (tSl (zQX K) te tl th):=by
 subst hK;exact ⟨zHd zNt he.out hl.out hu.out⟩
end
end
section
variable {X:Cx}{pos:Pos}
end
section
variable {M:Model}{A:Around}{E:Value->Shared->Prop}{s:Shared}
end
theorem zEC{h h' B B':Heap}(k: ∀b o,B.get? b=none->h.get? b=some o->(∀vs,o.data≠ .fields vs)->h'.get? b=some o)(kb: ∀b,B.get? b=none->B'.get? b=none): ∀{l:List Env},h.FunFrames B l->h'.FunFrames B' l
 | [],_=>trivial
 | _::_,⟨hk,⟨L,o,hf,hn,ho,hd⟩,hr⟩=>⟨hk,⟨L,o,hf,kb L hn,k L o hn ho hd,hd⟩,zEC k kb hr⟩
def zRw(X:Cx)(E:XK)(e:Value)(s':Shared):Prop:=
 ∃(ea:Addr) (cls a0:Value) (H':Hp) (B:Heap) (fl:Value),e= .ref ea/\s'.os=X.s₀.os/\AllBare s'.gens/\B.StaysIn s'.heap/\B.get? ea=none/\s'.heap.FunFrames B X.stack/\s'.heap.TracedAtW B ea cls a0 fl/\
  HOk X.prog X.w H' B/\FlyU X.fs X.H₀ H' X.s₀.heap B s'.heap/\E cls none H'
def zCB(X:Cx)(E:St->XK):Prop:=X.ex= [] /\X.stack=X.env::X.outer/\X.env.frame=some X.env.locals/\ ∀(σ:St) (e:Value) (s':Shared),X.Ok->zRw X (E σ) e s'->X.xe e s'
section
variable {P:Program}{w:World}{K:zSy}{mg:Str->Option Value}{base:Heap}{N:List Str}{qual:Str}{scope:Scope}{f:Addr}{cd:Value}{A:Around}{outer:List Env}{s₀:Shared}{H₀:Hp}{E:XK}
end
section
variable {X:Cx}{scope:Scope}{cl:List (Str×Addr)}{C:Addr}{N:List Str}{s2:Shared}{H2:Hp}{fp:List Addr}{pins pn:List (Addr×Obj)}{σ σ':St}{H:Hp}{s s':Shared}{e acc:Value}{E:St->XK}{Q:Value->Shared->Prop}
theorem zFU(hp:zCB X E)(I2:Inv X pins σ H2 s2)(f2: ∀b∈fp,@LE.le Nat _ X.s₀.heap.objs.size b)(hC: @LE.le Nat _ s2.heap.objs.size C)(I:Inv (X.comp scope cl C N s2 H2 fp) pn σ' H s)(h:Fly X.prog X.w X.stack H s (E σ) e s'):
  notedBy (model X.prog X.w) X.A (compEnvC scope cl C X.env) (fun e s=>compPost (model X.prog X.w) X.A X.xe none Q acc C (.error e) s) e s':=by
 obtain ⟨hex,hst,hfr,hp⟩:=hp;obtain ⟨ea,cls,a0,H',B,rfl,hos,hb,hfl,hok,U,q⟩:=h;show wpAny _ X.A (noteFrame (.ref ea) X.env) _ _ s';have hfl':=hfl;rw [hst] at hfl';refine wpAny_looks_onW (by rw [I2.ok.frames,hst]) hfr hfl' fun h4 x4 u4=>?_;rw [<-hst] at x4;obtain ⟨m,hn,_⟩:=I.loc;obtain ⟨oC,es,ep,hoC,hdC,rC⟩:=hn;have hCfs:C∉yl X.stack:=fun z=>by
  rcases zSz.mp (I2.stkSub C z) with y | y
  ·have:=I2.lt;have y': @Eq Nat C X.env.locals:=y;have this': @LT.lt Nat _ X.env.locals s2.heap.objs.size:=this;omega
  ·obtain ⟨_,o,ho,_⟩:=I2.ok.funs.mem y;have a1: @LT.lt Nat _ C X.s₀.heap.objs.size:=zz ho;have a2: @LE.le Nat _ X.s₀.heap.objs.size s2.heap.objs.size:=I2.sz;omega
 have hCH:H C=none:=I.free;have hCB:B.get? C=some oC:=U.keep C oC hoC hCH hCfs;obtain ⟨x41,x42,x43,oe,vs,T,oT,ts,he,hcls,hd,h1,hnT,hTe,hT,hdT,h3⟩:=x4;have neC: ∀b,B.get? b=none->b≠C:=fun b hb z=>by rw [z,hCB] at hb;cases hb
 have hC4:h4.get? C=some oC:=x41 C oC hCB;refine ⟨m,⟨oC,es,ep,hC4,hdC,rC⟩,fun h' sb cenv' _=>?_⟩;have kp: ∀b o,b≠C->h4.get? b=some o->h'.get? b=some o:=fun b o hb e=>(sb.2 b hb).trans e;have he':=kp ea oe (neC ea x42) he;have hT':=kp T oT (neC T hnT) hT;have hsz3:3<ts.size:=(Array.getElem?_eq_some_iff.mp h3).1;unfold PySem.passOn;refine zSG (wpAny_field he' hd h1 ?_);rw [if_neg (show¬((Value.ref T==Value.none)=true) from by simp)];unfold setFlight;refine zSG (zSG (wpAny_field he' hd h1 ?_));rw [if_pos (show (Value.ref T !=Value.none)=true from by simp)];refine wpAny_setField hT' hdT hsz3 (wpAny_throw ?_);have other: ∀b,b≠T->(h'.update T (Obj.mapFields (·.setIfInBounds 3 (cenv'.frame.elim Value.none fun f=>rawInt f)))).get? b=h'.get? b:=fun b hb=>zSn _ _ (Ne.symm hb);have noT: ∀b o,B.get? b=some o->b≠T:=fun b o hb z=>by rw [z,hnT] at hb;cases hb
 have frT: ∀b o,h4.get? b=some o->(∀vs,o.data≠ .fields vs)->b≠T:=fun b o hb hnf z=>by
  rw [z,hT] at hb;injection hb with hb;subst hb;exact hnf ts hdT
 have hH'C:H' C=none:=U.free C oC hoC hCH;have exn: ∀b,b∉X.ex:=fun b=>by rw [hex];simp
 have hlt: ∀b o,X.s₀.heap.get? b=some o->b∉fp/\b≠C:=fun b o e=>by
  have a1: @LT.lt Nat _ b X.s₀.heap.objs.size:=zz e;have a2: @LE.le Nat _ X.s₀.heap.objs.size s2.heap.objs.size:=I2.sz;refine ⟨fun z=>?_,fun z=>?_⟩
  ·have:=f2 b z;omega
  ·have z': @Eq Nat b C:=z;omega
 have nst: ∀b o,X.s₀.heap.get? b=some o->b∉X.fs->b∉yl X.stack:=fun b o e hb z=>by
  rcases zSz.mp (I2.stkSub b z) with y | y
  ·exact zSN (zSO (zSP e) I2.ok.above) y
  ·exact hb y
 have st1: ∀b,b∈X.fs->b∈yl X.stack:=fun b hb=>by rw [hst];exact zDZ hb
 refine hp σ _ _ I2.ok ⟨ea,cls,a0,H',PySem.W.hideAll B [C],_,rfl,?_,hb,fun b o hbo=>?_,?_,zEC (B:=B) (h:=h4) (fun b o hbn hbo hnf=>?_) (fun b hbn=>?_) x43,
  ⟨oe,vs,T,_,_,(other ea (Ne.symm hTe)).trans he',hcls,hd,h1,?_,hTe,zSo _ hT' (Obj.isFreed_of_fields (Obj.data_mapFields hdT _)),Obj.data_mapFields hdT _,by simp [hsz3];rfl⟩,?_,⟨fun b o e n hbf=>?_,fun b o e n hbf=>?_,fun b o e hbf=>?_,fun b o e n=>?_,fun b xs e=>?_,fun b o u e=>?_,fun b ps e=>?_⟩,q⟩
 ·exact hos.trans (I.os.trans I2.os)
 ·have hne:b≠C:=fun z=>by rw [z,PySem.W.hideAll_none [C] (by simp)] at hbo;cases hbo
  have hB:=zSx [C] hbo;rw [other b (noT b o hB)];exact kp b o hne (x41 b o hB)
 ·cases z:(PySem.W.hideAll B [C]).get? ea with
  | none=>rfl
  | some o=>have:=zSx [C] z;rw [x42] at this;cases this
 ·rw [other b (frT b o hbo hnf)];exact kp b o (neC b hbn) hbo
 ·cases z:(PySem.W.hideAll B [C]).get? b with
  | none=>rfl
  | some o=>have:=zSx [C] z;rw [hbn] at this;cases this
 ·cases z:(PySem.W.hideAll B [C]).get? T with
  | none=>rfl
  | some o=>have:=zSx [C] z;rw [hnT] at this;cases this
 ·exact fun a o e=>(hok a o e).stay (fun b u hbb e1=>zSl _ e1 fun hm=>by
   have z:b=C:=by simpa using hm
   rcases hbb with y | y
   ·rw [<-y,z,hH'C] at e;cases e
   ·rw [z,hH'C] at y;cases y) (fun _ q=>q) fun _ _ q=>q
 ·obtain ⟨l1,l2⟩:=hlt b o e;have e1:=I2.base.keep b o e n hbf (exn b);have n1:=I2.base.free b o e n (exn b);have e2:=I.base.keep b o e1 n1 (nst b o e hbf) l1;have n2:=I.base.free b o e1 n1 l1;exact zSl _ (U.keep b o e2 n2 (nst b o e hbf)) (by simpa using l2)
 ·obtain ⟨l1,l2⟩:=hlt b o e;obtain ⟨sl1,e1⟩:=I2.base.slot b o e n hbf (exn b);have n1:=I2.base.free b o e n (exn b);obtain ⟨sl2,e2⟩:=I.base.slot b _ e1 n1 (st1 b hbf) l1;have n2:=I.base.free b _ e1 n1 l1;obtain ⟨sl3,e3⟩:=U.slot b _ e2 n2 (st1 b hbf);obtain ⟨_,o',e3',hd'⟩:=hfl.2.2.1.mem (st1 b hbf);rw [e3] at e3';cases e3';obtain ⟨sl4,e4⟩:=u4 b _ e3 hd';refine ⟨sl4,?_⟩;rw [other b (frT b _ e4 hd')];exact kp b _ l2 e4
 ·obtain ⟨l1,l2⟩:=hlt b o e;obtain ⟨o1,e1⟩:=I2.base.there b o e (exn b);obtain ⟨o2,e2⟩:=I.base.there b o1 e1 l1;obtain ⟨o3,e3⟩:=U.inB b o2 e2 (nst b o e hbf);exact ⟨o3,zSl _ e3 (by simpa using l2)⟩
 ·obtain ⟨l1,l2⟩:=hlt b o e;obtain ⟨o1,e1⟩:=I2.base.there b o e (exn b);obtain ⟨o2,e2⟩:=I.base.there b o1 e1 l1;exact U.free b o2 e2 (I.base.free b o1 e1 (I2.base.free b o e n (exn b)) l1)
 ·exact U.tups b xs (I.base.tups b xs (I2.base.tups b xs e))
 ·exact U.frzs b o u (I.base.frzs b o u (I2.base.frzs b o u e))
 ·obtain ⟨m1,e1⟩:=I2.base.tbls b ps e;obtain ⟨m2,e2⟩:=I.base.tbls b _ e1;obtain ⟨m3,e3⟩:=U.tbls b _ e2;exact ⟨m1++(m2++m3),by rw [e3,Array.append_assoc,Array.append_assoc]⟩
end
abbrev Cx.compX(X:Cx)(scope:Scope)(cl:List (Str×Addr))(C:Addr)(N:List Str)(s₂:Shared)(H₂:Hp)(fp:List Addr)(xe:Value->Shared->Prop):Cx:={X.comp scope cl C N s₂ H₂ fp with xe:=xe}
section
variable {X:Cx}{scope:Scope}{cl:List (Str×Addr)}{C:Addr}{N:List Str}{s₂:Shared}{H₂:Hp}{fp:List Addr}{xe:Value->Shared->Prop}{pins:List (Addr×Obj)}{σ:St}{H:Hp}{s:Shared}
theorem Inv.compX(I:Inv (X.comp scope cl C N s₂ H₂ fp) pins σ H s):Inv (X.compX scope cl C N s₂ H₂ fp xe) pins σ H s:=
 ⟨⟨I.ok.mod,I.ok.kind,I.ok.glob,I.ok.blt,I.ok.above,I.ok.inj,I.ok.has,I.ok.cab,I.ok.hd,I.ok.frames,I.ok.stk,I.ok.exf,I.ok.bs,I.ok.bsz,I.ok.noex,I.ok.exfs,I.ok.funs,I.ok.frf⟩,I.os,I.bare,I.base,I.loc,I.cell,I.free,I.freeC,I.pin,I.hok,I.len⟩
theorem Inv.comp(I:Inv (X.compX scope cl C N s₂ H₂ fp xe) pins σ H s):Inv (X.comp scope cl C N s₂ H₂ fp) pins σ H s:=
 ⟨⟨I.ok.mod,I.ok.kind,I.ok.glob,I.ok.blt,I.ok.above,I.ok.inj,I.ok.has,I.ok.cab,I.ok.hd,I.ok.frames,I.ok.stk,I.ok.exf,I.ok.bs,I.ok.bsz,I.ok.noex,I.ok.exfs,I.ok.funs,I.ok.frf⟩,I.os,I.bare,I.base,I.loc,I.cell,I.free,I.freeC,I.pin,I.hok,I.len⟩
end
theorem zEo{P:Program}{w:World}{A:Around}{R:Result->Shared->Prop}{s:Shared}{elt target iter:Expr}{ifs:List Expr}{scope:Scope}{pos:Pos}{it acc:Value}{env:Env}{E0:Value->Shared->Prop}(hE: ∀e s,E0 e s->notedBy (model P w) A env (fun e s=>R (.error e) s) e s)(J:Nat->Shared->Prop)
  (turn: ∀n s,J n s->wpAny (model P w) A (pyNext it) (fun r s1=>match r with
   | none=>R (.ok .next) s1
   | some v=>wpAny (model P w) A (letOwnedTupleGo target it v) (fun _ s1'=>wpAny (model P w) A (assign target env v) (fun _ s2=>wpAny (model P w) A (zBJ ifs env) (fun ok s3=>
     if ok=true then wpAny (model P w) A (eval elt env) (fun x s4=>wpAny (model P w) A (call (.builtin "list.append") [acc,x]) (fun _ s5=> ∃m,m<n/\J m s5) (fun _ _=>False) s4) E0 s3
     else∃m,m<n/\J m s3) (fun _ _=>False) s2) (fun _ _=>False) s1') (fun _ _=>False) s1) (fun _ _=>False) s)
  (n:Nat) (h:J n s):codeAny (model P w) A (.compLoop (.ListComp elt [⟨target,iter,ifs,0⟩] scope pos) 0 it acc env) R s:=by
 refine codeAny_loop rfl J (fun n s hJ=>?_) n h;show wpAny _ A ((compTurn (.ListComp elt [⟨target,iter,ifs,0⟩] scope pos) 0 it acc env).onRaise _) _ _ s;refine wpAny_noted ?_;rw [compTurn_list];refine zSG (wpAny_standAt (zSG (zSa (yO (turn n s hJ)) (fun r s1 h1=>?_) fun _ _ z=>z)));cases r with
 | none=>exact zSL h1
 | some v=>
  refine zSG (zSa (yO h1) (fun _ s2 h3=>zSG (zSa (yO h3) (fun _ s3 h4=>zSG (zSa (yO h4) (fun ok s4 h5=>?_) fun _ _ z=>z)) fun _ _ z=>z)) fun _ _ z=>z);cases ok with
  | false=>exact zSL ⟨rfl,h5⟩
  | true=>exact zSG (zSG (zSa h5 (fun x s5 h6=>zSG (zSa (yO h6) (fun _ s6 h7=>zSL (zSL ⟨rfl,h7⟩)) fun _ _ z=>z)) hE))
def zLw(wi:TI)(g:TG)(tt:TT)(te:(St->XK)->TE)(n:Nat)(fr:List Nat)(E:St->XK):TE:=fun σ H Q=>zCW wi g tt (te fun _=>E σ) n fr σ H Q
def zJI(wi:TI)(g:TG)(tt:TT)(te:(St->XK)->TE)(n:Nat)(fr:List Nat)(E:St->XK):TE:=fun σ H Q=>zHh wi g tt (te fun _=>E σ) n fr σ H Q
theorem fr2{Pp:Str->Nat->Prop}{y z:Str}{i k:Nat}(h:Pp y i)(h':Pp z k): ∀(j:Nat) (y':Str) (i':Nat),[y,z][j]?=some y'-> [i,k][j]?=some i'->Pp y' i':=by
 intro j y' i' h1 h2
 match j with
 | 0=>cases h1;cases h2;exact h
 | 1=>cases h1;cases h2;exact h'
 | j+2=>simp at h1
theorem fr3{Pp:Str->Nat->Prop}{y z x:Str}{i k m:Nat}(h:Pp y i)(h':Pp z k)(h'':Pp x m): ∀(j:Nat) (y':Str) (i':Nat),[y,z,x][j]?=some y'-> [i,k,m][j]?=some i'->Pp y' i':=by
 intro j y' i' h1 h2
 match j with
 | 0=>cases h1;cases h2;exact h
 | 1=>cases h1;cases h2;exact h'
 | 2=>cases h1;cases h2;exact h''
 | j+3=>simp at h1
theorem zMj{X:Cx}{i0:Nat}{x:Str}{pos' spos:Pos}{elt iter tg:Expr}{ifs:List Expr}{zs:List Str}{pos:Pos}{scope:Scope}{cl:List (Str×Addr)}{ys:List Str}{fr:List Nat}{wi:TI}{g:TG}{tt:TT}{te:(St->XK)->TE}{E:St->XK}(hcm:X.calm=true)(hp:zCB X E)(hN:X.N.Nodup)(hi0:X.N[i0]?=some x)(hx0:Loc X.env.scope x)(hf0:X.fn x=true\/X.env.scope.names.lookup x=some .local)
  (hsw:swapsWith (.ListComp elt [⟨tg,iter,ifs,0⟩] scope pos) (some (.Name x pos')) spos.line X.env=pure true)
  (hi:PI X tg iter wi) (hclos:closureFor scope X.env=pure cl) (hcell: ∀y∈scope.names,y.2≠ .cell) (hkind:scope.kind= .function) (hnames: ∀y∈scope.names,y.2= .local->scope.names.lookup y.1=some .local)
  (hcl: ∀y a,cl.lookup y=some a->X.env.cells.lookup y=some a)
  (hlen:ys.length=fr.length) (hfr: ∀(j:Nat) y i,ys[j]?=some y->fr[j]?=some i->X.N[i]?=some y/\X.env.kindOf y=some .cell/\(relabel scope X.env).names.lookup y=some .cell/\ ∃a,cl.lookup y=some a/\X.env.cells.lookup y=some a)
  (hhas: ∀y,((relabel scope X.env).names.lookup y=some .cell\/(relabel scope X.env).names.lookup y=some .free)-> ∃a,cl.lookup y=some a)
  (hg: ∀C s₂ H₂ fp,PG (X.comp scope cl C (zs++ys) s₂ H₂ fp) tg g) (hc: ∀C s₂ H₂ fp,PTs (X.comp scope cl C (zs++ys) s₂ H₂ fp) ifs tt) (he: ∀C s₂ H₂ fp xe E',zAW (Fly X.prog X.w) (X.compX scope cl C (zs++ys) s₂ H₂ fp xe) E'->PE (X.compX scope cl C (zs++ys) s₂ H₂ fp xe) elt (te E')) (hs: ∀v,foldedSetIterable iter X.env v=pure v:=by intro _;rfl):
  PS X (.Assign [.Name x pos'] (.ListComp elt [⟨tg,iter,ifs,0⟩] scope pos) spos) (zDS (zLw wi g tt te zs.length fr E) (zAA i0)):=by
 intro pins s σ H Dn I h;change zCW wi g tt (te fun _=>E σ) zs.length fr σ H (fun v H1=>zAA i0 v σ H1 Dn.nx) at h;rw [exec_Assign_Name_used _ _ _ _ hsw];refine zSG (wpAny_standAt (zSG ?_));show wpAny _ X.A (do let _<-comprehension (.ListComp elt [⟨tg,iter,ifs,0⟩] scope pos) scope X.env _ (newList []) false (eval iter X.env) (some (assign (.Name x pos') X.env))) _ _ s;refine zSG (zSa (wpAny_comprehension_free (use:=some (assign (.Name x pos') X.env)) (Q:=fun _ s'=>SP X pins Dn .next s') rfl hs hclos hkind hnames (zS (hi pins s σ H _ I h) fun v s1 h1=>zS h1 fun itv s2 h2=>?_)) (fun _ s' hq=>zSL (zSL hq)) fun _ _ e=>e);obtain ⟨it,fp,tn,J,H2,e,I2,T,st2,f2,h2⟩:=h2;subst e;have hD:H2 s2.heap.objs.size=none:=I2.hok.fresh (zSJ _);obtain ⟨W,⟨m0,w0⟩,turn⟩:=h2 s2.heap.objs.size hD;refine wpAny_newObj_type (wpAny_newFunctionEnv hcell (by intro y hy;simp at hy) (fun h₁ hns₁ hsb₁=>?_) hkind);dsimp only at hns₁ hsb₁⊢;generalize hH3:s2.heap.push {cls:= .type "list",dict:=none,data:= .seq ([] :List Value).toArray}=H3 at hns₁ hsb₁⊢;have hCs:H3.objs.size=s2.heap.objs.size+1:=by rw [<-hH3,Heap.size_push]
 have old: ∀b o,s2.heap.get? b=some o->h₁.get? b=some o:=fun b o e=>
  hsb₁.extBut b o (zSN (by have:=zz e;omega)) (zSH _ (hH3▸zSH _ e))
 have hacc:h₁.get? s2.heap.objs.size=some {cls:= .type "list",dict:=none,data:= .seq ([] :List Value).toArray}:=
  hsb₁.extBut _ _ (zSN (by omega)) (zSH _ (hH3▸zSY _ rfl))
 have fplt: ∀b∈fp,@LT.lt Nat _ b s2.heap.objs.size:=fun b hb=>by
  obtain ⟨o,e,_⟩:=T.obj _ _ st2 b hb;exact zz e
 have okC:(X.comp scope cl H3.objs.size (zs++ys) s2 H2 fp).Ok:=by
  refine ⟨I2.ok.mod,hkind,I2.ok.glob,I2.ok.blt,?_,fun y z a h1 h2=>I2.ok.inj y z a (hcl y a h1) (hcl z a h2),fun y hy=>hhas y hy,fun y a z _=>(nomatch z),I2.ok.hd,I2.ok.frames,.inl rfl,fun b hb=>⟨?_,fun y a e z=>?_⟩,I2.bs,zST I2.ok.bsz I2.sz,fun b o e hb=>?_,fun b hb z=>?_,I2.stack,I2.stkFree⟩
  ·show s2.heap.objs.size<=H3.objs.size;omega
  ·show b≠H3.objs.size;have:=fplt b hb;exact zSN (by omega)
  ·exact (f2 b hb).2.2.2.2.1 y a (hcl y a e) z
  ·rcases (f2 b hb).2.2.2.1 with z | z
   ·exact I2.ok.noex b o e z
   ·have z': @LE.le Nat _ X.s₀.heap.objs.size b:=z;have: @LT.lt Nat _ b X.base.objs.size:=zz e;have:=I2.ok.bsz;omega
  ·rcases zSz.mp (I2.stkSub b z) with y | y
   ·exact (f2 b hb).2.1 y
   ·exact (f2 b hb).2.2.1 y
 have fpok: ∀{H':Hp},(∀b∈fp,H' b=none)-> ∀b∈fp,zBD (X.comp scope cl H3.objs.size (zs++ys) s2 H2 fp) [] H' b:=fun hn b hb=>
  ⟨hn b hb,(okC.exf b hb).1,okC.exfs b hb,.inl hb,(okC.exf b hb).2,fun p hp=>absurd hp (by simp)⟩
 have cellC: ∀y a,cl.lookup y=some a-> ∃v,s2.heap.IsCell a v:=fun y a e=>I2.cell y a (hcl y a e);have start:Inv (X.comp scope cl H3.objs.size (zs++ys) s2 H2 fp) [] (List.replicate zs.length none++zY fr σ) (upd H2 s2.heap.objs.size (.lst [])) {s2 with heap:=h₁,toks:=s2.toks+([] :List (Str×Value)).length}:=by
  refine ⟨okC,rfl,I2.bare,Un.laid old (zSJ _) hD,⟨_,hns₁,fun j y v e1 e2 e3=>?_⟩,fun y a e=>?_,?_,fun y a e=>?_,fun p hp=>absurd hp (by simp),I2.hok.laid old (zSJ _) ⟨zSU _,[],_,.nil,hacc⟩,?_⟩
  ·by_cases hj:j<zs.length
   ·rw [List.getElem?_append_left (by simpa using hj),List.getElem?_replicate] at e2;rw [if_pos hj] at e2;cases e2
   ·obtain ⟨j,rfl⟩: ∃k,j=zs.length+k:=⟨j - zs.length,by omega⟩;have e1':ys[j]?=some y:=by
     have z:=e1;simp only [Cx.comp] at z;rw [List.getElem?_append_right (by omega)] at z;simpa using z
    have e2':(zY fr σ)[j]?=some (some v):=by
     rw [List.getElem?_append_right (by simp)] at e2;simpa using e2
    unfold zY at e2';rw [zSK] at e2';cases q:fr[j]? with
    | none=>rw [q] at e2';cases e2'
    | some i=>
     rw [q] at e2';have e4:(σ[i]?).getD none=some v:=Option.some.inj e2';have e5:σ[i]?=some (some v):=by
      cases q2:σ[i]? with
      | none=>rw [q2] at e4;cases e4
      | some z=>rw [q2] at e4;exact congrArg some e4
     obtain ⟨hN,hk,hl,a,ha,ha'⟩:=hfr j y i e1' q;obtain ⟨m,_,hl2⟩:=I2.loc;obtain ⟨u,r,l⟩:=hl2 i y v hN e5 (.inr (.inl hk));refine ⟨u,r,.inr ⟨.inl hl,a,ha,?_⟩⟩;rcases l with ⟨k,_⟩|⟨_,a2,ea,z⟩
     ·rw [hk] at k;cases k
     ·rw [ha'] at ea;cases ea;obtain ⟨o,ho,hd⟩:=z;exact ⟨o,old _ _ ho,hd⟩
  ·obtain ⟨v,o,ho,hd⟩:=cellC y a e;exact ⟨v,o,old _ _ ho,hd⟩
  ·show upd H2 s2.heap.objs.size (.lst []) H3.objs.size=none;rw [zI (by first | exact zSN (by omega)| exact zSq (by omega))];exact I2.hok.fresh (by omega)
  ·obtain ⟨v,o,ho,hd⟩:=cellC y a e;have:=zz ho;rw [zI (by first | exact zSN (by omega)| exact zSq (by omega))];exact I2.freeC y a (hcl y a e)
  ·show (List.replicate zs.length none++zY fr σ).length=(zs++ys).length;unfold zY;simp [hlen]
 have loop: ∀s₃:Shared,s₃={s2 with heap:=h₁,toks:=s2.toks+([] :List (Str×Value)).length}->
   codeAny (model X.prog X.w) X.A (.compLoop (.ListComp elt [⟨tg,iter,ifs,0⟩] scope pos) 0 (.ref it) (.ref s2.heap.objs.size) (compEnvC scope cl H3.objs.size X.env)) (compPost (model X.prog X.w) X.A X.xe (some (assign (.Name x pos') X.env)) (fun _ s'=>SP X pins Dn .next s') (.ref s2.heap.objs.size) H3.objs.size) s₃:=by
  rintro s₃ rfl;have flown: ∀e s',(∃pn σ' Hx sx,Inv (X.comp scope cl H3.objs.size (zs++ys) s2 H2 fp) pn σ' Hx sx/\Fly X.prog X.w X.stack Hx sx (E σ) e s')->notedBy (model X.prog X.w) X.A (compEnvC scope cl H3.objs.size X.env) (fun e s=>compPost (model X.prog X.w) X.A X.xe (some (assign (.Name x pos') X.env)) (fun _ s'=>SP X pins Dn .next s') (.ref s2.heap.objs.size) H3.objs.size (.error e) s) e s':=by
   rintro e s' ⟨pn,σ',Hx,sx,Ix,hx⟩;refine zFU (Q:=fun _ s'=>SP X pins Dn .next s') (acc:= .ref s2.heap.objs.size) hp I2 (fun b hb=>?_) (by omega) Ix hx;rcases (f2 b hb).2.2.2.1 with z | z
   ·rw [hp.1] at z;cases z
   ·exact z
  refine zEo (E0:=fun e s'=> ∃pn σ' Hx sx,Inv (X.comp scope cl H3.objs.size (zs++ys) s2 H2 fp) pn σ' Hx sx/\Fly X.prog X.w X.stack Hx sx (E σ) e s') flown (fun n s'=> ∃i pre ys' H',pre.length=zs.length/\Inv (X.comp scope cl H3.objs.size (zs++ys) s2 H2 fp) [] (pre++zY fr σ) H' s'/\tn i s'.heap/\(∀b∈fp,H' b=none)/\W i n ys' H') ?_ m0
   ⟨0,List.replicate zs.length none,[],_,by simp,start,T.keep _ _ _ st2 fun b hb o e=>old b o e,fun b hb=>by
    have:=fplt b hb;rw [zI (by first | exact zSN (by omega)| exact zSq (by omega))];exact (f2 b hb).1,w0⟩
  rintro n s3 ⟨i,pre,ys3,H',hpl,I3,st3,fr3,w3⟩;obtain ⟨hl3,alt⟩:=turn i n ys3 H' w3;rcases alt with ⟨stop,qn⟩|⟨go,hz,N,hN,step⟩
  ·refine zSa (T.done (X.comp scope cl H3.objs.size (zs++ys) s2 H2 fp) rfl rfl rfl hcm i [] s3 _ H' (fun _ _=>False) I3 (fpok fr3) st3 stop) (fun r s4 h4=>?_) fun _ _ z=>z.elim;obtain ⟨hr,I4⟩:=h4;subst hr;obtain ⟨m4,hn4,_⟩:=id I4.loc;have back: ∀h'',Heap.SameBut H3.objs.size s4.heap h''->Inv X pins σ H' {s4 with heap:=h''}:=by
    intro h'' hs'';have hb: ∀b o,b≠H3.objs.size->s4.heap.get? b=some o->h''.get? b=some o:=fun b o hb e=>(hs''.2 b hb).trans e;refine I2.call' (s':={s4 with heap:=h''}) (ch:=fp) I4.os ⟨fun b o e n hb' hx'=>?_,fun b o e n hb' hx'=>?_,fun b o e n hx'=>I4.base.free b o e n hx',fun b o e hx'=>?_,I4.base.tups,I4.base.frzs,I4.base.tbls⟩ (fun b u e=>?_) I4.bare fun b hb'=>⟨(f2 b hb').2.2.2.1,(f2 b hb').2.1,(f2 b hb').2.2.2.2.1,(f2 b hb').2.2.2.2.2⟩
    ·exact hb b o (zSN (by have:=zz e;omega)) (I4.base.keep b o e n hb' hx')
    ·obtain ⟨sl,q⟩:=I4.base.slot b o e n hb' hx';exact ⟨sl,hb b _ (zSN (by have:=zz e;omega)) q⟩
    ·obtain ⟨o',q⟩:=I4.base.there b o e hx';exact ⟨o',hb b _ (zSN (by have:=zz e;omega)) q⟩
    ·refine (I4.hok b u e).stay (fun c' w' hc' q=>hb c' w' ?_ q) (fun _ q=>q) fun _ _ q=>q;intro z;have fz:H' H3.objs.size=none:=I4.free;rcases hc' with y | y
     ·rw [<-y,z,fz] at e;cases e
     ·rw [z,fz] at y;cases y
   have I5:Inv X pins σ H' s4:=back s4.heap (Heap.SameBut.refl _ _);have hCs2: @LE.le Nat _ s2.heap.objs.size H3.objs.size:=by omega
   have fz:H' H3.objs.size=none:=I4.free;have cneL:H3.objs.size≠X.env.locals:=fun z=>by
    have z1: @LT.lt Nat _ X.env.locals s2.heap.objs.size:=I2.lt;have z': @Eq Nat H3.objs.size X.env.locals:=z;omega
   have cneC: ∀y c,X.env.cells.lookup y=some c->c≠H3.objs.size:=fun y c e z=>by
    obtain ⟨v,o,ho,_⟩:=I2.cell y c e;have z1:=zz ho;have z': @Eq Nat c H3.objs.size:=z;omega
   show wpAny _ X.A (assign (.Name x pos') X.env (.ref s2.heap.objs.size)) _ _ s4;refine wpAny_assign_Name (zDx I5 hN hi0 hx0 (v:= .ref s2.heap.objs.size) rfl (fun s5 I6 ⟨a,sba,ha⟩=>?_) hf0);have nea:H3.objs.size≠a:=by
    rcases ha with z | z
    ·rw [z];exact cneL
    ·exact fun y=>cneC x a z y.symm
   obtain ⟨oC,es,ep,hoC,rC⟩:=hn4;refine ⟨m4,⟨oC,es,ep,(sba.2 _ nea).trans hoC,rC⟩,fun h'' hs''=>?_⟩;have hb: ∀b o,b≠H3.objs.size->s5.heap.get? b=some o->h''.get? b=some o:=fun b o hb e=>(hs''.2 b hb).trans e;have neb: ∀b:Addr,b∉ [H3.objs.size] ->b≠H3.objs.size:=fun b hb z=>hb (by simp [z]);have I7:Inv X pins (σ.set i0 (some (.ref s2.heap.objs.size))) H' {s5 with heap:=h''}:=by
    refine I6.call' (s':={s5 with heap:=h''}) (ch:= [H3.objs.size]) rfl ⟨fun b o e n hb' hx'=>hb b o (neb b hx') e,fun b o e n hb' hx'=>⟨o.slots,hb b o (neb b hx') e⟩,fun b o e n hx'=>n,fun b o e hx'=>⟨o,hb b o (neb b hx') e⟩,fun b xs e=>e,fun b o u e=>e,fun b ps e=>⟨#[],by simpa using e⟩⟩ (fun b u e=>?_) I6.bare fun b hb'=>?_
    ·refine (I6.hok b u e).stay (fun c' w' hc' q=>hb c' w' ?_ q) (fun _ q=>q) fun _ _ q=>q;intro z;rcases hc' with y | y
     ·rw [<-y,z,fz] at e;cases e
     ·rw [z,fz] at y;cases y
    ·have eb:b=H3.objs.size:=by simpa using hb'
     subst eb;refine ⟨.inr ?_,cneL,cneC,fun p hp z=>?_⟩
     ·have z1: @LE.le Nat _ X.s₀.heap.objs.size s2.heap.objs.size:=I2.sz;show @LE.le Nat _ X.s₀.heap.objs.size H3.objs.size;omega
     ·have z1:=zz (I2.pin p hp).1;have z': @Eq Nat p.1 H3.objs.size:=z;omega
   exact ⟨_,H',I7,qn⟩
  ·refine zSa (T.item (X.comp scope cl H3.objs.size (zs++ys) s2 H2 fp) rfl rfl rfl hcm i [] s3 _ H' (fun _ _=>False) I3 (fpok fr3) st3 go) (fun r s4 h4=>?_) fun _ _ z=>z.elim;obtain ⟨u,hr,h4⟩:=h4;subst hr;dsimp only;have asg:wpAny (model X.prog X.w) X.A (letOwnedTupleGo tg (.ref it) u) (fun _ s5=>wpAny (model X.prog X.w) X.A (assign tg (compEnvC scope cl H3.objs.size X.env) u)
     (fun _ s6=> ∃σ5 H6,(∃pn5,Inv (X.comp scope cl H3.objs.size (zs++ys) s2 H2 fp) pn5 σ5 H6 s6/\(∀b∈fp,∃o,(b,o)∈pn5))/\((∃zi:St,zi.length=zs.length/\σ5=zi++zY fr σ)/\
      tt σ5 H6 fun b H3'=>if b=true then te (fun _=>E σ) σ5 H3' fun y H4=>H4 s2.heap.objs.size=some (.lst ys3)/\N (ys3++ [y]) (upd H4 s2.heap.objs.size (.lst (ys3++ [y]))) else N ys3 H3')/\tn (i+1) s6.heap/\ ∀b∈fp,H6 b=none) (fun _ _=>False) s5) (fun _ _=>False) s4:=by
    refine (zS h4 fun _ s5 ⟨x5,H5,I5,r5,y5,st5,fr5⟩=>?_);have I5':=I5.pinned (fpok fr5) (T.obj _ _ st5);refine zSa (hg _ _ _ _ _ s5 _ H5 x5 u _ I5' r5 (step x5 H5 y5 pre hpl)) (fun _ s6 ⟨σ6,H6,I6,q6⟩=>?_) fun _ _ z=>z.elim;exact ⟨σ6,H6,⟨_,I6,fun b hb=>by
     obtain ⟨o,e,_⟩:=T.obj _ _ st5 b hb;exact ⟨o,zSV _ (yH hb e)⟩⟩,q6,T.keep _ _ _ st5 fun b hb o e=>(I6.pin (b,o) (zSV _ (zSV _ (yH hb e)))).1,fun b hb=>by
     obtain ⟨o,e,_⟩:=T.obj _ _ st5 b hb;exact (I6.pin (b,o) (zSV _ (zSV _ (yH hb e)))).2.1⟩
   refine zSa asg (fun _ s5 h5=>zSa h5 (fun _ s6 h6=>?_) fun _ _ z=>z.elim) fun _ _ z=>z.elim;obtain ⟨σ5,H5,⟨pn5,I6,hp6⟩,⟨⟨zi,hl2,rfl⟩,q6⟩,st6,fr5⟩:=h6;have keepTurn: ∀{σ7:St} {H7:Hp} {s7:Shared},Inv (X.comp scope cl H3.objs.size (zs++ys) s2 H2 fp) pn5 σ7 H7 s7->tn (i+1) s7.heap/\ ∀b∈fp,H7 b=none:=fun {σ7 H7 s7} I7=>by
    refine ⟨T.keep _ _ _ st6 fun b hb o e=>?_,fun b hb=>?_⟩
    ·obtain ⟨o',hm⟩:=hp6 b hb;have a1:=(I6.pin (b,o') (zSV _ hm)).1;rw [e] at a1;cases a1;exact (I7.pin (b,_) (zSV _ hm)).1
    ·obtain ⟨o',hm⟩:=hp6 b hb;exact (I7.pin (b,o') (zSV _ hm)).2.1
   have drop: ∀{σ7:St} {H7:Hp} {s7:Shared},Inv (X.comp scope cl H3.objs.size (zs++ys) s2 H2 fp) pn5 σ7 H7 s7->Inv (X.comp scope cl H3.objs.size (zs++ys) s2 H2 fp) [] σ7 H7 s7:=fun I7=>I7.pins_of fun p hp=>absurd hp (by simp);have tests:wpAny (model X.prog X.w) X.A (zBJ ifs (compEnvC scope cl H3.objs.size X.env)) (fun b s7=> ∃H7,Inv (X.comp scope cl H3.objs.size (zs++ys) s2 H2 fp) pn5 (zi++zY fr σ) H7 s7/\
     (if b=true then te (fun _=>E σ) (zi++zY fr σ) H7 fun y H4=>H4 s2.heap.objs.size=some (.lst ys3)/\N (ys3++ [y]) (upd H4 s2.heap.objs.size (.lst (ys3++ [y]))) else N ys3 H7)) (fun _ _=>False) s6:=by
    rcases hc H3.objs.size s2 H2 fp with ⟨rfl,rfl⟩|⟨c,rfl,hc2⟩
    ·exact wpAny_tests_nil ⟨H5,I6,q6⟩
    ·exact wpAny_tests_one (zSa (hc2 pn5 s6 _ H5 _ I6 q6) (fun b s7 ⟨H7,I7,q7⟩=>⟨H7,I7,q7⟩) fun _ _ z=>z.elim)
   refine zSa tests (fun b s7 h7=>?_) fun _ _ z=>z.elim;obtain ⟨H7,I7,q7⟩:=h7;cases b with
   | false=>
    obtain ⟨m',hm,w'⟩:=hN _ _ q7;obtain ⟨k1,k2⟩:=keepTurn I7;exact ⟨m',hm,i+1,zi,ys3,H7,hl2,drop I7,k1,k2,w'⟩
   | true=>
    refine zSa (he _ _ _ _ (fun e s'=> ∃pn σ' Hx sx,Inv (X.comp scope cl H3.objs.size (zs++ys) s2 H2 fp) pn σ' Hx sx/\Fly X.prog X.w X.stack Hx sx (E σ) e s') (fun _=>E σ) (fun pn σ' Hx sx e s' Ix hx=>⟨pn,σ',Hx,sx,Ix.comp,hx⟩) pn5 s7 _ H7 _ I7.compX q7) (fun y s8 h8=>?_) fun _ _ z=>z;obtain ⟨yv,H8,I8',r8,hl8,n8⟩:=h8;have I8:=I8'.comp;refine zSa (zBj (X:=X.comp scope cl H3.objs.size (zs++ys) s2 H2 fp) pn5 s8 _ H8 (.ref s2.heap.objs.size) [yv] (.ref s2.heap.objs.size) [y] (fun z H9=>N (ys3++ [yv]) H9) I8 rfl (.cons r8 .nil) ⟨s2.heap.objs.size,ys3,yv,rfl,rfl,hl8,hz,n8⟩) (fun _ s9 h9=>?_) fun _ _ z=>z.elim;obtain ⟨_,H9,I9,_,n9⟩:=h9;obtain ⟨m',hm,w'⟩:=hN _ _ n9;obtain ⟨k1,k2⟩:=keepTurn I9;exact ⟨m',hm,i+1,zi,ys3++ [yv],H9,hl2,drop I9,k1,k2,w'⟩
 exact codeAny_compStart_list (loop _ rfl) (T.self X.A 0 _ _ _ (T.keep _ _ _ st2 fun b hb o e=>old b o e) (loop _ rfl))
theorem zBE{X:Cx}{x:Str}{pos' spos:Pos}{elt iter tg:Expr}{ifs:List Expr}{E:St->XK}(hp:zCB X E)(i0:Nat)(hN:X.N.Nodup)(hi0:X.N[i0]?=some x)(hx0:Loc X.env.scope x)(hf0:X.fn x=true\/X.env.scope.names.lookup x=some .local)
  (zs:List Str) {pos:Pos} {scope:Scope} {cl:List (Str×Addr)} (ys:List Str) (fr:List Nat) {wi:TI} {g:TG} {tt:TT} {te:(St->XK)->TE} (hcm:X.calm=true)
  (hi:QI X tg iter wi) (hclos:closureFor scope X.env=pure cl) (hcell: ∀y∈scope.names,y.2≠ .cell) (hkind:scope.kind= .function) (hnames: ∀y∈scope.names,y.2= .local->scope.names.lookup y.1=some .local)
  (hcl: ∀y a,cl.lookup y=some a->X.env.cells.lookup y=some a)
  (hlen:ys.length=fr.length) (hfr: ∀(j:Nat) y i,ys[j]?=some y->fr[j]?=some i->X.N[i]?=some y/\X.env.kindOf y=some .cell/\(relabel scope X.env).names.lookup y=some .cell/\ ∃a,cl.lookup y=some a/\X.env.cells.lookup y=some a)
  (hhas: ∀y,((relabel scope X.env).names.lookup y=some .cell\/(relabel scope X.env).names.lookup y=some .free)-> ∃a,cl.lookup y=some a)
  (hg: ∀C s₂ H₂ fp,QG (X.comp scope cl C (zs++ys) s₂ H₂ fp) tg g) (hc: ∀C s₂ H₂ fp,QTs (X.comp scope cl C (zs++ys) s₂ H₂ fp) ifs tt) (he: ∀C s₂ H₂ fp xe E',zAW (Fly X.prog X.w) (X.compX scope cl C (zs++ys) s₂ H₂ fp xe) E'->QE (X.compX scope cl C (zs++ys) s₂ H₂ fp xe) elt (te E')) (hs: ∀v,foldedSetIterable iter X.env v=pure v)
  (hsw:swapsWith (.ListComp elt [⟨tg,iter,ifs,0⟩] scope pos) (some (.Name x pos')) spos.line X.env=pure true):
  QS X (.Assign [.Name x pos'] (.ListComp elt [⟨tg,iter,ifs,0⟩] scope pos) spos) (zDS (zJI wi g tt te zs.length fr E) (zAA i0)):=
 ⟨fun pins s σ H D I h=>zMj hcm hp hN hi0 hx0 hf0 hsw (zFa hi).out hclos hcell hkind hnames hcl hlen hfr hhas (fun C s H f=>(hg C s H f).out) (fun C s H f=>(hc C s H f).out) (fun C s H f xe E' hx=>(he C s H f xe E' hx).out) hs pins s σ H D I ⟨_,h,fun J H1 h1 D' hD=>by
  obtain ⟨len,Pv,a0,a1,a2,a3,a4⟩:=(h1 D' hD).ex;exact zDR (Q:=fun v H1=>zAA i0 v σ H1 D.nx) D' len Pv a0 a1 a2 a3 a4⟩⟩
section
variable {cells:List (Str×Addr)}
theorem zc{k:Str}{a:Addr}{l:List (Str×Addr)}(h:cells.lookup k=some a)(t: ∀y b,l.lookup y=some b->cells.lookup y=some b): ∀y b,((k,a)::l).lookup y=some b->cells.lookup y=some b:=by
 intro y b e;rw [List.lookup_cons] at e;cases q:(y==k) with
 | true=>
  rw [q] at e;have:y=k:=by simpa using q
  subst this;rw [h];exact e
 | false=>rw [q] at e;exact t y b e
theorem lk0: ∀(y:Str) (b:Addr),([] :List (Str×Addr)).lookup y=some b->cells.lookup y=some b:=fun _ _ h=>nomatch h
end
section
variable {X:Cx}{P:Program}{w:World}
end
end L2
namespace PySem
open PySem.Spec PyProof PyProof.Rows
end PySem
namespace L2
open PySem PySem.Spec PyProof.Rows
section
variable {X:Cx}{K:zSy}{o e:Expr}{to te:TE}{apos cpos:Pos}
theorem zKj(bs:List Bool):(List.range bs.length).any (fun i=>bs.getD i false)=bs.any id:=by
 rw [zTI,List.any_eq_true,List.any_eq_true];constructor
 ·rintro ⟨i,hi,h⟩;have hi':i<bs.length:=by simpa using hi
  rw [zTG,zSF hi'] at h;exact ⟨bs[i],zSk hi',h⟩
 ·rintro ⟨b,hb,h⟩;obtain ⟨i,hi,rfl⟩:=List.mem_iff_getElem.mp hb;exact ⟨i,by simpa using hi,by rw [zTG,zSF hi];exact h⟩
theorem zMa(hc:X.calm=true):yJ X (.builtin "any") (fun xs H Q=> ∃(a:Addr) (bs:List Bool),xs= [.ref a] /\SqL X.K H a (bs.map V.bl)/\Q (.bl (bs.any id)) H):=by
 intro pins s σ H xs us Q I r h;obtain ⟨a,bs,rfl,hq,q⟩:=h;obtain ⟨u,rfl,ru⟩:=yx r;cases ru;obtain ⟨its,rv,p,hz⟩:=I.list hq;have e:=zGV rv;subst e;have hlt:a<s.heap.objs.size:=by
  obtain ⟨o,ho,_⟩:=p.isList;exact zSP ho
 refine call_any_walk (wpAny_pyIter_list p.isList ⟨s.heap.objs.size,_,_,_,_,_,fun i=>bs.getD i false,rfl,Walks.list (show X.A.in1.handled=none from I.ok.hd hc) s.heap.objs.size a (zSN hlt) (bs.map Value.bool).toArray,
  ⟨⟨_,zSY _ rfl,rfl,rfl⟩,p.isList.at fun o z=>zSH _ z⟩,fun i v s' Q' E' hP hQ=>?_,fun h' tk hk=>?_⟩)
 ·have e:v= .bool (bs.getD i false):=by
   have hP':((bs.map Value.bool).toArray)[i]?=some v:=hP;rw [List.getElem?_toArray,zSK] at hP';cases q2:bs[i]? with
   | none=>rw [q2] at hP';cases hP'
   | some b=>
    rw [q2] at hP';rw [zTG,q2];exact (Option.some.inj hP').symm
  subst e;exact zSL hQ
 ·have ez:((bs.map Value.bool).toArray).size=bs.length:=by simp
  refine ⟨.bl (bs.any id),H,?_,?_,q⟩
  ·refine I.kept fun b o z=>hk b o (fun y=>?_) (zSH _ z);have y':b=s.heap.objs.size:=by simpa using y
   exact absurd (y'▸zSP z) (Nat.lt_irrefl _)
  ·show Value.bool _=Value.bool _;rw [ez,zKj]
theorem zLA(hK:X.K=K)(hc:X.calm=true):yJ X (.builtin "any") (fun xs H Q=> ∃(a:Addr) (bs:List Bool),xs= [.ref a] /\SqL K H a (bs.map V.bl)/\Q (.bl (bs.any id)) H):=by
 subst hK;exact zMa hc
end
end L2
namespace Fr
open PySem PySem.Spec PyProof.Rows L2
theorem zAN{P:Program}{w:World}{K:zSy}{mg:Str->Option Value}{base:Heap}{CX:CXT}{N:List Str}{qual:Str}{scope:Scope}{f:Addr}{cd:Value}{A:Around}{outer:List Env}{s₀:Shared}{H₀:Hp}{E:XK}:
  zCB (zAZ CX P w K mg base N qual scope f cd A outer s₀ H₀ E).nox (fun _ _ _ _=>False):=
 ⟨rfl,rfl,rfl,fun σ e s' ok h=>by obtain ⟨_,_,_,_,_,_,_,_,_,_,_,_,_,_,_,q⟩:=h;exact q.elim⟩
end Fr
namespace L2
open PySem PySem.Spec PyProof.Rows
section
variable {P:Program}{w:World}{K:zSy}{mg:Str->Option Value}{base:Heap}{N:List Str}{qual:Str}{scope:Scope}{f:Addr}{cd:Value}{A:Around}{outer:List Env}{s₀:Shared}{H₀:Hp}{E:XK}
end
end L2
namespace PySem
open PySem.Spec
section
variable {M:Model}{A:Around}{E:Value->Shared->Prop}{env:Env}{nm q:Str}{C N:Addr}{bs bm:List Value}{hdct:Bool}{sn:List Str}{sub:List Value}{ab:Bool}{col:Option Bool}{dd:Option Addr}{k0 k1 k2 k3 k5:Option Value}{newId:String}
end
end PySem
namespace L2
open PySem PySem.Spec PyProof.Rows
section
variable {P:Program}{w:World}{K:zSy}{mg:Str->Option Value}{base:Heap}{N:List Str}{qual:Str}{scope:Scope}{f C:Addr}{cd:Value}{A:Around}{outer:List Env}{s₀:Shared}{H₀:Hp}{E:XK}
end
section
variable {X:Cx}{CX:CXT}{k:Nat}{f C:Addr}{fd:FuncData}{ps:List Str}{sp:Sp}{E0:XK}{E:St->XK}{x:Str}{np cpos pos:Pos}{e:Expr}{es:List Expr}{t:TA}
end
section
variable {P:Program}{w:World}{K:zSy}{mg:Str->Option Value}{base:Heap}{N:List Str}{qual:Str}{scope:Scope}{f:Addr}{cd:Value}{A:Around}{outer:List Env}{s₀:Shared}{H₀:Hp}{E:XK}
end
section
variable {X:Cx}{e:Expr}{f:Str}{pos:Pos}{ta:TE}
end
end L2
namespace PySem
open PyProof.Rows
section
variable {prog:Program}{w:World}{K:Type}[DecidableEq K]{knd:KeyKind prog w K}{A:Around}{R:Result->Shared->Prop}{d it l:Addr}{items:Array Value}{ps:List (K×Value)}
end
section
variable {prog:Program}{w:World}{K:Type}[DecidableEq K]{knd:KeyKind prog w K}{A:Around}{E:Value->Shared->Prop}{s:Shared}
end
end PySem
namespace L2
open PySem PySem.Spec PyProof.Rows
section
variable {X:Cx}
end
end L2
namespace PySem
open PyProof.Rows
section
variable {prog:Program}{w:World}{K:Type}[DecidableEq K]{knd:KeyKind prog w K}{A:Around}{E:Value->Shared->Prop}{s:Shared}
end
end PySem
namespace L2
open PySem PySem.Spec PyProof.Rows
section
variable {X:Cx}
end
section
variable {X:Cx}{K:zSy}
end
section
variable {X:Cx}{K:zSy}{o e i value:Expr}{f:Str}{pos pos' apos p:Pos}{ta tv td ty:TE}{CX:CXT}{k:Nat}{g C:Addr}{fd:FuncData}{ps:List Str}{sp:Sp}{dvs:List V}{ds:List Value}{E:XK}{x m:Str}
theorem zu(hK:X.K=K)(he:QE X e ta)(hb:attributeBase e f X.env (eval e X.env)=eval e X.env):QE X (.Attribute e f pos) (zPj K ta f):=by
 subst hK;exact ⟨zPx he.out hb⟩
theorem zBN(hK:X.K=K)(ha:QE X o ta)(hv:QE X value tv)(hs:swapsWith value (some (.Attribute o f pos')) pos.line X.env=pure false):QS X (.Assign [.Attribute o f pos'] value pos) (zQz K ta tv f):=by
 subst hK;exact ⟨zPn ha.out hv.out hs⟩
theorem zPD{pl:Sem Bool}(he:QE X o ta)(c:Cls X.K C)(hm:Meth X.K C m g)(F:FnOk X.prog X.w X.K X.mg X.base CX k g fd ps sp)(hr:Room k X.A)(hb:zK X.K fd ps ds)(hd:zN dvs ds)(hx:zAg CX X E)
  (ht:eval (.Call (.Attribute o m apos) [] [] pos) X.env=(do
   let ov<-eval o X.env
   standAt apos.atName
   let (f,first)<-holding [ov] (getMethod ov m pl)
   callWith pos f first (backTo pos (starEach [] X.env)) (backToKw pos (keywordEach [] X.env)))):
  QE X (.Call (.Attribute o m apos) [] [] pos) (zHJ C m sp dvs E ta zDr):=⟨zMP he.out c hm F hr hb hd hx ht⟩
def zRS(td ty tv:TE):TS:=fun D σ H=>tv σ H fun v H1=>td σ H1 fun x H2=>ty σ H2 fun y H3=>zKQ x y v H3 fun H4=>D.nx σ H4
theorem zQp(ho:QE X o td)(hi:QE X i ty)(hv:QE X value tv)(hs:swapsWith value (some (.Subscript o i pos')) pos.line X.env=pure false):QS X (.Assign [.Subscript o i pos'] value pos) (zRS td ty tv):=by
 refine ⟨fun pins s σ H D I h=>?_⟩;refine wpAny_Assign_Subscript (zS (hv.out pins s σ H _ I h) fun r s1 ⟨v,H1,I1,rv,q1⟩=>zS (ho.out pins s1 σ H1 _ I1 q1) fun u s2 ⟨x,H2,I2,rx,q2⟩=>zS (hi.out pins s2 σ H2 _ I2 q2) fun iv s3 ⟨y,H3,I3,ry,q3⟩=>?_) hs;exact zS (zIP pins s3 σ H3 x y v u iv r _ I3 rx ry rv q3) fun _ s4 ⟨H4,I4,q4⟩=>⟨σ,H4,I4,q4⟩
end
end L2
namespace PySem
open PyProof.Rows
section
variable {prog:Program}{w:World}{K:Type}[DecidableEq K]{knd:KeyKind prog w K}{A:Around}{E:Value->Shared->Prop}{s:Shared}
end
end PySem
namespace L2
open PySem PySem.Spec PyProof.Rows
theorem zEi{M:Model}{A:Around}{E:Value->Shared->Prop}{s:Shared}{scope:Scope}{globals:Addr}{cl:List (Str×Addr)}{qual:Str}{outer:Env}{Q:Env->Shared->Prop}
  (hQ: ∀h',h'=pushCells (s.heap.push {cls:= .type "dict",data:= .dict #[]}) scope.names->h'.Ns s.heap.objs.size (fun _=>none)->
   Q (newEnv scope s.heap.objs.size globals (cellsFrom (s.heap.objs.size+1) scope.names cl) qual none .none (some outer) builtinsNs) {s with heap:=h',toks:=s.toks+([] :List (Str×Value)).length}):
  wpAny M A (newFunctionEnv scope globals cl [] qual none .none (some outer)) Q E s:=by
 simp only [newFunctionEnv,Option.isSome_some,if_true];refine zSG (wpAny_alloc ?_);refine zSG (wpAny_layCells _ (fun name kind cells=>by cases hkc:kind==NameKind.cell<;>simp [hkc]) _ _ _ _ ?_);rw [show ({s with heap:=s.heap.push {cls:= .type "dict",data:= .dict #[]}}:Shared).heap.objs.size=s.heap.objs.size+1 from Heap.size_push ..];refine zSG ?_;rw [List.forIn_nil];refine zSL (zSL ?_);exact hQ _ rfl ((Heap.Ns.new s.heap (.type "dict")).keeps (pushCells_keeps _ _))
theorem zBf: ∀(names:List (Str×NameKind)) (h:Heap) (acc:List (Str×Addr)) (y:Str) (a:Addr),(cellsFrom h.objs.size names acc).lookup y=some a->acc.lookup y=some a\/(@LE.le Nat _ h.objs.size a/\(pushCells h names).IsCell a none)
 | [],h,acc,y,a,e=> .inl e
 |(name,kind)::r,h,acc,y,a,e=>by
  unfold cellsFrom at e;unfold pushCells;split at e
  ·rename_i hk
   rw [if_pos hk];have ih:=zBf r (h.push {cls:= .type "cell",data:= .cell none}) ((name,h.objs.size)::acc) y a (by rw [Heap.size_push];exact e);rcases ih with z |⟨z1,z2⟩
   ·rw [List.lookup_cons] at z;split at z
    ·cases z;exact .inr ⟨zSJ _,⟨_,pushCells_keeps r _ _ _ (zSY h rfl),rfl⟩⟩
    ·exact .inl z
   ·rw [Heap.size_push] at z1;exact .inr ⟨Nat.le_of_succ_le z1,z2⟩
  ·rename_i hk
   rw [if_neg hk];exact zBf r h acc y a e
theorem zCf: ∀(names:List (Str×NameKind)) (b:Nat) (acc:List (Str×Addr)),(∀y a,acc.lookup y=some a-> @LT.lt Nat _ a b)->(∀y z a,acc.lookup y=some a->acc.lookup z=some a->y=z)->
  ∀y z a,(cellsFrom b names acc).lookup y=some a->(cellsFrom b names acc).lookup z=some a->y=z
 | [],b,acc,_,hi=>hi
 |(name,kind)::r,b,acc,hb,hi=>by
  unfold cellsFrom;split
  ·refine zCf r (b+1) ((name,b)::acc) (fun y a e=>?_) (fun y z a e1 e2=>?_)
   ·rw [List.lookup_cons] at e;split at e
    ·cases e;exact Nat.lt_succ_self _
    ·exact Nat.lt_succ_of_lt (hb y a e)
   ·rw [List.lookup_cons] at e1 e2;split at e1<;>split at e2
    ·rename_i b1 h1 b2 h2
     rw [beq_iff_eq] at h1 h2;rw [h1,h2]
    ·cases e1;exact absurd (hb z _ e2) (Nat.lt_irrefl _)
    ·cases e2;exact absurd (hb y _ e1) (Nat.lt_irrefl _)
    ·exact hi y z a e1 e2
  ·exact zCf r b acc hb hi
theorem zCZ: ∀(names:List (Str×NameKind)) (b:Nat) (acc:List (Str×Addr)) (lo:Nat) (x:Str),lo<=b->(names.lookup x=some .cell\/ ∀c,acc.lookup x=some c-> @LE.le Nat _ lo c)-> ∀c,(cellsFrom b names acc).lookup x=some c-> @LE.le Nat _ lo c
 | [],b,acc,lo,x,_,h,c,e=>by
  rcases h with h | h
  ·cases h
  ·exact h c e
 |(name,kind)::r,b,acc,lo,x,hb,h,c,e=>by
  unfold cellsFrom at e;split at e
  ·rename_i hk
   refine zCZ r (b+1) ((name,b)::acc) lo x (Nat.le_succ_of_le hb) ?_ c e;by_cases hx:(x==name)=true
   ·refine .inr fun c' e'=>?_;rw [List.lookup_cons,hx] at e';cases e';exact hb
   ·have hx':(x==name)=false:=by simpa using hx
    rcases h with h | h
    ·rw [List.lookup_cons,hx'] at h;exact .inl h
    ·refine .inr fun c' e'=>?_;rw [List.lookup_cons,hx'] at e';exact h c' e'
  ·rename_i hk
   refine zCZ r b acc lo x hb ?_ c e;rcases h with h | h
   ·rw [List.lookup_cons] at h;split at h
    ·cases h;exact absurd rfl hk
    ·exact .inl h
   ·exact .inr h
abbrev Cx.compN(X:Cx)(scope:Scope)(cl:List (Str×Addr))(C:Addr)(N:List Str)(s₂:Shared)(H₂:Hp)(fp:List Addr):Cx:=
 {X.comp scope (cellsFrom (C+1) scope.names cl) C N s₂ H₂ fp with fn:=fun x=>scope.names.lookup x==some .cell}
theorem zMp{X:Cx}{elt iter tg:Expr}{ifs:List Expr}{zs:List Str}{pos:Pos}{scope:Scope}{cl:List (Str×Addr)}{ys:List Str}{fr:List Nat}{wi:TI}{g:TG}{tt:TT}{te:TE}(hcm:X.calm=true)
  (hi:PI X tg iter wi) (hclos:closureFor scope X.env=pure cl) (hkind:scope.kind= .function) (hnames: ∀y∈scope.names,y.2= .local->scope.names.lookup y.1=some .local)
  (hcl: ∀y a,cl.lookup y=some a->X.env.cells.lookup y=some a)
  (hlen:ys.length=fr.length) (hfr: ∀(j:Nat) y i,ys[j]?=some y->fr[j]?=some i->X.N[i]?=some y/\X.env.kindOf y=some .cell/\(relabel scope X.env).names.lookup y=some .cell/\ ∃a,(∀C:Addr,(cellsFrom (C+1) scope.names cl).lookup y=some a)/\X.env.cells.lookup y=some a)
  (hhas: ∀C:Addr,∀y,((relabel scope X.env).names.lookup y=some .cell\/(relabel scope X.env).names.lookup y=some .free)-> ∃a,(cellsFrom (C+1) scope.names cl).lookup y=some a)
  (hg: ∀C s₂ H₂ fp,PG (X.compN scope cl C (zs++ys) s₂ H₂ fp) tg g) (hc: ∀C s₂ H₂ fp,PTs (X.compN scope cl C (zs++ys) s₂ H₂ fp) ifs tt) (he: ∀C s₂ H₂ fp,PE (X.compN scope cl C (zs++ys) s₂ H₂ fp) elt te) (hs: ∀v,foldedSetIterable iter X.env v=pure v:=by intro _;rfl):
  PE X (.ListComp elt [⟨tg,iter,ifs,0⟩] scope pos) (zCW wi g tt te zs.length fr):=by
 intro pins s σ H Q I h;rw [eval_ListComp];refine wpAny_comprehension_free (use:=none) rfl hs hclos hkind hnames (zS (hi pins s σ H _ I h) fun v s1 h1=>zS h1 fun itv s2 h2=>?_);obtain ⟨it,fp,tn,J,H2,e,I2,T,st2,f2,h2⟩:=h2;subst e;have hD:H2 s2.heap.objs.size=none:=I2.hok.fresh (zSJ _);obtain ⟨W,⟨m0,w0⟩,turn⟩:=h2 s2.heap.objs.size hD;refine wpAny_newObj_type (zEi (fun h₁ hh₁ hns₁=>?_));dsimp only at hh₁ hns₁⊢;generalize hH3:s2.heap.push {cls:= .type "list",dict:=none,data:= .seq ([] :List Value).toArray}=H3 at hh₁ hns₁⊢;have hCs:H3.objs.size=s2.heap.objs.size+1:=by rw [<-hH3,Heap.size_push]
 have old: ∀b o,s2.heap.get? b=some o->h₁.get? b=some o:=fun b o e=>
  hh₁▸pushCells_keeps _ _ b o (zSH _ (hH3▸zSH _ e))
 have hacc:h₁.get? s2.heap.objs.size=some {cls:= .type "list",dict:=none,data:= .seq ([] :List Value).toArray}:=
  hh₁▸pushCells_keeps _ _ _ _ (zSH _ (hH3▸zSY _ rfl))
 have fplt: ∀b∈fp,@LT.lt Nat _ b s2.heap.objs.size:=fun b hb=>by
  obtain ⟨o,e,_⟩:=T.obj _ _ st2 b hb;exact zz e
 have hCz:(H3.push {cls:= .type "dict",data:= .dict #[]}).objs.size=H3.objs.size+1:=Heap.size_push ..;have clt: ∀y a,cl.lookup y=some a-> @LT.lt Nat _ a s2.heap.objs.size:=fun y a e=>by
  obtain ⟨v,o,ho,hd⟩:=I2.cell y a (hcl y a e);exact zz ho
 have csp: ∀y a,(cellsFrom (H3.objs.size+1) scope.names cl).lookup y=some a->cl.lookup y=some a\/(@LE.le Nat _ (H3.objs.size+1) a/\h₁.IsCell a none):=fun y a e=>by
  have z:=zBf scope.names (H3.push {cls:= .type "dict",data:= .dict #[]}) cl y a (by rw [hCz];exact e);rw [hCz] at z;rw [hh₁];exact z
 have okC:(X.compN scope cl H3.objs.size (zs++ys) s2 H2 fp).Ok:=by
  refine ⟨I2.ok.mod,hkind,I2.ok.glob,I2.ok.blt,?_,zCf scope.names (H3.objs.size+1) cl (fun y a e=>zSO (clt y a e) (by omega)) (fun y z a h1 h2=>I2.ok.inj y z a (hcl y a h1) (hcl z a h2)),fun y hy=>hhas _ y hy,fun y a z e=>zCZ scope.names (H3.objs.size+1) cl s2.heap.objs.size y (by omega) (.inl (by simpa using z)) a e,I2.ok.hd,I2.ok.frames,.inl rfl,fun b hb=>⟨?_,fun y a e z=>?_⟩,I2.bs,zST I2.ok.bsz I2.sz,fun b o e hb=>?_,fun b hb z=>?_,I2.stack,I2.stkFree⟩
  ·show s2.heap.objs.size<=H3.objs.size;omega
  ·show b≠H3.objs.size;have:=fplt b hb;exact zSN (by omega)
  ·rcases csp y a e with e |⟨e,_⟩
   ·exact (f2 b hb).2.2.2.2.1 y a (hcl y a e) z
   ·have:=fplt b hb;rw [<-z] at this;have e': @LE.le Nat _ (H3.objs.size+1) a:=e;omega
  ·rcases (f2 b hb).2.2.2.1 with z | z
   ·exact I2.ok.noex b o e z
   ·have z': @LE.le Nat _ X.s₀.heap.objs.size b:=z;have: @LT.lt Nat _ b X.base.objs.size:=zz e;have:=I2.ok.bsz;omega
  ·rcases zSz.mp (I2.stkSub b z) with y | y
   ·exact (f2 b hb).2.1 y
   ·exact (f2 b hb).2.2.1 y
 have fpok: ∀{H':Hp},(∀b∈fp,H' b=none)-> ∀b∈fp,zBD (X.compN scope cl H3.objs.size (zs++ys) s2 H2 fp) [] H' b:=fun hn b hb=>
  ⟨hn b hb,(okC.exf b hb).1,okC.exfs b hb,.inl hb,(okC.exf b hb).2,fun p hp=>absurd hp (by simp)⟩
 have start:Inv (X.compN scope cl H3.objs.size (zs++ys) s2 H2 fp) [] (List.replicate zs.length none++zY fr σ) (upd H2 s2.heap.objs.size (.lst [])) {s2 with heap:=h₁,toks:=s2.toks+([] :List (Str×Value)).length}:=by
  refine ⟨okC,rfl,I2.bare,Un.laid old (zSJ _) hD,⟨_,hns₁,fun j y v e1 e2 e3=>?_⟩,fun y a e=>?_,?_,fun y a e=>?_,fun p hp=>absurd hp (by simp),I2.hok.laid old (zSJ _) ⟨zSU _,[],_,.nil,hacc⟩,?_⟩
  ·by_cases hj:j<zs.length
   ·rw [List.getElem?_append_left (by simpa using hj),List.getElem?_replicate] at e2;rw [if_pos hj] at e2;cases e2
   ·obtain ⟨j,rfl⟩: ∃k,j=zs.length+k:=⟨j - zs.length,by omega⟩;have e1':ys[j]?=some y:=by
     have z:=e1;simp only [Cx.comp] at z;rw [List.getElem?_append_right (by omega)] at z;simpa using z
    have e2':(zY fr σ)[j]?=some (some v):=by
     rw [List.getElem?_append_right (by simp)] at e2;simpa using e2
    unfold zY at e2';rw [zSK] at e2';cases q:fr[j]? with
    | none=>rw [q] at e2';cases e2'
    | some i=>
     rw [q] at e2';have e4:(σ[i]?).getD none=some v:=Option.some.inj e2';have e5:σ[i]?=some (some v):=by
      cases q2:σ[i]? with
      | none=>rw [q2] at e4;cases e4
      | some z=>rw [q2] at e4;exact congrArg some e4
     obtain ⟨hN,hk,hl,a,ha,ha'⟩:=hfr j y i e1' q;obtain ⟨m,_,hl2⟩:=I2.loc;obtain ⟨u,r,l⟩:=hl2 i y v hN e5 (.inr (.inl hk));refine ⟨u,r,.inr ⟨.inl hl,a,ha _,?_⟩⟩;rcases l with ⟨k,_⟩|⟨_,a2,ea,z⟩
     ·rw [hk] at k;cases k
     ·rw [ha'] at ea;cases ea;obtain ⟨o,ho,hd⟩:=z;exact ⟨o,old _ _ ho,hd⟩
  ·rcases csp y a e with e |⟨_,e⟩
   ·obtain ⟨v,o,ho,hd⟩:=I2.cell y a (hcl y a e);exact ⟨v,o,old _ _ ho,hd⟩
   ·exact ⟨none,e⟩
  ·show upd H2 s2.heap.objs.size (.lst []) H3.objs.size=none;rw [zI (by first | exact zSN (by omega)| exact zSq (by omega))];exact I2.hok.fresh (by omega)
  ·rcases csp y a e with e |⟨e,_⟩
   ·have:=clt y a e;rw [zI (by first | exact zSN (by omega)| exact zSq (by omega))];exact I2.freeC y a (hcl y a e)
   ·have e': @LE.le Nat _ (H3.objs.size+1) a:=e;rw [zI (by first | exact zSN (by omega)| exact zSq (by omega))];exact I2.hok.fresh (by show @LE.le Nat _ s2.heap.objs.size a;omega)
  ·show (List.replicate zs.length none++zY fr σ).length=(zs++ys).length;unfold zY;simp [hlen]
 have loop: ∀s₃:Shared,s₃={s2 with heap:=h₁,toks:=s2.toks+([] :List (Str×Value)).length}->
   codeAny (model X.prog X.w) X.A (.compLoop (.ListComp elt [⟨tg,iter,ifs,0⟩] scope pos) 0 (.ref it) (.ref s2.heap.objs.size) (compEnvC scope (cellsFrom (H3.objs.size+1) scope.names cl) H3.objs.size X.env)) (compPost (model X.prog X.w) X.A X.xe none (EP X pins σ Q) (.ref s2.heap.objs.size) H3.objs.size) s₃:=by
  rintro s₃ rfl;refine zFP (fun n s'=> ∃i pre ys' H',pre.length=zs.length/\Inv (X.compN scope cl H3.objs.size (zs++ys) s2 H2 fp) [] (pre++zY fr σ) H' s'/\tn i s'.heap/\(∀b∈fp,H' b=none)/\W i n ys' H') ?_ m0
   ⟨0,List.replicate zs.length none,[],_,by simp,start,T.keep _ _ _ st2 fun b hb o e=>old b o e,fun b hb=>by
    have:=fplt b hb;rw [zI (by first | exact zSN (by omega)| exact zSq (by omega))];exact (f2 b hb).1,w0⟩
  rintro n s3 ⟨i,pre,ys3,H',hpl,I3,st3,fr3,w3⟩;obtain ⟨hl3,alt⟩:=turn i n ys3 H' w3;rcases alt with ⟨stop,qn⟩|⟨go,hz,N,hN,step⟩
  ·refine zSa (T.done (X.compN scope cl H3.objs.size (zs++ys) s2 H2 fp) rfl rfl rfl hcm i [] s3 _ H' (fun _ _=>False) I3 (fpok fr3) st3 stop) (fun r s4 h4=>?_) fun _ _ z=>z.elim;obtain ⟨hr,I4⟩:=h4;subst hr;obtain ⟨m4,hn4,_⟩:=id I4.loc;refine ⟨m4,hn4,fun h'' hs''=>?_⟩;have hb: ∀b o,b≠H3.objs.size->s4.heap.get? b=some o->h''.get? b=some o:=fun b o hb e=>(hs''.2 b hb).trans e;have I5:Inv X pins σ H' {s4 with heap:=h''}:=by
    refine I2.call' (s':={s4 with heap:=h''}) (ch:=fp) I4.os ⟨fun b o e n hb' hx'=>?_,fun b o e n hb' hx'=>?_,fun b o e n hx'=>I4.base.free b o e n hx',fun b o e hx'=>?_,I4.base.tups,I4.base.frzs,I4.base.tbls⟩ (fun b u e=>?_) I4.bare fun b hb'=>⟨(f2 b hb').2.2.2.1,(f2 b hb').2.1,(f2 b hb').2.2.2.2.1,(f2 b hb').2.2.2.2.2⟩
    ·exact hb b o (zSN (by have:=zz e;omega)) (I4.base.keep b o e n hb' hx')
    ·obtain ⟨sl,q⟩:=I4.base.slot b o e n hb' hx';exact ⟨sl,hb b _ (zSN (by have:=zz e;omega)) q⟩
    ·obtain ⟨o',q⟩:=I4.base.there b o e hx';exact ⟨o',hb b _ (zSN (by have:=zz e;omega)) q⟩
    ·refine (I4.hok b u e).stay (fun c' w' hc' q=>hb c' w' ?_ q) (fun _ q=>q) fun _ _ q=>q;intro z;have fz:H' H3.objs.size=none:=I4.free;rcases hc' with y | y
     ·rw [<-y,z,fz] at e;cases e
     ·rw [z,fz] at y;cases y
   exact ⟨.ref s2.heap.objs.size,H',I5,rfl,qn⟩
  ·refine zSa (T.item (X.compN scope cl H3.objs.size (zs++ys) s2 H2 fp) rfl rfl rfl hcm i [] s3 _ H' (fun _ _=>False) I3 (fpok fr3) st3 go) (fun r s4 h4=>?_) fun _ _ z=>z.elim;obtain ⟨u,hr,h4⟩:=h4;subst hr;dsimp only;have asg:wpAny (model X.prog X.w) X.A (letOwnedTupleGo tg (.ref it) u) (fun _ s5=>wpAny (model X.prog X.w) X.A (assign tg (compEnvC scope (cellsFrom (H3.objs.size+1) scope.names cl) H3.objs.size X.env) u)
     (fun _ s6=> ∃σ5 H6,(∃pn5,Inv (X.compN scope cl H3.objs.size (zs++ys) s2 H2 fp) pn5 σ5 H6 s6/\(∀b∈fp,∃o,(b,o)∈pn5))/\((∃zi:St,zi.length=zs.length/\σ5=zi++zY fr σ)/\
      tt σ5 H6 fun b H3'=>if b=true then te σ5 H3' fun y H4=>H4 s2.heap.objs.size=some (.lst ys3)/\N (ys3++ [y]) (upd H4 s2.heap.objs.size (.lst (ys3++ [y]))) else N ys3 H3')/\tn (i+1) s6.heap/\ ∀b∈fp,H6 b=none) (fun _ _=>False) s5) (fun _ _=>False) s4:=by
    refine (zS h4 fun _ s5 ⟨x5,H5,I5,r5,y5,st5,fr5⟩=>?_);have I5':=I5.pinned (fpok fr5) (T.obj _ _ st5);refine zSa (hg _ _ _ _ _ s5 _ H5 x5 u _ I5' r5 (step x5 H5 y5 pre hpl)) (fun _ s6 ⟨σ6,H6,I6,q6⟩=>?_) fun _ _ z=>z.elim;exact ⟨σ6,H6,⟨_,I6,fun b hb=>by
     obtain ⟨o,e,_⟩:=T.obj _ _ st5 b hb;exact ⟨o,zSV _ (yH hb e)⟩⟩,q6,T.keep _ _ _ st5 fun b hb o e=>(I6.pin (b,o) (zSV _ (zSV _ (yH hb e)))).1,fun b hb=>by
     obtain ⟨o,e,_⟩:=T.obj _ _ st5 b hb;exact (I6.pin (b,o) (zSV _ (zSV _ (yH hb e)))).2.1⟩
   refine zSa asg (fun _ s5 h5=>zSa h5 (fun _ s6 h6=>?_) fun _ _ z=>z.elim) fun _ _ z=>z.elim;obtain ⟨σ5,H5,⟨pn5,I6,hp6⟩,⟨⟨zi,hl2,rfl⟩,q6⟩,st6,fr5⟩:=h6;have keepTurn: ∀{σ7:St} {H7:Hp} {s7:Shared},Inv (X.compN scope cl H3.objs.size (zs++ys) s2 H2 fp) pn5 σ7 H7 s7->tn (i+1) s7.heap/\ ∀b∈fp,H7 b=none:=fun {σ7 H7 s7} I7=>by
    refine ⟨T.keep _ _ _ st6 fun b hb o e=>?_,fun b hb=>?_⟩
    ·obtain ⟨o',hm⟩:=hp6 b hb;have a1:=(I6.pin (b,o') (zSV _ hm)).1;rw [e] at a1;cases a1;exact (I7.pin (b,_) (zSV _ hm)).1
    ·obtain ⟨o',hm⟩:=hp6 b hb;exact (I7.pin (b,o') (zSV _ hm)).2.1
   have drop: ∀{σ7:St} {H7:Hp} {s7:Shared},Inv (X.compN scope cl H3.objs.size (zs++ys) s2 H2 fp) pn5 σ7 H7 s7->Inv (X.compN scope cl H3.objs.size (zs++ys) s2 H2 fp) [] σ7 H7 s7:=fun I7=>I7.pins_of fun p hp=>absurd hp (by simp);have tests:wpAny (model X.prog X.w) X.A (zBJ ifs (compEnvC scope (cellsFrom (H3.objs.size+1) scope.names cl) H3.objs.size X.env)) (fun b s7=> ∃H7,Inv (X.compN scope cl H3.objs.size (zs++ys) s2 H2 fp) pn5 (zi++zY fr σ) H7 s7/\
     (if b=true then te (zi++zY fr σ) H7 fun y H4=>H4 s2.heap.objs.size=some (.lst ys3)/\N (ys3++ [y]) (upd H4 s2.heap.objs.size (.lst (ys3++ [y]))) else N ys3 H7)) (fun _ _=>False) s6:=by
    rcases hc H3.objs.size s2 H2 fp with ⟨rfl,rfl⟩|⟨c,rfl,hc2⟩
    ·exact wpAny_tests_nil ⟨H5,I6,q6⟩
    ·exact wpAny_tests_one (zSa (hc2 pn5 s6 _ H5 _ I6 q6) (fun b s7 ⟨H7,I7,q7⟩=>⟨H7,I7,q7⟩) fun _ _ z=>z.elim)
   refine zSa tests (fun b s7 h7=>?_) fun _ _ z=>z.elim;obtain ⟨H7,I7,q7⟩:=h7;cases b with
   | false=>
    obtain ⟨m',hm,w'⟩:=hN _ _ q7;obtain ⟨k1,k2⟩:=keepTurn I7;exact ⟨m',hm,i+1,zi,ys3,H7,hl2,drop I7,k1,k2,w'⟩
   | true=>
    refine zSa (he _ _ _ _ pn5 s7 _ H7 _ I7 q7) (fun y s8 h8=>?_) fun _ _ z=>z.elim;obtain ⟨yv,H8,I8,r8,hl8,n8⟩:=h8;refine zSa (zBj (X:=X.compN scope cl H3.objs.size (zs++ys) s2 H2 fp) pn5 s8 _ H8 (.ref s2.heap.objs.size) [yv] (.ref s2.heap.objs.size) [y] (fun z H9=>N (ys3++ [yv]) H9) I8 rfl (.cons r8 .nil) ⟨s2.heap.objs.size,ys3,yv,rfl,rfl,hl8,hz,n8⟩) (fun _ s9 h9=>?_) fun _ _ z=>z.elim;obtain ⟨_,H9,I9,_,n9⟩:=h9;obtain ⟨m',hm,w'⟩:=hN _ _ n9;obtain ⟨k1,k2⟩:=keepTurn I9;exact ⟨m',hm,i+1,zi,ys3++ [yv],H9,hl2,drop I9,k1,k2,w'⟩
 exact codeAny_compStart_list (loop _ rfl) (T.self X.A 0 _ _ _ (T.keep _ _ _ st2 fun b hb o e=>old b o e) (loop _ rfl))
theorem zND{X:Cx}{elt iter tg:Expr}{ifs:List Expr}(zs:List Str){pos:Pos}{scope:Scope}{cl:List (Str×Addr)}(ys:List Str)(fr:List Nat){wi:TI}{g:TG}{tt:TT}{te:TE}(hcm:X.calm=true)
  (hi:QI X tg iter wi) (hclos:closureFor scope X.env=pure cl) (hkind:scope.kind= .function) (hnames: ∀y∈scope.names,y.2= .local->scope.names.lookup y.1=some .local)
  (hcl: ∀y a,cl.lookup y=some a->X.env.cells.lookup y=some a)
  (hlen:ys.length=fr.length) (hfr: ∀(j:Nat) y i,ys[j]?=some y->fr[j]?=some i->X.N[i]?=some y/\X.env.kindOf y=some .cell/\(relabel scope X.env).names.lookup y=some .cell/\ ∃a,(∀C:Addr,(cellsFrom (C+1) scope.names cl).lookup y=some a)/\X.env.cells.lookup y=some a)
  (hhas: ∀C:Addr,∀y,((relabel scope X.env).names.lookup y=some .cell\/(relabel scope X.env).names.lookup y=some .free)-> ∃a,(cellsFrom (C+1) scope.names cl).lookup y=some a)
  (hg: ∀C s₂ H₂ fp,QG (X.compN scope cl C (zs++ys) s₂ H₂ fp) tg g) (hc: ∀C s₂ H₂ fp,QTs (X.compN scope cl C (zs++ys) s₂ H₂ fp) ifs tt) (he: ∀C s₂ H₂ fp,QE (X.compN scope cl C (zs++ys) s₂ H₂ fp) elt te) (hs: ∀v,foldedSetIterable iter X.env v=pure v):
  QE X (.ListComp elt [⟨tg,iter,ifs,0⟩] scope pos) (zCW wi g tt te zs.length fr):=
 ⟨zMp hcm hi.out hclos hkind hnames hcl hlen hfr hhas (fun C s H f=>(hg C s H f).out) (fun C s H f=>(hc C s H f).out) (fun C s H f=>(he C s H f).out) hs⟩
theorem zOi{X:Cx}{elt iter tg:Expr}{ifs:List Expr}(zs:List Str){pos:Pos}{scope:Scope}{cl:List (Str×Addr)}(ys:List Str)(fr:List Nat){wi:TI}{g:TG}{tt:TT}{te:TE}(hcm:X.calm=true)
  (hi:QI X tg iter wi) (hclos:closureFor scope X.env=pure cl) (hkind:scope.kind= .function) (hnames: ∀y∈scope.names,y.2= .local->scope.names.lookup y.1=some .local)
  (hcl: ∀y a,cl.lookup y=some a->X.env.cells.lookup y=some a)
  (hlen:ys.length=fr.length) (hfr: ∀(j:Nat) y i,ys[j]?=some y->fr[j]?=some i->X.N[i]?=some y/\X.env.kindOf y=some .cell/\(relabel scope X.env).names.lookup y=some .cell/\ ∃a,(∀C:Addr,(cellsFrom (C+1) scope.names cl).lookup y=some a)/\X.env.cells.lookup y=some a)
  (hhas: ∀C:Addr,∀y,((relabel scope X.env).names.lookup y=some .cell\/(relabel scope X.env).names.lookup y=some .free)-> ∃a,(cellsFrom (C+1) scope.names cl).lookup y=some a)
  (hg: ∀C s₂ H₂ fp,QG (X.compN scope cl C (zs++ys) s₂ H₂ fp) tg g) (hc: ∀C s₂ H₂ fp,QTs (X.compN scope cl C (zs++ys) s₂ H₂ fp) ifs tt) (he: ∀C s₂ H₂ fp,QE (X.compN scope cl C (zs++ys) s₂ H₂ fp) elt te) (hs: ∀v,foldedSetIterable iter X.env v=pure v):
  QE X (.ListComp elt [⟨tg,iter,ifs,0⟩] scope pos) (zHh wi g tt te zs.length fr):=
 zNr (zND zs ys fr hcm (zFa hi) hclos hkind hnames hcl hlen hfr hhas hg hc he hs) fun σ H Q h=>⟨_,h,fun J H1 h1 D hD=>by
  obtain ⟨len,Pv,a0,a1,a2,a3,a4⟩:=(h1 D hD).ex;exact zDR D len Pv a0 a1 a2 a3 a4⟩
def Itz(K:zSy)(a b:Addr):It:=
 ⟨fun i H=> ∃xs ys x y,SqL K H a xs/\SqL K H b ys/\xs[i]?=some x/\ys[i]?=some y,fun i H v H'=> ∃t x y,(∀xs,SqL K H a xs->xs[i]?=some x)/\(∀ys,SqL K H b ys->ys[i]?=some y)/\H t=none/\v= .ref t/\H'=upd H t (.tup [x,y]),
  fun i H=> ∃xs ys,SqL K H a xs/\SqL K H b ys/\(xs.length<=i\/ys.length<=i)⟩
theorem zMx{P:Program}{w:World}{K:zSy}{elts:List Expr}{x1}{pos:Pos}(l1 l2 z TI TO i1 i2:Addr)(D:ZipApart z TI TO i1 i2 l1 l2):
  Turn P w K (.Tuple elts x1 pos) (Itz K l1 l2) [z,TI,TO,i1,i2] z (fun i h=>IsZip h z TI TO .none/\IsPair h TI (.ref i1) (.ref i2)/\(∃a b,IsPair h TO a b)/\h.IsListIter i1 l1 i/\h.IsListIter i2 l2 i) where
 mem:=by simp
 obj:=fun i h st b hb=>by
  obtain ⟨e1,e2,⟨a,b',e3⟩,⟨o4,e4,c4,d4⟩,⟨o5,e5,c5,d5⟩⟩:=st;simp only [zSz,zTJ,or_false] at hb;rcases hb with rfl | rfl | rfl | rfl | rfl
  ·exact ⟨_,e1,fun v z=>by have z':Data.fields _=Data.cell v:=z;cases z'⟩
  ·exact ⟨_,e2,fun v z=>by have z':Data.seq _=Data.cell v:=z;cases z'⟩
  ·exact ⟨_,e3,fun v z=>by have z':Data.seq _=Data.cell v:=z;cases z'⟩
  ·exact ⟨o4,e4,fun v z=>by rw [d4] at z;cases z⟩
  ·exact ⟨o5,e5,fun v z=>by rw [d5] at z;cases z⟩
 keep:=fun i h h' st k=>by
  obtain ⟨e1,e2,⟨a,b',e3⟩,e4,e5⟩:=st;exact ⟨k z (by simp) _ e1,k TI (by simp) _ e2,⟨a,b',k TO (by simp) _ e3⟩,e4.at fun o e=>k i1 (by simp) o e,e5.at fun o e=>k i2 (by simp) o e⟩
 item:=by
  intro X hP hw hK hc i pins s σ H E I hf st hg;subst hP hw hK;obtain ⟨xs,ys,x,y,hq1,hq2,hx,hy⟩:=hg;obtain ⟨hz,hTI,⟨a0,b0,hTO⟩,hi1,hi2⟩:=st;obtain ⟨its1,rv1,p1,hz1⟩:=I.list hq1;obtain ⟨its2,rv2,p2,hz2⟩:=I.list hq2;obtain ⟨u,hu,ru⟩:=rv1.get hx;obtain ⟨v,hv,rv⟩:=rv2.get hy;refine wpAny_pyNext_zip_item D hz hTI hTO hi1 hi2 p1.isList p2.isList (x:=u) (y:=v) (by simpa using hu) (by simpa using hv) fun h1 hzo hTO1 hit1 hit2 ht hsz hk=>⟨_,rfl,?_⟩;refine wpAny_letOwnedTupleGo_zip hzo fun h2 he2 hs2=>?_;have lts: ∀c o,s.heap.get? c=some o->s.heap.objs.size≠c:=fun c o e=>zSq (zSP e);have nz:=lts _ _ hz;have nTI:=lts _ _ hTI;have nTO:=lts _ _ hTO;have ni1:s.heap.objs.size≠i1:=by obtain ⟨o,e,_⟩:=hi1;exact lts _ _ e
  have ni2:s.heap.objs.size≠i2:=by obtain ⟨o,e,_⟩:=hi2;exact lts _ _ e
  replace hs2:Heap.SameBut z h1 h2:=hs2;have new:h2.get? s.heap.objs.size=some {cls:= .type "tuple",data:= .seq #[u,v]}:=(hs2.2 _ nz).trans ht;have I1:Inv X pins σ (upd H s.heap.objs.size (.tup [x,y])) {s with heap:=s.heap.push {cls:= .type "tuple",data:= .seq #[u,v]},toks:=s.toks}:=
   I.laid (fun b q e=>zSH _ e) (zSJ _) ⟨by show 2<=sizeLine;decide,[u,v],.cons ru (.cons rv .nil),_,zSY _ rfl,rfl,⟨_,rfl⟩,rfl⟩
  have nfp: ∀b∈ [z,TO,i1,i2],b≠s.heap.objs.size:=fun b hb=>by
   simp only [zSz,zTJ,or_false] at hb;rcases hb with rfl | rfl | rfl | rfl
   ·exact Ne.symm nz
   ·exact Ne.symm nTO
   ·exact Ne.symm ni1
   ·exact Ne.symm ni2
  have I2:=Inv.turnedL (h':=h2) (t':=s.toks) (ch:= [z,TO,i1,i2]) I1 (fun b q hb e=>by
   simp only [zSz,zTJ,or_false,not_or] at hb;obtain ⟨b1,b2,b3,b4⟩:=hb;replace e:(s.heap.push {cls:= .type "tuple",data:= .seq #[u,v]}).get? b=some q:=e;by_cases hbs:b=s.heap.objs.size
   ·subst hbs;rw [zSY _ rfl] at e;cases e;exact new
   ·rw [Heap.get?_push_ne _ _ _ hbs] at e;exact (hs2.2 b b1).trans (hk b q b1 b2 b3 b4 e)) (fun b hb=>(hf b (by simp only [zSz,zTJ,or_false] at hb⊢;rcases hb with r | r | r | r<;>simp [r])).upd (nfp b hb))
  refine ⟨.ref s.heap.objs.size,_,I2,rfl,⟨_,x,y,fun zs hzs=>by rw [I.list_inj hzs hq1];exact hx,fun zs hzs=>by rw [I.list_inj hzs hq2];exact hy,I.hok.fresh (zSJ _),rfl,rfl⟩,
   ⟨he2,(hs2.2 _ D.TIz).trans (hk _ _ D.TIz D.TITO D.TIi1 D.TIi2 hTI),⟨u,v,(hs2.2 _ D.TOz).trans hTO1⟩,hit1.at fun o e=>(hs2.2 _ D.i1z).trans e,hit2.at fun o e=>(hs2.2 _ D.i2z).trans e⟩,fun b hb=>?_⟩
  have hb':b≠s.heap.objs.size:=by
   simp only [zSz,zTJ,or_false] at hb;rcases hb with rfl | rfl | rfl | rfl | rfl
   ·exact Ne.symm nz
   ·exact Ne.symm nTI
   ·exact Ne.symm nTO
   ·exact Ne.symm ni1
   ·exact Ne.symm ni2
  rw [zI hb'];exact (hf b hb).1
 done:=by
  intro X hP hw hK hc i pins s σ H E I hf st hg;subst hP hw hK;obtain ⟨xs,ys,hq1,hq2,hx⟩:=hg;obtain ⟨hz,hTI,⟨a0,b0,hTO⟩,hi1,hi2⟩:=st;obtain ⟨its1,rv1,p1,hz1⟩:=I.list hq1;obtain ⟨its2,rv2,p2,hz2⟩:=I.list hq2;have hl1:=rv1.length;have hl2:=rv2.length;refine wpAny_pyNext_zip_end (I.ok.hd hc) D hz hTI hTO hi1 hi2 p1.isList p2.isList (hx.imp (fun h=>by simp;omega) (fun h=>by simp;omega)) fun h' hk=>⟨rfl,?_⟩;exact Inv.turnedL (h':=h') (t':=s.toks) (ch:= [z,TO,i1,i2]) I (fun b q hb e=>by
   simp only [zSz,zTJ,or_false,not_or] at hb;obtain ⟨b1,b2,b3,b4⟩:=hb;exact hk b q b1 b2 b3 b4 e) (fun b hb=>hf b (by simp only [zSz,zTJ,or_false] at hb⊢;rcases hb with r | r | r | r<;>simp [r]))
 self:=fun A i s Q E st h=>wpAny_pyIter_zip st.1 h
def zPR(K:zSy)(ta:TA):TI:=fun σ H R=>ta σ H fun vs H1=> ∃a b,vs= [.ref a,.ref b] /\(∃xs,SqL K H1 a xs)/\(∃ys,SqL K H1 b ys)/\R (Itz K a b) H1
theorem zLv:bootBuiltins "zip" =some (.type "zip"):=by decide+kernel
theorem zGY:bootBuiltins "reversed" =some (.type "reversed"):=by decide+kernel
theorem zQR{X:Cx}{a b:Expr}{ta:TA}{p pos tpos:Pos}{elts:List Expr}{x1}(hg:Gl X "zip")(hm:X.mg "zip" =none)(ha:PA X [a,b] ta)(h2:yG a=true)(h3:yG b=true):
  PI X (.Tuple elts x1 tpos) (.Call (.Name "zip" p) [a,b] [] pos) (zPR X.K ta):=by
 intro pins s σ H R I h;refine Call_ (zBh I hg hm zLv (PyProof.Rows.callWith_type1 (zS (ha pos pins s σ H _ I h) fun us s1 ⟨vs,H1,I1,r1,q1⟩=>?_) (zh h2) (yz (by show (yG b&&true)=true;rw [h3];rfl))));obtain ⟨l1,l2,e,⟨xs,hq1⟩,⟨ys,hq2⟩,q⟩:=q1;subst e;obtain ⟨u,v,rfl,ru,rv⟩:=zN.two r1;cases ru;cases rv;obtain ⟨its1,rv1,pl1,hz1⟩:=I1.list hq1;obtain ⟨its2,rv2,pl2,hz2⟩:=I1.list hq2;have lt1:l1<s1.heap.objs.size:=by obtain ⟨o,e,_⟩:=pl1.isList;exact zSP e
 have lt2:l2<s1.heap.objs.size:=by obtain ⟨o,e,_⟩:=pl2.isList;exact zSP e
 refine call_zip_2 pl1.isList pl2.isList fun h' hz hTI hTO hi1 hi2 hsz hk=>?_;refine wpAny_pyIter_zip hz ?_;refine ⟨_,[s1.heap.objs.size+4,s1.heap.objs.size+2,s1.heap.objs.size+3,s1.heap.objs.size,s1.heap.objs.size+1],_,_,H1,rfl,I1.kept (t':=s1.toks) hk,zMx l1 l2 _ _ _ _ _ (zipApart_new lt1 lt2),⟨hz,hTI,⟨_,_,hTO⟩,hi1,hi2⟩,fun b hb=>?_,q⟩;have up: ∀k,zBD X pins H1 (s1.heap.objs.size+k):=fun k=>I1.fpOk (Nat.le_add_right _ k) (I1.hok.fresh (Nat.le_add_right _ k));simp only [zSz,zTJ,or_false] at hb;rcases hb with rfl | rfl | rfl | rfl | rfl
 ·exact up 4
 ·exact up 2
 ·exact up 3
 ·exact up 0
 ·exact up 1
theorem zFg{X:Cx}{K:zSy}{a b:Expr}{ta:TA}{p pos tpos:Pos}{elts:List Expr}{x1}(hK:X.K=K)(hg:Gl X "zip")(hm:X.mg "zip" =none)(ha:QA X [a,b] ta)(h2:yG a=true)(h3:yG b=true):
  QI X (.Tuple elts x1 tpos) (.Call (.Name "zip" p) [a,b] [] pos) (zPR K ta):=by
 subst hK;exact ⟨zQR hg hm ha.out h2 h3⟩
def zQg(K:zSy)(a:Addr)(n:Nat):It:=
 ⟨fun i H=>i<n/\ ∃xs x,SqL K H a xs/\xs[n - 1 - i]?=some x,fun i H x H'=>H'=H/\ ∀xs,SqL K H a xs->xs[n - 1 - i]?=some x,fun i H=>n<=i⟩
theorem zMn{P:Program}{w:World}{K:zSy}{tg:Expr}(a it:Addr)(n:Nat):Turn P w K tg (zQg K a n) [it] it (fun i h=>i<=n/\h.IsRevIter it a ((n:Int) - 1 -(i:Int))) where
 mem:=by simp
 obj:=fun i h st b hb=>by
  have e:b=it:=by simpa using hb
  subst e;obtain ⟨_,o,e,c,d⟩:=st;exact ⟨o,e,fun v z=>by rw [d] at z;cases z⟩
 keep:=fun i h h' st k=>⟨st.1,st.2.at fun o e=>k it (by simp) o e⟩
 item:=by
  intro X hP hw hK hc i pins s σ H E I hf st hg;subst hP hw hK;obtain ⟨hi,xs,x,hq,hx⟩:=hg;obtain ⟨its,rv,p,hz⟩:=I.list hq;obtain ⟨u,hu,ru⟩:=rv.get hx;obtain ⟨f0,f1,f2,f3,f4,f5⟩:=hf it (by simp);have hit:=st.2;rw [show (n:Int) - 1 -(i:Int)=((n - 1 - i:Nat):Int) by omega] at hit;refine wpAny_pyNext_rev_item hit p.isList (x:=u) (by simpa using hu) fun h' st' sb=>?_;have I1:Inv X pins σ H {s with heap:=h'}:=I.turned (t':=s.toks) (fun b o hb e=>(sb.2 b hb).trans e) f0 f1 f3 f4 f5;obtain ⟨o,e,c,d⟩:=id st';rw [show ((n - 1 - i:Nat):Int) - 1=(n:Int) - 1 -((i+1:Nat):Int) by omega] at st';exact ⟨u,rfl,zJk (s:={s with heap:=h'}) e c d (by decide) ⟨x,H,I1,ru,⟨rfl,fun ys hy=>by rw [I.list_inj hy hq];exact hx⟩,⟨hi,st'⟩,fun b hb=>(hf b hb).1⟩⟩
 done:=by
  intro X hP hw hK hc i pins s σ H E I hf st hg;subst hP hw hK;have hg':n<=i:=hg;obtain ⟨f0,f1,f2,f3,f4,f5⟩:=hf it (by simp);have hit:=st.2;have hi:=st.1;rw [show (n:Int) - 1 -(i:Int)= -1 by omega] at hit;exact wpAny_pyNext_rev_end (I.ok.hd hc) hit fun h' eb=>⟨rfl,I.turned (t':=s.toks) (fun b o hb e=>eb b o hb e) f0 f1 f3 f4 f5⟩
 self:=fun _ _ _ _ _ st h=>wpAny_pyIter_revIter st.2 h
def zPs(K:zSy)(ta:TA):TI:=fun σ H R=>ta σ H fun vs H1=> ∃a xs,vs= [.ref a] /\SqL K H1 a xs/\R (zQg K a xs.length) H1
theorem zPz{X:Cx}{tg a:Expr}{ta:TA}{p pos:Pos}(hg:Gl X "reversed")(hm:X.mg "reversed" =none)(ha:PA X [a] ta)(hs:starEach [a] X.env= [(false,eval a X.env)]):
  PI X tg (.Call (.Name "reversed" p) [a] [] pos) (zPs X.K ta):=by
 intro pins s σ H R I h;refine Call_ (zBh I hg hm zGY (PyProof.Rows.callWith_type1 (zS (ha pos pins s σ H _ I h) fun us s1 ⟨vs,H1,I1,r1,q1⟩=>?_) hs rfl));obtain ⟨l,xs,e,hq,q⟩:=q1;subst e;obtain ⟨u,rfl,ru⟩:=yx r1;cases ru;obtain ⟨its,rv,pl,hz⟩:=I1.list hq;have hl:=rv.length;refine call_reversed_list pl.isList ?_;have e1:(its.toArray.size:Int) - 1=(xs.length:Int) - 1:=by simp;omega
 rw [e1];have st:(s1.heap.push (revObj l ((xs.length:Int) - 1))).IsRevIter s1.heap.objs.size l ((xs.length:Int) - 1):=⟨_,zSY _ rfl,rfl,rfl⟩;refine wpAny_pyIter_revIter st ?_;refine ⟨_,[s1.heap.objs.size],_,_,H1,rfl,I1.kept (t':=s1.toks) (fun b o e=>zSH _ e),zMn l _ xs.length,⟨zSU _,by simpa using st⟩,fun b hb=>?_,q⟩;have r':b=s1.heap.objs.size:=by simpa using hb
 subst r';exact I1.fpOk (zSJ _) (I1.hok.fresh (zSJ _))
theorem zNn{X:Cx}{K:zSy}{tg a:Expr}{ta:TA}{p pos:Pos}(hK:X.K=K)(hg:Gl X "reversed")(hm:X.mg "reversed" =none)(ha:QA X [a] ta)(h2:yG a=true):
  QI X tg (.Call (.Name "reversed" p) [a] [] pos) (zPs K ta):=by
 subst hK;exact ⟨zPz hg hm ha.out (by rw [zh h2];rfl)⟩
open PyProof
section
variable {X:Cx}{K:zSy}{o e:Expr}{to te:TE}{apos cpos p0:Pos}{j:Nat}
def zIK:V->List V->Hp->VK->Prop:=fun x vs H Q=> ∃l xs y,x= .ref l/\vs= [.int 0,y] /\H l=some (.lst xs)/\xs.length<sizeLine/\Q .non (upd H l (.lst (y::xs)))
theorem zKJ:MtM X "list.insert" zIK:=by
 intro pins s σ H x vs v us Q I rx rv h;obtain ⟨l,xs,y,rfl,rfl,hH,hz,q⟩:=h;cases rx;obtain ⟨u0,u,rfl,⟨t,rfl⟩,ru⟩:=zN.two rv;obtain ⟨z,its,n,r,hl,e⟩:=I.lstM hH;refine call_meets F.slot_list_insert ⟨_,e,rfl⟩ F.entry_list_insert (F.args_list_insert_3 _ _ _) (AutoListH.list_insert_list_int_val_1 l its.toArray n 0 t u (by decide) (by rw [zSZ];omega)) ⟨e,?_⟩;refine ⟨.non,_,I.lset (its':=u::its) hH e (by simp) (.cons ru r) ?_,rfl,q⟩;rw [zTH];omega
theorem zGu(hK:X.K=K)(ho:QE X o to)(ha:QE X e te)(hb:attributeBase o "insert" X.env (eval o X.env)=eval o X.env)(h2:yG e=true)(hl:(apos.endLine==cpos.line)=true):
  QE X (.Call (.Attribute o "insert" apos) [.Constant (.int 0) j p0,e] [] cpos) (tBM K "list" zIK to (zDi (tC (.int 0)) (zDi te zDr))):=by
 subst hK;have h0:yG (.Constant (.int 0) j p0)=true:=rfl;exact ⟨zNj PySem.F.plainAttrs_list PySem.F.slot_list_insert PySem.F.type_list_insert zKJ ho.out (yR zAU (yR ha.out zAI (zh h2)) (zh h0)) hb (by rw [zh h0,zh h2];rfl) hl (zh h0) (by rw [zh h2];rfl)⟩
theorem zOI{X:Cx}:OpR X (binaryOp .Mult) (rI (fun i j=>FrM.Sz 60000000 i/\FrM.Sz 60000000 j) fun i j=> .int (i*j)):=
 opI fun _ _ _ _ _ _ _ hc q=>mul_int q (IntMulOk.of_le (zJY hc.1) (zJY hc.2) (by decide))
theorem zAR{X:Cx}{a b:Expr}{ta tb:TE}{pos:Pos}(ha:QE X a ta)(hb:QE X b tb):QE X (.BinOp a .Mult b pos) (tOp (rI (fun i j=>FrM.Sz 60000000 i/\FrM.Sz 60000000 j) fun i j=> .int (i*j)) ta tb):=zDP zOI ha hb
theorem zNL{X:Cx}{a b:Expr}{ta tb:TE}{pos:Pos}(ha:QE X a ta)(hb:QE X b tb):QE X (.BinOp a .Mult b pos) (tOp zPN ta tb):=zDP zQj ha hb
end
abbrev Cx.compNX(X:Cx)(scope:Scope)(cl:List (Str×Addr))(C:Addr)(N:List Str)(s₂:Shared)(H₂:Hp)(fp:List Addr)(xe:Value->Shared->Prop):Cx:={X.compN scope cl C N s₂ H₂ fp with xe:=xe}
section
variable {X:Cx}{scope:Scope}{cl:List (Str×Addr)}{C:Addr}{N:List Str}{s₂:Shared}{H₂:Hp}{fp:List Addr}{xe:Value->Shared->Prop}{pins:List (Addr×Obj)}{σ:St}{H:Hp}{s:Shared}
theorem Inv.compNX(I:Inv (X.compN scope cl C N s₂ H₂ fp) pins σ H s):Inv (X.compNX scope cl C N s₂ H₂ fp xe) pins σ H s:=
 ⟨⟨I.ok.mod,I.ok.kind,I.ok.glob,I.ok.blt,I.ok.above,I.ok.inj,I.ok.has,I.ok.cab,I.ok.hd,I.ok.frames,I.ok.stk,I.ok.exf,I.ok.bs,I.ok.bsz,I.ok.noex,I.ok.exfs,I.ok.funs,I.ok.frf⟩,I.os,I.bare,I.base,I.loc,I.cell,I.free,I.freeC,I.pin,I.hok,I.len⟩
theorem Inv.compN(I:Inv (X.compNX scope cl C N s₂ H₂ fp xe) pins σ H s):Inv (X.compN scope cl C N s₂ H₂ fp) pins σ H s:=
 ⟨⟨I.ok.mod,I.ok.kind,I.ok.glob,I.ok.blt,I.ok.above,I.ok.inj,I.ok.has,I.ok.cab,I.ok.hd,I.ok.frames,I.ok.stk,I.ok.exf,I.ok.bs,I.ok.bsz,I.ok.noex,I.ok.exfs,I.ok.funs,I.ok.frf⟩,I.os,I.bare,I.base,I.loc,I.cell,I.free,I.freeC,I.pin,I.hok,I.len⟩
end
theorem Inv.compN0{X:Cx}{scope:Scope}{cl:List (Str×Addr)}{C:Addr}{N:List Str}{s₂:Shared}{H₂:Hp}{fp:List Addr}{pins:List (Addr×Obj)}{σ:St}{H:Hp}{s:Shared}(I:Inv (X.compN scope cl C N s₂ H₂ fp) pins σ H s):Inv (X.comp scope (cellsFrom (C+1) scope.names cl) C N s₂ H₂ fp) pins σ H s:=
 ⟨⟨I.ok.mod,I.ok.kind,I.ok.glob,I.ok.blt,I.ok.above,I.ok.inj,I.ok.has,fun y a z _=>(nomatch z),I.ok.hd,I.ok.frames,I.ok.stk,I.ok.exf,I.ok.bs,I.ok.bsz,I.ok.noex,I.ok.exfs,I.ok.funs,I.ok.frf⟩,I.os,I.bare,I.base,I.loc,I.cell,I.free,I.freeC,I.pin,I.hok,I.len⟩
theorem zLz{X:Cx}{i0:Nat}{x:Str}{pos' spos:Pos}{elt iter tg:Expr}{ifs:List Expr}{zs:List Str}{pos:Pos}{scope:Scope}{cl:List (Str×Addr)}{ys:List Str}{fr:List Nat}{wi:TI}{g:TG}{tt:TT}{te:(St->XK)->TE}{E:St->XK}(hcm:X.calm=true)(hp:zCB X E)(hN:X.N.Nodup)(hi0:X.N[i0]?=some x)(hx0:Loc X.env.scope x)(hf0:X.fn x=true\/X.env.scope.names.lookup x=some .local)
  (hsw:swapsWith (.ListComp elt [⟨tg,iter,ifs,0⟩] scope pos) (some (.Name x pos')) spos.line X.env=pure true)
  (hi:PI X tg iter wi) (hclos:closureFor scope X.env=pure cl) (hkind:scope.kind= .function) (hnames: ∀y∈scope.names,y.2= .local->scope.names.lookup y.1=some .local)
  (hcl: ∀y a,cl.lookup y=some a->X.env.cells.lookup y=some a)
  (hlen:ys.length=fr.length) (hfr: ∀(j:Nat) y i,ys[j]?=some y->fr[j]?=some i->X.N[i]?=some y/\X.env.kindOf y=some .cell/\(relabel scope X.env).names.lookup y=some .cell/\ ∃a,(∀C:Addr,(cellsFrom (C+1) scope.names cl).lookup y=some a)/\X.env.cells.lookup y=some a)
  (hhas: ∀C:Addr,∀y,((relabel scope X.env).names.lookup y=some .cell\/(relabel scope X.env).names.lookup y=some .free)-> ∃a,(cellsFrom (C+1) scope.names cl).lookup y=some a)
  (hg: ∀C s₂ H₂ fp,PG (X.compN scope cl C (zs++ys) s₂ H₂ fp) tg g) (hc: ∀C s₂ H₂ fp,PTs (X.compN scope cl C (zs++ys) s₂ H₂ fp) ifs tt) (he: ∀C s₂ H₂ fp xe E',zAW (Fly X.prog X.w) (X.compNX scope cl C (zs++ys) s₂ H₂ fp xe) E'->PE (X.compNX scope cl C (zs++ys) s₂ H₂ fp xe) elt (te E')) (hs: ∀v,foldedSetIterable iter X.env v=pure v:=by intro _;rfl):
  PS X (.Assign [.Name x pos'] (.ListComp elt [⟨tg,iter,ifs,0⟩] scope pos) spos) (zDS (zLw wi g tt te zs.length fr E) (zAA i0)):=by
 intro pins s σ H Dn I h;change zCW wi g tt (te fun _=>E σ) zs.length fr σ H (fun v H1=>zAA i0 v σ H1 Dn.nx) at h;rw [exec_Assign_Name_used _ _ _ _ hsw];refine zSG (wpAny_standAt (zSG ?_));show wpAny _ X.A (do let _<-comprehension (.ListComp elt [⟨tg,iter,ifs,0⟩] scope pos) scope X.env _ (newList []) false (eval iter X.env) (some (assign (.Name x pos') X.env))) _ _ s;refine zSG (zSa (wpAny_comprehension_free (use:=some (assign (.Name x pos') X.env)) (Q:=fun _ s'=>SP X pins Dn .next s') rfl hs hclos hkind hnames (zS (hi pins s σ H _ I h) fun v s1 h1=>zS h1 fun itv s2 h2=>?_)) (fun _ s' hq=>zSL (zSL hq)) fun _ _ e=>e);obtain ⟨it,fp,tn,J,H2,e,I2,T,st2,f2,h2⟩:=h2;subst e;have hD:H2 s2.heap.objs.size=none:=I2.hok.fresh (zSJ _);obtain ⟨W,⟨m0,w0⟩,turn⟩:=h2 s2.heap.objs.size hD;refine wpAny_newObj_type (zEi (fun h₁ hh₁ hns₁=>?_));dsimp only at hh₁ hns₁⊢;generalize hH3:s2.heap.push {cls:= .type "list",dict:=none,data:= .seq ([] :List Value).toArray}=H3 at hh₁ hns₁⊢;have hCs:H3.objs.size=s2.heap.objs.size+1:=by rw [<-hH3,Heap.size_push]
 have old: ∀b o,s2.heap.get? b=some o->h₁.get? b=some o:=fun b o e=>
  hh₁▸pushCells_keeps _ _ b o (zSH _ (hH3▸zSH _ e))
 have hacc:h₁.get? s2.heap.objs.size=some {cls:= .type "list",dict:=none,data:= .seq ([] :List Value).toArray}:=
  hh₁▸pushCells_keeps _ _ _ _ (zSH _ (hH3▸zSY _ rfl))
 have fplt: ∀b∈fp,@LT.lt Nat _ b s2.heap.objs.size:=fun b hb=>by
  obtain ⟨o,e,_⟩:=T.obj _ _ st2 b hb;exact zz e
 have hCz:(H3.push {cls:= .type "dict",data:= .dict #[]}).objs.size=H3.objs.size+1:=Heap.size_push ..;have clt: ∀y a,cl.lookup y=some a-> @LT.lt Nat _ a s2.heap.objs.size:=fun y a e=>by
  obtain ⟨v,o,ho,hd⟩:=I2.cell y a (hcl y a e);exact zz ho
 have csp: ∀y a,(cellsFrom (H3.objs.size+1) scope.names cl).lookup y=some a->cl.lookup y=some a\/(@LE.le Nat _ (H3.objs.size+1) a/\h₁.IsCell a none):=fun y a e=>by
  have z:=zBf scope.names (H3.push {cls:= .type "dict",data:= .dict #[]}) cl y a (by rw [hCz];exact e);rw [hCz] at z;rw [hh₁];exact z
 have okC:(X.compN scope cl H3.objs.size (zs++ys) s2 H2 fp).Ok:=by
  refine ⟨I2.ok.mod,hkind,I2.ok.glob,I2.ok.blt,?_,zCf scope.names (H3.objs.size+1) cl (fun y a e=>zSO (clt y a e) (by omega)) (fun y z a h1 h2=>I2.ok.inj y z a (hcl y a h1) (hcl z a h2)),fun y hy=>hhas _ y hy,fun y a z e=>zCZ scope.names (H3.objs.size+1) cl s2.heap.objs.size y (by omega) (.inl (by simpa using z)) a e,I2.ok.hd,I2.ok.frames,.inl rfl,fun b hb=>⟨?_,fun y a e z=>?_⟩,I2.bs,zST I2.ok.bsz I2.sz,fun b o e hb=>?_,fun b hb z=>?_,I2.stack,I2.stkFree⟩
  ·show s2.heap.objs.size<=H3.objs.size;omega
  ·show b≠H3.objs.size;have:=fplt b hb;exact zSN (by omega)
  ·rcases csp y a e with e |⟨e,_⟩
   ·exact (f2 b hb).2.2.2.2.1 y a (hcl y a e) z
   ·have:=fplt b hb;rw [<-z] at this;have e': @LE.le Nat _ (H3.objs.size+1) a:=e;omega
  ·rcases (f2 b hb).2.2.2.1 with z | z
   ·exact I2.ok.noex b o e z
   ·have z': @LE.le Nat _ X.s₀.heap.objs.size b:=z;have: @LT.lt Nat _ b X.base.objs.size:=zz e;have:=I2.ok.bsz;omega
  ·rcases zSz.mp (I2.stkSub b z) with y | y
   ·exact (f2 b hb).2.1 y
   ·exact (f2 b hb).2.2.1 y
 have fpok: ∀{H':Hp},(∀b∈fp,H' b=none)-> ∀b∈fp,zBD (X.compN scope cl H3.objs.size (zs++ys) s2 H2 fp) [] H' b:=fun hn b hb=>
  ⟨hn b hb,(okC.exf b hb).1,okC.exfs b hb,.inl hb,(okC.exf b hb).2,fun p hp=>absurd hp (by simp)⟩
 have start:Inv (X.compN scope cl H3.objs.size (zs++ys) s2 H2 fp) [] (List.replicate zs.length none++zY fr σ) (upd H2 s2.heap.objs.size (.lst [])) {s2 with heap:=h₁,toks:=s2.toks+([] :List (Str×Value)).length}:=by
  refine ⟨okC,rfl,I2.bare,Un.laid old (zSJ _) hD,⟨_,hns₁,fun j y v e1 e2 e3=>?_⟩,fun y a e=>?_,?_,fun y a e=>?_,fun p hp=>absurd hp (by simp),I2.hok.laid old (zSJ _) ⟨zSU _,[],_,.nil,hacc⟩,?_⟩
  ·by_cases hj:j<zs.length
   ·rw [List.getElem?_append_left (by simpa using hj),List.getElem?_replicate] at e2;rw [if_pos hj] at e2;cases e2
   ·obtain ⟨j,rfl⟩: ∃k,j=zs.length+k:=⟨j - zs.length,by omega⟩;have e1':ys[j]?=some y:=by
     have z:=e1;simp only [Cx.comp] at z;rw [List.getElem?_append_right (by omega)] at z;simpa using z
    have e2':(zY fr σ)[j]?=some (some v):=by
     rw [List.getElem?_append_right (by simp)] at e2;simpa using e2
    unfold zY at e2';rw [zSK] at e2';cases q:fr[j]? with
    | none=>rw [q] at e2';cases e2'
    | some i=>
     rw [q] at e2';have e4:(σ[i]?).getD none=some v:=Option.some.inj e2';have e5:σ[i]?=some (some v):=by
      cases q2:σ[i]? with
      | none=>rw [q2] at e4;cases e4
      | some z=>rw [q2] at e4;exact congrArg some e4
     obtain ⟨hN,hk,hl,a,ha,ha'⟩:=hfr j y i e1' q;obtain ⟨m,_,hl2⟩:=I2.loc;obtain ⟨u,r,l⟩:=hl2 i y v hN e5 (.inr (.inl hk));refine ⟨u,r,.inr ⟨.inl hl,a,ha _,?_⟩⟩;rcases l with ⟨k,_⟩|⟨_,a2,ea,z⟩
     ·rw [hk] at k;cases k
     ·rw [ha'] at ea;cases ea;obtain ⟨o,ho,hd⟩:=z;exact ⟨o,old _ _ ho,hd⟩
  ·rcases csp y a e with e |⟨_,e⟩
   ·obtain ⟨v,o,ho,hd⟩:=I2.cell y a (hcl y a e);exact ⟨v,o,old _ _ ho,hd⟩
   ·exact ⟨none,e⟩
  ·show upd H2 s2.heap.objs.size (.lst []) H3.objs.size=none;rw [zI (by first | exact zSN (by omega)| exact zSq (by omega))];exact I2.hok.fresh (by omega)
  ·rcases csp y a e with e |⟨e,_⟩
   ·have:=clt y a e;rw [zI (by first | exact zSN (by omega)| exact zSq (by omega))];exact I2.freeC y a (hcl y a e)
   ·have e': @LE.le Nat _ (H3.objs.size+1) a:=e;rw [zI (by first | exact zSN (by omega)| exact zSq (by omega))];exact I2.hok.fresh (by show @LE.le Nat _ s2.heap.objs.size a;omega)
  ·show (List.replicate zs.length none++zY fr σ).length=(zs++ys).length;unfold zY;simp [hlen]
 have loop: ∀s₃:Shared,s₃={s2 with heap:=h₁,toks:=s2.toks+([] :List (Str×Value)).length}->
   codeAny (model X.prog X.w) X.A (.compLoop (.ListComp elt [⟨tg,iter,ifs,0⟩] scope pos) 0 (.ref it) (.ref s2.heap.objs.size) (compEnvC scope (cellsFrom (H3.objs.size+1) scope.names cl) H3.objs.size X.env)) (compPost (model X.prog X.w) X.A X.xe (some (assign (.Name x pos') X.env)) (fun _ s'=>SP X pins Dn .next s') (.ref s2.heap.objs.size) H3.objs.size) s₃:=by
  rintro s₃ rfl;have flown: ∀e s',(∃pn σ' Hx sx,Inv (X.compN scope cl H3.objs.size (zs++ys) s2 H2 fp) pn σ' Hx sx/\Fly X.prog X.w X.stack Hx sx (E σ) e s')->notedBy (model X.prog X.w) X.A (compEnvC scope (cellsFrom (H3.objs.size+1) scope.names cl) H3.objs.size X.env) (fun e s=>compPost (model X.prog X.w) X.A X.xe (some (assign (.Name x pos') X.env)) (fun _ s'=>SP X pins Dn .next s') (.ref s2.heap.objs.size) H3.objs.size (.error e) s) e s':=by
   rintro e s' ⟨pn,σ',Hx,sx,Ix,hx⟩;refine zFU (Q:=fun _ s'=>SP X pins Dn .next s') (acc:= .ref s2.heap.objs.size) hp I2 (fun b hb=>?_) (by omega) Ix.compN0 hx;rcases (f2 b hb).2.2.2.1 with z | z
   ·rw [hp.1] at z;cases z
   ·exact z
  refine zEo (E0:=fun e s'=> ∃pn σ' Hx sx,Inv (X.compN scope cl H3.objs.size (zs++ys) s2 H2 fp) pn σ' Hx sx/\Fly X.prog X.w X.stack Hx sx (E σ) e s') flown (fun n s'=> ∃i pre ys' H',pre.length=zs.length/\Inv (X.compN scope cl H3.objs.size (zs++ys) s2 H2 fp) [] (pre++zY fr σ) H' s'/\tn i s'.heap/\(∀b∈fp,H' b=none)/\W i n ys' H') ?_ m0
   ⟨0,List.replicate zs.length none,[],_,by simp,start,T.keep _ _ _ st2 fun b hb o e=>old b o e,fun b hb=>by
    have:=fplt b hb;rw [zI (by first | exact zSN (by omega)| exact zSq (by omega))];exact (f2 b hb).1,w0⟩
  rintro n s3 ⟨i,pre,ys3,H',hpl,I3,st3,fr3,w3⟩;obtain ⟨hl3,alt⟩:=turn i n ys3 H' w3;rcases alt with ⟨stop,qn⟩|⟨go,hz,N,hN,step⟩
  ·refine zSa (T.done (X.compN scope cl H3.objs.size (zs++ys) s2 H2 fp) rfl rfl rfl hcm i [] s3 _ H' (fun _ _=>False) I3 (fpok fr3) st3 stop) (fun r s4 h4=>?_) fun _ _ z=>z.elim;obtain ⟨hr,I4⟩:=h4;subst hr;obtain ⟨m4,hn4,_⟩:=id I4.loc;have back: ∀h'',Heap.SameBut H3.objs.size s4.heap h''->Inv X pins σ H' {s4 with heap:=h''}:=by
    intro h'' hs'';have hb: ∀b o,b≠H3.objs.size->s4.heap.get? b=some o->h''.get? b=some o:=fun b o hb e=>(hs''.2 b hb).trans e;refine I2.call' (s':={s4 with heap:=h''}) (ch:=fp) I4.os ⟨fun b o e n hb' hx'=>?_,fun b o e n hb' hx'=>?_,fun b o e n hx'=>I4.base.free b o e n hx',fun b o e hx'=>?_,I4.base.tups,I4.base.frzs,I4.base.tbls⟩ (fun b u e=>?_) I4.bare fun b hb'=>⟨(f2 b hb').2.2.2.1,(f2 b hb').2.1,(f2 b hb').2.2.2.2.1,(f2 b hb').2.2.2.2.2⟩
    ·exact hb b o (zSN (by have:=zz e;omega)) (I4.base.keep b o e n hb' hx')
    ·obtain ⟨sl,q⟩:=I4.base.slot b o e n hb' hx';exact ⟨sl,hb b _ (zSN (by have:=zz e;omega)) q⟩
    ·obtain ⟨o',q⟩:=I4.base.there b o e hx';exact ⟨o',hb b _ (zSN (by have:=zz e;omega)) q⟩
    ·refine (I4.hok b u e).stay (fun c' w' hc' q=>hb c' w' ?_ q) (fun _ q=>q) fun _ _ q=>q;intro z;have fz:H' H3.objs.size=none:=I4.free;rcases hc' with y | y
     ·rw [<-y,z,fz] at e;cases e
     ·rw [z,fz] at y;cases y
   have I5:Inv X pins σ H' s4:=back s4.heap (Heap.SameBut.refl _ _);have hCs2: @LE.le Nat _ s2.heap.objs.size H3.objs.size:=by omega
   have fz:H' H3.objs.size=none:=I4.free;have cneL:H3.objs.size≠X.env.locals:=fun z=>by
    have z1: @LT.lt Nat _ X.env.locals s2.heap.objs.size:=I2.lt;have z': @Eq Nat H3.objs.size X.env.locals:=z;omega
   have cneC: ∀y c,X.env.cells.lookup y=some c->c≠H3.objs.size:=fun y c e z=>by
    obtain ⟨v,o,ho,_⟩:=I2.cell y c e;have z1:=zz ho;have z': @Eq Nat c H3.objs.size:=z;omega
   show wpAny _ X.A (assign (.Name x pos') X.env (.ref s2.heap.objs.size)) _ _ s4;refine wpAny_assign_Name (zDx I5 hN hi0 hx0 (v:= .ref s2.heap.objs.size) rfl (fun s5 I6 ⟨a,sba,ha⟩=>?_) hf0);have nea:H3.objs.size≠a:=by
    rcases ha with z | z
    ·rw [z];exact cneL
    ·exact fun y=>cneC x a z y.symm
   obtain ⟨oC,es,ep,hoC,rC⟩:=hn4;refine ⟨m4,⟨oC,es,ep,(sba.2 _ nea).trans hoC,rC⟩,fun h'' hs''=>?_⟩;have hb: ∀b o,b≠H3.objs.size->s5.heap.get? b=some o->h''.get? b=some o:=fun b o hb e=>(hs''.2 b hb).trans e;have neb: ∀b:Addr,b∉ [H3.objs.size] ->b≠H3.objs.size:=fun b hb z=>hb (by simp [z]);have I7:Inv X pins (σ.set i0 (some (.ref s2.heap.objs.size))) H' {s5 with heap:=h''}:=by
    refine I6.call' (s':={s5 with heap:=h''}) (ch:= [H3.objs.size]) rfl ⟨fun b o e n hb' hx'=>hb b o (neb b hx') e,fun b o e n hb' hx'=>⟨o.slots,hb b o (neb b hx') e⟩,fun b o e n hx'=>n,fun b o e hx'=>⟨o,hb b o (neb b hx') e⟩,fun b xs e=>e,fun b o u e=>e,fun b ps e=>⟨#[],by simpa using e⟩⟩ (fun b u e=>?_) I6.bare fun b hb'=>?_
    ·refine (I6.hok b u e).stay (fun c' w' hc' q=>hb c' w' ?_ q) (fun _ q=>q) fun _ _ q=>q;intro z;rcases hc' with y | y
     ·rw [<-y,z,fz] at e;cases e
     ·rw [z,fz] at y;cases y
    ·have eb:b=H3.objs.size:=by simpa using hb'
     subst eb;refine ⟨.inr ?_,cneL,cneC,fun p hp z=>?_⟩
     ·have z1: @LE.le Nat _ X.s₀.heap.objs.size s2.heap.objs.size:=I2.sz;show @LE.le Nat _ X.s₀.heap.objs.size H3.objs.size;omega
     ·have z1:=zz (I2.pin p hp).1;have z': @Eq Nat p.1 H3.objs.size:=z;omega
   exact ⟨_,H',I7,qn⟩
  ·refine zSa (T.item (X.compN scope cl H3.objs.size (zs++ys) s2 H2 fp) rfl rfl rfl hcm i [] s3 _ H' (fun _ _=>False) I3 (fpok fr3) st3 go) (fun r s4 h4=>?_) fun _ _ z=>z.elim;obtain ⟨u,hr,h4⟩:=h4;subst hr;dsimp only;have asg:wpAny (model X.prog X.w) X.A (letOwnedTupleGo tg (.ref it) u) (fun _ s5=>wpAny (model X.prog X.w) X.A (assign tg (compEnvC scope (cellsFrom (H3.objs.size+1) scope.names cl) H3.objs.size X.env) u)
     (fun _ s6=> ∃σ5 H6,(∃pn5,Inv (X.compN scope cl H3.objs.size (zs++ys) s2 H2 fp) pn5 σ5 H6 s6/\(∀b∈fp,∃o,(b,o)∈pn5))/\((∃zi:St,zi.length=zs.length/\σ5=zi++zY fr σ)/\
      tt σ5 H6 fun b H3'=>if b=true then te (fun _=>E σ) σ5 H3' fun y H4=>H4 s2.heap.objs.size=some (.lst ys3)/\N (ys3++ [y]) (upd H4 s2.heap.objs.size (.lst (ys3++ [y]))) else N ys3 H3')/\tn (i+1) s6.heap/\ ∀b∈fp,H6 b=none) (fun _ _=>False) s5) (fun _ _=>False) s4:=by
    refine (zS h4 fun _ s5 ⟨x5,H5,I5,r5,y5,st5,fr5⟩=>?_);have I5':=I5.pinned (fpok fr5) (T.obj _ _ st5);refine zSa (hg _ _ _ _ _ s5 _ H5 x5 u _ I5' r5 (step x5 H5 y5 pre hpl)) (fun _ s6 ⟨σ6,H6,I6,q6⟩=>?_) fun _ _ z=>z.elim;exact ⟨σ6,H6,⟨_,I6,fun b hb=>by
     obtain ⟨o,e,_⟩:=T.obj _ _ st5 b hb;exact ⟨o,zSV _ (yH hb e)⟩⟩,q6,T.keep _ _ _ st5 fun b hb o e=>(I6.pin (b,o) (zSV _ (zSV _ (yH hb e)))).1,fun b hb=>by
     obtain ⟨o,e,_⟩:=T.obj _ _ st5 b hb;exact (I6.pin (b,o) (zSV _ (zSV _ (yH hb e)))).2.1⟩
   refine zSa asg (fun _ s5 h5=>zSa h5 (fun _ s6 h6=>?_) fun _ _ z=>z.elim) fun _ _ z=>z.elim;obtain ⟨σ5,H5,⟨pn5,I6,hp6⟩,⟨⟨zi,hl2,rfl⟩,q6⟩,st6,fr5⟩:=h6;have keepTurn: ∀{σ7:St} {H7:Hp} {s7:Shared},Inv (X.compN scope cl H3.objs.size (zs++ys) s2 H2 fp) pn5 σ7 H7 s7->tn (i+1) s7.heap/\ ∀b∈fp,H7 b=none:=fun {σ7 H7 s7} I7=>by
    refine ⟨T.keep _ _ _ st6 fun b hb o e=>?_,fun b hb=>?_⟩
    ·obtain ⟨o',hm⟩:=hp6 b hb;have a1:=(I6.pin (b,o') (zSV _ hm)).1;rw [e] at a1;cases a1;exact (I7.pin (b,_) (zSV _ hm)).1
    ·obtain ⟨o',hm⟩:=hp6 b hb;exact (I7.pin (b,o') (zSV _ hm)).2.1
   have drop: ∀{σ7:St} {H7:Hp} {s7:Shared},Inv (X.compN scope cl H3.objs.size (zs++ys) s2 H2 fp) pn5 σ7 H7 s7->Inv (X.compN scope cl H3.objs.size (zs++ys) s2 H2 fp) [] σ7 H7 s7:=fun I7=>I7.pins_of fun p hp=>absurd hp (by simp);have tests:wpAny (model X.prog X.w) X.A (zBJ ifs (compEnvC scope (cellsFrom (H3.objs.size+1) scope.names cl) H3.objs.size X.env)) (fun b s7=> ∃H7,Inv (X.compN scope cl H3.objs.size (zs++ys) s2 H2 fp) pn5 (zi++zY fr σ) H7 s7/\
     (if b=true then te (fun _=>E σ) (zi++zY fr σ) H7 fun y H4=>H4 s2.heap.objs.size=some (.lst ys3)/\N (ys3++ [y]) (upd H4 s2.heap.objs.size (.lst (ys3++ [y]))) else N ys3 H7)) (fun _ _=>False) s6:=by
    rcases hc H3.objs.size s2 H2 fp with ⟨rfl,rfl⟩|⟨c,rfl,hc2⟩
    ·exact wpAny_tests_nil ⟨H5,I6,q6⟩
    ·exact wpAny_tests_one (zSa (hc2 pn5 s6 _ H5 _ I6 q6) (fun b s7 ⟨H7,I7,q7⟩=>⟨H7,I7,q7⟩) fun _ _ z=>z.elim)
   refine zSa tests (fun b s7 h7=>?_) fun _ _ z=>z.elim;obtain ⟨H7,I7,q7⟩:=h7;cases b with
   | false=>
    obtain ⟨m',hm,w'⟩:=hN _ _ q7;obtain ⟨k1,k2⟩:=keepTurn I7;exact ⟨m',hm,i+1,zi,ys3,H7,hl2,drop I7,k1,k2,w'⟩
   | true=>
    refine zSa (he _ _ _ _ (fun e s'=> ∃pn σ' Hx sx,Inv (X.compN scope cl H3.objs.size (zs++ys) s2 H2 fp) pn σ' Hx sx/\Fly X.prog X.w X.stack Hx sx (E σ) e s') (fun _=>E σ) (fun pn σ' Hx sx e s' Ix hx=>⟨pn,σ',Hx,sx,Ix.compN,hx⟩) pn5 s7 _ H7 _ I7.compNX q7) (fun y s8 h8=>?_) fun _ _ z=>z;obtain ⟨yv,H8,I8',r8,hl8,n8⟩:=h8;have I8:=I8'.compN;refine zSa (zBj (X:=X.compN scope cl H3.objs.size (zs++ys) s2 H2 fp) pn5 s8 _ H8 (.ref s2.heap.objs.size) [yv] (.ref s2.heap.objs.size) [y] (fun z H9=>N (ys3++ [yv]) H9) I8 rfl (.cons r8 .nil) ⟨s2.heap.objs.size,ys3,yv,rfl,rfl,hl8,hz,n8⟩) (fun _ s9 h9=>?_) fun _ _ z=>z.elim;obtain ⟨_,H9,I9,_,n9⟩:=h9;obtain ⟨m',hm,w'⟩:=hN _ _ n9;obtain ⟨k1,k2⟩:=keepTurn I9;exact ⟨m',hm,i+1,zi,ys3++ [yv],H9,hl2,drop I9,k1,k2,w'⟩
 exact codeAny_compStart_list (loop _ rfl) (T.self X.A 0 _ _ _ (T.keep _ _ _ st2 fun b hb o e=>old b o e) (loop _ rfl))
theorem zOY{X:Cx}{x:Str}{pos' spos:Pos}{elt iter tg:Expr}{ifs:List Expr}{E:St->XK}(hp:zCB X E)(i0:Nat)(hN:X.N.Nodup)(hi0:X.N[i0]?=some x)(hx0:Loc X.env.scope x)(hf0:X.fn x=true\/X.env.scope.names.lookup x=some .local)
  (zs:List Str) {pos:Pos} {scope:Scope} {cl:List (Str×Addr)} (ys:List Str) (fr:List Nat) {wi:TI} {g:TG} {tt:TT} {te:(St->XK)->TE} (hcm:X.calm=true)
  (hi:QI X tg iter wi) (hclos:closureFor scope X.env=pure cl) (hkind:scope.kind= .function) (hnames: ∀y∈scope.names,y.2= .local->scope.names.lookup y.1=some .local)
  (hcl: ∀y a,cl.lookup y=some a->X.env.cells.lookup y=some a)
  (hlen:ys.length=fr.length) (hfr: ∀(j:Nat) y i,ys[j]?=some y->fr[j]?=some i->X.N[i]?=some y/\X.env.kindOf y=some .cell/\(relabel scope X.env).names.lookup y=some .cell/\ ∃a,(∀C:Addr,(cellsFrom (C+1) scope.names cl).lookup y=some a)/\X.env.cells.lookup y=some a)
  (hhas: ∀C:Addr,∀y,((relabel scope X.env).names.lookup y=some .cell\/(relabel scope X.env).names.lookup y=some .free)-> ∃a,(cellsFrom (C+1) scope.names cl).lookup y=some a)
  (hg: ∀C s₂ H₂ fp,QG (X.compN scope cl C (zs++ys) s₂ H₂ fp) tg g) (hc: ∀C s₂ H₂ fp,QTs (X.compN scope cl C (zs++ys) s₂ H₂ fp) ifs tt) (he: ∀C s₂ H₂ fp xe E',zAW (Fly X.prog X.w) (X.compNX scope cl C (zs++ys) s₂ H₂ fp xe) E'->QE (X.compNX scope cl C (zs++ys) s₂ H₂ fp xe) elt (te E')) (hs: ∀v,foldedSetIterable iter X.env v=pure v)
  (hsw:swapsWith (.ListComp elt [⟨tg,iter,ifs,0⟩] scope pos) (some (.Name x pos')) spos.line X.env=pure true):
  QS X (.Assign [.Name x pos'] (.ListComp elt [⟨tg,iter,ifs,0⟩] scope pos) spos) (zDS (zJI wi g tt te zs.length fr E) (zAA i0)):=
 ⟨fun pins s σ H D I h=>zLz hcm hp hN hi0 hx0 hf0 hsw (zFa hi).out hclos hkind hnames hcl hlen hfr hhas (fun C s H f=>(hg C s H f).out) (fun C s H f=>(hc C s H f).out) (fun C s H f xe E' hx=>(he C s H f xe E' hx).out) hs pins s σ H D I ⟨_,h,fun J H1 h1 D' hD=>by
  obtain ⟨len,Pv,a0,a1,a2,a3,a4⟩:=(h1 D' hD).ex;exact zDR (Q:=fun v H1=>zAA i0 v σ H1 D.nx) D' len Pv a0 a1 a2 a3 a4⟩⟩
structure DeepE(X:Cx):Prop where
 ex: ∃env0 rest,X.stack=env0::rest/\env0.scope.isGenerator=false/\env0.scope.isCoroutine=false/\env0.globals=mainGlobals/\env0.builtins=builtinsNs
 tr:X.prog.given.tree=none
 rm:X.A.depth+100<recursionLimit
theorem DeepE.up{X Y:Cx}(d:DeepE X)(h1:Y.stack=X.stack)(h2:Y.A=X.A)(h3:Y.prog=X.prog):DeepE Y:=⟨by rw [h1];exact d.ex,by rw [h3];exact d.tr,by rw [h2];exact d.rm⟩
theorem DeepE.room{X:Cx}(D:DeepE X){pins:List (Addr×Obj)}{σ:St}{H:Hp}{s:Shared}(I:Inv X pins σ H s):PylongRoom (model X.prog X.w) X.A s:=by
 have hn:s.heap.NoSeer:=I.ok.mod.seer.keeps fun b o e=>I.bk b o e;obtain ⟨env0,rest,h1,h2,h3,h4,h5⟩:=D.ex;exact PylongRoom.of (I.ok.mod.nolimit.keeps fun b o e=>I.bk b o e) D.rm (SeerAt.of hn D.tr (by rw [I.ok.frames,h1]) h2 h3 h5 h4)
theorem zMX{X:Cx}(D:DeepE X):OpR X (binaryOp .FloorDiv) (rI (fun _ j=>0<j) fun i j=> .int (i/j)):=by
 intro pins s σ H x y v u Q I rx ry h;obtain ⟨i,j,rfl,rfl,hc,q⟩:=h;obtain ⟨t,rfl⟩:=rx;obtain ⟨t',rfl⟩:=ry;have hj:(0:Int)<j:=hc;exact floordiv_int (by omega) (by rw [Int.fdiv_eq_ediv_of_nonneg i (by omega)];exact ⟨.int (i/j),H,I.tok _,⟨_,rfl⟩,q⟩) (.inr (D.room I))
theorem zAL{X:Cx}{a b:Expr}{ta tb:TE}{pos:Pos}(D:DeepE X)(ha:QE X a ta)(hb:QE X b tb):QE X (.BinOp a .FloorDiv b pos) (tOp (rI (fun _ j=>0<j) fun i j=> .int (i/j)) ta tb):=zDP (zMX D) ha hb
theorem zBb{CX:CXT}{P:Program}{w:World}{K:zSy}{mg:Str->Option Value}{base:Heap}{N:List Str}{qual:Str}{scope:Scope}{f:Addr}{cd:Value}{A:Around}{outer:List Env}{s:Shared}{H:Hp}{E:XK}{k:Nat}
  (hr:Room k (A.deeper (envOfC qual scope s.heap.objs.size f cd))) (hk:32<=k) (ht:P.given.tree=none) (hg:scope.isGenerator=false) (hc:scope.isCoroutine=false):
  DeepE (zAZ CX P w K mg base N qual scope f cd A outer s H E):=
 ⟨⟨_,_,rfl,hg,hc,rfl,rfl⟩,ht,by have:=hr.dp;show (A.deeper (envOfC qual scope s.heap.objs.size f cd)).depth+100<recursionLimit;omega⟩
section
variable {X:Cx}{K:zSy}{CX:CXT}{k:Nat}{f C:Addr}{fd:FuncData}{ps:List Str}{sp:Sp}{dvs:List V}{ds:List Value}{E:XK}{x:Str}{p pos:Pos}{e:Expr}{es:List Expr}{t:TA}
theorem zDk(M:Mk X.K C f)(F:FnOk X.prog X.w X.K X.mg X.base CX k f fd ps sp)(hr:Room (k+1) X.A)(hg:Gl X x)(hm:X.mg x=some (.ref C))(hb:zK X.K fd ps ds)(hd:zN dvs ds)(hx:zAg CX X E)
  (ha:QA X (e::es) t) (h1:(x==("__debug__" :Str))=false) (h2:yG e=true) (h3:yn es=true):QE X (.Call (.Name x p) (e::es) [] pos) (zNs C sp dvs E t):=⟨zOs M F hr hg hm hb hd hx ha.out h1 (zh h2) (yz h3)⟩
end
section
variable {X:Cx}{K:zSy}{o i e:Expr}{to ti te:TE}{tl th:TO}{lo hi:Option Expr}{pos p2 tpos:Pos}
theorem zRg(hK:X.K=K)(he:QE X e te)(hl:QO X lo tl)(hu:QO X hi th):QE X (.Subscript e (.Slice lo hi none p2) pos) (tSl (zPP K) te tl th):=by
 subst hK;exact ⟨zHd zPS he.out hl.out hu.out⟩
def zNh(K:zSy):V->V->Hp->VK->Prop:=fun x y H Q=> ∃p xs k v,x= .ref p/\y= .int k/\0<=k/\SqL K H p xs/\xs[k.toNat]?=some v/\Q v H
theorem zNC:zQF X (zNh X.K):=by
 intro pins s σ H x y v u Q I rx ry h;obtain ⟨p,xs,k,z,rfl,rfl,h0,hq,he,q⟩:=h;cases rx;obtain ⟨t,rfl⟩:=ry;obtain ⟨its,r,pl,hz⟩:=I.list hq;obtain ⟨w,ew,rw'⟩:=r.get he;have hl:=r.length;have hn:=zDo;have hk:k.toNat<xs.length:=(zTL.mp he).1;exact wpAny_getItem_list pl.isList h0 (by omega) (by simpa using ew) ⟨z,H,I,rw',q⟩
theorem zQe(hK:X.K=K)(ho:QE X o to)(hi:QE X i ti)(he:QE X e te)(ha: ∀ov iv new,augStore i ov iv new=(do holding [new,ov,iv] (setItem ov iv new);release [new,ov,iv] [];pure .next)):
  QS X (.AugAssign (.Subscript o i tpos) .Add e pos) (zNU to ti te (zNh K) (ipI fun i j=>i+j) zKQ):=by
 subst hK;exact ⟨zOV ho.out hi.out zNC he.out zQM zIP ha⟩
end
section
variable {X:Cx}{K:zSy}
def zJK(K:zSy)(b:Bool):R2:=fun x y H Q=> ∃(p q:Addr) (as bs:List Addr) (f:Nat->List V),x= .ref p/\y= .ref q/\SqL K H p (as.map V.ref)/\SqL K H q (bs.map V.ref)/\as.length=bs.length/\
 (∀i a,as[i]?=some a->SqL K H a (f i))/\(∀i a,bs[i]?=some a->SqL K H a (f i))/\(∀i,∀x∈f i,zDz x=true)/\Q (.bl b) H
theorem zKx{as:List Addr}{us:List Value}(r:zN (as.map V.ref) us){j:Nat}(h:j<us.length): ∃a,as[j]?=some a/\us[j] = .ref a:=by
 have l:=r.length;rw [zSM] at l;have ha:as[j]?=some as[j] :=zSF (by omega);obtain ⟨u,b,c⟩:=r.get (i:=j) (show (as.map V.ref)[j]?=some (.ref as[j]) by rw [zSK,ha];rfl);rw [zSF h] at b;cases c;exact ⟨_,ha,Option.some.inj b⟩
theorem zKE{A:Around}{pins:List (Addr×Obj)}{σ:St}{H:Hp}{s:Shared}{as bs:List Addr}{f:Nat->List V}{us vs:List Value}(I:Inv X pins σ H s)(hu:A.units+1<cLine)
  (h1: ∀i a,as[i]?=some a->SqL X.K H a (f i)) (h2: ∀i a,bs[i]?=some a->SqL X.K H a (f i)) (hf: ∀i,∀x∈f i,zDz x=true) (r1:zN (as.map V.ref) us) (r2:zN (bs.map V.ref) vs):
  ∀j (h1:j<us.toArray.size) (h2:j<vs.toArray.size),SeqAt.EqAt A.in1 s us.toArray[j] vs.toArray[j] ((fun _=>true) j):=by
 intro j g1 g2;obtain ⟨a,ea,ua⟩:=zKx r1 (show j<us.length by simpa using g1);obtain ⟨b,eb,ub⟩:=zKx r2 (show j<vs.length by simpa using g2);show SeqAt.EqAt A.in1 s us[j] vs[j] true;rw [ua,ub];by_cases hab:a=b
 ·subst hab;exact SeqAt.EqAt.same _
 ·obtain ⟨us',q1,t1,_⟩:=I.list (h1 j a ea);obtain ⟨vs',q2,t2,_⟩:=I.list (h2 j b eb);have l1:=q1.length;have l2:=q2.length;refine SeqAt.EqAt.of_refs hab ?_;have z:=SeqAt.RcAt.lists (A:=A.in1) (e:=fun _=>true) t1.isList t2.isList (by simp;omega) (show A.units+1<cLine from hu) (zFo (hf j) q1 q2);rw [zFB] at z;exact z
theorem zOS(hK:X.K=K)(hu:X.A.units+1<cLine):OpR X (compareOp .NotEq) (zJK K false):=by
 subst hK;intro pins s σ H x y v u Q I rx ry h;obtain ⟨p,q,as,bs,f,rfl,rfl,e1,e2,hl,h1,h2,hf,hq⟩:=h;cases rx;cases ry;obtain ⟨us,r1,t1,_⟩:=I.list e1;obtain ⟨vs,r2,t2,_⟩:=I.list e2;have l1:=r1.length;have l2:=r2.length;rw [zSM] at l1 l2;have es:us.toArray.size=vs.toArray.size:=by simp;omega
 have z:=SeqAt.RcNeAt.lists (A:=X.A) (e:=fun _=>true) t1.isList t2.isList es (by omega) (zKE I hu h1 h2 hf r1 r2);rw [zFB] at z;refine z _ _ _ _ ?_;exact ⟨.bl false,H,I,rfl,hq⟩
end
section
variable {X:Cx}{K:zSy}
variable {o:Expr}{to:TE}{apos cpos:Pos}
theorem zOT(hK:X.K=K)(ho:QE X o to)(hb:attributeBase o "clear" X.env (eval o X.env)=eval o X.env)(hl:(apos.endLine==cpos.line)=true):QE X (.Call (.Attribute o "clear" apos) [] [] cpos) (zRD K "list" zKs to):=by
 subst hK;exact ⟨zQY PySem.F.plainAttrs_list PySem.F.slot_list_clear PySem.F.type_list_clear zMZ ho.out hb hl⟩
end
section
variable {X:Cx}{CX:CXT}{k i:Nat}{f g:Addr}{fd gd:FuncData}{ps qs:List Str}{sp sq:Sp}{dvs:List V}{ds:List Value}{E:XK}{x:Str}{p pos:Pos}{e:Expr}{es:List Expr}{t:TA}
end
end L2
namespace PySem
open PyProof.Rows
theorem zFN{xs:Array Nat}{j i:Nat}(h1: ∀q,q<i->xs.getD q j<j)(h2: ∀q,i<=q-> ¬xs.getD q j<j): ∀(fuel lo hi:Nat),lo<=i->i<=hi->hi - lo<=fuel->SetTable.below.go xs j fuel lo hi=i
 | 0,lo,hi,a,b,c=>by
  show lo=i;omega
 | fuel+1,lo,hi,a,b,c=>by
  unfold SetTable.below.go;by_cases hl:lo<hi
  ·rw [if_pos hl];dsimp only;by_cases hm:xs.getD ((lo+hi)/2) j<j
   ·rw [if_pos hm];refine zFN h1 h2 fuel _ _ ?_ b (by omega);rcases Nat.lt_or_ge ((lo+hi)/2) i with z | z
    ·omega
    ·exact absurd hm (h2 _ z)
   ·rw [if_neg hm];refine zFN h1 h2 fuel _ _ a ?_ (by omega);rcases Nat.lt_or_ge ((lo+hi)/2) i with z | z
    ·exact absurd (h1 _ z) hm
    ·omega
  ·rw [if_neg hl];omega
theorem zHl{xs:Array Nat}{j i:Nat}(hi:i<=xs.size)(h1: ∀q (h:q<xs.size),q<i->xs[q] <j)(h2: ∀q (h:q<xs.size),i<=q->j<=xs[q]):SetTable.below xs j=i:=by
 refine zFN (fun q hq=>?_) (fun q hq=>?_) xs.size 0 xs.size (zSU _) hi (by omega)
 ·have h:q<xs.size:=by omega
  rw [Array.getD_eq_getD_getElem?,Array.getElem?_eq_getElem h];exact h1 q h hq
 ·rcases Nat.lt_or_ge q xs.size with z | z
  ·rw [Array.getD_eq_getD_getElem?,Array.getElem?_eq_getElem z];have:=h2 q z hq;show¬xs[q] <j;omega
  ·rw [Array.getD_eq_getD_getElem?,Array.getElem?_eq_none z];exact Nat.lt_irrefl j
structure Rise(ks:List Nat):Prop where
 up:ks.Pairwise (· < ·)
 lt: ∀k∈ks,k<7
theorem Rise.len{ks:List Nat}(h:Rise ks):ks.length<=7:=by
 have: ∀(l:List Nat) (a:Nat),l.Pairwise (· < ·)->(∀k∈l,a<=k/\k<7)->l.length+a<=7\/l= [] :=by
  intro l
  induction l with
  | nil=>exact fun _ _ _=> .inr rfl
  | cons k l ih=>
   intro a hp hk;rw [List.pairwise_cons] at hp;have h1:=hk k (by simp);rcases ih (k+1) hp.2 (fun j hj=>⟨hp.1 j hj,(hk j (by simp [hj])).2⟩) with z | z
   ·exact .inl (by rw [zTH];omega)
   ·subst z;exact .inl (by simp;omega)
 rcases this ks 0 h.up (fun k hk=>⟨zSU _,h.lt k hk⟩) with z | z
 ·omega
 ·rw [z];exact zSU _
theorem Rise.take{ks:List Nat}(h:Rise ks)(i:Nat):Rise (ks.take i):=⟨h.up.sublist (List.take_sublist _ _),fun k hk=>h.lt k (List.mem_of_mem_take hk)⟩
theorem zIv(j:Nat):SetTable.has #[] j=false:=by
 unfold SetTable.has;rw [Array.getElem?_eq_none (by simp)];rfl
structure TabOk(t:SetTable)(ks:List Nat):Prop where
 pl:t.place.toList=ks
 du:t.dummies= #[]
 ma:t.mask=7/\ks.length<=4\/t.mask=31
theorem TabOk.size{t:SetTable}{ks:List Nat}(h:TabOk t ks):t.place.size=ks.length:=by rw [<-h.pl];simp
theorem TabOk.fits{t:SetTable}{ks:List Nat}{n:Nat}(h:TabOk t ks)(r:Rise ks)(hn:n=ks.length):t.fits n=true:=by
 have:=r.len;unfold SetTable.fits SetTable.fill;rw [h.size,h.du];simp only [Array.size_empty,Nat.add_zero,zTA,beq_iff_eq,decide_eq_true_eq];refine ⟨hn.symm,?_⟩;rcases h.ma with ⟨e,z⟩| e<;>omega
theorem zKA{k:Nat}(h:k<7):SetTable.bits (k:Int)=k:=by
 unfold SetTable.bits;have:(k:Int)% 2^64=k:=Int.emod_eq_of_lt (by omega) (by omega);rw [this];rfl
theorem zLn{t:SetTable}{ks:List Nat}{k:Nat}{es:Array (Int×Value)}{x:Value}(h:TabOk t ks)(r:Rise (ks++ [k]))(he:es.size=ks.length):
  layNew t es (k:Int) x=(es.push ((k:Int),x),{t with place:=t.place.push k},false,false):=by
 have hk:k<7:=r.lt k (by simp);have all: ∀j∈ks,j<k:=fun j hj=>(List.pairwise_append.mp r.up).2.2 j hj k (by simp);have hpl: ∀q (hq:q<t.place.size),t.place[q] <k:=fun q hq=>all _ (by rw [<-h.pl];simp);have hlen:=r.len;rw [zSh] at hlen;have hl7:ks.length+1<=7:=by simpa using hlen
 have hslot:t.slot k= .empty:=by
  unfold SetTable.slot;have:(t.place[SetTable.below t.place k]?==some k)=false:=by
   cases e:t.place[SetTable.below t.place k]? with
   | none=>rfl
   | some y=>
    obtain ⟨hq,hy⟩:=Array.getElem?_eq_some_iff.mp e;have:=hpl _ hq;rw [hy] at this;have: ¬y=k:=by omega
    simp [this]
  dsimp only;rw [this,h.du,zIv];rfl
 have hmod:k %(t.mask+1)=k:=by
  rcases h.ma with ⟨e,_⟩| e<;>rw [e] <;>omega
 have hfree:t.freeSlot (k:Int)=some (k,false):=by
  unfold SetTable.freeSlot SetTable.probe SetTable.probeStart;rw [zKA hk];dsimp only;rw [hmod];obtain ⟨f,hf⟩: ∃f,10*SetTable.turns t.mask=f+1:=⟨10*(t.mask+15) - 1,by unfold SetTable.turns;omega⟩;rw [hf];unfold SetTable.probe.go;dsimp only;rw [hslot];rfl
 have hbel:SetTable.below t.place k=t.place.size:=zHl (zSJ _) (fun q hq _=>hpl q hq) fun q hq z=>absurd hq (by omega);have hput:t.put k=({t with place:=t.place.push k},t.place.size):=by
  unfold SetTable.put;dsimp only;rw [hbel,h.du,zIv];have:SetTable.insertAt t.place t.place.size k=t.place.push k:=by
   unfold SetTable.insertAt;simp
  rw [this];simp
 have hes:SetTable.insertAt es t.place.size ((k:Int),x)=es.push ((k:Int),x):=by
  unfold SetTable.insertAt;rw [h.size,<-he];simp
 have hfit:SetTable.fits {t with place:=t.place.push k} (es.push ((k:Int),x)).size=true:=by
  unfold SetTable.fits SetTable.fill;simp only [Array.size_push,h.size,h.du,Array.size_empty,Nat.add_zero,zTA,beq_iff_eq,decide_eq_true_eq];refine ⟨by omega,?_⟩;rcases h.ma with ⟨e,z⟩| e<;>omega
 unfold layNew;rw [hfree];dsimp only;rw [hput];dsimp only;rw [hes];unfold SetTable.orStandIn;rw [hfit];rfl
theorem zRq: ∀a b c d e:_root_.Fin 7,a<b->b<c->c<d->d<e->(SetTable.layClean 31 #[((a:Nat):Int),((b:Nat):Int),((c:Nat):Int),((d:Nat):Int),((e:Nat):Int)]).map (fun owner=>(List.range 32).filterMap fun j=>Option.map (fun x=>(j,x)) (owner.getD j none))=some [((a:Nat),0),((b:Nat),1),((c:Nat),2),((d:Nat),3),((e:Nat),4)] :=by decide+kernel
theorem zRF{t:SetTable}{ks:List Nat}{es:Array (Int×Value)}(h5:ks.length=5)(r:Rise ks)(he:es.toList.map (·.1)=ks.map fun (k:Nat)=>(k:Int)):
  ∃t',relayAll t es (SetTable.grown es.size)=(es,t',false)/\TabOk t' ks/\t'.led=t.led:=by
 have hs:es.size=5:=by
  have:=congrArg List.length he;simpa [h5] using this
 obtain ⟨a,b,c,d,e,rfl⟩: ∃a b c d e,ks= [a,b,c,d,e] :=by
  match ks,h5 with
  | [a,b,c,d,e],_=>exact ⟨a,b,c,d,e,rfl⟩
 have up:=r.up;simp only [List.pairwise_cons,zSz,zTJ,or_false] at up;have lt: ∀k∈ [a,b,c,d,e],k<7:=r.lt;have l5:=zRq ⟨a,lt a (by simp)⟩ ⟨b,lt b (by simp)⟩ ⟨c,lt c (by simp)⟩ ⟨d,lt d (by simp)⟩ ⟨e,lt e (by simp)⟩ (up.1 b (by simp)) (up.2.1 c (by simp)) (up.2.2.1 d (by simp)) (up.2.2.2.1 e (by simp));have hm:es.map (·.1)= #[(a:Int),(b:Int),(c:Int),(d:Int),(e:Int)] :=by
  apply Array.toList_inj.mp;rw [Array.toList_map,he];rfl
 unfold relayAll SetTable.relaid SetTable.laid;rw [hs,show SetTable.sizeAbove (SetTable.grown 5) - 1=31 by decide+kernel];rw [show (Array.map (fun x=>x.fst) es)= #[(a:Int),(b:Int),(c:Int),(d:Int),(e:Int)] from hm];dsimp only at l5;cases hc:SetTable.layClean 31 #[(a:Int),(b:Int),(c:Int),(d:Int),(e:Int)] with
 | none=>rw [hc] at l5;cases l5
 | some owner=>
  rw [hc] at l5;have l5:(List.range 32).filterMap (fun j=>Option.map (fun x=>(j,x)) (owner.getD j none))= [(a,0),(b,1),(c,2),(d,3),(e,4)] :=Option.some.inj l5;simp only [Option.bind_eq_bind,Option.bind_some,Option.pure_def,l5,zTD,List.map_nil];have hf:Array.filterMap (fun x=>es[x]?) #[0,1,2,3,4] =es:=by
   apply Array.toList_inj.mp;rw [Array.toList_filterMap];obtain ⟨l⟩:=es;simp only at hs⊢;have hs':l.length=5:=hs
   match l,hs' with
   | [x0,x1,x2,x3,x4],_=>rfl
  rw [hf];have hcov:coversAll #[0,1,2,3,4] 5=true:=by decide+kernel
  have tk:TabOk {mask:=31,place:= #[a,b,c,d,e],dummies:= #[],finger:=t.finger,led:=t.led,moves:=t.movedTo 31,plain:=t.plain} [a,b,c,d,e] :=⟨rfl,rfl,.inr rfl⟩;have hfit:=tk.fits (n:=es.size) r (by rw [hs];rfl);rw [hcov,hfit];exact ⟨_,rfl,tk,rfl⟩
def nu:Value->Int
 | .int k _=>k
 | _=>0
def Heap.RiseSet(prog:Program)(w:World)(h:Heap)(a:Addr)(ks:List Nat):Prop:=
 ∃o es ep t,h.get? a=some o/\o.ExactSet/\o.data= .set es ep t/\ElemsOf (PySem.intKind prog w) es.toList/\IntsAre (es.toList.map (·.2)) (ks.map fun (k:Nat)=>(k:Int))/\es.toList.map (·.1)=ks.map (fun (k:Nat)=>(k:Int))/\TabOk t ks/\(w.params.followText "set-order" =false->t.led=true)
theorem zBP{prog:Program}{w:World}{h h':Heap}{a:Addr}{ks:List Nat}(x:h.RiseSet prog w a ks)(k: ∀o,h.get? a=some o->h'.get? a=some o):h'.RiseSet prog w a ks:=
 let ⟨o,es,ep,t,ho,r⟩:=x;⟨o,es,ep,t,k o ho,r⟩
theorem zGi{prog:Program}{w:World}{k:Int}{v:Value}(h:(intKind prog w).is k v=true):(∃t,v= .int k t)\/ ∃b,v= .bool b:=by
 cases v with
 | int i t=>
  have:i=k:=by simpa [intKind,Value.isInt] using h
  exact .inl ⟨t,by rw [this]⟩
 | bool b=>exact .inr ⟨b,rfl⟩
 | _=>simp [intKind,Value.isInt] at h
section
variable {prog:Program}{w:World}{A:Around}{E:Value->Shared->Prop}{s:Shared}
theorem zIt{h:Heap}{a:Addr}{o:Obj}{es es':Array (Int×Value)}{ep:Nat}{t t':SetTable}(ho:h.get? a=some o)(hd:o.data= .set es ep t):(h.update a (Obj.putSet es' t')).get? a=some {o with data:= .set es' (ep+1) t'}:=by
 have z:=zSo (Obj.putSet es' t') ho (by rw [putSet_of es' t' hd];rfl)
 rwa [putSet_of es' t' hd] at z
theorem zEy{k:Nat}(h:k<7):(PySem.intKind prog w).hash (k:Int)=(k:Int):=by
 have:k=0\/k=1\/k=2\/k=3\/k=4\/k=5\/k=6:=by omega
 rcases this with rfl | rfl | rfl | rfl | rfl | rfl | rfl<;>rfl
theorem zIi{a:Addr}{ks:List Nat}{k:Nat}{u:Tok}{Q:Bool->Shared->Prop}(hS:s.heap.RiseSet prog w a ks)(hr:Rise (ks++ [k]))
  (h: ∀h' b,Heap.SameBut a s.heap h'->h'.RiseSet prog w a (ks++ [k])->Q b {s with heap:=h'}):wpAny (model prog w) A (setAddHashed a (.int (k:Int) u) ((PySem.intKind prog w).hash (k:Int))) Q E s:=by
 obtain ⟨o,es,ep,t,ho,hex,hd,hel,hp,hpf,htab,hl⟩:=id hS;have hk7:k<7:=hr.lt k (by simp);have hks:Rise ks:=by have:=hr.take ks.length;rwa [List.take_left] at this
 have hkey:=PySem.intKind_is prog w (k:Int) u;have hsc:(Value.int (k:Int) u).scannable=true:=rfl;have hn:es.size=ks.length:=by have z:=congrArg List.length hpf;rw [zSM,zSM,Array.length_toList] at z;exact z
 have hl7:=hr.len;rw [zSh] at hl7;have hb:es.size<scanBound:=by rw [show scanBound=4096 from rfl];simp at hl7;omega
 have hf:=htab.fits hks hn;have all: ∀j∈ks,j<k:=fun j hj=>(List.pairwise_append.mp hr.up).2.2 j hj k (by simp);unfold setAddHashed setAddHashedIn;refine zSs (zSG (wpAny_setState_of ho hd hf ?_));dsimp only;rw [byScan_of hsc hb hel,if_pos rfl];unfold setAddByScan;refine zSG (zSG (wpAny_rule (zSG (wpAny_setScan_of hkey ho hd hf hel ?_))));cases hrr:List.findIdx? (fun e=>(PySem.intKind prog w).is (k:Int) e.2) es.toList with
 | some j=>
  exfalso;obtain ⟨hj,hpj,_⟩:=List.findIdx?_eq_some_iff_getElem.mp hrr;have e1:es.toList[j].1=(PySem.intKind prog w).hash (k:Int):=by
   obtain ⟨⟨k',hk',he⟩,_⟩:=hel _ (zSk hj);rw [he];rcases zGi hpj with ⟨t1,e1⟩|⟨b1,e1⟩
   ·rw [e1] at hk';rcases zGi hk' with ⟨t2,e2⟩|⟨b2,e2⟩
    ·injection e2 with e2;rw [e2]
    ·cases e2
   ·rw [e1] at hpj hk';have z1:(k:Int)=(if b1 then 1 else 0):=by cases b1<;>simpa [intKind,Value.isInt,eq_comm] using hpj
    have z2:k'=(if b1 then 1 else 0):=by cases b1<;>simpa [intKind,Value.isInt,eq_comm] using hk'
    rw [z1,z2]
  rw [zEy hk7] at e1;have e2:(es.toList.map (·.1))[j]?=some (k:Int):=by rw [zSK,zSF hj];exact congrArg some e1
  rw [hpf,zSK] at e2;cases e3:ks[j]? with
  | none=>rw [e3] at e2;cases e2
  | some q=>
   rw [e3] at e2;have:q=k:=by
    have:((q:Nat):Int)=(k:Int):=Option.some.inj e2;omega
   have:=all q (zSj e3);omega
 | none=>
  have hlay:=zLn (x:= .int (k:Int) u) htab hr hn;rw [zEy hk7];dsimp only;rw [hlay];dsimp only;have hel1:ElemsOf (PySem.intKind prog w) (es.push ((k:Int),Value.int (k:Int) u)).toList:=by
   rw [Array.toList_push];have:=hel.push hkey hsc
   rwa [zEy hk7] at this
  have hp1:IntsAre ((es.push ((k:Int),Value.int (k:Int) u)).toList.map (·.2)) ((ks++ [k]).map (fun (k:Nat)=>(k:Int))):=by
   rw [Array.toList_push,zSb,zSb];exact hp.append (.cons _ _ .nil)
  have hq1:(es.push ((k:Int),Value.int (k:Int) u)).toList.map (·.1)=(ks++ [k]).map (fun (k:Nat)=>(k:Int)):=by
   rw [Array.toList_push,zSb,zSb,hpf];rfl
  have hsz1:(es.push ((k:Int),Value.int (k:Int) u)).size=ks.length+1:=by rw [Array.size_push,hn]
  have hb1:(es.push ((k:Int),Value.int (k:Int) u)).size<scanBound:=by rw [hsz1,show scanBound=4096 from rfl];simp at hl7;omega
  have hpt:(t.place.push k).toList=ks++ [k] :=by rw [Array.toList_push,htab.pl]
  generalize es.push ((k:Int),Value.int (k:Int) u)=es1 at hel1 hp1 hq1 hsz1 hb1⊢;have fin: ∀(t2:SetTable),t2.place=t.place.push k->t2.dummies= #[] ->t2.mask=t.mask->(w.params.followText "set-order" =false->t2.led=true)-> ∀g:Bool->Sem Unit,(∀(b:Bool) (s₁:Shared) (Q':Unit->Shared->Prop),Q' () s₁->wpAny (model prog w) A (g b) Q' E s₁)->
    wpAny (model prog w) A (do
     storeSet a es1 t2
     if (!false&&t2.tooFull)=true then do
       g (relayAll t2 es1 (SetTable.grown es1.size)).2.2
       storeSet a (relayAll t2 es1 (SetTable.grown es1.size)).1 (relayAll t2 es1 (SetTable.grown es1.size)).2.1
       pure (some true)
      else pure (some true)) (fun r s'=>r=some true/\ ∃h',Heap.SameBut a s.heap h'/\h'.RiseSet prog w a (ks++ [k])/\s'={s with heap:=h'}) E s:=by
   intro t2 e1 e2 e3 hl2 g hg;refine zSG (wpAny_storeSet_of ho hd ?_ (fits_of_scanBound hb1));have ho1:=zIt (es':=es1) (t':=t2) ho hd;have sb1:=Heap.SameBut.update s.heap a (Obj.putSet es1 t2);have hsz:t2.place.size=ks.length+1:=by rw [e1,Array.size_push,htab.size]
   have hfull:t2.tooFull=decide ((ks.length+1)*5≥t.mask*3):=by
    unfold SetTable.tooFull SetTable.fill;rw [hsz,e2,e3];rfl
   split
   ·rename_i hfu
    have hfu:t2.tooFull=true:=by simpa using hfu
    rw [hfull,decide_eq_true_eq] at hfu;have h4:ks.length=4:=by
     simp at hl7;rcases htab.ma with ⟨z1,z2⟩| z1<;>rw [z1] at hfu<;>omega
    obtain ⟨t3,er,tk,lr⟩:=zRF (t:=t2) (ks:=ks++ [k]) (es:=es1) (by simp [h4]) hr hq1;rw [er];refine zSG (hg _ _ _ (zSG (wpAny_storeSet_of ho1 rfl ?_ (fits_of_scanBound hb1))));have ho2:=zIt (es':=es1) (t':=t3) ho1 rfl;exact zSL ⟨rfl,_,sb1.trans (Heap.SameBut.update _ a _),⟨_,es1,_,t3,ho2,hex,rfl,hel1,hp1,hq1,tk,fun z=>lr.trans (hl2 z)⟩,rfl⟩
   ·rename_i hfu
    have hfu:t2.tooFull=false:=by simpa using hfu
    rw [hfull,decide_eq_false_iff_not] at hfu;have tk:TabOk t2 (ks++ [k]):=by
     refine ⟨by rw [e1];exact hpt,e2,?_⟩;rw [e3];rcases htab.ma with ⟨z1,z2⟩| z1
     ·rw [z1] at hfu;exact .inl ⟨z1,by simp;omega⟩
     ·exact .inr z1
    exact zSL ⟨rfl,_,sb1,⟨_,es1,_,t2,ho1,hex,rfl,hel1,hp1,hq1,tk,hl2⟩,rfl⟩
  have go: ∀(b:Bool) (s₁:Shared) (Q':Unit->Shared->Prop),Q' () s₁->wpAny (model prog w) A (match b with | true=>rule "set.scan.the-table-gave-way" | false=>pure ()) Q' E s₁:=
   fun b s₁ Q' q=>by cases b<;>first | exact zSL q | exact wpAny_rule q
  refine zSG (go false _ _ ?_);split
  ·refine zSG ?_;rw [hashByValue_scannable 8 hsc];refine zSL ?_;rw [if_pos (show plainKind (Value.int (k:Int) u)=true from rfl)];refine zSa (fin {t with place:=t.place.push k} rfl htab.du rfl hl _ go) (fun r s' ⟨e,h',sb,hT,es'⟩=>?_) fun _ _ z=>z;subst e es';exact zSL (h h' true sb hT)
  ·refine zSG (zSL ?_);rw [if_pos rfl];refine zSa (fin {t with place:=t.place.push k} rfl htab.du rfl hl _ go) (fun r s' ⟨e,h',sb,hT,es'⟩=>?_) fun _ _ z=>z;subst e es';exact zSL (h h' true sb hT)
end
end PySem
namespace PySem
open PyProof.Rows
section
variable {prog:Program}{w:World}{A:Around}{R:Result->Shared->Prop}{I:Addr}{fp wr:List Addr}{G:Array GenState->Array GenState->Prop}{n:Nat}{P:Nat->Value->Prop}{St:Nat->Shared->Prop}
theorem zLt(W:WalksS prog w A.in1 I fp wr G n P St)(S:Addr)(hSf:S∉fp)(ks:List Nat)(hr:Rise ks)(hn:ks.length=n)(hval: ∀i v,P i v-> ∃t,v= .int ((ks.getD i 0:Nat):Int) t):
  ∀(k i:Nat) (s:Shared),n - i=k->i<=n->St i s->s.heap.RiseSet prog w S (ks.take i)->(∀s',Moved (S::wr) G s s'->s'.heap.RiseSet prog w S (ks.take n)->R (.ok (.ret .none)) s')->
   codeAny (model prog w) A (.builtin "set.update.loop" ⟨[.ref S,.ref I],[]⟩) R s:=by
 have hSw:S∉wr:=fun h=>hSf (W.sub _ h);have sub: ∀b∈wr,b∈S::wr:=fun b hb=>zSm _ hb;intro k
 induction k with
 | zero=>
  intro i s hk hi hst hS hR;obtain rfl:i=n:=by omega
  refine codeAny_builtin F.entry_set_update_loop (by rw [Around.under_plainId F.plain_set_update_loop _];exact zSG (W.done s _ _ hst fun s' hm=>zSL (hR s' (hm.mono sub) (zBP hS fun o e=>hm.heap S _ hSw e))))
 | succ k ih=>
  intro i s hk hi hst hS hR;have hlt:i<n:=by omega
  refine codeAny_builtin F.entry_set_update_loop ?_;rw [Around.under_plainId F.plain_set_update_loop _];refine zSG (W.item i s _ _ hlt hst fun v s' hP hst' hm=>?_);obtain ⟨t,rfl⟩:=hval i v hP;have hS':=zBP hS fun o e=>hm.heap S _ hSw e;show wpAny _ A.in1 (holding [Value.int ((ks.getD i 0:Nat):Int) t] (setAdd S (.int ((ks.getD i 0:Nat):Int) t))>>=_) _ _ s';refine zSG (zSs ?_);unfold setAdd;refine zSs (zSG ((PySem.intKind prog w).pyHash (k:=((ks.getD i 0:Nat):Int)) (PySem.intKind_is prog w _ t) ?_));have et:ks.take (i+1)=ks.take i++ [ks.getD i 0] :=by
   rw [zSc,zSF (by omega)];simp [zSF (show i<ks.length by omega)]
  refine zIi (s:={s' with toks:=s'.toks+1}) hS' (by rw [<-et];exact hr.take _) fun h' b hsb hT=>?_;rw [<-et] at hT;refine zSL ⟨plainId_quiet F.plain_set_update_loop _,ih (i+1) _ (by omega) hlt (W.frame _ s' _ _ hst' (Nat.le_succ _) fun b hb o e=>?_) hT fun s2 hm2 hS2=>?_⟩
  ·rw [hsb.2 b fun z=>hSf (by rw [<-z];exact hb)];exact e
  ·refine hR s2 (Moved.trans W.gtrans ((hm.mono sub).then_heap (Nat.le_succ _) fun b o hb e=>?_) hm2) hS2;rw [hsb.2 b fun z=>hb (by rw [z];exact List.mem_cons_self)];exact e
end
section
variable {prog:Program}{w:World}{A:Around}{E:Value->Shared->Prop}{s:Shared}
theorem zIT{h:Heap}{a:Addr}(e:h.get? a=some (zAs w)):h.RiseSet prog w a [] :=
 ⟨_,#[],0,_,e,⟨rfl,rfl,rfl⟩,rfl,fun e he=>absurd he (by simp),.nil,rfl,⟨rfl,rfl,.inl ⟨rfl,by decide⟩⟩,fun z=>by rw [z];rfl⟩
theorem zJc: ∀{vs:List Value} {ks:List Nat},IntsAre vs (ks.map fun (k:Nat)=>(k:Int))-> ∀(i:Nat) (v:Value),vs[i]?=some v-> ∃t,v= .int ((ks.getD i 0:Nat):Int) t
 | [],[],_,i,v,h=>by simp at h
 | [],_::_,h,_,_,_=>by cases h
 | _::_,[],h,_,_,_=>by cases h
 | v0::vs,k::ks,hI,i,v,h=>by
  cases hI with
  | cons n t r=>
   cases i with
   | zero=>simp at h;exact ⟨t,by rw [<-h];rfl⟩
   | succ i=>
    obtain ⟨t',e⟩:=zJc r i v (by simpa using h);exact ⟨t',by rw [e];rfl⟩
theorem zHF{l:Addr}{items:Array Value}{ks:List Nat}{Q:Value->Shared->Prop}(hh:A.handled=none)(hl:s.heap.IsList l items)(hi:IntsAre items.toList (ks.map fun (k:Nat)=>(k:Int)))(hr:Rise ks)
  (h: ∀(h':Heap) (tk:Nat),h'.RiseSet prog w s.heap.objs.size ks->(∀b o,b<s.heap.objs.size->s.heap.get? b=some o->h'.get? b=some o)->Q (.ref s.heap.objs.size) {s with heap:=h',toks:=tk}):
  wpAny (model prog w) A (call (.type "set") [.ref l]) Q E s:=by
 obtain ⟨c,tl,hmro⟩:=F.called_set.mro;have hmade:=F.called_set.made;have hsub:=F.called_set.sub;refine wpAny_call (codeAny_of_tree ?_);show wpAny _ _ (callAny (.type "set") _) _ _ _;refine zSL (And.intro (Code.quiet_builtin _ (by decide+kernel)) (codeAny_builtin F.entry_type_call ?_));rw [Around.under_plain (weight_type_call_type "set" [.ref l] []) rfl];have h1:=F.called_set.notType;have h2:=F.called_set.canCreate;have hct:=F.typeCall_set_1 (.ref l)
 repeat (any_goals (first | assumption | wp_step))
 refine zSw (zId (.ref l) (E:=E) (Q₁:=fun obj s₁=>obj= .ref s.heap.objs.size/\s₁={s with heap:=s.heap.push (zAs w)}) ⟨rfl,rfl⟩) fun r s1 hr=>?_;cases r with
 | error e=>exact hr
 | ok fl=>
  cases fl with
  | ret obj=>
   obtain ⟨rfl,rfl⟩:=hr;have hS:(s.heap.push (zAs w)).get? s.heap.objs.size=some (zAs w):=zSY _ rfl;have hT:Shared.TypeIs {s with heap:=s.heap.push (zAs w)} (.ref s.heap.objs.size) "set" :=⟨_,hS,rfl⟩;have hli:=F.called_set.init.lookup;have hbi:=F.called_set.init.bind (.ref s.heap.objs.size)
   repeat (any_goals (first | assumption | wp_step))
   refine zSw (codeAny_call_builtin (R:=wants (fun r s₂=>r= .none/\ ∃h' tk,s₂={s with heap:=h',toks:=tk}/\h'.RiseSet prog w s.heap.objs.size ks/\
     (∀b o,b<s.heap.objs.size->s.heap.get? b=some o->h'.get? b=some o)) E) F.called_set.init.plain F.entry_set_init (check_set_init_1 hT ?_)) fun r₂ s₂ hr₂=>?_
   ·obtain ⟨⟨ocls,odict,odata,oslots⟩,hol,hcl,nl,hdl⟩:=id hl;simp only at hcl hdl;subst hcl;subst hdl;have hol':(s.heap.push (zAs w)).get? l=some {cls:= .type "list",dict:=odict,data:= .seq items nl,slots:=oslots}:=zSH _ hol;have hsls:=F.sub_list_set;have hslf:=F.sub_list_frozenset;have hne:(Value.type "list" ==Value.type "dict")=false:=by decide
    have hl1:(s.heap.push (zAs w)).IsList l items:=⟨_,hol',rfl,nl,rfl⟩;unfold zAs at hS hol' hl1⊢;unfold Builtin.«set.__init__» noKeywords Builtin.Frozenset.updateFrom;generalize hPI:pyIter=PI
    wp_walk
    subst hPI;refine wpAny_pyIter_list hl1 (zSG (wpAny_runValue ?_));have hlS:l<s.heap.objs.size:=zSP hol;have hh3:A.in1.in1.in1.handled=none:=by simp [hh]
    have hneI:l≠(s.heap.push {cls:= .type "set",dict:=none,data:= .set #[] 0 (.fresh 0 0 (!w.params.followText "set-order"))}).objs.size:=by
     rw [Heap.size_push];exact zSN (Nat.lt_succ_of_lt hlS)
    have hSf:s.heap.objs.size∉ [(s.heap.push {cls:= .type "set",dict:=none,data:= .set #[] 0 (.fresh 0 0 (!w.params.followText "set-order"))}).objs.size,l] :=by
     rw [Heap.size_push];simp only [zSz,zTE,zTJ,or_false,not_or];exact ⟨zSN (Nat.lt_succ_self _),zSq hlS⟩
    have hln:ks.length=items.size:=by have:=hi.length;rw [zSM,Array.length_toList] at this;exact this.symm
    have hval: ∀(i:Nat) (v:Value),items[i]?=some v-> ∃t,v= .int ((ks.getD i 0:Nat):Int) t:=fun i v hv=>zJc hi i v (by rw [Array.getElem?_toList];exact hv);refine zLt ((Walks.list hh3 _ l hneI items).toS) s.heap.objs.size hSf ks hr hln hval (items.size - 0) 0 _ (by omega) (zSU _) ⟨⟨_,zSY _ rfl,rfl,rfl⟩,(hl1.push _)⟩ ?hS0 ?hR
    case hS0=>exact zIT (zSH _ hS)
    case hR=>
     intro s' hm hS';obtain ⟨h',g',d',tk',os'⟩:=s';obtain rfl:g'=s.gens:=hm.gens;obtain rfl:d'=s.drawn:=hm.drawn;obtain rfl:os'=s.os:=hm.os;refine zSL ?_;show wpAny _ _ (ret Value.none) _ _ _;rw [<-hln,zSe] at hS';refine zSL ⟨rfl,h',tk',rfl,hS',fun b o hb e=>?_⟩;have hb2:b≠(s.heap.push {cls:= .type "set",dict:=none,data:= .set #[] 0 (.fresh 0 0 (!w.params.followText "set-order"))}).objs.size:=by
      rw [Heap.size_push];exact zSN (Nat.lt_succ_of_lt hb)
     refine hm.heap b o ?_ (zSH _ (zSH _ e));simp only [zSz,zTE,zTJ,or_false,not_or];exact ⟨zSN hb,hb2⟩
   ·cases r₂ with
    | error e=>exact hr₂
    | ok fl₂=>
     cases fl₂ with
     | ret r=>
      obtain ⟨rfl,h',tk,rfl,hS',hk'⟩:=hr₂
      repeat (any_goals (first | assumption | wp_step))
      exact h _ _ hS' hk'
     | _=>exact hr₂.elim
  | _=>exact hr.elim
end
end PySem
namespace PySem
open PyProof.Rows
def zAh(t:SetTable)(i:Nat):Nat:=match i with
 | 0=>0
 | j+1=>t.place.getD j 0+1
inductive RMode (w:World) (a:Addr) (es:Array (Int×Value)) (ep:Nat) (t:SetTable) (tp:Addr) (order:List Nat):List Value->Nat->Value->Prop
 | text (i:Nat) (h:w.params.followText "set-order" =true):RMode w a es ep t tp order ((pickOrder (w.params.setOrder a ep) es).toList.map (·.2)) i (rawInt 0)
 | drawn (i:Nat) (h:w.params.followText "set-order" =false) (ho:order.Perm (List.range es.size)):RMode w a es ep t tp order (order.map fun j=>(es[j]?.map (·.2)).getD .none) i (.ref tp)
 | tab (i:Nat) (h:w.params.followText "set-order" =false) (hd:(!t.plain&&decide (es.size>1))=false) (hl:t.led=true) (hp:t.place.toList.Pairwise (· < ·)) (hs:t.place.size=es.size) (hi:i<=es.size):RMode w a es ep t tp order (es.toList.map (·.2)) i (rawInt (zAh t i:Nat))
structure RIter(w:World)(it a tp:Addr)(es:Array (Int×Value))(ep:Nat)(t:SetTable)(order:List Nat)(vals:List Value)(i:Nat)(h:Heap):Prop where
 fits:t.fits es.size=true
 set: ∃o,h.get? a=some o/\o.data= .set es ep t
 iter: ∃first o,h.get? it=some o/\o.cls= .type "set_iterator" /\o.data= .fields #[first,.int i 0,.ref a,.int es.size 0,.int ep 0] /\RMode w a es ep t tp order vals i first/\(first= .ref tp-> ∃ot n,h.get? tp=some ot/\ot.data= .seq (order.map fun (j:Nat)=>rawInt j).toArray n)
section
variable {prog:Program}{w:World}{A:Around}{E:Value->Shared->Prop}{s:Shared}{it a tp:Addr}{es:Array (Int×Value)}{ep:Nat}{t:SetTable}{order:List Nat}{vals:List Value}{i:Nat}
theorem RIter.typeIs{s:Shared}(st:RIter w it a tp es ep t order vals i s.heap):s.TypeIs (.ref it) "set_iterator" :=
 let ⟨_,o,ho,hc,_⟩:=st.iter;⟨o,ho,hc⟩
theorem zJm(hp:t.place.toList.Pairwise (· < ·))(hi:i<=t.place.size):SetTable.below t.place (zAh t i)=i:=by
 have mono: ∀p q (h1:p<t.place.size) (h2:q<t.place.size),p<q->t.place[p] <t.place[q] :=fun p q h1 h2 hpq=>by
  have:=List.pairwise_iff_getElem.mp hp p q (by simpa using h1) (by simpa using h2) hpq;simpa using this
 refine zHl hi (fun q hq hqi=>?_) (fun q hq hqi=>?_)
 ·cases i with
  | zero=>omega
  | succ j=>
   have hj:j<t.place.size:=by omega
   show t.place[q] <t.place.getD j 0+1;rw [Array.getD_eq_getD_getElem?,Array.getElem?_eq_getElem hj];show t.place[q] <t.place[j] +1;rcases Nat.lt_or_ge q j with z | z
   ·have:=mono q j hq hj z;omega
   ·have:q=j:=by omega
    subst this;omega
 ·cases i with
  | zero=>exact zSU _
  | succ j=>
   have hj:j<t.place.size:=by omega
   show t.place.getD j 0+1<=t.place[q];rw [Array.getD_eq_getD_getElem?,Array.getElem?_eq_getElem hj];exact mono j q hj hq (by omega)
theorem zEk{oa:Obj}{Q:Option (Value×Nat)->Shared->Prop}(hoa:s.heap.get? a=some oa)(hda:oa.data= .set es ep t)(hf:t.fits es.size=true)(ht:w.params.followText "set-order" =false)(hdr:(!t.plain&&decide (es.size>1))=false)(hl:t.led=true)(hp:t.place.toList.Pairwise (· < ·))(hs:t.place.size=es.size)(hi:i<=es.size)
  (h:Q (es[i]?.map fun e=>(e.2,zAh t (i+1))) s):wpAny (model prog w) A (setNext a (zAh t i) i ep) Q E s:=by
 unfold setNext;refine zSG (wpAny_setState_of hoa hda hf ?_);dsimp only;unfold setsByText;refine zSG (zSG (wpAny_askSetting (zSL ?_)));rw [if_neg (show¬((⟨(model prog w).prog,(model prog w).w.params⟩:Setting).params.followText "set-order")=true from by rw [show ((⟨(model prog w).prog,(model prog w).w.params⟩:Setting).params.followText "set-order")=false from ht];decide)];split
 ·rename_i hh
  have:(!t.plain&&decide (es.size>1))=true:=hh;rw [hdr] at this;cases this
 ·refine zSG ?_;show wpAny _ _ (if (!t.led&&!es.isEmpty)=true then unsupported _ else _) _ _ s;rw [if_neg (by rw [hl];simp)];refine zSL (zSL ?_);rw [zJm hp (by omega)];rcases Nat.lt_or_ge i es.size with z | z
  ·have hip:i<t.place.size:=by omega
   rw [Array.getElem?_eq_getElem z,Array.getElem?_eq_getElem hip];rw [Array.getElem?_eq_getElem z] at h;have:zAh t (i+1)=t.place[i] +1:=by
    show t.place.getD i 0+1=_;rw [Array.getD_eq_getD_getElem?,Array.getElem?_eq_getElem hip];rfl
   rw [this] at h;exact h
  ·rw [Array.getElem?_eq_none z];rw [Array.getElem?_eq_none z] at h;exact h
theorem zLG{v:Value}{Q:Option Value->Shared->Prop}(st:RIter w it a tp es ep t order vals i s.heap)(hne:a≠it)(hnt:tp≠it)(hv:vals[i]?=some v)
  (hQ: ∀h',RIter w it a tp es ep t order vals (i+1) h'->Heap.SameBut it s.heap h'->Q (some v) {s with heap:=h'}):wpAny (model prog w) A (pyNext (.ref it)) Q E s:=by
 have hT:=st.typeIs;obtain ⟨hf,⟨oa,hoa,hda⟩,first,o,ho,hc,hd,md,htp⟩:=id st;unfold pyNext;refine zSG (wpAny_attempt (wpAny_callSpecial?_slot (name:=Str.ofString "__next__") hT F.slot_seti_next (wpAny_call_entry F.slot_seti_next hT F.entry_seti_next ?_ (F.args_seti_next _))));refine zSG (zSL ?_);refine zSG (wpAny_fieldsOf ho hd ?_);dsimp only;refine zSG (zSG (wpAny_setState_of hoa hda hf (zSL ?_)));rw [if_neg (by simp)];have keep: ∀h',Heap.SameBut it s.heap h'-> ∀b o,b≠it->s.heap.get? b=some o->h'.get? b=some o:=fun h' q b o hb e=>q.extBut b o hb e;have two: ∀(nx:Nat) (x:Value) (P:Fin->Shared->Prop) (E':Value->Shared->Prop),(∀h' o',Heap.SameBut it s.heap h'->h'.get? it=some o'->o'.cls= .type "set_iterator" ->o'.data= .fields #[rawInt nx,.int (i+1:Nat) 0,.ref a,.int es.size 0,.int ep 0] ->P (Fin.done (Flow.ret x)) {s with heap:=h'})->
   wpAny (model prog w) A.in1 (do setField (.ref it) 0 (rawInt nx);setField (.ref it) 1 (rawInt ((i:Int)+1));ret x) P E' s:=by
  intro nx x P E' hP;refine zSG (wpAny_setField ho hd (by simp) ?_);have h1:=zSo (Obj.mapFields (·.setIfInBounds 0 (rawInt nx))) ho (Obj.isFreed_of_fields (Obj.data_mapFields hd _));refine zSG (wpAny_setField h1 (Obj.data_mapFields hd _) (by simp) ?_);have h2:=zSo (Obj.mapFields (·.setIfInBounds 1 (rawInt ((i:Int)+1)))) h1 (Obj.isFreed_of_fields (Obj.data_mapFields (Obj.data_mapFields hd _) _));refine zSL (hP _ _ ((Heap.SameBut.update ..).trans (Heap.SameBut.update ..)) h2 ((Obj.cls_mapFields ..).trans ((Obj.cls_mapFields ..).trans hc)) ?_);rw [Obj.data_mapFields (Obj.data_mapFields hd _)];simp [rawInt]
 have fin: ∀h' o' fst,Heap.SameBut it s.heap h'->h'.get? it=some o'->o'.cls= .type "set_iterator" ->o'.data= .fields #[fst,.int (i+1:Nat) 0,.ref a,.int es.size 0,.int ep 0] ->RMode w a es ep t tp order vals (i+1) fst->(fst= .ref tp->first= .ref tp)->
   RIter w it a tp es ep t order vals (i+1) h':=by
  intro h' o' fst sb g1 g2 g3 g4 g5;refine ⟨hf,⟨oa,keep h' sb a oa hne hoa,hda⟩,fst,o',g1,g2,g3,g4,fun q=>?_⟩;obtain ⟨ot,n,q1,q2⟩:=htp (g5 q);exact ⟨ot,n,keep h' sb tp ot hnt q1,q2⟩
 cases md with
 | text _ ht=>
  show wpAny _ _ (setNext a (0:Int).toNat ((i:Int)).toNat ((ep:Int)).toNat>>=_) _ _ s;rw [Int.toNat_natCast,Int.toNat_natCast];refine zSG (zEA hoa hda hf ht ?_);have hv':(pickOrder (w.params.setOrder a ep) es)[i]?.map (·.2)=some v:=by simpa using hv
  cases hp:(pickOrder (w.params.setOrder a ep) es)[i]? with
  | none=>rw [hp] at hv';cases hv'
  | some e=>
   rw [hp] at hv';have hv2:e.2=v:=Option.some.inj hv';rw [<-hv2] at hQ;exact two 0 e.2 _ _ fun h' o' sb g1 g2 g3=>⟨_,rfl,zSL (hQ h' (fin h' o' _ sb g1 g2 g3 (.text _ ht) (fun z=>by cases z)) sb)⟩
 | drawn _ ht hp=>
  obtain ⟨ot,n,q1,q2⟩:=htp rfl;refine zSG (wpAny_seqItems q1 q2 ?_);dsimp only;have hi:i<order.length:=by
   rcases Nat.lt_or_ge i order.length with z | z
   ·exact z
   ·rw [List.getElem?_eq_none (by simpa using z)] at hv;cases hv
  have e1:((order.map fun (j:Nat)=>rawInt j).toArray)[((i:Nat):Int).toNat]?=some (rawInt (order[i] :Nat)):=by
   simp [hi]
  rw [e1];show wpAny _ _ (setNextDrawn a ((order[i] :Nat):Int).toNat ((ep:Int)).toNat>>=_) _ _ s;rw [Int.toNat_natCast,Int.toNat_natCast];have hj:order[i] <es.size:=by
   have z:=hp.mem_iff.mp (zSk hi);simpa using z
  have hv2:v=es[order[i]].2:=by
   simp [hi,hj] at hv;exact hv.symm
  refine zSG ?_;unfold setNextDrawn;refine zSG (wpAny_setState_of hoa hda hf ?_);dsimp only;rw [if_neg (by simp)];rw [Array.getElem?_eq_getElem hj];refine zSL ?_;refine zSG (wpAny_setField ho hd (by simp) ?_);have h1:=zSo (Obj.mapFields (·.setIfInBounds 1 (rawInt ((i:Int)+1)))) ho (Obj.isFreed_of_fields (Obj.data_mapFields hd _));rw [hv2] at hQ;refine zSL ⟨_,rfl,zSL (hQ _ (fin _ _ (.ref tp) (Heap.SameBut.update ..) h1 ((Obj.cls_mapFields ..).trans hc) ?_ (.drawn _ ht hp) (fun z=>rfl)) (Heap.SameBut.update ..))⟩;rw [Obj.data_mapFields hd];simp [rawInt]
 | tab _ ht hdr hl hp hs hie=>
  show wpAny _ _ (setNext a ((zAh t i:Nat):Int).toNat ((i:Int)).toNat ((ep:Int)).toNat>>=_) _ _ s;rw [Int.toNat_natCast,Int.toNat_natCast,Int.toNat_natCast];have hi:i<es.size:=by
   rcases Nat.lt_or_ge i es.size with z | z
   ·exact z
   ·rw [List.getElem?_eq_none (by simpa using z)] at hv;cases hv
  refine zSG (zEk hoa hda hf ht hdr hl hp hs (zSp hi) ?_);rw [Array.getElem?_eq_getElem hi];have hv2:es[i].2=v:=by simpa [hi] using hv
  subst hv2;exact two (zAh t (i+1)) es[i].2 _ _ fun h' o' sb g1 g2 g3=>⟨_,rfl,zSL (hQ h' (fin h' o' _ sb g1 g2 g3 (.tab _ ht hdr hl hp hs hi) (fun z=>by cases z)) sb)⟩
theorem zHE{Q:Option Value->Shared->Prop}(hh:A.handled=none)(st:RIter w it a tp es ep t order vals i s.heap)(hv:vals[i]?=none)
  (hQ: ∀h',Heap.ExtBut it s.heap h'->Q none {s with heap:=h'}):wpAny (model prog w) A (pyNext (.ref it)) Q E s:=by
 have hT:=st.typeIs;obtain ⟨hf,⟨oa,hoa,hda⟩,first,o,ho,hc,hd,md,htp⟩:=id st;unfold pyNext;refine zSG (wpAny_attempt (wpAny_callSpecial?_slot (name:=Str.ofString "__next__") hT F.slot_seti_next (wpAny_call_entry F.slot_seti_next hT F.entry_seti_next ?_ (F.args_seti_next _))));refine zSG (zSL ?_);refine zSG (wpAny_fieldsOf ho hd ?_);dsimp only;refine zSG (zSG (wpAny_setState_of hoa hda hf (zSL ?_)));rw [if_neg (by simp)];have one:wpAny (model prog w) A.in1 (do setField (.ref it) 2 .none;let x<-newExc (.type "StopIteration") [];(raiseNew x:Sem Fin)) (fun fin s'=> ∃v,fin=Fin.done (Flow.ret v)/\wpAny (model prog w) A (pure (some v)) Q E s')
   (fun e s'=>wpAny (model prog w) A (do let b<-isInstance e (.type "StopIteration");if b=true then pure none else throw e) Q E s') s:=by
  refine zSG (wpAny_setField ho hd (by simp) ?_);exact zHb hh fun h' k=>hQ h' fun b o hb e=>k b o ((Heap.SameBut.update ..).extBut b o hb e)
 cases md with
 | text _ ht=>
  show wpAny _ _ (setNext a (0:Int).toNat ((i:Int)).toNat ((ep:Int)).toNat>>=_) _ _ s;rw [Int.toNat_natCast,Int.toNat_natCast];refine zSG (zEA hoa hda hf ht ?_);have hv':(pickOrder (w.params.setOrder a ep) es)[i]?.map (·.2)=none:=by
   have z:=hv;rw [zSK,Array.getElem?_toList] at z;exact z
  cases hp:(pickOrder (w.params.setOrder a ep) es)[i]? with
  | some e=>rw [hp] at hv';cases hv'
  | none=>exact one
 | drawn _ ht hp=>
  obtain ⟨ot,n,q1,q2⟩:=htp rfl;refine zSG (wpAny_seqItems q1 q2 ?_);dsimp only;have e1:((order.map fun (j:Nat)=>rawInt j).toArray)[((i:Nat):Int).toNat]?=none:=by
   have z:order.length<=i:=by simpa using hv
   simp [z]
  rw [e1];dsimp only;refine zSG (wpAny_setField ho hd (by simp) ?_);have h1:=zSo (Obj.mapFields (·.setIfInBounds 0 (rawInt 0))) ho (Obj.isFreed_of_fields (Obj.data_mapFields hd _));refine zSG (wpAny_setField h1 (Obj.data_mapFields hd _) (by simp) ?_);exact zHb hh fun h' k=>hQ h' fun b o hb e=>k b o ((Heap.SameBut.update ..).extBut b o hb ((Heap.SameBut.update ..).extBut b o hb e))
 | tab _ ht hdr hl hp hs hie=>
  have hi:es.size<=i:=by
   rcases Nat.lt_or_ge i es.size with z | z
   ·rw [zSF (by simpa using z)] at hv;cases hv
   ·exact z
  obtain rfl:i=es.size:=by omega
  show wpAny _ _ (setNext a ((zAh t es.size:Nat):Int).toNat ((es.size:Int)).toNat ((ep:Int)).toNat>>=_) _ _ s;rw [Int.toNat_natCast,Int.toNat_natCast,Int.toNat_natCast];refine zSG (zEk hoa hda hf ht hdr hl hp hs (zSJ _) ?_);rw [Array.getElem?_eq_none (zSJ _)];exact one
theorem zLZ{Q:Value->Shared->Prop}(st:RIter w it a tp es ep t order vals i s.heap)(h:Q (.ref it) s):wpAny (model prog w) A (pyIter (.ref it)) Q E s:=by
 refine wpAny_pyIter_slot st.typeIs F.slot_seti_iter (wpAny_call_entry F.slot_seti_iter st.typeIs F.entry_seti_iter ?_ (F.args_seti_iter _));show wpAny _ _ (ret (.ref it)) _ _ s;exact zSL ⟨_,rfl,"set_iterator",_,st.typeIs,F.slot_seti_next.lookup,h⟩
theorem Walks.riseSet(hh:A.handled=none)(hne:a≠it)(hnt:tp≠it)(n:Nat)(hn:vals.length=n):
  Walks prog w A it [it,a,tp] [it] n (fun i v=>vals[i]?=some v) (fun i h=>RIter w it a tp es ep t order vals i h) where
 sub:=fun b hb=>by simp at hb;simp [hb]
 frame:=fun i h h' st hk=>by
  obtain ⟨hf,⟨oa,hoa,hda⟩,first,o,ho,hc,hd,md,htp⟩:=st;refine ⟨hf,⟨oa,hk a (by simp) _ hoa,hda⟩,first,o,hk it (by simp) _ ho,hc,hd,md,fun q=>?_⟩;obtain ⟨ot,m,q1,q2⟩:=htp q;exact ⟨ot,m,hk tp (by simp) _ q1,q2⟩
 item:=fun i s Q E hi st hQ=>by
  obtain ⟨v,hv⟩: ∃v,vals[i]?=some v:=⟨vals[i]'(by omega),by simp [show i<vals.length by omega]⟩;exact zLG st hne hnt hv fun h' st' sb=>hQ v h' s.toks hv st' fun b o hb e=>sb.extBut b o (fun h=>hb (by simp [h])) e
 done:=fun s Q E st hQ=>zHE hh st (by simp [hn]) fun h' he'=>hQ h' s.toks fun b o hb e=>he' b o (fun h=>hb (by simp [h])) e
 self:=fun i s Q E st hQ=>zLZ st hQ
theorem zIr: ∀{vs:List Value} {ns:List Int},IntsAre vs ns->(∀v∈vs,∃x t,v= .int x t)/\vs.map nu=ns
 | _,_,.nil=>⟨fun v h=>(nomatch h),rfl⟩
 | _,_,.cons n t r=>by
  obtain ⟨h1,h2⟩:=zIr r;refine ⟨fun v hv=>?_,by rw [zTD,h2];rfl⟩;rcases zSz.mp hv with rfl | hv
  ·exact ⟨n,t,rfl⟩
  ·exact h1 v hv
theorem zFh: ∀(vals:List Value),(∀v∈vals,∃x t,v= .int x t)->IntsAre vals (vals.map nu)
 | [],_=> .nil
 | v::vals,h=>by
  obtain ⟨x,t,e⟩:=h v (by simp);subst e;exact .cons x t (zFh vals fun v' hv=>h v' (by simp [hv]))
theorem zIh{ks:List Nat}{Q:Value->Shared->Prop}(hS:s.heap.RiseSet prog w a ks)(hr:Rise ks)
  (h: ∀it tp es ep t order vals h' d ss,RIter w it a tp es ep t order vals 0 h'->a≠it->tp≠it->s.heap.objs.size<=it->(tp=a\/s.heap.objs.size<=tp)->(∀b o,s.heap.get? b=some o->h'.get? b=some o)->IntsAre vals ss->ss.Perm (ks.map fun (k:Nat)=>(k:Int))->Q (.ref it) {s with heap:=h',drawn:=d}):
  wpAny (model prog w) A (pyIter (.ref a)) Q E s:=by
 obtain ⟨o,es,ep,t,ho,hex,hd,hel,hpn,hpf,htab,hl⟩:=id hS;have hT:s.TypeIs (.ref a) "set" :=⟨o,ho,hex.1⟩;have halt:=zSP ho;have hn:es.size=ks.length:=by have z:=congrArg List.length hpf;rw [zSM,zSM,Array.length_toList] at z;exact z
 have hf:=htab.fits hr hn;have hsts: ∀vals:List Value,vals.Perm (es.toList.map (·.2))-> ∃ss,IntsAre vals ss/\ss.Perm (ks.map fun (k:Nat)=>(k:Int)):=by
  intro vals hv;obtain ⟨i1,i2⟩:=zIr hpn;refine ⟨vals.map nu,zFh vals fun v q=>i1 v (hv.mem_iff.mp q),?_⟩;have z:=hv.map nu
  rwa [i2] at z
 refine wpAny_pyIter_slot hT F.slot_set_iter (wpAny_call_entry F.slot_set_iter hT F.entry_seta_iter ?_ (F.args_set_iter_1 _));unfold Builtin.«frozenset.__iter__» Builtin.Frozenset.slot0 slotArgs;simp only [List.isEmpty_nil,Bool.not_true,Bool.false_eq_true,↓reduceIte,bind_assoc,List.length_nil,bne_self_eq_false];unfold Builtin.Frozenset.addrOf Builtin.Frozenset.sizeOf;refine zSG (zSL ?_)
 try dsimp only
 refine zSG (zSL ?_);refine zSG (zSG (wpAny_setEntries_of ho hd hf (zSL ?_)));have fin: ∀(first:Value) (tp:Addr) (order:List Nat) (vals:List Value) (h1:Heap) (d1:_),(∀b o,s.heap.get? b=some o->h1.get? b=some o)->s.heap.objs.size<=h1.objs.size->RMode w a es ep t tp order vals 0 first->(first= .ref tp-> ∃ot n,h1.get? tp=some ot/\ot.data= .seq (order.map fun (j:Nat)=>rawInt j).toArray n)->
   tp<h1.objs.size->(tp=a\/s.heap.objs.size<=tp)->vals.Perm (es.toList.map (·.2))->
   wpAny (model prog w) A.in1 (do
    let x<-setEpoch a
    let y<-newFields "set_iterator" [first,rawInt 0,.ref a,rawInt es.size,rawInt x]
    ret y) (fun fin s'=> ∃r,fin=Fin.done (Flow.ret r)/\ ∃T' id',s'.TypeIs r T'/\typeLookup (.type T') "__next__" =pure (some id')/\Q r s') E {s with heap:=h1,drawn:=d1}:=by
  intro first tp order vals h1 d1 k1 sz md ht htp htq hv
  unfold setEpoch;refine zSG (zSG (wpAny_setState_of (s:={s with heap:=h1,drawn:=d1}) (k1 a o ho) hd hf (zSL ?_)));refine zSG (wpAny_newObj_type ?_);obtain ⟨ss,hs1,hs2⟩:=hsts vals hv;have hg:(h1.push {cls:= .type "set_iterator",dict:=none,data:= .fields [first,rawInt 0,.ref a,rawInt es.size,rawInt ep].toArray}).get? h1.objs.size=some {cls:= .type "set_iterator",dict:=none,data:= .fields [first,rawInt 0,.ref a,rawInt es.size,rawInt ep].toArray}:=zSY _ rfl;refine zSL ⟨_,rfl,"set_iterator",_,⟨_,hg,rfl⟩,F.slot_seti_next.lookup,?_⟩;refine h h1.objs.size tp es ep t order vals _ d1 ss ⟨hf,⟨o,zSH _ (k1 a o ho),hd⟩,first,_,hg,rfl,rfl,md,fun q=>?_⟩ (zSN (zSO halt sz)) (zSN htp) sz htq (fun b o e=>zSH _ (k1 b o e)) hs1 hs2;obtain ⟨ot,n,q1,q2⟩:=ht q;exact ⟨ot,n,zSH _ q1,q2⟩
 unfold setDrawn;refine zSG (zSG (wpAny_setState_of ho hd hf ?_));dsimp only;unfold setsByText;refine zSG (zSG (wpAny_askSetting (zSL (zSL ?_))));show wpAny _ _ (if (!w.params.followText "set-order" &&(!t.plain&&decide (es.size>1)))=true then _ else _) _ _ s;cases ht:w.params.followText "set-order" with
 | true=>
  rw [if_neg (by simp)];refine zSG (zSL ?_);exact fin (rawInt 0) a [] _ s.heap s.drawn (fun _ _ e=>e) (zSJ _) (.text 0 ht) (fun z=>by cases z) halt (.inl rfl) ((zLR _ es).map _)
 | false=>
  cases hdr:(!t.plain&&decide (es.size>1)) with
  | true=>
   rw [if_pos (by simpa using hdr)];refine zSG (zFp es.size (List.range es.size) s _ (by simp) fun ys d hperm=>?_);have hlen:ys.length=es.size:=by have z:=hperm.length_eq;simpa using z
   have h7:=hr.len;refine zSG (wpAny_newTuple ?_ (by simp [hlen];rw [zSQ];omega));refine fin (.ref s.heap.objs.size) s.heap.objs.size ys _ _ d (fun b o e=>zSH _ e) (by rw [Heap.size_push];exact Nat.le_succ _) (.drawn 0 ht hperm) (fun _=>⟨_,_,zSY _ rfl,rfl⟩) (by rw [Heap.size_push];exact Nat.lt_succ_self _) (.inr (zSJ _)) ?_;rw [<-zJy es];exact hperm.map _
  | false=>
   rw [if_neg (by simpa using hdr)];refine zSG (zSL ?_);exact fin (rawInt 0) a [] _ s.heap s.drawn (fun _ _ e=>e) (zSJ _) (.tab 0 ht hdr (hl ht) (by rw [htab.pl];exact hr.up) (by rw [htab.size,hn]) (zSU _)) (fun z=>by cases z) halt (.inl rfl) .rfl
end
end PySem
namespace PySem
open PyProof.Rows
section
variable {prog:Program}{w:World}{A:Around}{E:Value->Shared->Prop}{s:Shared}
theorem zHT{Q:List Value->Shared->Prop}{d:Addr}{ks:List Nat}(hh:A.handled=none)(hm:s.heap.RiseSet prog w d ks)(hr:Rise ks)(hn:ks.length<=sizeLine)
  (hQ: ∀h' tk dr vals ss,(∀b o,s.heap.get? b=some o->h'.get? b=some o)->IntsAre vals ss->ss.Perm (ks.map fun (k:Nat)=>(k:Int))->Q vals {s with heap:=h',toks:=tk,drawn:=dr}):
  wpAny (model prog w) A (collect (.ref d)) Q E s:=by
 have hlt:d<s.heap.objs.size:=by obtain ⟨o,_,_,_,ho,_⟩:=hm;exact zSP ho
 unfold collect;refine zSG (wpAny_runValue (codeAny_builtin F.entry_proto_collect ?_));rw [Around.under_plainId F.plain_proto_collect _];show wpAny _ A.in1 (newList [] >>=fun l=>again (.builtin "list.__iadd__" ⟨[l,.ref d],[]⟩)) _ _ s;refine zSG (wpAny_newObj_type ?_);refine zSL ⟨plainId_quiet F.plain_list_iadd _,codeAny_builtin F.entry_list_iadd ?_⟩;rw [Around.under_plainId F.plain_list_iadd _];have hm1:(s.heap.push {cls:= .type "list",data:= .seq ([] :List Value).toArray}).RiseSet prog w d ks:=zBP hm fun o e=>zSH _ e;have hS₁:(s.heap.push {cls:= .type "list",data:= .seq ([] :List Value).toArray}).get? s.heap.objs.size=some {cls:= .type "list",data:= .seq ([] :List Value).toArray}:=zSY _ rfl;have hz1:(s.heap.push {cls:= .type "list",data:= .seq ([] :List Value).toArray}).objs.size=s.heap.objs.size+1:=Heap.size_push ..;have h1:Builtin.List.listSameRef (.ref s.heap.objs.size) (.ref d)=false:=by
  simp only [Builtin.List.listSameRef,beq_eq_false_iff_ne];exact zSq hlt
 show wpAny _ A.in1 (Builtin.List.listExtendWith (.ref s.heap.objs.size) (.ref d) (.ref s.heap.objs.size)) _ _ {s with heap:=s.heap.push {cls:= .type "list",data:= .seq ([] :List Value).toArray}};have hT:Shared.TypeIs {s with heap:=s.heap.push {cls:= .type "list",data:= .seq ([] :List Value).toArray}} (.ref d) "set" :=by
  obtain ⟨o,_,_,_,ho,hex,_⟩:=hm1;exact ⟨o,ho,hex.1⟩
 unfold Builtin.List.listExtendWith;refine zSG (wpAny_typeOf hT ?_);rw [if_neg (by rw [h1];decide)];refine zSG (zIh hm1 hr fun it tp es ep t order vals h2 dr ss sit hne hnt hge htp k2 hsts hperm=>?_);dsimp only at hge htp k2;rw [hz1] at hge htp;have hm2:=zBP hm1 (h':=h2) fun o e=>k2 _ _ e;have hS₂:=k2 _ _ hS₁;have hT2:Shared.TypeIs {s with heap:=h2,drawn:=dr} (.ref d) "set" :=by
  obtain ⟨o,_,_,_,ho,hex,_⟩:=hm2;exact ⟨o,ho,hex.1⟩
 have old2: ∀b o,s.heap.get? b=some o->h2.get? b=some o:=fun b o e=>k2 b o (zSH _ e);refine zSG (zSs ?_);unfold Builtin.List.listLengthHint;refine zSG (wpAny_specialOf hT2 F.slot_set_len.lookup ?_);generalize hid:("set.__len__" :String)=id0
 wp_delta
 rw [show splitId id0=some ("set","__len__") from by subst hid;decide+kernel];subst hid;refine zSG (wpAny_isInstance (b:=true) hT2 sub_set_self ?_);rw [if_neg (by decide)];dsimp only;rw [if_pos (by decide+kernel)];refine zSG (wpAny_typeOf hT2 ?_);refine zSL ?_;show wpAny _ A.in1 (rule "list.extend.makes-room" >>=fun _=>Builtin.List.listTouch (.ref s.heap.objs.size)>>=fun _=>
  again (.builtin "list.extend.loop" ⟨[.ref s.heap.objs.size,.ref it,.ref s.heap.objs.size],[]⟩)) _ _ _
 refine zSG (wpAny_rule ?_);refine zSG ?_;show wpAny _ A.in1 (updateSeq s.heap.objs.size (·.push .none)>>=fun _=>updateSeq s.heap.objs.size (·.pop)) _ _ _;refine zSG (wpAny_updateSeq hS₂ rfl ?_);have hS₃:=zSo (Obj.mapSeq (·.push Value.none)) hS₂ rfl;refine wpAny_updateSeq hS₃ rfl ?_;have hS₄:=zSo (Obj.mapSeq (·.pop)) hS₃ rfl;have oth: ∀b o,b≠s.heap.objs.size->h2.get? b=some o->((h2.update s.heap.objs.size (Obj.mapSeq (·.push Value.none))).update s.heap.objs.size (Obj.mapSeq (·.pop))).get? b=some o:=
  fun b o hb e=>(zSn _ _ (Ne.symm hb)).trans ((zSn _ _ (Ne.symm hb)).trans e)
 have ne1:it≠s.heap.objs.size:=zSq hge;have ned:d≠s.heap.objs.size:=zSN hlt;have net:tp≠s.heap.objs.size:=by
  rcases htp with z | z
  ·rw [z];exact ned
  ·exact zSq z
 have old4: ∀b o,s.heap.get? b=some o->((h2.update s.heap.objs.size (Obj.mapSeq (·.push Value.none))).update s.heap.objs.size (Obj.mapSeq (·.pop))).get? b=some o:=
  fun b o e=>oth b o (zSN (zSP e)) (old2 b o e)
 have hlv:vals.length=ks.length:=by
  have z:vals.length=ss.length:=hsts.length;rw [z];have y:=hperm.length_eq
  rwa [zSM] at y
 have W:=Walks.riseSet (prog:=prog) (w:=w) (A:=A.in1) (es:=es) (ep:=ep) (t:=t) (order:=order) (vals:=vals) (tp:=tp) (a:=d) (it:=it) hh hne hnt ks.length hlv;have sit4:RIter w it d tp es ep t order vals 0 ((h2.update s.heap.objs.size (Obj.mapSeq (·.push Value.none))).update s.heap.objs.size (Obj.mapSeq (·.pop))):=W.frame 0 _ _ sit fun b hb o e=>oth b o (by
  simp only [zSz,zTJ,or_false] at hb;rcases hb with z | z | z<;>(subst z;assumption)) e
 refine zSL ⟨plainId_quiet F.plain_extend_loop _,codeAny_extend_loopS W.toS hn _ ?_ _ ks.length 0 _ _ _ rfl (zSU _)
  sit4 hS₄ (ItemsOf.nil _) fun s' acc' c' hmv hS' hacc=>?_⟩
 ·intro z;simp only [zSz,zTJ,or_false] at z;rcases z with y | y | y
  ·exact ne1 y.symm
  ·exact ned y.symm
  ·exact net y.symm
 ·show wpAny _ A (load s.heap.objs.size>>=_) _ _ s';refine zSG (wpAny_load hS' ?_);obtain ⟨hp',g',dr',tk',os'⟩:=s';obtain ⟨m1,m2,m3,m4,m5⟩:=hmv;cases m2;cases m3;cases m4;have z:=zKU hlv hacc;rw [<-z] at hsts;refine zSL (hQ hp' tk' _ acc'.toList ss (fun b o e=>m1 b o (fun z=>?_) (old4 b o e)) hsts hperm);have hb:=zSP e;rcases zSz.mp z with y | y
  ·exact zSN hb y
  ·have y':b=it:=by simpa using y
   exact zSN (zSO (Nat.lt_succ_of_lt hb) hge) y'
theorem zIk{Q:Value->Shared->Prop}{d:Addr}{ks:List Nat}(hh:A.handled=none)(hm:s.heap.RiseSet prog w d ks)(hr:Rise ks)
  (h: ∀(h1 h':Heap) tk dr out e,(∀b o,s.heap.get? b=some o->h1.get? b=some o)->(∀b o,h1.get? b=some o->h'.get? b=some o)->h'.get? h1.objs.size=some (seqObj "list" out e)->IntsAre out.toList (ks.map fun (k:Nat)=>(k:Int))->Q (.ref h1.objs.size) {s with heap:=h',toks:=tk,drawn:=dr}):
  wpAny (model prog w) A (call (.builtin "sorted") [.ref d]) Q E s:=by
 refine Calls.call_function_entry kind_sorted plain_sorted entry_sorted (args_sorted1 _) ?_;unfold Builtin.«sorted»;refine zSG (m:=checkCount "sorted" 1 1 _) (zSL ?_);refine zSG (zHT hh hm hr (by have:=hr.len;rw [zSQ];omega) fun h1 tk1 dr vals ss k1 hSt hperm=>?_);have hlv:vals.length=ks.length:=by
  have z:vals.length=ss.length:=hSt.length;rw [z];have y:=hperm.length_eq
  rwa [zSM] at y
 have h7:=hr.len;refine zSG (wpAny_newList ?_ (by rw [hlv,zSQ];omega));have hoL:(h1.push (seqObj "list" vals.toArray 0)).get? h1.objs.size=some (seqObj "list" vals.toArray 0):=zSY _ rfl;have hl2:vals.length<64:=by omega
 show wpAny _ _ _ _ _ {s with heap:=h1.push (seqObj "list" vals.toArray 0),toks:=tk1,drawn:=dr};refine zSG (zSs (wpAny_call_entry slot_list_sort ⟨_,hoL,rfl⟩ entry_list_sort (list_sort_tree hoL hSt hl2 fun out ns' b1 b2 b3=>⟨_,rfl,?_⟩) (args_list_sort _)));obtain rfl:ns'=ks.map fun (k:Nat)=>(k:Int):=by
  refine List.Perm.eq_of_pairwise (le:=(· <= ·)) (fun a b _ _ h1 h2=>Int.le_antisymm h1 h2) b3 ?_ (b2.trans hperm);rw [List.pairwise_map];exact hr.up.imp fun h=>by omega
 obtain ⟨e,he⟩:=sortedHeap_at (out:=out) hoL;refine zSL ⟨_,rfl,h h1 _ _ _ _ e k1 (fun b o q1=>?_) he b1⟩;have lt1:=zSP q1;rw [sortedHeap_old (zSN lt1) (by rw [size_push'];exact Nat.lt_succ_of_lt lt1)];exact zSH _ q1
end
end PySem
namespace L2
open PySem PySem.Spec PyProof.Rows
def zFO(P:Program)(w:World)(a:Addr)(ks:List Nat):HO:= .ext fun h=>h.RiseSet P w a ks
section
variable {X:Cx}{P:Program}{w:World}
theorem zDp: ∀{ks:List Nat} {its:List Value},zN (ks.map fun (k:Nat)=>V.int (k:Int)) its->IntsAre its (ks.map fun (k:Nat)=>(k:Int))
 | [],_,.nil=> .nil
 | k::ks,_,.cons r t=>by
  obtain ⟨u,e⟩:=r;subst e;exact .cons _ u (zDp t)
theorem zDq: ∀{ks:List Nat} {its:List Value},IntsAre its (ks.map fun (k:Nat)=>(k:Int))->zN (ks.map fun (k:Nat)=>V.int (k:Int)) its
 | [],[],_=> .nil
 | [],_::_,h=>by cases h
 | k::ks,[],h=>by cases h
 | k::ks,v::its,h=>by
  cases h with
  | cons n t r=>exact .cons ⟨t,rfl⟩ (zDq r)
theorem zKl(hc:X.calm=true):yJ X (.type "set") (fun xs H Q=> ∃(a:Addr) (ks:List Nat),xs= [.ref a] /\Rd H a (.lst (ks.map fun (k:Nat)=>V.int (k:Int)))/\Rise ks/\
  ∀(b:Addr),H b=none->Q (.ref b) (upd H b (zFO X.prog X.w b ks))):=by
 intro pins s σ H xs us Q I r h;obtain ⟨a,ks,rfl,e,hr,q⟩:=h;obtain ⟨u,rfl,ru⟩:=yx r;cases ru;obtain ⟨hz,its,n,rv,ho⟩:=(show yL X.prog X.w H s.heap a (.lst (ks.map fun (k:Nat)=>V.int (k:Int))) from zNm I.hok e);have hS:IntsAre its (ks.map fun (k:Nat)=>(k:Int)):=zDp rv;refine zHF (I.ok.hd hc) (l:=a) (items:=its.toArray) (ks:=ks) ⟨_,ho,rfl,n,rfl⟩ (by simpa using hS) hr fun h' tk hT k=>?_;have kk: ∀b o,s.heap.get? b=some o->h'.get? b=some o:=fun b o e=>k b o (zSP e) e;have I2:=Inv.laid (h':=h') (t':=tk) (a:=s.heap.objs.size) (o:=zFO X.prog X.w s.heap.objs.size ks) I kk (zSJ _)
  ⟨hT,by obtain ⟨o,_,_,_,q,_⟩:=hT;exact ⟨o,q⟩,fun h1 h2 a b=>zBP a b⟩
 exact ⟨.ref s.heap.objs.size,_,I2,rfl,q _ (I.hok.fresh (zSJ _))⟩
theorem zHz(hc:X.calm=true):yJ X (.builtin "sorted") (fun xs H Q=> ∃(a:Addr) (ks:List Nat),xs= [.ref a] /\H a=some (zFO X.prog X.w a ks)/\Rise ks/\
  ∀l:Addr,H l=none->Q (.ref l) (upd H l (.lst (ks.map fun (k:Nat)=>V.int (k:Int))))):=by
 intro pins s σ H xs us Q I r h;obtain ⟨a,ks,rfl,e,hr,q⟩:=h;obtain ⟨u,rfl,ru⟩:=yx r;cases ru;obtain ⟨hT,_,_⟩:=I.hok a _ e;refine zIk (I.ok.hd hc) hT hr fun h1 h' tk dr out ep' k1 k2 ho hS=>?_;have I1:Inv X pins σ H {s with heap:=h1,toks:=tk,drawn:=dr}:=(I.kept (t':=tk) k1).drew;have lo:ks.length<=sizeLine:=by have:=hr.len;rw [zSQ];omega
 have I2:=Inv.laid (h':=h') (t':=tk) (a:=h1.objs.size) (o:= .lst (ks.map fun (k:Nat)=>V.int (k:Int))) I1 k2 (zSJ _) ⟨by simpa using lo,out.toList,ep',zDq hS,by simpa using ho⟩;exact ⟨.ref h1.objs.size,_,I2,rfl,q _ (I1.hok.fresh (zSJ _))⟩
theorem zKb(hP:X.prog=P)(hw:X.w=w)(hc:X.calm=true):yJ X (.type "set") (fun xs H Q=> ∃(a:Addr) (ks:List Nat),xs= [.ref a] /\Rd H a (.lst (ks.map fun (k:Nat)=>V.int (k:Int)))/\Rise ks/\
  ∀(b:Addr),H b=none->Q (.ref b) (upd H b (zFO P w b ks))):=by
 subst hP hw;exact zKl hc
theorem zHC(hP:X.prog=P)(hw:X.w=w)(hc:X.calm=true):yJ X (.builtin "sorted") (fun xs H Q=> ∃(a:Addr) (ks:List Nat),xs= [.ref a] /\H a=some (zFO P w a ks)/\Rise ks/\
  ∀l:Addr,H l=none->Q (.ref l) (upd H l (.lst (ks.map fun (k:Nat)=>V.int (k:Int))))):=by
 subst hP hw;exact zHz hc
end
end L2
namespace FrV
abbrev Vec:=List Int
abbrev Stp:=Nat×Vec
abbrev Fn:=Nat->Int
def zA(v:Vec)(i:Nat):Int:=v.getD i 0
theorem zPb(i:Nat):zA [] i=0:=rfl
theorem zBZ(x:Int)(v:Vec):zA (x::v) 0=x:=rfl
theorem zBK(x:Int)(v:Vec)(i:Nat):zA (x::v) (i+1)=zA v i:=by simp [zA]
theorem yD{v:Vec}{i:Nat}(h:v.length<=i):zA v i=0:=by simp [zA,List.getElem?_eq_none h]
theorem zBV{v:Vec}{i:Nat}(h:i<v.length):v[i]?=some (zA v i):=by simp [zA,zSF h]
theorem zQs{u v:Vec}(hl:u.length=v.length)(h: ∀i,zA u i=zA v i):u=v:=by
 refine List.ext_getElem? fun i=>?_;by_cases hi:i<u.length
 ·rw [zBV hi,zBV (by omega),h i]
 ·rw [List.getElem?_eq_none (by omega),List.getElem?_eq_none (by omega)]
def zR(a:Int)(u:Vec)(b:Int)(v:Vec):Vec:=List.zipWith (fun x y=>a*x+b*y) u v
theorem zg{a b:Int}{u v:Vec}{n:Nat}(h1:u.length=n)(h2:v.length=n):(zR a u b v).length=n:=by simp [zR,h1,h2]
theorem yo{a b:Int}{u v:Vec}(h:u.length=v.length)(i:Nat):zA (zR a u b v) i=a*zA u i+b*zA v i:=by
 by_cases hi:i<u.length
 ·have h2:i<v.length:=by omega
  simp [zA,zR,List.getElem?_zipWith,zSF hi,zSF h2]
 ·rw [yD (by simp [zR];omega),yD (by omega),yD (by omega)];simp
def dt:Fn->Vec->Int
 | _,[] =>0
 | x,a::e=>x 0*a+dt (fun i=>x (i+1)) e
theorem zAq(a b:Int): ∀(e:Vec) (x y:Fn),dt (fun i=>a*x i+b*y i) e=a*dt x e+b*dt y e
 | [],_,_=>by simp [dt]
 | c::e,x,y=>by
  simp only [dt];rw [zAq a b e (fun i=>x (i+1)) (fun i=>y (i+1))]
  grind
theorem zCs: ∀(e:Vec) (x:Fn),(∀i,x i=0)->dt x e=0
 | [],_,_=>rfl
 | c::e,x,h=>by simp only [dt];rw [h 0,zCs e _ (fun i=>h (i+1))];simp
theorem zBB{e:Vec}{x y:Fn}(h: ∀i,x i=y i):dt x e=dt y e:=by rw [show x=y from funext h]
theorem zGG{a b:Int}{u v:Vec}(h:u.length=v.length)(e:Vec):dt (zA (zR a u b v)) e=a*dt (zA u) e+b*dt (zA v) e:=by
 rw [<-zAq];exact zBB (yo h)
def Sp:List Stp->Fn->Prop
 | [],x=> ∀i,x i=0
 |(_,v)::S,x=> ∃c:Int,Sp S (fun i=>x i - c*zA v i)
theorem Sp.congr{S:List Stp}{x y:Fn}(h:Sp S x)(e: ∀i,x i=y i):Sp S y:=by rw [<-show x=y from funext e];exact h
theorem Sp.zero: ∀(S:List Stp) {x:Fn},(∀i,x i=0)->Sp S x
 | [],_,h=>h
 |(_,v)::S,x,h=>⟨0,Sp.zero S fun i=>by rw [h i];simp⟩
theorem Sp.lin(a b:Int): ∀{S:List Stp} {x y:Fn},Sp S x->Sp S y->Sp S (fun i=>a*x i+b*y i)
 | [],x,y,h1,h2=>fun i=>by show a*x i+b*y i=0;rw [h1 i,h2 i];simp
 |(_,v)::S,x,y,⟨c,h1⟩,⟨d,h2⟩=>⟨a*c+b*d,(Sp.lin a b h1 h2).congr fun i=>by grind⟩
theorem Sp.add{S:List Stp}{x y:Fn}(h1:Sp S x)(h2:Sp S y):Sp S (fun i=>x i+y i):=(Sp.lin 1 1 h1 h2).congr fun i=>by simp
theorem Sp.sub{S:List Stp}{x y:Fn}(h1:Sp S x)(h2:Sp S y):Sp S (fun i=>x i - y i):=(Sp.lin 1 (-1) h1 h2).congr fun i=>by omega
theorem Sp.tail{p:Nat}{v:Vec}{S:List Stp}{x:Fn}(h:Sp S x):Sp ((p,v)::S) x:=⟨0,h.congr fun i=>by simp⟩
theorem Sp.head{p:Nat}{v:Vec}{S:List Stp}:Sp ((p,v)::S) (zA v):=⟨1,Sp.zero S fun i=>by omega⟩
theorem Sp.mem: ∀{S:List Stp} {q:Stp},q∈S->Sp S (zA q.2)
 |(p,v)::S,q,h=>by
  rcases zSz.mp h with rfl | h
  ·exact Sp.head
  ·exact (Sp.mem h).tail
theorem Sp.of: ∀{T S:List Stp} {x:Fn},Sp T x->(∀q∈T,Sp S (zA q.2))->Sp S x
 | [],S,x,h,_=>Sp.zero S h
 |(p,v)::T,S,x,⟨c,h⟩,hs=>by
  have h1:=Sp.of h (fun q hq=>hs q (by simp [hq]));exact (Sp.lin 1 c h1 (hs (p,v) (by simp))).congr fun i=>by simp
theorem Sp.dt: ∀{S:List Stp} {x:Fn} {e:Vec},Sp S x->(∀q∈S,dt (zA q.2) e=0)->dt x e=0
 | [],x,e,h,_=>zCs e x h
 |(p,v)::S,x,e,⟨c,h⟩,hs=>by
  have h1:=Sp.dt h (fun q hq=>hs q (by simp [hq]));have h2:=zAq 1 (-c) e x (zA v);rw [hs (p,v) (by simp)] at h2;rw [zBB (y:=fun i=>x i - c*zA v i) (fun i=>by grind),h1] at h2;omega
def Ech(n:Nat):List Stp->Prop
 | [] =>True
 |(p,v)::S=>v.length=n/\p<n/\0<zA v p/\(∀j,j<p->zA v j=0)/\(∀q∈S,p<q.1)/\Ech n S
theorem Ech.mem{n:Nat}: ∀{S:List Stp} {q:Stp},Ech n S->q∈S->q.2.length=n/\q.1<n/\0<zA q.2 q.1/\ ∀j,j<q.1->zA q.2 j=0
 |(p,v)::S,q,⟨h1,h2,h3,h4,h5,h6⟩,hq=>by
  rcases zSz.mp hq with rfl | hq
  ·exact ⟨h1,h2,h3,h4⟩
  ·exact Ech.mem h6 hq
theorem Sp.ahead: ∀{n:Nat} {S:List Stp} {x:Fn} {j:Nat},Ech n S->Sp S x->(∀q∈S,j<q.1)->x j=0
 | n,[],x,j,_,h,_=>h j
 | n,(p,v)::S,x,j,⟨h1,h2,h3,h4,h5,h6⟩,⟨c,h⟩,hj=>by
  have:=Sp.ahead h6 h (fun q hq=>hj q (by simp [hq]));have h9:=h4 j (hj (p,v) (by simp));rw [h9] at this;simpa using this
theorem Sp.small: ∀{n:Nat} {S:List Stp} {x:Fn},Ech n S->Sp S x->(∀q∈S,- zA q.2 q.1<x q.1/\x q.1<zA q.2 q.1)-> ∀i,x i=0
 | n,[],x,_,h,_=>h
 | n,(p,v)::S,x,⟨h1,h2,h3,h4,h5,h6⟩,⟨c,h⟩,hs=>by
  have e:=Sp.ahead (j:=p) h6 h h5;obtain ⟨a,b⟩:=hs (p,v) (by simp);have hc:c=0:=by
   have e':x p=c*zA v p:=by omega
   simp only at a b;rw [e'] at a b;have a':(-1)*zA v p<c*zA v p:=by omega
   have b':c*zA v p<1*zA v p:=by omega
   have:=Int.lt_of_mul_lt_mul_right a' (by omega);have:=Int.lt_of_mul_lt_mul_right b' (by omega);omega
  subst hc;exact Sp.small h6 (h.congr fun i=>by simp) fun q hq=>hs q (by simp [hq])
def Red:List Stp->Prop
 | [] =>True
 |(_,v)::S=>(∀q∈S,0<=zA v q.1/\zA v q.1<zA q.2 q.1)/\Red S
theorem Sp.rest{n p:Nat}{v:Vec}{S:List Stp}{x:Fn}(h:Ech n ((p,v)::S))(hx:Sp ((p,v)::S) x)(h0:x p=0):Sp S x:=by
 obtain ⟨h1,h2,h3,h4,h5,h6⟩:=h;obtain ⟨c,hx⟩:=hx;have e:=Sp.ahead (j:=p) h6 hx h5;have hc:c*zA v p=0:=by omega
 rcases Int.mul_eq_zero.mp hc with z | z
 ·subst z;exact hx.congr fun i=>by simp
 ·omega
def zl:Vec->List Stp->Vec
 | r,[] =>r
 | r,(p,v)::S=>zl (zR 1 r (-(zA r p/zA v p)) v) S
theorem yd{n:Nat}: ∀{S:List Stp} {r:Vec},Ech n S->r.length=n->
  (zl r S).length=n/\Sp S (fun i=>zA r i - zA (zl r S) i)/\(∀q∈S,0<=zA (zl r S) q.1/\zA (zl r S) q.1<zA q.2 q.1)/\ ∀j,(∀q∈S,j<q.1)->zA (zl r S) j=zA r j
 | [],r,_,hr=>⟨hr,fun i=>by simp [zl],fun q hq=>(nomatch hq),fun j _=>rfl⟩
 |(p,v)::S,r,⟨h1,h2,h3,h4,h5,h6⟩,hr=>by
  have hl:(zR 1 r (-(zA r p/zA v p)) v).length=n:=zg hr h1;have hm:=yo (a:=1) (b:= -(zA r p/zA v p)) (u:=r) (v:=v) (by omega);obtain ⟨k1,k2,k3,k4⟩:=yd h6 hl;refine ⟨k1,⟨zA r p/zA v p,k2.congr fun i=>?_⟩,fun q hq=>?_,fun j hj=>?_⟩
  ·show zA (zR 1 r (-(zA r p/zA v p)) v) i - zA (zl (zR 1 r (-(zA r p/zA v p)) v) S) i=zA r i - zA (zl (zR 1 r (-(zA r p/zA v p)) v) S) i - zA r p/zA v p*zA v i;rw [hm i];grind
  ·rcases zSz.mp hq with rfl | hq
   ·show 0<=zA (zl (zR 1 r (-(zA r p/zA v p)) v) S) p/\zA (zl (zR 1 r (-(zA r p/zA v p)) v) S) p<zA v p;rw [k4 p h5,hm p];have e:=Int.emod_def (zA r p) (zA v p);have n1:=zSX (zA r p) (b:=zA v p) (by omega);have n2:=zSR (zA r p) h3;have e2:1*zA r p+ -(zA r p/zA v p)*zA v p=zA r p % zA v p:=by rw [e];grind
    rw [e2];exact ⟨n1,n2⟩
   ·exact k3 q hq
  ·show zA (zl (zR 1 r (-(zA r p/zA v p)) v) S) j=zA r j;rw [k4 j fun q hq=>hj q (by simp [hq]),hm j,h4 j (hj (p,v) (by simp))];simp
def egl(g l f fb:Int):Int×Int:=
 if h:0<l then egl l (g - g/l*l) fb (f - g/l*fb) else (g,f)
termination_by l.toNat
decreasing_by
 have e:=Int.emod_def g l;have n2:=zSR g h;have:g - g/l*l=g % l:=by rw [e,Int.mul_comm]
 rw [this];have:=zSX g (b:=l) (by omega);omega
theorem zIL(one other:Int): ∀(k:Nat) (g l f fb:Int),l.toNat<=k->0<g->0<=l->(∃c,g=f*one+c*other)->(∃c,l=fb*one+c*other)->
  0<(egl g l f fb).1/\(∃c,(egl g l f fb).1=(egl g l f fb).2*one+c*other)/\(egl g l f fb).1∣g/\(egl g l f fb).1∣l
 | k,g,l,f,fb,hk,hg,hl,⟨c,hc⟩,⟨d,hd⟩=>by
  unfold egl;split
  ·rename_i h
   have e:=Int.emod_def g l;have e':g - g/l*l=g % l:=by rw [e,Int.mul_comm]
   have n2:=zSR g h;have n1:=zSX g (b:=l) (by omega);cases k with
   | zero=>omega
   | succ k=>
    obtain ⟨r1,r2,r3,r4⟩:=zIL one other k l (g - g/l*l) fb (f - g/l*fb) (by rw [e'];omega) h (by rw [e'];omega) ⟨d,hd⟩ ⟨c - g/l*d,by
     generalize hq:g/l=q;rw [hq] at*
     grind⟩
    refine ⟨r1,r2,?_,r3⟩;generalize hz:egl l (g - g/l*l) fb (f - g/l*fb)=z at*;have:g=(g - g/l*l)+l*(g/l):=by grind
    rw [this];exact Int.dvd_add r4 (Int.dvd_mul_of_dvd_left r3)
  ·rename_i h
   have:l=0:=by omega
   subst this;exact ⟨hg,⟨c,hc⟩,Int.dvd_refl _,Int.dvd_zero _⟩
def yI(one other:Int):Int×Int×Int:=
 let r:=egl other (one % other) 0 1
 let least:=r.2 %(other/r.1)
 (r.1,least,(r.1 - least*one)/other)
theorem zAl{one other:Int}(h:0<other):0<(yI one other).1/\(yI one other).1∣one/\(yI one other).1∣other/\(yI one other).2.1*one+(yI one other).2.2*other=(yI one other).1
  /\0<=(yI one other).2.1/\(yI one other).2.1<other/(yI one other).1/\0<other/(yI one other).1:=by
 have e:=Int.emod_def one other;have n1:=zSX one (b:=other) (by omega);obtain ⟨r1,⟨c,r2⟩,r3,r4⟩:=zIL one other (one % other).toNat other (one % other) 0 1 (zSJ _) h n1 ⟨1,by simp⟩ ⟨-(one/other),by rw [e];grind⟩;unfold yI;generalize egl other (one % other) 0 1=r at*;obtain ⟨g,f⟩:=r;simp only at*;obtain ⟨m,hm⟩:=r3;have hmp:0<m:=by
  rcases Int.lt_or_le 0 m with z | z
  ·exact z
  ·have:=Int.mul_le_mul_of_nonneg_left z (Int.le_of_lt r1);omega
 have hq:other/g=m:=by rw [hm];exact Int.mul_ediv_cancel_left m (by omega)
 have d1:g∣one:=by
  have:one=one % other+other*(one/other):=by omega
  rw [this];exact Int.dvd_add r4 (Int.dvd_mul_of_dvd_left ⟨m,hm⟩)
 obtain ⟨w,hw⟩:=d1;rw [hq];have ef:=Int.emod_def f m;have f1:=zSX f (b:=m) (by omega);have f2:=zSR f hmp;have hd:other∣g - f % m*one:=⟨c+(f/m)*w,by rw [ef];generalize f/m=t at*;generalize f % m=s at*;grind⟩;refine ⟨r1,⟨w,hw⟩,⟨m,hm⟩,?_,f1,f2,hmp⟩;rw [Int.ediv_mul_cancel hd];omega
def part(e:Vec):List Stp->List Stp×Vec×Int
 | [] =>([],[],0)
 |(p,v)::S=>
  let r:=part e S
  let own:=dt (zA v) e
  if own=0 then ((p,v)::r.1,r.2)
  else if r.2.2=0 then (r.1,(if 0<own then v else zR (-1) v 0 v),(own.natAbs:Int))
  else
   let d:=yI own r.2.2
   let k:=(p,zl (zR (r.2.2/d.1) v (-(own/d.1)) r.2.1) r.1)::r.1
   if d.1<r.2.2 then (k,zl (zR d.2.1 v d.2.2 r.2.1) k,d.1) else (k,r.2)
structure Parted(n:Nat)(e:Vec)(S:List Stp)(k:List Stp)(vec:Vec)(r:Int):Prop where
 ech:Ech n k
 pl: ∀q∈k,∃s∈S,s.1=q.1
 dt0: ∀q∈k,dt (zA q.2) e=0
 r0:0<=r
 same:r=0->k=S
 len:0<r->vec.length=n
 dtv:0<r->dt (zA vec) e=r
 sp:0<r-> ∀x,Sp S x↔ ∃c:Int,Sp k (fun i=>x i - c*zA vec i)
 ahead:0<r-> ∀j,(∀q∈S,j<q.1)->zA vec j=0
theorem zDe{a b:Int}{u v:Vec}{n:Nat}(h1:u.length=n)(h2:v.length=n)(i:Nat):zA (zR a u b v) i=a*zA u i+b*zA v i:=yo (by omega) i
theorem ze{n:Nat}{e:Vec}: ∀{S:List Stp},Ech n S->Parted n e S (part e S).1 (part e S).2.1 (part e S).2.2
 | [],_=>⟨trivial,fun q hq=>(nomatch hq),fun q hq=>(nomatch hq),by simp [part],fun _=>rfl,by simp [part],by simp [part],by simp [part],by simp [part]⟩
 |(p,v)::S,h=>by
  have hE:=h;obtain ⟨h1,h2,h3,h4,h5,h6⟩:=h;have I:=ze (e:=e) h6;simp only [part];generalize part e S=r at I⊢;obtain ⟨k,vec,rc⟩:=r;simp only at I⊢;have hkp: ∀q∈k,p<q.1:=fun q hq=>by
   obtain ⟨s,hs,e1⟩:=I.pl q hq;rw [<-e1];exact h5 s hs
  split
  ·rename_i h0
   refine ⟨⟨h1,h2,h3,h4,hkp,I.ech⟩,fun q hq=>?_,fun q hq=>?_,I.r0,fun z=>by rw [I.same z],I.len,I.dtv,fun hr x=>?_,fun hr j hj=>I.ahead hr j fun q hq=>hj q (by simp [hq])⟩
   ·rcases zSz.mp hq with rfl | hq
    ·exact ⟨(p,v),by simp,rfl⟩
    ·obtain ⟨s,hs,e1⟩:=I.pl q hq;exact ⟨s,by simp [hs],e1⟩
   ·rcases zSz.mp hq with rfl | hq
    ·exact h0
    ·exact I.dt0 q hq
   ·constructor
    ·rintro ⟨c,hx⟩;obtain ⟨d,hx⟩:=(I.sp hr _).mp hx;exact ⟨d,c,hx.congr fun i=>by grind⟩
    ·rintro ⟨d,c,hx⟩;exact ⟨c,(I.sp hr _).mpr ⟨d,hx.congr fun i=>by grind⟩⟩
  ·rename_i h0
   split
   ·rename_i hr0
    have ek:=I.same hr0;subst ek;have hv: ∀i,zA (if 0<dt (zA v) e then v else zR (-1) v 0 v) i=(if 0<dt (zA v) e then 1 else -1)*zA v i:=fun i=>by
     split
     ·simp
     ·rw [zDe h1 h1];simp
    have hl:(if 0<dt (zA v) e then v else zR (-1) v 0 v).length=n:=by
     split
     ·exact h1
     ·exact zg h1 h1
    refine ⟨I.ech,fun q hq=>⟨q,by simp [hq],rfl⟩,I.dt0,by simp only;omega,fun z=>by simp only at z;omega,fun _=>hl,fun _=>?_,fun hr x=>?_,fun _ j hj=>?_⟩
    ·show dt (zA (if 0<dt (zA v) e then v else zR (-1) v 0 v)) e=_;split
     ·rename_i z;simp only;omega
     ·rw [zGG rfl];simp only;omega
    ·constructor
     ·rintro ⟨c,hx⟩;refine ⟨(if 0<dt (zA v) e then 1 else -1)*c,hx.congr fun i=>?_⟩;simp only;rw [hv i];split<;>grind
     ·rintro ⟨c,hx⟩;refine ⟨(if 0<dt (zA v) e then 1 else -1)*c,hx.congr fun i=>?_⟩;simp only;rw [hv i];split<;>grind
    ·show zA (if 0<dt (zA v) e then v else zR (-1) v 0 v) j=0;rw [hv j,h4 j (hj (p,v) (by simp))];simp
   ·rename_i hrn
    have hr:0<rc:=by have:=I.r0;omega
    obtain ⟨g1,g2,g3,g4,g5,g6,g7⟩:=zAl (one:=dt (zA v) e) hr;generalize yI (dt (zA v) e) rc=d at g1 g2 g3 g4 g5 g6 g7⊢;obtain ⟨g,x,y⟩:=d;simp only at g1 g2 g3 g4 g5 g6 g7⊢;obtain ⟨ow,how⟩:=g2;obtain ⟨rw',hrw⟩:=g3;have hg0:g≠0:=by omega
    have eo:dt (zA v) e/g=ow:=by rw [how];exact Int.mul_ediv_cancel_left _ hg0
    have er:rc/g=rw':=by rw [hrw];exact Int.mul_ediv_cancel_left _ hg0
    rw [eo,er];rw [er] at g7 g6;have hvl:=I.len hr;have hwl:(zR rw' v (-ow) vec).length=n:=zg h1 hvl;obtain ⟨l1,l2,l3,l4⟩:=yd I.ech hwl;generalize hw:zl (zR rw' v (-ow) vec) k=w at l1 l2 l3 l4⊢;have dow:=I.dtv hr;have hdw:dt (zA w) e=0:=by
     have z1:=Sp.dt l2 I.dt0;have z2:=zAq 1 (-1) e (zA (zR rw' v (-ow) vec)) (zA w);rw [zBB (y:=fun i=>zA (zR rw' v (-ow) vec) i - zA w i) (fun i=>by omega),z1,zGG (by omega),dow,how] at z2
     grind
    have hvp: ∀j,j<=p->zA vec j=0:=fun j hj=>I.ahead hr j fun q hq=>zSW hj (h5 q hq);have hwj: ∀j,j<=p->zA w j=rw'*zA v j:=fun j hj=>by
     rw [l4 j fun q hq=>zSW hj (hkp q hq),zDe h1 hvl,hvp j hj];simp
    have hpos:0<zA w p:=by rw [hwj p (zSJ p)];exact Int.mul_pos g7 h3
    have hech:Ech n ((p,w)::k):=⟨l1,h2,hpos,fun j hj=>by rw [hwj j (by omega),h4 j hj];simp,hkp,I.ech⟩;have hpl: ∀q∈(p,w)::k,∃s∈(p,v)::S,s.1=q.1:=fun q hq=>by
     rcases zSz.mp hq with rfl | hq
     ·exact ⟨(p,v),by simp,rfl⟩
     ·obtain ⟨s,hs,e1⟩:=I.pl q hq;exact ⟨s,by simp [hs],e1⟩
    have hdt: ∀q∈(p,w)::k,dt (zA q.2) e=0:=fun q hq=>by
     rcases zSz.mp hq with rfl | hq
     ·exact hdw
     ·exact I.dt0 q hq
    have det:rw'*y+ow*x=1:=by
     have z:g*(rw'*y+ow*x)=g*1:=by rw [how,hrw] at g4;grind
     exact Int.eq_of_mul_eq_mul_left hg0 z
    have hwm:Sp k (fun i=>rw'*zA v i - ow*zA vec i - zA w i):=l2.congr fun i=>by rw [zDe h1 hvl];grind
    have hk: ∀q∈k,Sp ((p,v)::S) (zA q.2):=fun q hq=>Sp.tail ((I.sp hr _).mpr ⟨0,(Sp.mem hq).congr fun i=>by simp⟩);have hvec:Sp ((p,v)::S) (zA vec):=Sp.tail ((I.sp hr _).mpr ⟨1,Sp.zero _ fun i=>by omega⟩);have hws:Sp ((p,v)::S) (zA w):=by
     have a:=Sp.of hwm hk;have b:=Sp.lin rw' (-ow) (Sp.head (p:=p) (v:=v) (S:=S)) hvec;exact (b.sub a).congr fun i=>by grind
    have hkw: ∀q∈(p,w)::k,Sp ((p,v)::S) (zA q.2):=fun q hq=>by
     rcases zSz.mp hq with rfl | hq
     ·exact hws
     ·exact hk q hq
    split
    ·rename_i hlt
     have hnl:(zR x v y vec).length=n:=zg h1 hvl;obtain ⟨m1,m2,m3,m4⟩:=yd hech hnl;generalize hu:zl (zR x v y vec) ((p,w)::k)=u at m1 m2 m3 m4⊢;refine ⟨hech,hpl,hdt,by simp only;omega,fun z=>by simp only at z;omega,fun _=>m1,fun _=>?_,fun _ z=>?_,fun _ j hj=>?_⟩
     ·show dt (zA u) e=g;have z1:=Sp.dt m2 hdt;have z2:=zAq 1 (-1) e (zA (zR x v y vec)) (zA u);rw [zBB (y:=fun i=>zA (zR x v y vec) i - zA u i) (fun i=>by omega),z1,zGG (by omega),dow,how] at z2;rw [how] at g4
      grind
     ·
      have hum:Sp ((p,w)::k) (fun i=>x*zA v i+y*zA vec i - zA u i):=m2.congr fun i=>by rw [zDe h1 hvl]
      have hw1:Sp ((p,w)::k) (fun i=>rw'*zA v i - ow*zA vec i):=by
       have a:=hwm.tail (p:=p) (v:=w);exact (a.add (Sp.head (p:=p) (v:=w) (S:=k))).congr fun i=>by grind
      constructor
      ·rintro ⟨c,hx⟩;obtain ⟨d,hx⟩:=(I.sp hr _).mp hx;refine ⟨c*ow+d*rw',?_⟩;have a:=hx.tail (p:=p) (v:=w);have b:=Sp.lin (c*y - d*x) (c*ow+d*rw') hw1 hum;refine (a.add b).congr fun i=>?_;simp only;have t1:zA v i=(rw'*y+ow*x)*zA v i:=by rw [det];simp
       have t2:zA vec i=(rw'*y+ow*x)*zA vec i:=by rw [det];simp
       generalize zA v i=A at*;generalize zA vec i=B at*;generalize zA u i=C at*
       grind
      ·rintro ⟨d,hx⟩;have a:=Sp.of hx hkw;have b:=Sp.of hum hkw;have c:=Sp.lin x y (Sp.head (p:=p) (v:=v) (S:=S)) hvec;have us:=c.sub b;exact (Sp.lin 1 d a us).congr fun i=>by grind
     ·show zA u j=0;rw [m4 j fun q hq=>by
       obtain ⟨s,hs,e1⟩:=hpl q hq;rw [<-e1];exact hj s hs,zDe h1 hvl,h4 j (hj (p,v) (by simp)),I.ahead hr j fun q hq=>hj q (by simp [hq])]
      simp
    ·rename_i hge
     have hone:rw'=1:=by
      have:rw'<=1:=by
       rcases Int.lt_or_le 1 rw' with z | z
       ·have:=Int.mul_lt_mul_of_pos_left z g1;omega
       ·exact z
      omega
     refine ⟨hech,hpl,hdt,I.r0,fun z=>absurd z hrn,fun _=>hvl,fun _=>dow,fun _ z=>?_,fun _ j hj=>I.ahead hr j fun q hq=>hj q (by simp [hq])⟩;constructor
     ·rintro ⟨c,hx⟩;obtain ⟨d,hx⟩:=(I.sp hr _).mp hx;refine ⟨d+c*ow,c,?_⟩;have a:=Sp.lin 1 c hx hwm;refine a.congr fun i=>?_;rw [hone]
      grind
     ·rintro ⟨d,hx⟩;have a:=Sp.of hx hkw;exact (Sp.lin 1 d a hvec).congr fun i=>by grind
theorem zEl{n:Nat}{e:Vec}: ∀{S:List Stp},Ech n S-> ∀q∈(part e S).1,∃s∈S,s.1=q.1/\zA s.2 s.1<=zA q.2 q.1
 | [],_,q,hq=>by simp [part] at hq
 |(p,v)::S,h,q,hq=>by
  have hE:=h;obtain ⟨h1,h2,h3,h4,h5,h6⟩:=h;have I:=ze (e:=e) h6;have J:=zEl (e:=e) h6;have up:(∃s∈S,s.1=q.1/\zA s.2 s.1<=zA q.2 q.1)-> ∃s∈(p,v)::S,s.1=q.1/\zA s.2 s.1<=zA q.2 q.1:=fun ⟨s,hs,z⟩=>⟨s,by simp [hs],z⟩;simp only [part] at hq;generalize part e S=r at I J hq;obtain ⟨k,vec,rc⟩:=r;simp only at I J hq;have key: ∀(hr:0<rc) (d:Int) (hd:0<d) (hd':d∣rc),zA v p<=zA (zl (zR (rc/d) v (-(dt (zA v) e/d)) vec) k) p:=fun hr d hd hd'=>by
   have hkp: ∀q∈k,p<q.1:=fun q hq=>by
    obtain ⟨s,hs,e1⟩:=I.pl q hq;rw [<-e1];exact h5 s hs
   rw [(yd I.ech (zg h1 (I.len hr))).2.2.2 p hkp,zDe h1 (I.len hr),I.ahead hr p h5];have:0<rc/d:=Int.ediv_pos_of_pos_of_dvd hr (by omega) hd';have:=Int.mul_le_mul_of_nonneg_right (show 1<=rc/d by omega) (Int.le_of_lt h3);omega
  split at hq
  ·rcases zSz.mp hq with rfl | hq
   ·exact ⟨(p,v),by simp,rfl,Int.le_refl _⟩
   ·exact up (J q hq)
  ·split at hq
   ·exact up (J q hq)
   ·have hr:0<rc:=by have:=I.r0;omega
    obtain ⟨g1,g2,g3,_⟩:=zAl (one:=dt (zA v) e) hr;split at hq
    ·rcases zSz.mp hq with rfl | hq
     ·exact ⟨(p,v),by simp,rfl,key hr _ g1 g3⟩
     ·exact up (J q hq)
    ·rcases zSz.mp hq with rfl | hq
     ·exact ⟨(p,v),by simp,rfl,key hr _ g1 g3⟩
     ·exact up (J q hq)
theorem zFK{n:Nat}{e:Vec}: ∀{S:List Stp},Ech n S->Red S->Red (part e S).1
 | [],_,_=>trivial
 |(p,v)::S,h,hR=>by
  have hE:=h;obtain ⟨h1,h2,h3,h4,h5,h6⟩:=h;have I:=ze (e:=e) h6;have J:=zEl (e:=e) h6;have R:=zFK (e:=e) h6 hR.2;simp only [part];generalize part e S=r at I J R⊢;obtain ⟨k,vec,rc⟩:=r;simp only at I J R⊢;split
  ·refine ⟨fun q hq=>?_,R⟩;obtain ⟨s,hs,e1,e2⟩:=J q hq;have:=hR.1 s hs;rw [<-e1] at*;omega
  ·split
   ·exact R
   ·have hr:0<rc:=by have:=I.r0;omega
    have z:=(yd (r:=zR (rc/(yI (dt (zA v) e) rc).1) v (-(dt (zA v) e/(yI (dt (zA v) e) rc).1)) vec) I.ech (zg h1 (I.len hr))).2.2.1;split
    ·exact ⟨z,R⟩
    ·exact ⟨z,R⟩
def lo(z m:Int):Int:=if m=0 then z else z % m
theorem zCH(z m:Int):m∣z - lo z m:=by
 unfold lo;split
 ·simp
 ·exact Int.dvd_self_sub_emod
theorem zEQ{z m:Int}:lo z m=0↔m∣z:=by
 unfold lo;split
 ·rename_i h;subst h;exact (Int.zero_dvd).symm
 ·exact (Int.dvd_iff_emod_eq_zero).symm
abbrev Eqn:=Vec×Vec
abbrev Spt:=Nat×Vec×Int
structure Stt where
 steps:List Stp
 fixed:List Vec
 spent:List Spt
def yV(e c:Vec)(fixed:List Vec):List Int:=List.zipWith (fun f own=>dt (zA f) e+own) fixed c
def take(j:Nat)(E:Eqn)(s:Stt):Stt:=
 let r:=part E.1 s.steps
 if r.2.2=0 then s else ⟨r.1,List.zipWith (fun f own=>zl (zR 1 f (-(own/r.2.2)) r.2.1) r.1) s.fixed (yV E.1 E.2 s.fixed),s.spent++ [(j,r.2.1,r.2.2)]⟩
def fits(E:Eqn)(s:Stt):Bool:=(yV E.1 E.2 s.fixed).all fun z=>lo z (part E.1 s.steps).2.2==0
structure Sol(n m:Nat)(Es:List Eqn)(s:Stt):Prop where
 ech:Ech n s.steps
 red:Red s.steps
 ker: ∀x,Sp s.steps x↔(∀i,n<=i->x i=0)/\ ∀E∈Es,dt x E.1=0
 fl:s.fixed.length=m
 fn: ∀f∈s.fixed,f.length=n
 fr: ∀f∈s.fixed,∀q∈s.steps,0<=zA f q.1/\zA f q.1<zA q.2 q.1
 fx: ∀(k:Nat) (f:Vec),s.fixed[k]?=some f-> ∀E∈Es,dt (zA f) E.1+zA E.2 k=0
theorem zAe(e:Vec)(x y:Fn):dt (fun i=>x i - y i) e=dt x e - dt y e:=by
 have:=zAq 1 (-1) e x y;rw [zBB (y:=fun i=>x i - y i) (fun i=>by omega)] at this;omega
theorem zBG(e:Vec)(c:Int)(x:Fn):dt (fun i=>c*x i) e=c*dt x e:=by
 have:=zAq c 0 e x x;rw [zBB (y:=fun i=>c*x i) (fun i=>by simp)] at this;omega
theorem zCX{e c:Vec}{fixed:List Vec}{k:Nat}{f:Vec}(hc:c.length=fixed.length)(h:fixed[k]?=some f):(yV e c fixed)[k]?=some (dt (zA f) e+zA c k):=by
 have hk:k<fixed.length:=(zTL.mp h).1;simp only [yV,List.getElem?_zipWith,h,zBV (show k<c.length by omega)]
theorem zEt{n m:Nat}{Es:List Eqn}{s:Stt}{E:Eqn}{j:Nat}(I:Sol n m Es s)(hc:E.2.length=m)(hf:fits E s=true):Sol n m (Es++ [E]) (take j E s):=by
 have P:=ze (e:=E.1) I.ech;have R:=zFK (e:=E.1) I.ech I.red;have hs: ∀k f,s.fixed[k]?=some f->lo (dt (zA f) E.1+zA E.2 k) (part E.1 s.steps).2.2=0:=fun k f h=>by
  have z:=List.all_eq_true.mp hf _ (zSj (zCX (e:=E.1) (hc.trans I.fl.symm) h));simpa using z
 unfold take;simp only;generalize part E.1 s.steps=r at P R hs⊢;obtain ⟨kp,vec,rc⟩:=r;simp only at P R hs⊢;split
 ·rename_i h0
  have e:=P.same h0;subst e;refine ⟨I.ech,I.red,fun x=>?_,I.fl,I.fn,I.fr,fun k f hk E' hE=>?_⟩
  ·rw [I.ker x];constructor
   ·rintro ⟨a,b⟩;refine ⟨a,fun E' hE=>?_⟩;rcases zTC.mp hE with z | z
    ·exact b E' z
    ·rw [zTE.mp z];exact Sp.dt ((I.ker x).mpr ⟨a,b⟩) P.dt0
   ·rintro ⟨a,b⟩;exact ⟨a,fun E' hE=>b E' (by simp [hE])⟩
  ·rcases zTC.mp hE with z | z
   ·exact I.fx k f hk E' z
   ·rw [zTE.mp z];have:=hs k f hk;rw [h0] at this;simpa [lo] using this
 ·rename_i h0
  have hr:0<rc:=by have:=P.r0;omega
  have hl:=P.len hr;have kS: ∀x,Sp kp x->Sp s.steps x:=fun x hx=>(P.sp hr x).mpr ⟨0,hx.congr fun i=>by simp⟩;have vS:Sp s.steps (zA vec):=(P.sp hr _).mpr ⟨1,Sp.zero _ fun i=>by omega⟩;have nf: ∀k f',(List.zipWith (fun f own=>zl (zR 1 f (-(own/rc)) vec) kp) s.fixed (yV E.1 E.2 s.fixed))[k]?=some f'-> ∃f,s.fixed[k]?=some f/\f'=zl (zR 1 f (-((dt (zA f) E.1+zA E.2 k)/rc)) vec) kp:=fun k f' h=>by
   cases hk:s.fixed[k]? with
   | none=>simp [List.getElem?_zipWith,hk] at h
   | some f=>
    have z:=zCX (e:=E.1) (hc.trans I.fl.symm) hk;simp [List.getElem?_zipWith,hk,z] at h;exact ⟨f,rfl,h.symm⟩
  have gt: ∀f'∈List.zipWith (fun f own=>zl (zR 1 f (-(own/rc)) vec) kp) s.fixed (yV E.1 E.2 s.fixed),∃k,(List.zipWith (fun f own=>zl (zR 1 f (-(own/rc)) vec) kp) s.fixed (yV E.1 E.2 s.fixed))[k]?=some f':=fun f' h=>List.mem_iff_getElem?.mp h;refine ⟨P.ech,R,fun x=>?_,?_,fun f' h=>?_,fun f' h=>?_,fun k f' hk E' hE=>?_⟩
  ·constructor
   ·intro hx;obtain ⟨a,b⟩:=(I.ker x).mp (kS x hx);refine ⟨a,fun E' hE=>?_⟩;rcases zTC.mp hE with z | z
    ·exact b E' z
    ·rw [zTE.mp z];exact Sp.dt hx P.dt0
   ·rintro ⟨a,b⟩;obtain ⟨c,hx⟩:=(P.sp hr x).mp ((I.ker x).mpr ⟨a,fun E' hE=>b E' (by simp [hE])⟩);have z1:=Sp.dt hx P.dt0;rw [zAe,zBG,b E (by simp),P.dtv hr] at z1;have z2:c*rc=0:=by omega
    rcases Int.mul_eq_zero.mp z2 with z | z
    ·subst z;exact hx.congr fun i=>by simp
    ·omega
  ·simp [yV,I.fl,hc]
  ·obtain ⟨k,hk⟩:=gt f' h;obtain ⟨f,hf',rfl⟩:=nf k f' hk;exact (yd P.ech (zg (I.fn f (zSj hf')) hl)).1
  ·obtain ⟨k,hk⟩:=gt f' h;obtain ⟨f,hf',rfl⟩:=nf k f' hk;exact (yd P.ech (zg (I.fn f (zSj hf')) hl)).2.2.1
  ·obtain ⟨f,hf',rfl⟩:=nf k f' hk;have fl:=I.fn f (zSj hf');have z0:=(yd (r:=zR 1 f (-((dt (zA f) E.1+zA E.2 k)/rc)) vec) P.ech (zg fl hl)).2.1;have hE':dt (fun i=>zA (zR 1 f (-((dt (zA f) E.1+zA E.2 k)/rc)) vec) i - zA (zl (zR 1 f (-((dt (zA f) E.1+zA E.2 k)/rc)) vec) kp) i) E'.1=0:=by
    rcases zTC.mp hE with z | z
    ·exact ((I.ker _).mp (kS _ z0)).2 E' z
    ·rw [zTE.mp z];exact Sp.dt z0 P.dt0
   rw [zAe,zGG (by omega)] at hE';rcases zTC.mp hE with z | z
   ·have v0:=((I.ker _).mp vS).2 E' z;have:=I.fx k f hf' E' z;rw [v0] at hE';omega
   ·rw [zTE.mp z] at hE'⊢;have hv:=P.dtv hr;have hd:=zEQ.mp (hs k f hf');have:=Int.ediv_mul_cancel hd;rw [hv] at hE';have e3: -((dt (zA f) E.1+zA E.2 k)/rc)*rc= -(dt (zA f) E.1+zA E.2 k):=by rw [Int.neg_mul,this]
    omega
theorem zKy{n m:Nat}{Es:List Eqn}{s:Stt}{E:Eqn}(I:Sol n m Es s)(hc:E.2.length=m)(X:Nat->Fn)(h0: ∀k,∀i,n<=i->X k i=0)(hX: ∀k,k<m-> ∀E'∈Es++ [E],dt (X k) E'.1+zA E'.2 k=0):fits E s=true:=by
 have P:=ze (e:=E.1) I.ech;refine List.all_eq_true.mpr fun z hz=>?_;obtain ⟨k,hk⟩:=List.mem_iff_getElem?.mp hz;cases hf:s.fixed[k]? with
 | none=>simp [yV,List.getElem?_zipWith,hf] at hk
 | some f=>
  have hkl:k<s.fixed.length:=(zTL.mp hf).1;rw [zCX (e:=E.1) (hc.trans I.fl.symm) hf] at hk;cases hk;rw [beq_iff_eq,zEQ];have hx:Sp s.steps (fun i=>X k i - zA f i):=(I.ker _).mpr ⟨fun i hi=>by rw [h0 k i hi,yD (by rw [I.fn f (zSj hf)];exact hi)];simp,fun E' hE=>by
   rw [zAe];have a:=hX k (by rw [<-I.fl];exact hkl) E' (by simp [hE]);have b:=I.fx k f hf E' hE;omega⟩
  have a:=hX k (by rw [<-I.fl];exact hkl) E (by simp);generalize part E.1 s.steps=r at P⊢;obtain ⟨kp,vec,rc⟩:=r;simp only at P⊢;rcases Int.lt_or_eq_of_le P.r0 with hr | hr
  ·obtain ⟨c,hx⟩:=(P.sp hr _).mp hx;have z:=Sp.dt hx P.dt0;rw [zAe,zBG,zAe,P.dtv hr] at z;exact ⟨-c,by rw [Int.mul_comm,Int.neg_mul];omega⟩
  ·have e:=P.same hr.symm;subst e;have z:=Sp.dt hx P.dt0;rw [zAe] at z;rw [<-hr,Int.zero_dvd];omega
def Chn(n:Nat)(q:Nat->Vec):List Spt->(Fn->Prop)->Prop
 | [],L=> ∀x:Fn,(∀i,n<=i->x i=0)->L x
 |(j,vec,r)::ss,L=> ∃L':Fn->Prop,Chn n q ss L'/\0<r/\vec.length=n/\dt (zA vec) ((q j).take n)=r/\(∀x,L x->dt x ((q j).take n)=0)/\ ∀x,L' x-> ∃c:Int,L (fun i=>x i - c*zA vec i)
theorem Chn.take{n m:Nat}{Es:List Eqn}{s:Stt}{E:Eqn}{j:Nat}{q:Nat->Vec}(I:Sol n m Es s)(h:Chn n q s.spent.reverse (Sp s.steps))(hq:(q j).take n=E.1):Chn n q (take j E s).spent.reverse (Sp (take j E s).steps):=by
 have P:=ze (e:=E.1) I.ech;unfold FrV.take;simp only;generalize part E.1 s.steps=r at P⊢;obtain ⟨kp,vec,rc⟩:=r;simp only at P⊢;split
 ·exact h
 ·have hr:0<rc:=by have:=P.r0;omega
  rw [List.reverse_append];exact ⟨_,h,hr,P.len hr,by rw [hq];exact P.dtv hr,fun x hx=>by rw [hq];exact Sp.dt hx P.dt0,fun x hx=>(P.sp hr x).mp hx⟩
def zP(j n:Nat):Vec:=(List.range n).map fun i=>if i=j then 1 else 0
theorem yS(j n:Nat):(zP j n).length=n:=by simp [zP]
theorem yX(j n i:Nat):zA (zP j n) i=if i=j/\i<n then 1 else 0:=by
 by_cases h:i<n
 ·simp [zA,zP,h]
 ·rw [yD (by rw [yS];omega),if_neg (by omega)]
structure Cl where
 fac:Vec
 tot:Vec
 mod:Int
def los(v:Vec)(m:Int):Vec:=v.map fun z=>lo z m
theorem zBL(v:Vec)(m:Int)(i:Nat):zA (los v m) i=lo (zA v i) m:=by
 by_cases h:i<v.length
 ·simp [zA,los,h]
 ·rw [yD (by simp [los];omega),yD (by omega)];simp [lo]
theorem zBI(v:Vec)(m:Int):(los v m).length=v.length:=by simp [los]
def turn(n:Nat)(q:Nat->Vec)(len:Nat)(s:Spt)(c:Cl):Cl:=
 let own:=lo (dt (zA s.2.1) (c.tot.take n)) c.mod
 let scale:=s.2.2/(Int.gcd own s.2.2:Int)
 let times:=own*scale/s.2.2
 ⟨los (zR scale c.fac (-times) (zP s.1 len)) (c.mod*scale),los (zR scale c.tot (-times) (q s.1)) (c.mod*scale),c.mod*scale⟩
def yP(f:Vec)(q:Nat->Vec)(i:Nat):Int:=dt (fun j=>zA (q j) i) f
theorem zCy: ∀(e f:Vec) (x:Fn),e.length=f.length-> ∀a b,dt x (zR a e b f)=a*dt x e+b*dt x f
 | [],[],_,_,_,_=>by simp [dt,zR]
 | c::e,d::f,x,h,a,b=>by
  have z:=zCy e f (fun i=>x (i+1)) (by simpa using h) a b;simp only [zR,List.zipWith_cons_cons,dt] at z⊢;rw [z];grind
theorem zDw{m:Int}: ∀(e f:Vec) (x:Fn),e.length=f.length->(∀i,m∣zA e i - zA f i)->m∣dt x e - dt x f
 | [],[],_,_,_=>by simp [dt]
 | c::e,d::f,x,h,hm=>by
  have z:=zDw e f (fun i=>x (i+1)) (by simpa using h) (fun i=>by have:=hm (i+1);rwa [zBK,zBK] at this);have z0:=hm 0;rw [zBZ,zBZ] at z0;simp only [dt];have:x 0*c+dt (fun i=>x (i+1)) e -(x 0*d+dt (fun i=>x (i+1)) f)=x 0*(c - d)+(dt (fun i=>x (i+1)) e - dt (fun i=>x (i+1)) f):=by grind
  rw [this];exact Int.dvd_add (Int.dvd_mul_of_dvd_right z0) z
theorem zIa: ∀(j n:Nat) (x:Fn),j<n->dt x (zP j n)=x j
 | j,0,_,h=>by omega
 | 0,n+1,x,_=>by
  have e:zP 0 (n+1)=1::(List.range n).map fun _=>(0:Int):=by
   simp only [zP,List.range_succ_eq_map,zTD,List.map_map];simp [Function.comp_def]
  rw [e];have z: ∀(l:List Nat) (y:Fn),dt y (l.map fun _=>(0:Int))=0:=fun l=>by
   induction l with
   | nil=>intro y;rfl
   | cons a l ih=>intro y;simp only [zTD,dt];rw [ih];simp
  simp only [dt];rw [z];simp
 | j+1,n+1,x,h=>by
  have e:zP (j+1) (n+1)=0::zP j n:=by
   simp only [zP,List.range_succ_eq_map,zTD,List.map_map];simp [Function.comp_def]
  rw [e];simp only [dt];rw [zIa j n (fun i=>x (i+1)) (by omega)];simp
theorem zBa(v:Vec)(n i:Nat):zA (v.take n) i=if i<n then zA v i else 0:=by
 by_cases h:i<n
 ·simp [zA,List.getElem?_take,h]
 ·rw [yD (by simp;omega),if_neg h]
structure ClI(n m:Nat)(q:Nat->Vec)(len:Nat)(F:Fn)(k:Nat)(L:Fn->Prop)(c:Cl):Prop where
 fl:c.fac.length=len
 tl:c.tot.length=n+m
 m0:0<=c.mod
 add: ∀i,c.mod∣yP c.fac q i - zA c.tot i
 van: ∀x,L x->c.mod∣dt x (c.tot.take n)
 not: ¬c.mod∣dt F (c.tot.take n)+zA c.tot (n+k)
theorem zOw{n m len k:Nat}{q:Nat->Vec}{F:Fn}{L L':Fn->Prop}{c:Cl}{s:Spt}(I:ClI n m q len F k L c)(hr:0<s.2.2)(hv:s.2.1.length=n)(hd:dt (zA s.2.1) ((q s.1).take n)=s.2.2)
  (hL: ∀x,L x->dt x ((q s.1).take n)=0) (hL': ∀x,L' x-> ∃c:Int,L (fun i=>x i - c*zA s.2.1 i)) (hj:s.1<len) (hq:(q s.1).length=n+m)
  (hF:dt F ((q s.1).take n)+zA (q s.1) (n+k)=0):ClI n m q len F k L' (turn n q len s c):=by
 obtain ⟨j,vec,r⟩:=s;simp only at hr hv hd hL hL' hj hq hF;have hg0:0<Int.gcd (lo (dt (zA vec) (c.tot.take n)) c.mod) r:=Int.gcd_pos_of_ne_zero_right _ (by omega);unfold turn;simp only;generalize hown:lo (dt (zA vec) (c.tot.take n)) c.mod=own at hg0⊢;obtain ⟨g1,hg1⟩:=Int.gcd_dvd_right own r;obtain ⟨g2,hg2⟩:=Int.gcd_dvd_left own r;generalize hgg:(Int.gcd own r:Int)=g at*;have hgp:0<g:=by omega
 have hsc:r/g=g1:=by
  have:r=g*g1:=hg1;rw [this];exact Int.mul_ediv_cancel_left _ (by omega)
 rw [hsc];have hg1p:0<g1:=by
  rcases Int.lt_or_le 0 g1 with z | z
  ·exact z
  ·have:=Int.mul_le_mul_of_nonneg_left z (Int.le_of_lt hgp);omega
 have ht:own*g1/r=g2:=by
  have:own*g1=r*g2:=by rw [hg2,hg1];grind
  rw [this];exact Int.mul_ediv_cancel_left _ (by omega)
 rw [ht];have ml1:(zR g1 c.tot (-g2) (q j)).length=n+m:=zg I.tl hq;have ml2:(zR g1 c.fac (-g2) (zP j len)).length=len:=zg I.fl (yS _ _);have tk: ∀x:Fn,(c.mod*g1)∣dt x ((los (zR g1 c.tot (-g2) (q j)) (c.mod*g1)).take n) -(g1*dt x (c.tot.take n) - g2*dt x ((q j).take n)):=fun x=>by
  have e:=zCy (c.tot.take n) ((q j).take n) x (by simp [I.tl,hq]) g1 (-g2);have e':g1*dt x (c.tot.take n) - g2*dt x ((q j).take n)=dt x (zR g1 (c.tot.take n) (-g2) ((q j).take n)):=by rw [e];grind
  rw [e'];refine zDw _ _ x ?_ fun i=>?_
  ·simp [zBI,ml1,zR,I.tl,hq]
  ·rw [zBa,zBL,yo (u:=c.tot) (v:=q j) (by rw [I.tl,hq]),yo (u:=c.tot.take n) (v:=(q j).take n) (by simp [I.tl,hq]),zBa,zBa];split
   ·have:=zCH (g1*zA c.tot i+ -g2*zA (q j) i) (c.mod*g1);rw [<-Int.dvd_neg]
    rwa [Int.neg_sub]
   ·simp
 have shift: ∀{d u v:Int},d∣u - v->d∣v->d∣u:=fun {d u v} h1 h2=>by
  have:=Int.dvd_add h1 h2
  rwa [Int.sub_add_cancel] at this
 have shift': ∀{d u v:Int},d∣u - v->d∣u->d∣v:=fun {d u v} h1 h2=>by
  have:=Int.dvd_sub h2 h1;have e:u -(u - v)=v:=by omega
  rwa [e] at this
 refine ⟨by rw [zBI,ml2],by rw [zBI,ml1],Int.mul_nonneg I.m0 (Int.le_of_lt hg1p),fun i=>?_,fun x hx=>?_,fun hn=>?_⟩
 ·
  have a1:(c.mod*g1)∣yP (los (zR g1 c.fac (-g2) (zP j len)) (c.mod*g1)) q i -(g1*yP c.fac q i - g2*zA (q j) i):=by
   have e:=zCy c.fac (zP j len) (fun j=>zA (q j) i) (by rw [I.fl,yS]) g1 (-g2);rw [zIa j len _ hj] at e;have e':g1*yP c.fac q i - g2*zA (q j) i=dt (fun j=>zA (q j) i) (zR g1 c.fac (-g2) (zP j len)):=by rw [e];unfold yP;grind
   rw [e'];refine zDw _ _ _ (by rw [zBI]) fun i=>?_;rw [zBL];have:=zCH (zA (zR g1 c.fac (-g2) (zP j len)) i) (c.mod*g1);rw [<-Int.dvd_neg]
   rwa [Int.neg_sub]
  have a2:(c.mod*g1)∣zA (los (zR g1 c.tot (-g2) (q j)) (c.mod*g1)) i -(g1*zA c.tot i - g2*zA (q j) i):=by
   rw [zBL,yo (by rw [I.tl,hq])];have:=zCH (g1*zA c.tot i+ -g2*zA (q j) i) (c.mod*g1);rw [<-Int.dvd_neg];have e: -(lo (g1*zA c.tot i+ -g2*zA (q j) i) (c.mod*g1) -(g1*zA c.tot i - g2*zA (q j) i))=g1*zA c.tot i+ -g2*zA (q j) i - lo (g1*zA c.tot i+ -g2*zA (q j) i) (c.mod*g1):=by grind
   rwa [e]
  have a3:(c.mod*g1)∣g1*(yP c.fac q i - zA c.tot i):=by
   rw [Int.mul_comm c.mod g1];exact Int.mul_dvd_mul_left g1 (I.add i)
  show (c.mod*g1)∣yP (los (zR g1 c.fac (-g2) (zP j len)) (c.mod*g1)) q i - zA (los (zR g1 c.tot (-g2) (q j)) (c.mod*g1)) i;have:=Int.dvd_add (Int.dvd_sub a1 a2) a3;have e:yP (los (zR g1 c.fac (-g2) (zP j len)) (c.mod*g1)) q i -(g1*yP c.fac q i - g2*zA (q j) i) -(zA (los (zR g1 c.tot (-g2) (q j)) (c.mod*g1)) i -(g1*zA c.tot i - g2*zA (q j) i))+g1*(yP c.fac q i - zA c.tot i)=yP (los (zR g1 c.fac (-g2) (zP j len)) (c.mod*g1)) q i - zA (los (zR g1 c.tot (-g2) (q j)) (c.mod*g1)) i:=by grind
  rwa [e] at this
 ·refine shift (tk x) ?_;obtain ⟨t,ht⟩:=hL' x hx;have v1:=I.van _ ht;have v2:=hL _ ht;rw [zAe,zBG] at v1 v2;rw [hd] at v2;have e1:dt x ((q j).take n)=t*r:=by omega
  have e2:c.mod∣dt (zA vec) (c.tot.take n) - own:=by rw [<-hown];exact zCH _ _
  rw [e1];have e3:g1*dt x (c.tot.take n) - g2*(t*r)=g1*(dt x (c.tot.take n) - t*dt (zA vec) (c.tot.take n)+t*(dt (zA vec) (c.tot.take n) - own)):=by
   have:g2*r=g1*own:=by rw [hg2,hg1];grind
   have:g2*(t*r)=t*(g1*own):=by rw [<-this];grind
   rw [this];grind
  rw [e3,Int.mul_comm c.mod g1];exact Int.mul_dvd_mul_left g1 (Int.dvd_add v1 (Int.dvd_mul_of_dvd_right e2))
 ·have h1:=tk F;simp only at hn;rw [zBL,yo (by rw [I.tl,hq])] at hn;have h2:=zCH (g1*zA c.tot (n+k)+ -g2*zA (q j) (n+k)) (c.mod*g1);have h3:(c.mod*g1)∣g1*(dt F (c.tot.take n)+zA c.tot (n+k)):=by
   have:=Int.dvd_add (Int.dvd_sub hn h1) h2;generalize lo (g1*zA c.tot (n+k)+ -g2*zA (q j) (n+k)) (c.mod*g1)=z at*;generalize dt F ((los (zR g1 c.tot (-g2) (q j)) (c.mod*g1)).take n)=y at*;have e:y+z -(y -(g1*dt F (c.tot.take n) - g2*dt F ((q j).take n)))+(g1*zA c.tot (n+k)+ -g2*zA (q j) (n+k) - z)=g1*(dt F (c.tot.take n)+zA c.tot (n+k)):=by
    have:zA (q j) (n+k)= - dt F ((q j).take n):=by omega
    rw [this];grind
   rwa [e] at this
  rw [Int.mul_comm c.mod g1] at h3;exact I.not (Int.dvd_of_mul_dvd_mul_left (by omega) h3)
theorem zGf{n m len k:Nat}{q:Nat->Vec}{F:Fn}: ∀{ss:List Spt} {L:Fn->Prop} {c:Cl},Chn n q ss L->ClI n m q len F k L c->(∀s∈ss,s.1<len/\(q s.1).length=n+m/\dt F ((q s.1).take n)+zA (q s.1) (n+k)=0)->
  ∃L',(∀x:Fn,(∀i,n<=i->x i=0)->L' x)/\ClI n m q len F k L' (ss.foldl (fun c s=>turn n q len s c) c)
 | [],L,c,h,I,_=>⟨L,h,I⟩
 |(j,vec,r)::ss,L,c,⟨L',h1,h2,h3,h4,h5,h6⟩,I,hs=>by
  obtain ⟨a1,a2,a3⟩:=hs (j,vec,r) (by simp);rw [List.foldl_cons];exact zGf (ss:=ss) h1 (zOw (s:=(j,vec,r)) I h2 h3 h4 h5 h6 a1 a2 a3) fun s hs'=>hs s (by simp [hs'])
theorem zCw: ∀(e:Vec) (i:Nat),dt (fun t=>if t=i then 1 else 0) e=zA e i
 | [],i=>rfl
 | c::e,0=>by
  simp only [dt];rw [zCs e _ fun i=>by simp];simp [zBZ]
 | c::e,i+1=>by
  simp only [dt];rw [zBK,<-zCw e i];simp
structure Clash(n k len:Nat)(q:Nat->Vec)(f:Vec)(m:Int):Prop where
 fl:f.length=len
 m0:0<=m
 all: ∀i,i<n->m∣yP f q i
 one: ¬m∣yP f q (n+k)
theorem Clash.of{n m len k:Nat}{q:Nat->Vec}{F:Fn}{L:Fn->Prop}{c:Cl}(I:ClI n m q len F k L c)(hL: ∀x:Fn,(∀i,n<=i->x i=0)->L x)(hF: ∀i,n<=i->F i=0):Clash n k len q c.fac c.mod:=by
 refine ⟨I.fl,I.m0,fun i hi=>?_,fun h=>?_⟩
 ·have v:=I.van (fun t=>if t=i then 1 else 0) (hL _ fun t ht=>if_neg (by omega));rw [zCw,zBa,if_pos hi] at v;have:=Int.dvd_add (I.add i) v
  rwa [Int.sub_add_cancel] at this
 ·have v:=I.van F (hL F hF);refine I.not (Int.dvd_add v ?_);have:=Int.dvd_sub h (I.add (n+k));have e:yP c.fac q (n+k) -(yP c.fac q (n+k) - zA c.tot (n+k))=zA c.tot (n+k):=by omega
  rwa [e] at this
def yj(d f:Int):Int:=if f=0 then d else if d=0 then (f.natAbs:Int) else (Int.gcd f d:Int)
theorem zRG{d f:Int}(h:0<=d):0<=yj d f/\yj d f∣d/\yj d f∣f/\(yj d f=0->d=0/\f=0):=by
 unfold yj;split
 ·rename_i z;subst z;exact ⟨h,Int.dvd_refl _,Int.dvd_zero _,fun z=>⟨z,rfl⟩⟩
 ·split
  ·rename_i z1 z;subst z;exact ⟨by omega,Int.dvd_zero _,Int.natAbs_dvd.mpr (Int.dvd_refl _),fun z=>by omega⟩
  ·rename_i z1 z;exact ⟨by omega,Int.gcd_dvd_right _ _,Int.gcd_dvd_left _ _,fun y=>by have:=Int.gcd_pos_of_ne_zero_left d z1;omega⟩
theorem zEd: ∀(fs:Vec) {d:Int},0<=d->0<=fs.foldl yj d/\fs.foldl yj d∣d/\(∀f∈fs,fs.foldl yj d∣f)/\(fs.foldl yj d=0->d=0/\ ∀f∈fs,f=0)
 | [],d,h=>⟨h,Int.dvd_refl _,fun f hf=>(nomatch hf),fun z=>⟨z,fun f hf=>(nomatch hf)⟩⟩
 | f::fs,d,h=>by
  obtain ⟨a1,a2,a3,a4⟩:=zRG (f:=f) h;obtain ⟨b1,b2,b3,b4⟩:=zEd fs a1;refine ⟨b1,Int.dvd_trans b2 a2,fun g hg=>?_,fun z=>?_⟩
  ·rcases zSz.mp hg with rfl | hg
   ·exact Int.dvd_trans b2 a3
   ·exact b3 g hg
  ·obtain ⟨c1,c2⟩:=b4 z;obtain ⟨d1,d2⟩:=a4 c1;refine ⟨d1,fun g hg=>?_⟩;rcases zSz.mp hg with rfl | hg
   ·exact d2
   ·exact c2 g hg
def yq(z m:Int):Int:=if 0<m/\m<2*lo z m then lo z m - m else lo z m
theorem zMq(z m:Int):m∣z - yq z m:=by
 unfold yq;split
 ·have:=Int.dvd_add (zCH z m) (Int.dvd_refl m);have e:z - lo z m+m=z -(lo z m - m):=by omega
  rwa [e] at this
 ·exact zCH z m
def short(f:Vec)(m:Int):Vec×Int:=
 let d:=f.foldl yj m
 (f.map fun x=>yq (x/d) (m/d),m/d)
theorem zEp(c:Int): ∀(f:Vec) (x:Fn),dt x (f.map fun z=>c*z)=c*dt x f
 | [],_=>by simp [dt]
 | a::f,x=>by simp only [zTD,dt];rw [zEp c f];grind
theorem zIO(g:Int->Int)(h0:g 0=0)(v:Vec)(i:Nat):zA (v.map g) i=g (zA v i):=by
 by_cases h:i<v.length
 ·simp [zA,h]
 ·rw [yD (by simp;omega),yD (by omega),h0]
theorem Clash.short{n k len:Nat}{q:Nat->Vec}{f:Vec}{m:Int}(h:Clash n k len q f m):Clash n k len q (short f m).1 (short f m).2/\0<f.foldl yj m:=by
 obtain ⟨a1,a2,a3,a4⟩:=zEd f h.m0;have hp:0<f.foldl yj m:=by
  rcases Int.lt_or_eq_of_le a1 with z | z
  ·exact z
  ·obtain ⟨b1,b2⟩:=a4 z.symm;refine absurd ?_ h.one;have e:f=f.map fun z=>0*z:=by
    refine (List.map_id f).symm.trans (List.map_congr_left fun x hx=>?_);rw [b2 x hx];rfl
   have:yP f q (n+k)=0:=by
    unfold yP;rw [e,zEp];simp
   rw [this];exact Int.dvd_zero _
 refine ⟨?_,hp⟩;unfold FrV.short;simp only;generalize f.foldl yj m=d at*;obtain ⟨m',hm⟩:=a2;have em:m/d=m':=by rw [hm];exact Int.mul_ediv_cancel_left _ (by omega)
 rw [em];have ef:f=(f.map fun x=>x/d).map fun z=>d*z:=by
  rw [List.map_map];refine (List.map_id f).symm.trans (List.map_congr_left fun x hx=>?_);obtain ⟨y,hy⟩:=a3 x hx;simp only [id,Function.comp];rw [hy,Int.mul_ediv_cancel_left _ (by omega)]
 have ad: ∀i,yP f q i=d*yP (f.map fun x=>x/d) q i:=fun i=>by
  unfold yP;rw [<-zEp,<-ef]
 have nr: ∀i,m'∣yP (f.map fun x=>x/d) q i - yP (f.map fun x=>yq (x/d) m') q i:=fun i=>by
  refine zDw _ _ _ (by simp) fun i=>?_;have n0:yq (0/d) m'=0:=by
   have l0:lo 0 m'=0:=zEQ.mpr (Int.dvd_zero _);rw [Int.zero_ediv];unfold yq;rw [l0,if_neg (by omega)]
  rw [zIO (fun x=>x/d) (Int.zero_ediv d),zIO (fun x=>yq (x/d) m') n0];exact zMq _ _
 refine ⟨by simp [h.fl],?_,fun i hi=>?_,fun z=>?_⟩
 ·rcases Int.lt_or_le m' 0 with z | z
  ·have:=Int.mul_lt_mul_of_pos_left z hp;have:=h.m0;omega
  ·exact z
 ·have:=h.all i hi;rw [ad i,hm] at this;have:=Int.dvd_of_mul_dvd_mul_left (by omega) this;have:=Int.dvd_sub this (nr i)
  rwa [show yP (f.map fun x=>x/d) q i -(yP (f.map fun x=>x/d) q i - yP (f.map fun x=>yq (x/d) m') q i)=yP (f.map fun x=>yq (x/d) m') q i by omega] at this
 ·refine h.one ?_;rw [ad,hm];refine Int.mul_dvd_mul_left d ?_;have:=Int.dvd_add (nr (n+k)) z
  rwa [Int.sub_add_cancel] at this
def yB(n m:Nat):Stt:=⟨(List.range n).map fun p=>(p,zP p n),List.replicate m (List.replicate n 0),[]⟩
theorem zEv{n:Nat}: ∀(a b:Nat),a+b=n-> ∀x:Fn,Sp ((List.range' a b).map fun p=>(p,zP p n)) x↔(∀i,n<=i->x i=0)/\ ∀i,i<a->x i=0
 | a,0,h,x=>by
  simp only [List.range'_zero,List.map_nil];show (∀i,x i=0)↔_;constructor
  ·exact fun z=>⟨fun i _=>z i,fun i _=>z i⟩
  ·rintro ⟨z1,z2⟩ i;by_cases hi:i<a
   ·exact z2 i hi
   ·exact z1 i (by omega)
 | a,b+1,h,x=>by
  rw [List.range'_succ,zTD];have ih:=zEv (n:=n) (a+1) b (by omega);constructor
  ·rintro ⟨c,hx⟩;obtain ⟨z1,z2⟩:=(ih _).mp hx;refine ⟨fun i hi=>?_,fun i hi=>?_⟩
   ·have:=z1 i hi;rw [yX,if_neg (by omega)] at this;simpa using this
   ·have:=z2 i (by omega);rw [yX,if_neg (by omega)] at this;simpa using this
  ·rintro ⟨z1,z2⟩;refine ⟨x a,(ih _).mpr ⟨fun i hi=>?_,fun i hi=>?_⟩⟩
   ·rw [yX,if_neg (by omega),z1 i hi];simp
   ·rw [yX];by_cases e:i=a
    ·rw [if_pos ⟨e,by omega⟩,e];simp
    ·rw [if_neg (by omega),z2 i (by omega)];simp
theorem zGj{n:Nat}: ∀(a b:Nat),a+b=n->Ech n ((List.range' a b).map fun p=>(p,zP p n))/\Red ((List.range' a b).map fun p=>(p,zP p n))
 | a,0,h=>⟨trivial,trivial⟩
 | a,b+1,h=>by
  rw [List.range'_succ,zTD];obtain ⟨i1,i2⟩:=zGj (n:=n) (a+1) b (by omega);have hm: ∀q∈(List.range' (a+1) b).map fun p=>(p,zP p n),a<q.1/\q.1<n/\q.2=zP q.1 n:=fun q hq=>by
   obtain ⟨p,hp,rfl⟩:=zTF.mp hq;have:=List.mem_range'_1.mp hp;exact ⟨by show a<p;omega,by show p<n;omega,rfl⟩
  refine ⟨⟨yS _ _,by omega,?_,fun j hj=>?_,fun q hq=>(hm q hq).1,i1⟩,fun q hq=>?_,i2⟩
  ·rw [yX,if_pos ⟨rfl,by omega⟩];decide
  ·rw [yX,if_neg (by omega)]
  ·obtain ⟨z1,z2,z3⟩:=hm q hq;rw [z3,yX,yX,if_neg (by omega),if_pos ⟨rfl,z2⟩];decide
theorem zJn(n i:Nat):zA (List.replicate n 0) i=0:=by
 by_cases h:i<n
 ·simp [zA,h]
 ·exact yD (by simp;omega)
theorem zDN(n m:Nat):Sol n m [] (yB n m):=by
 have h:=zGj (n:=n) 0 n (by omega);have hs:=zEv (n:=n) 0 n (by omega);rw [<-List.range_eq_range'] at h hs;have hf: ∀f∈(yB n m).fixed,f=List.replicate n 0:=fun f hf=>List.eq_of_mem_replicate hf;refine ⟨h.1,h.2,fun x=>(hs x).trans ⟨fun ⟨a,_⟩=>⟨a,fun E hE=>(nomatch hE)⟩,fun ⟨a,_⟩=>⟨a,fun i hi=>by omega⟩⟩,by simp [yB],fun f h'=>by rw [hf f h'];simp,fun f h' q hq=>?_,fun k f _ E hE=>(nomatch hE)⟩;rw [hf f h',zJn];exact ⟨Int.le_refl _,(h.1.mem hq).2.2.1⟩
theorem zMO(n m:Nat)(q:Nat->Vec):Chn n q (yB n m).spent.reverse (Sp (yB n m).steps):=by
 have hs:=zEv (n:=n) 0 n (by omega);rw [<-List.range_eq_range'] at hs;exact fun x hx=>(hs x).mpr ⟨hx,fun i hi=>by omega⟩
theorem zEf{n m len:Nat}{q:Nat->Vec}{Es:List Eqn}{s:Stt}{E:Eqn}{j:Nat}(I:Sol n m Es s)(hc:E.2.length=m)(he:E.1.length=n)(hq:q j=E.1++E.2)(hj:j<len)(hf:fits E s=false):
  ∃k F,s.fixed[k]?=some F/\ClI n m q len (zA F) k (Sp s.steps) ⟨zP j len,q j,(part E.1 s.steps).2.2⟩:=by
 have P:=ze (e:=E.1) I.ech;obtain ⟨z,hz,hn⟩:=List.all_eq_false.mp hf;obtain ⟨k,hk⟩:=List.mem_iff_getElem?.mp hz;cases hF:s.fixed[k]? with
 | none=>simp [yV,List.getElem?_zipWith,hF] at hk
 | some F=>
  rw [zCX (e:=E.1) (hc.trans I.fl.symm) hF] at hk;cases hk;have hn': ¬(part E.1 s.steps).2.2∣dt (zA F) E.1+zA E.2 k:=fun d=>hn (by rw [beq_iff_eq];exact zEQ.mpr d);have tk:(q j).take n=E.1:=by rw [hq,<-he];simp
  refine ⟨k,F,hF,yS _ _,by rw [hq];simp [hc,he],P.r0,fun i=>?_,fun x hx=>?_,?_⟩
  ·unfold yP;rw [zIa j len _ hj];simp
  ·show _∣dt x ((q j).take n);rw [tk];rcases Int.lt_or_eq_of_le P.r0 with hr | hr
   ·obtain ⟨c,h1⟩:=(P.sp hr x).mp hx;have z:=Sp.dt h1 P.dt0;rw [zAe,zBG,P.dtv hr] at z;exact ⟨c,by show _=(part E.1 s.steps).2.2*c;rw [Int.mul_comm];omega⟩
   ·have e:=P.same hr.symm;have z:=Sp.dt hx (e▸P.dt0);rw [z];exact Int.dvd_zero _
  ·show¬_∣dt (zA F) ((q j).take n)+zA (q j) (n+k);rw [tk];have:zA (q j) (n+k)=zA E.2 k:=by
    rw [hq];simp only [zA,zTG];rw [List.getElem?_append_right (by omega)];congr 2;omega
   rw [this];exact hn'
def Bt(b:Nat)(x:Int):Prop:=x.natAbs<=2^b
def Bts(b:Nat)(v:Vec):Prop:= ∀i,Bt b (zA v i)
theorem Bt.mono{a b:Nat}{x:Int}(h:Bt a x)(hab:a<=b):Bt b x:=zST h (Nat.pow_le_pow_right (by decide) hab)
theorem Bts.mono{a b:Nat}{v:Vec}(h:Bts a v)(hab:a<=b):Bts b v:=fun i=>(h i).mono hab
theorem Bt.mul{a b:Nat}{x y:Int}(h1:Bt a x)(h2:Bt b y):Bt (a+b) (x*y):=by
 unfold Bt at*;rw [Int.natAbs_mul,Nat.pow_add];exact Nat.mul_le_mul h1 h2
theorem Bt.add{a:Nat}{x y:Int}(h1:Bt a x)(h2:Bt a y):Bt (a+1) (x+y):=by
 unfold Bt at*;rw [Nat.pow_succ];have:=Int.natAbs_add_le x y;omega
theorem Bt.neg{a:Nat}{x:Int}(h:Bt a x):Bt a (-x):=by
 unfold Bt at*;rwa [Int.natAbs_neg]
theorem Bt.zero{a:Nat}:Bt a 0:=zSU _
theorem Bt.one{a:Nat}:Bt a 1:=Nat.one_le_two_pow
theorem Bt.le{a:Nat}{x y:Int}(h:Bt a y)(hx:x.natAbs<=y.natAbs):Bt a x:=zST hx h
theorem Bt.mixed{a b:Nat}{x y z w:Int}(h1:Bt a x)(h2:Bt b y)(h3:Bt a z)(h4:Bt b w):Bt (a+b+1) (x*y+z*w):=(h1.mul h2).add (h3.mul h4)
theorem zFj{a b k l:Nat}{x y:Int}{u v:Vec}(h:u.length=v.length)(h1:Bt a x)(h2:Bts b u)(h3:Bt a y)(h4:Bts b v):Bts (a+b+1) (zR x u y v):=fun i=>by
 rw [yo h];exact Bt.mixed h1 (h2 i) h3 (h4 i)
theorem zCb{a b:Nat}: ∀(e:Vec) (x:Fn) (k:Nat),e.length<=2^k->(∀i,Bt a (x i))->Bts b e->Bt (a+b+k) (dt x e):=by
 have key: ∀(e:Vec) (x:Fn),(∀i,Bt a (x i))->Bts b e->(dt x e).natAbs<=e.length*2^(a+b):=by
  intro e
  induction e with
  | nil=>intro x _ _;simp [dt]
  | cons c e ih=>
   intro x hx he;have z:=ih (fun i=>x (i+1)) (fun i=>hx (i+1)) (fun i=>by have:=he (i+1);rwa [zBK] at this);have z0:Bt (a+b) (x 0*c):=(hx 0).mul (he 0);unfold Bt at z0;have:=Int.natAbs_add_le (x 0*c) (dt (fun i=>x (i+1)) e);simp only [dt,zTH];rw [Nat.succ_mul];omega
 intro e x k hk hx he;unfold Bt;have:=key e x hx he;rw [Nat.pow_add,Nat.mul_comm];exact zST this (Nat.mul_le_mul_right _ hk)
def cross(e1:Vec)(q:Nat)(e:Vec):Vec:=zR (zA e1 q) e (-(zA e q)) e1
theorem zGs{n q:Nat}{e1 e:Vec}(h1:e1.length=n)(h2:e.length=n):(cross e1 q e).length=n:=zg h2 h1
theorem zDX{n q:Nat}{e1 e:Vec}(h1:e1.length=n)(h2:e.length=n)(x:Fn):dt x (cross e1 q e)=zA e1 q*dt x e - zA e q*dt x e1:=by
 unfold cross;rw [zCy _ _ _ (by omega)];grind
theorem zHP{n q:Nat}{e1 e:Vec}(h1:e1.length=n)(h2:e.length=n)(i:Nat):zA (cross e1 q e) i=zA e1 q*zA e i - zA e q*zA e1 i:=by
 unfold cross;rw [yo (by omega)];grind
theorem zHR{n q b:Nat}{e1 e:Vec}(h1:e1.length=n)(h2:e.length=n)(b1:Bts b e1)(b2:Bts b e):Bts (2*b+1) (cross e1 q e):=by
 have:=zFj (k:=0) (l:=0) (x:=zA e1 q) (y:= -(zA e q)) (u:=e) (v:=e1) (by omega) (b1 q) b2 (b2 q).neg b1;rw [show 2*b+1=b+b+1 by omega];exact this
def Inj(N:List Nat)(Es:List Vec):Prop:= ∀y:Fn,(∀i,i∉N->y i=0)->(∀e∈Es,dt y e=0)-> ∀i,y i=0
theorem zEG(e:Vec)(x:Fn)(q:Nat)(c:Int):dt (fun i=>x i+c*(if i=q then 1 else 0)) e=dt x e+c*zA e q:=by
 have:=zAq 1 c e x (fun i=>if i=q then 1 else 0);rw [zCw] at this;rw [<-Int.one_mul (dt x e),<-this];exact zBB fun i=>by simp
theorem Inj.pick{q:Nat}{N:List Nat}{Es:List Vec}(h:Inj (q::N) Es): ∃e1∈Es,zA e1 q≠0:=by
 refine Classical.byContradiction fun hn=>?_;have:=h (fun i=>if i=q then 1 else 0) (fun i hi=>if_neg fun z=>hi (by simp [z])) (fun e he=>by
  rw [zCw];exact Classical.byContradiction fun z=>hn ⟨e,he,z⟩) q
 simp at this
theorem Inj.cross{n q:Nat}{N:List Nat}{Es:List Vec}{e1:Vec}(h:Inj (q::N) Es)(hq:q∉N)(hl: ∀e∈Es,e.length=n)(h1:e1∈Es)(h0:zA e1 q≠0):Inj N (Es.map (cross e1 q)):=by
 intro y hy he;have z:=h (fun i=>zA e1 q*y i+(-(dt y e1))*(if i=q then 1 else 0)) (fun i hi=>?_) (fun e hE=>?_)
 ·intro i;by_cases e:i=q
  ·rw [e];exact hy q hq
  ·have:=z i;rw [if_neg e] at this;have:zA e1 q*y i=0:=by omega
   rcases Int.mul_eq_zero.mp this with t | t
   ·exact absurd t h0
   ·exact t
 ·have a:i∉N:=fun t=>hi (by simp [t]);have b:i≠q:=fun t=>hi (by simp [t]);show zA e1 q*y i+ -(dt y e1)*(if i=q then 1 else 0)=0;rw [hy i a,if_neg b];simp
 ·have:=zEG e (fun i=>zA e1 q*y i) q (-(dt y e1));rw [this,zBG];have z:=he (FrV.cross e1 q e) (List.mem_map_of_mem hE);rw [zDX (hl e1 h1) (hl e hE)] at z;rw [Int.neg_mul,Int.mul_comm (dt y e1)];omega
def ub:Nat->Nat->Nat->Nat
 | 0,_,_=>0
 | k+1,l,b=>l+b+ub k l (2*b+1)
theorem zLF{n l:Nat}(hn:n<=2^l): ∀(N:List Nat) (Es:List Vec) (b B:Nat) (x:Fn),N.Nodup->(∀e∈Es,e.length=n/\Bts b e)->Inj N Es->(∀e∈Es,dt x e=0)->(∀i,i∉N->Bt B (x i))-> ∀i,Bt (ub N.length l b+B) (x i)
 | [],Es,b,B,x,_,_,_,_,hB=>fun i=>(hB i (by simp)).mono (by simp)
 | q::N,Es,b,B,x,nd,hE,hI,hx,hB=>by
  rw [List.nodup_cons] at nd;obtain ⟨e1,he1,h0⟩:=hI.pick;have hl: ∀e∈Es,e.length=n:=fun e he=>(hE e he).1;have ih:=zLF hn N (Es.map (cross e1 q)) (2*b+1) B (fun i=>x i+(-(x q))*(if i=q then 1 else 0)) nd.2 (fun e he=>?_) (hI.cross nd.1 hl he1 h0) (fun e he=>?_) (fun i hi=>?_)
  ·have hd:Bt (ub N.length l (2*b+1)+B+b+l) (dt (fun i=>x i+(-(x q))*(if i=q then 1 else 0)) e1):=zCb e1 _ l (by rw [hl e1 he1];exact hn) ih (hE e1 he1).2;rw [zEG,hx e1 he1] at hd;have hq:Bt (ub N.length l (2*b+1)+B+b+l) (x q):=by
    refine hd.le ?_;rw [Int.zero_add,Int.natAbs_mul,Int.natAbs_neg];exact Nat.le_mul_of_pos_right _ (by omega)
   intro i;by_cases e:i=q
   ·rw [e];exact hq.mono (by simp only [zTH,ub];omega)
   ·have:=ih i;rw [if_neg e] at this;have:Bt (ub N.length l (2*b+1)+B) (x i):=by simpa using this
    exact this.mono (by simp only [zTH,ub];omega)
  ·obtain ⟨e',he',rfl⟩:=zTF.mp he;exact ⟨zGs (hl e1 he1) (hl e' he'),zHR (hl e1 he1) (hl e' he') (hE e1 he1).2 (hE e' he').2⟩
  ·obtain ⟨e',he',rfl⟩:=zTF.mp he;rw [zEG,zDX (hl e1 he1) (hl e' he'),hx e' he',hx e1 he1,zHP (hl e1 he1) (hl e' he')]
   grind
  ·show Bt B (x i+ -(x q)*(if i=q then 1 else 0));by_cases e:i=q
   ·rw [if_pos e,e];have:x q+ -x q*1=0:=by omega
    rw [this];exact Bt.zero
   ·rw [if_neg e];have:=hB i (by simp [e,hi]);simpa using this
theorem zKn{n:Nat}{N0:List Nat}{K:Fn->Prop}(hK: ∀f:Vec,f.length=n->(∀q∈N0,zA f q=0)->(∀x,K x->dt x f=0)-> ∀i,zA f i=0){p:Nat}(hp:p<n)(hp0:p∉N0): ∀(N:List Nat) (Es:List Vec) (b:Nat),N.Nodup->(∀q∈N,q∈N0/\q<n)->(∀e∈Es,e.length=n/\Bts b e)->Inj N Es->(∀x,K x-> ∀e∈Es,dt x e=0)->(∀e∈Es,∀q∈N0,q∉N->zA e q=0)->
  ∃y:Fn,y p≠0/\Bt (ub N.length 0 b) (y p)/\(∀e∈Es,dt y e=0)/\(∀i,i∉N0->i≠p->y i=0)/\ ∀i,n<=i->y i=0
 | [],Es,b,_,_,hE,_,hx,hz=>by
  refine ⟨fun i=>if i=p then 1 else 0,by simp,by simp;exact Bt.one,fun e he=>?_,fun i _ hi=>if_neg hi,fun i hi=>if_neg (by omega)⟩;rw [zCw];exact hK e (hE e he).1 (fun q hq=>hz e he q hq (by simp)) (fun x hx'=>hx x hx' e he) p
 | q::N,Es,b,nd,hN,hE,hI,hx,hz=>by
  rw [List.nodup_cons] at nd;obtain ⟨e1,he1,h0⟩:=hI.pick;have hl: ∀e∈Es,e.length=n:=fun e he=>(hE e he).1;obtain ⟨y,y1,y2,y3,y4,y5⟩:=zKn hK hp hp0 N (Es.map (cross e1 q)) (2*b+1) nd.2 (fun r hr=>hN r (by simp [hr])) (fun e he=>by
   obtain ⟨e',he',rfl⟩:=zTF.mp he;exact ⟨zGs (hl e1 he1) (hl e' he'),zHR (hl e1 he1) (hl e' he') (hE e1 he1).2 (hE e' he').2⟩) (hI.cross nd.1 hl he1 h0) (fun x hx' e he=>by
   obtain ⟨e',he',rfl⟩:=zTF.mp he;rw [zDX (hl e1 he1) (hl e' he'),hx x hx' e' he',hx x hx' e1 he1];simp) (fun e he r hr hrN=>by
   obtain ⟨e',he',rfl⟩:=zTF.mp he;rw [zHP (hl e1 he1) (hl e' he')];by_cases e:r=q
   ·rw [e];grind
   ·rw [hz e' he' r hr (by simp [e,hrN]),hz e1 he1 r hr (by simp [e,hrN])];simp)
  have hpq:p≠q:=fun z=>hp0 (by rw [z];exact (hN q (by simp)).1);refine ⟨fun i=>zA e1 q*y i+(-(dt y e1))*(if i=q then 1 else 0),?_,?_,fun e he=>?_,fun i hi hip=>?_,fun i hi=>?_⟩
  ·show zA e1 q*y p+ -(dt y e1)*(if p=q then 1 else 0)≠0;rw [if_neg hpq,Int.mul_zero,Int.add_zero];exact fun z=>(Int.mul_eq_zero.mp z).elim h0 y1
  ·show Bt _ (zA e1 q*y p+ -(dt y e1)*(if p=q then 1 else 0));rw [if_neg hpq,Int.mul_zero,Int.add_zero];exact (((hE e1 he1).2 q).mul y2).mono (by simp only [zTH,ub];omega)
  ·rw [zEG,zBG];have z:=y3 (cross e1 q e) (List.mem_map_of_mem he);rw [zDX (hl e1 he1) (hl e he)] at z;rw [Int.neg_mul,Int.mul_comm (dt y e1)];omega
  ·show zA e1 q*y i+ -(dt y e1)*(if i=q then 1 else 0)=0;rw [y4 i hi hip,if_neg (fun z=>hi (by rw [z];exact (hN q (by simp)).1))];simp
  ·show zA e1 q*y i+ -(dt y e1)*(if i=q then 1 else 0)=0;rw [y5 i hi,if_neg (fun z=>by have:=(hN q (by simp)).2;omega)];simp
theorem Sp.dvd{n:Nat}: ∀{S:List Stp} {y:Fn} {q:Stp},Ech n S->Sp S y->q∈S->(∀s∈S,s.1<q.1->y s.1=0)->zA q.2 q.1∣y q.1
 |(p,v)::S,y,q,h,hy,hq,hz=>by
  have h':=h;obtain ⟨h1,h2,h3,h4,h5,h6⟩:=h;rcases zSz.mp hq with rfl | hq
  ·obtain ⟨c,hc⟩:=hy;have e:=Sp.ahead (j:=p) h6 hc h5;exact ⟨c,by show y p=zA v p*c;rw [Int.mul_comm];omega⟩
  ·exact Sp.dvd h6 (Sp.rest h' hy (hz (p,v) (by simp) (h5 q hq))) hq fun s hs=>hz s (by simp [hs])
theorem zHA: ∀(f:Vec) (x:Fn) (p:Nat),(∀i,i≠p->x i*zA f i=0)->dt x f=x p*zA f p
 | [],x,p,_=>by simp [dt,zPb]
 | c::f,x,0,h=>by
  simp only [dt];rw [zBZ];have: ∀(f:Vec) (y:Fn),(∀i,y i*zA f i=0)->dt y f=0:=by
   intro f
   induction f with
   | nil=>intro y _;rfl
   | cons d f ih=>
    intro y hy;simp only [dt];have a:=hy 0;rw [zBZ] at a;rw [a,ih _ fun i=>by have:=hy (i+1);rwa [zBK] at this];rfl
  rw [this f _ fun i=>by have:=h (i+1) (by omega);rwa [zBK] at this];simp
 | c::f,x,p+1,h=>by
  simp only [dt];have a:=h 0 (by omega);rw [zBZ] at a;rw [zBK,zHA f (fun i=>x (i+1)) p fun i hi=>by have:=h (i+1) (by omega);rwa [zBK] at this,a];simp
theorem zPX{n:Nat}{f:Vec}: ∀{S:List Stp},Ech n S->(∀q∈S,dt (zA q.2) f=0)-> ∀(h0: ∀i,(∀q∈S,i≠q.1)->(∃q∈S,q.1<=i)->zA f i=0),∀q∈S,zA f q.1=0
 | [],_,_,_,q,hq=>(nomatch hq)
 |(p,v)::S,⟨h1,h2,h3,h4,h5,h6⟩,hd,h0,q,hq=>by
  have ih:=zPX h6 (fun q hq=>hd q (by simp [hq])) fun i hi ⟨s,hs,hsi⟩=>h0 i (fun r hr=>by
   rcases zSz.mp hr with rfl | hr
   ·have:=h5 s hs;show i≠p;omega
   ·exact hi r hr) ⟨s,by simp [hs],hsi⟩
  rcases zSz.mp hq with rfl | hq
  ·have z:=hd (p,v) (by simp);rw [zHA f (zA v) p fun i hi=>by
    by_cases hip:i<p
    ·rw [h4 i hip];simp
    ·by_cases hS: ∃s∈S,i=s.1
     ·obtain ⟨s,hs,rfl⟩:=hS;rw [ih s hs];simp
     ·rw [h0 i (fun r hr=>by
       rcases zSz.mp hr with rfl | hr
       ·exact hi
       ·exact fun e=>hS ⟨r,hr,e⟩) ⟨(p,v),by simp,by show p<=i;omega⟩]
      simp] at z
   rcases Int.mul_eq_zero.mp z with z | z
   ·have h3':0<zA v p:=h3;omega
   ·exact z
  ·exact ih q hq
def bare(n:Nat)(S:List Stp):List Nat:=(List.range n).filter fun i=>S.all fun q=>q.1 !=i
theorem yF{n:Nat}{S:List Stp}{i:Nat}:i∈bare n S↔i<n/\ ∀q∈S,q.1≠i:=by
 simp [bare,zTM]
theorem zCr(n:Nat)(S:List Stp):(bare n S).Nodup:=List.Pairwise.filter _ List.nodup_range
theorem zBA(n:Nat)(S:List Stp):(bare n S).length<=n:=by
 have:=zTO (fun i=>S.all fun q=>q.1 !=i) (List.range n);simpa [bare] using this
theorem zCF{l l':Nat}(hl:l<=l'): ∀{k k' b b':Nat},k<=k'->b<=b'->ub k l b<=ub k' l' b'
 | 0,_,_,_,_,_=>zSU _
 | k+1,0,_,_,h,_=>by omega
 | k+1,k'+1,b,b',h,hb=>by
  have:=zCF hl (k:=k) (k':=k') (b:=2*b+1) (b':=2*b'+1) (by omega) (by omega);simp only [ub];omega
structure Kern(n:Nat)(Es:List Vec)(b:Nat)(S:List Stp):Prop where
 ech:Ech n S
 ker: ∀x,Sp S x↔(∀i,n<=i->x i=0)/\ ∀e∈Es,dt x e=0
 el: ∀e∈Es,e.length=n/\Bts b e
theorem Kern.inj{n b:Nat}{Es:List Vec}{S:List Stp}(h:Kern n Es b S):Inj (bare n S) Es:=by
 intro y hy he;have hs:Sp S y:=(h.ker y).mpr ⟨fun i hi=>hy i fun z=>by have:=(yF.mp z).1;omega,he⟩;refine Sp.small h.ech hs fun q hq=>?_;have:=hy q.1 fun z=>(yF.mp z).2 q hq rfl;have:=(h.ech.mem hq).2.2.1;omega
theorem Kern.pivot{n b:Nat}{Es:List Vec}{S:List Stp}(h:Kern n Es b S){q:Stp}(hq:q∈S):Bt (ub n 0 b) (zA q.2 q.1):=by
 have hm:=h.ech.mem hq;obtain ⟨y,y1,y2,y3,y4,y5⟩:=zKn (n:=n) (N0:=bare n S) (K:=Sp S) (fun f hf hz hv i=>by
  by_cases hi: ∃s∈S,i=s.1
  ·obtain ⟨s,hs,rfl⟩:=hi;exact zPX h.ech (fun r hr=>hv _ (Sp.mem hr)) (fun j hj _=>by
    by_cases hjn:j<n
    ·exact hz j (yF.mpr ⟨hjn,fun r hr z=>hj r hr z.symm⟩)
    ·exact yD (by omega)) s hs
  ·by_cases hin:i<n
   ·exact hz i (yF.mpr ⟨hin,fun r hr z=>hi ⟨r,hr,z.symm⟩⟩)
   ·exact yD (by omega)) (p:=q.1) hm.2.1 (fun z=>(yF.mp z).2 q hq rfl) (bare n S) Es b (zCr n S) (fun r hr=>⟨hr,(yF.mp hr).1⟩) h.el h.inj (fun x hx=>((h.ker x).mp hx).2) (fun e _ r hr hn=>absurd hr hn)
 have hs:Sp S y:=(h.ker y).mpr ⟨y5,y3⟩;have hd:=Sp.dvd h.ech hs hq fun s hs' hlt=>y4 s.1 (fun z=>(yF.mp z).2 s hs' rfl) (by omega);refine (y2.mono (zCF (zSJ 0) (zBA n S) (zSJ b))).le ?_;exact Nat.le_of_dvd (by omega) (Int.natAbs_dvd_natAbs.mpr hd)
theorem Kern.grow{n b l B:Nat}{Es:List Vec}{S:List Stp}(h:Kern n Es b S)(hl:n+1<=2^l){x:Fn}{c:Vec->Int}{z:Int}(hx: ∀i,n<=i->x i=0)(he: ∀e∈Es,dt x e+c e*z=0)(hc: ∀e∈Es,Bt b (c e))(hz:Bt B z)(hp: ∀q∈S,Bt B (x q.1)): ∀i,Bt (ub n l b+B) (x i):=by
 have app: ∀(e:Vec) (y:Fn) (d:Int),dt y (e++ [d])=dt y e+y e.length*d:=by
  intro e
  induction e with
  | nil=>intro y d;simp [dt]
  | cons a e ih=>intro y d;simp only [List.cons_append,dt,zTH];rw [ih];omega
 have low: ∀(e:Vec) (y y':Fn),(∀i,i<e.length->y i=y' i)->dt y e=dt y' e:=by
  intro e
  induction e with
  | nil=>intro y y' _;rfl
  | cons a e ih=>intro y y' hy;simp only [dt];rw [hy 0 (by simp),ih _ _ fun i hi=>hy (i+1) (by simp;omega)]
 have key:=zLF (n:=n+1) (l:=l) hl (bare n S) (Es.map fun e=>e++ [c e]) b B (fun i=>if i=n then z else x i) (zCr n S) (fun e he'=>by
  obtain ⟨e',h1,rfl⟩:=zTF.mp he';obtain ⟨a1,a2⟩:=h.el e' h1;refine ⟨by simp [a1],fun i=>?_⟩;by_cases hi:i<n
  ·have:zA (e'++ [c e']) i=zA e' i:=by simp [zA,List.getElem?_append_left (show i<e'.length by omega)]
   rw [this];exact a2 i
  ·by_cases hi':i=n
   ·have:zA (e'++ [c e']) i=c e':=by rw [hi'];simp [zA,<-a1]
    rw [this];exact hc e' h1
   ·rw [yD (by simp;omega)];exact Bt.zero) (fun y hy he'=>h.inj y hy fun e h1=>by
   have:=he' (e++ [c e]) (List.mem_map_of_mem h1);rw [app,(h.el e h1).1,hy n (fun t=>by have:=(yF.mp t).1;omega)] at this;simpa using this) (fun e he'=>by
   obtain ⟨e',h1,rfl⟩:=zTF.mp he';rw [app,(h.el e' h1).1,low e' _ x fun i hi=>if_neg (by have:=(h.el e' h1).1;omega)];have:=he e' h1;rw [if_pos rfl,Int.mul_comm z];omega) (fun i hi=>by
   show Bt B (if i=n then z else x i);split
   ·exact hz
   ·by_cases hin:i<n
    ·by_cases hS: ∃q∈S,q.1=i
     ·obtain ⟨q,hq,rfl⟩:=hS;exact hp q hq
     ·exact absurd (yF.mpr ⟨hin,fun q hq e=>hS ⟨q,hq,e⟩⟩) hi
    ·rw [hx i (by omega)];exact Bt.zero)
 intro i;by_cases hi:i=n
 ·rw [hi,hx n (zSJ n)];exact Bt.zero
 ·have:=key i;rw [if_neg hi] at this;exact this.mono (Nat.add_le_add_right (zCF (zSJ l) (zBA n S) (zSJ b)) B)
theorem zGc{n:Nat}: ∀{S:List Stp},Ech n S->Red S-> ∀q∈S,∀r∈S,0<=zA q.2 r.1/\zA q.2 r.1<=zA r.2 r.1
 | [],_,_,q,hq,_,_=>(nomatch hq)
 |(p,v)::S,⟨h1,h2,h3,h4,h5,h6⟩,⟨r1,r2⟩,q,hq,r,hr=>by
  rcases zSz.mp hq with rfl | hq<;>rcases zSz.mp hr with rfl | hr
  ·exact ⟨Int.le_of_lt h3,Int.le_refl _⟩
  ·have:=r1 r hr;exact ⟨this.1,Int.le_of_lt this.2⟩
  ·have z:=(h6.mem hq).2.2.2 p (h5 q hq);show 0<=zA q.2 p/\zA q.2 p<=zA v p;omega
  ·exact zGc h6 r2 q hq r hr
theorem zEV{b:Nat}{x y:Int}(h:Bt b y)(h1: -y<=x)(h2:x<=y):Bt b x:=h.le (by omega)
theorem Kern.steps{n b l:Nat}{Es:List Vec}{S:List Stp}(h:Kern n Es b S)(hr:Red S)(hl:n+1<=2^l){q:Stp}(hq:q∈S):Bts (ub n l b+ub n 0 b) q.2:=by
 have hm:=(h.ker _).mp (Sp.mem hq);refine h.grow hl (x:=zA q.2) (c:=fun _=>0) (z:=0) hm.1 (fun e he=>by rw [hm.2 e he];simp) (fun _ _=>Bt.zero) Bt.zero fun r hr'=>?_;have:=zGc h.ech hr q hq r hr';exact zEV (h.pivot hr') (by omega) this.2
theorem zIU{e:Vec}: ∀{S S':List Stp},S'<:+S-> ∀q∈(part e S').1,q∈(part e S).1
 | [],S',h,q,hq=>by rw [List.suffix_nil.mp h] at hq;exact hq
 |(p,v)::S,S',h,q,hq=>by
  rcases List.suffix_cons_iff.mp h with rfl | h
  ·exact hq
  ·have ih:=zIU (e:=e) h q hq;simp only [part];split
   ·exact zSm _ ih
   ·split
    ·exact ih
    ·split<;>exact zSm _ ih
theorem zHS{n:Nat}{e:Vec}: ∀{S S':List Stp},Ech n S->S'<:+S-> ∀q∈(part e S).1,q∈(part e S').1\/ ∀s∈S',q.1<s.1
 | [],S',_,h,q,hq=>by rw [List.suffix_nil.mp h];exact .inl hq
 |(p,v)::S,S',⟨h1,h2,h3,h4,h5,h6⟩,h,q,hq=>by
  rcases List.suffix_cons_iff.mp h with rfl | h
  ·exact .inl hq
  ·have ih:=zHS (e:=e) h6 h q;have hd:q.1=p->q∈(part e S').1\/ ∀s∈S',q.1<s.1:=fun z=> .inr fun s hs=>by rw [z];exact h5 s (h.subset hs)
   simp only [part] at hq;split at hq
   ·rcases zSz.mp hq with rfl | hq
    ·exact hd rfl
    ·exact ih hq
   ·split at hq
    ·exact ih hq
    ·split at hq
     ·rcases zSz.mp hq with rfl | hq
      ·exact hd rfl
      ·exact ih hq
     ·rcases zSz.mp hq with rfl | hq
      ·exact hd rfl
      ·exact ih hq
theorem zFD{n:Nat}{e:Vec}: ∀{S:List Stp},Ech n S->Red S->0<(part e S).2.2-> ∀q∈(part e S).1,- zA q.2 q.1<zA (part e S).2.1 q.1/\zA (part e S).2.1 q.1<zA q.2 q.1
 | [],_,_,hr=>by simp [part] at hr
 |(p,v)::S,h,hR,hr=>by
  have hE:=h;obtain ⟨h1,h2,h3,h4,h5,h6⟩:=h;have I:=ze (e:=e) h6;have J:=zFD (e:=e) h6 hR.2;simp only [part] at hr⊢;generalize part e S=r at I J hr⊢;obtain ⟨k,vec,rc⟩:=r;simp only at I J hr⊢;by_cases h0:dt (zA v) e=0
  ·rw [if_pos h0] at hr⊢;simp only at hr⊢;intro q hq;rcases zSz.mp hq with rfl | hq
   ·have:=I.ahead hr p h5;have h3':0<zA v p:=h3;show - zA v p<zA vec p/\zA vec p<zA v p;omega
   ·exact J hr q hq
  ·rw [if_neg h0] at hr⊢;by_cases hr0:rc=0
   ·rw [if_pos hr0] at hr⊢;simp only at hr⊢;have ek:=I.same hr0;subst ek;intro q hq;have:=hR.1 q hq;split
    ·omega
    ·rw [zDe h1 h1];omega
   ·rw [if_neg hr0] at hr⊢;have hrp:0<rc:=by have:=I.r0;omega
    obtain ⟨g1,g2,g3,_⟩:=zAl (one:=dt (zA v) e) hrp;have P:=ze (e:=e) hE;have hvl:=I.len hrp;have hkp: ∀q∈k,p<q.1:=fun q hq=>by
     obtain ⟨s,hs,e1⟩:=I.pl q hq;rw [<-e1];exact h5 s hs
    have hg:0<rc/(yI (dt (zA v) e) rc).1:=Int.ediv_pos_of_pos_of_dvd hrp (by omega) g3;have hpw:0<zA (zl (zR (rc/(yI (dt (zA v) e) rc).1) v (-(dt (zA v) e/(yI (dt (zA v) e) rc).1)) vec) k) p:=by
     rw [(yd I.ech (zg h1 hvl)).2.2.2 p hkp,zDe h1 hvl,I.ahead hrp p h5];have:=Int.mul_pos hg h3;omega
    have hech:Ech n ((p,zl (zR (rc/(yI (dt (zA v) e) rc).1) v (-(dt (zA v) e/(yI (dt (zA v) e) rc).1)) vec) k)::k):=by
     obtain ⟨l1,l2,l3,l4⟩:=yd (r:=zR (rc/(yI (dt (zA v) e) rc).1) v (-(dt (zA v) e/(yI (dt (zA v) e) rc).1)) vec) I.ech (zg h1 hvl);refine ⟨l1,h2,hpw,fun j hj=>?_,hkp,I.ech⟩;rw [l4 j fun q hq=>Nat.lt_trans hj (hkp q hq),zDe h1 hvl,h4 j hj,I.ahead hrp j fun q hq=>Nat.lt_trans hj (h5 q hq)];simp
    split
    ·intro q hq;have z:=(yd (r:=zR (yI (dt (zA v) e) rc).2.1 v (yI (dt (zA v) e) rc).2.2 vec) hech (zg h1 hvl)).2.2.1 q hq;have:=(hech.mem hq).2.2.1;show - zA q.2 q.1<zA (zl _ _) q.1/\zA (zl _ _) q.1<zA q.2 q.1;omega
    ·intro q hq;rcases zSz.mp hq with rfl | hq
     ·have:=I.ahead hrp p h5;simp only;omega
     ·exact J hrp q hq
theorem zFz{n R:Nat}{e:Vec}: ∀{S:List Stp},Ech n S->(∀q∈S,Bt R (dt (zA q.2) e))->Bt R (part e S).2.2
 | [],_,_=>Bt.zero
 |(p,v)::S,h,hB=>by
  have h6:=h.2.2.2.2.2;have I:=ze (e:=e) h6;have ih:=zFz (e:=e) h6 fun q hq=>hB q (by simp [hq]);have hv:=hB (p,v) (by simp);simp only [part];generalize part e S=r at I ih⊢;obtain ⟨k,vec,rc⟩:=r;simp only at I ih⊢;split
  ·exact ih
  ·split
   ·exact hv.le (by simp)
   ·rename_i h0 hr0
    have hr:0<rc:=by have:=I.r0;omega
    obtain ⟨g1,_⟩:=zAl (one:=dt (zA v) e) hr;split
    ·rename_i hlt
     exact ih.le (by simp only;omega)
    ·exact ih
theorem zIb{e:Vec}: ∀{n:Nat} {S:List Stp},Ech n S->(part e S).2.2=0->(part e S).2.1= []
 | n,[],_,_=>rfl
 | n,(p,v)::S,h,hr=>by
  have h6:=h.2.2.2.2.2;have I:=ze (e:=e) h6;have ih:=zIb (e:=e) h6;simp only [part] at hr⊢;generalize part e S=r at I ih hr⊢;obtain ⟨k,vec,rc⟩:=r;simp only at I ih hr⊢;by_cases h0:dt (zA v) e=0
  ·rw [if_pos h0] at hr⊢;exact ih hr
  ·rw [if_neg h0] at hr⊢;by_cases hr0:rc=0
   ·rw [if_pos hr0] at hr;simp only at hr;omega
   ·rw [if_neg hr0] at hr⊢;have hrp:0<rc:=by have:=I.r0;omega
    obtain ⟨g1,_⟩:=zAl (one:=dt (zA v) e) hrp;split at hr
    ·simp only at hr;omega
    ·exact absurd hr hr0
theorem zAt{n:Nat}: ∀{S S':List Stp},Ech n S->S'<:+S->Ech n S'
 | [],S',_,h=>by rw [List.suffix_nil.mp h];trivial
 |(p,v)::S,S',hE,h=>by
  rcases List.suffix_cons_iff.mp h with rfl | h
  ·exact hE
  ·exact zAt hE.2.2.2.2.2 h
theorem zFd: ∀{S S':List Stp},Red S->S'<:+S->Red S'
 | [],S',_,h=>by rw [List.suffix_nil.mp h];trivial
 |(p,v)::S,S',hE,h=>by
  rcases List.suffix_cons_iff.mp h with rfl | h
  ·exact hE
  ·exact zFd hE.2 h
theorem Kern.part{n b:Nat}{Es:List Vec}{S:List Stp}{e:Vec}(h:Kern n Es b S)(he:e.length=n/\Bts b e):Kern n (Es++ [e]) b (part e S).1:=by
 have P:=ze (e:=e) h.ech;refine ⟨P.ech,fun x=>?_,fun e' h'=>?_⟩
 ·rcases Int.lt_or_eq_of_le P.r0 with hr | hr
  ·constructor
   ·intro hx;obtain ⟨a,b⟩:=(h.ker x).mp ((P.sp hr x).mpr ⟨0,hx.congr fun i=>by simp⟩);refine ⟨a,fun e' h'=>?_⟩;rcases zTC.mp h' with z | z
    ·exact b e' z
    ·rw [zTE.mp z];exact Sp.dt hx P.dt0
   ·rintro ⟨a,b⟩;obtain ⟨c,hx⟩:=(P.sp hr x).mp ((h.ker x).mpr ⟨a,fun e' h'=>b e' (by simp [h'])⟩);have z1:=Sp.dt hx P.dt0;rw [zAe,zBG,b e (by simp),P.dtv hr] at z1;have z2:c*(FrV.part e S).2.2=0:=by omega
    rcases Int.mul_eq_zero.mp z2 with z | z
    ·subst z;exact hx.congr fun i=>by simp
    ·omega
  ·have ek:=P.same hr.symm;constructor
   ·intro hx;have hx':=hx;rw [ek] at hx';obtain ⟨a,b⟩:=(h.ker x).mp hx';refine ⟨a,fun e' h'=>?_⟩;rcases zTC.mp h' with z | z
    ·exact b e' z
    ·rw [zTE.mp z];exact Sp.dt hx P.dt0
   ·rintro ⟨a,b⟩;rw [ek];exact (h.ker x).mpr ⟨a,fun e' h'=>b e' (by simp [h'])⟩
 ·rcases zTC.mp h' with z | z
  ·exact h.el e' z
  ·rw [zTE.mp z];exact he
def VV(n l b:Nat):Nat:=3*ub n l b+b+l
structure PartOk(V:Nat)(e:Vec)(S:List Stp):Prop where
 eq:Bts V e
 s: ∀q∈S,Bts V q.2
 k: ∀S',S'<:+S-> ∀q∈(part e S').1,Bts V q.2
 v: ∀S',S'<:+S->Bts V (part e S').2.1
 r: ∀S',S'<:+S->Bt V (part e S').2.2
theorem zJP{n b l:Nat}{Es:List Vec}{S:List Stp}{e:Vec}(h:Kern n Es b S)(hR:Red S)(he:e.length=n/\Bts b e)(hl:n+1<=2^l):PartOk (VV n l b) e S:=by
 have u0:ub n 0 b<=ub n l b:=zCF (zSU l) (zSJ n) (zSJ b);have hk:=h.part he;have hkR:=zFK (e:=e) h.ech hR;have hs: ∀q∈S,Bts (ub n l b+ub n 0 b) q.2:=fun q hq=>h.steps hR hl hq;have hown: ∀q∈S,Bt (ub n l b+ub n 0 b+b+l) (dt (zA q.2) e):=fun q hq=>zCb e _ l (by rw [he.1];omega) (hs q hq) he.2;have hr: ∀S',S'<:+S->Bt (ub n l b+ub n 0 b+b+l) (part e S').2.2:=fun S' h'=>zFz (zAt h.ech h') fun q hq=>hown q (h'.subset hq);refine ⟨he.2.mono (by unfold VV;omega),fun q hq=>(hs q hq).mono (by unfold VV;omega),fun S' h' q hq=>(hk.steps hkR hl (zIU h' q hq)).mono (by unfold VV;omega),fun S' h'=>?_,fun S' h'=>(hr S' h').mono (by unfold VV;omega)⟩;have E':=zAt h.ech h';have P:=ze (e:=e) E';rcases Int.lt_or_eq_of_le P.r0 with hp | hp
 ·have spx:Sp S (zA (part e S').2.1):=by
   have a:Sp S' (zA (part e S').2.1):=(P.sp hp _).mpr ⟨1,Sp.zero _ fun i=>by omega⟩;exact Sp.of a fun q hq=>Sp.mem (h'.subset hq)
  have kx:=(h.ker _).mp spx;have g:=hk.grow hl (x:=zA (part e S').2.1) (c:=fun e'=>if dt (zA (part e S').2.1) e'=0 then 0 else -1) (z:=(part e S').2.2) (B:=ub n l b+ub n 0 b+b+l) kx.1 (fun e' h1=>by
   show _+(if dt (zA (part e S').2.1) e'=0 then 0 else -1)*_=0;rcases zTC.mp h1 with z | z
   ·rw [if_pos (kx.2 e' z),kx.2 e' z];simp
   ·rw [zTE.mp z];have:=P.dtv hp;rw [if_neg (by omega),this];omega) (fun e' _=>by
   show Bt b (if dt (zA (part e S').2.1) e'=0 then 0 else -1);split
   ·exact Bt.zero
   ·exact Bt.one.neg) (hr S' h') (fun q hq=>by
   rcases zHS h.ech h' q hq with z | z
   ·have:=zFD E' (zFd hR h') hp q z;exact (zEV (hk.pivot hq) (by omega) (by omega)).mono (by omega)
   ·rw [P.ahead hp q.1 z];exact Bt.zero)
  exact fun i=>(g i).mono (by unfold VV;omega)
 ·rw [zIb E' hp.symm];exact fun i=>Bt.zero
def zBR(n:Nat)(q:Nat->Vec)(len:Nat)(j:Nat)(E:Eqn)(s:Stt):Cl:=s.spent.reverse.foldl (fun c s=>turn n q len s c) ⟨zP j len,q j,(part E.1 s.steps).2.2⟩
def yN(n:Nat)(q:Nat->Vec)(len:Nat):Nat->List Eqn->Stt->Stt ⊕(Vec×Int)
 | _,[],s=> .inl s
 | j,E::r,s=>if fits E s=true then yN n q len (j+1) r (take j E s) else .inr (short (zBR n q len j E s).fac (zBR n q len j E s).mod)
theorem zEx{n len j:Nat}{q:Nat->Vec}{E:Eqn}{r:List Eqn}{s:Stt}(h:fits E s=true):yN n q len j (E::r) s=yN n q len (j+1) r (take j E s):=by
 rw [yN,if_pos h]
theorem zDI{n len j:Nat}{q:Nat->Vec}{E:Eqn}{r:List Eqn}{s:Stt}(h:fits E s=false):yN n q len j (E::r) s= .inr (short (zBR n q len j E s).fac (zBR n q len j E s).mod):=by
 rw [yN,if_neg (by rw [h];exact zSS)]
def whole(Es:List Eqn)(j:Nat):Vec:=((Es[j]?).map fun E=>E.1++E.2).getD []
theorem zAC{Es:List Eqn}{j:Nat}{E:Eqn}(h:Es[j]?=some E):whole Es j=E.1++E.2:=by simp [whole,h]
structure EqOk(n m b:Nat)(Es:List Eqn):Prop where
 l1: ∀E∈Es,E.1.length=n
 l2: ∀E∈Es,E.2.length=m
 b1: ∀E∈Es,Bts b E.1
 b2: ∀E∈Es,Bts b E.2
def VB6(b:Nat):Nat:=190*b+228
theorem zJp{n b:Nat}(h:n<=6):VV n 3 b<=VB6 b:=by
 have h1:ub n 3 b<=ub 6 3 b:=zCF (zSJ 3) h (zSJ b);have h2:ub 6 3 b=63*b+75:=by simp only [ub];omega
 unfold VV VB6;omega
theorem Sol.kern{n m b:Nat}{Es:List Eqn}{s:Stt}(I:Sol n m Es s)(ok:EqOk n m b Es):Kern n (Es.map (·.1)) b s.steps:=by
 refine ⟨I.ech,fun x=>(I.ker x).trans ?_,fun e he=>?_⟩
 ·constructor
  ·rintro ⟨a,c⟩;refine ⟨a,fun e he=>?_⟩;obtain ⟨E,hE,rfl⟩:=zTF.mp he;exact c E hE
  ·rintro ⟨a,c⟩;exact ⟨a,fun E hE=>c E.1 (List.mem_map_of_mem hE)⟩
 ·obtain ⟨E,hE,rfl⟩:=zTF.mp he;exact ⟨ok.l1 E hE,ok.b1 E hE⟩
theorem Sol.fixedB{n m b:Nat}{Es:List Eqn}{s:Stt}(I:Sol n m Es s)(ok:EqOk n m b Es)(hn:n<=6){f:Vec}(hf:f∈s.fixed):Bts (VB6 b) f:=by
 have Kn:=I.kern ok;obtain ⟨k,hk⟩:=List.mem_iff_getElem?.mp hf;have hl:=I.fn f hf;have g:=Kn.grow (l:=3) (by show n+1<=8;omega) (x:=zA f) (c:=fun e=> -(dt (zA f) e)) (z:=1) (B:=ub n 0 b) (fun i hi=>yD (by omega)) (fun e he=>by omega) (fun e he=>by
  obtain ⟨E,hE,rfl⟩:=zTF.mp he;have:=I.fx k f hk E hE;have e2: -(dt (zA f) E.1)=zA E.2 k:=by omega
  show Bt b (-(dt (zA f) E.1));rw [e2];exact ok.b2 E hE k) Bt.one (fun r hr=>by
  have:=I.fr f hf r hr;exact zEV (Kn.pivot hr) (by omega) (by omega))
 have u0:ub n 0 b<=ub n 3 b:=zCF (zSU 3) (zSJ n) (zSJ b);have:=zJp (b:=b) hn;unfold VV at this;exact fun i=>(g i).mono (by omega)
structure Run(n m b:Nat)(Es:List Eqn)(j:Nat)(s:Stt):Prop where
 jl:j<=Es.length
 sol:Sol n m (Es.take j) s
 chn:Chn n (whole Es) s.spent.reverse (Sp s.steps)
 sp: ∀x∈s.spent,x.1<j/\0<x.2.2/\x.2.1.length=n/\Bts (VB6 b) x.2.1/\Bt (VB6 b) x.2.2
 sl:s.spent.length<=j
theorem Run.start(n m b:Nat)(Es:List Eqn):Run n m b Es 0 (yB n m):=⟨zSU _,zDN n m,zMO n m _,fun x hx=>(nomatch hx),zSJ _⟩
theorem EqOk.take{n m b:Nat}{Es:List Eqn}(ok:EqOk n m b Es)(j:Nat):EqOk n m b (Es.take j):=⟨fun E h=>ok.l1 E (List.mem_of_mem_take h),fun E h=>ok.l2 E (List.mem_of_mem_take h),fun E h=>ok.b1 E (List.mem_of_mem_take h),fun E h=>ok.b2 E (List.mem_of_mem_take h)⟩
theorem Run.partOk{n m b j:Nat}{Es:List Eqn}{s:Stt}{E:Eqn}(R:Run n m b Es j s)(ok:EqOk n m b Es)(hn:n<=6)(hE:E∈Es):PartOk (VB6 b) E.1 s.steps:=by
 have p:=zJP (l:=3) (R.sol.kern (ok.take j)) R.sol.red ⟨ok.l1 E hE,ok.b1 E hE⟩ (by show n+1<=8;omega);have v:=zJp (b:=b) hn;exact ⟨p.eq.mono v,fun q hq=>(p.s q hq).mono v,fun S' h q hq=>(p.k S' h q hq).mono v,fun S' h=>(p.v S' h).mono v,fun S' h=>(p.r S' h).mono v⟩
theorem Run.next{n m b j:Nat}{Es:List Eqn}{s:Stt}{E:Eqn}(R:Run n m b Es j s)(ok:EqOk n m b Es)(hn:n<=6)(hE:Es[j]?=some E)(hf:fits E s=true):Run n m b Es (j+1) (take j E s):=by
 have hj:j<Es.length:=(zTL.mp hE).1;have hm:=zSj hE;have et:Es.take (j+1)=Es.take j++ [E] :=by rw [zSc,hE];rfl
 have pk:=R.partOk ok hn hm;have P:=ze (e:=E.1) R.sol.ech;refine ⟨hj,by rw [et];exact zEt R.sol (ok.l2 E hm) hf,R.chn.take R.sol (by rw [zAC hE,<-ok.l1 E hm];simp),fun x hx=>?_,?_⟩
 ·unfold FrV.take at hx;simp only at hx;split at hx
  ·have:=R.sp x hx;exact ⟨by omega,this.2⟩
  ·rename_i h0
   rcases zTC.mp hx with z | z
   ·have:=R.sp x z;exact ⟨by omega,this.2⟩
   ·rw [zTE.mp z];have hr:0<(part E.1 s.steps).2.2:=by have:=P.r0;omega
    exact ⟨Nat.lt_succ_self j,hr,P.len hr,pk.v _ List.suffix_rfl,pk.r _ List.suffix_rfl⟩
 ·have:=R.sl;unfold FrV.take;simp only;split
  ·omega
  ·simp;omega
theorem zAO{n m b:Nat}{Es:List Eqn}(ok:EqOk n m b Es)(hn:n<=6): ∀(r:List Eqn) (j:Nat) (s:Stt),Run n m b Es j s->Es.drop j=r->
  match yN n (whole Es) Es.length j r s with
  | .inl s'=>Run n m b Es Es.length s'
  | .inr (f,d)=> ∃k,k<m/\Clash n k Es.length (whole Es) f d
 | [],j,s,R,h=>by
  have:j=Es.length:=by
   have:=List.drop_eq_nil_iff.mp h;have:=R.jl;omega
  rw [yN];simp only;rw [<-this];exact R
 | E::r,j,s,R,h=>by
  have hE:Es[j]?=some E:=by
   have:=congrArg (fun l=>l[0]?) h;simpa using this
  have hj:j<Es.length:=(zTL.mp hE).1;have hm:=zSj hE;have hd:Es.drop (j+1)=r:=by
   rw [<-List.drop_drop,h];rfl
  cases hf:fits E s with
  | true=>
   rw [zEx hf];exact zAO ok hn r (j+1) _ (R.next ok hn hE hf) hd
  | false=>
   rw [zDI hf];simp only;obtain ⟨k,F,hF,I⟩:=zEf (len:=Es.length) (q:=whole Es) (j:=j) R.sol (ok.l2 E hm) (ok.l1 E hm) (zAC hE) hj hf;have hkm:k<m:=by
    have:=(zTL.mp hF).1;have:=R.sol.fl;omega
   obtain ⟨L',hL',I'⟩:=zGf (ss:=s.spent.reverse) R.chn I (fun x hx=>by
    obtain ⟨x1,_⟩:=R.sp x (List.mem_reverse.mp hx);have hx':x.1<Es.length:=by omega
    have eE:Es[x.1]?=some Es[x.1] :=zSF hx';have hEm:=zSk hx';refine ⟨hx',by rw [zAC eE];simp [ok.l1 _ hEm,ok.l2 _ hEm],?_⟩;have:=R.sol.fx k F hF Es[x.1] (by
     refine zSj (i:=x.1) ?_;rw [List.getElem?_take,if_pos x1,eE])
    rw [zAC eE];have t1:(Es[x.1].1++Es[x.1].2).take n=Es[x.1].1:=by rw [<-ok.l1 _ hEm];simp
    have t2:zA (Es[x.1].1++Es[x.1].2) (n+k)=zA Es[x.1].2 k:=by
     simp only [zA,zTG];rw [List.getElem?_append_right (by rw [ok.l1 _ hEm];omega)];congr 2;rw [ok.l1 _ hEm];omega
    rw [t1,t2];exact this)
   exact ⟨k,hkm,(Clash.of I' hL' (fun i hi=>yD (by rw [R.sol.fn F (zSj hF)];exact hi))).short.1⟩
structure ClB(M:Nat)(c:Cl):Prop where
 f:Bts M c.fac
 t:Bts M c.tot
 m:Bt M c.mod
 m0:0<=c.mod
theorem zRd{M:Nat}{z m:Int}(hz:Bt M z)(hm:0<=m):Bt M (lo z m)\/(0<m/\(lo z m).natAbs<=m.natAbs):=by
 unfold lo;split
 ·exact .inl hz
 ·have h1:=zSX z (b:=m) (by omega);have h2:=zSR z (b:=m) (by omega);exact .inr ⟨by omega,by omega⟩
theorem zAx{M:Nat}{z m:Int}(hz:Bt M z)(hm:0<=m)(bm:Bt M m):Bt M (lo z m):=by
 rcases zRd hz hm with h |⟨_,h⟩
 ·exact h
 ·exact bm.le h
theorem Run.all{n m b:Nat}{Es:List Eqn}{s:Stt}(R:Run n m b Es Es.length s):Sol n m Es s:=by
 have:=R.sol
 rwa [zSe] at this
theorem zLU{n m b:Nat}{Es:List Eqn}(ok:EqOk n m b Es)(hn:n<=6)(h: ∀X:Nat->Fn,¬ ∀E∈Es,∀k,k<m->dt (X k) E.1+zA E.2 k=0):
  ∃f d k,yN n (whole Es) Es.length 0 Es (yB n m)= .inr (f,d)/\k<m/\Clash n k Es.length (whole Es) f d:=by
 have z:=zAO ok hn Es 0 _ (Run.start n m b Es) rfl;generalize yN n (whole Es) Es.length 0 Es (yB n m)=y at z⊢;cases y with
 | inl s=>
  have S:=Run.all (show Run n m b Es Es.length s from z);refine absurd ?_ (h fun k=>zA (s.fixed.getD k []));intro E hE k hk;have hk':k<s.fixed.length:=by rw [S.fl];exact hk
  have e:s.fixed[k]?=some s.fixed[k] :=zSF hk';have:=S.fx k _ e E hE;show dt (zA ((s.fixed[k]?).getD [])) E.1+_=0;rw [e];exact this
 | inr p=>
  obtain ⟨f,d⟩:=p;obtain ⟨k,hk,C⟩:=z;exact ⟨f,d,k,rfl,hk,C⟩
theorem Sol.steps{n m:Nat}{Es:List Eqn}{s:Stt}(S:Sol n m Es s){q:Stp}(hq:q∈s.steps)(hs:Sp s.steps (zA q.2)){E:Eqn}(hE:E∈Es):dt (zA q.2) E.1=0:=((S.ker _).mp hs).2 E hE
theorem zHu: ∀(e:Vec) (x y:Fn),(∀i,i<e.length->x i=y i)->dt x e=dt y e
 | [],_,_,_=>rfl
 | a::e,x,y,h=>by
  simp only [dt];rw [h 0 (by simp),zHu e _ _ fun i hi=>h (i+1) (by simpa using hi)]
def Can(m:Nat)(Es:List Eqn):Prop:= ∃X:Nat->Fn,∀E∈Es,∀k,k<m->dt (X k) E.1+zA E.2 k=0
theorem Can.sub{m:Nat}{Es Fs:List Eqn}(h:Can m Es)(s: ∀E∈Fs,E∈Es):Can m Fs:=let ⟨X,hX⟩:=h;⟨X,fun E hE=>hX E (s E hE)⟩
theorem Sol.can{n m:Nat}{Es:List Eqn}{s:Stt}(S:Sol n m Es s):Can m Es:=by
 refine ⟨fun k=>zA (s.fixed.getD k []),fun E hE k hk=>?_⟩;have hk':k<s.fixed.length:=by rw [S.fl];exact hk
 have e:s.fixed[k]?=some s.fixed[k] :=zSF hk';have:=S.fx k _ e E hE;show dt (zA ((s.fixed[k]?).getD [])) E.1+_=0;rw [e];exact this
theorem zOh{n m:Nat}{Es:List Eqn}{s:Stt}{E:Eqn}(S:Sol n m Es s)(l1: ∀E'∈Es++ [E],E'.1.length=n)(l2:E.2.length=m)(h:Can m (Es++ [E])):fits E s=true:=by
 obtain ⟨X,hX⟩:=h;refine zKy S l2 (fun k i=>if i<n then X k i else 0) (fun k i hi=>if_neg (by omega)) fun k hk E' hE'=>?_;rw [zHu E'.1 _ (X k) fun i hi=>if_pos (by rw [l1 E' hE'] at hi;exact hi)];exact hX E' hE' k hk
def yU(Es:List Eqn)(j:Nat):Eqn:=(Es[j]?).getD ([],[])
theorem zCR{Es:List Eqn}{j:Nat}(h:j<Es.length):Es[j]?=some (yU Es j):=by unfold yU;rw [zSF h];rfl
theorem zAE{Es:List Eqn}{j:Nat}(h:j<Es.length):yU Es j∈Es:=zSj (zCR h)
def pick(Es:List Eqn)(ks:List Nat):List Eqn:=ks.map (yU Es)
def fresh'(s:Stt):Stt:=⟨s.steps,s.fixed,[]⟩
theorem Sol.fresh'{n m:Nat}{Es:List Eqn}{s:Stt}(S:Sol n m Es s):Sol n m Es (fresh' s):=⟨S.ech,S.red,S.ker,S.fl,S.fn,S.fr,S.fx⟩
def zv(Es:List Eqn):List Nat->Stt->Option Stt
 | [],s=>some s
 | j::js,s=>if fits (yU Es j) s=true then zv Es js (take j (yU Es j) s) else none
theorem zAf{n m:Nat}{Es:List Eqn}(l1: ∀E∈Es,E.1.length=n)(l2: ∀E∈Es,E.2.length=m): ∀(ks:List Nat) (Ls:List Eqn) (s:Stt),Sol n m Ls s->(∀E∈Ls,E.1.length=n)->(∀k∈ks,k<Es.length)->
  match zv Es ks s with
  | some s'=>Sol n m (Ls++pick Es ks) s'
  | none=> ¬Can m (Ls++pick Es ks)
 | [],Ls,s,S,_,_=>by simp only [zv,pick,List.map_nil,zSg];exact S
 | j::js,Ls,s,S,hL,hk=>by
  have hj:=hk j (by simp);have hm:=zAE hj;have e:Ls++pick Es (j::js)=(Ls++ [yU Es j])++pick Es js:=by simp [pick]
  have hL': ∀E∈Ls++ [yU Es j],E.1.length=n:=fun E hE=>by
   rcases zTC.mp hE with z | z
   ·exact hL E z
   ·rw [zTE.mp z];exact l1 _ hm
  rw [e];cases hf:fits (yU Es j) s with
  | true=>
   rw [zv,if_pos hf];exact zAf l1 l2 js _ _ (zEt S (l2 _ hm) hf) hL' fun k hk'=>hk k (by simp [hk'])
  | false=>
   rw [zv,if_neg (by rw [hf];exact zSS)];intro h;have:=zOh S hL' (l2 _ hm) (h.sub fun E hE=>by simp only [zTC] at hE⊢;exact .inl hE);rw [hf] at this;cases this
def zAM(Es:List Eqn):Nat->Stt->List Nat->List Nat
 | 0,_,ks=>ks
 | d+1,s,ks=>if ks.length=1 then ks else
  match zv Es (match zv Es (ks.take (ks.length/2)) (fresh' s) with | none=> [] | some s'=>zAM Es d s' (ks.drop (ks.length/2))) (fresh' s) with
  | none=>(match zv Es (ks.take (ks.length/2)) (fresh' s) with | none=> [] | some s'=>zAM Es d s' (ks.drop (ks.length/2)))
  | some s'=>zAM Es d s' (ks.take (ks.length/2))++(match zv Es (ks.take (ks.length/2)) (fresh' s) with | none=> [] | some s'=>zAM Es d s' (ks.drop (ks.length/2)))
structure Few(m:Nat)(Es Ls:List Eqn)(ks r:List Nat):Prop where
 sub:r.Sublist ks
 ne:r≠ []
 no: ¬Can m (Ls++pick Es r)
 all: ∀k∈r,Can m (Ls++pick Es (r.filter fun j=>j !=k))
theorem zAi{Es:List Eqn}{ks:List Nat}{E:Eqn}:E∈pick Es ks↔ ∃k∈ks,yU Es k=E:=zTF
theorem zHr{Es:List Eqn}{ks js:List Nat}(h: ∀k∈ks,k∈js){E:Eqn}(hE:E∈pick Es ks):E∈pick Es js:=by
 obtain ⟨k,hk,e⟩:=zAi.mp hE;exact zAi.mpr ⟨k,h k hk,e⟩
theorem zAu{n m:Nat}{Es:List Eqn}(l1: ∀E∈Es,E.1.length=n)(l2: ∀E∈Es,E.2.length=m): ∀(d:Nat) (s:Stt) (ks:List Nat) (Ls:List Eqn),Sol n m Ls s->(∀E∈Ls,E.1.length=n)->(∀k∈ks,k<Es.length)->ks≠ [] ->ks.length<=d-> ¬Can m (Ls++pick Es ks)->Few m Es Ls ks (zAM Es d s ks)
 | 0,s,ks,Ls,S,hL,hk,ne,hd,no=>absurd (List.eq_nil_of_length_eq_zero (by omega)) ne
 | d+1,s,ks,Ls,S,hL,hk,ne,hd,no=>by
  unfold zAM;have hp:0<ks.length:=Nat.pos_of_ne_zero fun z=>ne (List.eq_nil_of_length_eq_zero z);split
  ·rename_i h1
   obtain ⟨k,rfl⟩:=zTB.mp h1;refine ⟨List.Sublist.refl _,ne,no,fun k' hk'=>?_⟩;rw [zTE.mp hk'];simp only [List.filter_cons,bne_self_eq_false,Bool.false_eq_true,if_false,List.filter_nil,pick,List.map_nil,zSg];exact S.can
  ·rename_i h1
   have la:(ks.take (ks.length/2)).length<=d:=by rw [List.length_take];omega
   have lb:(ks.drop (ks.length/2)).length<=d:=by rw [List.length_drop];omega
   have na:ks.take (ks.length/2)≠ [] :=fun z=>by have:=congrArg List.length z;rw [List.length_take,List.length_nil] at this;omega
   have nb:ks.drop (ks.length/2)≠ [] :=fun z=>by have:=congrArg List.length z;rw [List.length_drop,List.length_nil] at this;omega
   have sa:(ks.take (ks.length/2)).Sublist ks:=List.take_sublist _ _;have sb:(ks.drop (ks.length/2)).Sublist ks:=List.drop_sublist _ _;have eab:ks.take (ks.length/2)++ks.drop (ks.length/2)=ks:=List.take_append_drop _ _;generalize ks.take (ks.length/2)=a at la na sa eab⊢;generalize ks.drop (ks.length/2)=b at lb nb sb eab⊢;have ka: ∀k∈a,k<Es.length:=fun k h=>hk k (sa.subset h);have kb: ∀k∈b,k<Es.length:=fun k h=>hk k (sb.subset h);have hLa: ∀{js:List Nat},(∀k∈js,k<Es.length)-> ∀E∈Ls++pick Es js,E.1.length=n:=fun {js} hj E hE=>by
    rcases zTC.mp hE with z | z
    ·exact hL E z
    ·obtain ⟨k,h,rfl⟩:=zAi.mp z;exact l1 _ (zAE (hj k h))
   have ta:=zAf l1 l2 a Ls (fresh' s) S.fresh' hL ka;cases ea:zv Es a (fresh' s) with
   | none=>
    rw [ea] at ta;simp only [zv,zSg];have ih:=zAu l1 l2 d (fresh' s) a Ls S.fresh' hL ka na la ta;exact ⟨ih.sub.trans sa,ih.ne,ih.no,ih.all⟩
   | some s1=>
    rw [ea] at ta;simp only;have ih:=zAu l1 l2 d s1 b (Ls++pick Es a) ta (hLa ka) kb nb lb (fun h=>no (by rw [<-eab];simpa [pick] using h));generalize zAM Es d s1 b=r at ih⊢;have kr: ∀k∈r,k<Es.length:=fun k h=>kb k (ih.sub.subset h);have tb:=zAf l1 l2 r Ls (fresh' s) S.fresh' hL kr;cases eb:zv Es r (fresh' s) with
    | none=>
     rw [eb] at tb;refine ⟨ih.sub.trans sb,ih.ne,tb,fun k hk'=>(ih.all k hk').sub fun E hE=>?_⟩;simp only [zTC] at hE⊢;rcases hE with z | z
     ·exact .inl (.inl z)
     ·exact .inr z
    | some s2=>
     rw [eb] at tb;simp only;have ih2:=zAu l1 l2 d s2 a (Ls++pick Es r) tb (hLa kr) ka na la (fun h=>ih.no (h.sub fun E hE=>by
      simp only [zTC] at hE⊢;rcases hE with (z | z)| z
      ·exact .inl (.inl z)
      ·exact .inr z
      ·exact .inl (.inr z)))
     generalize zAM Es d s2 a=q at ih2⊢;refine ⟨?_,fun z=>ih2.ne (List.append_eq_nil_iff.mp z).1,fun h=>ih2.no (h.sub fun E hE=>?_),fun k hk'=>?_⟩
     ·rw [<-eab];exact ih2.sub.append ih.sub
     ·simp only [zTC,pick,zSb] at hE⊢;rcases hE with (z | z)| z
      ·exact .inl z
      ·exact .inr (.inr z)
      ·exact .inr (.inl z)
     ·rw [zTK];rcases zTC.mp hk' with z | z
      ·refine (ih2.all k z).sub fun E hE=>?_;simp only [zTC,pick,zSb] at hE⊢;rcases hE with y | y | y
       ·exact .inl (.inl y)
       ·exact .inr y
       ·exact .inl (.inr (zHr (fun k h=>(zTM.mp h).1) y))
      ·refine (ih.all k z).sub fun E hE=>?_;simp only [zTC,pick,zSb] at hE⊢;rcases hE with y | y | y
       ·exact .inl (.inl y)
       ·exact .inl (.inr (zHr (fun k h=>ih2.sub.subset (zTM.mp h).1) y))
       ·exact .inr y
def zBp(n:Nat):Vec->(Nat->Vec)->Vec
 | [],_=>List.replicate n 0
 | a::f,V=>zR a (V 0) 1 (zBp n f fun j=>V (j+1))
theorem zCN{n:Nat}: ∀(f:Vec) (V:Nat->Vec),(∀j,(V j).length=n)->(zBp n f V).length=n
 | [],_,_=>by simp [zBp]
 | a::f,V,h=>zg (h 0) (zCN f _ fun j=>h (j+1))
theorem zQa(n i:Nat):zA (List.replicate n (0:Int)) i=0:=by
 unfold zA;rw [zTG,List.getElem?_replicate];split<;>rfl
theorem zJT{n:Nat}: ∀(f:Vec) (V:Nat->Vec),(∀j,(V j).length=n)-> ∀i,zA (zBp n f V) i=dt (fun j=>zA (V j) i) f
 | [],_,_,i=>zQa n i
 | a::f,V,h,i=>by
  simp only [zBp,dt];rw [yo (by rw [h 0,zCN f _ fun j=>h (j+1)]),zJT f _ (fun j=>h (j+1)) i]
  grind
theorem zGM: ∀(n:Nat) (x:Fn),dt x (List.replicate n (0:Int))=0
 | 0,_=>rfl
 | n+1,x=>by rw [List.replicate_succ];simp only [dt];rw [zGM n];simp
theorem zJb{n:Nat}: ∀(f:Vec) (V:Nat->Vec),(∀j,(V j).length=n)-> ∀x:Fn,dt x (zBp n f V)=dt (fun j=>dt x (V j)) f
 | [],_,_,x=>zGM n x
 | a::f,V,h,x=>by
  simp only [zBp,dt];rw [zCy _ _ _ (by rw [h 0,zCN f _ fun j=>h (j+1)]),zJb f _ (fun j=>h (j+1)) x]
  grind
theorem zLe{d:Int}: ∀(f:Vec) (x:Fn),(∀j,j<f.length->d∣x j*zA f j)->d∣dt x f
 | [],_,_=>by simp [dt]
 | a::f,x,h=>by
  simp only [dt];exact Int.dvd_add (by simpa [zA] using h 0 (by simp)) (zLe f _ fun j hj=>by simpa [zA] using h (j+1) (by simpa using hj))
theorem zFA{n k:Nat}{Es:List Eqn}{f:Vec}{d:Int}(C:Clash n k Es.length (whole Es) f d)(l1: ∀E∈Es,E.1.length=n)(x:Fn)(hx: ∀j,j<Es.length-> ¬d∣zA f j->dt x (yU Es j).1+zA (yU Es j).2 k=0):False:=by
 have hfl:=C.fl
 let V:Nat->Vec:=fun j=>if j<Es.length then (yU Es j).1 else List.replicate n 0
 have hV: ∀j,(V j).length=n:=fun j=>by
  show (if j<Es.length then (yU Es j).1 else List.replicate n 0).length=n;split
  ·rename_i h;exact l1 _ (zAE h)
  ·simp
 have hVj: ∀j,j<Es.length->V j=(yU Es j).1:=fun j h=>if_pos h;have w1: ∀j,j<Es.length->whole Es j=(yU Es j).1++(yU Es j).2:=fun j h=>zAC (zCR h);have e1: ∀i,i<n->zA (zBp n f V) i=yP f (whole Es) i:=fun i hi=>by
  rw [zJT f V hV];refine zHu f _ _ fun j hj=>?_;have hj':j<Es.length:=by omega
  rw [hVj j hj',w1 j hj'];have:=l1 _ (zAE hj');simp [zA,List.getElem?_append_left (show i<(yU Es j).1.length by omega)]
 have c1:d∣dt x (zBp n f V):=by
  have:=zDw (m:=d) (zBp n f V) (List.replicate n 0) x (by rw [zCN f V hV];simp) fun i=>by
   rw [zQa];by_cases hi:i<n
   ·rw [e1 i hi];simpa using C.all i hi
   ·rw [yD (by rw [zCN f V hV];omega)];simp
  rw [zGM] at this;simpa using this
 have c2:d∣dt (fun j=>1*dt x (V j)+1*zA (whole Es j) (n+k)) f:=zLe f _ fun j hj=>by
  have hj':j<Es.length:=by omega
  by_cases h:d∣zA f j
  ·exact Int.dvd_mul_of_dvd_right h
  ·have:=hx j hj' h;have e:zA (whole Es j) (n+k)=zA (yU Es j).2 k:=by
    rw [w1 j hj'];have:=l1 _ (zAE hj');simp only [zA,zTG];rw [List.getElem?_append_right (by omega)];congr 2;omega
   rw [hVj j hj',e,show 1*dt x (yU Es j).1+1*zA (yU Es j).2 k=0 by omega];simp
 rw [zAq,<-zJb f V hV] at c2;have e3:dt (fun j=>zA (whole Es j) (n+k)) f=yP f (whole Es) (n+k):=rfl;rw [e3] at c2;refine C.one ?_;have:=Int.dvd_sub c2 c1
 rwa [show 1*dt x (zBp n f V)+1*yP f (whole Es) (n+k) - dt x (zBp n f V)=yP f (whole Es) (n+k) by omega] at this
theorem zNS: ∀(m n:Nat) (f:Nat->Nat),(∀i,i<n->f i<m)->m<n-> ∃i j,i<j/\j<n/\f i=f j
 | 0,n,f,h,hn=>absurd (h 0 hn) (Nat.not_lt_zero _)
 | m+1,0,f,h,hn=>absurd hn (Nat.not_lt_zero _)
 | m+1,n+1,f,h,hn=>by
  by_cases he: ∃i,i<n/\f i=f n
  ·obtain ⟨i,hi,e⟩:=he;exact ⟨i,n,hi,Nat.lt_succ_self n,e⟩
  ·have ne: ∀i,i<n->f i≠f n:=fun i hi e=>he ⟨i,hi,e⟩;have hl:=h n (Nat.lt_succ_self n);obtain ⟨i,j,hij,hj,e⟩:=zNS m n (fun i=>if f n<f i then f i - 1 else f i) (fun i hi=>by
    have a:=h i (by omega);have b:=ne i hi;show (if f n<f i then f i - 1 else f i)<m;split<;>omega) (by omega)
   refine ⟨i,j,hij,by omega,?_⟩;have a:=ne i (by omega);have b:=ne j hj;split at e<;>split at e<;>omega
def fnOf(B:Nat):List Nat->Nat->Fn
 | [],_=>fun _=>0
 | q::N,c=>fun i=>fnOf B N (c/B) i+((c % B:Nat):Int)*(if i=q then 1 else 0)
theorem zDM{B:Nat}: ∀{N:List Nat} {c i:Nat},i∉N->fnOf B N c i=0
 | [],_,_,_=>rfl
 | q::N,c,i,h=>by
  show fnOf B N (c/B) i+_*(if i=q then 1 else 0)=0;rw [zDM fun z=>h (by simp [z]),if_neg fun z=>h (by simp [z])];simp
theorem zGW{B:Nat}(hB:0<B): ∀{N:List Nat} {c:Nat},N.Nodup-> ∀i,0<=fnOf B N c i/\fnOf B N c i<B
 | [],_,_,_=>⟨Int.le_refl _,by show (0:Int)<B;omega⟩
 | q::N,c,nd,i=>by
  have nd':=List.nodup_cons.mp nd;have ih:=zGW hB (N:=N) (c:=c/B) nd'.2 i;show 0<=fnOf B N (c/B) i+_*(if i=q then 1 else 0)/\fnOf B N (c/B) i+_*(if i=q then 1 else 0)<B;by_cases h:i=q
  ·rw [if_pos h,zDM (by rw [h];exact nd'.1)];have:=Nat.mod_lt c hB;omega
  ·rw [if_neg h];omega
theorem zHU{B:Nat}(hB:0<B): ∀{N:List Nat} {c d:Nat},N.Nodup->c<B^N.length->d<B^N.length->(∀i,fnOf B N c i=fnOf B N d i)->c=d
 | [],c,d,_,hc,hd,_=>by
  rw [List.length_nil,Nat.pow_zero] at hc hd;omega
 | q::N,c,d,nd,hc,hd,h=>by
  have nd':=List.nodup_cons.mp nd;rw [zTH,Nat.pow_succ] at hc hd;have hq:=h q;have e1: ∀c,fnOf B (q::N) c q=((c % B:Nat):Int):=fun c=>by
   show fnOf B N (c/B) q+_*(if q=q then 1 else 0)=_;rw [zDM nd'.1,if_pos rfl];omega
  rw [e1,e1] at hq;have hm:c % B=d % B:=by omega
  have hd':c/B=d/B:=zHU hB nd'.2 (Nat.div_lt_of_lt_mul (by rw [Nat.mul_comm];exact hc)) (Nat.div_lt_of_lt_mul (by rw [Nat.mul_comm];exact hd)) fun i=>by
   have hi:=h i;have e2: ∀c,fnOf B (q::N) c i=fnOf B N (c/B) i+((c % B:Nat):Int)*(if i=q then 1 else 0):=fun _=>rfl;rw [e2,e2,hm] at hi;omega
  rw [<-Nat.div_add_mod c B,<-Nat.div_add_mod d B,hm,hd']
theorem zJg{B A:Nat}(hB:0<B){e:Vec}(he: ∀i,(zA e i).natAbs<=A): ∀{N:List Nat} {c:Nat},(dt (fnOf B N c) e).natAbs<=N.length*(A*(B - 1))
 | [],c=>by
  rw [zCs e (fnOf B [] c) fun _=>rfl];exact zSU _
 | q::N,c=>by
  have ih:=zJg hB he (N:=N) (c:=c/B);have e1:dt (fnOf B (q::N) c) e=dt (fnOf B N (c/B)) e+((c % B:Nat):Int)*zA e q:=zEG e (fnOf B N (c/B)) q _;have h1:(((c % B:Nat):Int)*zA e q).natAbs<=A*(B - 1):=by
   rw [Int.natAbs_mul,Nat.mul_comm];refine Nat.mul_le_mul (he q) ?_;have:=Nat.mod_lt c hB;omega
  have h2:=Int.natAbs_add_le (dt (fnOf B N (c/B)) e) (((c % B:Nat):Int)*zA e q);rw [e1,zTH,Nat.succ_mul];omega
def img(M off:Nat):List Vec->Fn->Nat
 | [],_=>0
 | e::Fs,x=>(dt x e+off).toNat+M*img M off Fs x
theorem zLp{M off:Nat}{x:Fn}: ∀{Fs:List Vec},(∀e∈Fs,0<=dt x e+off/\dt x e+off<M)->img M off Fs x<M^Fs.length
 | [],_=>by show 0<1;decide
 | e::Fs,h=>by
  have ih:=zLp (Fs:=Fs) fun e he=>h e (by simp [he]);have:=h e (by simp);show (dt x e+off).toNat+M*img M off Fs x<M^(Fs.length+1);rw [Nat.pow_succ,Nat.mul_comm _ M];have h2:=zSt M (Nat.succ_le_of_lt ih);rw [Nat.mul_succ] at h2;omega
theorem zJQ{M off:Nat}{x y:Fn}: ∀{Fs:List Vec},(∀e∈Fs,0<=dt x e+off/\dt x e+off<M)->(∀e∈Fs,0<=dt y e+off/\dt y e+off<M)->img M off Fs x=img M off Fs y-> ∀e∈Fs,dt x e=dt y e
 | f::Fs,hx,hy,h,e,he=>by
  have ax:=hx f (by simp);have ay:=hy f (by simp);have h':(dt x f+off).toNat+M*img M off Fs x=(dt y f+off).toNat+M*img M off Fs y:=h;have hM:0<M:=by omega
  have m1:(dt x f+off).toNat=(dt y f+off).toNat:=by
   have:=congrArg (· % M) h';simp only [Nat.add_mul_mod_self_left] at this
   rwa [Nat.mod_eq_of_lt (by omega),Nat.mod_eq_of_lt (by omega)] at this
  have m2:img M off Fs x=img M off Fs y:=by
   rw [m1] at h';exact Nat.eq_of_mul_eq_mul_left hM (Nat.add_left_cancel h')
  rcases zSz.mp he with rfl | he
  ·omega
  ·exact zJQ (fun e he=>hx e (by simp [he])) (fun e he=>hy e (by simp [he])) m2 e he
theorem zRB{N:List Nat}{Fs:List Vec}{b:Nat}(nd:N.Nodup)(hK:Fs.length<N.length)(h8:N.length<=8)(hb: ∀e∈Fs,Bts b e):
  ∃y:Fn,(∃i,y i≠0)/\(∀i,i∉N->y i=0)/\(∀e∈Fs,dt y e=0)/\ ∀i,Bt ((b+4)*Fs.length) (y i):=by
 obtain ⟨X,hX⟩: ∃X,X=(2^(b+4))^Fs.length:=⟨_,rfl⟩;obtain ⟨O,hO⟩: ∃O,O=N.length*(2^b*X):=⟨_,rfl⟩;have hB:0<X+1:=Nat.succ_pos _;have rng: ∀c,∀e∈Fs,0<=dt (fnOf (X+1) N c) e+(O:Nat)/\dt (fnOf (X+1) N c) e+(O:Nat)<((2*O+1:Nat):Int):=fun c e he=>by
  have:=zJg hB (A:=2^b) (fun i=>hb e he i) (N:=N) (c:=c);rw [Nat.add_sub_cancel,<-hO] at this;omega
 have cnt:(2*O+1)^Fs.length<(X+1)^N.length:=by
  have h1:2*O+1<=2^(b+4)*(X+1):=by
   have e4:2^(b+4)=16*2^b:=by rw [Nat.pow_add,Nat.mul_comm]
   have p:1<=2^b:=Nat.one_le_two_pow;have m1:N.length*(2^b*X)<=8*(2^b*X):=Nat.mul_le_mul_right _ h8;rw [e4,Nat.mul_add,Nat.mul_one,Nat.mul_assoc];omega
  have h2:=Nat.pow_le_pow_left h1 Fs.length;rw [Nat.mul_pow,<-hX] at h2;have h3:X*(X+1)^Fs.length<(X+1)*(X+1)^Fs.length:=Nat.mul_lt_mul_of_pos_right (Nat.lt_succ_self X) (Nat.pow_pos hB);have h4:(X+1)*(X+1)^Fs.length=(X+1)^(Fs.length+1):=by rw [Nat.pow_succ,Nat.mul_comm]
  have h5:(X+1)^(Fs.length+1)<=(X+1)^N.length:=Nat.pow_le_pow_right hB hK;omega
 obtain ⟨i,j,hij,hj,e⟩:=zNS ((2*O+1)^Fs.length) ((X+1)^N.length) (fun c=>img (2*O+1) O Fs (fnOf (X+1) N c)) (fun c _=>zLp (rng c)) cnt;have eq:=zJQ (rng i) (rng j) e;refine ⟨fun t=>fnOf (X+1) N i t - fnOf (X+1) N j t,?_,fun t ht=>?_,fun f hf=>?_,fun t=>?_⟩
 ·refine Classical.byContradiction fun z=>?_;have:i=j:=zHU hB nd (by omega) hj fun t=>by
   refine Classical.byContradiction fun y=>z ⟨t,?_⟩;show fnOf (X+1) N i t - fnOf (X+1) N j t≠0;omega
  omega
 ·simp only [zDM ht];rfl
 ·rw [zAe,eq f hf];omega
 ·have a:=zGW hB (c:=i) nd t;have c:=zGW hB (c:=j) nd t;show (fnOf (X+1) N i t - fnOf (X+1) N j t).natAbs<=2^((b+4)*Fs.length);rw [Nat.pow_mul,<-hX];omega
theorem zGt{a:Nat}: ∀{l:List Nat},l.Nodup->a∈l->(l.filter fun i=>i !=a).length+1=l.length
 | x::l,nd,h=>by
  have nd':=List.nodup_cons.mp nd;by_cases e:x=a
  ·subst e;have:l.filter (fun i=>i !=x)=l:=List.filter_eq_self.mpr fun i hi=>by
    simp only [bne_iff_ne,ne_eq];exact fun z=>nd'.1 (z▸hi)
   rw [List.filter_cons,if_neg (by simp),this,zTH]
  ·have h':a∈l:=(zSz.mp h).resolve_left fun z=>e z.symm;have ih:=zGt nd'.2 h';rw [List.filter_cons,if_pos (by simpa using e),zTH,zTH];omega
theorem zBu{n:Nat}: ∀{S:List Stp},Ech n S->(bare n S).length+S.length=n
 | [],_=>by
  have:bare n [] =List.range n:=List.filter_eq_self.mpr fun i _=>rfl;rw [this];simp
 |(p,v)::S,⟨h1,h2,h3,h4,h5,h6⟩=>by
  have ih:=zBu h6;have e:bare n ((p,v)::S)=(bare n S).filter fun i=>i !=p:=by
   unfold bare;rw [List.filter_filter];refine List.filter_congr fun i _=>?_;rw [List.all_cons];show (p !=i&&_)=(i !=p&&_);rw [show (p !=i)=(i !=p) from bne_comm]
  have hp:p∈bare n S:=yF.mpr ⟨h2,fun q hq=>by have:=h5 q hq;omega⟩;have:=zGt (zCr n S) hp;rw [<-e] at this;rw [zTH];omega
theorem zFW{n:Nat}{e:Vec}: ∀{S:List Stp},Ech n S->0<(part e S).2.2->(part e S).1.length+1=S.length
 | [],_,h=>by simp [part] at h
 |(p,v)::S,h,hr=>by
  have h6:Ech n S:=h.2.2.2.2.2;have I:=ze (e:=e) h6;have ih:=zFW (e:=e) h6;simp only [part] at hr⊢;generalize part e S=r at I ih hr⊢;obtain ⟨k,w,m⟩:=r;simp only at I ih hr⊢;split at hr
  ·rename_i c
   rw [if_pos c];simp only [zTH];have:=ih hr;omega
  ·rename_i c
   rw [if_neg c];split at hr
   ·rename_i c2
    rw [if_pos c2,I.same c2];rfl
   ·rename_i c2
    rw [if_neg c2];have:0<m:=by have:=I.r0;omega
    have:=ih this;split<;>simp only [zTH] <;>omega
structure Dir(N:List Nat)(Fs:List Vec)(C:Nat)(d:Nat×Fn):Prop where
 at_:d.2 d.1≠0
 out: ∀i,i∉N->i≠d.1->d.2 i=0
 ker: ∀e∈Fs,dt d.2 e=0
 new:d.1∉N
 bt: ∀i,Bt C (d.2 i)
theorem zGP{N:List Nat}{Fs:List Vec}{b:Nat}(inj:Inj N Fs)(nd:N.Nodup)(hK:Fs.length<=N.length)(h7:N.length<=7)(hb: ∀e∈Fs,Bts b e): ∀P:List Nat,(∀p∈P,p∉N)-> ∃ds:List (Nat×Fn),ds.map (·.1)=P/\ ∀d∈ds,Dir N Fs ((b+4)*Fs.length) d
 | [],_=>⟨[],rfl,fun d hd=>(nomatch hd)⟩
 | p::P,h=>by
  obtain ⟨ds,e,hd⟩:=zGP inj nd hK h7 hb P fun q hq=>h q (by simp [hq]);have hp:=h p (by simp);obtain ⟨y,⟨i0,hi0⟩,y2,y3,y4⟩:=zRB (N:=p::N) (List.nodup_cons.mpr ⟨hp,nd⟩) (by rw [zTH];omega) (by rw [zTH];omega) hb;refine ⟨(p,y)::ds,by rw [zTD,e],fun d hd'=>?_⟩;rcases zSz.mp hd' with rfl | hd'
  ·refine ⟨fun z=>?_,fun i h1 h2=>y2 i fun z=>?_,y3,hp,y4⟩
   ·exact hi0 (inj y (fun i hi=>by
     by_cases e:i=p
     ·rw [e];exact z
     ·exact y2 i fun t=>by
       rcases zSz.mp t with t | t
       ·exact e t
       ·exact hi t) y3 i0)
   ·rcases zSz.mp z with z | z
    ·exact h2 z
    ·exact h1 z
  ·exact hd d hd'
theorem zGw{α:Type}(f g:α->Nat)(D:Nat): ∀{l:List α},(∀d∈l,f d=D*g d)->(l.map f).sum=D*(l.map g).sum
 | [],_=>rfl
 | d::l,h=>by
  rw [zTD,zTD,List.sum_cons,List.sum_cons,Nat.mul_add,h d (by simp),zGw f g D fun d hd=>h d (by simp [hd])]
theorem zLo{α:Type}(f:α->Nat)(M:Nat): ∀{l:List α},(∀d∈l,f d<=M)->(l.map f).sum<=l.length*M
 | [],_=>zSU _
 | d::l,h=>by
  have:=h d (by simp);have ih:=zLo f M fun d hd=>h d (zSm _ hd);rw [zTD,List.sum_cons,zTH,Nat.succ_mul];omega
theorem zDh{N:List Nat}{Fs:List Vec}{C:Nat}(inj:Inj N Fs): ∀(ds:List (Nat×Fn)) (w:Fn),(∀d∈ds,Dir N Fs C d)->(ds.map (·.1)).Nodup->(∀i,i∉N->(∀d∈ds,i≠d.1)->w i=0)->(∀e∈Fs,dt w e=0)->
  (∀i,(w i).natAbs<=(ds.map fun d=>(w d.1).natAbs*(d.2 i).natAbs).sum)/\ ∀e,(∀d∈ds,dt d.2 e=0)->dt w e=0
 | [],w,_,_,hw,hk=>by
  have z:=inj w (fun i hi=>hw i hi fun d hd=>(nomatch hd)) hk;exact ⟨fun i=>by rw [z i];exact zSU _,fun e _=>zCs e w z⟩
 |(p,y)::ds,w,hd,nd,hw,hk=>by
  have dp:=hd (p,y) (by simp);have dpo: ∀i,i∉N->i≠p->y i=0:=dp.out;have dpk: ∀e∈Fs,dt y e=0:=dp.ker;have dpa:y p≠0:=dp.at_;have nd':=List.nodup_cons.mp nd;have ne: ∀d∈ds,d.1≠p:=fun d h e=>nd'.1 (zTF.mpr ⟨d,h,e⟩);have D0:(y p).natAbs≠0:=fun z=>dp.at_ (Int.natAbs_eq_zero.mp z);obtain ⟨i1,i2⟩:=zDh inj ds (fun i=>y p*w i+(-(w p))*y i) (fun d h=>hd d (by simp [h])) nd'.2 (fun i h1 h2=>by
   by_cases e:i=p
   ·rw [e];grind
   ·rw [hw i h1 fun d h=>by
     rcases zSz.mp h with rfl | h
     ·exact e
     ·exact h2 d h,dpo i h1 e]
    simp) (fun e he=>by rw [zAq,hk e he,dpk e he];simp)
  refine ⟨fun i=>?_,fun e he=>?_⟩
  ·have a:=i1 i;rw [zGw _ (fun d=>(w d.1).natAbs*(d.2 i).natAbs) (y p).natAbs (fun d h=>by
    rw [dpo d.1 (hd d (by simp [h])).new (ne d h),Int.mul_zero,Int.add_zero,Int.natAbs_mul,Nat.mul_assoc])] at a
   rw [zTD,List.sum_cons];show (w i).natAbs<=(w p).natAbs*(y i).natAbs+_;generalize (ds.map fun d=>(w d.1).natAbs*(d.2 i).natAbs).sum=s at a⊢;have e1:(y p).natAbs*(w i).natAbs<=(y p).natAbs*s+(w p).natAbs*(y i).natAbs:=by
    rw [<-Int.natAbs_mul,<-Int.natAbs_mul];have h1:y p*w i=(y p*w i+ -(w p)*y i)+w p*y i:=by grind
    have h2:=Int.natAbs_add_le (y p*w i+ -(w p)*y i) (w p*y i);rw [<-h1] at h2;omega
   have e2:(w p).natAbs*(y i).natAbs<=(y p).natAbs*((w p).natAbs*(y i).natAbs):=Nat.le_mul_of_pos_left _ (by omega);refine Nat.le_of_mul_le_mul_left (c:=(y p).natAbs) ?_ (by omega);rw [Nat.mul_add];omega
  ·have a:=i2 e fun d h=>he d (by simp [h]);have a:dt (fun i=>y p*w i+ -(w p)*y i) e=0:=a;rw [zAq,show dt y e=0 from he (p,y) (by simp)] at a;have:y p*dt w e=0:=by omega
   rcases Int.mul_eq_zero.mp this with t | t
   ·exact absurd t dpa
   ·exact t
structure KernL(n:Nat)(Fs:List Vec)(b:Nat)(S:List Stp):Prop where
 k:Kern n Fs b S
 le:Fs.length<=(bare n S).length
theorem KernL.dirs{n b:Nat}{Fs:List Vec}{S:List Stp}(h:KernL n Fs b S)(hn:n<=6): ∃ds:List (Nat×Fn),ds.map (·.1)=S.map (·.1)/\ ∀d∈ds,Dir (bare n S) Fs ((b+4)*Fs.length) d:=
 zGP h.k.inj (zCr n S) h.le (by have:=zBA n S;omega) (fun e he=>(h.k.el e he).2) _ fun p hp z=>by
  obtain ⟨q,hq,rfl⟩:=zTF.mp hp;exact (yF.mp z).2 q hq rfl
theorem zHf{n:Nat}: ∀{S:List Stp},Ech n S->(S.map (·.1)).Nodup
 | [],_=>List.nodup_nil
 |(p,v)::S,⟨h1,h2,h3,h4,h5,h6⟩=>List.nodup_cons.mpr ⟨fun z=>by
   obtain ⟨q,hq,e⟩:=zTF.mp z;have:=h5 q hq;have e:q.1=p:=e;omega,zHf h6⟩
theorem KernL.sp{n b C:Nat}{Fs:List Vec}{S:List Stp}(h:KernL n Fs b S){d:Nat×Fn}(hd:Dir (bare n S) Fs C d)(hp:d.1<n):Sp S d.2:=
 (h.k.ker _).mpr ⟨fun i hi=>hd.out i (fun z=>by have:=(yF.mp z).1;omega) (by omega),hd.ker⟩
theorem KernL.pivot{n b:Nat}{Fs:List Vec}{S:List Stp}(h:KernL n Fs b S)(hn:n<=6){q:Stp}(hq:q∈S):Bt ((b+4)*Fs.length) (zA q.2 q.1):=by
 obtain ⟨ds,e,hd⟩:=h.dirs hn;obtain ⟨d,hm,e1⟩: ∃d∈ds,d.1=q.1:=by
  have:q.1∈ds.map (·.1):=by rw [e];exact zTF.mpr ⟨q,hq,rfl⟩
  obtain ⟨d,hm,e1⟩:=zTF.mp this;exact ⟨d,hm,e1⟩
 have hD:=hd d hm;have hs:=h.sp hD (by rw [e1];exact (h.k.ech.mem hq).2.1);have dv:=Sp.dvd h.k.ech hs hq fun s hs' hlt=>hD.out s.1 (fun z=>(yF.mp z).2 s hs' rfl) (by omega);have:=hD.at_;rw [e1] at this;exact (hD.bt q.1).le (Nat.le_of_dvd (by omega) (Int.natAbs_dvd_natAbs.mpr dv))
theorem zRu{B C:Nat}{l:List (Nat×Fn)}{w:Fn}{i:Nat}(h8:l.length<=8)(h1: ∀d∈l,Bt B (w d.1))(h2: ∀d∈l,Bt C (d.2 i)):(l.map fun d=>(w d.1).natAbs*(d.2 i).natAbs).sum<=2^(B+C+3):=by
 have:=zLo (l:=l) (fun d=>(w d.1).natAbs*(d.2 i).natAbs) (2^B*2^C) fun d hd=>Nat.mul_le_mul (show (w d.1).natAbs<=2^B from h1 d hd) (show (d.2 i).natAbs<=2^C from h2 d hd);refine zST this (zST (Nat.mul_le_mul_right _ h8) ?_);rw [Nat.pow_add,Nat.pow_add,Nat.mul_comm];exact zSJ _
theorem KernL.grow{n b B:Nat}{Fs:List Vec}{S:List Stp}(h:KernL n Fs b S)(hn:n<=6){x:Fn}{c:Vec->Int}{z:Int}(hx: ∀i,n<=i->x i=0)(he: ∀e∈Fs,dt x e+c e*z=0)(hc: ∀e∈Fs,Bt b (c e))(hz:Bt B z)(hp: ∀q∈S,Bt B (x q.1)): ∀i,Bt (B+(b+4)*Fs.length+3) (x i):=by
 have app: ∀(e:Vec) (y:Fn) (d:Int),dt y (e++ [d])=dt y e+y e.length*d:=by
  intro e
  induction e with
  | nil=>intro y d;simp [dt]
  | cons a e ih=>intro y d;simp only [List.cons_append,dt,zTH];rw [ih];omega
 have low: ∀(e:Vec) (y y':Fn),(∀i,i<e.length->y i=y' i)->dt y e=dt y' e:=by
  intro e
  induction e with
  | nil=>intro y y' _;rfl
  | cons a e ih=>intro y y' hy;simp only [dt];rw [hy 0 (by simp),ih _ _ fun i hi=>hy (i+1) (by simp;omega)]
 have inj:Inj (bare n S) (Fs.map fun e=>e++ [c e]):=fun y hy he'=>h.k.inj y hy fun e h1=>by
  have:=he' (e++ [c e]) (List.mem_map_of_mem h1);rw [app,(h.k.el e h1).1,hy n (fun t=>by have:=(yF.mp t).1;omega)] at this;simpa using this
 obtain ⟨ds,e1,hd⟩:=zGP (b:=b) inj (zCr n S) (by rw [zSM];exact h.le) (by have:=zBA n S;omega) (fun e he'=>by
  obtain ⟨e',h1,rfl⟩:=zTF.mp he';obtain ⟨a1,a2⟩:=h.k.el e' h1;intro i;by_cases hi:i<n
  ·have:zA (e'++ [c e']) i=zA e' i:=by simp [zA,List.getElem?_append_left (show i<e'.length by omega)]
   rw [this];exact a2 i
  ·by_cases hi':i=n
   ·have:zA (e'++ [c e']) i=c e':=by rw [hi'];simp [zA,<-a1]
    rw [this];exact hc e' h1
   ·rw [yD (by simp;omega)];exact Bt.zero) (n::S.map (·.1)) (fun p hp' t=>by
  rcases zSz.mp hp' with rfl | hp'
  ·have:=(yF.mp t).1;omega
  ·obtain ⟨q,hq,rfl⟩:=zTF.mp hp';exact (yF.mp t).2 q hq rfl)
 have nd:(ds.map (·.1)).Nodup:=by
  rw [e1];refine List.nodup_cons.mpr ⟨fun t=>?_,zHf h.k.ech⟩;obtain ⟨q,hq,e⟩:=zTF.mp t;have:=(h.k.ech.mem hq).2.1;omega
 have mem: ∀d∈ds,d.1=n\/ ∃q∈S,q.1=d.1:=fun d hd'=>by
  have:d.1∈n::S.map (·.1):=by rw [<-e1];exact zTF.mpr ⟨d,hd',rfl⟩
  rcases zSz.mp this with t | t
  ·exact .inl t
  ·obtain ⟨q,hq,e⟩:=zTF.mp t;exact .inr ⟨q,hq,e⟩
 have cnt:=zBu h.k.ech;have l8:ds.length<=8:=by
  have:=congrArg List.length e1;rw [zSM,zTH,zSM] at this;omega
 have key:=(zDh inj ds (fun i=>if i=n then z else x i) hd nd (fun i h1 h2=>by
  by_cases e:i=n
  ·exfalso;have:n∈ds.map (·.1):=by rw [e1];simp
   obtain ⟨d,hd',e'⟩:=zTF.mp this;exact h2 d hd' (by rw [e];exact e'.symm)
  ·rw [if_neg e];by_cases hin:i<n
   ·exfalso;refine h1 (yF.mpr ⟨hin,fun q hq e'=>?_⟩);have:q.1∈ds.map (·.1):=by rw [e1];exact zSm _ (zTF.mpr ⟨q,hq,rfl⟩)
    obtain ⟨d,hd',e2⟩:=zTF.mp this;exact h2 d hd' (by rw [<-e'];exact e2.symm)
   ·exact hx i (by omega)) (fun e he'=>by
  obtain ⟨e',h1,rfl⟩:=zTF.mp he';rw [app,(h.k.el e' h1).1,low e' _ x fun i hi=>if_neg (by have:=(h.k.el e' h1).1;omega)];have:=he e' h1;rw [if_pos rfl,Int.mul_comm z];omega)).1
 intro i;by_cases hi:i=n
 ·rw [hi,hx n (zSJ n)];exact Bt.zero
 ·have k:=key i;simp only [if_neg hi] at k;have s:=zRu (B:=B) (C:=(b+4)*Fs.length) (w:=fun i=>if i=n then z else x i) (i:=i) l8 (fun d hd'=>by
   show Bt B (if d.1=n then z else x d.1);rcases mem d hd' with t |⟨q,hq,t⟩
   ·rw [if_pos t];exact hz
   ·rw [if_neg (by have:=(h.k.ech.mem hq).2.1;omega),<-t];exact hp q hq) (fun d hd'=>by
   have:=(hd d hd').bt i
   rwa [zSM] at this)
  exact zST k s
theorem KernL.steps{n b:Nat}{Fs:List Vec}{S:List Stp}(h:KernL n Fs b S)(hr:Red S)(hn:n<=6){q:Stp}(hq:q∈S):Bts ((b+4)*Fs.length+(b+4)*Fs.length+3) q.2:=by
 have kx:=(h.k.ker _).mp (Sp.mem hq);exact h.grow hn (x:=zA q.2) (c:=fun _=>0) (z:=0) (B:=(b+4)*Fs.length) kx.1 (fun e he=>by rw [kx.2 e he];simp) (fun _ _=>Bt.zero) Bt.zero fun r hr'=>by
  have m:=zGc h.k.ech hr q hq r hr';have:=(h.k.ech.mem hr').2.2.1;exact zEV (h.pivot hn hr') (by omega) m.2
theorem KernL.part{n b:Nat}{Fs:List Vec}{S:List Stp}{e:Vec}(h:KernL n Fs b S)(he:e.length=n/\Bts b e)(hr:0<(FrV.part e S).2.2):KernL n (Fs++ [e]) b (FrV.part e S).1:=by
 have k:=h.k.part he;refine ⟨k,?_⟩;have c1:=zBu h.k.ech;have c2:=zBu k.ech;have c3:=zFW h.k.ech hr;have:=h.le;rw [zSh,List.length_singleton];omega
theorem KernL.reach{n b:Nat}{Fs:List Vec}{S:List Stp}{e:Vec}(h:KernL n Fs b S)(hn:n<=6)(he:e.length=n/\Bts b e)(hr:0<(FrV.part e S).2.2):Bt ((b+4)*Fs.length+b+3) (FrV.part e S).2.2:=by
 obtain ⟨ds,e1,hd⟩:=h.dirs hn;have P:=ze (e:=e) h.k.ech;have pl: ∀d∈ds,∃q∈S,q.1=d.1:=fun d hm=>by
  have:d.1∈S.map (·.1):=by rw [<-e1];exact zTF.mpr ⟨d,hm,rfl⟩
  obtain ⟨q,hq,e⟩:=zTF.mp this;exact ⟨q,hq,e⟩
 by_cases hx: ∃d∈ds,dt d.2 e≠0
 ·obtain ⟨d,hm,h0⟩:=hx;obtain ⟨q,hq,eq⟩:=pl d hm;have hs:=h.sp (hd d hm) (by rw [<-eq];exact (h.k.ech.mem hq).2.1);obtain ⟨c,hc⟩:=(P.sp hr d.2).mp hs;have z:=(((h.part he hr).k.ker _).mp hc).2 e (by simp);rw [zAe,zBG,P.dtv hr] at z;have dv:(FrV.part e S).2.2∣dt d.2 e:=⟨c,by rw [Int.mul_comm];omega⟩;have b1:=zCb e d.2 3 (by rw [he.1];show n<=8;omega) (hd d hm).bt he.2;exact b1.le (Nat.le_of_dvd (by omega) (Int.natAbs_dvd_natAbs.mpr dv))
 ·have v0: ∀d∈ds,dt d.2 e=0:=fun d hm=>Classical.byContradiction fun z=>hx ⟨d,hm,z⟩;have sv:Sp S (zA (FrV.part e S).2.1):=(P.sp hr _).mpr ⟨1,Sp.zero _ fun i=>by omega⟩;have kx:=(h.k.ker _).mp sv;have z:=(zDh h.k.inj ds (zA (FrV.part e S).2.1) hd (by rw [e1];exact zHf h.k.ech) (fun i h1 h2=>by
   by_cases hi:i<n
   ·exfalso;refine h1 (yF.mpr ⟨hi,fun q hq e'=>?_⟩);have:q.1∈ds.map (·.1):=by rw [e1];exact zTF.mpr ⟨q,hq,rfl⟩
    obtain ⟨d,hm,e2⟩:=zTF.mp this;exact h2 d hm (by rw [<-e'];exact e2.symm)
   ·exact kx.1 i (by omega)) kx.2).2 e v0
  rw [P.dtv hr] at z;omega
theorem lvl(b k:Nat):(b+4)*k+b+3<=(b+4)*(k+1):=by rw [Nat.mul_succ];omega
theorem KernL.vec{n b:Nat}{Fs:List Vec}{S:List Stp}{e:Vec}(h:KernL n Fs b S)(hR:Red S)(hn:n<=6)(he:e.length=n/\Bts b e)(hr:0<(FrV.part e S).2.2):Bts ((b+4)*(Fs.length+1)+(b+4)*(Fs.length+1)+3) (FrV.part e S).2.1:=by
 have hk:=h.part he hr;have P:=ze (e:=e) h.k.ech;have sv:Sp S (zA (FrV.part e S).2.1):=(P.sp hr _).mpr ⟨1,Sp.zero _ fun i=>by omega⟩;have kx:=(h.k.ker _).mp sv;have lF:(Fs++ [e]).length=Fs.length+1:=by rw [zSh,List.length_singleton]
 have g:=hk.grow hn (x:=zA (FrV.part e S).2.1) (c:=fun e'=>if dt (zA (FrV.part e S).2.1) e'=0 then 0 else -1) (z:=(FrV.part e S).2.2) (B:=(b+4)*(Fs.length+1)) kx.1 (fun e' h1=>by
   show _+(if dt (zA (FrV.part e S).2.1) e'=0 then 0 else -1)*_=0;rcases zTC.mp h1 with z | z
   ·rw [if_pos (kx.2 e' z),kx.2 e' z];simp
   ·rw [zTE.mp z];have:=P.dtv hr;rw [if_neg (by omega),this];omega) (fun e' _=>by
   show Bt b (if dt (zA (FrV.part e S).2.1) e'=0 then 0 else -1);split
   ·exact Bt.zero
   ·exact Bt.one.neg) ((h.reach hn he hr).mono (lvl b _)) (fun q hq=>by
   have:=zFD h.k.ech hR hr q hq;have p:=hk.pivot hn hq;rw [lF] at p;exact zEV p (by omega) (by omega))
 rw [lF] at g;exact g
structure RunL(n b:Nat)(Es:List Eqn)(s:Stt):Prop where
 ex: ∃Fs,KernL n Fs b s.steps/\Fs.length=s.spent.length/\ ∀e∈Fs,∃E∈Es,E.1=e
 sp: ∀(i:Nat) (x:Spt),s.spent[i]?=some x->0<x.2.2/\Bts ((b+4)*(i+1)+(b+4)*(i+1)+3) x.2.1/\Bt ((b+4)*(i+1)) x.2.2
theorem RunL.start(n m b:Nat)(Es:List Eqn):RunL n b Es (yB n m):=by
 have S:=zDN n m;have ok:EqOk n m b [] :=⟨fun E h=>(nomatch h),fun E h=>(nomatch h),fun E h=>(nomatch h),fun E h=>(nomatch h)⟩;exact ⟨⟨[],⟨S.kern ok,zSU _⟩,rfl,fun e h=>(nomatch h)⟩,fun i x h=>by simp [yB] at h⟩
theorem RunL.next{n b j:Nat}{Es:List Eqn}{s:Stt}{E:Eqn}(R:RunL n b Es s)(hE:E∈Es)(hR:Red s.steps)(hn:n<=6)(he:E.1.length=n/\Bts b E.1):RunL n b Es (FrV.take j E s):=by
 obtain ⟨Fs,k,l,hF⟩:=R.ex;unfold FrV.take;simp only;split
 ·exact R
 ·rename_i h0
  have P:=ze (e:=E.1) k.k.ech;have hr:0<(FrV.part E.1 s.steps).2.2:=by have:=P.r0;omega
  refine ⟨⟨Fs++ [E.1],k.part he hr,by simp [l],fun e he'=>?_⟩,fun i x hx=>?_⟩
  ·rcases zTC.mp he' with z | z
   ·exact hF e z
   ·exact ⟨E,hE,(zTE.mp z).symm⟩
  have hx:(s.spent++ [(j,(FrV.part E.1 s.steps).2.1,(FrV.part E.1 s.steps).2.2)])[i]?=some x:=hx;by_cases hi:i<s.spent.length
  ·rw [List.getElem?_append_left hi] at hx;exact R.sp i x hx
  ·rw [List.getElem?_append_right (by omega)] at hx;have hi':i - s.spent.length=0:=by
    have:=(zTL.mp hx).1;simpa using this
   rw [hi'] at hx;cases hx;have ei:i=Fs.length:=by omega
   rw [ei];exact ⟨hr,k.vec hR hn he hr,(k.reach hn he hr).mono (lvl b _)⟩
theorem zKv{a c:Int}{u v:Vec}{M:Nat}(i:Nat)(h:Bt M (a*zA u i+c*zA v i)):Bt M (zA (zR a u c v) i):=by
 by_cases h1:i<u.length
 ·by_cases h2:i<v.length
  ·have:zA (zR a u c v) i=a*zA u i+c*zA v i:=by simp [zA,zR,List.getElem?_zipWith,zSF h1,zSF h2]
   rw [this];exact h
  ·rw [yD (by simp [zR];omega)];exact Bt.zero
 ·rw [yD (by simp [zR];omega)];exact Bt.zero
theorem zKG{n len b k T:Nat}{q:Nat->Vec}{s:Spt}{c:Cl}(hq: ∀j,Bts b (q j))(hn:n<=6)(hs:0<s.2.2/\Bts ((b+4)*(k+1)+(b+4)*(k+1)+3) s.2.1/\Bt ((b+4)*(k+1)) s.2.2)(h:ClB T c):ClB (T+((b+4)*(k+1)+(b+4)*(k+1)+b+7)) (turn n q len s c):=by
 obtain ⟨r0,hv,hr⟩:=hs;generalize hL:(b+4)*(k+1)=L at hv hr⊢;have own:Bt (T+(L+L+3)+3) (lo (dt (zA s.2.1) (c.tot.take n)) c.mod):=by
  have d:=zCb (c.tot.take n) (zA s.2.1) 3 (by rw [List.length_take];show _<=8;omega) (fun i=>hv i) (fun i=>by
   rw [zBa];split
   ·exact h.t i
   ·exact Bt.zero)
  exact zAx (d.mono (by omega)) h.m0 (h.m.mono (by omega))
 unfold turn;simp only;generalize lo (dt (zA s.2.1) (c.tot.take n)) c.mod=w at own⊢;have gd:((Int.gcd w s.2.2:Nat):Int)∣s.2.2:=Int.gcd_dvd_right ..;have g0:0<Int.gcd w s.2.2:=Int.gcd_pos_of_ne_zero_right _ (by omega);obtain ⟨t,et⟩:=gd;have sc:s.2.2/((Int.gcd w s.2.2:Nat):Int)=t:=by
  have:=Int.mul_ediv_cancel_left (a:=((Int.gcd w s.2.2:Nat):Int)) t (by omega);rw [<-et] at this;exact this
 rw [sc];generalize Int.gcd w s.2.2=g at et g0;have t0:0<t:=by
  refine Classical.byContradiction fun z=>?_;have:(g:Int)*t<=0:=Int.mul_nonpos_of_nonneg_of_nonpos (by omega) (by omega);omega
 have bt:Bt L t:=hr.le (by
  rw [et,Int.natAbs_mul];exact Nat.le_mul_of_pos_left _ (by omega))
 have bw:Bt (T+(L+L+3)+3) (w*t/s.2.2):=by
  have e:w*t/s.2.2=w/g:=by
   rw [et,Int.mul_comm w t,Int.mul_comm (g:Int) t];exact Int.mul_ediv_mul_of_pos _ _ t0
  rw [e];exact own.le (Int.natAbs_ediv_le_natAbs _ _)
 have bm:Bt (T+L) (c.mod*t):=h.m.mul bt;have m0:0<=c.mod*t:=Int.mul_nonneg h.m0 (by omega);refine ⟨fun i=>?_,fun i=>?_,bm.mono (by omega),m0⟩
 ·show Bt _ (zA (los _ _) i);rw [zBL];refine zAx (zKv i ?_) m0 (bm.mono (by omega));have a1:Bt (L+T) (t*zA c.fac i):=bt.mul (h.f i);have one:Bt 0 (zA (zP s.1 len) i):=by
   rw [yX];split
   ·exact Bt.one
   ·exact Bt.zero
  have a2:Bt (T+(L+L+3)+3+0) (-(w*t/s.2.2)*zA (zP s.1 len) i):=bw.neg.mul one;exact ((a1.mono (show _<=T+(L+L+3)+3 by omega)).add (a2.mono (show _<=T+(L+L+3)+3 by omega))).mono (by omega)
 ·show Bt _ (zA (los _ _) i);rw [zBL];refine zAx (zKv i ?_) m0 (bm.mono (by omega));have a1:Bt (L+T) (t*zA c.tot i):=bt.mul (h.t i);have a2:Bt (T+(L+L+3)+3+b) (-(w*t/s.2.2)*zA (q s.1) i):=bw.neg.mul (hq _ i);exact ((a1.mono (show _<=T+(L+L+3)+3+b by omega)).add a2).mono (by omega)
def zCo(b:Nat):Nat->Nat
 | 0=>0
 | k+1=>zCo b k+((b+4)*(k+1)+(b+4)*(k+1)+b+7)
theorem zDQ{n len b:Nat}{q:Nat->Vec}(hq: ∀j,Bts b (q j))(hn:n<=6): ∀(k:Nat) (l:List Spt) (c:Cl) (T:Nat),l.length=k->(∀(i:Nat) (x:Spt),l[i]?=some x->0<x.2.2/\Bts ((b+4)*(i+1)+(b+4)*(i+1)+3) x.2.1/\Bt ((b+4)*(i+1)) x.2.2)->ClB T c->
  ClB (T+zCo b k) (l.reverse.foldl (fun c s=>turn n q len s c) c)
 | 0,l,c,T,hl,_,h=>by
  rw [List.length_eq_zero_iff.mp hl];exact h
 | k+1,l,c,T,hl,hx,h=>by
  rcases List.eq_nil_or_concat l with rfl |⟨l',x,rfl⟩
  ·simp at hl
  ·have hl':l'.length=k:=by simpa using hl
   rw [List.concat_eq_append] at hx⊢;rw [List.reverse_append];show ClB _ ((l'.reverse).foldl _ (turn n q len x c));have hxx:=hx k x (by simp [<-hl']);have ih:=zDQ (len:=len) hq hn k l' _ _ hl' (fun i y hy=>hx i y (by rw [List.getElem?_append_left (zTL.mp hy).1];exact hy)) (zKG (len:=len) hq hn hxx h);rw [zCo,show T+(zCo b k+((b+4)*(k+1)+(b+4)*(k+1)+b+7))=T+((b+4)*(k+1)+(b+4)*(k+1)+b+7)+zCo b k by omega];exact ih
theorem zOa{b k:Nat}(h:k<=6):zCo b k<=48*b+210:=by
 have:k=0\/k=1\/k=2\/k=3\/k=4\/k=5\/k=6:=by omega
 rcases this with rfl | rfl | rfl | rfl | rfl | rfl | rfl<;>simp only [zCo] <;>omega
theorem zMd{b k:Nat}(h:k<=5):(b+4)*(k+1)+zCo b k<=49*b+210:=by
 have:k=0\/k=1\/k=2\/k=3\/k=4\/k=5:=by omega
 rcases this with rfl | rfl | rfl | rfl | rfl | rfl<;>simp only [zCo] <;>omega
def CB(b:Nat):Nat:=49*b+210
theorem zJv{M:Nat}{z l:Int}(hz:Bt M z)(hl:Bt M l)(l0:0<=l):Bt M (yq z l):=by
 have h:=zAx hz l0 hl;unfold yq;split
 ·rename_i c
  have h1:=zSX z (b:=l) (by omega);have h2:=zSR z (b:=l) (by omega);have e:FrV.lo z l=z % l:=by unfold FrV.lo;rw [if_neg (by omega)]
  rw [e];exact hl.le (by omega)
 ·exact h
theorem zIg{M:Nat}{f:Vec}{m:Int}(hf:Bts M f)(hm:Bt M m)(m0:0<=m):Bts M (short f m).1/\Bt M (short f m).2:=by
 have dv: ∀x,Bt M x->Bt M (x/f.foldl yj m):=fun x hx=>hx.le (Int.natAbs_ediv_le_natAbs _ _);refine ⟨fun i=>?_,dv m hm⟩;show Bt M (((f.map fun x=>yq (x/f.foldl yj m) (m/f.foldl yj m))[i]?).getD 0);rw [zSK];cases e:f[i]? with
 | none=>exact zSU _
 | some x=>
  have hx:Bt M x:=by have:=hf i;simpa [zA,e] using this
  exact zJv (dv x hx) (dv m hm) (Int.ediv_nonneg m0 (zEd f m0).1)
theorem zDd{n m b:Nat}{Es:List Eqn}(ok:EqOk n m b Es)(j:Nat):Bts b (whole Es j):=by
 cases e:Es[j]? with
 | none=>unfold whole;rw [e];exact fun i=>Bt.zero
 | some E=>
  rw [zAC e];have h:=zSj e;intro i;by_cases hi:i<E.1.length
  ·have:zA (E.1++E.2) i=zA E.1 i:=by simp [zA,List.getElem?_append_left hi]
   rw [this];exact ok.b1 E h i
  ·have:zA (E.1++E.2) i=zA E.2 (i - E.1.length):=by simp [zA,List.getElem?_append_right (show E.1.length<=i by omega)]
   rw [this];exact ok.b2 E h _
theorem zGx{n m b:Nat}{Es:List Eqn}(ok:EqOk n m b Es)(hn:n<=6): ∀(r:List Eqn) (j:Nat) (s:Stt),Run n m b Es j s->RunL n b Es s->Es.drop j=r->
  match yN n (whole Es) Es.length j r s with
  | .inl s'=>RunL n b Es s'
  | .inr (f,d)=>Bts (CB b) f/\Bt (CB b) d
 | [],j,s,R,L,h=>by
  rw [yN];exact L
 | E::r,j,s,R,L,h=>by
  have hE:Es[j]?=some E:=by
   have:=congrArg (fun l=>l[0]?) h;simpa using this
  have hm:=zSj hE;have hd:Es.drop (j+1)=r:=by
   rw [<-List.drop_drop,h];rfl
  have he:E.1.length=n/\Bts b E.1:=⟨ok.l1 E hm,ok.b1 E hm⟩;cases hf:fits E s with
  | true=>
   rw [zEx hf];exact zGx ok hn r (j+1) _ (R.next ok hn hE hf) (L.next hm R.sol.red hn he) hd
  | false=>
   rw [zDI hf];simp only;obtain ⟨Fs,k,l,_⟩:=L.ex;have kb:=k.le;have bl:=zBA n s.steps;have P:=ze (e:=E.1) k.k.ech;have key:ClB (CB b) (zBR n (whole Es) Es.length j E s):=by
    have one: ∀M,Bts M (zP j Es.length):=fun M i=>by
     rw [yX];split
     ·exact Bt.one
     ·exact Bt.zero
    rcases Int.lt_or_eq_of_le P.r0 with hp | hp
    ·have k2:=(k.part he hp).le;have b2:=zBA n (FrV.part E.1 s.steps).1;rw [zSh,List.length_singleton] at k2;have c0:ClB ((b+4)*(Fs.length+1)) ⟨zP j Es.length,whole Es j,(FrV.part E.1 s.steps).2.2⟩:=⟨one _,(zDd ok j).mono (by rw [Nat.mul_succ];omega),(k.reach hn he hp).mono (lvl b _),P.r0⟩;have:=zDQ (len:=Es.length) (zDd ok) hn s.spent.length s.spent _ _ rfl L.sp c0;have c:=zMd (b:=b) (show s.spent.length<=5 by omega);rw [l] at this;exact ⟨this.f.mono c,this.t.mono c,this.m.mono c,this.m0⟩
    ·have c0:ClB b ⟨zP j Es.length,whole Es j,(FrV.part E.1 s.steps).2.2⟩:=⟨one _,zDd ok j,by show Bt b (FrV.part E.1 s.steps).2.2;rw [<-hp];exact Bt.zero,P.r0⟩;have:=zDQ (len:=Es.length) (zDd ok) hn s.spent.length s.spent _ _ rfl L.sp c0;have c:b+zCo b s.spent.length<=CB b:=by
      have:=zOa (b:=b) (show s.spent.length<=6 by omega);unfold CB;omega
     exact ⟨this.f.mono c,this.t.mono c,this.m.mono c,this.m0⟩
   exact zIg key.f key.m key.m0
theorem RunL.rows{n m b:Nat}{Es:List Eqn}{s:Stt}(L:RunL n b Es s)(S:Sol n m Es s)(ok:EqOk n m b Es)(hn:n<=6): ∀v∈s.steps.map (·.2)++s.fixed,Bts (CB b) v:=by
 obtain ⟨Fs,k,l,hF⟩:=L.ex;have kb:=k.le;have bl:=zBA n s.steps;have c:(b+4)*Fs.length+(b+4)*Fs.length+3<=CB b:=by
  have:=zSt (b+4) (show Fs.length<=6 by omega);unfold CB;omega
 intro v hv;rcases zTC.mp hv with h | h
 ·obtain ⟨q,hq,rfl⟩:=zTF.mp h;exact (k.steps S.red hn hq).mono c
 ·obtain ⟨j,hj⟩:=List.mem_iff_getElem?.mp h;have ln:=S.fn v h;have g:=k.grow hn (x:=zA v) (c:=fun e=> -(dt (zA v) e)) (z:=1) (B:=(b+4)*Fs.length) (fun i hi=>yD (by omega)) (fun e he=>by omega) (fun e he=>by
   obtain ⟨E,hE,rfl⟩:=hF e he;have:=S.fx j v hj E hE;have e2: -(dt (zA v) E.1)=zA E.2 j:=by omega
   show Bt b (-(dt (zA v) E.1));rw [e2];exact ok.b2 E hE j) Bt.one (fun r hr=>by
   have:=S.fr v h r hr;exact zEV (k.pivot hn hr) (by omega) (by omega))
  exact fun i=>(g i).mono c
theorem zDJ{n m b:Nat}{Es:List Eqn}(ok:EqOk n m b Es)(hn:n<=6):match yN n (whole Es) Es.length 0 Es (yB n m) with
  | .inl s=> ∀v∈s.steps.map (·.2)++s.fixed,Bts (CB b) v
  | .inr (f,d)=>Bts (CB b) f/\Bt (CB b) d:=by
 have z:=zGx ok hn Es 0 _ (Run.start n m b Es) (RunL.start n m b Es) rfl;have y:=zAO ok hn Es 0 _ (Run.start n m b Es) rfl;generalize yN n (whole Es) Es.length 0 Es (yB n m)=w at z y⊢;cases w with
 | inl s=>exact RunL.rows z (Run.all y) ok hn
 | inr p=>exact z
end FrV
namespace Fr
open PySem PySem.Spec PyProof.Rows L2 FrM
def top(i:Nat):Stmt:=PySem.Challenge.pw_measurewise_k22_fewest_that_clash.main.body.getD i (.Pass ⟨0,0,0,0⟩)
abbrev zBl:Stmt:=top 4
abbrev zBg:Stmt:=top 5
abbrev zGb:Stmt:=top 7
abbrev zGN:Stmt:=top 10
abbrev zBk:Stmt:=top 11
abbrev zDC:Stmt:=top 12
abbrev zCJ:Stmt:=top 13
abbrev zGO:Stmt:=top 14
abbrev zFi:Stmt:=top 15
abbrev zDc:Stmt:=top 16
abbrev zET:Stmt:=top 17
abbrev zCd:Stmt:=top 22
abbrev zDs:Stmt:=top 23
abbrev zEY:Stmt:=top 26
abbrev zCx:Stmt:=top 27
abbrev zFn:Stmt:=top 28
abbrev zCq:Stmt:=top 29
abbrev zGI:Stmt:=top 30
abbrev zFG:Stmt:=top 31
abbrev zBi:Stmt:=top 32
abbrev zCD:Stmt:=top 33
abbrev zFk:Stmt:=top 35
abbrev zCt:Stmt:=top 36
abbrev zEW:Stmt:=top 37
abbrev zEr:Stmt:=top 38
abbrev zIc:Stmt:=top 40
abbrev zFJ:Stmt:=top 41
abbrev zCK:Stmt:=top 42
abbrev zBd:Stmt:=top 43
abbrev zCp:Stmt:=top 44
abbrev zIG:Stmt:=top 45
abbrev zGX:Stmt:=top 46
abbrev zBH:Stmt:=top 47
abbrev zEB:Stmt:=top 48
abbrev zCS:Stmt:=top 49
abbrev zDl:Stmt:=top 50
abbrev zDn:Stmt:=top 51
abbrev zFF:Stmt:=top 52
theorem zAX:bootBuiltins "list" =some (.type "list"):=by decide+kernel
theorem zDA:bootBuiltins "all" =some (.builtin "all"):=by decide+kernel
theorem zQE:bootBuiltins "any" =some (.builtin "any"):=by decide+kernel
theorem zLa:bootBuiltins "sum" =some (.builtin "sum"):=by decide+kernel
theorem zk:bootBuiltins "isinstance" =some (.builtin "isinstance"):=by decide+kernel
theorem yQ:bootBuiltins "len" =some (.builtin "len"):=by decide+kernel
theorem zLd:bootBuiltins "abs" =some (.builtin "abs"):=by decide+kernel
theorem zFv:bootBuiltins "int" =some (.type "int"):=by decide+kernel
theorem zIx:bootBuiltins "bool" =some (.type "bool"):=by decide+kernel
theorem zEs:bootBuiltins "tuple" =some (.type "tuple"):=by decide+kernel
theorem zFq:bootBuiltins "str" =some (.type "str"):=by decide+kernel
inductive Kd (H:Hp):V->Prop
 | non:Kd H .non
 | bl (b:Bool):Kd H (.bl b)
 | int (i:Int):Kd H (.int i)
 | str (x:Str):Kd H (.str x)
 | lst {a:Addr} {xs:List V} (e:H a=some (.lst xs)):Kd H (.ref a)
 | tup {a:Addr} {xs:List V} (e:H a=some (.tup xs)):Kd H (.ref a)
def isW:V->Bool
 | .int _=>true
 | _=>false
def zNI:V->Bool
 | .int _=>true
 | .bl _=>true
 | _=>false
theorem zJu(K:zSy):PySem.W.kitOne K (.type "NoneType") (.type "int")=some false:=by kernel_rfl
theorem zJt(K:zSy):PySem.W.kitOne K (.type "bool") (.type "int")=some true:=by kernel_rfl
theorem zGl(K:zSy):PySem.W.kitOne K (.type "int") (.type "int")=some true:=by kernel_rfl
theorem zLb(K:zSy):PySem.W.kitOne K (.type "str") (.type "int")=some false:=by kernel_rfl
theorem zKK(K:zSy):PySem.W.kitOne K (.type "list") (.type "int")=some false:=by kernel_rfl
theorem zIm(K:zSy):PySem.W.kitOne K (.type "tuple") (.type "int")=some false:=by kernel_rfl
theorem zIf(K:zSy):PySem.W.kitOne K (.type "bool") (.type "bool")=some true:=by kernel_rfl
theorem zFm(K:zSy):PySem.W.kitOne K (.type "int") (.type "bool")=some false:=by kernel_rfl
theorem zBo(K:zSy):PySem.W.kitOne K (.type "tuple") (.type "tuple")=some true:=by kernel_rfl
theorem zPK(K:zSy){H:Hp}{x:V}(k:Kd H x): ∃t,TyOf K H x t/\PySem.W.kitOne K t (.type "int")=some (zNI x):=by
 cases k with
 | non=>exact ⟨_,.non,zJu K⟩
 | bl b=>exact ⟨_,.bl b,zJt K⟩
 | int i=>exact ⟨_,.int i,zGl K⟩
 | str x=>exact ⟨_,.str x,zLb K⟩
 | lst e=>exact ⟨_,.lst e,zKK K⟩
 | tup e=>exact ⟨_,.tup e,zIm K⟩
theorem zOu(K:zSy){H:Hp}{x:V}(k:Kd H x)(h:zNI x=true): ∃t,TyOf K H x t/\PySem.W.kitOne K t (.type "bool")=some (!isW x):=by
 cases k with
 | bl b=>exact ⟨_,.bl b,zIf K⟩
 | int i=>exact ⟨_,.int i,zFm K⟩
 | non=>cases h
 | str x=>cases h
 | lst e=>cases h
 | tup e=>cases h
structure Bn(mg:Str->Option Value):Prop where
 isi:mg "isinstance" =none
 int:mg "int" =none
 bool:mg "bool" =none
 tuple:mg "tuple" =none
 len:mg "len" =none
 range:mg "range" =none
 str:mg "str" =none
 abs:mg "abs" =none
 list:mg "list" =none
 all:mg "all" =none
 any:mg "any" =none
 sum:mg "sum" =none
 zip:mg "zip" =none
 reversed:mg "reversed" =none
 enumerate:mg "enumerate" =none
 verr:mg "ValueError" =none
 set:mg "set" =none
 sorted:mg "sorted" =none
section
variable {P:Program}{w:World}{K:zSy}{mg:Str->Option Value}{base:Heap}
def zBz:Sp:=fun vs H Q _=> ∃x,vs= [x] /\Kd H x/\Q (.bl (isW x)) H
theorem zPE:FnScope ["thing"] ["thing"] (zG zBl):=⟨rfl,rfl,rfl,by decide+kernel,rfl,by decide+kernel,by decide+kernel⟩
theorem zIM{f:Addr}{fd:FuncData}(F:Fun K "is_whole" "is_whole" zBl f fd)(B:Bn mg):FnOk P w K mg base CX0 1 f fd ["thing"] zBz:=by
 refine F.ok zPE (fun vs H Q E h=>?_) (fun cdv A outer s H vs Q E hr h=>?_)
 ·obtain ⟨x,rfl,_⟩:=h;rfl
 ·obtain ⟨x,rfl,kd,q⟩:=h;refine ⟨_,zAJ (zCM (zLY (zDT zFC (by rfl) B.isi zk (yR (pv 0) (yR (zGZ (v:= .ty "int") (by rfl) B.int zFv rfl) zAI)))
   (zKt (zKi (zDT zFC (by rfl) B.isi zk (yR (pv 0) (yR (zGZ (v:= .ty "bool") (by rfl) B.bool zIx rfl) zAI))))))),?_⟩
  obtain ⟨t,ty,e⟩:=zPK K kd;refine ⟨x,rfl,x,.ty "int",t,.type "int",_,rfl,rfl,ty,e,_,rfl,?_⟩;cases hx:zNI x with
  | false=>
   refine yC ?_;have:isW x=false:=by cases x<;>first | rfl | cases hx
   rw [this] at q;exact q
  | true=>
   refine zm ?_;obtain ⟨t',ty',e'⟩:=zOu K kd hx;refine ⟨x,rfl,x,.ty "bool",t',.type "bool",_,rfl,rfl,ty',e',_,rfl,?_⟩;rw [Bool.not_not];exact q
def zHL:Sp:=fun vs H Q _=> ∃a b:Int,vs= [.int a,.int b] /\0<b/\Q (.int ((Int.gcd a b:Nat):Int)) H
theorem zEJ:FnScope ["above","below","greater","lesser","rest"] ["above","below"] (zG zGb):=⟨rfl,rfl,rfl,by decide+kernel,rfl,by decide+kernel,by decide+kernel⟩
theorem zQo{f:Addr}{fd:FuncData}(F:Fun K "common_divisor" "common_divisor" zGb f fd):FnOk P w K mg base CX0 1 f fd ["above","below"] zHL:=by
 refine F.ok zEJ (fun vs H Q E h=>?_) (fun cdv A outer s H vs Q E hr h=>?_)
 ·obtain ⟨a,b,rfl,_⟩:=h;rfl
 ·obtain ⟨a,b,rfl,hb,q⟩:=h;refine ⟨_,yr (zCT (i:=2) zEJ.nd rfl (Or.inl rfl) (pv 1)) (yr (zCT (i:=3) zEJ.nd rfl (Or.inl rfl) (zAG zCG (pv 0) (pv 1)))
   (yr (zII PassesOwn.never (zDB zAb (pv 3) zAU (zFf _))
    (yr (zCT (i:=4) zEJ.nd rfl (Or.inl rfl) (zAG zCG (pv 2) (pv 3))) (yr (zCT (i:=2) zEJ.nd rfl (Or.inl rfl) (pv 3)) (zAJ (zCT (i:=3) zEJ.nd rfl (Or.inl rfl) (pv 4))))))
   (zAJ (zCM (pv 2))))),?_⟩
  refine ⟨_,rfl,_,rfl,_,rfl,_,_,rfl,rfl,hb,?_⟩;refine zHp (fun σ H'=>H'=H/\ ∃(g l:Int) (r:Option V),σ= [some (.int a),some (.int b),some (.int g),some (.int l),r] /\0<g/\0<=l/\Int.gcd g l=Int.gcd a b)
   (fun (σ:L2.St) _=>match σ[3]? with | some (some (V.int l))=>l.toNat | _=>0) ⟨rfl,b,a % b,none,rfl,hb,zSX _ (by omega),zIJ a b hb⟩ ?_ ?_
  ·rintro σ H' ⟨rfl,g,l,r,rfl,hg,hl,e⟩;refine ⟨_,rfl,_,_,rfl,rfl,_,rfl,?_⟩;refine yk (fun z=>?_) (fun z=>?_)
   ·have hp:0<l:=by simpa using z
    refine ⟨_,rfl,_,rfl,_,_,rfl,rfl,hp,_,rfl,_,rfl,⟨rfl,l,g % l,_,rfl,hp,zSX _ (by omega),?_⟩,?_⟩
    ·rw [zIJ g l hp,e]
    ·show (g % l).toNat<l.toNat;have:=zSR g hp;have:=zSX g (by omega:l≠0);omega
   ·have hz:l=0:=by
     have: ¬0<l:=by simpa using z
     omega
    subst hz;refine ⟨_,rfl,?_⟩;rw [<-e,zMk g (by omega)] at q;exact q
  ·rintro σ H' R R' hR ⟨v,e1,i,j,e2,e3,k,e4,q'⟩;exact ⟨v,e1,i,j,e2,e3,k,e4,hR _ _ q'⟩
end
open FrV
theorem zC.upd{H:Hp}{p:Addr}{o:HO}(hp:H p=none):zC H (L2.upd H p o):=fun b u e=>by rw [zI (zw e hp)];exact e
theorem zC.store{H H':Hp}{D:Addr}{o:HO}(s:zC H H')(hD:H D=none):zC H (L2.upd H' D o):=fun b u e=>by rw [zI (zw e hD)];exact s b u e
theorem zC.none{H H':Hp}(s:zC H H'){a:Addr}(h:H' a=none):H a=none:=by
 cases z:H a with
 | none=>rfl
 | some o=>rw [s _ _ z] at h;cases h
theorem zBQ{H:Hp}{a:Addr}(h:H a=none)(o:HO): ∃G,L2.upd H a o=G/\zC H G/\G a=some o:=⟨_,rfl,zC.upd h,zB⟩
theorem bs(n:Nat)(h:n<=60:=by decide):n<=sizeLine:=by rw [zSQ];omega
theorem yh{b:Bool}{p q:Prop}(h:b=false)(hq:q):if b=true then p else q:=by rw [h];exact hq
theorem zCe{b:Bool}{p q:Prop}(h:b=true)(hq:p):if b=true then p else q:=by rw [h];exact hq
theorem yi{σ:L2.St}(h:σ.length=1): ∃a,σ= [a] :=zTB.mp h
theorem zi{σ:L2.St}(h:σ.length=2): ∃a b,σ= [a,b] :=by
 cases σ with
 | nil=>cases h
 | cons a r=>
  obtain ⟨b,rfl⟩:=zTB.mp (show r.length=1 by simpa using h);exact ⟨a,b,rfl⟩
theorem Paired.get'{α β:Type}{F:α->β->Prop}{xs:List α}{ys:List β}(h:Paired F xs ys){i:Nat}{x:α}(e:xs[i]?=some x): ∃y,ys[i]?=some y/\F x y:=by
 induction h generalizing i with
 | nil=>simp at e
 | @cons a b l1 l2 h1 _ ih=>
  cases i with
  | zero=>simp at e;subst e;exact ⟨b,rfl,h1⟩
  | succ i=>exact ih (by simpa using e)
theorem Paired.getR{α β:Type}{F:α->β->Prop}{xs:List α}{ys:List β}(h:Paired F xs ys){i:Nat}{y:β}(e:ys[i]?=some y): ∃x,xs[i]?=some x/\F x y:=by
 induction h generalizing i with
 | nil=>simp at e
 | @cons a b l1 l2 h1 _ ih=>
  cases i with
  | zero=>simp at e;subst e;exact ⟨a,rfl,h1⟩
  | succ i=>exact ih (by simpa using e)
theorem Paired.snoc'{α β:Type}{F:α->β->Prop}{xs:List α}{ys:List β}{a:α}{b:β}(h:Paired F xs ys)(k:F a b):Paired F (xs++ [a]) (ys++ [b]):=by
 induction h with
 | nil=>exact .cons k .nil
 | cons r _ ih=>exact .cons r ih
theorem Paired.app{α β:Type}{F:α->β->Prop}{xs zs:List α}{ys ws:List β}(h:Paired F xs ys)(k:Paired F zs ws):Paired F (xs++zs) (ys++ws):=by
 induction h with
 | nil=>exact k
 | cons r _ ih=>exact .cons r ih
theorem Paired.len{α β:Type}{F:α->β->Prop}{xs:List α}{ys:List β}(h:Paired F xs ys):xs.length=ys.length:=by
 induction h with
 | nil=>rfl
 | cons _ _ ih=>simp [ih]
theorem Paired.mapM{α β:Type}{F G:α->β->Prop}{xs:List α}{ys:List β}(h:Paired F xs ys)(f: ∀a b,a∈xs->F a b->G a b):Paired G xs ys:=by
 induction h with
 | nil=>exact .nil
 | cons r _ ih=>exact .cons (f _ _ (by simp) r) (ih fun a b ha=>f a b (by simp [ha]))
def LI(H:Hp)(a:Addr)(v:Vec):Prop:=H a=some (.lst (v.map V.int))
theorem LI.same{H H':Hp}{a:Addr}{v:Vec}(h:LI H a v)(s:zC H H'):LI H' a v:=s _ _ h
abbrev LIs(H:Hp)(as:List Addr)(vs:List Vec):Prop:=Paired (LI H) as vs
def LL(H:Hp)(l:Addr)(vs:List Vec):Prop:= ∃as,H l=some (.lst (as.map V.ref))/\LIs H as vs
theorem LIs.same{H H':Hp}{as:List Addr}{vs:List Vec}(h:LIs H as vs)(s:zC H H'):LIs H' as vs:=Paired.mapP h fun a v e=>s _ _ e
theorem LL.same{H H':Hp}{l:Addr}{vs:List Vec}(h:LL H l vs)(s:zC H H'):LL H' l vs:=let ⟨as,e,p⟩:=h;⟨as,s _ _ e,LIs.same p s⟩
abbrev Mk2:=Nat×Int
def zCk(e:Vec):List Mk2:=((List.range e.length).map fun i=>(i,zA e i)).filter fun p=>p.2 !=0
abbrev MkA(H:Hp)(ts:List Addr)(ms:List Mk2):Prop:=Paired (fun t (p:Mk2)=>H t=some (.tup [.int (p.1:Int),.int p.2])) ts ms
def MkL(H:Hp)(l:Addr)(ms:List Mk2):Prop:= ∃ts:List Addr,H l=some (.lst (ts.map V.ref))/\MkA H ts ms
theorem MkA.same{H H':Hp}{ts:List Addr}{ms:List Mk2}(h:MkA H ts ms)(s:zC H H'):MkA H' ts ms:=Paired.mapP h fun a v e=>s _ _ e
theorem MkL.same{H H':Hp}{l:Addr}{ms:List Mk2}(h:MkL H l ms)(s:zC H H'):MkL H' l ms:=let ⟨as,e,p⟩:=h;⟨as,s _ _ e,MkA.same p s⟩
def StO(C:Addr)(H:Hp)(o:Addr)(q:Stp):Prop:= ∃dx a,H o=some (.ins C dx [("place",.int (q.1:Int)),("vector",.ref a)])/\LI H a q.2
theorem StO.same{C:Addr}{H H':Hp}{o:Addr}{q:Stp}(h:StO C H o q)(s:zC H H'):StO C H' o q:=let ⟨dx,a,e,p⟩:=h;⟨dx,a,s _ _ e,p.same s⟩
abbrev StA(C:Addr)(H:Hp)(os:List Addr)(S:List Stp):Prop:=Paired (StO C H) os S
def StL(C:Addr)(H:Hp)(l:Addr)(S:List Stp):Prop:= ∃os,H l=some (.lst (os.map V.ref))/\StA C H os S
theorem StA.same{C:Addr}{H H':Hp}{os:List Addr}{S:List Stp}(h:StA C H os S)(s:zC H H'):StA C H' os S:=Paired.mapP h fun a v e=>e.same s
theorem StL.same{C:Addr}{H H':Hp}{l:Addr}{S:List Stp}(h:StL C H l S)(s:zC H H'):StL C H' l S:=let ⟨os,e,p⟩:=h;⟨os,s _ _ e,StA.same p s⟩
theorem yg{b:Nat}{x:Int}(h:Bt b x)(hb:b<60000000):Sz 60000000 x:=by
 unfold Sz;exact zSW h (Nat.pow_lt_pow_right (by decide) hb)
theorem zZ{v:Vec}{i:Nat}(h:i<v.length):(v.map V.int)[i]?=some (.int (zA v i)):=by
 rw [zSK,zBV h];rfl
theorem zCA{v:Vec}{i:Nat}(h:i<v.length):v.take (i+1)=v.take i++ [zA v i] :=by
 rw [zSc,zBV h];rfl
section
variable {P:Program}{w:World}{K:zSy}{mg:Str->Option Value}{base:Heap}
def zMH(H:Hp)(Q:VK)(v:Vec):Prop:= ∀l H',zC H H'->H l=none->LI H' l v->Q (.ref l) H'
def zHH:Sp:=fun vs H Q _=> ∃p n:Nat,vs= [.int (p:Int),.int (n:Int)] /\n<=1000/\zMH H Q (zP p n)
theorem zRR:FnScope ["place","length"] ["place","length"] (zG zGN):=⟨rfl,rfl,rfl,by decide+kernel,rfl,by decide+kernel,by decide+kernel⟩
theorem zKV{p n i:Nat}(h:i<n):(zP p n).take (i+1)=(zP p n).take i++ [if i=p then 1 else 0] :=by
 rw [zCA (by rw [yS];exact h),yX];simp [h]
theorem zPe{f:Addr}{fd:FuncData}(F:Fun K "one_at" "one_at" zGN f fd)(B:Bn mg):FnOk P w K mg base CX0 1 f fd ["place","length"] zHH:=by
 refine F.ok zRR (fun vs H Q E h=>?_) (fun cdv A outer s H vs Q E hr h=>?_)
 ·obtain ⟨p,n,rfl,_⟩:=h;rfl
 ·obtain ⟨p,n,rfl,hn,q⟩:=h;refine ⟨_,QB.out (zH
   (zO (zj ["other"] ["place"] [0] rfl (zBm rfl B.range (qc (qw 1 rfl) zD rfl) rfl) rfl (by decide+kernel) rfl (by decide+kernel) (zc rfl lk0) rfl (fr1 ⟨rfl,rfl,rfl,_,rfl,rfl⟩) (zQ rfl) (fun _ _ _ _=>(zM 0 (show (["other","place"] :List Str).Nodup by decide+kernel) rfl (.inl rfl) (.inr rfl))) (fun _ _ _ _=>zo) (fun _ _ _ _=>(zFS (zU yb (qw 0 rfl) (qx 1 rfl) rfl) zF zF)) (fun _=>rfl)))),?_⟩
  refine ⟨_,rfl,n,rfl,by omega,by omega,fun D hD=>?_⟩;refine zV n (fun i ys H'=>i<=n/\ys=((zP p n).take i).map V.int/\H'=L2.upd H D (.lst ys)) ⟨zSU _,by simp,rfl⟩ (by rw [zSQ];omega) ?_ ?_ ?_
  ·rintro i ys H' hi ⟨_,rfl,rfl⟩;exact ⟨by simp;omega,zB,fun h=>h,fun h=>Nat.le_of_eq h.symm⟩
  ·rintro i ys H' x H'' hi ⟨_,rfl,rfl⟩ ⟨rfl,rfl⟩ pre hpre;obtain ⟨p0,rfl⟩:=yi hpre;refine ⟨⟨[some (.int ((0:Int)+(i:Int)))],rfl,rfl⟩,zm ?_⟩;refine ⟨_,rfl,_,rfl,rfl,_,rfl,?_⟩;have fin: ∀z:Int,z=(if i=p then 1 else 0)->L2.upd H D (.lst (((zP p n).take i).map V.int)) D=some (.lst (((zP p n).take i).map V.int))/\(i+1<=n/\((zP p n).take i).map V.int++ [.int z] =((zP p n).take (i+1)).map V.int/\L2.upd (L2.upd H D (.lst (((zP p n).take i).map V.int))) D (.lst (((zP p n).take i).map V.int++ [.int z]))=L2.upd H D (.lst (((zP p n).take i).map V.int++ [.int z]))):=fun z hz=>by
    refine ⟨zB,hi,?_,by rw [yM]⟩;rw [zKV hi,zSb,hz];rfl
   refine yk (fun c=>?_) (fun c=>?_)
   ·refine fin 1 ?_;have:(0:Int)+(i:Int)=(p:Int):=by simpa using c
    rw [if_pos (by omega)]
   ·refine fin 0 ?_;have: ¬(0:Int)+(i:Int)=(p:Int):=by simpa using c
    rw [if_neg (by omega)]
  ·rintro ys H' ⟨_,rfl,rfl⟩;refine q _ _ (zC.upd hD) hD ?_;show L2.upd H D _ D=_;rw [zB,List.take_of_length_le (by rw [yS];exact zSJ _)]
def zBx:Sp:=fun vs H Q _=> ∃(a b:Int) (p r:Addr) (u v:Vec),vs= [.int a,.ref p,.int b,.ref r] /\LI H p u/\LI H r v/\u.length=v.length/\u.length<=1000/\Bt 50000000 a/\Bt 50000000 b/\Bts 50000000 u/\Bts 50000000 v/\zMH H Q (zR a u b v)
theorem zOP:FnScope ["factor","one","other_factor","other"] ["factor","one","other_factor","other"] (zG zBk):=⟨rfl,rfl,rfl,by decide+kernel,rfl,by decide+kernel,by decide+kernel⟩
theorem zEu{f:Addr}{fd:FuncData}(F:Fun K "mixed" "mixed" zBk f fd)(B:Bn mg):FnOk P w K mg base CX0 1 f fd ["factor","one","other_factor","other"] zBx:=by
 refine F.ok zOP (fun vs H Q E h=>?_) (fun cdv A outer s H vs Q E hr h=>?_)
 ·obtain ⟨a,b,p,r,u,v,rfl,_⟩:=h;rfl
 ·obtain ⟨a,b,p,r,u,v,rfl,hp,hv,hl,hn,ba,bb,bu,bv,q⟩:=h;refine ⟨_,QB.out (zH
   (zO (zj ["mine","yours"] ["factor","other_factor"] [0,2] rfl (zFg (K:=K) rfl rfl B.zip (qc (qw 1 rfl) (qc (qw 3 rfl) zD rfl) rfl) rfl rfl) rfl (by decide+kernel) rfl (by decide+kernel) (zc rfl (zc rfl lk0)) rfl (fr2 ⟨rfl,rfl,rfl,_,rfl,rfl⟩ ⟨rfl,rfl,rfl,_,rfl,rfl⟩) (zQ rfl) (fun _ _ _ _=>(zBO (K:=K) (n:=2) rfl rfl (yK (zM 0 (show (["mine","yours","factor","other_factor"] :List Str).Nodup by decide+kernel) rfl (.inl rfl) (.inr rfl)) (yK (zM 1 (show (["mine","yours","factor","other_factor"] :List Str).Nodup by decide+kernel) rfl (.inl rfl) (.inr rfl)) zBW rfl) rfl) rfl rfl)) (fun _ _ _ _=>zo) (fun _ _ _ _=>(yu (zAR (qx 2 rfl) (qw 0 rfl)) (zAR (qx 3 rfl) (qw 1 rfl)))) (fun _=>rfl)))),?_⟩
  refine ⟨_,rfl,_,rfl,p,r,rfl,⟨_,SqL.of hp⟩,⟨_,SqL.of hv⟩,fun D hD=>?_⟩;have hm:(zR a u b v).length=u.length:=zg rfl hl.symm;refine zV u.length (fun i ys H'=>i<=u.length/\ys=((zR a u b v).take i).map V.int/\zC H H'/\H' D=some (.lst ys)) ⟨zSU _,by simp,zC.upd hD,zB⟩ (by rw [zSQ];omega) ?_ ?_ ?_
  ·rintro i ys H' hi ⟨_,rfl,s1,e1⟩;refine ⟨by simp;omega,e1,fun h=>⟨_,_,_,_,SqL.of (hp.same s1),SqL.of (hv.same s1),zZ h,zZ (by omega)⟩,fun h=>⟨_,_,SqL.of (hp.same s1),SqL.of (hv.same s1),.inl (by simp;omega)⟩⟩
  ·rintro i ys H' x H'' hi ⟨_,rfl,s1,e1⟩ ⟨t,x1,y1,hx,hy,ht,rfl,rfl⟩ pre hpre;obtain ⟨p0,p1,rfl⟩:=zi hpre;have hx':=hx _ (SqL.of (hp.same s1));have hy':=hy _ (SqL.of (hv.same s1));rw [zZ hi] at hx';rw [zZ (show i<v.length by omega)] at hy';cases hx';cases hy';have st:=zC.upd ht (o:= .tup [.int (zA u i),.int (zA v i)]);refine ⟨t,_,rfl,SqT.of zB,rfl,_,_,rfl,_,_,rfl,rfl,⟨[some (.int (zA u i)),some (.int (zA v i))],rfl,rfl⟩,zm ?_⟩;refine ⟨_,rfl,_,rfl,_,_,rfl,rfl,⟨yg ba (by decide),yg (bu i) (by decide)⟩,_,rfl,_,rfl,_,_,rfl,rfl,⟨yg bb (by decide),yg (bv i) (by decide)⟩,_,_,rfl,rfl,st _ _ e1,hi,?_,zC.store (s1.trans st) hD,zB⟩;rw [zCA (by rw [hm];exact hi),yo hl,zSb];rfl
  ·rintro ys H' ⟨_,rfl,s1,e1⟩;refine q _ _ s1 hD ?_;show H' D=_;rw [e1,List.take_of_length_le (by rw [hm];exact zSJ _)]
def zEZ:Sp:=fun vs H Q _=> ∃(p:Addr) (e:Vec),vs= [.ref p] /\LI H p e/\e.length<=1000/\ ∀l H',zC H H'->MkL H' l (zCk e)->Q (.ref l) H'
theorem zOK:FnScope ["vector"] ["vector"] (zG zDC):=⟨rfl,rfl,rfl,by decide+kernel,rfl,by decide+kernel,by decide+kernel⟩
def zCC(e:Vec)(i:Nat):List Mk2:=((List.range i).map fun i=>(i,zA e i)).filter fun p=>p.2 !=0
theorem zEF(e:Vec)(i:Nat):zCC e (i+1)=zCC e i++(if zA e i=0 then [] else [(i,zA e i)]):=by
 unfold zCC;rw [List.range_succ,zSb,zTK];congr 1;by_cases h:zA e i=0
 ·simp [h]
 ·simp [h]
theorem zEj(e:Vec)(i:Nat):(zCC e i).length<=i:=by
 have:=zTO (fun p:Mk2=>p.2 !=0) ((List.range i).map fun i=>(i,zA e i));simpa [zCC] using this
theorem zMh{f:Addr}{fd:FuncData}(F:Fun K "marks_of" "marks_of" zDC f fd)(B:Bn mg):FnOk P w K mg base CX0 1 f fd ["vector"] zEZ:=by
 refine F.ok zOK (fun vs H Q E h=>?_) (fun cdv A outer s H vs Q E hr h=>?_)
 ·obtain ⟨p,e,rfl,_⟩:=h;rfl
 ·obtain ⟨p,e,rfl,hp,hn,q⟩:=h;refine ⟨_,QB.out (zH
   (zO (zj (cl:= []) ["place","number"] [] [] rfl (zHW (K:=K) rfl rfl B.enumerate (qc (qw 0 rfl) zD rfl) rfl) rfl (by decide+kernel) rfl (by decide+kernel) (fun _ _ h=>nomatch h) rfl (fun j y i h=>nomatch h) (zQ rfl) (fun _ _ _ _=>(zBO (K:=K) (n:=2) rfl rfl (yK (zM 0 (show (["place","number"] :List Str).Nodup by decide+kernel) rfl (.inl rfl) (.inr rfl)) (yK (zM 1 (show (["place","number"] :List Str).Nodup by decide+kernel) rfl (.inl rfl) (.inr rfl)) zBW rfl) rfl) rfl rfl)) (fun _ _ _ _=>(zCP (zU yy (qw 1 rfl) zF rfl))) (fun _ _ _ _=>(zBw (qc (qw 0 rfl) (qc (qw 1 rfl) zD rfl) rfl))) (fun _=>rfl)))),?_⟩
  refine ⟨_,rfl,p,rfl,⟨_,SqL.of hp⟩,fun D hD=>?_⟩;refine zV e.length (fun i ys H'=> ∃ts:List Addr,i<=e.length/\ys=ts.map V.ref/\MkA H' ts (zCC e i)/\zC H H'/\H' D=some (.lst ys)) ⟨[],zSU _,rfl,.nil,zC.upd hD,zB⟩ (by rw [zSQ];omega) ?_ ?_ ?_
  ·rintro i ys H' hi ⟨ts,_,rfl,hm,s1,e1⟩;have:=Paired.len hm;have:=zEj e i;refine ⟨by simp;omega,e1,fun h=>⟨_,_,SqL.of (hp.same s1),zZ h⟩,fun h=>⟨_,SqL.of (hp.same s1),by simp;omega⟩⟩
  ·rintro i ys H' x H'' hi ⟨ts,_,rfl,hm,s1,e1⟩ ⟨t,y,hy,ht,rfl,rfl⟩ pre hpre;obtain ⟨p0,p1,rfl⟩:=zi hpre;have hy':=hy _ (SqL.of (hp.same s1));rw [zZ hi] at hy';cases hy';have st:=zC.upd ht (o:= .tup [.int (i:Int),.int (zA e i)]);refine ⟨t,_,rfl,SqT.of zB,rfl,_,_,rfl,_,_,rfl,rfl,⟨[some (.int (i:Int)),some (.int (zA e i))],rfl,rfl⟩,?_⟩;refine ⟨_,rfl,rfl,_,rfl,?_⟩;refine yk (fun c=>?_) (fun c=>?_)
   ·have hne: ¬zA e i=0:=fun z=>by rw [z] at c;simp at c
    refine ⟨_,rfl,_,rfl,by show 2<=sizeLine;decide,fun t2 ht2=>⟨?_,ts++ [t2],hi,by simp,?_,?_,zB⟩⟩
    ·exact zC.upd ht2 _ _ (st _ _ e1)
    ·rw [zEF,if_neg hne];have st2:=st.trans (zC.upd ht2 (o:= .tup [.int (i:Int),.int (zA e i)]));have hDt:t2≠D:=fun z=>by rw [z,st _ _ e1] at ht2;cases ht2
     refine Paired.snoc' (Paired.mapP hm fun a m ea=>?_) ?_
     ·have:=st2 _ _ ea;rw [zI fun z=>by rw [z] at this;have z2:=zC.upd ht2 (o:= .tup [.int (i:Int),.int (zA e i)]) _ _ (st _ _ e1);rw [z2] at this;cases this];exact this
     ·rw [zI hDt];exact zB
    ·exact zC.store ((s1.trans st).trans (zC.upd ht2)) hD
   ·have hz:zA e i=0:=by simpa using c
    refine ⟨ts,hi,rfl,?_,s1.trans st,st _ _ e1⟩;rw [zEF,if_pos hz,zSg];exact MkA.same hm st
  ·rintro ys H' ⟨ts,_,rfl,hm,s1,e1⟩;exact q _ _ s1 ⟨ts,e1,hm⟩
theorem zIN: ∀(e:Vec) (x:Fn),dt x e=((List.range e.length).map fun i=>x i*zA e i).sum
 | [],_=>rfl
 | c::e,x=>by
  simp only [dt];rw [zIN e,zTH,List.range_succ_eq_map,zTD,List.sum_cons,List.map_map,zBZ];congr 2
theorem zMu(e:Vec)(x:Fn):((zCk e).map fun p=>x p.1*p.2).sum=dt x e:=by
 rw [zIN];unfold zCk;generalize List.range e.length=l
 induction l with
 | nil=>rfl
 | cons i l ih=>
  rw [zTD,zTD,List.sum_cons];by_cases h:zA e i=0
  ·rw [List.filter_cons_of_neg (by simp [h]),ih,h];simp
  ·rw [List.filter_cons_of_pos (by simp [h]),zTD,List.sum_cons,ih]
theorem zLO{e:Vec}{p:Mk2}(h:p∈zCk e):p.1<e.length/\p.2=zA e p.1:=by
 obtain ⟨h1,_⟩:=zTM.mp h;obtain ⟨i,hi,rfl⟩:=zTF.mp h1;exact ⟨by simpa using hi,rfl⟩
theorem zKp(e:Vec):(zCk e).length<=e.length:=zEj e e.length
def zCz:Sp:=fun vs H Q _=> ∃(p m:Addr) (v e:Vec),vs= [.ref p,.ref m] /\LI H p v/\MkL H m (zCk e)/\e.length<=v.length/\v.length<=1000/\Bts 50000000 v/\Bts 50000000 e/\ ∀H',zC H H'->Q (.int (dt (zA v) e)) H'
theorem zOc:FnScope ["vector","marks"] ["vector","marks"] (zG zCJ):=⟨rfl,rfl,rfl,by decide+kernel,rfl,by decide+kernel,by decide+kernel⟩
theorem zHy{f:Addr}{fd:FuncData}(F:Fun K "reach_of" "reach_of" zCJ f fd)(B:Bn mg):FnOk P w K mg base CX0 1 f fd ["vector","marks"] zCz:=by
 refine F.ok zOc (fun vs H Q E h=>?_) (fun cdv A outer s H vs Q E hr h=>?_)
 ·obtain ⟨p,m,v,e,rfl,_⟩:=h;rfl
 ·obtain ⟨p,m,v,e,rfl,hp,⟨ts,em,hm⟩,hl,hn,bv,be,q⟩:=h;have lm:=Paired.len hm;have lk:=zKp e;refine ⟨_,QB.out (zH
   (zO (zt (zIH (K:=K) rfl rfl) rfl B.sum zLa (qc (zj ["place","number"] ["vector"] [0] rfl (zn (K:=K) rfl (qw 1 rfl)) rfl (by decide+kernel) rfl (by decide+kernel) (zc rfl lk0) rfl (fr1 ⟨rfl,rfl,rfl,_,rfl,rfl⟩) (zQ rfl) (fun _ _ _ _=>(zBO (K:=K) (n:=2) rfl rfl (yK (zM 0 (show (["place","number","vector"] :List Str).Nodup by decide+kernel) rfl (.inl rfl) (.inr rfl)) (yK (zM 1 (show (["place","number","vector"] :List Str).Nodup by decide+kernel) rfl (.inl rfl) (.inr rfl)) zBW rfl) rfl) rfl rfl)) (fun _ _ _ _=>zo) (fun _ _ _ _=>(zAR (yw (K:=K) rfl (qx 2 rfl) (qw 0 rfl) (fun _ _=>rfl)) (qw 1 rfl))) (fun _=>rfl)) zD rfl) rfl))),?_⟩
  refine ⟨_,rfl,m,rfl,⟨_,SqL.of em⟩,fun D hD=>?_⟩;refine zV ts.length (fun i ys H'=>i<=ts.length/\ys=(((zCk e).take i).map fun p=>zA v p.1*p.2).map V.int/\zC H H'/\H' D=some (.lst ys)) ⟨zSU _,by simp,zC.upd hD,zB⟩ (by rw [zSQ];omega) ?_ ?_ ?_
  ·rintro i ys H' hi ⟨_,rfl,s1,e1⟩;refine ⟨by simp;omega,e1,fun h=>⟨_,_,SqL.of (s1 _ _ em),zSF (by simpa using h)⟩,fun h=>⟨_,SqL.of (s1 _ _ em),by simp;omega⟩⟩
  ·rintro i ys H' x H'' hi ⟨_,rfl,s1,e1⟩ ⟨rfl,hx⟩ pre hpre;obtain ⟨p0,p1,rfl⟩:=zi hpre;have hx':=hx _ (SqL.of (s1 _ _ em));rw [zSK,zSF hi] at hx';cases hx';obtain ⟨mk,emk,et⟩:=Paired.get' hm (zSF hi);obtain ⟨m1,m2⟩:=zLO (zSj emk);have b2:Bt 50000000 mk.2:=by rw [m2];exact be _
   refine ⟨ts[i],_,rfl,SqT.of (s1 _ _ et),rfl,_,_,rfl,_,_,rfl,rfl,⟨[some (.int (mk.1:Int)),some (.int mk.2)],rfl,rfl⟩,zm ?_⟩;refine ⟨_,rfl,_,rfl,p,_,_,_,rfl,rfl,SqL.of (hp.same s1),yf (zZ (show mk.1<v.length by omega)),_,rfl,_,_,rfl,rfl,⟨yg (bv _) (by decide),yg b2 (by decide)⟩,e1,hi,?_,zC.store s1 hD,zB⟩;rw [zSc,emk];simp
  ·rintro ys H' ⟨_,rfl,s1,e1⟩;refine ⟨D,_,rfl,SqL.of e1,?_⟩;rw [lm,zSe,zMu];exact q _ s1
theorem zGa(a:Int){b:Int}(h:0<b):(a/b).natAbs<=a.natAbs:=by
 have h1:=Int.emod_def a b;have h2:=zSX a (b:=b) (by omega);have h3:=zSR a h;rcases Int.lt_or_le a 0 with z | z
 ·have k1:a/b<0:=Int.ediv_lt_of_lt_mul h (by omega);have k2:a<=a/b:=by
   rcases Int.lt_or_le (a/b) a with y | y
   ·have k3:=Int.mul_le_mul_of_nonneg_left (show a/b<=a - 1 by omega) (Int.le_of_lt h);have k4:=Int.mul_le_mul_of_nonpos_right (show 1<=b by omega) (show a<=0 by omega);rw [Int.mul_sub,Int.mul_one] at k3;omega
   ·exact y
  omega
 ·have k1:0<=a/b:=Int.ediv_nonneg z (Int.le_of_lt h);have k2:a/b<=a:=Int.ediv_le_self _ z;omega
theorem Bt.div{k:Nat}{a b:Int}(h:Bt k a)(hb:0<b):Bt k (a/b):=h.le (zGa a hb)
def zNY:Sp:=fun vs H Q _=> ∃(a b:Int),vs= [.int a,.int b] /\0<b/\Bt 25000000 a/\Bt 25000000 b/\ ∀t H',zC H H'->H' t=some (.tup [.int (yI a b).1,.int (yI a b).2.1,.int (yI a b).2.2])->Q (.ref t) H'
theorem zAv:FnScope ["one","other","greater","lesser","factor","factor_behind","times","rest","factor_ahead","least"] ["one","other"] (zG zGO):=⟨rfl,rfl,rfl,by decide+kernel,rfl,by decide+kernel,by decide+kernel⟩
theorem zOg{g l f fb:Int}(h:0<l):egl g l f fb=egl l (g - g/l*l) fb (f - g/l*fb):=by
 rw [egl,dif_pos h]
theorem zMJ{g f fb:Int}:egl g 0 f fb=(g,f):=by
 rw [egl,dif_neg (by decide)]
structure Eg(b g l f fb:Int):Prop where
 g0:0<g
 l0:0<=l
 gb:g<=b
 lb:l<=b
 s:f.natAbs*l.natAbs+fb.natAbs*g.natAbs<=b.natAbs
theorem Eg.step{b g l f fb:Int}(I:Eg b g l f fb)(h:0<l):Eg b l (g - g/l*l) fb (f - g/l*fb)/\(g - g/l*l).toNat<l.toNat/\(g/l).natAbs<=b.natAbs/\fb.natAbs<=b.natAbs:=by
 have e:=Int.emod_def g l;have e':g - g/l*l=g % l:=by rw [e,Int.mul_comm]
 have n2:=zSR g h;have n1:=zSX g (b:=l) (by omega);have q0:0<=g/l:=Int.ediv_nonneg (Int.le_of_lt I.g0) (Int.le_of_lt h);have q1:g/l<=g:=Int.ediv_le_self _ (Int.le_of_lt I.g0);have gb:=I.gb;have fbb:fb.natAbs<=b.natAbs:=by
  have h1:=I.s;have h2:fb.natAbs*1<=fb.natAbs*g.natAbs:=zSt _ (by have:=I.g0;omega);omega
 refine ⟨⟨h,by rw [e'];exact n1,I.lb,by rw [e'];have:=I.lb;omega,?_⟩,by rw [e'];omega,by omega,fbb⟩;rw [e'];have t1:(f - g/l*fb).natAbs<=f.natAbs+(g/l).natAbs*fb.natAbs:=by
  have:=Int.natAbs_sub_le f (g/l*fb);rw [Int.natAbs_mul] at this;exact this
 have t2:g.natAbs=(g % l).natAbs+(g/l).natAbs*l.natAbs:=by
  have:g=g % l+g/l*l:=by rw [e];grind
  have h3:(g/l*l).natAbs=(g/l).natAbs*l.natAbs:=Int.natAbs_mul _ _;have h4:0<=g/l*l:=Int.mul_nonneg q0 (Int.le_of_lt h);omega
 have s:=I.s;have m1:(f - g/l*fb).natAbs*l.natAbs<=(f.natAbs+(g/l).natAbs*fb.natAbs)*l.natAbs:=Nat.mul_le_mul_right _ t1;generalize (g/l).natAbs=Q at*;generalize (g % l).natAbs=R at*;generalize f.natAbs=F at*;generalize fb.natAbs=G at*;generalize l.natAbs=L at*;generalize g.natAbs=N at*;subst t2;have:F*L+G*(R+Q*L)=G*R+(F+Q*G)*L:=by grind
 omega
theorem zPw{f:Addr}{fd:FuncData}(F:Fun K "divisor_of" "divisor_of" zGO f fd)(ht:P.given.tree=none):FnOk P w K mg base CX0 34 f fd ["one","other"] zNY:=by
 refine F.ok zAv (fun vs H Q E h=>?_) (fun cdv A outer s H vs Q E hr h=>?_)
 ·obtain ⟨a,b,rfl,_⟩:=h;rfl
 ·obtain ⟨a,b,rfl,hb,za,zb,q⟩:=h;have deep:DeepE (zAZ CX0 P w K mg base ["one","other","greater","lesser","factor","factor_behind","times","rest","factor_ahead","least"] "divisor_of" (zG zGO) f cdv A outer s H E):=zBb hr (by decide) ht rfl rfl;have ok: ∀x:Int,x.natAbs<=b.natAbs->Sz 60000000 x:=fun x hx=>yg (zb.le hx) (by decide);refine ⟨_,QB.out (zE
   (zT 2 zAv.nd rfl (qw 1 rfl) rfl) (zE
   (zT 3 zAv.nd rfl (yY (qw 0 rfl) (qw 1 rfl)) rfl) (zE
   (zT 4 zAv.nd rfl zF rfl) (zE
   (zT 5 zAv.nd rfl zF rfl) (zE
   (zOL PassesOwn.never (zU zAb (qw 3 rfl) zF rfl) (zE
    (zT 6 zAv.nd rfl (zAL (deep.up rfl rfl rfl) (qw 2 rfl) (qw 3 rfl)) rfl) (zE
    (zT 7 zAv.nd rfl (zES (qw 2 rfl) (zAR (qw 6 rfl) (qw 3 rfl))) rfl) (zE
    (zT 2 zAv.nd rfl (qw 3 rfl) rfl) (zE
    (zT 3 zAv.nd rfl (qw 7 rfl) rfl) (zE
    (zT 8 zAv.nd rfl (qw 4 rfl) rfl) (zE
    (zT 4 zAv.nd rfl (qw 5 rfl) rfl) (zH
    (zT 5 zAv.nd rfl (zES (qw 8 rfl) (zAR (qw 6 rfl) (qw 4 rfl))) rfl))))))))) (zE
   (zT 9 zAv.nd rfl (yY (qw 4 rfl) (zAL (deep.up rfl rfl rfl) (qw 1 rfl) (qw 2 rfl))) rfl) (zH
   (zO (zBw (qc (qw 2 rfl) (qc (qw 9 rfl) (qc (zAL (deep.up rfl rfl rfl) (zES (qw 2 rfl) (zAR (qw 9 rfl) (qw 0 rfl))) (qw 1 rfl)) zD rfl) rfl) rfl)))))))))),?_⟩
  refine ⟨_,rfl,_,rfl,_,rfl,_,_,rfl,rfl,hb,?_⟩;have n2:=zSR a hb;have n1:=zSX a (b:=b) (by omega);refine zHp (fun σ H'=>H'=H/\ ∃(g l f fb:Int) (r1 r2 r3:Option V),σ= [some (.int a),some (.int b),some (.int g),some (.int l),some (.int f),some (.int fb),r1,r2,r3,none] /\Eg b g l f fb/\egl g l f fb=egl b (a % b) 0 1)
   (fun (σ:L2.St) _=>match σ[3]? with | some (some (V.int l))=>l.toNat | _=>0) ⟨rfl,b,a % b,0,1,none,none,none,rfl,⟨hb,n1,Int.le_refl b,by omega,by simp⟩,rfl⟩ ?_ ?_
  ·rintro σ H' ⟨rfl,g,l,f,fb,r1,r2,r3,rfl,I,e⟩;refine ⟨_,rfl,_,_,rfl,rfl,_,rfl,?_⟩;refine yk (fun z=>?_) (fun z=>?_)
   ·have hp:0<l:=by simpa using z
    obtain ⟨I',mu,t1,t2⟩:=I.step hp;have bl:l.natAbs<=b.natAbs:=by have:=I.lb;omega
    refine ⟨_,rfl,_,rfl,_,_,rfl,rfl,hp,_,rfl,_,rfl,_,rfl,_,_,rfl,rfl,⟨ok _ t1,ok _ bl⟩,_,_,rfl,rfl,_,rfl,_,rfl,_,rfl,_,rfl,_,rfl,_,rfl,_,rfl,_,_,rfl,rfl,⟨ok _ t1,ok _ t2⟩,_,_,rfl,rfl,⟨rfl,l,_,fb,_,_,_,_,rfl,I',?_⟩,mu⟩;rw [<-e,zOg hp]
   ·have hz:l=0:=by
     have: ¬0<l:=by simpa using z
     have:=I.l0;omega
    subst hz;rw [zMJ] at e;have D:=zAl (one:=a) hb;have e1:(yI a b).1=g:=by show (egl b (a % b) 0 1).1=g;rw [<-e]
    have e2:(yI a b).2.1=f %(b/g):=by show (egl b (a % b) 0 1).2 %(b/(egl b (a % b) 0 1).1)=_;rw [<-e]
    have e3:(yI a b).2.2=(g - f %(b/g)*a)/b:=by show ((egl b (a % b) 0 1).1 -(egl b (a % b) 0 1).2 %(b/(egl b (a % b) 0 1).1)*a)/b=_;rw [<-e]
    rw [e1,e2] at D;obtain ⟨g0,_,_,_,l0,l1,w0⟩:=D;have bl:(f %(b/g)).natAbs<=b.natAbs:=by
     have:b/g<=b:=Int.ediv_le_self _ (Int.le_of_lt hb);omega
    rw [e1,e2,e3] at q;refine ⟨_,rfl,_,rfl,_,rfl,_,_,rfl,rfl,g0,_,_,rfl,rfl,w0,?_⟩;refine ⟨_,rfl,_,rfl,_,rfl,_,rfl,_,rfl,_,_,rfl,rfl,⟨ok _ bl,yg za (by decide)⟩,_,_,rfl,rfl,_,rfl,_,_,rfl,rfl,hb,by show 3<=sizeLine;decide,fun t ht=>?_⟩;exact q t _ (zC.upd ht) zB
  ·rintro σ H' R R' hR ⟨v,e1,i,j,e2,e3,k,e4,q'⟩;exact ⟨v,e1,i,j,e2,e3,k,e4,hR _ _ q'⟩
structure SC(K:zSy)(C:Addr):Prop where
 cl:Cls K C
 n1:yt K C "place"
 n2:yt K C "vector"
theorem zDy: ∀(S:List Stp) (r:Vec) (p:Nat) (v:Vec),zl r (S++ [(p,v)])=zR 1 (zl r S) (-(zA (zl r S) p/zA v p)) v
 | [],_,_,_=>rfl
 |(q,u)::S,r,p,v=>zDy S (zR 1 r (-(zA r q/zA u q)) u) p v
theorem zKa{u v:Vec}(h:u.length=v.length):zR 1 u 0 v=u:=zQs (zg rfl h.symm) fun i=>by rw [yo h];omega
theorem zDf{n:Nat}: ∀{S:List Stp} {r:Vec},r.length=n->(∀q∈S,q.2.length=n)->(zl r S).length=n
 | [],_,h,_=>h
 |(p,v)::S,r,h,hs=>zDf (S:=S) (zg h (hs (p,v) (by simp))) fun q hq=>hs q (by simp [hq])
theorem zJA{n R W:Nat}: ∀{S:List Stp} {r:Vec},r.length=n->(∀q∈S,q.2.length=n/\0<zA q.2 q.1/\Bts W q.2)->Bts R r->Bts (R+S.length*(W+1)) (zl r S)
 | [],_,_,_,h=>h.mono (by omega)
 |(p,v)::S,r,hl,hs,h=>by
  obtain ⟨h1,h2,h3⟩:=hs (p,v) (by simp);simp only at h1 h2 h3;have hm:Bts (R+W+1) (zR 1 r (-(zA r p/zA v p)) v):=fun i=>by
   rw [yo (by omega),Int.one_mul];exact Bt.add ((h i).mono (by omega)) ((Bt.div (h p) h2).neg.mul (h3 i))
  have:=zJA (S:=S) (W:=W) (zg hl h1) (fun q hq=>hs q (by simp [hq])) hm;refine Bts.mono this ?_;rw [zTH,Nat.succ_mul];omega
def zFl(C:Addr):Sp:=fun vs H Q _=> ∃(r l:Addr) (v:Vec) (S:List Stp) (n R W:Nat),vs= [.ref r,.ref l] /\LI H r v/\StL C H l S/\v.length=n/\n<=1000/\S.length<=1000/\(∀q∈S,q.2.length=n/\q.1<n/\0<zA q.2 q.1/\Bts W q.2)/\Bts R v/\R+S.length*(W+1)+W<=50000000/\
 ∀l' H',zC H H'->LI H' l' (zl v S)->Q (.ref l') H'
theorem zED:FnScope ["vector","steps","rest","step","times"] ["vector","steps"] (zG zDc):=⟨rfl,rfl,rfl,by decide+kernel,rfl,by decide+kernel,by decide+kernel⟩
theorem zJa{f fM C:Addr}{fd fdM:FuncData}(F:Fun K "lessened" "lessened" zDc f fd)(B:Bn mg)(ht:P.given.tree=none)(T:SC K C)
  (FM:Fun K "mixed" "mixed" zBk fM fdM) (bM:zK K fdM ["factor","one","other_factor","other"] []) (mM:mg "mixed" =some (.ref fM)):FnOk P w K mg base CX0 34 f fd ["vector","steps"] (zFl C):=by
 have GM:FnOk P w K mg base CX0 1 fM fdM ["factor","one","other_factor","other"] zBx:=zEu FM B;refine F.ok zED (fun vs H Q E h=>?_) (fun cdv A outer s H vs Q E hr h=>?_)
 ·obtain ⟨r,l,v,S,n,R,W,rfl,_⟩:=h;rfl
 ·obtain ⟨r,l,v,S,n,R,W,rfl,hv,⟨os,el,hs⟩,hn,hn0,hS,hq,bR,hz,q⟩:=h;have deep:DeepE (zAZ CX0 P w K mg base ["vector","steps","rest","step","times"] "lessened" (zG zDc) f cdv A outer s H E):=zBb hr (by decide) ht rfl rfl;have hr1:Room 1 _:=hr.mono (by decide);have lS:=Paired.len hs;refine ⟨_,QB.out (zE
   (zT 2 zED.nd rfl (qw 0 rfl) rfl) (zE
   (zAd PassesOwn.never rfl (zn (K:=K) rfl (qw 1 rfl)) (zM 3 zED.nd rfl (Or.inl rfl) (.inr rfl)) (zE
    (zT 4 zED.nd rfl (zAL (deep.up rfl rfl rfl) (yw (K:=K) rfl (qw 2 rfl) (zu (K:=K) rfl (qw 3 rfl) rfl) (fun _ _=>rfl)) (yw (K:=K) rfl (zu (K:=K) rfl (qw 3 rfl) rfl) (zu (K:=K) rfl (qw 3 rfl) rfl) (fun _ _=>rfl))) rfl) (zH
    (zq (zU yy (qw 4 rfl) zF rfl) (zH
     (zT 2 zED.nd rfl (zJ GM hr1 rfl mM FM.kp bM .nil zL (qc zF (qc (qw 2 rfl) (qc (zDW (qw 4 rfl)) (qc (zu (K:=K) rfl (qw 3 rfl) rfl) zD rfl) rfl) rfl) rfl) rfl rfl rfl) rfl)) zf))) (fun _=>rfl)) (zH
   (zO (qw 2 rfl))))),?_⟩
  refine ⟨_,rfl,_,rfl,l,rfl,⟨_,SqL.of el⟩,?_⟩;refine zAH S.length (fun i σ H'=> ∃(rr:Addr) (sv tv:Option V),σ= [some (.ref r),some (.ref l),some (.ref rr),sv,tv] /\i<=S.length/\zC H H'/\LI H' rr (zl v (S.take i))) ⟨r,none,none,rfl,zSU _,zC.refl H,hv⟩ ?_ ?_ ?_ ?_
  ·rintro i σ H' hi ⟨rr,sv,tv,rfl,_,s1,hl⟩;exact ⟨_,_,SqL.of (s1 _ _ el),zSF (by simp;omega)⟩
  ·rintro σ H' ⟨rr,sv,tv,rfl,_,s1,hl⟩;exact ⟨_,SqL.of (s1 _ _ el),by simp;omega⟩
  ·rintro i σ H' x H'' hi ⟨rr,sv,tv,rfl,_,s1,hl⟩ ⟨rfl,hx⟩;have hx':=hx _ (SqL.of (s1 _ _ el));rw [zSK,zSF (show i<os.length by omega)] at hx';cases hx';obtain ⟨⟨p,u⟩,eS,⟨dx,a,ho,hu⟩⟩:=Paired.get' hs (zSF (show i<os.length by omega));obtain ⟨u1,u2,u3,u4⟩:=hq (p,u) (zSj eS);simp only at u1 u2 u3 u4;have eT:S.take (i+1)=S.take i++ [(p,u)] :=by rw [zSc,eS];rfl
   have hmem: ∀q∈S.take i,q.2.length=n/\0<zA q.2 q.1/\Bts W q.2:=fun q hm=>let ⟨z1,_,z3,z4⟩:=hq q (List.mem_of_mem_take hm);⟨z1,z3,z4⟩;have ll:(zl v (S.take i)).length=n:=zDf hn fun q hm=>(hmem q hm).1;have lb:=zJA (S:=S.take i) (W:=W) hn hmem bR;have lz:R+(S.take i).length*(W+1)<=R+S.length*(W+1):=Nat.add_le_add_left (Nat.mul_le_mul_right _ (by simp;omega)) R;generalize hL:zl v (S.take i)=L at hl ll lb;have b1:Bts 50000000 L:=lb.mono (by omega);have ho1:=s1 _ _ ho;have hu1:=hu.same s1;refine ⟨_,rfl,_,rfl,os[i],C,dx,_,_,rfl,ho1,T.cl,T.n1,rfl,rr,_,_,_,rfl,rfl,SqL.of hl,yf (zZ (show p<L.length by omega)),_,rfl,os[i],C,dx,_,_,rfl,ho1,T.cl,T.n2,rfl,_,rfl,os[i],C,dx,_,_,rfl,ho1,T.cl,T.n1,rfl,a,_,_,_,rfl,rfl,SqL.of hu1,yf (zZ (show p<u.length by omega)),_,_,rfl,rfl,u3,?_⟩;refine ⟨_,rfl,rfl,_,rfl,?_⟩;refine yk (fun c=>?_) (fun c=>?_)
   ·refine ⟨_,rfl,_,rfl,_,rfl,_,rfl,os[i],C,dx,_,_,rfl,ho1,T.cl,T.n2,rfl,1,-(zA L p/zA u p),rr,a,L,u,rfl,hl,hu1,by omega,by omega,Bt.one,(Bt.div (b1 p) u3).neg,b1,u4.mono (by omega),fun l' H2 s2 _ h2=>?_⟩;refine ⟨l',_,_,rfl,hi,s1.trans s2,?_⟩;rw [eT,zDy,hL];exact h2
   ·refine ⟨rr,_,_,rfl,hi,s1,?_⟩;have hz:zA L p/zA u p=0:=by simpa using c
    rw [eT,zDy,hL,hz];show LI H'' rr (zR 1 L (-0) u);rw [Int.neg_zero,zKa (by omega)];exact hl
  ·rintro σ H' ⟨rr,sv,tv,rfl,_,s1,hl⟩;refine ⟨_,rfl,?_⟩;rw [zSe] at hl;exact q _ _ s1 hl
def yp(vs:List Vec)(n:Nat):List Vec:=(List.range n).map fun i=>vs.map fun v=>zA v i
structure NewL(H0 H:Hp)(r:Addr):Prop where
 new:H0 r=none
 all: ∀as:List Addr,H r=some (.lst (as.map V.ref))-> ∀a∈as,H0 a=none
theorem NewL.mono{H0 H1 H:Hp}{r:Addr}(h:NewL H1 H r)(s:zC H0 H1):NewL H0 H r:=⟨zC.none s h.new,fun as e a ha=>zC.none s (h.all as e a ha)⟩
theorem NewL.same{H0 H H':Hp}{r:Addr}{R:List Vec}(h:NewL H0 H r)(hr:LL H r R)(s:zC H H'):NewL H0 H' r:=by
 obtain ⟨rs,e,_⟩:=hr;refine ⟨h.new,fun as e' a ha=>h.all as ?_ a ha⟩;rw [s _ _ e] at e';rw [e,e']
theorem zIA: ∀{as bs:List Addr},as.map V.ref=bs.map V.ref->as=bs
 | [],[],_=>rfl
 | [],_::_,h=>by cases h
 | _::_,[],h=>by cases h
 | a::as,b::bs,h=>by
  rw [zTD,zTD] at h;injection h with h1 h2;injection h1 with h1;rw [h1,zIA h2]
def zHq:Sp:=fun vs H Q _=> ∃(l:Addr) (us:List Vec) (n:Nat),vs= [.ref l,.int (n:Int)] /\LL H l us/\(∀u∈us,u.length=n)/\n<=1000/\us.length<=1000/\ ∀r H',zC H H'->NewL H H' r->LL H' r (yp us n)->Q (.ref r) H'
theorem zPg:FnScope ["vectors","count"] ["vectors","count"] (zG zFi):=⟨rfl,rfl,rfl,by decide+kernel,rfl,by decide+kernel,by decide+kernel⟩
theorem zIn{us:List Vec}{n i:Nat}(h:i<n):(yp us n).take (i+1)=(yp us n).take i++ [us.map fun v=>zA v i] :=by
 rw [zSc];congr 1;simp [yp,h]
theorem zOo{f:Addr}{fd:FuncData}(F:Fun K "rows_of" "rows_of" zFi f fd)(B:Bn mg):FnOk P w K mg base CX0 1 f fd ["vectors","count"] zHq:=by
 refine F.ok zPg (fun vs H Q E h=>?_) (fun cdv A outer s H vs Q E hr h=>?_)
 ·obtain ⟨l,us,n,rfl,_⟩:=h;rfl
 ·obtain ⟨l,us,n,rfl,⟨as,el,ha⟩,hu,hn,hl,q⟩:=h;have la:=Paired.len ha;refine ⟨_,QB.out (zH
   (zO (zOi ["place"] ["vectors"] [0] rfl (zBm rfl B.range (qc (qw 1 rfl) zD rfl) rfl) rfl rfl (by decide+kernel) (zc rfl lk0) rfl (fr1 ⟨rfl,rfl,rfl,_,fun _=>rfl,rfl⟩) (fun _=>zQ rfl) (fun _ _ _ _=>(zM 0 (show (["place","vectors"] :List Str).Nodup by decide+kernel) rfl (.inr rfl) (.inl rfl))) (fun _ _ _ _=>zo) (fun _ _ _ _=>(zj ["vector"] ["place"] [0] rfl (zn (K:=K) rfl (qx 1 rfl)) rfl (by decide+kernel) rfl (by decide+kernel) (zc rfl lk0) rfl (fr1 ⟨rfl,rfl,rfl,_,rfl,rfl⟩) (zQ rfl) (fun _ _ _ _=>(zM 0 (show (["vector","place"] :List Str).Nodup by decide+kernel) rfl (.inl rfl) (.inr rfl))) (fun _ _ _ _=>zo) (fun _ _ _ _=>(yw (K:=K) rfl (qw 0 rfl) (qx 1 rfl) (fun _ _=>rfl))) (fun _=>rfl))) (fun _=>rfl)))),?_⟩
  refine ⟨_,rfl,n,rfl,by omega,by omega,fun D hD=>?_⟩;refine zV n (fun i ys H'=> ∃rs:List Addr,i<=n/\ys=rs.map V.ref/\LIs H' rs ((yp us n).take i)/\rs.length=i/\D∉rs/\(∀a∈rs,H a=none)/\zC H H'/\H' D=some (.lst ys)) ⟨[],zSU _,rfl,by rw [List.take_zero];exact .nil,rfl,by simp,by simp,zC.upd hD,zB⟩ (by rw [zSQ];omega) ?_ ?_ ?_
  ·rintro i ys H' hi ⟨rs,_,rfl,_,hrl,_,_,s1,e1⟩;exact ⟨by simp;omega,e1,fun h=>h,fun h=>Nat.le_of_eq h.symm⟩
  ·rintro i ys H' x H'' hi ⟨rs,_,rfl,hrs,hrl,hnd,hnew,s1,e1⟩ ⟨rfl,rfl⟩ pre hpre;obtain ⟨p0,rfl⟩:=yi hpre;refine ⟨⟨[some (.int ((0:Int)+(i:Int)))],rfl,rfl⟩,zm ?_⟩;refine ⟨_,rfl,l,rfl,⟨_,SqL.of (s1 _ _ el)⟩,fun D2 hD2=>?_⟩;refine zV as.length (fun j ys H2=>j<=as.length/\ys=((us.map fun v=>zA v i).take j).map V.int/\H2=L2.upd H'' D2 (.lst ys)) ⟨zSU _,by simp,rfl⟩ (by rw [zSQ];omega) ?_ ?_ ?_
   ·rintro j ys H2 hj ⟨_,rfl,rfl⟩;have e2:=zC.upd hD2 (o:= .lst (((us.map fun v=>zA v i).take j).map V.int)) _ _ (s1 _ _ el);exact ⟨by simp;omega,zB,fun h=>⟨_,_,SqL.of e2,zSF (by simpa using h)⟩,fun h=>⟨_,SqL.of e2,by simp;omega⟩⟩
   ·rintro j ys H2 x H3 hj ⟨_,rfl,rfl⟩ ⟨rfl,hx⟩ pre hpre;obtain ⟨p1,rfl⟩:=yi hpre;have s2:=s1.trans (zC.upd hD2 (o:= .lst (((us.map fun v=>zA v i).take j).map V.int)));have hx':=hx _ (SqL.of (s2 _ _ el));rw [zSK,zSF hj] at hx';cases hx';obtain ⟨u,eu,hu1⟩:=Paired.get' ha (zSF hj);have lu:=hu u (zSj eu);refine ⟨⟨[some (.ref as[j])],rfl,rfl⟩,zm ?_⟩;refine ⟨_,rfl,_,rfl,as[j],_,_,_,rfl,rfl,SqL.of (hu1.same s2),by rw [Int.zero_add];exact yf (zZ (show i<u.length by omega)),zB,hj,?_,by rw [yM]⟩;rw [zSc,zSK,eu];simp
   ·rintro ys H2 ⟨_,rfl,rfl⟩;have sD:=zC.upd hD2 (o:= .lst (((us.map fun v=>zA v i).take as.length).map V.int));have hne:D2≠D:=fun z=>by rw [z,e1] at hD2;cases hD2
    refine ⟨sD _ _ e1,rs++ [D2],hi,by simp,?_,by simp [hrl],by simp [hnd,Ne.symm hne],fun a ha=>(zTC.mp ha).elim (hnew a) fun h=>by rw [zTE.mp h];exact zC.none s1 hD2,zC.store (s1.trans sD) hD,zB⟩;rw [zIn hi];refine Paired.snoc' (Paired.mapM hrs fun a v hm ea=>?_) ?_
    ·have z:=sD _ _ ea;show L2.upd _ D _ a=_;rw [zI fun haD=>hnd (by rw [<-haD];exact hm)];exact z
    ·show L2.upd _ D _ D2=_;rw [zI hne,zB,la,<-zSM (f:=fun v=>zA v i),zSe]
  ·rintro ys H' ⟨rs,_,rfl,hrs,_,_,hnew,s1,e1⟩;rw [List.take_of_length_le (by simp [yp])] at hrs;exact q _ _ s1 ⟨hD,fun as e a ha=>hnew a (by rw [e] at e1;injection e1 with e1;injection e1 with e1;rw [<-zIA e1];exact ha)⟩ ⟨rs,e1,hrs⟩
def zEI(C:Addr):Sp:=fun vs H Q _=> ∃(x dx:Addr) (p v:V),vs= [.ref x,p,v] /\H x=some (.ins C dx [])/\Q .non (L2.upd H x (.ins C dx [("place",p),("vector",v)]))
theorem zOj:FnScope ["self","place","vector"] ["self","place","vector"] (zG (zy (top 9) 0)):=⟨rfl,rfl,rfl,by decide+kernel,rfl,by decide+kernel,by decide+kernel⟩
theorem zIX{f C:Addr}{fd:FuncData}(F:Fun K "__init__" "Step.__init__" (zy (top 9) 0) f fd)(T:SC K C):FnOk P w K mg base CX0 1 f fd ["self","place","vector"] (zEI C):=by
 refine F.ok zOj (fun vs H Q E h=>?_) (fun cdv A outer s H vs Q E hr h=>?_)
 ·obtain ⟨x,dx,p,v,rfl,_⟩:=h;rfl
 ·obtain ⟨x,dx,p,v,rfl,hx,q⟩:=h;refine ⟨_,QB.out (zE
   (zBN (K:=K) rfl (qw 0 rfl) (qw 1 rfl) rfl) (zH
   (zBN (K:=K) rfl (qw 0 rfl) (qw 2 rfl) rfl))),?_⟩
  refine ⟨_,rfl,_,rfl,x,C,dx,[],rfl,hx,T.cl,T.n1,by show 0<1000;decide,?_⟩;refine ⟨_,rfl,_,rfl,x,C,dx,[("place",p)],rfl,zB,T.cl,T.n2,by show 1<1000;decide,?_⟩;rw [yM];exact q
theorem LI.store{H:Hp}{k a:Addr}{v:Vec}{os:List Addr}{o:HO}(h:LI H a v)(hv:v≠ [])(hk:H k=some (.lst (os.map V.ref))):LI (L2.upd H k o) a v:=by
 unfold LI at*;rw [zI fun z=>?_]
 ·exact h
 ·rw [z,hk] at h;cases v with
  | nil=>exact hv rfl
  | cons x v=>
   cases os with
   | nil=>cases h
   | cons y os=>cases h
theorem StO.store{C:Addr}{H:Hp}{k x:Addr}{q:Stp}{os:List Addr}{o:HO}(h:StO C H x q)(hv:q.2≠ [])(hk:H k=some (.lst (os.map V.ref))):StO C (L2.upd H k o) x q:=by
 obtain ⟨dx,a,e,p⟩:=h;exact ⟨dx,a,by rw [zI fun z=>by rw [z,hk] at e;cases e];exact e,p.store hv hk⟩
theorem StA.store{C:Addr}{H:Hp}{k:Addr}{xs:List Addr}{S:List Stp}{os:List Addr}{o:HO}(h:StA C H xs S)(hv: ∀q∈S,q.2≠ [])(hk:H k=some (.lst (os.map V.ref))):StA C (L2.upd H k o) xs S:=by
 induction h with
 | nil=>exact .nil
 | cons r _ ih=>exact .cons (r.store (hv _ (by simp)) hk) (ih fun q hq=>hv q (by simp [hq]))
theorem zRb{V':Nat}{own r:Int}(hr:0<r)(b1:Bt (2*V'+10) own)(b2:Bt V' r):Bt (3*V'+11) (yI own r).2.2/\Bt V' (yI own r).2.1/\Bt V' (yI own r).1:=by
 obtain ⟨g1,g2,g3,g4,g5,g6,g7⟩:=zAl (one:=own) hr;generalize yI own r=d at*;obtain ⟨g,x,y⟩:=d;simp only at*;have gr:g<=r:=Int.le_of_dvd hr g3;have bg:Bt V' g:=b2.le (by omega);have bx:Bt V' x:=b2.le (by
  have:r/g<=r:=Int.ediv_le_self _ (Int.le_of_lt hr);omega)
 refine ⟨?_,bx,bg⟩;have e:y*r=g+(-x)*own:=by grind
 have b3:Bt (3*V'+11) (y*r):=by
  rw [e];exact Bt.add (bg.mono (by omega)) ((bx.neg.mul b1).mono (by omega))
 refine b3.le ?_;rw [Int.natAbs_mul];exact Nat.le_mul_of_pos_right _ (by omega)
theorem zPB{e:Vec}{p:Nat}{u:Vec}{S:List Stp}(h:dt (zA u) e=0):FrV.part e ((p,u)::S)=((p,u)::(FrV.part e S).1,(FrV.part e S).2):=by simp [FrV.part,h]
theorem zJO{e:Vec}{p:Nat}{u:Vec}{S:List Stp}(h:dt (zA u) e≠0)(h0:(FrV.part e S).2.2=0):FrV.part e ((p,u)::S)=((FrV.part e S).1,(if 0<dt (zA u) e then u else zR (-1) u 0 u),((dt (zA u) e).natAbs:Int)):=by simp [FrV.part,h,h0]
def zBq(e:Vec)(p:Nat)(u:Vec)(S:List Stp):Stp:=(p,zl (zR ((FrV.part e S).2.2/(yI (dt (zA u) e) (FrV.part e S).2.2).1) u (-(dt (zA u) e/(yI (dt (zA u) e) (FrV.part e S).2.2).1)) (FrV.part e S).2.1) (FrV.part e S).1)
theorem zJL{e:Vec}{p:Nat}{u:Vec}{S:List Stp}(h:dt (zA u) e≠0)(h0:(FrV.part e S).2.2≠0)(hl:(yI (dt (zA u) e) (FrV.part e S).2.2).1<(FrV.part e S).2.2):
  FrV.part e ((p,u)::S)=(zBq e p u S::(FrV.part e S).1,zl (zR (yI (dt (zA u) e) (FrV.part e S).2.2).2.1 u (yI (dt (zA u) e) (FrV.part e S).2.2).2.2 (FrV.part e S).2.1) (zBq e p u S::(FrV.part e S).1),(yI (dt (zA u) e) (FrV.part e S).2.2).1):=by
 simp only [FrV.part,if_neg h,if_neg h0,if_pos hl];rfl
theorem zJF{e:Vec}{p:Nat}{u:Vec}{S:List Stp}(h:dt (zA u) e≠0)(h0:(FrV.part e S).2.2≠0)(hl: ¬(yI (dt (zA u) e) (FrV.part e S).2.2).1<(FrV.part e S).2.2):
  FrV.part e ((p,u)::S)=(zBq e p u S::(FrV.part e S).1,(FrV.part e S).2):=by
 simp only [FrV.part,if_neg h,if_neg h0,if_neg hl];rfl
theorem zDU{e:Vec}: ∀(S:List Stp),(FrV.part e S).1.length<=S.length
 | [] =>zSJ _
 |(p,u)::S=>by
  have ih:=zDU (e:=e) S;simp only [FrV.part];split
  ·simp only [zTH];omega
  ·split
   ·simp only [zTH];omega
   ·split<;>(simp only [zTH];omega)
structure RPt(C:Addr)(H0 H:Hp)(t:Addr)(k:List Stp)(vec:Vec)(r:Int):Prop where
 ex: ∃(kl:Addr) (vv:V),H t=some (.tup [.ref kl,vv,.int r])/\H0 kl=none/\StL C H kl k/\(0<r-> ∃va,vv= .ref va/\LI H va vec)
def zHO(C:Addr):Sp:=fun vs H Q _=> ∃(l m:Addr) (S:List Stp) (e:Vec) (n V':Nat),vs= [.ref l,.ref m] /\StL C H l S/\MkL H m (zCk e)/\Ech n S/\e.length=n/\n<=1000/\S.length<=12/\PartOk V' e S/\V'<=2500000/\
 ∀t H',zC H H'->RPt C H H' t (FrV.part e S).1 (FrV.part e S).2.1 (FrV.part e S).2.2->Q (.ref t) H'
theorem zAQ:FnScope ["steps","marks","kept","vector","reach","step","own","found","without"] ["steps","marks"] (zG zET):=⟨rfl,rfl,rfl,by decide+kernel,rfl,by decide+kernel,by decide+kernel⟩
theorem zRx{n:Nat}{S S':List Stp}(h:Ech n S)(k:S'<:+S):Ech n S':=zAt h k
structure PW(C:Addr)(l m:Addr)(tr:List Stp×Vec×Int)(H0:Hp)(σ:L2.St)(H:Hp):Prop where
 ex: ∃(kl:Addr) (vv:V) (os:List Addr) (s5 s6 s7 s8:Option V),σ= [some (.ref l),some (.ref m),some (.ref kl),some vv,some (.int tr.2.2),s5,s6,s7,s8] /\H0 kl=none/\zC H0 H/\H kl=some (.lst (os.map V.ref))/\StA C H os tr.1/\(0<tr.2.2-> ∃va,vv= .ref va/\LI H va tr.2.1)
theorem zPH{f fR fM fD fL fS C:Addr}{fd fdR fdM fdD fdL fdS:FuncData}(F:Fun K "parted" "parted" zET f fd)(B:Bn mg)(ht:P.given.tree=none)(T:SC K C)
  (FR:Fun K "reach_of" "reach_of" zCJ fR fdR) (bR:zK K fdR ["vector","marks"] []) (mR:mg "reach_of" =some (.ref fR))
  (FM:Fun K "mixed" "mixed" zBk fM fdM) (bM:zK K fdM ["factor","one","other_factor","other"] []) (mM:mg "mixed" =some (.ref fM))
  (FD:Fun K "divisor_of" "divisor_of" zGO fD fdD) (bD:zK K fdD ["one","other"] []) (mD:mg "divisor_of" =some (.ref fD))
  (FL:Fun K "lessened" "lessened" zDc fL fdL) (bL:zK K fdL ["vector","steps"] []) (mL:mg "lessened" =some (.ref fL))
  (FS:Fun K "__init__" "Step.__init__" (zy (top 9) 0) fS fdS) (bS:zK K fdS ["self","place","vector"] []) (MS:Mk K C fS) (mS:mg "Step" =some (.ref C)):FnOk P w K mg base CX0 35 f fd ["steps","marks"] (zHO C):=by
 have GR:FnOk P w K mg base CX0 1 fR fdR ["vector","marks"] zCz:=zHy FR B;have GM:FnOk P w K mg base CX0 1 fM fdM ["factor","one","other_factor","other"] zBx:=zEu FM B;have GD:FnOk P w K mg base CX0 34 fD fdD ["one","other"] zNY:=zPw FD ht;have GL:FnOk P w K mg base CX0 34 fL fdL ["vector","steps"] (zFl C):=zJa FL B ht T FM bM mM;have GS:FnOk P w K mg base CX0 1 fS fdS ["self","place","vector"] (zEI C):=zIX FS T;refine F.ok zAQ (fun vs H Q E h=>?_) (fun cdv A outer s H vs Q E hr h=>?_)
 ·obtain ⟨l,m,S,e,n,V',rfl,_⟩:=h;rfl
 ·obtain ⟨l,m,S,e,n,V',rfl,⟨os,el,hs⟩,hm,hE,he,hn0,hS,ok,hV,q⟩:=h;have deep:DeepE (zAZ CX0 P w K mg base ["steps","marks","kept","vector","reach","step","own","found","without"] "parted" (zG zET) f cdv A outer s H E):=zBb hr (by decide) ht rfl rfl;have hr1:Room 1 _:=hr.mono (by decide);have hr2:Room 2 _:=hr.mono (by decide);have hr34:Room 34 _:=hr;have lS:=Paired.len hs;refine ⟨_,QB.out (zE
   (zT 2 zAQ.nd rfl (zAB zD) rfl) (zE
   (zT 3 zAQ.nd rfl zEb rfl) (zE
   (zT 4 zAQ.nd rfl zF rfl) (zE
   (zAd PassesOwn.never rfl (zNn (K:=K) rfl rfl B.reversed (qc (qw 0 rfl) zD rfl) rfl) (zM 5 zAQ.nd rfl (Or.inl rfl) (.inr rfl)) (zE
    (zT 6 zAQ.nd rfl (zJ GR hr1 rfl mR FR.kp bR .nil zL (qc (zu (K:=K) rfl (qw 5 rfl) rfl) (qc (qw 1 rfl) zD rfl) rfl) rfl rfl rfl) rfl) (zH
    (zq (zU yb (qw 6 rfl) zF rfl) (zH
     (ye (zGu (K:=K) rfl (qw 2 rfl) (qw 5 rfl) rfl rfl rfl) rfl)) (zH
     (zq (zU yb (qw 4 rfl) zF rfl) (zE
      (zT 4 zAQ.nd rfl (zt zIF rfl B.abs zLd (qc (qw 6 rfl) zD rfl) rfl) rfl) (zH
      (zT 3 zAQ.nd rfl (zFS (zU zAb (qw 6 rfl) zF rfl) (zu (K:=K) rfl (qw 5 rfl) rfl) (zJ GM hr1 rfl mM FM.kp bM .nil zL (qc (zDW zF) (qc (zu (K:=K) rfl (qw 5 rfl) rfl) (qc zF (qc (zu (K:=K) rfl (qw 5 rfl) rfl) zD rfl) rfl) rfl) rfl) rfl rfl rfl)) rfl))) (zE
      (zT 7 zAQ.nd rfl (zJ GD hr34 rfl mD FD.kp bD .nil zL (qc (qw 6 rfl) (qc (qw 4 rfl) zD rfl) rfl) rfl rfl rfl) rfl) (zE
      (zT 8 zAQ.nd rfl (zJ GM hr1 rfl mM FM.kp bM .nil zL (qc (zAL (deep.up rfl rfl rfl) (qw 4 rfl) (zx (K:=K) rfl (qw 7 rfl) zF (fun _ _=>rfl))) (qc (zu (K:=K) rfl (qw 5 rfl) rfl) (qc (zDW (zAL (deep.up rfl rfl rfl) (qw 6 rfl) (zx (K:=K) rfl (qw 7 rfl) zF (fun _ _=>rfl)))) (qc (qw 3 rfl) zD rfl) rfl) rfl) rfl) rfl rfl rfl) rfl) (zE
      (ye (zGu (K:=K) rfl (qw 2 rfl) (zDk MS GS hr2 rfl mS bS .nil zL (qc (zu (K:=K) rfl (qw 5 rfl) rfl) (qc (zJ GL hr34 rfl mL FL.kp bL .nil zL (qc (qw 8 rfl) (qc (qw 2 rfl) zD rfl) rfl) rfl rfl rfl) zD rfl) rfl) rfl rfl rfl) rfl rfl rfl) rfl) (zH
      (zq (zU zEO (zx (K:=K) rfl (qw 7 rfl) zF (fun _ _=>rfl)) (qw 4 rfl) rfl) (zE
       (zT 4 zAQ.nd rfl (zx (K:=K) rfl (qw 7 rfl) zF (fun _ _=>rfl)) rfl) (zH
       (zT 3 zAQ.nd rfl (zJ GL hr34 rfl mL FL.kp bL .nil zL (qc (zJ GM hr1 rfl mM FM.kp bM .nil zL (qc (zx (K:=K) rfl (qw 7 rfl) zF (fun _ _=>rfl)) (qc (zu (K:=K) rfl (qw 5 rfl) rfl) (qc (zx (K:=K) rfl (qw 7 rfl) zF (fun _ _=>rfl)) (qc (qw 3 rfl) zD rfl) rfl) rfl) rfl) rfl rfl rfl) (qc (qw 2 rfl) zD rfl) rfl) rfl rfl rfl) rfl))) zf)))))))))) (fun _=>rfl)) (zH
   (zO (zBw (qc (qw 2 rfl) (qc (qw 3 rfl) (qc (qw 4 rfl) zD rfl) rfl) rfl)))))))),?_⟩
  refine ⟨bs 0,fun kl hkl=>?_⟩;refine ⟨_,rfl,l,_,rfl,SqL.of (zC.upd hkl _ _ el),?_⟩;refine zAH S.length (fun i σ H'=>i<=S.length/\PW C l m (FrV.part e (S.drop (S.length - i))) H σ H') ⟨zSU _,⟨kl,.non,[],none,none,none,none,by rw [Nat.sub_zero,List.drop_length];rfl,hkl,zC.upd hkl,zB,by rw [Nat.sub_zero,List.drop_length];exact .nil,by rw [Nat.sub_zero,List.drop_length];simp [FrV.part]⟩⟩ ?_ ?_ ?_ ?_
  ·rintro i σ H' hi ⟨_,⟨kl,vv,os',s5,s6,s7,s8,rfl,hk0,s1,ek,hk,hv⟩⟩;exact ⟨by simp;omega,_,_,SqL.of (s1 _ _ el),zSF (by simp;omega)⟩
  ·rintro σ H' ⟨_,_⟩;show (os.map V.ref).length<=S.length;simp;omega
  ·rintro i σ H' x H'' hi ⟨_,⟨kl,vv,os',s5,s6,s7,s8,rfl,hk0,s1,ek,hk,hv⟩⟩ ⟨rfl,hx⟩;have hx':=hx _ (SqL.of (s1 _ _ el));have hlen:(os.map V.ref).length=S.length:=by simp;omega
   rw [hlen] at hx';have hj:S.length - 1 - i<os.length:=by omega
   rw [zSK,zSF hj] at hx';cases hx';obtain ⟨⟨p,u⟩,eS,hso⟩:=Paired.get' hs (zSF hj);generalize os[S.length - 1 - i] =o at hso⊢;have hso':=hso;obtain ⟨dx,a,ho,hu⟩:=hso;have eD:S.drop (S.length -(i+1))=(p,u)::S.drop (S.length - i):=by
    have h1:S.length -(i+1)=S.length - 1 - i:=by omega
    rw [h1,List.drop_eq_getElem_cons (show S.length - 1 - i<S.length by omega)];rw [zSF (show S.length - 1 - i<S.length by omega)] at eS;rw [Option.some.inj eS];congr 2;omega
   have sf:S.drop (S.length -(i+1))<:+S:=List.drop_suffix _ _;have sf0:S.drop (S.length - i)<:+S:=List.drop_suffix _ _;have hE1:=zAt hE sf;have hmemS:(p,u)∈S:=zSj eS;obtain ⟨u1,u2,u3,u4⟩:=hE.mem hmemS;simp only at u1 u2 u3 u4;have bu:=ok.s (p,u) hmemS;have b0:=ok.k _ sf0;have bv:=ok.v _ sf0;have brc:=ok.r _ sf0;have I:=ze (e:=e) (zAt hE sf0);have kle:(FrV.part e (S.drop (S.length - i))).1.length<=12:=by
    have:=zDU (e:=e) (S.drop (S.length - i));rw [List.length_drop] at this;omega
   have lk:=Paired.len hk;generalize hS':S.drop (S.length - i)=S' at*;have hE':Ech n S':=zRx hE sf0;have n1:1<=n:=by omega
   have une:u≠ [] :=fun z=>by rw [z] at u1;simp at u1;omega
   have kne: ∀q∈(FrV.part e S').1,q.2≠ [] :=fun q hq z=>by
    have:=(I.ech.mem hq).1;rw [z] at this;simp at this;omega
   have rle: ∀x:Nat,x<=12->x<sizeLine:=fun x hx=>by rw [zSQ];omega
   have bo:Bt (V'+V'+10) (dt (zA u) e):=zCb e _ 10 (by rw [he];exact zST hn0 (by decide)) bu ok.eq;have eD':S.drop (S.length -(i+1))=(p,u)::S':=eD;have ho1:=s1 _ _ ho;have hu1:=hu.same s1;refine ⟨_,rfl,o,C,dx,_,_,rfl,ho1,T.cl,T.n2,rfl,_,rfl,a,m,u,e,rfl,hu1,hm.same s1,by omega,by omega,bu.mono (by omega),ok.eq.mono (by omega),fun H2 s2=>?_⟩;have s12:=s1.trans s2;replace ho1:=s2 _ _ ho1;replace hu1:=hu1.same s2;replace ek:=s2 _ _ ek;replace hk:=StA.same hk s2;have hso2:StO C H2 o (p,u):=⟨dx,a,ho1,hu1⟩;refine ⟨_,rfl,rfl,_,rfl,?_⟩;refine yk (fun c=>?_) (fun c=>?_)
   ·have c0:dt (zA u) e=0:=by simpa using c
    refine ⟨_,rfl,.inl ⟨rfl,_,SqL.of ek⟩,_,rfl,kl,_,_,rfl,rfl,ek,rle _ (by simp;omega),hi,?_⟩;rw [eD',zPB c0];refine ⟨kl,vv,o::os',_,_,_,_,rfl,hk0,zC.store s12 hk0,zB,.cons (hso2.store une ek) (StA.store hk kne ek),fun hr0=>?_⟩;obtain ⟨va,z1,z2⟩:=hv hr0;exact ⟨va,z1,(z2.same s2).store (fun z=>by have:=I.len hr0;rw [z] at this;simp at this;omega) ek⟩
   ·have c0:dt (zA u) e≠0:=by simpa using c
    refine ⟨_,rfl,rfl,_,rfl,?_⟩;refine yk (fun c=>?_) (fun c=>?_)
    ·have r0:(FrV.part e S').2.2=0:=by simpa using c
     have eab:(if dt (zA u) e<0 then -(dt (zA u) e) else dt (zA u) e)=((dt (zA u) e).natAbs:Int):=by split<;>omega
     refine ⟨_,rfl,_,rfl,_,rfl,_,_,rfl,rfl,_,rfl,?_⟩;refine yk (fun c=>?_) (fun c=>?_)
     ·have c1:0<dt (zA u) e:=by simpa using c
      refine ⟨_,rfl,o,C,dx,_,_,rfl,ho1,T.cl,T.n2,rfl,hi,?_⟩;rw [eD',zJO c0 r0,if_pos c1];exact ⟨kl,.ref a,os',_,_,_,_,by rw [eab];rfl,hk0,s12,ek,hk,fun _=>⟨a,rfl,hu1⟩⟩
     ·have c1: ¬0<dt (zA u) e:=by simpa using c
      refine ⟨_,rfl,_,rfl,o,C,dx,_,_,rfl,ho1,T.cl,T.n2,rfl,_,rfl,o,C,dx,_,_,rfl,ho1,T.cl,T.n2,rfl,-1,0,a,a,u,u,rfl,hu1,hu1,rfl,by omega,Bt.one.neg,Bt.zero,bu.mono (by omega),bu.mono (by omega),fun vl H3 s3 _ hl3=>?_⟩;refine ⟨hi,?_⟩;rw [eD',zJO c0 r0,if_neg c1];exact ⟨kl,.ref vl,os',_,_,_,_,by rw [eab];rfl,hk0,s12.trans s3,s3 _ _ ek,StA.same hk s3,fun _=>⟨vl,rfl,hl3⟩⟩
    ·have r0:(FrV.part e S').2.2≠0:=by simpa using c
     have rp:0<(FrV.part e S').2.2:=by have:=I.r0;omega
     obtain ⟨va,rfl,hva⟩:=hv rp;replace hva:=hva.same s2;have lva:=I.len rp;have vne:(FrV.part e S').2.1≠ [] :=fun z=>by rw [z] at lva;simp at lva;omega
     obtain ⟨g1,g2,g3,g4,g5,g6,g7⟩:=zAl (one:=dt (zA u) e) rp;have bo2:Bt (2*V'+10) (dt (zA u) e):=bo.mono (by omega);obtain ⟨by',bx',bg'⟩:=zRb rp bo2 brc;have hEn:=ze (e:=e) hE1;have bkn:=ok.k _ sf;have lkn:=zDU (e:=e) (S.drop (S.length -(i+1)));rw [eD'] at hEn bkn lkn;have lkn2:(FrV.part e ((p,u)::S')).1.length<=12:=by
      have:S'.length<=S.length - 1:=by
       have:=congrArg List.length eD';rw [List.length_drop,zTH] at this;omega
      rw [zTH] at lkn;omega
     have eK:(FrV.part e ((p,u)::S')).1=zBq e p u S'::(FrV.part e S').1:=by
      by_cases hl:(yI (dt (zA u) e) (FrV.part e S').2.2).1<(FrV.part e S').2.2
      ·rw [zJL c0 r0 hl]
      ·rw [zJF c0 r0 hl]
     rw [eK] at bkn lkn2;have hEk:=hEn.ech;rw [eK] at hEk;have hqk: ∀q∈(FrV.part e S').1,q.2.length=n/\q.1<n/\0<zA q.2 q.1/\Bts V' q.2:=fun q hq=>let ⟨z1,z2,z3,_⟩:=I.ech.mem hq;⟨z1,z2,z3,b0 q hq⟩;have hqn: ∀q∈zBq e p u S'::(FrV.part e S').1,q.2.length=n/\q.1<n/\0<zA q.2 q.1/\Bts V' q.2:=fun q hq=>let ⟨z1,z2,z3,_⟩:=hEk.mem hq;⟨z1,z2,z3,bkn q hq⟩;have mulk: ∀x:Nat,x<=12->x*(V'+1)<=12*(V'+1):=fun x hx=>Nat.mul_le_mul_right _ hx;have hNS:zBq e p u S'=(p,zl (zR ((FrV.part e S').2.2/(yI (dt (zA u) e) (FrV.part e S').2.2).1) u (-(dt (zA u) e/(yI (dt (zA u) e) (FrV.part e S').2.2).1)) (FrV.part e S').2.1) (FrV.part e S').1):=rfl;refine ⟨_,rfl,_,rfl,_,_,rfl,rp,bo2.mono (by omega),brc.mono (by omega),fun t H3 s3 et=>?_⟩;have hgd:Bt (2*V'+10) ((FrV.part e S').2.2/(yI (dt (zA u) e) (FrV.part e S').2.2).1):=(Bt.div brc g1).mono (by omega);have hod:Bt (2*V'+10) (-(dt (zA u) e/(yI (dt (zA u) e) (FrV.part e S').2.2).1)):=(Bt.div bo2 g1).neg;have hmx:=zFj (k:=0) (l:=0) (u:=u) (v:=(FrV.part e S').2.1) (by omega) hgd bu hod bv;refine ⟨_,rfl,_,rfl,t,_,_,_,rfl,rfl,SqT.of et,rfl,_,_,rfl,rfl,g1,_,rfl,o,C,dx,_,_,rfl,s3 _ _ ho1,T.cl,T.n2,rfl,_,rfl,_,rfl,t,_,_,_,rfl,rfl,SqT.of et,rfl,_,_,rfl,rfl,g1,_,rfl,_,rfl,_,_,a,va,u,(FrV.part e S').2.1,rfl,hu1.same s3,hva.same s3,by omega,by omega,hgd.mono (by omega),hod.mono (by omega),bu.mono (by omega),bv.mono (by omega),fun wl H4 s4 _ hw=>?_⟩;have s34:=s3.trans s4;refine ⟨_,rfl,.inl ⟨rfl,_,SqL.of (s34 _ _ ek)⟩,_,rfl,o,C,dx,_,_,rfl,s34 _ _ ho1,T.cl,T.n1,rfl,_,rfl,_,rfl,wl,kl,_,(FrV.part e S').1,n,2*V'+10+V'+1,V',rfl,hw,⟨os',s34 _ _ ek,StA.same hk s34⟩,zg u1 lva,hn0,by omega,hqk,hmx,by have:=mulk _ kle;omega,fun ll H5 s5 hl5=>?_⟩;intro x dx2 hx5 hdx5 hne5;have sx:zC H5 (L2.upd (L2.upd (L2.upd H5 dx2 (.own x)) x (.ins C dx2 [])) x (.ins C dx2 [("place",.int (p:Int)),("vector",.ref ll)])):=zC.store (zC.store (zC.upd hdx5) hx5) hx5;have ex:(L2.upd (L2.upd (L2.upd H5 dx2 (.own x)) x (.ins C dx2 [])) x (.ins C dx2 [("place",.int (p:Int)),("vector",.ref ll)])) x=some (.ins C dx2 [("place",.int (p:Int)),("vector",.ref ll)]):=zB;refine ⟨x,dx2,_,_,rfl,zB,rfl,?_⟩;generalize L2.upd (L2.upd (L2.upd H5 dx2 (.own x)) x (.ins C dx2 [])) x (.ins C dx2 [("place",.int (p:Int)),("vector",.ref ll)])=H6 at sx ex⊢;have s26:zC H2 H6:=(s34.trans s5).trans sx;have s46:zC H4 H6:=s5.trans sx;have ek6:=s26 _ _ ek;refine ⟨kl,_,_,rfl,rfl,ek6,rle _ (by simp;omega),?_⟩;have et6:=(s4.trans s46) _ _ et;have hN6:StO C H6 x (zBq e p u S'):=⟨dx2,ll,ex,hl5.same sx⟩;have hnne:(zBq e p u S').2≠ [] :=fun z=>by
      have:=(hqn (zBq e p u S') (by simp)).1;rw [z] at this;simp at this;omega
     have hk6:StA C H6 (x::os') (zBq e p u S'::(FrV.part e S').1):= .cons hN6 (StA.same hk s26);have hne7: ∀q∈zBq e p u S'::(FrV.part e S').1,q.2≠ [] :=fun q hq z=>by
      have:=(hqn q hq).1;rw [z] at this;simp at this;omega
     have hk7:=StA.store (o:= .lst (.ref x::os'.map V.ref)) hk6 hne7 ek6;have et7:L2.upd H6 kl (.lst (.ref x::os'.map V.ref)) t=_:=(zI fun z=>by rw [z,ek6] at et6;cases et6).trans et6;have ho7:L2.upd H6 kl (.lst (.ref x::os'.map V.ref)) o=_:=(zI fun z=>by have h6:=s26 _ _ ho1;rw [z,ek6] at h6;cases h6).trans (s26 _ _ ho1);have hu7:=(hu1.same s26).store (o:= .lst (.ref x::os'.map V.ref)) une ek6;have hva7:=(hva.same s26).store (o:= .lst (.ref x::os'.map V.ref)) vne ek6;have ek7:L2.upd H6 kl (.lst (.ref x::os'.map V.ref)) kl=some (.lst ((x::os').map V.ref)):=zB;have s7:zC H (L2.upd H6 kl (.lst (.ref x::os'.map V.ref))):=zC.store (s12.trans s26) hk0;generalize L2.upd H6 kl (.lst (.ref x::os'.map V.ref))=H7 at hk7 et7 ho7 hu7 hva7 ek7 s7⊢;refine ⟨_,rfl,t,_,_,_,rfl,rfl,SqT.of et7,rfl,_,rfl,_,_,rfl,rfl,_,rfl,?_⟩;refine yk (fun c=>?_) (fun c=>?_)
     ·have hlt:(yI (dt (zA u) e) (FrV.part e S').2.2).1<(FrV.part e S').2.2:=by simpa using c
      have hm2:=zFj (k:=0) (l:=0) (u:=u) (v:=(FrV.part e S').2.1) (by omega) (bx'.mono (show V'<=3*V'+11 by omega)) bu by' bv;refine ⟨_,rfl,t,_,_,_,rfl,rfl,SqT.of et7,rfl,?_⟩;refine ⟨_,rfl,t,_,_,_,rfl,rfl,SqT.of et7,rfl,_,rfl,o,C,dx,_,_,rfl,ho7,T.cl,T.n2,rfl,_,rfl,t,_,_,_,rfl,rfl,SqT.of et7,rfl,_,rfl,_,_,a,va,u,(FrV.part e S').2.1,rfl,hu7,hva7,by omega,by omega,bx'.mono (by omega),by'.mono (by omega),bu.mono (by omega),bv.mono (by omega),fun ml H8 s8 _ hm8=>?_⟩;refine ⟨_,rfl,ml,kl,_,zBq e p u S'::(FrV.part e S').1,n,3*V'+11+V'+1,V',rfl,hm8,⟨x::os',s8 _ _ ek7,StA.same hk7 s8⟩,zg u1 lva,hn0,by omega,hqn,hm2,by have:=mulk _ lkn2;omega,fun vl H9 s9 hv9=>?_⟩;refine ⟨hi,?_⟩;rw [eD',zJL c0 r0 hlt];have s79:=s8.trans s9;exact ⟨kl,.ref vl,x::os',_,_,_,_,rfl,hk0,s7.trans s79,s79 _ _ ek7,StA.same hk7 s79,fun _=>⟨vl,rfl,hv9⟩⟩
     ·have hge: ¬(yI (dt (zA u) e) (FrV.part e S').2.2).1<(FrV.part e S').2.2:=by simpa using c
      refine ⟨hi,?_⟩;rw [eD',zJF c0 r0 hge];exact ⟨kl,.ref va,x::os',_,_,_,_,rfl,hk0,s7,ek7,hk7,fun _=>⟨va,rfl,hva7⟩⟩
  ·rintro σ H' ⟨_,⟨kl,vv,os',s5,s6,s7,s8,rfl,hk0,s1,ek,hk,hv⟩⟩;rw [Nat.sub_self,List.drop_zero] at hk hv⊢;refine ⟨_,rfl,_,rfl,_,rfl,by show 3<=sizeLine;decide,fun t ht=>?_⟩;have st:=zC.upd ht (o:= .tup [.ref kl,vv,.int (FrV.part e S).2.2]);exact q t _ (s1.trans st) ⟨kl,vv,zB,hk0,⟨os',st _ _ ek,StA.same hk st⟩,fun h=>let ⟨va,z1,z2⟩:=hv h;⟨va,z1,z2.same st⟩⟩
theorem zFM{xs:List V}{i:Int}(h0:0<=i)(hi:i<=xs.length):zBU xs (some i) none=xs.drop i.toNat:=by
 have e1:HT.sIx xs.length 0 (some i)=i.toNat:=by
  unfold HT.sIx;simp only;rw [if_neg (by omega)];omega
 have e2:HT.sIx xs.length xs.length none=xs.length:=by unfold HT.sIx;rfl
 unfold zBU;rw [e1,e2,List.take_of_length_le (by rw [List.length_drop];omega)]
theorem zIV{xs:List V}{i:Int}(h0:0<=i)(hi:i<=xs.length):zBU xs none (some i)=xs.take i.toNat:=by
 have e1:HT.sIx xs.length xs.length (some i)=i.toNat:=by
  unfold HT.sIx;simp only;rw [if_neg (by omega)];omega
 have e2:HT.sIx xs.length 0 none=0:=by unfold HT.sIx;rfl
 unfold zBU;rw [e1,e2,List.drop_zero,Nat.sub_zero]
theorem zGm{v:Vec}{n:Nat}(h:n<=v.length):zBU (v.map V.int) (some (n:Int)) none=(v.drop n).map V.int:=by
 rw [zFM (by omega) (by simp;omega),List.map_drop];rfl
theorem zEM{v:Vec}{n:Nat}(h:n<=v.length):zBU (v.map V.int) none (some (n:Int))=(v.take n).map V.int:=by
 rw [zIV (by omega) (by simp;omega),List.map_take];rfl
def But(ex:List Addr)(H H':Hp):Prop:= ∀b u,H b=some u->b∉ex->H' b=some u
theorem zC.but{H H':Hp}(s:zC H H')(ex:List Addr):But ex H H':=fun b u e _=>s b u e
theorem But.trans{ex:List Addr}{H H1 H2:Hp}(a:But ex H H1)(b:But ex H1 H2):But ex H H2:=fun c u e z=>b c u (a c u e z) z
theorem But.same{ex:List Addr}{H0 H H':Hp}(s:zC H0 H)(b:But ex H H')(hn: ∀a∈ex,H0 a=none):zC H0 H':=fun c u e=>b c u (s c u e) fun z=>by rw [hn c z] at e;cases e
structure PC(K:zSy)(C:Addr):Prop where
 cl:Cls K C
 n1:yt K C "number"
 n2:yt K C "vector"
 n3:yt K C "reach"
structure LC(K:zSy)(C:Addr):Prop where
 cl:Cls K C
 n1:yt K C "unknowns"
 n2:yt K C "steps"
 n3:yt K C "fixed"
 n4:yt K C "spent"
def SpO(C:Addr)(H:Hp)(o:Addr)(q:Spt):Prop:= ∃dx a,H o=some (.ins C dx [("number",.int (q.1:Int)),("vector",.ref a),("reach",.int q.2.2)])/\LI H a q.2.1
theorem SpO.same{C:Addr}{H H':Hp}{o:Addr}{q:Spt}(h:SpO C H o q)(s:zC H H'):SpO C H' o q:=let ⟨dx,a,e,p⟩:=h;⟨dx,a,s _ _ e,p.same s⟩
abbrev SpA(C:Addr)(H:Hp)(os:List Addr)(S:List Spt):Prop:=Paired (SpO C H) os S
theorem SpA.same{C:Addr}{H H':Hp}{os:List Addr}{S:List Spt}(h:SpA C H os S)(s:zC H H'):SpA C H' os S:=Paired.mapP h fun a v e=>e.same s
structure SoO(CS CP CL:Addr)(H:Hp)(o pl:Addr)(n:Nat)(s:Stt):Prop where
 ex: ∃dx sl fl os,H o=some (.ins CL dx [("unknowns",.int (n:Int)),("steps",.ref sl),("fixed",.ref fl),("spent",.ref pl)])/\StL CS H sl s.steps/\LL H fl s.fixed/\H pl=some (.lst (os.map V.ref))/\SpA CP H os s.spent
theorem SoO.same{CS CP CL:Addr}{H H':Hp}{o pl:Addr}{n:Nat}{s:Stt}(h:SoO CS CP CL H o pl n s)(z:zC H H'):SoO CS CP CL H' o pl n s:=by
 obtain ⟨dx,sl,fl,os,e1,e2,e3,e4,e5⟩:=h;exact ⟨dx,sl,fl,os,z _ _ e1,e2.same z,e3.same z,z _ _ e4,SpA.same e5 z⟩
def zDG:Sp:=fun vs H Q _=> ∃z m:Int,vs= [.int z,.int m] /\0<=m/\Q (.int (FrV.lo z m)) H
theorem zQZ:FnScope ["number","modulus"] ["number","modulus"] (zG zCd):=⟨rfl,rfl,rfl,by decide+kernel,rfl,by decide+kernel,by decide+kernel⟩
theorem zJH{f:Addr}{fd:FuncData}(F:Fun K "left_over" "left_over" zCd f fd):FnOk P w K mg base CX0 1 f fd ["number","modulus"] zDG:=by
 refine F.ok zQZ (fun vs H Q E h=>?_) (fun cdv A outer s H vs Q E hr h=>?_)
 ·obtain ⟨z,m,rfl,_⟩:=h;rfl
 ·obtain ⟨z,m,rfl,hm,q⟩:=h;refine ⟨_,QB.out (zE
   (zq (zU yb (qw 1 rfl) zF rfl) (zH
    (zO (qw 0 rfl))) zf) (zH
   (zO (yY (qw 0 rfl) (qw 1 rfl))))),?_⟩
  refine ⟨_,rfl,rfl,_,rfl,?_⟩;unfold FrV.lo at q;refine yk (fun c=>?_) (fun c=>?_)
  ·have c0:m=0:=by simpa using c
   rw [if_pos c0] at q;exact ⟨_,rfl,q⟩
  ·have c0:m≠0:=by simpa using c
   rw [if_neg c0] at q;exact ⟨_,rfl,_,rfl,_,_,rfl,rfl,(by show 0<m;omega),q⟩
def zGQ:Sp:=fun vs H Q _=> ∃(p:Addr) (v:Vec) (m:Int),vs= [.ref p,.int m] /\LI H p v/\v.length<=1000/\0<=m/\zMH H Q (los v m)
theorem zNx:FnScope ["vector","modulus"] ["vector","modulus"] (zG zDs):=⟨rfl,rfl,rfl,by decide+kernel,rfl,by decide+kernel,by decide+kernel⟩
theorem zNH{f fO:Addr}{fd fdO:FuncData}(F:Fun K "all_left_over" "all_left_over" zDs f fd)(FO:Fun K "left_over" "left_over" zCd fO fdO)(bO:zK K fdO ["number","modulus"] [])(mO:mg "left_over" =some (.ref fO)):FnOk P w K mg base CX0 2 f fd ["vector","modulus"] zGQ:=by
 have GO:FnOk P w K mg base CX0 1 fO fdO ["number","modulus"] zDG:=zJH FO;refine F.ok zNx (fun vs H Q E h=>?_) (fun cdv A outer s H vs Q E hr h=>?_)
 ·obtain ⟨p,v,m,rfl,_⟩:=h;rfl
 ·obtain ⟨p,v,m,rfl,hp,hn,hm,q⟩:=h;have hr1:Room 1 _:=hr;refine ⟨_,QB.out (zH
   (zO (zj ["number"] ["modulus"] [1] rfl (zn (K:=K) rfl (qw 0 rfl)) rfl (by decide+kernel) rfl (by decide+kernel) (zc rfl lk0) rfl (fr1 ⟨rfl,rfl,rfl,_,rfl,rfl⟩) (zQ rfl) (fun _ _ _ _=>(zM 0 (show (["number","modulus"] :List Str).Nodup by decide+kernel) rfl (.inl rfl) (.inr rfl))) (fun _ _ _ _=>zo) (fun _ _ _ _=>(zJ GO hr1 rfl mO FO.kp bO .nil zL (qc (qw 0 rfl) (qc (qx 1 rfl) zD rfl) rfl) rfl rfl rfl)) (fun _=>rfl)))),?_⟩
  refine ⟨_,rfl,p,rfl,⟨_,SqL.of hp⟩,fun D hD=>?_⟩;refine zV v.length (fun i ys H'=>i<=v.length/\ys=((los v m).take i).map V.int/\H'=L2.upd H D (.lst ys)) ⟨zSU _,by simp,rfl⟩ (by rw [zSQ];omega) ?_ ?_ ?_
  ·rintro i ys H' hi ⟨_,rfl,rfl⟩;have e2:=hp.same (zC.upd hD (o:= .lst (((los v m).take i).map V.int)));exact ⟨by simp;omega,zB,fun h=>⟨_,_,SqL.of e2,zZ h⟩,fun h=>⟨_,SqL.of e2,by simp;omega⟩⟩
  ·rintro i ys H' x H'' hi ⟨_,rfl,rfl⟩ ⟨rfl,hx⟩ pre hpre;obtain ⟨p0,rfl⟩:=yi hpre;have hx':=hx _ (SqL.of (hp.same (zC.upd hD (o:= .lst (((los v m).take i).map V.int)))));rw [zZ hi] at hx';cases hx';refine ⟨⟨[some (.int (zA v i))],rfl,rfl⟩,zm ?_⟩;refine ⟨_,rfl,_,rfl,_,_,rfl,hm,zB,hi,?_,by rw [yM]⟩;rw [zCA (by rw [zBI];exact hi),zBL,zSb];rfl
  ·rintro ys H' ⟨_,rfl,rfl⟩;refine q _ _ (zC.upd hD) hD ?_;show L2.upd H D _ D=_;rw [zB,List.take_of_length_le (by rw [zBI];exact zSJ _)]
def zFL(C:Addr):Sp:=fun vs H Q _=> ∃(x dx:Addr) (j v r:V),vs= [.ref x,j,v,r] /\H x=some (.ins C dx [])/\Q .non (L2.upd H x (.ins C dx [("number",j),("vector",v),("reach",r)]))
theorem zMl:FnScope ["self","number","vector","reach"] ["self","number","vector","reach"] (zG (zy (top 24) 0)):=⟨rfl,rfl,rfl,by decide+kernel,rfl,by decide+kernel,by decide+kernel⟩
theorem zLc{f C:Addr}{fd:FuncData}(F:Fun K "__init__" "Spent.__init__" (zy (top 24) 0) f fd)(T:PC K C):FnOk P w K mg base CX0 1 f fd ["self","number","vector","reach"] (zFL C):=by
 refine F.ok zMl (fun vs H Q E h=>?_) (fun cdv A outer s H vs Q E hr h=>?_)
 ·obtain ⟨x,dx,j,v,r,rfl,_⟩:=h;rfl
 ·obtain ⟨x,dx,j,v,r,rfl,hx,q⟩:=h;refine ⟨_,QB.out (zE
   (zBN (K:=K) rfl (qw 0 rfl) (qw 1 rfl) rfl) (zE
   (zBN (K:=K) rfl (qw 0 rfl) (qw 2 rfl) rfl) (zH
   (zBN (K:=K) rfl (qw 0 rfl) (qw 3 rfl) rfl)))),?_⟩
  refine ⟨_,rfl,_,rfl,x,C,dx,[],rfl,hx,T.cl,T.n1,by show 0<1000;decide,?_⟩;refine ⟨_,rfl,_,rfl,x,C,dx,[("number",j)],rfl,zB,T.cl,T.n2,by show 1<1000;decide,?_⟩;refine ⟨_,rfl,_,rfl,x,C,dx,[("number",j),("vector",v)],rfl,zB,T.cl,T.n3,by show 2<1000;decide,?_⟩;rw [yM,yM];exact q
def zGD(C:Addr):Sp:=fun vs H Q _=> ∃(x dx:Addr) (u s f:V),vs= [.ref x,u,s,f] /\H x=some (.ins C dx [])/\ ∀pl,H pl=none->Q .non (L2.upd (L2.upd H pl (.lst [])) x (.ins C dx [("unknowns",u),("steps",s),("fixed",f),("spent",.ref pl)]))
theorem zQI:FnScope ["self","unknowns","steps","fixed"] ["self","unknowns","steps","fixed"] (zG (zy (top 25) 0)):=⟨rfl,rfl,rfl,by decide+kernel,rfl,by decide+kernel,by decide+kernel⟩
theorem zOe{f C:Addr}{fd:FuncData}(F:Fun K "__init__" "Solution.__init__" (zy (top 25) 0) f fd)(T:LC K C):FnOk P w K mg base CX0 1 f fd ["self","unknowns","steps","fixed"] (zGD C):=by
 refine F.ok zQI (fun vs H Q E h=>?_) (fun cdv A outer s H vs Q E hr h=>?_)
 ·obtain ⟨x,dx,u,s,f,rfl,_⟩:=h;rfl
 ·obtain ⟨x,dx,u,s',f',rfl,hx,q⟩:=h;refine ⟨_,QB.out (zE
   (zBN (K:=K) rfl (qw 0 rfl) (qw 1 rfl) rfl) (zE
   (zBN (K:=K) rfl (qw 0 rfl) (qw 2 rfl) rfl) (zE
   (zBN (K:=K) rfl (qw 0 rfl) (qw 3 rfl) rfl) (zH
   (zBN (K:=K) rfl (qw 0 rfl) (zAB zD) rfl))))),?_⟩
  refine ⟨_,rfl,_,rfl,x,C,dx,[],rfl,hx,T.cl,T.n1,by show 0<1000;decide,?_⟩;refine ⟨_,rfl,_,rfl,x,C,dx,[("unknowns",u)],rfl,zB,T.cl,T.n2,by show 1<1000;decide,?_⟩;refine ⟨_,rfl,_,rfl,x,C,dx,[("unknowns",u),("steps",s')],rfl,zB,T.cl,T.n3,by show 2<1000;decide,?_⟩;refine ⟨bs 0,fun pl hpl=>?_⟩;rw [yM,yM] at hpl;have hne:pl≠x:=fun z=>by rw [z,zB] at hpl;cases hpl
  refine ⟨_,rfl,x,C,dx,[("unknowns",u),("steps",s'),("fixed",f')],rfl,by rw [zI (Ne.symm hne),zB];rfl,T.cl,T.n4,by show 3<1000;decide,?_⟩;rw [zI hne] at hpl;have e:=q pl hpl;have e2:L2.upd (L2.upd (L2.upd (L2.upd (L2.upd H x (.ins C dx (yT "unknowns" u []))) x (.ins C dx (yT "steps" s' [("unknowns",u)]))) x (.ins C dx (yT "fixed" f' [("unknowns",u),("steps",s')]))) pl (.lst [])) x (.ins C dx (yT "spent" (.ref pl) [("unknowns",u),("steps",s'),("fixed",f')]))=L2.upd (L2.upd H pl (.lst [])) x (.ins C dx [("unknowns",u),("steps",s'),("fixed",f'),("spent",.ref pl)]):=by
   funext b
   unfold L2.upd;by_cases z1:b=x
   ·simp [z1];rfl
   ·by_cases z2:b=pl
    ·simp [z1,z2,hne]
    ·simp [z1,z2]
  rw [<-e2] at e;exact e
theorem LI.but{H H':Hp}{o pl a:Addr}{CL dx:Addr}{fs:List (Str×V)}{os:List Addr}{v:Vec}(h:LI H a v)(hv:v≠ [])(ho:H o=some (.ins CL dx fs))(hp:H pl=some (.lst (os.map V.ref)))(b:But [o,pl] H H'):LI H' a v:=by
 refine b a _ h fun z=>?_;simp only [zSz,zTJ,or_false] at z;unfold LI at h;rcases z with z | z
 ·rw [z,ho] at h;cases h
 ·rw [z,hp] at h;cases v with
  | nil=>exact hv rfl
  | cons x v=>
   cases os with
   | nil=>cases h
   | cons y os=>cases h
theorem StO.but{H H':Hp}{C o pl x:Addr}{CL dx:Addr}{u:V}{fs:List (Str×V)}{os:List Addr}{q:Stp}(h:StO C H x q)(hv:q.2≠ [])(ho:H o=some (.ins CL dx (("unknowns",u)::fs)))(hp:H pl=some (.lst (os.map V.ref)))(b:But [o,pl] H H'):StO C H' x q:=by
 obtain ⟨dx',a,e,p⟩:=h;refine ⟨dx',a,b x _ e fun z=>?_,p.but hv ho hp b⟩;simp only [zSz,zTJ,or_false] at z;rcases z with z | z
 ·rw [z,ho] at e;injection e with e;injection e with _ _ e;injection e with e;injection e with e;exact absurd e (by decide)
 ·rw [z,hp] at e;cases e
theorem StA.but{H H':Hp}{C o pl:Addr}{CL dx:Addr}{u:V}{fs:List (Str×V)}{os xs:List Addr}{S:List Stp}(h:StA C H xs S)(hv: ∀q∈S,q.2≠ [])(ho:H o=some (.ins CL dx (("unknowns",u)::fs)))(hp:H pl=some (.lst (os.map V.ref)))(b:But [o,pl] H H'):StA C H' xs S:=by
 induction h with
 | nil=>exact .nil
 | cons r _ ih=>exact .cons (r.but (hv _ (by simp)) ho hp b) (ih fun q hq=>hv q (by simp [hq]))
theorem SpO.but{H H':Hp}{C o pl x:Addr}{CL dx:Addr}{u:V}{fs:List (Str×V)}{os:List Addr}{q:Spt}(h:SpO C H x q)(hv:q.2.1≠ [])(ho:H o=some (.ins CL dx (("unknowns",u)::fs)))(hp:H pl=some (.lst (os.map V.ref)))(b:But [o,pl] H H'):SpO C H' x q:=by
 obtain ⟨dx',a,e,p⟩:=h;refine ⟨dx',a,b x _ e fun z=>?_,p.but hv ho hp b⟩;simp only [zSz,zTJ,or_false] at z;rcases z with z | z
 ·rw [z,ho] at e;injection e with e;injection e with _ _ e;injection e with e;injection e with e;exact absurd e (by decide)
 ·rw [z,hp] at e;cases e
theorem SpA.but{H H':Hp}{C o pl:Addr}{CL dx:Addr}{u:V}{fs:List (Str×V)}{os xs:List Addr}{S:List Spt}(h:SpA C H xs S)(hv: ∀q∈S,q.2.1≠ [])(ho:H o=some (.ins CL dx (("unknowns",u)::fs)))(hp:H pl=some (.lst (os.map V.ref)))(b:But [o,pl] H H'):SpA C H' xs S:=by
 induction h with
 | nil=>exact .nil
 | cons r _ ih=>exact .cons (r.but (hv _ (by simp)) ho hp b) (ih fun q hq=>hv q (by simp [hq]))
theorem LIs.but{H H':Hp}{o pl:Addr}{CL dx:Addr}{fs:List (Str×V)}{os xs:List Addr}{S:List Vec}(h:LIs H xs S)(hv: ∀q∈S,q≠ [])(ho:H o=some (.ins CL dx fs))(hp:H pl=some (.lst (os.map V.ref)))(b:But [o,pl] H H'):LIs H' xs S:=by
 induction h with
 | nil=>exact .nil
 | cons r _ ih=>exact .cons (LI.but r (hv _ (by simp)) ho hp b) (ih fun q hq=>hv q (by simp [hq]))
theorem zGd{H:Hp}{a:Addr}{o:HO}{ex:List Addr}(h:a∈ex):But ex H (L2.upd H a o):=fun b u e z=>by rw [zI fun y=>z (by rw [y];exact h)];exact e
structure TkOk(n m V':Nat)(E:Eqn)(s:Stt):Prop where
 e1:E.1.length=n
 e2:E.2.length=m
 nn:n<=12
 mm:m<=1000
 ech:Ech n s.steps
 sl:s.steps.length<=12
 fl:s.fixed.length=m
 fn: ∀f∈s.fixed,f.length=n/\Bts V' f
 ok:PartOk V' E.1 s.steps
 bc:Bts V' E.2
 pl:s.spent.length<=1000
 pn: ∀q∈s.spent,q.2.1.length=n
def zFb(CS CP CL:Addr):Sp:=fun vs H Q _=> ∃(o pl q:Addr) (j n m V':Nat) (E:Eqn) (st:Stt),vs= [.ref o,.int (j:Int),.ref q] /\SoO CS CP CL H o pl n st/\LI H q (E.1++E.2)/\TkOk n m V' E st/\V'<=2500000/\
 (fits E st=true-> ∀H',But [o,pl] H H'->SoO CS CP CL H' o pl n (take j E st)->Q .non H')/\(fits E st=false-> ∀H',zC H H'->Q (.int (FrV.part E.1 st.steps).2.2) H')
theorem zDt:FnScope ["self","number","equation","marks","found","reach","sums"] ["self","number","equation"] (zG (zy (top 25) 1)):=⟨rfl,rfl,rfl,by decide+kernel,rfl,by decide+kernel,by decide+kernel⟩
theorem zOm{f fK fQ fR fO fL fM fP CS CP CL:Addr}{fd fdK fdQ fdR fdO fdL fdM fdP:FuncData}(F:Fun K "take_in" "Solution.take_in" (zy (top 25) 1) f fd)(B:Bn mg)(ht:P.given.tree=none)(T:LC K CL)(TP:PC K CP)
  (FK:Fun K "marks_of" "marks_of" zDC fK fdK) (bK:zK K fdK ["vector"] []) (mK:mg "marks_of" =some (.ref fK)) (GK:FnOk P w K mg base CX0 1 fK fdK ["vector"] zEZ)
  (FQ:Fun K "parted" "parted" zET fQ fdQ) (bQ:zK K fdQ ["steps","marks"] []) (mQ:mg "parted" =some (.ref fQ)) (GQ:FnOk P w K mg base CX0 35 fQ fdQ ["steps","marks"] (zHO CS))
  (FR:Fun K "reach_of" "reach_of" zCJ fR fdR) (bR:zK K fdR ["vector","marks"] []) (mR:mg "reach_of" =some (.ref fR)) (GR:FnOk P w K mg base CX0 1 fR fdR ["vector","marks"] zCz)
  (FO:Fun K "left_over" "left_over" zCd fO fdO) (bO:zK K fdO ["number","modulus"] []) (mO:mg "left_over" =some (.ref fO)) (GO:FnOk P w K mg base CX0 1 fO fdO ["number","modulus"] zDG)
  (FL:Fun K "lessened" "lessened" zDc fL fdL) (bL:zK K fdL ["vector","steps"] []) (mL:mg "lessened" =some (.ref fL)) (GL:FnOk P w K mg base CX0 34 fL fdL ["vector","steps"] (zFl CS))
  (FM:Fun K "mixed" "mixed" zBk fM fdM) (bM:zK K fdM ["factor","one","other_factor","other"] []) (mM:mg "mixed" =some (.ref fM)) (GM:FnOk P w K mg base CX0 1 fM fdM ["factor","one","other_factor","other"] zBx)
  (FP:Fun K "__init__" "Spent.__init__" (zy (top 24) 0) fP fdP) (bP:zK K fdP ["self","number","vector","reach"] []) (MP:Mk K CP fP) (mP:mg "Spent" =some (.ref CP)) (GP:FnOk P w K mg base CX0 1 fP fdP ["self","number","vector","reach"] (zFL CP)):FnOk P w K mg base CX0 36 f fd ["self","number","equation"] (zFb CS CP CL):=by
 refine F.ok zDt (fun vs H Q E h=>?_) (fun cdv A outer s H vs Q E hr h=>?_)
 ·obtain ⟨o,pl,q,j,n,m,V',E',st,rfl,_⟩:=h;rfl
 ·obtain ⟨o,pl,q,j,n,m,V',⟨e,c⟩,st,rfl,⟨dx,sl,fl,os,eo,hsl,hfl,epl,hos⟩,hq,ok,hV,q1,q2⟩:=h;have deep:DeepE (zAZ CX0 P w K mg base ["self","number","equation","marks","found","reach","sums"] "Solution.take_in" (zG (zy (top 25) 1)) f cdv A outer s H E):=zBb hr (by decide) ht rfl rfl;have hr1:Room 1 _:=hr.mono (by decide);have hr2:Room 2 _:=hr.mono (by decide);have hr34:Room 34 _:=hr.mono (by decide);have hr35:Room 35 _:=hr;have le:e.length=n:=ok.e1;have lc:c.length=m:=ok.e2;have nn:=ok.nn;have mm:=ok.mm;have P':=ze (e:=e) ok.ech;refine ⟨_,QB.out (zE
   (zCj 3 zDt.nd rfl (Or.inr rfl) (zJ GK hr1 rfl mK FK.kp bK .nil zL (qc (zBe (K:=K) rfl (qw 2 rfl) zAp (zAj (zu (K:=K) rfl (qx 0 rfl) rfl))) zD rfl) rfl rfl rfl) rfl (.inl rfl)) (zE
   (zCj 4 zDt.nd rfl (Or.inr rfl) (zJ GQ hr35 rfl mQ FQ.kp bQ .nil zL (qc (zu (K:=K) rfl (qx 0 rfl) rfl) (qc (qx 3 rfl) zD rfl) rfl) rfl rfl rfl) rfl (.inl rfl)) (zE
   (zCj 5 zDt.nd rfl (Or.inr rfl) (zx (K:=K) rfl (qx 4 rfl) zF (fun _ _=>rfl)) rfl (.inl rfl)) (zE
   (zBE zAN 6 (by exact zDt.nd) rfl (Or.inl rfl) (.inr rfl) ["vector","own"] ["marks"] [3] rfl (zFg (K:=K) rfl rfl B.zip (qc (zu (K:=K) rfl (qx 0 rfl) rfl) (qc (zBe (K:=K) rfl (qw 2 rfl) (zAj (zu (K:=K) rfl (qx 0 rfl) rfl)) zAp) zD rfl) rfl) rfl rfl) rfl (by decide+kernel) rfl (by decide+kernel) (zc rfl lk0) rfl (fr1 ⟨rfl,rfl,rfl,_,rfl,rfl⟩) (zQ rfl) (fun _ _ _ _=>(zBO (K:=K) (n:=2) rfl rfl (yK (zM 0 (show (["vector","own","marks"] :List Str).Nodup by decide+kernel) rfl (.inl rfl) (.inr rfl)) (yK (zM 1 (show (["vector","own","marks"] :List Str).Nodup by decide+kernel) rfl (.inl rfl) (.inr rfl)) zBW rfl) rfl) rfl rfl)) (fun _ _ _ _=>zo) (fun C s₂ H₂ fp xe E hp=>(yu (zJ GR hr1 rfl mR FR.kp bR .nil zL (qc (qw 0 rfl) (qc (qx 2 rfl) zD rfl) rfl) rfl rfl rfl) (qw 1 rfl))) (fun _=>rfl) rfl) (zE
   (zq (yZ (zt (zLA (K:=K) rfl rfl) rfl B.any zQE (qc (zj ["own"] ["reach"] [5] rfl (zn (K:=K) rfl (qw 6 rfl)) rfl (by decide+kernel) rfl (by decide+kernel) (zc rfl lk0) rfl (fr1 ⟨rfl,rfl,rfl,_,rfl,rfl⟩) (zQ rfl) (fun _ _ _ _=>(zM 0 (show (["own","reach"] :List Str).Nodup by decide+kernel) rfl (.inl rfl) (.inr rfl))) (fun _ _ _ _=>zo) (fun _ _ _ _=>(zCa yy (zJ GO hr1 rfl mO FO.kp bO .nil zL (qc (qw 0 rfl) (qc (qx 1 rfl) zD rfl) rfl) rfl rfl rfl) zF rfl)) (fun _=>rfl)) zD rfl) rfl) (fun _=>rfl)) (zH
    (zO (qx 5 rfl))) zf) (zE
   (zq (zU zAb (qx 5 rfl) zF rfl) (zE
    (zBN (K:=K) rfl (qx 0 rfl) (zx (K:=K) rfl (qx 4 rfl) zF (fun _ _=>rfl)) rfl) (zE
    (zBN (K:=K) rfl (qx 0 rfl) (zj ["vector","own"] ["self","found","reach"] [0,4,5] rfl (zFg (K:=K) rfl rfl B.zip (qc (zu (K:=K) rfl (qx 0 rfl) rfl) (qc (qw 6 rfl) zD rfl) rfl) rfl rfl) rfl (by decide+kernel) rfl (by decide+kernel) (zc rfl (zc rfl (zc rfl lk0))) rfl (fr3 ⟨rfl,rfl,rfl,_,rfl,rfl⟩ ⟨rfl,rfl,rfl,_,rfl,rfl⟩ ⟨rfl,rfl,rfl,_,rfl,rfl⟩) (zQ rfl) (fun _ _ _ _=>(zBO (K:=K) (n:=2) rfl rfl (yK (zM 0 (show (["vector","own","self","found","reach"] :List Str).Nodup by decide+kernel) rfl (.inl rfl) (.inr rfl)) (yK (zM 1 (show (["vector","own","self","found","reach"] :List Str).Nodup by decide+kernel) rfl (.inl rfl) (.inr rfl)) zBW rfl) rfl) rfl rfl)) (fun _ _ _ _=>zo) (fun _ _ _ _=>(zJ GL hr34 rfl mL FL.kp bL .nil zL (qc (zJ GM hr1 rfl mM FM.kp bM .nil zL (qc zF (qc (qw 0 rfl) (qc (zDW (zAL (deep.up rfl rfl rfl) (qw 1 rfl) (qx 4 rfl))) (qc (zx (K:=K) rfl (qx 3 rfl) zF (fun _ _=>rfl)) zD rfl) rfl) rfl) rfl) rfl rfl rfl) (qc (zu (K:=K) rfl (qx 2 rfl) rfl) zD rfl) rfl) rfl rfl rfl)) (fun _=>rfl)) rfl) (zH
    (ye (zDg (K:=K) rfl (zu (K:=K) rfl (qx 0 rfl) rfl) (zDk MP GP hr2 rfl mP bP .nil zL (qc (qw 1 rfl) (qc (zx (K:=K) rfl (qx 4 rfl) zF (fun _ _=>rfl)) (qc (qx 5 rfl) zD rfl) rfl) rfl) rfl rfl rfl) rfl rfl rfl) rfl)))) zf) (zH
   (zO zEb)))))))),?_⟩
  refine ⟨_,rfl,_,rfl,o,CL,dx,_,_,rfl,eo,T.cl,T.n1,rfl,_,rfl,q,_,rfl,SqL.of hq,fun p1 hp1=>?_⟩;rw [zEM (by simp;omega),List.take_left' le] at*;obtain ⟨H1,g1,s1,e1⟩:=zBQ hp1 (.lst (e.map V.int));rw [g1];refine ⟨p1,e,rfl,e1,by omega,fun ml H2 s2 hml=>?_⟩;have s02:=s1.trans s2;refine ⟨_,rfl,o,CL,dx,_,_,rfl,s02 _ _ eo,T.cl,T.n2,rfl,_,rfl,sl,ml,st.steps,e,n,V',rfl,hsl.same s02,hml,ok.ech,le,by omega,ok.sl,ok.ok,hV,fun t H3 s3 ⟨kl,vv,et,hkl,hkk,hvv⟩=>?_⟩;have s03:=s02.trans s3;refine ⟨_,rfl,t,_,_,_,rfl,rfl,SqT.of et,rfl,?_⟩;generalize hpt:FrV.part e st.steps=pt at*;obtain ⟨k,vec,rc⟩:=pt;simp only at*;have r0:0<=rc:=P'.r0;obtain ⟨as,efl,has⟩:=hfl;have la:=Paired.len has;have lf:=ok.fl;have bo: ∀f'∈st.fixed,Bt (V'+V'+10) (dt (zA f') e):=fun f' hf=>zCb e _ 10 (by rw [le];omega) (ok.fn f' hf).2 ok.ok.eq;refine ⟨_,rfl,o,CL,dx,_,_,rfl,s03 _ _ eo,T.cl,T.n3,rfl,_,rfl,_,rfl,o,CL,dx,_,_,rfl,s03 _ _ eo,T.cl,T.n1,rfl,_,rfl,q,_,rfl,SqL.of (hq.same s03),fun p2 hp2=>?_⟩;rw [zGm (by simp;omega),List.drop_left' le] at*;obtain ⟨H4,g4,s4,e4⟩:=zBQ hp2 (.lst (c.map V.int));rw [g4];have s04:=s03.trans s4;have hp2':LI H4 p2 c:=e4;refine ⟨fl,p2,rfl,⟨_,SqL.of (s04 _ _ efl)⟩,⟨_,SqL.of e4⟩,fun D hD=>?_⟩;have lsum:(yV e c st.fixed).length=m:=by simp [yV,lf,lc]
  have gsum: ∀i f',st.fixed[i]?=some f'->(yV e c st.fixed)[i]?=some (dt (zA f') e+zA c i):=fun i f' hf=>zCX (e:=e) (by omega) hf;refine zV m (fun i ys H'=>i<=m/\ys=((yV e c st.fixed).take i).map V.int/\zC H4 H'/\H' D=some (.lst ys)) ⟨zSU _,by simp,zC.upd hD,zB⟩ (by rw [zSQ];omega) ?_ ?_ ?_
  ·rintro i ys H' hi ⟨_,rfl,s5,e5⟩;refine ⟨by simp;omega,e5,fun h=>⟨_,_,_,_,SqL.of (s5 _ _ (s04 _ _ efl)),SqL.of (hp2'.same s5),zSF (by simp;omega),zZ (by omega)⟩,fun h=>⟨_,_,SqL.of (s5 _ _ (s04 _ _ efl)),SqL.of (hp2'.same s5),.inl (by simp;omega)⟩⟩
  ·rintro i ys H' x H'' hi ⟨_,rfl,s5,e5⟩ ⟨t2,x1,y1,hx,hy,ht2,rfl,rfl⟩ pre hpre;obtain ⟨p0,p1',rfl⟩:=zi hpre;have hx':=hx _ (SqL.of (s5 _ _ (s04 _ _ efl)));have hy':=hy _ (SqL.of (hp2'.same s5));have hia:i<as.length:=by omega
   rw [zSK,zSF hia] at hx';rw [zZ (show i<c.length by omega)] at hy';cases hx';cases hy';obtain ⟨f',ef,hf⟩:=Paired.get' has (zSF hia);obtain ⟨lf',bf⟩:=ok.fn f' (zSj ef);have st2:=zC.upd ht2 (o:= .tup [.ref as[i],.int (zA c i)]);have s05:=(s04.trans s5).trans st2;refine ⟨t2,_,rfl,SqT.of zB,rfl,_,_,rfl,_,_,rfl,rfl,⟨[some (.ref as[i]),some (.int (zA c i))],rfl,rfl⟩,zm ?_⟩;refine ⟨_,rfl,_,rfl,as[i],ml,f',e,rfl,hf.same s05,hml.same (((s3.trans s4).trans s5).trans st2),by omega,by omega,bf.mono (by omega),ok.ok.eq.mono (by omega),fun H6 s6=>?_⟩;refine ⟨_,rfl,_,_,rfl,rfl,(st2.trans s6) _ _ e5,hi,?_,zC.store ((s5.trans st2).trans s6) hD,zB⟩;rw [zSc,gsum i f' ef];simp
  rintro ys H5 ⟨_,rfl,s5,e5⟩;rw [List.take_of_length_le (by omega)] at e5;have s05:=s04.trans s5;have hany:((yV e c st.fixed).map fun z=>!decide (V.int (FrV.lo z rc)=V.int 0)).any id=!fits (e,c) st:=by
   unfold fits;simp only [hpt]
   induction (yV e c st.fixed) with
   | nil=>rfl
   | cons z l ih=>
    rw [zTD,List.any_cons,ih,List.all_cons,Bool.not_and];congr 1;by_cases h0:FrV.lo z rc=0
    ·simp [h0]
    ·simp [h0]
  refine ⟨_,rfl,D,rfl,⟨_,SqL.of e5⟩,fun D2 hD2=>?_⟩;refine zV m (fun i ys H'=>i<=m/\ys=(((yV e c st.fixed).take i).map fun z=>!decide (V.int (FrV.lo z rc)=V.int 0)).map V.bl/\H'=L2.upd H5 D2 (.lst ys)) ⟨zSU _,by simp,rfl⟩ (by rw [zSQ];omega) ?_ ?_ ?_
  ·rintro i ys H' hi ⟨_,rfl,rfl⟩;have e6:=zC.upd hD2 (o:= .lst ((((yV e c st.fixed).take i).map fun z=>!decide (V.int (FrV.lo z rc)=V.int 0)).map V.bl)) _ _ e5;refine ⟨by simp;omega,zB,fun h=>⟨_,_,SqL.of e6,zSF (by simp;omega)⟩,fun h=>⟨_,SqL.of e6,by simp;omega⟩⟩
  ·rintro i ys H' x H'' hi ⟨_,rfl,rfl⟩ ⟨rfl,hx⟩ pre hpre;obtain ⟨p0,rfl⟩:=yi hpre;have e6:=zC.upd hD2 (o:= .lst ((((yV e c st.fixed).take i).map fun z=>!decide (V.int (FrV.lo z rc)=V.int 0)).map V.bl)) _ _ e5;have hx':=hx _ (SqL.of e6);rw [zSK,zSF (show i<(yV e c st.fixed).length by omega)] at hx';cases hx';refine ⟨⟨[some (.int (yV e c st.fixed)[i])],rfl,rfl⟩,zm ?_⟩;refine ⟨_,rfl,_,rfl,_,_,rfl,r0,rfl,zB,hi,?_,by rw [yM]⟩;rw [zSc,zSF (show i<(yV e c st.fixed).length by omega),zSb,zSb];rfl
  rintro ys H6 ⟨_,rfl,rfl⟩;rw [List.take_of_length_le (show (yV e c st.fixed).length<=m by omega)];have sD2:=zC.upd hD2 (o:= .lst (((yV e c st.fixed).map fun z=>!decide (V.int (FrV.lo z rc)=V.int 0)).map V.bl));refine ⟨D2,_,rfl,SqL.of zB,_,rfl,?_⟩;rw [hany];generalize L2.upd H5 D2 (.lst (((yV e c st.fixed).map fun z=>!decide (V.int (FrV.lo z rc)=V.int 0)).map V.bl))=H6 at sD2⊢;have s06:=s05.trans sD2;cases hfit:fits (e,c) st with
  | false=>exact zm ⟨_,rfl,q2 hfit _ s06⟩
  | true=>
  refine yC ?_;refine ⟨_,rfl,_,_,rfl,rfl,_,rfl,?_⟩;refine yk (fun cc=>?_) (fun cc=>?_)
  ·have rp:0<rc:=by simpa using cc
   obtain ⟨va,rfl,hva⟩:=hvv rp;have lv:vec.length=n:=P'.len rp;have n1:1<=n:=by
    rcases Nat.eq_zero_or_pos n with z | z
    ·have ee:e= [] :=List.length_eq_zero_iff.mp (by omega);have:=P'.dtv rp;rw [ee] at this;simp [dt] at this;omega
    ·exact z
   have lne: ∀v:Vec,v.length=n->v≠ [] :=fun v hl z=>by rw [z] at hl;simp at hl;omega
   have kne: ∀q∈k,q.2≠ [] :=fun q hq=>lne _ (P'.ech.mem hq).1;have bk:=ok.ok.k _ List.suffix_rfl;have bvec:=ok.ok.v _ List.suffix_rfl;have brc:=ok.ok.r _ List.suffix_rfl;have lkk:=zDU (e:=e) st.steps;rw [hpt] at bk bvec brc lkk;simp only at bk bvec brc lkk;have lk12:k.length<=12:=zST lkk ok.sl;obtain ⟨ks,ekl,hks⟩:=hkk;have s36:=(s4.trans s5).trans sD2;have eo6:=s06 _ _ eo;have et6:=s36 _ _ et;have epl6:=s06 _ _ epl;have ekl6:=s36 _ _ ekl;have hks6:=StA.same hks s36;have hva6:=hva.same s36;have hos6:=SpA.same hos s06;have efl6:=s06 _ _ efl;have has6:=LIs.same has s06;have e56:=sD2 _ _ e5;have klpl:kl≠pl:=fun z=>by rw [z,s02 _ _ epl] at hkl;cases hkl
   refine ⟨_,rfl,t,_,_,_,rfl,rfl,SqT.of et6,rfl,_,rfl,o,CL,dx,_,rfl,eo6,T.cl,T.n2,by show 4<1000;decide,?_⟩;have nO: ∀{a:Addr} {xs:List V},H6 a=some (.lst xs)->a≠o:=fun h z=>by rw [z,eo6] at h;cases h
   have b7:But [o,pl] H6 (L2.upd H6 o (.ins CL dx (yT "steps" (.ref kl) [("unknowns",.int (n:Int)),("steps",.ref sl),("fixed",.ref fl),("spent",.ref pl)]))):=zGd (by simp);have eo7:(L2.upd H6 o (.ins CL dx (yT "steps" (.ref kl) [("unknowns",.int (n:Int)),("steps",.ref sl),("fixed",.ref fl),("spent",.ref pl)]))) o=some (.ins CL dx [("unknowns",.int (n:Int)),("steps",.ref kl),("fixed",.ref fl),("spent",.ref pl)]):=zB;have st7: ∀{a:Addr} {xs:List V},H6 a=some (.lst xs)->(L2.upd H6 o (.ins CL dx (yT "steps" (.ref kl) [("unknowns",.int (n:Int)),("steps",.ref sl),("fixed",.ref fl),("spent",.ref pl)]))) a=some (.lst xs):=fun h=>by rw [zI (nO h)];exact h
   have et7:(L2.upd H6 o (.ins CL dx (yT "steps" (.ref kl) [("unknowns",.int (n:Int)),("steps",.ref sl),("fixed",.ref fl),("spent",.ref pl)]))) t=_:=(zI fun z=>by rw [z,eo6] at et6;cases et6).trans et6;generalize L2.upd H6 o (.ins CL dx (yT "steps" (.ref kl) [("unknowns",.int (n:Int)),("steps",.ref sl),("fixed",.ref fl),("spent",.ref pl)]))=H7 at b7 eo7 st7 et7⊢;have ekl7:=st7 ekl6;have efl7:=st7 efl6;have e57:=st7 e56;have epl7:=st7 epl6;have hks7:=StA.but hks6 kne eo6 epl6 b7;have hva7:=LI.but hva6 (lne _ lv) eo6 epl6 b7;have hos7:=SpA.but hos6 (fun q hq=>lne _ (ok.pn q hq)) eo6 epl6 b7;have has7:=LIs.but has6 (fun q hq=>lne _ (ok.fn q hq).1) eo6 epl6 b7;refine ⟨_,rfl,o,CL,dx,_,_,rfl,eo7,T.cl,T.n3,rfl,_,rfl,fl,D,rfl,⟨_,SqL.of efl7⟩,⟨_,SqL.of e57⟩,fun D3 hD3=>?_⟩;have hnf: ∀i f',st.fixed[i]?=some f'->(List.zipWith (fun f own=>zl (zR 1 f (-(own/rc)) vec) k) st.fixed (yV e c st.fixed))[i]?=some (zl (zR 1 f' (-((dt (zA f') e+zA c i)/rc)) vec) k):=fun i f' hf=>by
    rw [List.getElem?_zipWith,hf,gsum i f' hf]
   have lnf:(List.zipWith (fun f own=>zl (zR 1 f (-(own/rc)) vec) k) st.fixed (yV e c st.fixed)).length=m:=by simp [lf,lsum]
   refine zV m (fun i ys H'=> ∃rs:List Addr,i<=m/\ys=rs.map V.ref/\LIs H' rs ((List.zipWith (fun f own=>zl (zR 1 f (-(own/rc)) vec) k) st.fixed (yV e c st.fixed)).take i)/\rs.length=i/\D3∉rs/\zC H7 H'/\H' D3=some (.lst ys)) ⟨[],zSU _,rfl,by rw [List.take_zero];exact .nil,rfl,by simp,zC.upd hD3,zB⟩ (by rw [zSQ];omega) ?_ ?_ ?_
   ·rintro i ys H' hi ⟨rs,_,rfl,_,hrl,_,s8,e8⟩;refine ⟨by simp;omega,e8,fun h=>⟨_,_,_,_,SqL.of (s8 _ _ efl7),SqL.of (s8 _ _ e57),zSF (by simp;omega),zSF (by simp;omega)⟩,fun h=>⟨_,_,SqL.of (s8 _ _ efl7),SqL.of (s8 _ _ e57),.inl (by simp;omega)⟩⟩
   ·rintro i ys H' x H'' hi ⟨rs,_,rfl,hrs,hrl,hnd,s8,e8⟩ ⟨t2,x1,y1,hx,hy,ht2,rfl,rfl⟩ pre hpre;obtain ⟨p0,p1',rfl⟩:=zi hpre;have hx':=hx _ (SqL.of (s8 _ _ efl7));have hy':=hy _ (SqL.of (s8 _ _ e57));have hia:i<as.length:=by omega
    rw [zSK,zSF hia] at hx';cases hx';obtain ⟨f',ef,hf⟩:=Paired.get' has7 (zSF hia);rw [zSK,gsum i f' ef] at hy';cases hy';obtain ⟨lf',bf⟩:=ok.fn f' (zSj ef);have bz:Bt (2*V'+11) (dt (zA f') e+zA c i):=Bt.mono (Bt.add (bo f' (zSj ef)) ((ok.bc i).mono (show V'<=V'+V'+10 by omega))) (by omega);have bz2:Bt (2*V'+11) (-((dt (zA f') e+zA c i)/rc)):=(Bt.div bz rp).neg;have st2:=zC.upd ht2 (o:= .tup [.ref as[i],.int (dt (zA f') e+zA c i)]);have s79:=s8.trans st2;have hmx:=zFj (k:=0) (l:=0) (x:=1) (u:=f') (v:=vec) (by omega) (Bt.one (a:=2*V'+11)) bf bz2 bvec;refine ⟨t2,_,rfl,SqT.of zB,rfl,_,_,rfl,_,_,rfl,rfl,⟨[some (.ref as[i]),some (.int (dt (zA f') e+zA c i))],rfl,rfl⟩,zm ?_⟩;refine ⟨_,rfl,_,rfl,_,rfl,_,_,rfl,rfl,rp,_,rfl,_,rfl,t,_,_,_,rfl,rfl,SqT.of (s79 _ _ et7),rfl,1,_,as[i],va,f',vec,rfl,hf.same s79,hva7.same s79,by omega,by omega,Bt.one,bz2.mono (by omega),bf.mono (by omega),bvec.mono (by omega),fun ml2 H8 s8' _ hm8=>?_⟩;have s78:=s79.trans s8';refine ⟨_,rfl,o,CL,dx,_,_,rfl,s78 _ _ eo7,T.cl,T.n2,rfl,ml2,kl,_,k,n,2*V'+11+V'+1,V',rfl,hm8,⟨ks,s78 _ _ ekl7,StA.same hks7 s78⟩,zg lf' lv,by omega,by omega,fun q hq=>let ⟨z1,z2,z3,_⟩:=P'.ech.mem hq;⟨z1,z2,z3,bk q hq⟩,hmx,by have:=Nat.mul_le_mul_right (V'+1) lk12;omega,fun ll H9 s9 hl9=>?_⟩;have s89:=(st2.trans s8').trans s9;have sll:zC H7 H9:=s78.trans s9;by_cases hDl:ll=D3
    ·exfalso;have z:=s89 _ _ e8;rw [<-hDl,hl9] at z;have l9:(zl (zR 1 f' (-((dt (zA f') e+zA c i)/rc)) vec) k).length=n:=zDf (zg lf' lv) fun q hq=>(P'.ech.mem hq).1;generalize zl (zR 1 f' (-((dt (zA f') e+zA c i)/rc)) vec) k=L at l9 z;cases L with
     | nil=>simp at l9;omega
     | cons a L=>
      cases rs with
      | nil=>cases z
      | cons b rs=>cases z
    refine ⟨s89 _ _ e8,rs++ [ll],hi,by simp,?_,by simp [hrl],by simp [hnd,Ne.symm hDl],zC.store sll hD3,zB⟩;rw [zSc,hnf i f' ef];refine Paired.snoc' (Paired.mapM hrs fun a v hm ea=>?_) ?_
    ·show L2.upd _ D3 _ a=_;rw [zI fun z=>hnd (by rw [<-z];exact hm)];exact s89 _ _ ea
    ·show L2.upd _ D3 _ ll=_;rw [zI hDl];exact hl9
   rintro ys H8 ⟨rs,_,rfl,hrs,hrl,hnd,s8,e8⟩;rw [List.take_of_length_le (by omega)] at hrs;have eo8:=s8 _ _ eo7;have epl8:=s8 _ _ epl7;have D3pl:D3≠pl:=fun z=>by rw [z,epl7] at hD3;cases hD3
   refine ⟨_,rfl,o,CL,dx,_,rfl,eo8,T.cl,T.n3,by show 4<1000;decide,?_⟩;have nO8: ∀{a:Addr} {xs:List V},H8 a=some (.lst xs)->a≠o:=fun h z=>by rw [z,eo8] at h;cases h
   have b9:But [o,pl] H8 (L2.upd H8 o (.ins CL dx (yT "fixed" (.ref D3) [("unknowns",.int (n:Int)),("steps",.ref kl),("fixed",.ref fl),("spent",.ref pl)]))):=zGd (by simp);have eo9:(L2.upd H8 o (.ins CL dx (yT "fixed" (.ref D3) [("unknowns",.int (n:Int)),("steps",.ref kl),("fixed",.ref fl),("spent",.ref pl)]))) o=some (.ins CL dx [("unknowns",.int (n:Int)),("steps",.ref kl),("fixed",.ref D3),("spent",.ref pl)]):=zB;have st9: ∀{a:Addr} {xs:List V},H8 a=some (.lst xs)->(L2.upd H8 o (.ins CL dx (yT "fixed" (.ref D3) [("unknowns",.int (n:Int)),("steps",.ref kl),("fixed",.ref fl),("spent",.ref pl)]))) a=some (.lst xs):=fun h=>by rw [zI (nO8 h)];exact h
   have et8:=s8 _ _ et7;have et9:(L2.upd H8 o (.ins CL dx (yT "fixed" (.ref D3) [("unknowns",.int (n:Int)),("steps",.ref kl),("fixed",.ref fl),("spent",.ref pl)]))) t=_:=(zI fun z=>by rw [z,eo8] at et8;cases et8).trans et8;generalize L2.upd H8 o (.ins CL dx (yT "fixed" (.ref D3) [("unknowns",.int (n:Int)),("steps",.ref kl),("fixed",.ref fl),("spent",.ref pl)]))=H9 at b9 eo9 st9 et9⊢;have hnl: ∀v∈List.zipWith (fun f own=>zl (zR 1 f (-(own/rc)) vec) k) st.fixed (yV e c st.fixed),v.length=n:=fun v hv=>by
    obtain ⟨i,hi⟩:=List.mem_iff_getElem?.mp hv;cases hf:st.fixed[i]? with
    | none=>simp [List.getElem?_zipWith,hf] at hi
    | some f'=>
     rw [hnf i f' hf] at hi;cases hi;exact zDf (zg (ok.fn f' (zSj hf)).1 lv) fun q hq=>(P'.ech.mem hq).1
   have ekl9:=st9 (s8 _ _ ekl7);have epl9:=st9 epl8;have eD9:=st9 e8;have hks9:=StA.but (StA.same hks7 s8) kne eo8 epl8 b9;have hva9:=LI.but (hva7.same s8) (lne _ lv) eo8 epl8 b9;have hos9:=SpA.but (SpA.same hos7 s8) (fun q hq=>lne _ (ok.pn q hq)) eo8 epl8 b9;have hrs9:=LIs.but hrs (fun v hv=>lne _ (hnl v hv)) eo8 epl8 b9;refine ⟨_,rfl,o,CL,dx,_,_,rfl,eo9,T.cl,T.n4,rfl,.inl ⟨rfl,_,SqL.of epl9⟩,_,rfl,_,rfl,t,_,_,_,rfl,rfl,SqT.of et9,rfl,_,rfl,?_⟩;intro x dx2 hx9 hdx9 hne9;have sx:zC H9 (L2.upd (L2.upd (L2.upd H9 dx2 (.own x)) x (.ins CP dx2 [])) x (.ins CP dx2 [("number",.int (j:Int)),("vector",.ref va),("reach",.int rc)])):=zC.store (zC.store (zC.upd hdx9) hx9) hx9;have ex:(L2.upd (L2.upd (L2.upd H9 dx2 (.own x)) x (.ins CP dx2 [])) x (.ins CP dx2 [("number",.int (j:Int)),("vector",.ref va),("reach",.int rc)])) x=some (.ins CP dx2 [("number",.int (j:Int)),("vector",.ref va),("reach",.int rc)]):=zB;refine ⟨x,dx2,_,_,_,rfl,zB,rfl,?_⟩;generalize L2.upd (L2.upd (L2.upd H9 dx2 (.own x)) x (.ins CP dx2 [])) x (.ins CP dx2 [("number",.int (j:Int)),("vector",.ref va),("reach",.int rc)])=H10 at sx ex⊢;have epl10:=sx _ _ epl9;have eo10:=sx _ _ eo9;have lo':=Paired.len hos;have lpl:=ok.pl;refine ⟨pl,_,_,rfl,rfl,epl10,by rw [zSQ];simp;omega,?_⟩;have b11:But [o,pl] H10 (L2.upd H10 pl (.lst (os.map V.ref++ [.ref x]))):=zGd (by simp);have opl:o≠pl:=fun z=>by rw [z,epl] at eo;cases eo
   have eo11:(L2.upd H10 pl (.lst (os.map V.ref++ [.ref x]))) o=_:=(zI opl).trans eo10;have ekl11:(L2.upd H10 pl (.lst (os.map V.ref++ [.ref x]))) kl=_:=(zI klpl).trans (sx _ _ ekl9);have eD11:(L2.upd H10 pl (.lst (os.map V.ref++ [.ref x]))) D3=_:=(zI D3pl).trans (sx _ _ eD9);have ep11:(L2.upd H10 pl (.lst (os.map V.ref++ [.ref x]))) pl=some (.lst ((os++ [x]).map V.ref)):=by rw [zB,zSb];rfl
   have hks11:=StA.but (StA.same hks9 sx) kne eo10 epl10 b11;have hos11:=SpA.but (SpA.same hos9 sx) (fun q hq=>lne _ (ok.pn q hq)) eo10 epl10 b11;have hrs11:=LIs.but (LIs.same hrs9 sx) (fun v hv=>lne _ (hnl v hv)) eo10 epl10 b11;have hx11:SpO CP (L2.upd H10 pl (.lst (os.map V.ref++ [.ref x]))) x (j,vec,rc):=SpO.but (q:=(j,vec,rc)) ⟨dx2,va,ex,hva9.same sx⟩ (lne _ lv) eo10 epl10 b11;generalize L2.upd H10 pl (.lst (os.map V.ref++ [.ref x]))=H11 at b11 eo11 ekl11 eD11 ep11 hks11 hos11 hrs11 hx11⊢;refine q1 hfit _ ((((((zC.but s06 _).trans b7).trans (zC.but s8 _)).trans b9).trans (zC.but sx _)).trans b11) ?_;have etk:take j (e,c) st=⟨k,List.zipWith (fun f own=>zl (zR 1 f (-(own/rc)) vec) k) st.fixed (yV e c st.fixed),st.spent++ [(j,vec,rc)]⟩:=by
    unfold take;simp only [hpt];rw [if_neg (by omega)]
   rw [etk];exact ⟨dx,kl,D3,os++ [x],eo11,⟨ks,ekl11,hks11⟩,⟨rs,eD11,hrs11⟩,ep11,Paired.snoc' hos11 hx11⟩
  ·have rz:rc=0:=by
    have: ¬0<rc:=by simpa using cc
    omega
   refine q1 hfit _ (zC.but s06 _) ?_;have:take j (e,c) st=st:=by simp [take,hpt,rz]
   rw [this];exact SoO.same ⟨dx,sl,fl,os,eo,hsl,⟨as,efl,has⟩,epl,hos⟩ s06
def zHQ(CS CP CL:Addr):Sp:=fun vs H Q _=> ∃(o pl:Addr) (n:Nat) (st:Stt),vs= [.ref o] /\SoO CS CP CL H o pl n st/\n<=1000/\st.steps.length<=500/\st.fixed.length<=500/\(∀q∈st.steps,q.2.length=n)/\(∀f∈st.fixed,f.length=n)/\
 ∀r H',zC H H'->NewL H H' r->LL H' r (yp (st.steps.map (·.2)++st.fixed) n)->Q (.ref r) H'
theorem zPf:FnScope ["self"] ["self"] (zG (zy (top 25) 2)):=⟨rfl,rfl,rfl,by decide+kernel,rfl,by decide+kernel,by decide+kernel⟩
theorem zOz{f fW CS CP CL:Addr}{fd fdW:FuncData}(F:Fun K "rows_told" "Solution.rows_told" (zy (top 25) 2) f fd)(B:Bn mg)(T:LC K CL)(TS:SC K CS)
  (FW:Fun K "rows_of" "rows_of" zFi fW fdW) (bW:zK K fdW ["vectors","count"] []) (mW:mg "rows_of" =some (.ref fW)) (GW:FnOk P w K mg base CX0 1 fW fdW ["vectors","count"] zHq):FnOk P w K mg base CX0 2 f fd ["self"] (zHQ CS CP CL):=by
 refine F.ok zPf (fun vs H Q E h=>?_) (fun cdv A outer s H vs Q E hr h=>?_)
 ·obtain ⟨o,pl,n,st,rfl,_⟩:=h;rfl
 ·obtain ⟨o,pl,n,st,rfl,⟨dx,sl,fl,os,eo,⟨ss,esl,hss⟩,⟨as,efl,has⟩,epl,hos⟩,hn,l1,l2,n1,n2,q⟩:=h;have hr1:Room 1 _:=hr;have ls:=Paired.len hss;have la:=Paired.len has;refine ⟨_,QB.out (zH
   (zO (zJ GW hr1 rfl mW FW.kp bW .nil zL (qc (zEH (zj (cl:= []) ["step"] [] [] rfl (zn (K:=K) rfl (zu (K:=K) rfl (qw 0 rfl) rfl)) rfl (by decide+kernel) rfl (by decide+kernel) (fun _ _ h=>nomatch h) rfl (fun j y i h=>nomatch h) (zQ rfl) (fun _ _ _ _=>(zM 0 (show (["step"] :List Str).Nodup by decide+kernel) rfl (.inl rfl) (.inr rfl))) (fun _ _ _ _=>zo) (fun _ _ _ _=>(zu (K:=K) rfl (qw 0 rfl) rfl)) (fun _=>rfl)) (zu (K:=K) rfl (qw 0 rfl) rfl)) (qc (zu (K:=K) rfl (qw 0 rfl) rfl) zD rfl) rfl) rfl rfl rfl))),?_⟩
  refine ⟨_,rfl,o,CL,dx,_,_,rfl,eo,T.cl,T.n2,rfl,sl,rfl,⟨_,SqL.of esl⟩,fun D hD=>?_⟩;refine zV ss.length (fun i ys H'=> ∃vs:List Addr,i<=ss.length/\ys=vs.map V.ref/\vs.length=i/\LIs H vs ((st.steps.map (·.2)).take i)/\H'=L2.upd H D (.lst ys)) ⟨[],zSU _,rfl,rfl,by rw [List.take_zero];exact .nil,rfl⟩ (by rw [zSQ];omega) ?_ ?_ ?_
  ·rintro i ys H' hi ⟨vs,_,rfl,hl,_,rfl⟩;have e2:=zC.upd hD (o:= .lst (vs.map V.ref)) _ _ esl;exact ⟨by simp;omega,zB,fun h=>⟨_,_,SqL.of e2,zSF (by simpa using h)⟩,fun h=>⟨_,SqL.of e2,by simp;omega⟩⟩
  ·rintro i ys H' x H'' hi ⟨vs,_,rfl,hl,hvs,rfl⟩ ⟨rfl,hx⟩ pre hpre;obtain ⟨p0,rfl⟩:=yi hpre;have e2:=zC.upd hD (o:= .lst (vs.map V.ref));have hx':=hx _ (SqL.of (e2 _ _ esl));rw [zSK,zSF hi] at hx';cases hx';obtain ⟨⟨p,u⟩,eS,⟨dx',a,ho,hu⟩⟩:=Paired.get' hss (zSF hi);refine ⟨⟨[some (.ref ss[i])],rfl,rfl⟩,zm ?_⟩;refine ⟨_,rfl,ss[i],CS,dx',_,_,rfl,e2 _ _ ho,TS.cl,TS.n2,rfl,zB,vs++ [a],hi,by simp,by simp [hl],?_,by rw [yM]⟩;rw [zSc,zSK,eS];exact Paired.snoc' hvs hu
  ·rintro ys H' ⟨vs,_,rfl,hl,hvs,rfl⟩;rw [List.take_of_length_le (by simp;omega)] at hvs;have sD:=zC.upd hD (o:= .lst (vs.map V.ref));have eD:(L2.upd H D (.lst (vs.map V.ref))) D=_:=zB;refine ⟨_,rfl,o,CL,dx,_,_,rfl,sD _ _ eo,T.cl,T.n3,rfl,D,fl,_,_,rfl,rfl,eD,sD _ _ efl,by rw [zSQ];simp;omega,fun p hp=>?_⟩;have sp:=zC.upd hp (o:= .lst (vs.map V.ref++as.map V.ref));have s2:=sD.trans sp;refine ⟨_,rfl,o,CL,dx,_,_,rfl,s2 _ _ eo,T.cl,T.n1,rfl,p,_,n,rfl,⟨vs++as,by rw [zB,zSb],LIs.same (Paired.app hvs has) s2⟩,fun u hu=>?_,hn,by simp;omega,fun r H3 s3 hn3 h3=>q r H3 (s2.trans s3) (hn3.mono s2) h3⟩;rcases zTC.mp hu with z | z
   ·obtain ⟨q',hq',rfl⟩:=zTF.mp z;exact n1 q' hq'
   ·exact n2 u z
def zFY(CS CP CL:Addr):Sp:=fun vs H Q _=> ∃n m:Nat,vs= [.int (n:Int),.int (m:Int)] /\n<=1000/\m<=1000/\ ∀o pl H',zC H H'->H o=none->H pl=none->SoO CS CP CL H' o pl n (yB n m)->Q (.ref o) H'
theorem zKg:FnScope ["unknowns","names","steps"] ["unknowns","names"] (zG zEY):=⟨rfl,rfl,rfl,by decide+kernel,rfl,by decide+kernel,by decide+kernel⟩
theorem zOW(n:Nat):(List.replicate (n:Int).toNat [V.int 0]).flatten=(List.replicate n (0:Int)).map V.int:=by
 rw [Int.toNat_natCast]
 induction n with
 | zero=>rfl
 | succ n ih=>rw [List.replicate_succ,List.flatten_cons,ih,List.replicate_succ];rfl
theorem zOk{f fA fS fI CS CP CL:Addr}{fd fdA fdS fdI:FuncData}(F:Fun K "open_solution" "open_solution" zEY f fd)(B:Bn mg)(T:LC K CL)(TS:SC K CS)
  (FA:Fun K "one_at" "one_at" zGN fA fdA) (bA:zK K fdA ["place","length"] []) (mA:mg "one_at" =some (.ref fA)) (GA:FnOk P w K mg base CX0 1 fA fdA ["place","length"] zHH)
  (bS:zK K fdS ["self","place","vector"] []) (MS:Mk K CS fS) (mS:mg "Step" =some (.ref CS)) (GS:FnOk P w K mg base CX0 1 fS fdS ["self","place","vector"] (zEI CS))
  (bLs:zK K fdI ["self","unknowns","steps","fixed"] []) (MLs:Mk K CL fI) (mLs:mg "Solution" =some (.ref CL)) (GLs:FnOk P w K mg base CX0 1 fI fdI ["self","unknowns","steps","fixed"] (zGD CL)):FnOk P w K mg base CX0 3 f fd ["unknowns","names"] (zFY CS CP CL):=by
 refine F.ok zKg (fun vs H Q E h=>?_) (fun cdv A outer s H vs Q E hr h=>?_)
 ·obtain ⟨n,m,rfl,_⟩:=h;rfl
 ·obtain ⟨n,m,rfl,hn,hm,q⟩:=h;have hr1:Room 1 _:=hr.mono (by decide);have hr2:Room 2 _:=hr;refine ⟨_,QB.out (zE
   (zBE zAN 2 (by exact zKg.nd) rfl (Or.inl rfl) (.inr rfl) ["place"] ["unknowns"] [0] rfl (zBm rfl B.range (qc (qx 0 rfl) zD rfl) rfl) rfl (by decide+kernel) rfl (by decide+kernel) (zc rfl lk0) rfl (fr1 ⟨rfl,rfl,rfl,_,rfl,rfl⟩) (zQ rfl) (fun _ _ _ _=>(zM 0 (show (["place","unknowns"] :List Str).Nodup by decide+kernel) rfl (.inl rfl) (.inr rfl))) (fun _ _ _ _=>zo) (fun C s₂ H₂ fp xe E hp=>(zDk MS GS (hr2.mono (by decide)) rfl mS bS .nil zL (qc (qw 0 rfl) (qc (zJ GA hr1 rfl mA FA.kp bA .nil zL (qc (qw 0 rfl) (qc (qx 1 rfl) zD rfl) rfl) rfl rfl rfl) zD rfl) rfl) rfl rfl rfl)) (fun _=>rfl) rfl) (zH
   (zO (zDk MLs GLs (hr2.mono (by decide)) rfl mLs bLs .nil zL (qc (qx 0 rfl) (qc (qw 2 rfl) (qc (zj ["name"] ["unknowns"] [0] rfl (zBm rfl B.range (qc (qw 1 rfl) zD rfl) rfl) rfl (by decide+kernel) rfl (by decide+kernel) (zc rfl lk0) rfl (fr1 ⟨rfl,rfl,rfl,_,rfl,rfl⟩) (zQ rfl) (fun _ _ _ _=>(zM 0 (show (["name","unknowns"] :List Str).Nodup by decide+kernel) rfl (.inl rfl) (.inr rfl))) (fun _ _ _ _=>zo) (fun _ _ _ _=>(zNL (zAB (qc zF zD rfl)) (qx 1 rfl))) (fun _=>rfl)) zD rfl) rfl) rfl) rfl rfl rfl)))),?_⟩
  refine ⟨_,rfl,n,rfl,by omega,by omega,fun D hD=>?_⟩;refine zV n (fun i ys H'=> ∃os:List Addr,i<=n/\ys=os.map V.ref/\os.length=i/\StA CS H' os (((List.range n).map fun p=>(p,zP p n)).take i)/\zC H H'/\H' D=some (.lst ys)) ⟨[],zSU _,rfl,rfl,by rw [List.take_zero];exact .nil,zC.upd hD,zB⟩ (by rw [zSQ];omega) ?_ ?_ ?_
  ·rintro i ys H' hi ⟨os,_,rfl,hl,_,s1,e1⟩;exact ⟨by simp;omega,e1,fun h=>h,fun h=>Nat.le_of_eq h.symm⟩
  ·rintro i ys H' x H'' hi ⟨os,_,rfl,hl,hos,s1,e1⟩ ⟨rfl,hx⟩ pre hpre;obtain ⟨p0,rfl⟩:=yi hpre;rw [Int.zero_add] at hx;subst hx;refine ⟨⟨[some (.int (i:Int))],rfl,rfl⟩,zm ?_⟩;refine ⟨_,rfl,_,rfl,_,rfl,i,n,rfl,hn,fun l H2 s2 _ hl2=>?_⟩;intro x dx hx hdx hne;have sx:zC H2 (L2.upd (L2.upd (L2.upd H2 dx (.own x)) x (.ins CS dx [])) x (.ins CS dx [("place",.int (i:Int)),("vector",.ref l)])):=zC.store (zC.store (zC.upd hdx) hx) hx;have ex:(L2.upd (L2.upd (L2.upd H2 dx (.own x)) x (.ins CS dx [])) x (.ins CS dx [("place",.int (i:Int)),("vector",.ref l)])) x=some (.ins CS dx [("place",.int (i:Int)),("vector",.ref l)]):=zB;refine ⟨x,dx,_,_,rfl,zB,rfl,?_⟩;generalize L2.upd (L2.upd (L2.upd H2 dx (.own x)) x (.ins CS dx [])) x (.ins CS dx [("place",.int (i:Int)),("vector",.ref l)])=H3 at sx ex⊢;have s23:=s2.trans sx;have e3:=s23 _ _ e1;refine ⟨e3,os++ [x],hi,by simp,by simp [hl],?_,zC.store (s1.trans s23) hD,zB⟩;have hne: ∀p:Nat,zP p n≠ [] :=fun p z=>by have:=yS p n;rw [z] at this;simp at this;omega
   rw [zSc,show ((List.range n).map fun p=>(p,zP p n))[i]?=some (i,zP i n) by simp [hi]];refine Paired.snoc' (StA.store (StA.same hos s23) (fun q hq=>?_) e3) (StO.store (q:=(i,zP i n)) ⟨dx,l,ex,hl2.same sx⟩ (hne i) e3);obtain ⟨p,_,rfl⟩:=zTF.mp (List.mem_of_mem_take hq);exact hne p
  rintro ys H1 ⟨os,_,rfl,hl,hos,s1,e1⟩;rw [List.take_of_length_le (by simp)] at hos;refine ⟨_,rfl,_,rfl,_,rfl,m,rfl,by omega,by omega,fun D2 hD2=>?_⟩;refine zV m (fun i ys H'=> ∃as:List Addr,i<=m/\ys=as.map V.ref/\as.length=i/\D2∉as/\LIs H' as (List.replicate i (List.replicate n 0))/\zC H1 H'/\H' D2=some (.lst ys)) ⟨[],zSU _,rfl,rfl,by simp,.nil,zC.upd hD2,zB⟩ (by rw [zSQ];omega) ?_ ?_ ?_
  ·rintro i ys H' hi ⟨as,_,rfl,hl,_,_,s2,e2⟩;exact ⟨by simp;omega,e2,fun h=>h,fun h=>Nat.le_of_eq h.symm⟩
  ·rintro i ys H' x H'' hi ⟨as,_,rfl,hl,hnd,has,s2,e2⟩ ⟨rfl,hx⟩ pre hpre;obtain ⟨p0,rfl⟩:=yi hpre;subst hx;refine ⟨⟨[some (.int ((0:Int)+(i:Int)))],rfl,rfl⟩,zm ?_⟩;refine ⟨bs 1,fun l hl'=>?_⟩;have sl:=zC.upd hl' (o:= .lst [.int 0]);refine ⟨_,rfl,l,_,_,rfl,rfl,zB,by omega,by omega,by rw [zSQ];simp;omega,fun p hp=>?_⟩;rw [zOW];have sp:=sl.trans (zC.upd hp (o:= .lst ((List.replicate n (0:Int)).map V.int)));have hpD:p≠D2:=fun z=>by rw [z,sl _ _ e2] at hp;cases hp
   refine ⟨sp _ _ e2,as++ [p],hi,by simp,by simp [hl],by simp [hnd,Ne.symm hpD],?_,zC.store (s2.trans sp) hD2,zB⟩;rw [List.replicate_succ'];refine Paired.snoc' (Paired.mapM has fun a v hm ea=>?_) ?_
   ·show L2.upd _ D2 _ a=_;rw [zI fun z=>hnd (by rw [<-z];exact hm)];exact sp _ _ ea
   ·show L2.upd _ D2 _ p=_;rw [zI hpD];exact zB
  rintro ys H2 ⟨as,_,rfl,hl,_,has,s2,e2⟩;intro x dx hx hdx hne;have sx0:zC H2 (L2.upd (L2.upd H2 dx (.own x)) x (.ins CL dx [])):=zC.store (zC.upd hdx) hx;have ex0:(L2.upd (L2.upd H2 dx (.own x)) x (.ins CL dx [])) x=some (.ins CL dx []):=zB;refine ⟨x,dx,_,_,_,rfl,ex0,fun pl hpl=>⟨rfl,?_⟩⟩;have hpx:pl≠x:=fun z=>by rw [z,ex0] at hpl;cases hpl
  have hpl2:=zC.none sx0 hpl;have s3:zC H2 (L2.upd (L2.upd (L2.upd (L2.upd H2 dx (.own x)) x (.ins CL dx [])) pl (.lst [])) x (.ins CL dx [("unknowns",.int (n:Int)),("steps",.ref D),("fixed",.ref D2),("spent",.ref pl)])):=zC.store (sx0.trans (zC.upd hpl)) hx;have s13:=(s1.trans s2).trans s3;exact q x pl _ s13 (zC.none (s1.trans s2) hx) (zC.none (s1.trans s2) hpl2) ⟨dx,D,D2,[],zB,⟨os,(s2.trans s3) _ _ e1,StA.same hos (s2.trans s3)⟩,⟨as,s3 _ _ e2,LIs.same has s3⟩,by rw [zI hpx,zB];rfl,.nil⟩
def zHk:Sp:=fun vs H Q _=> ∃z m:Int,vs= [.int z,.int m] /\0<=m/\Bt 50000000 z/\Bt 50000000 m/\Q (.int (yq z m)) H
theorem zLH:FnScope ["number","modulus","rest"] ["number","modulus"] (zG zFn):=⟨rfl,rfl,rfl,by decide+kernel,rfl,by decide+kernel,by decide+kernel⟩
theorem zOt{f fO:Addr}{fd fdO:FuncData}(F:Fun K "nearest" "nearest" zFn f fd)(FO:Fun K "left_over" "left_over" zCd fO fdO)(bO:zK K fdO ["number","modulus"] [])(mO:mg "left_over" =some (.ref fO))(GO:FnOk P w K mg base CX0 1 fO fdO ["number","modulus"] zDG):FnOk P w K mg base CX0 2 f fd ["number","modulus"] zHk:=by
 refine F.ok zLH (fun vs H Q E h=>?_) (fun cdv A outer s H vs Q E hr h=>?_)
 ·obtain ⟨z,m,rfl,_⟩:=h;rfl
 ·obtain ⟨z,m,rfl,hm,bz,bm,q⟩:=h;have hr1:Room 1 _:=hr;have bl:=zAx bz hm bm;refine ⟨_,QB.out (zE
   (zT 2 zLH.nd rfl (zJ GO hr1 rfl mO FO.kp bO .nil zL (qc (qw 0 rfl) (qc (qw 1 rfl) zD rfl) rfl) rfl rfl rfl) rfl) (zH
   (zO (zFS (t_w (zER (zU zAb (qw 1 rfl) zF rfl) (zDD (zU zAb (zAR zF (qw 2 rfl)) (qw 1 rfl) rfl)))) (zES (qw 2 rfl) (qw 1 rfl)) (qw 2 rfl))))),?_⟩
  refine ⟨_,rfl,_,rfl,z,m,rfl,hm,?_⟩;refine ⟨_,rfl,_,_,rfl,rfl,_,rfl,?_⟩;unfold yq at q;refine yk (fun c=>?_) (fun c=>?_)
  ·have c1:0<m:=by simpa using c
   refine ⟨_,rfl,_,_,rfl,rfl,⟨yg (Bt.one.add Bt.one:Bt 2 (1+1)) (by decide),yg bl (by decide)⟩,_,rfl,_,_,rfl,rfl,_,rfl,?_⟩;refine yk (fun c=>?_) (fun c=>?_)
   ·have c2:m<2*FrV.lo z m:=by simpa using c
    rw [if_pos ⟨c1,c2⟩] at q;exact ⟨_,rfl,_,rfl,_,_,rfl,rfl,q⟩
   ·have c2: ¬m<2*FrV.lo z m:=by simpa using c
    rw [if_neg (fun h=>c2 h.2)] at q;exact ⟨_,rfl,q⟩
  ·have c1: ¬0<m:=by simpa using c
   rw [if_neg (fun h=>c1 h.1)] at q;exact ⟨_,rfl,q⟩
def zGT:Sp:=fun vs H Q _=> ∃(p:Addr) (f:Vec) (m:Int),vs= [.ref p,.int m] /\LI H p f/\f.length<=1000/\0<=m/\0<f.foldl yj m/\Bts 50000000 f/\Bt 50000000 m/\ ∀t l H',zC H H'->H' t=some (.tup [.ref l,.int (short f m).2])->H l=none->LI H' l (short f m).1->Q (.ref t) H'
theorem zDE:FnScope ["factors","modulus","divisor","factor","least"] ["factors","modulus"] (zG zCq):=⟨rfl,rfl,rfl,by decide+kernel,rfl,by decide+kernel,by decide+kernel⟩
theorem zMV{f fG fN:Addr}{fd fdG fdN:FuncData}(F:Fun K "shortened" "shortened" zCq f fd)(B:Bn mg)(ht:P.given.tree=none)
  (FG:Fun K "common_divisor" "common_divisor" zGb fG fdG) (bG:zK K fdG ["above","below"] []) (mG:mg "common_divisor" =some (.ref fG)) (GG:FnOk P w K mg base CX0 1 fG fdG ["above","below"] zHL)
  (FN:Fun K "nearest" "nearest" zFn fN fdN) (bN:zK K fdN ["number","modulus"] []) (mN:mg "nearest" =some (.ref fN)) (GN:FnOk P w K mg base CX0 2 fN fdN ["number","modulus"] zHk):FnOk P w K mg base CX0 34 f fd ["factors","modulus"] zGT:=by
 refine F.ok zDE (fun vs H Q E h=>?_) (fun cdv A outer s H vs Q E hr h=>?_)
 ·obtain ⟨p,f,m,rfl,_⟩:=h;rfl
 ·obtain ⟨p,f',m,rfl,hp,hn,hm,hd,bf,bm,q⟩:=h;have deep:DeepE (zAZ CX0 P w K mg base ["factors","modulus","divisor","factor","least"] "shortened" (zG zCq) f cdv A outer s H E):=zBb hr (by decide) ht rfl rfl;have hr1:Room 1 _:=hr.mono (by decide);have hr2:Room 2 _:=hr.mono (by decide);refine ⟨_,QB.out (zE
   (zCj 2 zDE.nd rfl (Or.inr rfl) (qw 1 rfl) rfl (.inl rfl)) (zE
   (zAd PassesOwn.never rfl (zn (K:=K) rfl (qw 0 rfl)) (zM 3 zDE.nd rfl (Or.inl rfl) (.inr rfl)) (zH
    (zq (zU yy (qw 3 rfl) zF rfl) (zH
     (zCj 2 zDE.nd rfl (Or.inr rfl) (zFS (zU yb (qx 2 rfl) zF rfl) (zt zIF rfl B.abs zLd (qc (qw 3 rfl) zD rfl) rfl) (zJ GG hr1 rfl mG FG.kp bG .nil zL (qc (qw 3 rfl) (qc (qx 2 rfl) zD rfl) rfl) rfl rfl rfl)) rfl (.inl rfl))) zf)) (fun _=>rfl)) (zE
   (zCj 4 zDE.nd rfl (Or.inr rfl) (zAL (deep.up rfl rfl rfl) (qw 1 rfl) (qx 2 rfl)) rfl (.inl rfl)) (zH
   (zO (zBw (qc (zj ["factor"] ["divisor","least"] [2,4] rfl (zn (K:=K) rfl (qw 0 rfl)) rfl (by decide+kernel) rfl (by decide+kernel) (zc rfl (zc rfl lk0)) rfl (fr2 ⟨rfl,rfl,rfl,_,rfl,rfl⟩ ⟨rfl,rfl,rfl,_,rfl,rfl⟩) (zQ rfl) (fun _ _ _ _=>(zM 0 (show (["factor","divisor","least"] :List Str).Nodup by decide+kernel) rfl (.inl rfl) (.inr rfl))) (fun _ _ _ _=>zo) (fun _ _ _ _=>(zJ GN hr2 rfl mN FN.kp bN .nil zL (qc (zAL (deep.up rfl rfl rfl) (qw 0 rfl) (qx 1 rfl)) (qc (qx 2 rfl) zD rfl) rfl) rfl rfl rfl)) (fun _=>rfl)) (qc (qx 4 rfl) zD rfl) rfl))))))),?_⟩
  refine ⟨_,rfl,_,rfl,p,rfl,⟨_,SqL.of hp⟩,?_⟩;refine zAH f'.length (fun i σ H'=> ∃s3:Option V,σ= [some (.ref p),some (.int m),some (.int ((f'.take i).foldl yj m)),s3,none] /\i<=f'.length/\H'=H) ⟨none,rfl,zSU _,rfl⟩ ?_ ?_ ?_ ?_
  ·rintro i σ H' hi ⟨s3,rfl,_,rfl⟩;exact ⟨_,_,SqL.of hp,zZ hi⟩
  ·rintro σ H' ⟨s3,rfl,_,rfl⟩;exact ⟨_,SqL.of hp,by simp⟩
  ·rintro i σ H' x H'' hi ⟨s3,rfl,_,rfl⟩ ⟨rfl,hx⟩;have hx':=hx _ (SqL.of hp);rw [zZ hi] at hx';cases hx';have ed:(f'.take (i+1)).foldl yj m=yj ((f'.take i).foldl yj m) (zA f' i):=by rw [zCA hi,List.foldl_append];rfl
   have d0:0<=(f'.take i).foldl yj m:=(zEd (f'.take i) hm).1;generalize (f'.take i).foldl yj m=d at ed d0⊢;refine ⟨_,rfl,rfl,_,rfl,?_⟩;rw [show yj d (zA f' i)=(if zA f' i=0 then d else if d=0 then ((zA f' i).natAbs:Int) else (Int.gcd (zA f' i) d:Int)) from rfl] at ed;refine yk (fun c=>?_) (fun c=>?_)
   ·have c0:zA f' i≠0:=by simpa using c
    rw [if_neg c0] at ed;refine ⟨_,rfl,rfl,_,rfl,?_⟩;refine yk (fun c=>?_) (fun c=>?_)
    ·have c1:d=0:=by simpa using c
     rw [if_pos c1] at ed;refine ⟨_,rfl,_,rfl,⟨some (.int (zA f' i)),?_,hi,rfl⟩⟩;rw [ed];have:(if zA f' i<0 then -(zA f' i) else zA f' i)=((zA f' i).natAbs:Int):=by split<;>omega
     rw [<-this];rfl
    ·have c1:d≠0:=by simpa using c
     rw [if_neg c1] at ed;refine ⟨_,rfl,_,rfl,_,_,rfl,by omega,⟨some (.int (zA f' i)),?_,hi,rfl⟩⟩;rw [ed];rfl
   ·have c0:zA f' i=0:=by simpa using c
    rw [if_pos c0] at ed;refine ⟨some (.int (zA f' i)),?_,hi,rfl⟩;rw [ed];rfl
  rintro σ H' ⟨s3,rfl,_,rfl⟩;rw [zSe];have e1:(short f' m).2=m/f'.foldl yj m:=rfl;have e2:(short f' m).1=f'.map fun x=>yq (x/f'.foldl yj m) (m/f'.foldl yj m):=rfl;rw [e1,e2] at q;generalize f'.foldl yj m=d at hd q⊢;have hm2:0<=m/d:=Int.ediv_nonneg hm (Int.le_of_lt hd);have bm2:=Bt.div bm hd;refine ⟨_,rfl,_,rfl,_,_,rfl,rfl,hd,?_⟩;refine ⟨_,rfl,p,rfl,⟨_,SqL.of hp⟩,fun D hD=>?_⟩;refine zV f'.length (fun i ys H2=>i<=f'.length/\ys=((f'.map fun x=>yq (x/d) (m/d)).take i).map V.int/\H2=L2.upd H' D (.lst ys)) ⟨zSU _,by simp,rfl⟩ (by rw [zSQ];omega) ?_ ?_ ?_
  ·rintro i ys H2 hi ⟨_,rfl,rfl⟩;have e2:=hp.same (zC.upd hD (o:= .lst (((f'.map fun x=>yq (x/d) (m/d)).take i).map V.int)));exact ⟨by simp;omega,zB,fun h=>⟨_,_,SqL.of e2,zZ h⟩,fun h=>⟨_,SqL.of e2,by simp;omega⟩⟩
  ·rintro i ys H2 x H3 hi ⟨_,rfl,rfl⟩ ⟨rfl,hx⟩ pre hpre;obtain ⟨p0,rfl⟩:=yi hpre;have hx':=hx _ (SqL.of (hp.same (zC.upd hD (o:= .lst (((f'.map fun x=>yq (x/d) (m/d)).take i).map V.int)))));rw [zZ hi] at hx';cases hx';refine ⟨⟨[some (.int (zA f' i))],rfl,rfl⟩,zm ?_⟩;refine ⟨_,rfl,_,rfl,_,_,rfl,rfl,hd,_,rfl,_,_,rfl,hm2,Bt.div (bf i) hd,bm2,zB,hi,?_,by rw [yM]⟩;rw [zSc,zSK,zBV hi];simp
  ·rintro ys H2 ⟨_,rfl,rfl⟩;rw [List.take_of_length_le (by simp)];have sD:=zC.upd hD (o:= .lst ((f'.map fun x=>yq (x/d) (m/d)).map V.int));refine ⟨_,rfl,by show 2<=sizeLine;decide,fun t ht=>?_⟩;have st:=zC.upd ht (o:= .tup [.ref D,.int (m/d)]);exact q t D _ (sD.trans st) zB hD (st _ _ zB)
theorem zQh{n m len M V':Nat}{q:Nat->Vec}{s:Spt}{c:Cl}(h:ClB M c)(lf:c.fac.length=len)(lt:c.tot.length=n+m)(hn:n<=12)(hq:(q s.1).length=n+m)(bq:Bts V' (q s.1))(hr:0<s.2.2)(bv:Bts V' s.2.1)(br:Bt V' s.2.2)(hM:V'<=M):
  ClB (M+3*V'+6) (turn n q len s c)/\(turn n q len s c).fac.length=len/\(turn n q len s c).tot.length=n+m:=by
 have bown:Bt (M+V'+4) (FrV.lo (dt (zA s.2.1) (c.tot.take n)) c.mod):=by
  refine zAx ?_ h.m0 (h.m.mono (by omega));have:=zCb (a:=V') (b:=M) (c.tot.take n) (zA s.2.1) 4 (by simp;omega) bv (fun i=>by
   rw [zBa];split
   ·exact h.t i
   ·exact Bt.zero)
  exact this.mono (by omega)
 have hg:0<(Int.gcd (FrV.lo (dt (zA s.2.1) (c.tot.take n)) c.mod) s.2.2:Int):=by
  have:=Int.gcd_pos_of_ne_zero_right (FrV.lo (dt (zA s.2.1) (c.tot.take n)) c.mod) (show s.2.2≠0 by omega);omega
 have hgd:(Int.gcd (FrV.lo (dt (zA s.2.1) (c.tot.take n)) c.mod) s.2.2:Int)∣s.2.2:=Int.gcd_dvd_right _ _;unfold turn;simp only;generalize FrV.lo (dt (zA s.2.1) (c.tot.take n)) c.mod=own at*;have bs':Bt V' (s.2.2/(Int.gcd own s.2.2:Int)):=Bt.div br hg;have s0:0<=s.2.2/(Int.gcd own s.2.2:Int):=Int.ediv_nonneg (Int.le_of_lt hr) (Int.le_of_lt hg);generalize s.2.2/(Int.gcd own s.2.2:Int)=scale at*;have bt:Bt (M+2*V'+4) (-(own*scale/s.2.2)):=(Bt.div ((bown.mul bs').mono (by omega)) hr).neg;have b0:0<=c.mod*scale:=Int.mul_nonneg h.m0 s0;have bm:Bt (M+3*V'+6) (c.mod*scale):=(h.m.mul bs').mono (by omega);refine ⟨⟨fun i=>?_,fun i=>?_,bm,b0⟩,by rw [zBI,zg lf (yS _ _)],by rw [zBI,zg lt hq]⟩
 ·rw [zBL,yo (by rw [lf,yS])];refine zAx (Bt.mono (Bt.add (a:=M+2*V'+5) ((bs'.mul (h.f i)).mono (by omega)) ?_) (by omega)) b0 bm;rw [yX];split
  ·rw [Int.mul_one];exact bt.mono (by omega)
  ·rw [Int.mul_zero];exact Bt.zero
 ·rw [zBL,yo (by rw [lt,hq])];exact zAx (Bt.mono (Bt.add (a:=M+3*V'+5) ((bs'.mul (h.t i)).mono (by omega)) ((bt.mul (bq i)).mono (by omega))) (by omega)) b0 bm
theorem zJD{n m len V':Nat}{q:Nat->Vec}(hn:n<=12): ∀(ss:List Spt) (M:Nat) (c:Cl),ClB M c->c.fac.length=len->c.tot.length=n+m->V'<=M->(∀s∈ss,(q s.1).length=n+m/\Bts V' (q s.1)/\0<s.2.2/\Bts V' s.2.1/\Bt V' s.2.2)->
  ClB (M+ss.length*(3*V'+6)) (ss.foldl (fun c s=>turn n q len s c) c)/\(ss.foldl (fun c s=>turn n q len s c) c).fac.length=len/\(ss.foldl (fun c s=>turn n q len s c) c).tot.length=n+m
 | [],M,c,h,lf,lt,_,_=>⟨by simpa using h,lf,lt⟩
 | s::ss,M,c,h,lf,lt,hM,hs=>by
  obtain ⟨h1,h2,h3,h4,h5⟩:=hs s (by simp);obtain ⟨t1,t2,t3⟩:=zQh (m:=m) h lf lt hn h1 h2 h3 h4 h5 hM;obtain ⟨r1,r2,r3⟩:=zJD hn ss (M+3*V'+6) (turn n q len s c) t1 t2 t3 (by omega) fun s' hs'=>hs s' (by simp [hs']);rw [List.foldl_cons];refine ⟨?_,r2,r3⟩;have:M+(s::ss).length*(3*V'+6)=M+3*V'+6+ss.length*(3*V'+6):=by rw [zTH,Nat.succ_mul];omega
  rw [this];exact r1
abbrev zW(Es:List Eqn):List Vec:=Es.map fun E=>E.1++E.2
theorem zDu{Es:List Eqn}{j:Nat}(h:j<Es.length):(zW Es)[j]?=some (whole Es j):=by
 rw [zSK,zSF h,zAC (zSF h)];rfl
structure CkOk(n m V':Nat)(Es:List Eqn)(st:Stt):Prop where
 nn:n<=12
 mm:m<=500
 le:Es.length<=500
 w: ∀j,j<Es.length->(whole Es j).length=n+m/\Bts V' (whole Es j)
 sp: ∀x∈st.spent,x.1<Es.length/\0<x.2.2/\x.2.1.length=n/\Bts V' x.2.1/\Bt V' x.2.2
 sl:st.spent.length<=12
def zGJ(CS CP CL:Addr):Sp:=fun vs H Q _=> ∃(o pl l:Addr) (j n m V':Nat) (r:Int) (Es:List Eqn) (st:Stt),vs= [.ref o,.ref l,.int (j:Int),.int r] /\SoO CS CP CL H o pl n st/\LL H l (zW Es)/\j<Es.length/\CkOk n m V' Es st/\V'<=1000000/\0<=r/\Bt V' r/\
 ∀t fl H',zC H H'->H' t=some (.tup [.ref fl,.int (st.spent.reverse.foldl (fun c s=>turn n (whole Es) Es.length s c) ⟨zP j Es.length,whole Es j,r⟩).mod])->LI H' fl (st.spent.reverse.foldl (fun c s=>turn n (whole Es) Es.length s c) ⟨zP j Es.length,whole Es j,r⟩).fac->
  ClB 40000000 (st.spent.reverse.foldl (fun c s=>turn n (whole Es) Es.length s c) ⟨zP j Es.length,whole Es j,r⟩)->Q (.ref t) H'
theorem zAK:FnScope ["solution","equations","number","reach","factors","total","modulus","spent","own","scale","times"] ["solution","equations","number","reach"] (zG zCx):=⟨rfl,rfl,rfl,by decide+kernel,rfl,by decide+kernel,by decide+kernel⟩
theorem zNB{f fA fO fR fK fG fT fM CS CP CL:Addr}{fd fdA fdO fdR fdK fdG fdT fdM:FuncData}(F:Fun K "clash_of" "clash_of" zCx f fd)(B:Bn mg)(ht:P.given.tree=none)(T:LC K CL)(TP:PC K CP)
  (FA:Fun K "one_at" "one_at" zGN fA fdA) (bA:zK K fdA ["place","length"] []) (mA:mg "one_at" =some (.ref fA)) (GA:FnOk P w K mg base CX0 1 fA fdA ["place","length"] zHH)
  (FO:Fun K "left_over" "left_over" zCd fO fdO) (bO:zK K fdO ["number","modulus"] []) (mO:mg "left_over" =some (.ref fO)) (GO:FnOk P w K mg base CX0 1 fO fdO ["number","modulus"] zDG)
  (FR:Fun K "reach_of" "reach_of" zCJ fR fdR) (bR:zK K fdR ["vector","marks"] []) (mR:mg "reach_of" =some (.ref fR)) (GR:FnOk P w K mg base CX0 1 fR fdR ["vector","marks"] zCz)
  (FK:Fun K "marks_of" "marks_of" zDC fK fdK) (bK:zK K fdK ["vector"] []) (mK:mg "marks_of" =some (.ref fK)) (GK:FnOk P w K mg base CX0 1 fK fdK ["vector"] zEZ)
  (FG:Fun K "common_divisor" "common_divisor" zGb fG fdG) (bG:zK K fdG ["above","below"] []) (mG:mg "common_divisor" =some (.ref fG)) (GG:FnOk P w K mg base CX0 1 fG fdG ["above","below"] zHL)
  (FT:Fun K "all_left_over" "all_left_over" zDs fT fdT) (bT:zK K fdT ["vector","modulus"] []) (mT:mg "all_left_over" =some (.ref fT)) (GT:FnOk P w K mg base CX0 2 fT fdT ["vector","modulus"] zGQ)
  (FM:Fun K "mixed" "mixed" zBk fM fdM) (bM:zK K fdM ["factor","one","other_factor","other"] []) (mM:mg "mixed" =some (.ref fM)) (GM:FnOk P w K mg base CX0 1 fM fdM ["factor","one","other_factor","other"] zBx):FnOk P w K mg base CX0 34 f fd ["solution","equations","number","reach"] (zGJ CS CP CL):=by
 refine F.ok zAK (fun vs H Q E h=>?_) (fun cdv A outer s H vs Q E hr h=>?_)
 ·obtain ⟨o,pl,l,j,n,m,V',r,Es,st,rfl,_⟩:=h;rfl
 ·obtain ⟨o,pl,l,j,n,m,V',r,Es,st,rfl,⟨dx,sl,fl,os,eo,hsl,hfl,epl,hos⟩,⟨as,el,has⟩,hj,ok,hV,r0,br,q⟩:=h;have deep:DeepE (zAZ CX0 P w K mg base ["solution","equations","number","reach","factors","total","modulus","spent","own","scale","times"] "clash_of" (zG zCx) f cdv A outer s H E):=zBb hr (by decide) ht rfl rfl;have hr1:Room 1 _:=hr.mono (by decide);have hr2:Room 2 _:=hr.mono (by decide);have nn:=ok.nn;have mm:=ok.mm;have lE:=ok.le;have sl12:=ok.sl;have la:as.length=Es.length:=by have:=Paired.len has;simpa using this
  have lo':=Paired.len hos;refine ⟨_,QB.out (zE
   (zT 4 zAK.nd rfl (zJ GA hr1 rfl mA FA.kp bA .nil zL (qc (qw 2 rfl) (qc (zt (zr (K:=K) rfl) rfl B.len yQ (qc (qw 1 rfl) zD rfl) rfl) zD rfl) rfl) rfl rfl rfl) rfl) (zE
   (zT 5 zAK.nd rfl (yw (K:=K) rfl (qw 1 rfl) (qw 2 rfl) (fun _ _=>rfl)) rfl) (zE
   (zT 6 zAK.nd rfl (qw 3 rfl) rfl) (zE
   (zAd PassesOwn.never rfl (zNn (K:=K) rfl rfl B.reversed (qc (zu (K:=K) rfl (qw 0 rfl) rfl) zD rfl) rfl) (zM 7 zAK.nd rfl (Or.inl rfl) (.inr rfl)) (zE
    (zT 8 zAK.nd rfl (zJ GO hr1 rfl mO FO.kp bO .nil zL (qc (zJ GR hr1 rfl mR FR.kp bR .nil zL (qc (zu (K:=K) rfl (qw 7 rfl) rfl) (qc (zJ GK hr1 rfl mK FK.kp bK .nil zL (qc (zBe (K:=K) rfl (qw 5 rfl) zAp (zAj (zu (K:=K) rfl (qw 0 rfl) rfl))) zD rfl) rfl rfl rfl) zD rfl) rfl) rfl rfl rfl) (qc (qw 6 rfl) zD rfl) rfl) rfl rfl rfl) rfl) (zE
    (zT 9 zAK.nd rfl (zAL (deep.up rfl rfl rfl) (zu (K:=K) rfl (qw 7 rfl) rfl) (zJ GG hr1 rfl mG FG.kp bG .nil zL (qc (qw 8 rfl) (qc (zu (K:=K) rfl (qw 7 rfl) rfl) zD rfl) rfl) rfl rfl rfl)) rfl) (zE
    (zT 10 zAK.nd rfl (zAL (deep.up rfl rfl rfl) (zAR (qw 8 rfl) (qw 9 rfl)) (zu (K:=K) rfl (qw 7 rfl) rfl)) rfl) (zE
    (zT 6 zAK.nd rfl (zAR (qw 6 rfl) (qw 9 rfl)) rfl) (zE
    (zT 5 zAK.nd rfl (zJ GT hr2 rfl mT FT.kp bT .nil zL (qc (zJ GM hr1 rfl mM FM.kp bM .nil zL (qc (qw 9 rfl) (qc (qw 5 rfl) (qc (zDW (qw 10 rfl)) (qc (yw (K:=K) rfl (qw 1 rfl) (zu (K:=K) rfl (qw 7 rfl) rfl) (fun _ _=>rfl)) zD rfl) rfl) rfl) rfl) rfl rfl rfl) (qc (qw 6 rfl) zD rfl) rfl) rfl rfl rfl) rfl) (zH
    (zT 4 zAK.nd rfl (zJ GT hr2 rfl mT FT.kp bT .nil zL (qc (zJ GM hr1 rfl mM FM.kp bM .nil zL (qc (qw 9 rfl) (qc (qw 4 rfl) (qc (zDW (qw 10 rfl)) (qc (zJ GA hr1 rfl mA FA.kp bA .nil zL (qc (zu (K:=K) rfl (qw 7 rfl) rfl) (qc (zt (zr (K:=K) rfl) rfl B.len yQ (qc (qw 1 rfl) zD rfl) rfl) zD rfl) rfl) rfl rfl rfl) zD rfl) rfl) rfl) rfl) rfl rfl rfl) (qc (qw 6 rfl) zD rfl) rfl) rfl rfl rfl) rfl))))))) (fun _=>rfl)) (zH
   (zO (zBw (qc (qw 4 rfl) (qc (qw 6 rfl) zD rfl) rfl)))))))),?_⟩
  refine ⟨_,rfl,_,rfl,l,_,rfl,.inl (SqL.of el),j,Es.length,by rw [zSM,la];rfl,by omega,fun fa H1 s1 _ hfa=>?_⟩;obtain ⟨wj,ewj,hwj⟩:=Paired.getR has (zDu hj);refine ⟨_,rfl,_,rfl,l,_,_,_,rfl,rfl,SqL.of (s1 _ _ el),yf (by rw [zSK,ewj];rfl),?_⟩;refine ⟨_,rfl,?_⟩;refine ⟨_,rfl,o,CL,dx,_,_,rfl,s1 _ _ eo,T.cl,T.n4,rfl,pl,_,rfl,SqL.of (s1 _ _ epl),?_⟩;have hlen:(os.map V.ref).length=st.spent.length:=by simp;omega
  rw [hlen];have c0:ClB V' ⟨zP j Es.length,whole Es j,r⟩:=⟨fun i=>by
   show Bt V' (zA (zP j Es.length) i);rw [yX];split
   ·exact Bt.one
   ·exact Bt.zero,(ok.w j hj).2,br,r0⟩
  have hss: ∀s∈st.spent.reverse,(whole Es s.1).length=n+m/\Bts V' (whole Es s.1)/\0<s.2.2/\Bts V' s.2.1/\Bt V' s.2.2:=fun s hs=>by
   obtain ⟨z1,z2,z3,z4,z5⟩:=ok.sp s (List.mem_reverse.mp hs);exact ⟨(ok.w _ z1).1,(ok.w _ z1).2,z2,z4,z5⟩
  have bnd: ∀i,i<=12->V'+i*(3*V'+6)<=38000000:=fun i hi=>by
   have:=Nat.mul_le_mul_right (3*V'+6) hi;omega
  have turnsI: ∀i,i<=st.spent.length->ClB 38000000 ((st.spent.reverse.take i).foldl (fun c s=>turn n (whole Es) Es.length s c) ⟨zP j Es.length,whole Es j,r⟩)/\((st.spent.reverse.take i).foldl (fun c s=>turn n (whole Es) Es.length s c) ⟨zP j Es.length,whole Es j,r⟩).fac.length=Es.length/\((st.spent.reverse.take i).foldl (fun c s=>turn n (whole Es) Es.length s c) ⟨zP j Es.length,whole Es j,r⟩).tot.length=n+m:=fun i hi=>by
   obtain ⟨t1,t2,t3⟩:=zJD (m:=m) (V':=V') (len:=Es.length) (q:=whole Es) nn (st.spent.reverse.take i) V' ⟨zP j Es.length,whole Es j,r⟩ c0 (yS _ _) (ok.w j hj).1 (zSJ _) (fun s hs=>hss s (List.mem_of_mem_take hs));have b:=bnd (st.spent.reverse.take i).length (by simp;omega);exact ⟨⟨t1.f.mono b,t1.t.mono b,t1.m.mono b,t1.m0⟩,t2,t3⟩
  refine zAH st.spent.length (fun i σ H'=> ∃(c:Cl) (fa ta:Addr) (s7 s8 s9 s10:Option V),c=(st.spent.reverse.take i).foldl (fun c s=>turn n (whole Es) Es.length s c) ⟨zP j Es.length,whole Es j,r⟩/\σ= [some (.ref o),some (.ref l),some (.int (j:Int)),some (.int r),some (.ref fa),some (.ref ta),some (.int c.mod),s7,s8,s9,s10] /\i<=st.spent.length/\zC H H'/\LI H' fa c.fac/\LI H' ta c.tot) ⟨_,fa,wj,none,none,none,none,rfl,rfl,zSU _,s1,hfa,hwj.same s1⟩ ?_ ?_ ?_ ?_
  ·rintro i σ H' hi ⟨c,fa,ta,s7,s8,s9,s10,hc,rfl,_,s2,hf,htt⟩;exact ⟨hi,_,_,SqL.of (s2 _ _ epl),zSF (by simp;omega)⟩
  ·rintro σ H' _;exact zSJ _
  ·rintro i σ H' x H'' hi ⟨c,fa,ta,s7,s8,s9,s10,hc,rfl,_,s2,hf,htt⟩ ⟨rfl,hx⟩;have hx':=hx _ (SqL.of (s2 _ _ epl));have hjo:st.spent.length - 1 - i<os.length:=by omega
   rw [zSK,zSF hjo] at hx';cases hx';obtain ⟨⟨js,vec,rs⟩,eS,hso⟩:=Paired.get' hos (zSF hjo);obtain ⟨dx',va,eso,hva⟩:=hso;obtain ⟨z1,z2,z3,z4,z5⟩:=ok.sp (js,vec,rs) (zSj eS);simp only at z1 z2 z3 z4 z5;have eR:st.spent.reverse[i]?=some (js,vec,rs):=by rw [List.getElem?_reverse (by omega)];exact eS
   have eT:(st.spent.reverse.take (i+1)).foldl (fun c s=>turn n (whole Es) Es.length s c) ⟨zP j Es.length,whole Es j,r⟩=turn n (whole Es) Es.length (js,vec,rs) c:=by
    rw [zSc,eR,List.foldl_append,<-hc];rfl
   obtain ⟨tb,tf,tt⟩:=turnsI i (by omega);obtain ⟨tb',_⟩:=turnsI (i+1) hi;rw [<-hc] at tb tf tt;rw [eT] at tb';obtain ⟨ws,ews,hws⟩:=Paired.getR has (zDu z1);obtain ⟨wl,wb⟩:=ok.w js z1;have eo2:=s2 _ _ eo;have eso2:=s2 _ _ eso;refine ⟨_,rfl,os[st.spent.length - 1 - i],CP,dx',_,_,rfl,eso2,TP.cl,TP.n2,rfl,_,rfl,_,rfl,o,CL,dx,_,_,rfl,eo2,T.cl,T.n1,rfl,_,rfl,ta,_,rfl,SqL.of htt,fun p1 hp1=>?_⟩;rw [zEM (by omega)] at*;obtain ⟨H3,g3,s3,e3⟩:=zBQ hp1 (.lst ((c.tot.take n).map V.int));rw [g3];refine ⟨p1,c.tot.take n,rfl,e3,by simp;omega,fun mk H4 s4 hmk=>?_⟩;have s34:=s3.trans s4;have btk:Bts 38000000 (c.tot.take n):=fun i=>by
    rw [zBa];split
    ·exact tb.t i
    ·exact Bt.zero
   refine ⟨va,mk,vec,c.tot.take n,rfl,(hva.same s2).same s34,hmk,by simp;omega,by omega,z4.mono (by omega),btk.mono (by omega),fun H5 s5=>?_⟩;have s35:=s34.trans s5;refine ⟨_,rfl,_,_,rfl,tb.m0,?_⟩;have etr:turn n (whole Es) Es.length (js,vec,rs) c=⟨los (zR (rs/(Int.gcd (FrV.lo (dt (zA vec) (c.tot.take n)) c.mod) rs:Int)) c.fac (-(FrV.lo (dt (zA vec) (c.tot.take n)) c.mod*(rs/(Int.gcd (FrV.lo (dt (zA vec) (c.tot.take n)) c.mod) rs:Int))/rs)) (zP js Es.length)) (c.mod*(rs/(Int.gcd (FrV.lo (dt (zA vec) (c.tot.take n)) c.mod) rs:Int))),los (zR (rs/(Int.gcd (FrV.lo (dt (zA vec) (c.tot.take n)) c.mod) rs:Int)) c.tot (-(FrV.lo (dt (zA vec) (c.tot.take n)) c.mod*(rs/(Int.gcd (FrV.lo (dt (zA vec) (c.tot.take n)) c.mod) rs:Int))/rs)) (whole Es js)) (c.mod*(rs/(Int.gcd (FrV.lo (dt (zA vec) (c.tot.take n)) c.mod) rs:Int))),c.mod*(rs/(Int.gcd (FrV.lo (dt (zA vec) (c.tot.take n)) c.mod) rs:Int))⟩:=rfl;have bown:Bt 40000000 (FrV.lo (dt (zA vec) (c.tot.take n)) c.mod):=by
    refine zAx ?_ tb.m0 (tb.m.mono (by omega));exact (zCb (c.tot.take n) (zA vec) 4 (by simp;omega) z4 btk).mono (by omega)
   generalize FrV.lo (dt (zA vec) (c.tot.take n)) c.mod=own at etr bown⊢;have hg:0<(Int.gcd own rs:Int):=by
    have:=Int.gcd_pos_of_ne_zero_right own (show rs≠0 by omega);omega
   have bsc:Bt V' (rs/(Int.gcd own rs:Int)):=Bt.div z5 hg;have sc0:0<=rs/(Int.gcd own rs:Int):=Int.ediv_nonneg (Int.le_of_lt z2) (Int.le_of_lt hg);have s25:=s2.trans s35;refine ⟨_,rfl,os[st.spent.length - 1 - i],CP,dx',_,_,rfl,s35 _ _ eso2,TP.cl,TP.n3,rfl,_,rfl,_,rfl,os[st.spent.length - 1 - i],CP,dx',_,_,rfl,s35 _ _ eso2,TP.cl,TP.n3,rfl,_,_,rfl,z2,_,_,rfl,rfl,hg,?_⟩;generalize rs/(Int.gcd own rs:Int)=scale at etr bsc sc0⊢;refine ⟨_,rfl,_,rfl,_,_,rfl,rfl,⟨yg bown (by decide),yg (b:=V') bsc (by omega)⟩,_,rfl,os[st.spent.length - 1 - i],CP,dx',_,_,rfl,s35 _ _ eso2,TP.cl,TP.n3,rfl,_,_,rfl,rfl,z2,?_⟩;have bti:Bt 41000000 (-(own*scale/rs)):=(Bt.div ((bown.mul bsc).mono (by omega)) z2).neg;refine ⟨_,rfl,_,rfl,_,_,rfl,rfl,⟨yg tb.m (by decide),yg (b:=V') bsc (by omega)⟩,?_⟩;have m0:0<=c.mod*scale:=Int.mul_nonneg tb.m0 sc0;refine ⟨_,rfl,_,rfl,_,rfl,_,rfl,_,rfl,_,rfl,os[st.spent.length - 1 - i],CP,dx',_,_,rfl,s35 _ _ eso2,TP.cl,TP.n1,rfl,l,_,_,_,rfl,rfl,SqL.of (s25 _ _ el),yf (by rw [zSK,ews];rfl),scale,-(own*scale/rs),ta,ws,c.tot,whole Es js,rfl,htt.same s35,hws.same s25,by omega,by omega,bsc.mono (by omega),bti.mono (by omega),tb.t.mono (by omega),wb.mono (by omega),fun mt H6 s6 _ hmt=>?_⟩;refine ⟨_,rfl,mt,_,_,rfl,hmt,by rw [zg tt wl];omega,m0,fun nt H7 s7 _ hnt=>?_⟩;have s27:=(s25.trans s6).trans s7;have s57:=s6.trans s7;refine ⟨_,rfl,_,rfl,_,rfl,_,rfl,_,rfl,os[st.spent.length - 1 - i],CP,dx',_,_,rfl,(s35.trans s57) _ _ eso2,TP.cl,TP.n1,rfl,_,rfl,l,_,rfl,.inl (SqL.of (s27 _ _ el)),js,Es.length,by rw [zSM,la];rfl,by omega,fun oa H8 s8 _ hoa=>?_⟩;refine ⟨scale,-(own*scale/rs),fa,oa,c.fac,zP js Es.length,rfl,(hf.same (s35.trans s57)).same s8,hoa,by rw [tf,yS],by omega,bsc.mono (by omega),bti.mono (by omega),tb.f.mono (by omega),fun i=>?_,fun mf H9 s9 _ hmf=>?_⟩
   ·rw [yX];split
    ·exact Bt.one
    ·exact Bt.zero
   refine ⟨_,rfl,mf,_,_,rfl,hmf,by rw [zg tf (yS _ _)];omega,m0,fun nf H10 s10 _ hnf=>?_⟩;have s710:=(s8.trans s9).trans s10;refine ⟨_,nf,nt,_,_,_,_,eT.symm,by rw [etr];rfl,hi,s27.trans s710,by rw [etr];exact hnf,by rw [etr];exact hnt.same s710⟩
  ·rintro σ H' ⟨c,fa,ta,s7,s8,s9,s10,hc,rfl,_,s2,hf,htt⟩;rw [List.take_of_length_le (by simp)] at hc;obtain ⟨tb,_⟩:=turnsI st.spent.length (zSJ _);rw [List.take_of_length_le (by simp)] at tb;refine ⟨_,rfl,_,rfl,by show 2<=sizeLine;decide,fun t ht=>?_⟩;have stt:=zC.upd ht (o:= .tup [.ref fa,.int c.mod]);refine q t fa _ (s2.trans stt) (by rw [<-hc];exact zB) (by rw [<-hc];exact hf.same stt) ⟨tb.f.mono (by decide),tb.t.mono (by decide),tb.m.mono (by decide),tb.m0⟩
structure SvOk(n m b:Nat)(Es:List Eqn):Prop where
 ok:EqOk n m b Es
 nn:n<=6
 mm:m<=100
 le:Es.length<=12
 bb:b<=5000
theorem zOA{M:Nat}{z l:Int}(hz:Bt M z)(hl:Bt M l)(l0:0<=l):Bt M (yq z l):=by
 have h:=zAx hz l0 hl;unfold yq;split
 ·rename_i c
  have h1:=zSX z (b:=l) (by omega);have h2:=zSR z (b:=l) (by omega);have e:FrV.lo z l=z % l:=by unfold FrV.lo;rw [if_neg (by omega)]
  rw [e];exact hl.le (by omega)
 ·exact h
theorem zMt{M:Nat}{f:Vec}{m:Int}(hf:Bts M f)(hm:Bt M m)(m0:0<=m)(hd:0<f.foldl yj m):Bts M (short f m).1:=fun i=>by
 rw [show (short f m).1=f.map fun x=>yq (x/f.foldl yj m) (m/f.foldl yj m) from rfl];show Bt M (((f.map fun x=>yq (x/f.foldl yj m) (m/f.foldl yj m))[i]?).getD 0);rw [zSK];cases e:f[i]? with
 | none=>exact zSU _
 | some x=>
  have hx:Bt M x:=by have:=hf i;simpa [zA,e] using this
  exact zOA (Bt.div hx hd) (Bt.div hm hd) (Int.ediv_nonneg m0 (Int.le_of_lt hd))
def zAz(H:Hp)(Q:VK)(n m:Nat)(Es:List Eqn):Prop:=match yN n (whole Es) Es.length 0 Es (yB n m) with
 | .inl st=> ∀t r H',zC H H'->H' t=some (.tup [.str "solved",.int (st.steps.length:Int),.ref r])->NewL H H' r->LL H' r (yp (st.steps.map (·.2)++st.fixed) n)->Q (.ref t) H'
 | .inr (f,d)=> ∀t fl H',zC H H'->H' t=some (.tup [.str "clash",.ref fl,.int d])->H fl=none->LI H' fl f->Bts 50000000 f->Q (.ref t) H'
def zHK:Sp:=fun vs H Q _=> ∃(l:Addr) (n m b:Nat) (Es:List Eqn),vs= [.int (n:Int),.int (m:Int),.ref l] /\LL H l (zW Es)/\SvOk n m b Es/\zAz H Q n m Es
theorem zDV:FnScope ["unknowns","names","equations","solution","number","equation","reach","found","short"] ["unknowns","names","equations"] (zG zGI):=⟨rfl,rfl,rfl,by decide+kernel,rfl,by decide+kernel,by decide+kernel⟩
theorem zEX{b:Nat}{u v:Vec}(h1:Bts b u)(h2:Bts b v):Bts b (u++v):=fun i=>by
 by_cases h:i<u.length
 ·have:zA (u++v) i=zA u i:=by simp [zA,List.getElem?_append_left h]
  rw [this];exact h1 i
 ·have:zA (u++v) i=zA v (i - u.length):=by simp [zA,List.getElem?_append_right (show u.length<=i by omega)]
  rw [this];exact h2 _
theorem zJE{n:Nat}: ∀{S:List Stp} {a:Nat},Ech n S->(∀q∈S,a<=q.1)->S.length+a<=n\/S= []
 | [],_,_,_=> .inr rfl
 |(p,v)::S,a,⟨h1,h2,h3,h4,h5,h6⟩,ha=>by
  have hp:=ha (p,v) (by simp);simp only at hp;rcases zJE (a:=p+1) h6 (fun q hq=>h5 q hq) with h | h
  ·exact .inl (by simp only [zTH];omega)
  ·subst h;exact .inl (by simp;omega)
theorem zFQ{n:Nat}{S:List Stp}(h:Ech n S):S.length<=n:=by
 rcases zJE (a:=0) h (fun _ _=>zSU _) with h | h
 ·omega
 ·rw [h];exact zSU _
theorem zQC{f fU fC fH fT fW CS CP CL:Addr}{fd fdU fdC fdH fdT fdW:FuncData}(F:Fun K "solution_of" "solution_of" zGI f fd)(B:Bn mg)(T:LC K CL)
  (FU:Fun K "open_solution" "open_solution" zEY fU fdU) (bU:zK K fdU ["unknowns","names"] []) (mU:mg "open_solution" =some (.ref fU)) (GU:FnOk P w K mg base CX0 3 fU fdU ["unknowns","names"] (zFY CS CP CL))
  (FC:Fun K "clash_of" "clash_of" zCx fC fdC) (bC:zK K fdC ["solution","equations","number","reach"] []) (mC:mg "clash_of" =some (.ref fC)) (GC:FnOk P w K mg base CX0 34 fC fdC ["solution","equations","number","reach"] (zGJ CS CP CL))
  (FH:Fun K "shortened" "shortened" zCq fH fdH) (bH:zK K fdH ["factors","modulus"] []) (mH:mg "shortened" =some (.ref fH)) (GH:FnOk P w K mg base CX0 34 fH fdH ["factors","modulus"] zGT)
  (mtT:Meth K CL "take_in" fT) (bT:zK K fdT ["self","number","equation"] []) (GT:FnOk P w K mg base CX0 36 fT fdT ["self","number","equation"] (zFb CS CP CL))
  (mtW:Meth K CL "rows_told" fW) (bW:zK K fdW ["self"] []) (GW:FnOk P w K mg base CX0 2 fW fdW ["self"] (zHQ CS CP CL)):FnOk P w K mg base CX0 37 f fd ["unknowns","names","equations"] zHK:=by
 have cl:=T.cl;refine F.ok zDV (fun vs H Q E h=>?_) (fun cdv A outer s H vs Q E hr h=>?_)
 ·obtain ⟨l,n,m,b,Es,rfl,_⟩:=h;rfl
 ·obtain ⟨l,n,m,b,Es,rfl,⟨as,el,has⟩,ok,q⟩:=h;have hr2:Room 2 _:=hr.mono (by decide);have hr3:Room 3 _:=hr.mono (by decide);have hr34:Room 34 _:=hr.mono (by decide);have hr36:Room 36 _:=hr;have la:as.length=Es.length:=by have:=Paired.len has;simpa using this
  have nn:=ok.nn;have mm:=ok.mm;have lE:=ok.le;have bb:=ok.bb;have eo:=ok.ok;have hV:VB6 b<=1000000:=by unfold VB6;omega
  have hbV:b<=VB6 b:=by unfold VB6;omega
  refine ⟨_,QB.out (zE
   (zT 3 zDV.nd rfl (zJ GU hr3 rfl mU FU.kp bU .nil zL (qc (qw 0 rfl) (qc (qw 1 rfl) zD rfl) rfl) rfl rfl rfl) rfl) (zE
   (zAd PassesOwn.never rfl (zHW (K:=K) rfl rfl B.enumerate (qc (qw 2 rfl) zD rfl) rfl) (zBO (K:=K) (n:=2) rfl rfl (yK (zM 4 zDV.nd rfl (Or.inl rfl) (.inr rfl)) (yK (zM 5 zDV.nd rfl (Or.inl rfl) (.inr rfl)) zBW rfl) rfl) rfl rfl) (zE
    (zT 6 zDV.nd rfl (zLI (qw 3 rfl) cl mtT GT hr36 bT .nil zL (qc (qw 4 rfl) (qc (qw 5 rfl) zD rfl) rfl) rfl rfl rfl) rfl) (zH
    (zq (zFs (qw 6 rfl) rfl) (zE
     (zT 7 zDV.nd rfl (zJ GC hr34 rfl mC FC.kp bC .nil zL (qc (qw 3 rfl) (qc (qw 2 rfl) (qc (qw 4 rfl) (qc (qw 6 rfl) zD rfl) rfl) rfl) rfl) rfl rfl rfl) rfl) (zE
     (zT 8 zDV.nd rfl (zJ GH hr34 rfl mH FH.kp bH .nil zL (qc (zx (K:=K) rfl (qw 7 rfl) zF (fun _ _=>rfl)) (qc (zx (K:=K) rfl (qw 7 rfl) zF (fun _ _=>rfl)) zD rfl) rfl) rfl rfl rfl) rfl) (zH
     (zO (zBw (qc zBt (qc (zx (K:=K) rfl (qw 8 rfl) zF (fun _ _=>rfl)) (qc (zx (K:=K) rfl (qw 8 rfl) zF (fun _ _=>rfl)) zD rfl) rfl) rfl)))))) zf))) (fun _=>rfl)) (zH
   (zO (zBw (qc zBt (qc (zt (zr (K:=K) rfl) rfl B.len yQ (qc (zu (K:=K) rfl (qw 3 rfl) rfl) zD rfl) rfl) (qc (zPD (qw 3 rfl) cl mtW GW hr2 bW .nil zL rfl) zD rfl) rfl) rfl)))))),?_⟩
  refine ⟨_,rfl,_,rfl,n,m,rfl,by omega,by omega,fun o pl H1 s1 ho hpl hso=>?_⟩;refine ⟨_,rfl,l,rfl,⟨_,SqL.of (s1 _ _ el)⟩,?_⟩;refine zAH Es.length (fun i σ H'=> ∃(st:Stt) (s4 s5 s6 s7 s8:Option V),σ= [some (.int (n:Int)),some (.int (m:Int)),some (.ref l),some (.ref o),s4,s5,s6,s7,s8] /\zC H H'/\SoO CS CP CL H' o pl n st/\Run n m b Es i st/\yN n (whole Es) Es.length 0 Es (yB n m)=yN n (whole Es) Es.length i (Es.drop i) st) ⟨_,none,none,none,none,none,rfl,s1,hso,Run.start n m b Es,rfl⟩ ?_ ?_ ?_ ?_
  ·rintro i σ H' hi ⟨st,s4,s5,s6,s7,s8,rfl,s2,hs,hR,hrun⟩;exact ⟨_,_,SqL.of (s2 _ _ el),zSF (by simp;omega)⟩
  ·rintro σ H' ⟨st,s4,s5,s6,s7,s8,rfl,s2,hs,hR,hrun⟩;exact ⟨_,SqL.of (s2 _ _ el),by simp;omega⟩
  ·rintro i σ H' x H'' hi ⟨st,s4,s5,s6,s7,s8,rfl,s2,hs,hR,hrun⟩ ⟨t,y,hy,ht,rfl,rfl⟩;have hy':=hy _ (SqL.of (s2 _ _ el));have hia:i<as.length:=by omega
   rw [zSK,zSF hia] at hy';cases hy';obtain ⟨wv,ew,hw⟩:=Paired.get' has (zSF hia);have hE:Es[i]?=some Es[i] :=zSF hi;have hEm:Es[i] ∈Es:=zSk hi;rw [zSK,hE] at ew;cases ew;have st2:=zC.upd ht (o:= .tup [.int (i:Int),.ref as[i]]);have s3:=s2.trans st2;have pk:=hR.partOk eo nn hEm;have tk:TkOk n m (VB6 b) Es[i] st:=⟨eo.l1 _ hEm,eo.l2 _ hEm,by omega,by omega,hR.sol.ech,zST (zFQ hR.sol.ech) (by omega),hR.sol.fl,fun f' hf=>⟨hR.sol.fn f' hf,hR.sol.fixedB (eo.take i) nn hf⟩,pk,(eo.b2 _ hEm).mono hbV,by have:=hR.sl;omega,fun x hx=>(hR.sp x hx).2.2.1⟩;have hd:Es.drop i=Es[i] ::Es.drop (i+1):=List.drop_eq_getElem_cons hi;refine ⟨t,_,rfl,SqT.of zB,rfl,_,_,rfl,_,_,rfl,rfl,?_⟩;obtain ⟨dx,sl,fl,os,eo',z2,z3,z4,z5⟩:=SoO.same hs st2;have hs3:SoO CS CP CL _ o pl n st:=⟨dx,sl,fl,os,eo',z2,z3,z4,z5⟩;refine ⟨_,rfl,o,dx,_,rfl,eo',rfl,_,rfl,_,rfl,o,pl,as[i],i,n,m,VB6 b,Es[i],st,rfl,hs3,hw.same s3,tk,by omega,fun hf H4 b4 hs4=>?_,fun hf H4 s4'=>?_⟩
   ·
    have s4':zC H H4:=But.same s3 b4 (by intro a ha;simp at ha;rcases ha with rfl | rfl;exact ho;exact hpl);refine ⟨_,rfl,_,rfl,yh (by rfl) ?_⟩;refine ⟨_,_,_,_,_,_,rfl,s4',hs4,hR.next eo nn hE hf,?_⟩;rw [hrun,hd,zEx hf]
   ·
    have s5':=s3.trans s4';have hr0:0<=(FrV.part Es[i].1 st.steps).2.2:=(ze (e:=Es[i].1) hR.sol.ech).r0;have hrb:=pk.r _ List.suffix_rfl;have hck:CkOk n m (VB6 b) Es st:=⟨by omega,by omega,by omega,fun j hj=>by
     have hjm:Es[j] ∈Es:=zSk hj;rw [zAC (zSF hj)];exact ⟨by simp [eo.l1 _ hjm,eo.l2 _ hjm],(zEX (eo.b1 _ hjm) (eo.b2 _ hjm)).mono hbV⟩,fun x hx=>by
     obtain ⟨y1,y2⟩:=hR.sp x hx;exact ⟨by omega,y2⟩,by have:=hR.sl;omega⟩
    have hrs:=zAO eo nn (Es.drop i) i st hR rfl;rw [hd,zDI hf] at hrs;obtain ⟨k,hk,hcl⟩:=hrs;rw [hd,zDI hf] at hrun;refine ⟨_,rfl,_,rfl,zCe (by rfl) ?_⟩;refine ⟨_,rfl,_,rfl,_,rfl,_,rfl,o,pl,l,i,n,m,VB6 b,_,Es,st,rfl,SoO.same hs3 s4',LL.same ⟨as,el,has⟩ s5',hi,hck,hV,hr0,hrb,fun t2 fa H5 s5 et2 hfa hcb=>?_⟩;have hC:st.spent.reverse.foldl (fun c s=>turn n (whole Es) Es.length s c) ⟨zP i Es.length,whole Es i,(FrV.part Es[i].1 st.steps).2.2⟩=zBR n (whole Es) Es.length i Es[i] st:=rfl;rw [hC] at et2 hfa hcb;have hcl0: ∃k,Clash n k Es.length (whole Es) (zBR n (whole Es) Es.length i Es[i] st).fac (zBR n (whole Es) Es.length i Es[i] st).mod:=by
     obtain ⟨k,Fv,hF,I⟩:=zEf (len:=Es.length) (q:=whole Es) (j:=i) hR.sol (eo.l2 _ hEm) (eo.l1 _ hEm) (zAC hE) hi hf;obtain ⟨L',hL',I'⟩:=zGf (ss:=st.spent.reverse) hR.chn I (fun x hx=>by
      obtain ⟨x1,_⟩:=hR.sp x (List.mem_reverse.mp hx);have hx':x.1<Es.length:=by omega
      have eE:Es[x.1]?=some Es[x.1] :=zSF hx';have hEm':=zSk hx';refine ⟨hx',(hck.w _ hx').1,?_⟩;have:=hR.sol.fx k Fv hF Es[x.1] (by
       refine zSj (i:=x.1) ?_;rw [List.getElem?_take,if_pos x1,eE])
      rw [zAC eE];have t1:(Es[x.1].1++Es[x.1].2).take n=Es[x.1].1:=by rw [<-eo.l1 _ hEm'];simp
      have t2:zA (Es[x.1].1++Es[x.1].2) (n+k)=zA Es[x.1].2 k:=by
       simp only [zA,zTG];rw [List.getElem?_append_right (by rw [eo.l1 _ hEm'];omega)];congr 2;rw [eo.l1 _ hEm'];omega
      rw [t1,t2];exact this)
     exact ⟨k,Clash.of I' hL' (fun i hi=>yD (by rw [hR.sol.fn Fv (zSj hF)];exact hi))⟩
    obtain ⟨k0,hcl0⟩:=hcl0;have hdv:=hcl0.short.2;have lfa:=hcl0.fl;generalize zBR n (whole Es) Es.length i Es[i] st=c at et2 hfa hcb hdv lfa hrun;refine ⟨_,rfl,t2,_,_,_,rfl,rfl,SqT.of et2,rfl,_,rfl,t2,_,_,_,rfl,rfl,SqT.of et2,rfl,fa,c.fac,c.mod,rfl,hfa,by omega,hcb.m0,hdv,hcb.f.mono (by decide),hcb.m.mono (by decide),fun t3 ls H6 s6 et3 nls hls=>?_⟩;refine ⟨_,rfl,t3,_,_,_,rfl,rfl,SqT.of et3,rfl,_,rfl,t3,_,_,_,rfl,rfl,SqT.of et3,rfl,by show 3<=sizeLine;decide,fun t4 ht4=>?_⟩;unfold zAz at q;rw [hrun] at q;have st4:=zC.upd ht4 (o:= .tup [.str "clash",.ref ls,.int (short c.fac c.mod).2]);exact q t4 ls _ (((s5'.trans s5).trans s6).trans st4) zB (zC.none (s5'.trans s5) nls) (hls.same st4) (zMt (hcb.f.mono (by decide)) (hcb.m.mono (by decide)) hcb.m0 hdv)
  ·rintro σ H' ⟨st,s4,s5,s6,s7,s8,rfl,s2,hs,hR,hrun⟩;rw [List.drop_length,yN] at hrun;unfold zAz at q;rw [hrun] at q;simp only at q;have hs':=hs;obtain ⟨dx,sl,fl,os,eo',⟨ss,esl,hss⟩,z3,z4,z5⟩:=hs';have lss:=Paired.len hss;refine ⟨_,rfl,o,CL,dx,_,_,rfl,eo',T.cl,T.n2,rfl,sl,_,rfl,.inl (SqL.of esl),_,rfl,o,dx,_,rfl,eo',rfl,o,pl,n,st,rfl,hs,by omega,zST (zFQ hR.sol.ech) (by omega),by rw [hR.sol.fl];omega,fun q' hq=>(hR.sol.ech.mem hq).1,hR.sol.fn,fun r H3 s3 hn3 hr3=>?_⟩;refine ⟨by show 3<=sizeLine;decide,fun t ht=>?_⟩;have e1:((ss.map V.ref).length:Int)=(st.steps.length:Int):=by rw [zSM,lss]
   rw [e1];have st4:=zC.upd ht (o:= .tup [.str "solved",.int (st.steps.length:Int),.ref r]);exact q t r _ ((s2.trans s3).trans st4) zB ((hn3.mono s2).same hr3 st4) (hr3.same st4)
structure FunD(K:zSy)(x qual:Str)(st:Stmt)(dV:Value)(f:Addr)(fd:FuncData):Prop where
 ex: ∃(oc:Value) (od:Option Addr) (kV doc pm:Value) (an:Option Addr) (cdv ct:Value) (osl:Array (Option Value)),
  fd=PySem.W.fnOf x qual (zAV st) (ym st) (zG st) dV kV doc pm an cdv ct/\K.lookup f=some ⟨oc,od,.func fd,osl⟩/\PySem.W.codeIn K cdv qual=true
 kp:PySem.W.keepIn K (.ref f)=true
theorem zNy{x qual:Str}{st:Stmt}{f:Addr}{oc:Value}{od an:Option Addr}{osl:Array (Option Value)}{dV kV doc pm cdv ct:Value}(l:K.lookup f=some ⟨oc,od,.func (PySem.W.fnOf x qual (zAV st) (ym st) (zG st) dV kV doc pm an cdv ct),osl⟩)
  (c:PySem.W.codeIn K cdv qual=true) (k:PySem.W.keepIn K (.ref f)=true):FunD K x qual st dV f (PySem.W.fnOf x qual (zAV st) (ym st) (zG st) dV kV doc pm an cdv ct):=⟨⟨oc,od,kV,doc,pm,an,cdv,ct,osl,rfl,l,c⟩,k⟩
theorem FunD.ok{x qual:Str}{st:Stmt}{dV:Value}{f:Addr}{fd:FuncData}{N ps:List Str}{k:Nat}{sp:Sp}(F:FunD K x qual st dV f fd)(S:FnScope N ps (zG st))(len: ∀vs H Q E,sp vs H Q E->vs.length=ps.length)
  (hbody: ∀(cdv:Value) (A:Around) (outer:List Env) (s:Shared) (H:Hp) (vs:List V) (Q:VK) (E:XK),Room k (A.deeper (envOfC qual (zG st) s.heap.objs.size f cdv))->sp vs H Q E->
   ∃t,PSs (zAZ CX0 P w K mg base N qual (zG st) f cdv A outer s H E).nox (ym st) t/\t {nx:=fun _ H'=>Q .non H',rt:=Q} (start N vs) H):FnOk P w K mg base CX0 (k+1) f fd ps sp:=by
 obtain ⟨oc,od,kV,doc,pm,an,cdv,ct,osl,rfl,lk,hcd⟩:=F.ex;refine zJo lk hcd S len fun A outer s H vs Q E hr hsp=>?_;obtain ⟨t,h,q⟩:=hbody cdv A outer s H vs Q E hr hsp;exact ⟨t,h.nox,q⟩
def zHV:Sp:=fun vs H Q _=> ∃i l k:Int,vs= [.int i,.int l,.int k] /\l<=i/\i<=k/\Q (.int i) H
theorem zMB:FnScope ["thing","least","most"] ["thing","least","most"] (zG zBg):=⟨rfl,rfl,rfl,by decide+kernel,rfl,by decide+kernel,by decide+kernel⟩
theorem zOR{f fWh:Addr}{fd fdWh:FuncData}{dN:Value}(F:FunD K "need_whole" "need_whole" zBg dN f fd)
  (FWh:Fun K "is_whole" "is_whole" zBl fWh fdWh) (bWh:zK K fdWh ["thing"] []) (mWh:mg "is_whole" =some (.ref fWh)) (GWh:FnOk P w K mg base CX0 1 fWh fdWh ["thing"] zBz):FnOk P w K mg base CX0 2 f fd ["thing","least","most"] zHV:=by
 refine F.ok zMB (fun vs H Q E h=>?_) (fun cdv A outer s H vs Q E hr1 h=>?_)
 ·obtain ⟨i,l,k,rfl,_⟩:=h;rfl
 ·obtain ⟨i,l,k,rfl,h1,h2,q⟩:=h;refine ⟨_,QB.out (zE
   (zq (ya (yZ (zJ GWh hr1 rfl mWh FWh.kp bWh .nil zL (qc (qw 0 rfl) zD rfl) rfl rfl rfl) (fun _=>rfl))) zCu zf) (zE
   (zq (zU zEO (qw 0 rfl) (qw 1 rfl) rfl) zCu zf) (zE
   (zq (t_w (zER (zFs (qw 2 rfl) rfl) (zDD (zU zAb (qw 0 rfl) (qw 2 rfl) rfl)))) zCu zf) (zH
   (zO (qw 0 rfl)))))),?_⟩
  refine ⟨_,rfl,_,rfl,.int i,_,rfl,yC ?_⟩;refine ⟨_,rfl,_,rfl,i,l,rfl,rfl,_,rfl,?_⟩;refine yh (zSf (by omega)) ?_;refine ⟨_,rfl,_,rfl,zm ?_⟩;refine ⟨_,rfl,_,rfl,i,k,rfl,rfl,_,rfl,?_⟩;refine yh (zSf (by omega)) ?_;exact ⟨_,rfl,q⟩
theorem zAF(K:zSy):PySem.W.kitOne K (.type "list") (.type "list")=some true:=by kernel_rfl
def zKC:Sp:=fun vs H Q _=> ∃(a:Addr) (v:Vec) (n:Nat),vs= [.ref a,.int (n:Int)] /\LI H a v/\v.length=n/\n<=1000/\ ∀H',zC H H'->Q (.bl true) H'
theorem zNO:FnScope ["thing","length"] ["thing","length"] (zG zFG):=⟨rfl,rfl,rfl,by decide+kernel,rfl,by decide+kernel,by decide+kernel⟩
theorem zQU{f fWh:Addr}{fd fdWh:FuncData}(F:Fun K "is_equation" "is_equation" zFG f fd)(B:Bn mg)
  (FWh:Fun K "is_whole" "is_whole" zBl fWh fdWh) (bWh:zK K fdWh ["thing"] []) (mWh:mg "is_whole" =some (.ref fWh)) (GWh:FnOk P w K mg base CX0 1 fWh fdWh ["thing"] zBz):FnOk P w K mg base CX0 2 f fd ["thing","length"] zKC:=by
 refine F.ok zNO (fun vs H Q E h=>?_) (fun cdv A outer s H vs Q E hr1 h=>?_)
 ·obtain ⟨a,v,n,rfl,_⟩:=h;rfl
 ·obtain ⟨a,v,n,rfl,ha,hn,h1000,q⟩:=h;refine ⟨_,QB.out (zE
   (zq (t_w (zAa (ya (yZ (zt (yc (K:=K) rfl) rfl B.isi zk (qc (qw 0 rfl) (qc (zAr (v:= .ty "list") rfl B.list zAX rfl (by decide) rfl) zD rfl) rfl) rfl) (fun _=>rfl))) (zAy (zU yy (zt (zr (K:=K) rfl) rfl B.len yQ (qc (qw 0 rfl) zD rfl) rfl) (qw 1 rfl) rfl)))) (zH
    (zO zAD)) zf) (zH
   (zO (zt (zBF (K:=K) rfl rfl) rfl B.all zDA (qc (zj (cl:= []) ["number"] [] [] rfl (zn (K:=K) rfl (qw 0 rfl)) rfl (by decide+kernel) rfl (by decide+kernel) (fun _ _ h=>nomatch h) rfl (fun j y i h=>nomatch h) (zQ rfl) (fun _ _ _ _=>(zM 0 (show (["number"] :List Str).Nodup by decide+kernel) rfl (.inl rfl) (.inr rfl))) (fun _ _ _ _=>zo) (fun _ _ _ _=>(zJ GWh hr1 rfl mWh FWh.kp bWh .nil zL (qc (qw 0 rfl) zD rfl) rfl rfl rfl)) (fun _=>rfl)) zD rfl) rfl)))),?_⟩
  refine ⟨_,rfl,_,.ty "list",_,.type "list",_,rfl,rfl,.lst ha,zAF K,_,rfl,yC ?_⟩;refine ⟨_,rfl,a,_,rfl,.inl (SqL.of ha),_,rfl,rfl,_,rfl,?_⟩;refine yh (by rw [zSM,hn,zSd rfl];rfl) ?_;refine ⟨_,rfl,a,rfl,⟨_,SqL.of ha⟩,fun D hD=>?_⟩;refine zV v.length (fun i ys H'=>i<=v.length/\ys=(List.replicate i true).map V.bl/\H'=L2.upd H D (.lst ys)) ⟨zSU _,rfl,rfl⟩ (by rw [zSQ];omega) ?_ ?_ ?_
  ·rintro i ys H2 hi ⟨_,rfl,rfl⟩;have e2:=ha.same (zC.upd hD (o:= .lst ((List.replicate i true).map V.bl)));exact ⟨by simp,zB,fun h=>⟨_,_,SqL.of e2,zZ h⟩,fun h=>⟨_,SqL.of e2,by simp;omega⟩⟩
  ·rintro i ys H2 x H3 hi ⟨_,rfl,rfl⟩ ⟨rfl,hx⟩ pre hpre;obtain ⟨p0,rfl⟩:=yi hpre;have hx':=hx _ (SqL.of (ha.same (zC.upd hD (o:= .lst ((List.replicate i true).map V.bl)))));rw [zZ hi] at hx';cases hx';refine ⟨⟨[some (.int (zA v i))],rfl,rfl⟩,zm ?_⟩;refine ⟨_,rfl,.int (zA v i),rfl,.int _,zB,hi,?_,by rw [yM]⟩;rw [List.replicate_succ',zSb];rfl
  ·rintro ys H2 ⟨_,rfl,rfl⟩;refine ⟨D,List.replicate v.length true,rfl,SqL.of zB,?_⟩;rw [show (List.replicate v.length true).all id=true by simp];exact q _ (zC.upd hD)
def zEa:Sp:=fun vs H Q _=> ∃(l:Addr) (n m:Nat) (xs:List Vec),vs= [.int (n:Int),.int (m:Int),.ref l] /\LL H l xs/\(∀x∈xs,x.length=n+m)/\n<=240/\m<=6/\xs.length<=240/\ ∀H',zC H H'->Q .non H'
theorem zJR:FnScope ["unknowns","names","equations"] ["unknowns","names","equations"] (zG zBi):=⟨rfl,rfl,rfl,by decide+kernel,rfl,by decide+kernel,by decide+kernel⟩
structure Gm(mg:Str->Option Value):Prop where
 mu: ∃t,mg "MOST_UNKNOWNS" =some (.int 240 t)
 mn: ∃t,mg "MOST_NAMES" =some (.int 6 t)
 me: ∃t,mg "MOST_EQUATIONS" =some (.int 240 t)
theorem zMN{f fN fI:Addr}{fd fdN fdI:FuncData}{dN:Value}(F:Fun K "need_equations" "need_equations" zBi f fd)(B:Bn mg)(G:Gm mg)
  (FN:FunD K "need_whole" "need_whole" zBg dN fN fdN) (bN:zK K fdN ["thing","least","most"] []) (mN:mg "need_whole" =some (.ref fN)) (GN:FnOk P w K mg base CX0 2 fN fdN ["thing","least","most"] zHV)
  (FI:Fun K "is_equation" "is_equation" zFG fI fdI) (bI:zK K fdI ["thing","length"] []) (mI:mg "is_equation" =some (.ref fI)) (GI:FnOk P w K mg base CX0 2 fI fdI ["thing","length"] zKC):FnOk P w K mg base CX0 3 f fd ["unknowns","names","equations"] zEa:=by
 obtain ⟨tu,mu⟩:=G.mu;obtain ⟨tn,mn⟩:=G.mn;obtain ⟨te,me⟩:=G.me;refine F.ok zJR (fun vs H Q E h=>?_) (fun cdv A outer s H vs Q E hr2 h=>?_)
 ·obtain ⟨l,n,m,xs,rfl,_⟩:=h;rfl
 ·obtain ⟨l,n,m,xs,rfl,⟨as,el,has⟩,hx,hn,hm,h240,q⟩:=h;refine ⟨_,QB.out (zE
   (ye (zJ GN hr2 rfl mN FN.kp bN .nil zL (qc (qx 0 rfl) (qc zF (qc (zCY (v:= .int 240) rfl mu ⟨tu,rfl⟩ rfl) zD rfl) rfl) rfl) rfl rfl rfl) rfl) (zE
   (ye (zJ GN hr2 rfl mN FN.kp bN .nil zL (qc (qx 1 rfl) (qc zF (qc (zCY (v:= .int 6) rfl mn ⟨tn,rfl⟩ rfl) zD rfl) rfl) rfl) rfl rfl rfl) rfl) (zE
   (zq (t_w (zAa (ya (yZ (zt (yc (K:=K) rfl) rfl B.isi zk (qc (qw 2 rfl) (qc (zAr (v:= .ty "list") rfl B.list zAX rfl (by decide) rfl) zD rfl) rfl) rfl) (fun _=>rfl))) (zAy (zU zAb (zt (zr (K:=K) rfl) rfl B.len yQ (qc (qw 2 rfl) zD rfl) rfl) (zCY (v:= .int 240) rfl me ⟨te,rfl⟩ rfl) rfl)))) zCu zf) (zH
   (zq (ya (yZ (zt (zBF (K:=K) rfl rfl) rfl B.all zDA (qc (zj ["equation"] ["unknowns","names"] [0,1] rfl (zn (K:=K) rfl (qw 2 rfl)) rfl (by decide+kernel) rfl (by decide+kernel) (zc rfl (zc rfl lk0)) rfl (fr2 ⟨rfl,rfl,rfl,_,rfl,rfl⟩ ⟨rfl,rfl,rfl,_,rfl,rfl⟩) (zQ rfl) (fun _ _ _ _=>(zM 0 (show (["equation","unknowns","names"] :List Str).Nodup by decide+kernel) rfl (.inl rfl) (.inr rfl))) (fun _ _ _ _=>zo) (fun _ _ _ _=>(zJ GI hr2 rfl mI FI.kp bI .nil zL (qc (qw 0 rfl) (qc (yu (qx 1 rfl) (qx 2 rfl)) zD rfl) rfl) rfl rfl rfl)) (fun _=>rfl)) zD rfl) rfl) (fun _=>rfl))) zCu zf))))),?_⟩
  refine ⟨_,rfl,(n:Int),0,240,rfl,by omega,by omega,?_⟩;refine ⟨_,rfl,(m:Int),0,6,rfl,by omega,by omega,?_⟩;have la:=Paired.len has;refine ⟨_,rfl,_,.ty "list",_,.type "list",_,rfl,rfl,.lst el,zAF K,_,rfl,yC ?_⟩;refine ⟨_,rfl,l,_,rfl,.inl (SqL.of el),_,_,rfl,rfl,_,rfl,?_⟩;refine yh (zSf (by rw [zSM];omega)) ?_;refine ⟨_,rfl,l,rfl,⟨_,SqL.of el⟩,fun D hD=>?_⟩;refine zV as.length (fun i ys H'=>i<=as.length/\ys=(List.replicate i true).map V.bl/\zC H H'/\H' D=some (.lst ys)) ⟨zSU _,rfl,zC.upd hD,zB⟩ (by rw [zSQ];omega) ?_ ?_ ?_
  ·rintro i ys H2 hi ⟨_,rfl,s2,e2⟩;have e3:=s2 _ _ el;exact ⟨by simp,e2,fun h=>⟨_,_,SqL.of e3,zSF (by simpa using h)⟩,fun h=>⟨_,SqL.of e3,by simp;omega⟩⟩
  ·rintro i ys H2 x H3 hi ⟨_,rfl,s2,e2⟩ ⟨rfl,hx'⟩ pre hpre;obtain ⟨p0,rfl⟩:=yi hpre;have hx':=hx' _ (SqL.of (s2 _ _ el));rw [zSK,zSF hi] at hx';cases hx';obtain ⟨v,ev,hv⟩:=Paired.get' has (zSF hi);refine ⟨⟨[some (.ref as[i])],rfl,rfl⟩,zm ?_⟩;refine ⟨_,rfl,_,rfl,_,rfl,n,m,rfl,rfl,as[i],v,n+m,by simp,hv.same s2,hx v (zSj ev),by omega,fun H4 s4=>⟨s4 _ _ e2,hi,?_,zC.store (s2.trans s4) hD,zB⟩⟩;rw [List.replicate_succ',zSb];rfl
  ·rintro ys H2 ⟨_,rfl,s2,e2⟩;refine ⟨D,List.replicate as.length true,rfl,SqL.of e2,_,rfl,?_⟩;refine yh (by simp) ?_;exact q _ s2
theorem zMS:FnScope ["unknowns","names","equations"] ["unknowns","names","equations"] (zG zCD):=⟨rfl,rfl,rfl,by decide+kernel,rfl,by decide+kernel,by decide+kernel⟩
def zDK:Sp:=fun vs H Q _=> ∃(l:Addr) (n m b:Nat) (Es:List Eqn),vs= [.int (n:Int),.int (m:Int),.ref l] /\LL H l (zW Es)/\SvOk n m b Es/\m<=6/\zAz H Q n m Es
theorem zAz.same{H H':Hp}{Q:VK}{n m:Nat}{Es:List Eqn}(h:zAz H Q n m Es)(s:zC H H'):zAz H' Q n m Es:=by
 unfold zAz at h⊢;split at h
 ·rename_i st e
  exact fun t r H2 s2 et hn=>h t r H2 (s.trans s2) et (hn.mono s)
 ·rename_i f d e
  exact fun t r H2 s2 et hn=>h t r H2 (s.trans s2) et (zC.none s hn)
theorem zLK{f fN fS:Addr}{fd fdN fdS:FuncData}(F:Fun K "solved" "solved" zCD f fd)
  (FN:Fun K "need_equations" "need_equations" zBi fN fdN) (bN:zK K fdN ["unknowns","names","equations"] []) (mN:mg "need_equations" =some (.ref fN)) (GN:FnOk P w K mg base CX0 3 fN fdN ["unknowns","names","equations"] zEa)
  (FS:Fun K "solution_of" "solution_of" zGI fS fdS) (bS:zK K fdS ["unknowns","names","equations"] []) (mS:mg "solution_of" =some (.ref fS)) (GS:FnOk P w K mg base CX0 37 fS fdS ["unknowns","names","equations"] zHK):FnOk P w K mg base CX0 38 f fd ["unknowns","names","equations"] zDK:=by
 refine F.ok zMS (fun vs H Q E h=>?_) (fun cdv A outer s H vs Q E hr37 h=>?_)
 ·obtain ⟨l,n,m,b,Es,rfl,_⟩:=h;rfl
 ·obtain ⟨l,n,m,b,Es,rfl,hl,ok,m6,q⟩:=h;have hr3:Room 3 _:=hr37.mono (by decide);refine ⟨_,QB.out (zE
   (ye (zJ GN hr3 rfl mN FN.kp bN .nil zL (qc (qw 0 rfl) (qc (qw 1 rfl) (qc (qw 2 rfl) zD rfl) rfl) rfl) rfl rfl rfl) rfl) (zH
   (zO (zJ GS hr37 rfl mS FS.kp bS .nil zL (qc (qw 0 rfl) (qc (qw 1 rfl) (qc (qw 2 rfl) zD rfl) rfl) rfl) rfl rfl rfl)))),?_⟩
  have nn:=ok.nn;have le:=ok.le;have lw:(zW Es).length=Es.length:=by simp [zW]
  refine ⟨_,rfl,_,rfl,_,rfl,l,n,m,zW Es,rfl,hl,fun x hx=>?_,by omega,m6,by omega,fun H1 s1=>?_⟩
  ·obtain ⟨e,he,rfl⟩:=zTF.mp hx;simp [ok.ok.l1 e he,ok.ok.l2 e he]
  ·exact ⟨_,rfl,_,rfl,_,rfl,l,n,m,b,Es,rfl,hl.same s1,ok,q.same s1⟩
def zNk:Sp:=fun vs H Q _=> ∃n k:Int,vs= [.int n,.int k] /\0<=k/\k<=1000/\ ∀r:Int,0<=r->r<2147483629->Q (.int r) H
theorem zNR:FnScope ["_law_number_here","_law_k"] ["_law_number_here","_law_k"] (zG zIc):=⟨rfl,rfl,rfl,by decide+kernel,rfl,by decide+kernel,by decide+kernel⟩
theorem zQW{f:Addr}{fd:FuncData}(F:Fun K "_law_mixed" "_law_mixed" zIc f fd):FnOk P w K mg base CX0 1 f fd ["_law_number_here","_law_k"] zNk:=by
 refine F.ok zNR (fun vs H Q E h=>?_) (fun cdv A outer s H vs Q E hr h=>?_)
 ·obtain ⟨n,k,rfl,_⟩:=h;rfl
 ·obtain ⟨n,k,rfl,h0,h1,q⟩:=h;refine ⟨_,yr (zCT (i:=0) zNR.nd rfl (Or.inl rfl) (zAG zCG (zAG zCI (zAG zGA (zAG zGA (zAG zCG (pv 0) zAU) (zAG zCI (zAG zCI zAU (pv 1)) (pv 1))) (zAG zCI zAU (pv 1))) zAU) zAU))
   (zAJ (zCM (zAG zCG (zAG zCI (pv 0) (zAG zGA zAU (zAG zCI zAU (pv 1)))) zAU))),?_⟩
  refine ⟨_,rfl,_,_,rfl,rfl,(by show (0:Int)<2147483647;decide),_,rfl,_,_,rfl,rfl,.inl ⟨by decide,by decide⟩,_,rfl,_,_,rfl,rfl,.inr ⟨by omega,by omega⟩,_,_,rfl,rfl,_,rfl,_,_,rfl,rfl,.inl ⟨by decide,by decide⟩,_,_,rfl,rfl,
   _,_,rfl,rfl,.inr ⟨by decide,by decide⟩,_,_,rfl,rfl,(by show (0:Int)<2147483647;decide),?_⟩
  refine ⟨_,rfl,_,rfl,_,_,rfl,rfl,.inl ⟨by decide,by decide⟩,_,_,rfl,rfl,_,_,rfl,rfl,.inr ⟨by omega,by omega⟩,_,_,rfl,rfl,(by show (0:Int)<2147483629;decide),?_⟩;exact q _ (zSX _ (by decide)) (zSR _ (by decide))
def zGH(K:zSy):Sp:=fun vs H Q _=> ∃(a:Addr) (ns:List Int) (k:Int),vs= [.ref a,.int k] /\SqL K H a (ns.map V.int)/\ns.length<=63/\0<=k/\k<=1000/\ ∀(r:Int) H',zC H H'->0<=r->r<2147483629->Q (.int r) H'
theorem zRZ:FnScope ["_law_script","_law_k"] ["_law_script","_law_k"] (zG zFJ):=⟨rfl,rfl,rfl,by decide+kernel,rfl,by decide+kernel,by decide+kernel⟩
theorem zQf{f fM:Addr}{fd fdM:FuncData}(F:Fun K "_law_number" "_law_number" zFJ f fd)(B:Bn mg)(FM:Fun K "_law_mixed" "_law_mixed" zIc fM fdM)(bM:zK K fdM ["_law_number_here","_law_k"] [])(mM:mg "_law_mixed" =some (.ref fM)):
  FnOk P w K mg base CX0 2 f fd ["_law_script","_law_k"] (zGH K):=by
 have GM:FnOk P w K mg base CX0 1 fM fdM ["_law_number_here","_law_k"] zNk:=zQW FM;refine F.ok zRZ (fun vs H Q E h=>?_) (fun cdv A outer s H vs Q E hr h=>?_)
 ·obtain ⟨a,ns,k,rfl,_⟩:=h;rfl
 ·obtain ⟨a,ns,k,rfl,hs,hl,h0,h1,q⟩:=h;have hu:=zGF hr;refine ⟨_,yr (zFZ (zDB (zMQ (Nat.lt_of_succ_lt hu)) (pv 0) (zLX zAI) (zFf _)) (zAJ (zCM (zEc GM hr (by rfl) mM FM.kp bM .nil zL (yR zAU (yR (pv 1) zAI))))) zCv)
   (zAJ (zCM (zEc GM hr (by rfl) mM FM.kp bM .nil zL (yR (zJx zIs (pv 0) (zAG zCG (pv 1) (zDT zDm (by rfl) B.len yQ (yR (pv 0) zAI))) (fun _ _=>rfl)) (yR (pv 1) zAI))))),?_⟩
  refine ⟨_,rfl,zSU _,fun p hp=>?_⟩;have s1:zC H (L2.upd H p (.lst [])):=zC.upd hp;refine ⟨a,p,_,rfl,rfl,s1.seq hs,SqL.of zB,_,rfl,?_⟩;cases ns with
  | nil=>
   refine zm ?_;exact ⟨_,rfl,17,k,rfl,h0,h1,fun r r0 r1=>q r _ s1 r0 r1⟩
  | cons n ns=>
   refine yC ?_;have hlen:(0:Int)<(((n::ns).map V.int).length:Int):=by simp
   have m0:=zSX k (by omega:(((n::ns).map V.int).length:Int)≠0);have m1:=zSR k hlen;obtain ⟨j,hj⟩: ∃j:Nat,k %(((n::ns).map V.int).length:Int)=j:=⟨(k %(((n::ns).map V.int).length:Int)).toNat,by omega⟩;have hj2:j<(n::ns).length:=by
    rw [hj,zSM] at m1;omega
   refine ⟨_,rfl,_,rfl,_,rfl,a,_,rfl,.inl (s1.seq hs),_,_,rfl,rfl,hlen,a,_,_,.int ((n::ns)[j]),rfl,rfl,s1.seq hs,?_,_,rfl,_,k,rfl,h0,h1,fun r r0 r1=>q r _ s1 r0 r1⟩;rw [hj];refine yf ?_;rw [zSK,zSF hj2];rfl
def zHt:Sp:=fun vs H Q _=> ∃i:Int,vs= [.int i] /\Q (.bl true) H
theorem zSB:FnScope ["_law_found"] ["_law_found"] (zG zCK):=⟨rfl,rfl,rfl,by decide+kernel,rfl,by decide+kernel,by decide+kernel⟩
theorem zRK{f:Addr}{fd:FuncData}(F:Fun K "_law_whole" "_law_whole" zCK f fd)(B:Bn mg):FnOk P w K mg base CX0 1 f fd ["_law_found"] zHt:=by
 refine F.ok zSB (fun vs H Q E h=>?_) (fun cdv A outer s H vs Q E hr h=>?_)
 ·obtain ⟨x,rfl,_⟩:=h;rfl
 ·obtain ⟨x,rfl,q⟩:=h;refine ⟨_,QB.out (zH
   (zO (zFV (zt (yc (K:=K) rfl) rfl B.isi zk (qc (qw 0 rfl) (qc (zAr (v:= .ty "int") rfl B.int zFv rfl (by decide) rfl) zD rfl) rfl) rfl) (zHN (zRL (zt (yc (K:=K) rfl) rfl B.isi zk (qc (qw 0 rfl) (qc (zAr (v:= .ty "bool") rfl B.bool zIx rfl (by decide) rfl) zD rfl) rfl) rfl)))))),?_⟩
  refine ⟨_,rfl,_,.ty "int",_,.type "int",_,rfl,rfl,.int x,zGl K,_,rfl,zm ?_⟩;exact ⟨_,rfl,_,.ty "bool",_,.type "bool",_,rfl,rfl,.int x,zFm K,_,rfl,q⟩
def zFx:Sp:=fun vs H Q _=> ∃(a:Addr) (v:Vec) (n:Nat),vs= [.ref a,.int (n:Int)] /\LI H a v/\v.length=n/\n<=1000/\ ∀H',zC H H'->Q (.bl true) H'
theorem zRQ:FnScope ["_law_found","_law_size"] ["_law_found","_law_size"] (zG zBd):=⟨rfl,rfl,rfl,by decide+kernel,rfl,by decide+kernel,by decide+kernel⟩
theorem zQS{f fWh:Addr}{fd fdWh:FuncData}(F:Fun K "_law_wholes" "_law_wholes" zBd f fd)(B:Bn mg)
  (FWh:Fun K "_law_whole" "_law_whole" zCK fWh fdWh) (bWh:zK K fdWh ["_law_found"] []) (mWh:mg "_law_whole" =some (.ref fWh)) (GWh:FnOk P w K mg base CX0 1 fWh fdWh ["_law_found"] zHt):FnOk P w K mg base CX0 2 f fd ["_law_found","_law_size"] zFx:=by
 refine F.ok zRQ (fun vs H Q E h=>?_) (fun cdv A outer s H vs Q E hr1 h=>?_)
 ·obtain ⟨a,v,n,rfl,_⟩:=h;rfl
 ·obtain ⟨a,v,n,rfl,ha,hn,h1000,q⟩:=h;refine ⟨_,QB.out (zH
   (zO (zFV (zt (yc (K:=K) rfl) rfl B.isi zk (qc (qw 0 rfl) (qc (zAr (v:= .ty "list") rfl B.list zAX rfl (by decide) rfl) zD rfl) rfl) rfl) (zFV (zCa yb (zt (zr (K:=K) rfl) rfl B.len yQ (qc (qw 0 rfl) zD rfl) rfl) (qw 1 rfl) rfl) (zHN (zt (zBF (K:=K) rfl rfl) rfl B.all zDA (qc (zj (cl:= []) ["_law_number_here"] [] [] rfl (zn (K:=K) rfl (qw 0 rfl)) rfl (by decide+kernel) rfl (by decide+kernel) (fun _ _ h=>nomatch h) rfl (fun j y i h=>nomatch h) (zQ rfl) (fun _ _ _ _=>(zM 0 (show (["_law_number_here"] :List Str).Nodup by decide+kernel) rfl (.inl rfl) (.inr rfl))) (fun _ _ _ _=>zo) (fun _ _ _ _=>(zJ GWh hr1 rfl mWh FWh.kp bWh .nil zL (qc (qw 0 rfl) zD rfl) rfl rfl rfl)) (fun _=>rfl)) zD rfl) rfl)))))),?_⟩
  refine ⟨_,rfl,_,.ty "list",_,.type "list",_,rfl,rfl,.lst ha,zAF K,_,rfl,zm ?_⟩;refine ⟨_,rfl,a,_,rfl,.inl (SqL.of ha),_,rfl,rfl,_,rfl,?_⟩;refine zCe (by rw [zSM,hn,zSd rfl]) ?_;refine ⟨_,rfl,a,rfl,⟨_,SqL.of ha⟩,fun D hD=>?_⟩;refine zV v.length (fun i ys H'=>i<=v.length/\ys=(List.replicate i true).map V.bl/\H'=L2.upd H D (.lst ys)) ⟨zSU _,rfl,rfl⟩ (by rw [zSQ];omega) ?_ ?_ ?_
  ·rintro i ys H2 hi ⟨_,rfl,rfl⟩;have e2:=ha.same (zC.upd hD (o:= .lst ((List.replicate i true).map V.bl)));exact ⟨by simp,zB,fun h=>⟨_,_,SqL.of e2,zZ h⟩,fun h=>⟨_,SqL.of e2,by simp;omega⟩⟩
  ·rintro i ys H2 x H3 hi ⟨_,rfl,rfl⟩ ⟨rfl,hx⟩ pre hpre;obtain ⟨p0,rfl⟩:=yi hpre;have hx':=hx _ (SqL.of (ha.same (zC.upd hD (o:= .lst ((List.replicate i true).map V.bl)))));rw [zZ hi] at hx';cases hx';refine ⟨⟨[some (.int (zA v i))],rfl,rfl⟩,zm ?_⟩;refine ⟨_,rfl,_,rfl,zB,hi,?_,by rw [yM]⟩;rw [List.replicate_succ',zSb];rfl
  ·rintro ys H2 ⟨_,rfl,rfl⟩;refine ⟨D,List.replicate v.length true,rfl,SqL.of zB,?_⟩;rw [show (List.replicate v.length true).all id=true by simp];exact q _ (zC.upd hD)
def dot(u v:Vec):Int:=(List.zipWith (fun x y=>x*y) u v).sum
def zKT:Sp:=fun vs H Q _=> ∃(a b:Addr) (u v:Vec),vs= [.ref a,.ref b] /\LI H a u/\LI H b v/\v.length<=u.length/\u.length<=1000/\Bts 50000000 u/\Bts 50000000 v/\ ∀H',zC H H'->Q (.int (dot u v)) H'
theorem zRp:FnScope ["_law_row","_law_values"] ["_law_row","_law_values"] (zG zGX):=⟨rfl,rfl,rfl,by decide+kernel,rfl,by decide+kernel,by decide+kernel⟩
theorem zRT{f:Addr}{fd:FuncData}(F:Fun K "_law_sum" "_law_sum" zGX f fd)(B:Bn mg):FnOk P w K mg base CX0 1 f fd ["_law_row","_law_values"] zKT:=by
 refine F.ok zRp (fun vs H Q E h=>?_) (fun cdv A outer s H vs Q E hr h=>?_)
 ·obtain ⟨a,b,u,v,rfl,_⟩:=h;rfl
 ·obtain ⟨a,b,u,v,rfl,ha,hb,hl,hn,bu,bv,q⟩:=h;refine ⟨_,QB.out (zH
   (zO (zt (zIH (K:=K) rfl rfl) rfl B.sum zLa (qc (zj (cl:= []) ["_law_here","_law_there"] [] [] rfl (zFg (K:=K) rfl rfl B.zip (qc (qw 0 rfl) (qc (qw 1 rfl) zD rfl) rfl) rfl rfl) rfl (by decide+kernel) rfl (by decide+kernel) (fun _ _ h=>nomatch h) rfl (fun j y i h=>nomatch h) (zQ rfl) (fun _ _ _ _=>(zBO (K:=K) (n:=2) rfl rfl (yK (zM 0 (show (["_law_here","_law_there"] :List Str).Nodup by decide+kernel) rfl (.inl rfl) (.inr rfl)) (yK (zM 1 (show (["_law_here","_law_there"] :List Str).Nodup by decide+kernel) rfl (.inl rfl) (.inr rfl)) zBW rfl) rfl) rfl rfl)) (fun _ _ _ _=>zo) (fun _ _ _ _=>(zAR (qw 0 rfl) (qw 1 rfl))) (fun _=>rfl)) zD rfl) rfl))),?_⟩
  refine ⟨_,rfl,_,rfl,a,b,rfl,⟨_,SqL.of ha⟩,⟨_,SqL.of hb⟩,fun D hD=>?_⟩;have lz:(List.zipWith (fun x y=>x*y) u v).length=v.length:=by simp;omega
  refine zV v.length (fun i ys H'=>i<=v.length/\ys=((List.zipWith (fun x y=>x*y) u v).take i).map V.int/\zC H H'/\H' D=some (.lst ys)) ⟨zSU _,by simp,zC.upd hD,zB⟩ (by rw [zSQ];omega) ?_ ?_ ?_
  ·rintro i ys H' hi ⟨_,rfl,s1,e1⟩;refine ⟨by simp;omega,e1,fun h=>⟨_,_,_,_,SqL.of (ha.same s1),SqL.of (hb.same s1),zZ (by omega),zZ h⟩,fun h=>⟨_,_,SqL.of (ha.same s1),SqL.of (hb.same s1),.inr (by simp;omega)⟩⟩
  ·rintro i ys H' x H'' hi ⟨_,rfl,s1,e1⟩ ⟨t,x1,y1,hx,hy,ht,rfl,rfl⟩ pre hpre;obtain ⟨p0,p1,rfl⟩:=zi hpre;have hx':=hx _ (SqL.of (ha.same s1));have hy':=hy _ (SqL.of (hb.same s1));rw [zZ (show i<u.length by omega)] at hx';rw [zZ (show i<v.length by omega)] at hy';cases hx';cases hy';have st:=zC.upd ht (o:= .tup [.int (zA u i),.int (zA v i)]);refine ⟨t,_,rfl,SqT.of zB,rfl,_,_,rfl,_,_,rfl,rfl,⟨[some (.int (zA u i)),some (.int (zA v i))],rfl,rfl⟩,zm ?_⟩;refine ⟨_,rfl,_,rfl,_,_,rfl,rfl,⟨yg (bu i) (by decide),yg (bv i) (by decide)⟩,st _ _ e1,hi,?_,zC.store (s1.trans st) hD,zB⟩;rw [zSc,List.getElem?_zipWith,zSF (show i<u.length by omega),zSF (show i<v.length by omega)];simp [zA,zSF (show i<u.length by omega),zSF (show i<v.length by omega)]
  ·rintro ys H' ⟨_,rfl,s1,e1⟩;rw [List.take_of_length_le (Nat.le_of_eq lz)] at e1;exact ⟨D,_,rfl,SqL.of e1,q _ s1⟩
theorem SqL.but{K:zSy}{H H':Hp}{p a:Addr}{xs:List V}(h:SqL K H a xs)(b:But [p] H H')(hn:a≠p):SqL K H' a xs:=by
 rcases h with (h |⟨o,h⟩)| h
 ·exact .inl (.inl (b _ _ h (by simpa using hn)))
 ·exact .inl (.inr ⟨o,b _ _ h (by simpa using hn)⟩)
 ·exact .inr h
theorem But.upd{H:Hp}{p:Addr}{o:HO}:But [p] H (L2.upd H p o):=fun b u e z=>by rw [zI (by simpa using z)];exact e
def Scr(K:zSy)(H:Hp)(a p:Addr)(ns:List Int):Prop:=(SqL K H a (ns.map V.int)/\a≠p)\/ ∀H',SqL K H' a (ns.map V.int)
theorem Scr.sq{K:zSy}{H:Hp}{a p:Addr}{ns:List Int}(h:Scr K H a p ns):SqL K H a (ns.map V.int):=h.elim (fun h=>h.1) fun h=>h H
theorem Scr.but{K:zSy}{H H':Hp}{a p:Addr}{ns:List Int}(h:Scr K H a p ns)(b:But [p] H H'):Scr K H' a p ns:=h.elim (fun h=> .inl ⟨SqL.but h.1 b h.2,h.2⟩) .inr
theorem Scr.of{K:zSy}{H:Hp}{a p:Addr}{ns:List Int}(h:SqL K H a (ns.map V.int))(hp:H p=none):Scr K H a p ns:=by
 rcases id h with (e |⟨o,e⟩)| e
 ·exact .inl ⟨h,fun z=>by rw [z,hp] at e;cases e⟩
 ·exact .inl ⟨h,fun z=>by rw [z,hp] at e;cases e⟩
 ·exact .inr fun _=> .inr e
def zKM(K:zSy):Sp:=fun vs H Q _=> ∃(a p:Addr) (ns:List Int) (c:Int) (n:Nat) (m:Int),vs= [.ref a,.ref p,.int (n:Int),.int m] /\Scr K H a p ns/\ns.length<=63/\H p=some (.lst [.int c])/\0<=c/\c+n<=1000/\0<=m/\m<=1000000/\
 ∀l v H',But [p] H H'->H' p=some (.lst [.int (c+n)])->H l=none->LI H' l v->v.length=n->(∀i,(zA v i).natAbs<=m.natAbs)->Q (.ref l) H'
theorem zKL:FnScope ["_law_script","_law_spot","_law_size","_law_most","_law_found","_law_k","_law_number_here"] ["_law_script","_law_spot","_law_size","_law_most"] (zG zCp):=⟨rfl,rfl,rfl,by decide+kernel,rfl,by decide+kernel,by decide+kernel⟩
theorem zRY{f fN:Addr}{fd fdN:FuncData}(F:Fun K "_law_drawn" "_law_drawn" zCp f fd)(B:Bn mg)
  (FN:Fun K "_law_number" "_law_number" zFJ fN fdN) (bN:zK K fdN ["_law_script","_law_k"] []) (mN:mg "_law_number" =some (.ref fN)) (GN:FnOk P w K mg base CX0 2 fN fdN ["_law_script","_law_k"] (zGH K)):FnOk P w K mg base CX0 3 f fd ["_law_script","_law_spot","_law_size","_law_most"] (zKM K):=by
 refine F.ok zKL (fun vs H Q E h=>?_) (fun cdv A outer s H vs Q E hr2 h=>?_)
 ·obtain ⟨a,p,ns,c,n,m,rfl,_⟩:=h;rfl
 ·obtain ⟨a,p,ns,c,n,m,rfl,ha,hns,hp,c0,c1,m0,m1,q⟩:=h;refine ⟨_,QB.out (zE
   (zT 4 zKL.nd rfl (zAB zD) rfl) (zE
   (zAd PassesOwn.never rfl (zBm rfl B.range (qc (qw 2 rfl) zD rfl) rfl) (zM 5 zKL.nd rfl (Or.inl rfl) (.inr rfl)) (zE
    (zQp (qw 1 rfl) zF (yu (yw (K:=K) rfl (qw 1 rfl) zF (fun _ _=>rfl)) zF) rfl) (zE
    (zT 6 zKL.nd rfl (zJ GN hr2 rfl mN FN.kp bN .nil zL (qc (qw 0 rfl) (qc (yw (K:=K) rfl (qw 1 rfl) zF (fun _ _=>rfl)) zD rfl) rfl) rfl rfl rfl) rfl) (zH
    (ye (zDg (K:=K) rfl (qw 4 rfl) (zNc (zES (yY (zAm (qw 6 rfl) zF) (yu (zNc zF (qw 3 rfl)) zF)) (qw 3 rfl)) (zCV zGk rfl B.int zFv (qc (zCa zAb (yY (qw 6 rfl) zF) zF rfl) zD rfl) rfl)) rfl rfl rfl) rfl)))) (fun _=>rfl)) (zH
   (zO (qw 4 rfl))))),?_⟩
  refine ⟨zSU _,fun l hl=>?_⟩;have hlp:l≠p:=fun z=>by rw [z,hp] at hl;cases hl
  have sl:=zC.upd hl (o:= .lst []);refine ⟨_,rfl,(n:Int),rfl,by omega,by omega,?_⟩;refine zAH n (fun i σ H'=> ∃(s5 s6:Option V) (v:Vec),σ= [some (.ref a),some (.ref p),some (.int (n:Int)),some (.int m),some (.ref l),s5,s6] /\i<=n/\v.length=i/\(∀i,(zA v i).natAbs<=m.natAbs)/\H' l=some (.lst (v.map V.int))/\H' p=some (.lst [.int (c+i)])/\But [p] H H') ⟨none,none,[],rfl,zSU _,rfl,fun _=>by simp [zA],zB,by rw [show c+((0:Nat):Int)=c by omega];exact sl _ _ hp,zC.but sl _⟩ ?_ ?_ ?_ ?_
  ·rintro i σ H1 hi ⟨s5,s6,v,rfl,_⟩;exact hi
  ·rintro σ H1 ⟨s5,s6,v,rfl,_⟩;exact zSJ _
  ·rintro i σ H1 x H2 hi ⟨s5,s6,v,rfl,_,lv,bv,el,ep,bt⟩ ⟨rfl,rfl⟩;refine ⟨_,rfl,p,_,_,_,rfl,rfl,SqL.of ep,rfl,_,_,rfl,rfl,_,rfl,p,_,0,0,rfl,rfl,ep,rfl,?_⟩;have b1:But [p] H2 (L2.upd H2 p (.lst [.int (c+i+1)])):=But.upd;refine ⟨_,rfl,_,rfl,p,_,_,_,rfl,rfl,SqL.of zB,rfl,a,ns,c+i+1,rfl,((ha.but bt).but b1).sq,hns,by omega,by omega,fun r H3 s3 r0 r1=>?_⟩;have el3:=s3 _ _ (b1 _ _ el (by simpa using hlp));have ep3:H3 p=some (.lst [.int (c+i+1)]):=s3 _ _ zB;have mp:(0:Int)<2*m+1:=by omega
   have y0:=zSX (r/3) (show (2*m+1:Int)≠0 by omega);have y1:=zSR (r/3) mp;refine ⟨_,rfl,.inl ⟨rfl,_,SqL.of el3⟩,_,rfl,r,3,rfl,rfl,⟨by decide,by decide⟩,_,rfl,2,m,rfl,rfl,.inl ⟨by decide,by decide⟩,_,_,rfl,rfl,_,_,rfl,rfl,mp,_,rfl,_,_,rfl,rfl,_,rfl,r,3,rfl,rfl,by decide,_,_,rfl,rfl,.inr ⟨_,rfl,_,_,rfl,rfl,.inl ⟨by omega,by omega⟩,l,_,_,rfl,rfl,el3,?_,?_⟩⟩
   ·rw [zSM,zSQ];omega
   ·generalize r/3 %(2*m+1)=y at y0 y1⊢;refine ⟨_,_,v++ [(y - m)*(if decide (0<r % 3)=true then 1 else 0)],rfl,hi,by simp [lv],fun j=>?_,?_,?_,?_⟩
    ·have hz:((y - m)*(if decide (0<r % 3)=true then 1 else 0)).natAbs<=m.natAbs:=by split<;>omega
     generalize (y - m)*(if decide (0<r % 3)=true then 1 else 0)=z at hz⊢;by_cases hj:j<v.length
     ·rw [show zA (v++ [z]) j=zA v j from by simp [zA,List.getElem?_append_left hj]];exact bv j
     ·by_cases hj2:j=v.length
      ·subst hj2;rw [show zA (v++ [z]) v.length=z from by simp [zA]];exact hz
      ·rw [show zA (v++ [z]) j=0 from yD (by simp;omega)];omega
    ·rw [zB,zSb];rfl
    ·rw [zI (Ne.symm hlp),ep3,show c+((i+1:Nat):Int)=c+i+1 by omega]
    ·exact fun b u e z=>by rw [zI (zw e hl)];exact (bt.trans (b1.trans (zC.but s3 _))) b u e z
  ·rintro σ H1 ⟨s5,s6,v,rfl,_,lv,bv,el,ep,bt⟩;exact ⟨_,rfl,q l v H1 bt ep hl el lv bv⟩
def LLb(H:Hp)(l:Addr)(vs:List Vec)(p:Addr):Prop:= ∃as,H l=some (.lst (as.map V.ref))/\LIs H as vs/\p∉as/\l≠p
theorem LIs.butp{H H':Hp}{as:List Addr}{vs:List Vec}{p:Addr}(h:LIs H as vs)(b:But [p] H H')(hp:p∉as):LIs H' as vs:=
 Paired.mapM h fun a v ha e=>b _ _ e (by simp only [zTE];exact fun z=>hp (z▸ha))
theorem LLb.but{H H':Hp}{l p:Addr}{vs:List Vec}(h:LLb H l vs p)(b:But [p] H H'):LLb H' l vs p:=by
 obtain ⟨as,e,h1,h2,h3⟩:=h;exact ⟨as,b _ _ e (by simpa using h3),h1.butp b h2,h2,h3⟩
def yE(W:List Vec)(j:Nat):Vec:=W.map fun x=>zA x j
theorem zBC{W:List Vec}{j:Nat}:(yE W j).length=W.length:=by simp [yE]
theorem zHm{K:zSy}{H:Hp}{l D:Addr}{as:List Addr}{R:List Vec}{j:Nat}{jv:Int}{suf rest:L2.St}{Q:VK}(el:H l=some (.lst (as.map V.ref)))(has:LIs H as R)(hj: ∀x∈R,j<x.length)(hl:R.length<=1000)(hD:H D=none)(hv:jv=(j:Int))(hs:suf=some (.int jv)::rest)
  (q:Q (.ref D) (L2.upd H D (.lst ((yE R j).map V.int)))):CompInv (Itl K l) (zAA 0) (fun _ H Q=>Q true H) (tOp (zJr K) (zCU 0) (zCU 1)) 1 suf H D Q:=by
 subst hs hv;have la:=Paired.len has;refine zV as.length (fun i ys H'=>i<=as.length/\ys=((yE R j).take i).map V.int/\H'=L2.upd H D (.lst ys)) ⟨zSU _,by simp,rfl⟩ (by rw [zSQ];omega) ?_ ?_ ?_
 ·rintro i ys H2 hi ⟨_,rfl,rfl⟩;have e2:=zC.upd hD (o:= .lst (((yE R j).take i).map V.int)) _ _ el;exact ⟨by simp;omega,zB,fun h=>⟨_,_,SqL.of e2,zSF (by simpa using h)⟩,fun h=>⟨_,SqL.of e2,by simp;omega⟩⟩
 ·rintro i ys H2 x H3 hi ⟨_,rfl,rfl⟩ ⟨rfl,hx⟩ pre hpre;obtain ⟨p0,rfl⟩:=yi hpre;have s2:=zC.upd hD (o:= .lst (((yE R j).take i).map V.int));have hx':=hx _ (SqL.of (s2 _ _ el));rw [zSK,zSF hi] at hx';cases hx';obtain ⟨u,eu,hu⟩:=Paired.get' has (zSF hi);refine ⟨⟨[some (.ref as[i])],rfl,rfl⟩,zm ?_⟩;refine ⟨_,rfl,_,rfl,as[i],_,_,_,rfl,rfl,SqL.of (hu.same s2),yf (zZ (hj u (zSj eu))),zB,hi,?_,by rw [yM]⟩;rw [zSc,yE,zSK,eu];simp
 ·rintro ys H2 ⟨_,rfl,rfl⟩;rw [List.take_of_length_le (by rw [zBC];omega)];exact q
theorem Bts.take'{b:Nat}{v:Vec}(h:Bts b v)(k:Nat):Bts b (v.take k):=fun i=>by
 by_cases hi:i<k
 ·rw [show zA (v.take k) i=zA v i by simp [zA,List.getElem?_take,hi]];exact h i
 ·rw [show zA (v.take k) i=0 by simp [zA,List.getElem?_take,hi]];exact zSU _
theorem Bts.col{b:Nat}{W:List Vec}(h: ∀x∈W,Bts b x)(j:Nat):Bts b (yE W j):=fun i=>by
 by_cases hi:i<W.length
 ·rw [show zA (yE W j) i=zA W[i] j by simp [zA,yE,zSF hi]];exact h _ (zSk hi) j
 ·rw [yD (by rw [zBC];omega)];exact zSU _
theorem zOf{b:Bool}{ta tb:TE}{σ:L2.St}{H:Hp}{Q:VK}(v:V)(h1:b=true-> ∀Q':VK,Q' v H->ta σ H Q')(h2:b=false-> ∀Q':VK,Q' v H->tb σ H Q')(q:Q v H):if b=true then ta σ H Q else tb σ H Q:=by
 cases b
 ·exact yC (h2 rfl Q q)
 ·exact zm (h1 rfl Q q)
theorem zPq{u v:Vec}{n i:Nat}(h:u.length=n):zA (u++v) (n+i)=zA v i:=by
 subst h;simp [zA,List.getElem?_append_right]
theorem zEU{b:Bool}{t u:TS}{D:Ends}{σ:L2.St}{H:Hp}(P:L2.St->Hp->Prop)(h1:b=true-> ∀N:L2.St->Hp->Prop,(∀σ' H',P σ' H'->N σ' H')->t {D with nx:=N} σ H)(h2:b=false-> ∀N:L2.St->Hp->Prop,(∀σ' H',P σ' H'->N σ' H')->u {D with nx:=N} σ H)(q: ∀σ' H',P σ' H'->D.nx σ' H'):if b=true then t D σ H else u D σ H:=by
 cases b
 ·exact yC (h2 rfl D.nx q)
 ·exact zm (h1 rfl D.nx q)
theorem zIy{K:zSy}{H:Hp}{l D:Addr}{v:Vec}{suf:L2.St}{Q:VK}(hv:LI H l v)(hl:v.length<=1000)(hD:H D=none)
  (q:Q (.ref D) (L2.upd H D (.lst ((v.filter fun z=>!decide (z=0)).map V.int)))):CompInv (Itl K l) (zAA 0) (zFw (tOp rNe (zCU 0) (tC (V.int 0)))) (zCU 0) 1 suf H D Q:=by
 refine zV v.length (fun i ys H'=>i<=v.length/\ys=((v.take i).filter fun z=>!decide (z=0)).map V.int/\H'=L2.upd H D (.lst ys)) ⟨zSU _,by simp,rfl⟩ (by rw [zSQ];omega) ?_ ?_ ?_
 ·rintro i ys H2 hi ⟨_,rfl,rfl⟩;have e2:=hv.same (zC.upd hD (o:= .lst (((v.take i).filter fun z=>!decide (z=0)).map V.int)));have:=zTO (fun z=>!decide (z=0)) (v.take i);rw [List.length_take] at this;exact ⟨by rw [zSM];omega,zB,fun h=>⟨_,_,SqL.of e2,zZ h⟩,fun h=>⟨_,SqL.of e2,by simp;omega⟩⟩
 ·rintro i ys H2 x H3 hi ⟨_,rfl,rfl⟩ ⟨rfl,hx⟩ pre hpre;obtain ⟨p0,rfl⟩:=yi hpre;have hx':=hx _ (SqL.of (hv.same (zC.upd hD (o:= .lst (((v.take i).filter fun z=>!decide (z=0)).map V.int)))));rw [zZ hi] at hx';cases hx';refine ⟨⟨[some (.int (zA v i))],rfl,rfl⟩,?_⟩;refine ⟨_,rfl,rfl,_,rfl,yk (fun c=>?_) (fun c=>?_)⟩
  ·have c':zA v i≠0:=by simpa using c
   refine ⟨_,rfl,zB,hi,?_,by rw [yM]⟩;rw [zCA hi,zTK];simp [c']
  ·have c':zA v i=0:=by simpa using c
   refine ⟨hi,?_,rfl⟩;rw [zCA hi,zTK];simp [c']
 ·rintro ys H2 ⟨_,rfl,rfl⟩;rw [zSe];exact q
theorem zGz{K:zSy}{H:Hp}{l D:Addr}{R:List Vec}{suf:L2.St}{Q:VK}(hR:LL H l R)(hl:R.length<=1000)(hD:H D=none)
  (q: ∀rs H',zC H H'->H' D=some (.lst (rs.map V.ref))->LIs H' rs R->(∀a∈rs,H a=none)/\rs.Nodup/\D∉rs->Q (.ref D) H'):CompInv (Itl K l) (zAA 0) (fun _ H Q=>Q true H) (tCB (fun xs H Q=> ∃p ys,xs= [V.ref p] /\(SqL K H p ys\/SqT K H p ys)/\ ∀l,H l=none->Q (V.ref l) (upd H l (HO.lst ys))) (zDi (zCU 0) zDr)) 1 suf H D Q:=by
 obtain ⟨as,el,has⟩:=hR;have la:=Paired.len has;refine zV as.length (fun i ys H'=> ∃rs:List Addr,i<=as.length/\ys=rs.map V.ref/\LIs H' rs (R.take i)/\rs.length=i/\D∉rs/\(∀a∈rs,H a=none)/\rs.Nodup/\zC H H'/\H' D=some (.lst ys)) ⟨[],zSU _,rfl,by rw [List.take_zero];exact .nil,rfl,by simp,by simp,.nil,zC.upd hD,zB⟩ (by rw [zSQ];omega) ?_ ?_ ?_
 ·rintro i ys H1 hi ⟨rs,_,rfl,_,hrl,_,_,_,s1,e1⟩;have e2:=s1 _ _ el;exact ⟨by simp;omega,e1,fun h=>⟨_,_,SqL.of e2,zSF (by simpa using h)⟩,fun h=>⟨_,SqL.of e2,by simp;omega⟩⟩
 ·rintro i ys H1 x H2 hi ⟨rs,_,rfl,hrs,hrl,hnd,hno,hdp,s1,e1⟩ ⟨rfl,hx⟩ pre hpre;obtain ⟨p0,rfl⟩:=yi hpre;have hx':=hx _ (SqL.of (s1 _ _ el));rw [zSK,zSF hi] at hx';cases hx';obtain ⟨u,eu,hu⟩:=Paired.get' has (zSF hi);refine ⟨⟨[some (.ref as[i])],rfl,rfl⟩,zm ?_⟩;refine ⟨_,rfl,as[i],_,rfl,.inl (SqL.of (hu.same s1)),fun p hp=>?_⟩;have sc:=zC.upd hp (o:= .lst (u.map V.int));have hne:p≠D:=fun z=>by rw [z,e1] at hp;cases hp
  refine ⟨sc _ _ e1,rs++ [p],hi,by simp,?_,by simp [hrl],by simp [hnd,Ne.symm hne],fun a ha=>?_,?_,zC.store (s1.trans sc) hD,zB⟩
  ·rw [zSc,eu];refine Paired.snoc' (Paired.mapM hrs fun a v hm ea=>?_) ?_
   ·have z:=sc _ _ ea;show L2.upd _ D _ a=_;rw [zI fun haD=>hnd (by rw [<-haD];exact hm)];exact z
   ·show L2.upd _ D _ p=_;rw [zI hne,zB]
  ·rcases zTC.mp ha with h | h
   ·exact hno a h
   ·rw [zTE.mp h];exact zC.none s1 hp
  ·refine List.nodup_append.mpr ⟨hdp,by simp,fun a ha b hb=>?_⟩;rw [zTE.mp hb];obtain ⟨j,hj⟩:=List.mem_iff_getElem?.mp ha;obtain ⟨v,_,hv⟩:=Paired.get' hrs hj;exact fun z=>by rw [<-z,show _=some _ from hv] at hp;cases hp
 ·rintro ys H1 ⟨rs,_,rfl,hrs,_,hnd,hno,hdp,s1,e1⟩;rw [List.take_of_length_le (by omega)] at hrs;exact q rs _ s1 e1 hrs ⟨hno,hdp,hnd⟩
theorem zQA{K:zSy}{H:Hp}{p q:Addr}{R:List Vec}{b:Bool}{Q:VK}(h1:LL H p R)(h2:LL H q R)(hq:Q (.bl b) H):zJK K b (.ref p) (.ref q) H Q:=by
 obtain ⟨as,e1,hs1⟩:=h1;obtain ⟨bs',e2,hs2⟩:=h2;refine ⟨p,q,as,bs',fun i=>(R.getD i []).map V.int,rfl,rfl,SqL.of e1,SqL.of e2,by rw [Paired.len hs1,Paired.len hs2],fun i a h=>?_,fun i a h=>?_,fun i x hx=>?_,hq⟩
 ·obtain ⟨v,ev,hv⟩:=Paired.get' hs1 h;show SqL K H a (((R[i]?).getD []).map V.int);rw [ev];exact SqL.of hv
 ·obtain ⟨v,ev,hv⟩:=Paired.get' hs2 h;show SqL K H a (((R[i]?).getD []).map V.int);rw [ev];exact SqL.of hv
 ·obtain ⟨z,_,rfl⟩:=zTF.mp hx;rfl
theorem LL.at{H:Hp}{l:Addr}{vs:List Vec}(h:LL H l vs): ∃ys,H l=some (.lst ys)/\ys.length=vs.length:=let ⟨as,e,p⟩:=h;⟨_,e,by rw [zSM,Paired.len p]⟩
theorem zLM{u v:Vec}{n:Nat}(h1:u.length=n)(h2:v.length=n):dot u v=((List.range n).map fun i=>zA u i*zA v i).sum:=by
 unfold dot;congr 1;refine List.ext_getElem? fun i=>?_;rw [List.getElem?_zipWith,zSK];by_cases hi:i<n
 ·rw [List.getElem?_range hi,zSF (show i<u.length by omega),zSF (show i<v.length by omega)];simp [zA,zSF (show i<u.length by omega),zSF (show i<v.length by omega)]
 ·rw [List.getElem?_eq_none (show u.length<=i by omega),List.getElem?_eq_none (show (List.range n).length<=i by simp;omega)];rfl
theorem zPh{u:Vec}{j i:Nat}{z:Int}(hj:j<u.length):zA (u.set j z) i=if i=j then z else zA u i:=by
 by_cases h:i=j
 ·subst h;simp [zA,hj]
 ·simp [zA,List.getElem?_set,h,Ne.symm h]
theorem zMG{v:Vec}{n i:Nat}:zA (v.drop n) i=zA v (n+i):=by simp [zA,List.getElem?_drop]
theorem zGK{b1:Bool}{u:TT}{σ:L2.St}{H:Hp}{Q:Bool->Hp->Prop}(b2:Bool)(h:b1=true-> ∀Q':Bool->Hp->Prop,Q' b2 H->u σ H Q')(q:Q (b1&&b2) H):if b1=true then u σ H Q else Q false H:=by
 cases b1
 ·exact yC q
 ·exact zm (h rfl Q q)
theorem zPd{n j:Nat}(h:j<n):ixN n (j:Int)=some j:=by
 rw [ixN,if_pos (by omega),if_pos (by omega)];rfl
theorem zHa{b:Nat}{v:Vec}(h:Bts b v)(k:Nat):Bts b (v.drop k):=fun i=>by rw [zMG];exact h _
def zMi(K:zSy):Sp:=fun vs H Q _=> ∃(a p:Addr) (ns:List Int) (c:Int) (n m:Nat) (M:Int),vs= [.ref a,.ref p,.int (n:Int),.int (m:Int),.int M] /\Scr K H a p ns/\ns.length<=63/\H p=some (.lst [.int c])/\0<=c/\c<=300/\n<=6/\m<=3/\0<=M/\M<=1000000/\
 ∀(l:Addr) (Us:List Vec) (c':Int) (H':Hp),But [p] H H'->LLb H' l Us p->H' p=some (.lst [.int c'])->0<=c'->c'<=400->Us.length<=6->(∀u∈Us,u.length=n+m/\Bts 33 u)->Q (.ref l) H'
theorem zCn:FnScope ["_law_script","_law_spot","_law_unknowns","_law_names","_law_most","_law_many","_law_found","_law_k","_law_row","_law_number_here","_law_one","_law_other"] ["_law_script","_law_spot","_law_unknowns","_law_names","_law_most"] (zG zIG):=⟨rfl,rfl,rfl,by decide+kernel,rfl,by decide+kernel,by decide+kernel⟩
theorem p20:1000000<=2^20:=by decide
theorem zRM{f fN fD:Addr}{fd fdN fdD:FuncData}(F:Fun K "_law_equations" "_law_equations" zIG f fd)(B:Bn mg)
  (FN:Fun K "_law_number" "_law_number" zFJ fN fdN) (bN:zK K fdN ["_law_script","_law_k"] []) (mN:mg "_law_number" =some (.ref fN)) (GN:FnOk P w K mg base CX0 2 fN fdN ["_law_script","_law_k"] (zGH K))
  (FD:Fun K "_law_drawn" "_law_drawn" zCp fD fdD) (bD:zK K fdD ["_law_script","_law_spot","_law_size","_law_most"] []) (mD:mg "_law_drawn" =some (.ref fD)) (GD:FnOk P w K mg base CX0 3 fD fdD ["_law_script","_law_spot","_law_size","_law_most"] (zKM K)):FnOk P w K mg base CX0 4 f fd ["_law_script","_law_spot","_law_unknowns","_law_names","_law_most"] (zMi K):=by
 refine F.ok zCn (fun vs H Q E h=>?_) (fun cdv A outer s H vs Q E hr3 h=>?_)
 ·obtain ⟨a,p,ns,c,n,m,M,rfl,_⟩:=h;rfl
 ·obtain ⟨a,p,ns,c,n,m,M,rfl,ha,hns,hp,c0,c1,n6,m3,M0,M1,q⟩:=h;have hr2:Room 2 _:=hr3.mono (by decide);have huN:=Nat.lt_of_succ_lt (zGF hr3);refine ⟨_,QB.out (zE
   (zT 5 zCn.nd rfl (yY (zJ GN hr2 rfl mN FN.kp bN .nil zL (qc (qw 0 rfl) (qc zF zD rfl) rfl) rfl rfl rfl) zF) rfl) (zE
   (zT 6 zCn.nd rfl (zAB zD) rfl) (zE
   (zAd PassesOwn.never rfl (zBm rfl B.range (qc (qw 5 rfl) zD rfl) rfl) (zM 7 zCn.nd rfl (Or.inl rfl) (.inr rfl)) (zE
    (zT 8 zCn.nd rfl (zEH (zJ GD hr3 rfl mD FD.kp bD .nil zL (qc (qw 0 rfl) (qc (qw 1 rfl) (qc (qw 2 rfl) (qc (qw 4 rfl) zD rfl) rfl) rfl) rfl) rfl rfl rfl) (zJ GD hr3 rfl mD FD.kp bD .nil zL (qc (qw 0 rfl) (qc (qw 1 rfl) (qc (qw 3 rfl) (qc (qw 4 rfl) zD rfl) rfl) rfl) rfl) rfl rfl rfl)) rfl) (zE
    (zCj 9 zCn.nd rfl (Or.inr rfl) (zJ GN hr2 rfl mN FN.kp bN .nil zL (qc (qw 0 rfl) (qc (yu zF (qw 7 rfl)) zD rfl) rfl) rfl rfl rfl) rfl (.inl rfl)) (zE
    (zq (t_w (zER (zU (zCL huN) (qw 6 rfl) (zAB zD) rfl) (zDD (zU yb (yY (qx 9 rfl) zF) zF rfl)))) (zE
     (zT 10 zCn.nd rfl (yw (K:=K) rfl (qw 6 rfl) (yY (zAm (qx 9 rfl) zF) (zt (zr (K:=K) rfl) rfl B.len yQ (qc (qw 6 rfl) zD rfl) rfl)) (fun _ _=>rfl)) rfl) (zE
     (zT 11 zCn.nd rfl (yw (K:=K) rfl (qw 6 rfl) (yY (zAm (qx 9 rfl) zF) (zt (zr (K:=K) rfl) rfl B.len yQ (qc (qw 6 rfl) zD rfl) rfl)) (fun _ _=>rfl)) rfl) (zE
     (zBE zAN 8 (by exact zCn.nd) rfl (Or.inl rfl) (.inr rfl) ["_law_here","_law_there"] ["_law_number_here"] [9] rfl (zFg (K:=K) rfl rfl B.zip (qc (qw 10 rfl) (qc (qw 11 rfl) zD rfl) rfl) rfl rfl) rfl (by decide+kernel) rfl (by decide+kernel) (zc rfl lk0) rfl (fr1 ⟨rfl,rfl,rfl,_,rfl,rfl⟩) (zQ rfl) (fun _ _ _ _=>(zBO (K:=K) (n:=2) rfl rfl (yK (zM 0 (show (["_law_here","_law_there","_law_number_here"] :List Str).Nodup by decide+kernel) rfl (.inl rfl) (.inr rfl)) (yK (zM 1 (show (["_law_here","_law_there","_law_number_here"] :List Str).Nodup by decide+kernel) rfl (.inl rfl) (.inr rfl)) zBW rfl) rfl) rfl rfl)) (fun _ _ _ _=>zo) (fun C s₂ H₂ fp xe E hp=>(yu (zAR (yY (zAm (qx 2 rfl) zF) zF) (qw 0 rfl)) (qw 1 rfl))) (fun _=>rfl) rfl) (zH
     (zq (t_w (zER (zU zAb (qw 3 rfl) zF rfl) (zDD (zU yb (yY (zAm (qx 9 rfl) zF) zF) zF rfl)))) (zH
      (zQe (K:=K) rfl (qw 8 rfl) (yu (qw 2 rfl) (yY (zAm (qx 9 rfl) zF) (qw 3 rfl))) zF (fun _ _ _=>rfl))) zf))))) zf) (zE
    (zq (t_w (zER (zU yb (yY (qx 9 rfl) zF) zF rfl) (zDD (zU yb (yY (zAm (qx 9 rfl) zF) zF) zF rfl)))) (zH
     (zT 8 zCn.nd rfl (zEH (zj (cl:= []) ["_law_value"] [] [] rfl (zn (K:=K) rfl (zBe (K:=K) rfl (qw 8 rfl) zAp (zAj (qw 2 rfl)))) rfl (by decide+kernel) rfl (by decide+kernel) (fun _ _ h=>nomatch h) rfl (fun j y i h=>nomatch h) (zQ rfl) (fun _ _ _ _=>(zM 0 (show (["_law_value"] :List Str).Nodup by decide+kernel) rfl (.inl rfl) (.inr rfl))) (fun _ _ _ _=>zo) (fun _ _ _ _=>(zAR zF (qw 0 rfl))) (fun _=>rfl)) (zBe (K:=K) rfl (qw 8 rfl) (zAj (qw 2 rfl)) zAp)) rfl)) zf) (zH
    (ye (zDg (K:=K) rfl (qw 6 rfl) (qw 8 rfl) rfl rfl rfl) rfl)))))) (fun _=>rfl)) (zH
   (zO (qw 6 rfl)))))),?_⟩
  refine ⟨_,rfl,a,ns,1,rfl,ha.sq,hns,by decide,by decide,fun r0 H1 s1 g0 g1=>?_⟩;have z0:=zSX r0 (show (7:Int)≠0 by decide);have z1:=zSR r0 (show (0:Int)<7 by decide);obtain ⟨t,et⟩: ∃t:Nat,r0 % 7=t:=⟨(r0 % 7).toNat,by omega⟩;refine ⟨r0,7,rfl,rfl,by decide,?_⟩;rw [et];refine ⟨zSU _,fun l hl=>?_⟩;have ep1:=s1 _ _ hp;have hlp:l≠p:=fun z=>by rw [z,ep1] at hl;cases hl
  have sl:=zC.upd hl (o:= .lst []);have b1:But [p] H H1:=zC.but s1 _;have sc1:=ha.but b1;refine ⟨_,rfl,(t:Int),rfl,by omega,by omega,?_⟩;refine zAH t (fun i σ H'=> ∃(s7 s8 s9 s10 s11:Option V) (Us:List Vec) (rs:List Addr) (c':Int),σ= [some (.ref a),some (.ref p),some (.int (n:Int)),some (.int (m:Int)),some (.int M),some (.int (t:Int)),some (.ref l),s7,s8,s9,s10,s11] /\i<=t/\Us.length=i/\(∀u∈Us,u.length=n+m/\Bts (21+2*i) u)/\H' l=some (.lst (rs.map V.ref))/\LIs H' rs Us/\p∉rs/\l∉rs/\H' p=some (.lst [.int c'])/\0<=c'/\c'<=300+9*i/\But [p] H1 H')
   ⟨none,none,none,none,none,[],[],c,rfl,zSU _,rfl,by simp,zB,.nil,by simp,by simp,sl _ _ ep1,c0,by omega,zC.but sl _⟩ ?_ ?_ ?_ ?_
  ·rintro i σ H2 hi ⟨s7,s8,s9,s10,s11,Us,rs,c',rfl,_⟩;exact hi
  ·rintro σ H2 ⟨s7,s8,s9,s10,s11,Us,rs,c',rfl,_⟩;exact zSJ _
  ·rintro i σ H0 x H2 hi ⟨s7,s8,s9,s10,s11,Us,rs,c',rfl,_,lU,hU,el,hrs,hpr,hlr,ep,d0,d1,bt⟩ ⟨rfl,rfl⟩;have t6:t<=6:=by omega
   have sc2:=sc1.but bt;refine ⟨_,rfl,_,rfl,_,rfl,_,rfl,a,p,ns,c',n,M,rfl,sc2,hns,ep,d0,by omega,M0,M1,fun l1 v1 H3 b3 ep3 hl1 hv1 lv1 bv1=>?_⟩;have np1:l1≠p:=fun z=>by rw [z,ep] at hl1;cases hl1
   refine ⟨_,rfl,_,rfl,_,rfl,_,rfl,a,p,ns,c'+n,m,M,rfl,sc2.but b3,hns,ep3,by omega,by omega,M0,M1,fun l2 v2 H4 b4 ep4 hl2 hv2 lv2 bv2=>?_⟩;have np2:l2≠p:=fun z=>by rw [z,ep3] at hl2;cases hl2
   have hv1':LI H4 l1 v1:=b4 _ _ hv1 (by simpa using np1);refine ⟨l1,l2,_,_,rfl,rfl,hv1',hv2,by rw [zSQ];simp;omega,fun r hr=>?_⟩;rw [<-zSb];have b34:=b3.trans b4;have el4:=b34 _ _ el (by simpa using hlp);have hrs4:=LIs.butp hrs b34 hpr;have t5:=zC.upd hr (o:= .lst ((v1++v2).map V.int));have er5:LI (L2.upd H4 r (.lst ((v1++v2).map V.int))) r (v1++v2):=zB;have nr2:H2 r=none:=by
    cases e:H2 r with
    | none=>rfl
    | some o=>
     by_cases z:r=p
     ·rw [z,ep4] at hr;cases hr
     ·rw [b34 _ _ e (by simpa using z)] at hr;cases hr
   have lv:(v1++v2).length=n+m:=by rw [zSh,lv1,lv2]
   have bv:Bts 20 (v1++v2):=zEX (fun i=>zST (bv1 i) (zST (by omega) p20)) (fun i=>zST (bv2 i) (zST (by omega) p20));have el5:=t5 _ _ el4;have hrs5:=LIs.same hrs4 t5;have ep5:=t5 _ _ ep4;have sc5:=((sc2.but b34).but (zC.but t5 _));have bt5:But [p] H1 _:=bt.trans (b34.trans (zC.but t5 _));have fr5: ∀b,(L2.upd H4 r (.lst ((v1++v2).map V.int))) b=none->H2 b=none:=fun b hb=>by
    cases e:H2 b with
    | none=>rfl
    | some o=>
     by_cases z:b=p
     ·rw [z,ep5] at hb;cases hb
     ·rw [(b34.trans (zC.but t5 _)) _ _ e (by simpa using z)] at hb;cases hb
   generalize v1++v2=v at lv bv er5 t5 sc5 bt5 el5 hrs5 ep5 fr5⊢;generalize L2.upd H4 r (.lst (v.map V.int))=H5 at er5 t5 sc5 bt5 el5 hrs5 ep5 fr5⊢;clear t5 b34 b3 b4 el4 hrs4 hr hv1 hv1' hv2 hl1 hl2;refine ⟨_,rfl,_,rfl,_,_,rfl,rfl,a,ns,_,rfl,sc5.sq,hns,by omega,by omega,fun k H6 s6 k0 k1=>?_⟩;have lrs:rs.length=i:=by rw [Paired.len hrs,lU]
   refine ⟨_,rfl,zSU _,fun pb hpb=>⟨l,pb,_,rfl,rfl,SqL.of (zC.upd hpb _ _ (s6 _ _ el5)),SqL.of zB,_,rfl,zGK (decide (V.int (k % 3)=V.int 1)) (fun _ Q' h=>⟨_,rfl,k,3,rfl,rfl,by decide,rfl,_,rfl,h⟩) ?_⟩⟩;have s56:=s6.trans (zC.upd hpb (o:= .lst []));have ep6:=s56 _ _ ep5;have el6:=s56 _ _ el5;have hrs6:=LIs.same hrs5 s56;have er6:=er5.same s56;have bt6:=bt5.trans (zC.but s56 _);have fr6: ∀b,(L2.upd H6 pb (.lst [])) b=none->H2 b=none:=fun b hb=>fr5 b (zC.none s56 hb);generalize L2.upd H6 pb (.lst [])=H7 at s56 ep6 el6 hrs6 er6 bt6 fr6⊢;clear s6 hpb;refine zEU (fun σ' H'=> ∃(s10 s11:Option V) (r':Addr) (u:Vec),σ'= [some (.ref a),some (.ref p),some (.int (n:Int)),some (.int (m:Int)),some (.int M),some (.int (t:Int)),some (.ref l),some (.int ((0:Int)+(i:Int))),some (.ref r'),some (.int k),s10,s11] /\zC H7 H'/\LI H' r' u/\H2 r'=none/\u.length=n+m/\Bts (21+2*(i+1)) u/\(k % 3≠1->Bts 20 u)) (fun c N hN=>?_) (fun c N hN=>?_) ?_
   ·have c':=Bool.and_eq_true_iff.mp c;have hpos:0<rs.length:=by
     cases rs with
     | nil=>cases c'.1
     | cons _ _=>exact Nat.succ_pos _
    have k3:k % 3=1:=by simpa using c'.2
    have lm:((rs.map V.ref).length:Int)=(rs.length:Int):=by rw [zSM]
    have hp1:(0:Int)<((rs.map V.ref).length:Int):=by omega
    have gi: ∀x:Int,∃j:Nat,x %((rs.map V.ref).length:Int)=j/\j<rs.length:=fun x=>by
     have a0:=zSX x (show ((rs.map V.ref).length:Int)≠0 by omega);have a1:=zSR x hp1;exact ⟨(x %((rs.map V.ref).length:Int)).toNat,by omega,by omega⟩
    obtain ⟨j1,ej1,hj1⟩:=gi (k/3);obtain ⟨j2,ej2,hj2⟩:=gi (k/21);obtain ⟨u1,eu1,hu1⟩:=Paired.get' hrs6 (zSF hj1);obtain ⟨u2,eu2,hu2⟩:=Paired.get' hrs6 (zSF hj2);have q1:=hU u1 (zSj eu1);have q2:=hU u2 (zSj eu2);have gr: ∀o (h:o<rs.length),(rs.map V.ref)[o]?=some (.ref rs[o]):=fun o h=>by rw [zSK,zSF h];rfl
    refine ⟨_,rfl,_,rfl,k,3,rfl,rfl,⟨by decide,by decide⟩,_,rfl,l,_,rfl,.inl (SqL.of el6),_,_,rfl,rfl,hp1,l,_,_,.ref rs[j1],rfl,rfl,SqL.of el6,by rw [ej1];exact yf (gr j1 hj1),?_⟩;refine ⟨_,rfl,_,rfl,k,21,rfl,rfl,⟨by decide,by decide⟩,_,rfl,l,_,rfl,.inl (SqL.of el6),_,_,rfl,rfl,hp1,l,_,_,.ref rs[j2],rfl,rfl,SqL.of el6,by rw [ej2];exact yf (gr j2 hj2),?_⟩;have f0:=zSX (k/147) (show (3:Int)≠0 by decide);have f1:=zSR (k/147) (show (0:Int)<3 by decide);obtain ⟨cc,ecc⟩: ∃cc:Nat,k/147 % 3=cc:=⟨(k/147 % 3).toNat,by omega⟩;have cc2:cc<=2:=by omega
    have lz:(List.zipWith (fun x y=>(cc:Int)*x+y) u1 u2).length=n+m:=by simp [q1.1,q2.1]
    have bz: ∀j,(zA (List.zipWith (fun x y=>(cc:Int)*x+y) u1 u2) j).natAbs<=3*2^(21+2*i):=fun j=>by
     by_cases hj:j<n+m
     ·have e:zA (List.zipWith (fun x y=>(cc:Int)*x+y) u1 u2) j=(cc:Int)*zA u1 j+zA u2 j:=by
       simp [zA,List.getElem?_zipWith,zSF (show j<u1.length by omega),zSF (show j<u2.length by omega)]
      rw [e];have x1:(zA u1 j).natAbs<=2^(21+2*i):=q1.2 j;have x2:(zA u2 j).natAbs<=2^(21+2*i):=q2.2 j;have x3:((cc:Int)*zA u1 j).natAbs<=2*2^(21+2*i):=by
       rw [Int.natAbs_mul];exact Nat.mul_le_mul (by omega) x1
      omega
     ·rw [yD (by omega)];exact zSU _
    refine ⟨_,rfl,_,rfl,rs[j1],rs[j2],rfl,⟨_,SqL.of hu1⟩,⟨_,SqL.of hu2⟩,fun D hD=>?_⟩;refine zV (n+m) (fun i ys H'=>i<=n+m/\ys=((List.zipWith (fun x y=>(cc:Int)*x+y) u1 u2).take i).map V.int/\zC H7 H'/\H' D=some (.lst ys)) ⟨zSU _,by simp,zC.upd hD,zB⟩ (by rw [zSQ];omega) ?_ ?_ ?_
    ·rintro i ys H' hi ⟨_,rfl,s3,e3⟩;exact ⟨by rw [zSM,List.length_take];omega,e3,fun h=>⟨_,_,_,_,SqL.of (hu1.same s3),SqL.of (hu2.same s3),zZ (by omega),zZ (by omega)⟩,fun h=>⟨_,_,SqL.of (hu1.same s3),SqL.of (hu2.same s3),.inr (by simp;omega)⟩⟩
    ·rintro i' ys H' x H'' hi' ⟨_,rfl,s3,e3⟩ ⟨tt,x1,y1,hx1,hy1,ht,rfl,rfl⟩ pre hpre;obtain ⟨p0,p1,rfl⟩:=zi hpre;have hx':=hx1 _ (SqL.of (hu1.same s3));have hy':=hy1 _ (SqL.of (hu2.same s3));rw [zZ (show i'<u1.length by omega)] at hx';rw [zZ (show i'<u2.length by omega)] at hy';cases hx';cases hy';have st:=zC.upd ht (o:= .tup [.int (zA u1 i'),.int (zA u2 i')]);refine ⟨tt,_,rfl,SqT.of zB,rfl,_,_,rfl,_,_,rfl,rfl,⟨[some (.int (zA u1 i')),some (.int (zA u2 i'))],rfl,rfl⟩,zm ?_⟩;refine ⟨_,rfl,k,147,rfl,rfl,⟨by decide,by decide⟩,_,_,rfl,rfl,by decide,_,rfl,_,_,rfl,rfl,⟨by rw [ecc];exact yg (b:=1) (show Bt 1 (cc:Int) from by unfold Bt;omega) (by decide),yg (q1.2 i') (by omega)⟩,_,rfl,_,_,rfl,rfl,st _ _ e3,hi',?_,zC.store (s3.trans st) hD,zB⟩;rw [zSc,List.getElem?_zipWith,zBV (show i'<u1.length by omega),zBV (show i'<u2.length by omega),ecc];simp
    ·rintro ys H' ⟨_,rfl,s3,e3⟩;rw [List.take_of_length_le (by omega)] at e3;have nD:H2 D=none:=fr6 D hD;generalize List.zipWith (fun x y=>(cc:Int)*x+y) u1 u2=u at lz bz e3;have p2:2^(21+2*(i+1))=4*2^(21+2*i):=by rw [show 21+2*(i+1)=21+2*i+2 by omega,Nat.pow_add,Nat.mul_comm]
     have pp:1<=2^(21+2*i):=Nat.one_le_two_pow;refine ⟨_,rfl,_,_,rfl,rfl,_,rfl,zGK (decide (V.int (k/441 % 3)=V.int 1)) (fun _ Q' h=>⟨_,rfl,k,441,rfl,rfl,⟨by decide,by decide⟩,_,_,rfl,rfl,by decide,rfl,_,rfl,h⟩) (yk (fun c3=>?_) (fun c3=>?_))⟩
     ·have m0:0<m:=by
       have:=of_decide_eq_true (Bool.and_eq_true_iff.mp c3).1;omega
      have w0:=zSX (k/1323) (show (m:Int)≠0 by omega);have w1:=zSR (k/1323) (show (0:Int)<m by omega);obtain ⟨j,ej⟩: ∃j:Nat,k/1323 %(m:Int)=j:=⟨(k/1323 %(m:Int)).toNat,by omega⟩;have hj:n+j<u.length:=by omega
      have ei:(n:Int)+k/1323 %(m:Int)=((n+j:Nat):Int):=by omega
      refine ⟨_,rfl,_,rfl,_,rfl,k,1323,rfl,rfl,⟨by decide,by decide⟩,_,rfl,_,_,rfl,rfl,by omega,_,_,rfl,rfl,D,_,_,_,rfl,rfl,by rw [ei];omega,SqL.of e3,by rw [ei];exact zZ hj,?_⟩;refine ⟨_,_,rfl,rfl,D,_,_,n+j,rfl,rfl,e3,by rw [ei];exact zPd (by rw [zSM];exact hj),?_⟩;rw [<-List.map_set];refine hN _ _ ⟨_,_,D,u.set (n+j) (zA u (n+j)+1),rfl,zC.store s3 hD,zB,nD,by simp [lz],fun i'=>?_,fun z=>absurd k3 z⟩;show (zA (u.set (n+j) _) i').natAbs<=_;rw [zPh hj];have y1:=bz (n+j);have y2:=bz i';split<;>omega
     ·exact hN _ _ ⟨_,_,D,u,rfl,s3,e3,nD,lz,fun i'=>by show (zA u i').natAbs<=_;have:=bz i';omega,fun z=>absurd k3 z⟩
   ·exact hN _ _ ⟨_,_,r,v,rfl,zC.refl _,er6,nr2,lv,bv.mono (by omega),fun _=>bv⟩
   ·rintro σ' H8 ⟨s10',s11',r',u,rfl,s78,hu,nr',lu,bu,b20⟩;refine ⟨_,rfl,k,3,rfl,rfl,by decide,rfl,_,rfl,zGK (decide (V.int (k/3 % 2)=V.int 1)) (fun _ Q' h=>⟨_,rfl,k,3,rfl,rfl,⟨by decide,by decide⟩,_,_,rfl,rfl,by decide,rfl,_,rfl,h⟩) ?_⟩;refine zEU (fun σ' H'=> ∃(r'':Addr) (u':Vec),σ'= [some (.ref a),some (.ref p),some (.int (n:Int)),some (.int (m:Int)),some (.int M),some (.int (t:Int)),some (.ref l),some (.int ((0:Int)+(i:Int))),some (.ref r''),some (.int k),s10',s11'] /\zC H7 H'/\LI H' r'' u'/\H2 r''=none/\u'.length=n+m/\Bts (21+2*(i+1)) u') (fun c N hN=>?_) (fun c N hN=>?_) ?_
    ·have k3:k % 3=2:=by simpa using (Bool.and_eq_true_iff.mp c).1
     have bu20:=b20 (by omega);refine ⟨_,rfl,_,rfl,_,rfl,r',_,rfl,SqL.of hu,fun pa hpa=>?_⟩;rw [zIV (by omega) (by rw [zSM];omega),Int.toNat_natCast,<-List.map_take];have ta:=zC.upd hpa (o:= .lst ((u.take n).map V.int));have ea:LI (L2.upd H8 pa (.lst ((u.take n).map V.int))) pa (u.take n):=zB;have lt:(u.take n).length=n:=by rw [List.length_take];omega
     have bt':=Bts.take' bu20 n;have ld:(u.drop n).length=m:=by rw [List.length_drop];omega
     generalize L2.upd H8 pa (.lst ((u.take n).map V.int))=H9 at ta ea⊢;generalize u.take n=ut at lt bt' ea;refine ⟨pa,rfl,⟨_,SqL.of ea⟩,fun D hD=>?_⟩;refine zV n (fun i ys H'=>i<=n/\ys=((ut.map fun x=>2*x).take i).map V.int/\H'=L2.upd H9 D (.lst ys)) ⟨zSU _,by simp,rfl⟩ (by rw [zSQ];omega) ?_ ?_ ?_
     ·rintro i ys H' hi ⟨_,rfl,rfl⟩;have e2:=ea.same (zC.upd hD (o:= .lst (((ut.map fun x=>2*x).take i).map V.int)));exact ⟨by simp;omega,zB,fun h=>⟨_,_,SqL.of e2,zZ (by omega)⟩,fun h=>⟨_,SqL.of e2,by simp;omega⟩⟩
     ·rintro i' ys H' x H'' hi' ⟨_,rfl,rfl⟩ ⟨rfl,hx⟩ pre hpre;obtain ⟨p0,rfl⟩:=yi hpre;have hx':=hx _ (SqL.of (ea.same (zC.upd hD (o:= .lst (((ut.map fun x=>2*x).take i').map V.int)))));rw [zZ (show i'<ut.length by omega)] at hx';cases hx';refine ⟨⟨[some (.int (zA ut i'))],rfl,rfl⟩,zm ?_⟩;refine ⟨_,rfl,_,_,rfl,rfl,⟨yg (b:=1) (show Bt 1 (2:Int) by unfold Bt;decide) (by decide),yg (bt' i') (by decide)⟩,zB,hi',?_,by rw [yM]⟩;rw [zSc,zSK,zBV (show i'<ut.length by omega)];simp
     ·rintro ys H' ⟨_,rfl,rfl⟩;rw [List.take_of_length_le (by simp;omega)];have tD:=zC.upd hD (o:= .lst ((ut.map fun x=>2*x).map V.int));have taD:=ta.trans tD;refine ⟨_,rfl,_,rfl,_,rfl,r',_,rfl,SqL.of (hu.same taD),fun pc hpc=>?_⟩;rw [zFM (by omega) (by rw [zSM];omega),Int.toNat_natCast,<-List.map_drop];have tc:=zC.upd hpc (o:= .lst ((u.drop n).map V.int));refine ⟨D,pc,_,_,rfl,rfl,tc _ _ zB,zB,by rw [zSQ];simp;omega,fun pd hpd=>?_⟩;rw [<-zSb];have td:=zC.upd hpd (o:= .lst (((ut.map fun x=>2*x)++u.drop n).map V.int));have s89:=(taD.trans tc).trans td;refine hN _ _ ⟨pd,_,rfl,s78.trans s89,zB,fr6 pd (zC.none (s78.trans (taD.trans tc)) hpd),by simp [lt,ld],Bts.mono (zEX (b:=21) (fun i'=>?_) ((zHa bu20 n).mono (by decide))) (by omega)⟩;rw [zIO (fun x=>2*x) rfl];have:=bt' i';unfold Bt at this⊢;have e21:2^21=2*2^20:=rfl;omega
    ·exact hN _ _ ⟨r',u,rfl,s78,hu,nr',lu,bu⟩
    ·rintro σ'' H9 ⟨r'',u',rfl,s79,hu',nr'',lu',bu'⟩;have el9:=s79 _ _ el6;have ep9:=s79 _ _ ep6;have nrl:r''≠l:=fun z=>by rw [z,el] at nr'';cases nr''
     have nrp:r''≠p:=fun z=>by rw [z,ep] at nr'';cases nr''
     refine ⟨_,rfl,.inl ⟨rfl,_,SqL.of el9⟩,_,rfl,l,_,_,rfl,rfl,el9,by rw [zSQ];simp;omega,?_⟩;refine ⟨_,_,_,_,_,Us++ [u'],rs++ [r''],c'+n+m,rfl,hi,by simp [lU],fun u hu=>?_,by rw [zB,zSb];rfl,?_,by simp [hpr,Ne.symm nrp],by simp [hlr,Ne.symm nrl],by rw [zI (Ne.symm hlp)];exact ep9,by omega,by omega,?_⟩
     ·rcases zTC.mp hu with h | h
      ·exact ⟨(hU u h).1,(hU u h).2.mono (by omega)⟩
      ·rw [zTE.mp h];exact ⟨lu',bu'⟩
     ·refine Paired.snoc' (Paired.mapM (LIs.same hrs6 s79) fun a v hm ea=>?_) ?_
      ·show L2.upd _ l _ a=_;rw [zI fun hz=>hlr (by rw [<-hz];exact hm)];exact ea
      ·show L2.upd _ l _ r''=_;rw [zI nrl];exact hu'
     ·exact fun b u e z=>by rw [zI (zw e hl)];exact (bt6.trans (zC.but s79 _)) b u e z
  ·rintro σ H2 ⟨s7,s8,s9,s10,s11,Us,rs,c',rfl,_,lU,hU,el,hrs,hpr,hlr,ep,d0,d1,bt⟩;exact ⟨_,rfl,q l Us c' H2 (b1.trans bt) ⟨rs,el,hrs,hpr,hlp⟩ ep d0 (by omega) (by omega) fun u hu=>⟨(hU u hu).1,(hU u hu).2.mono (by omega)⟩⟩
def zKX(k m:Nat)(R:List Vec)(E:Eqn):Prop:= ∀at_,at_<k+m->dot E.1 (yE R at_)+(if k<=at_ then zA E.2 (at_ - k) else 0)=0
def zHM:Sp:=fun vs H Q _=> ∃(el t r:Addr) (n m k:Nat) (Es:List Eqn) (R:List Vec),vs= [.int (n:Int),.int (m:Int),.ref el,.ref t] /\H t=some (.tup [.str "solved",.int (k:Int),.ref r])/\LL H r R/\LL H el (zW Es)/\R.length=n/\(∀x∈R,x.length=k+m/\Bts 50000000 x)/\n<=100/\k+m<=1000/\Es.length<=1000/\
 (∀E∈Es,E.1.length=n/\E.2.length=m/\Bts 50000000 E.1/\zKX k m R E)/\ ∀H',zC H H'->Q (.bl true) H'
theorem zEP:FnScope ["_law_unknowns","_law_names","_law_equations_here","_law_told","_law_free","_law_rows","_law_row","_law_at","_law_own"] ["_law_unknowns","_law_names","_law_equations_here","_law_told"] (zG zBH):=⟨rfl,rfl,rfl,by decide+kernel,rfl,by decide+kernel,by decide+kernel⟩
theorem zQV{f fS fWh fWs:Addr}{fd fdS fdWh fdWs:FuncData}(F:Fun K "_law_solution" "_law_solution" zBH f fd)(B:Bn mg)
  (FS:Fun K "_law_sum" "_law_sum" zGX fS fdS) (bS:zK K fdS ["_law_row","_law_values"] []) (mS:mg "_law_sum" =some (.ref fS)) (GS:FnOk P w K mg base CX0 1 fS fdS ["_law_row","_law_values"] zKT)
  (FWh:Fun K "_law_whole" "_law_whole" zCK fWh fdWh) (bWh:zK K fdWh ["_law_found"] []) (mWh:mg "_law_whole" =some (.ref fWh)) (GWh:FnOk P w K mg base CX0 1 fWh fdWh ["_law_found"] zHt)
  (FWs:Fun K "_law_wholes" "_law_wholes" zBd fWs fdWs) (bWs:zK K fdWs ["_law_found","_law_size"] []) (mWs:mg "_law_wholes" =some (.ref fWs)) (GWs:FnOk P w K mg base CX0 2 fWs fdWs ["_law_found","_law_size"] zFx):FnOk P w K mg base CX0 3 f fd ["_law_unknowns","_law_names","_law_equations_here","_law_told"] zHM:=by
 refine F.ok zEP (fun vs H Q E h=>?_) (fun cdv A outer s H vs Q E hr2 h=>?_)
 ·obtain ⟨el,t,r,n,m,k,Es,R,rfl,_⟩:=h;rfl
 ·obtain ⟨el,t,r,n,m,k,Es,R,rfl,et,⟨as,er,has⟩,⟨bs',ee,hbs⟩,hR,hx,hn,hkm,hE,hf,q⟩:=h;have la:=Paired.len has;have lb:=Paired.len hbs;have hr1:Room 1 _:=hr2.mono (by decide);refine ⟨_,QB.out (zE
   (zq (t_w (zAa (ya (yZ (zt (yc (K:=K) rfl) rfl B.isi zk (qc (qw 3 rfl) (qc (zAr (v:= .ty "tuple") rfl B.tuple zEs rfl (by decide) rfl) zD rfl) rfl) rfl) (fun _=>rfl))) (zAa (zU yy (zt (zr (K:=K) rfl) rfl B.len yQ (qc (qw 3 rfl) zD rfl) rfl) zF rfl) (zAa (ya (yZ (zJ GWh hr1 rfl mWh FWh.kp bWh .nil zL (qc (zx (K:=K) rfl (qw 3 rfl) zF (fun _ _=>rfl)) zD rfl) rfl rfl rfl) (fun _=>rfl))) (zAy (ya (yZ (zt (yc (K:=K) rfl) rfl B.isi zk (qc (zx (K:=K) rfl (qw 3 rfl) zF (fun _ _=>rfl)) (qc (zAr (v:= .ty "list") rfl B.list zAX rfl (by decide) rfl) zD rfl) rfl) rfl) (fun _=>rfl)))))))) (zH
    (zO zAD)) zf) (zE
   (zNT (zRg (K:=K) rfl (qw 3 rfl) (zAj zF) zAp) (zBO (K:=K) rfl rfl (yK (zM 4 zEP.nd rfl (Or.inr rfl) (.inl rfl)) (yK (zM 5 zEP.nd rfl (Or.inl rfl) (.inr rfl)) zBW rfl) rfl) rfl rfl) rfl rfl rfl) (zE
   (zq (t_w (zAa (zU zEO (qx 4 rfl) zF rfl) (zAa (zU yy (zt (zr (K:=K) rfl) rfl B.len yQ (qc (qw 5 rfl) zD rfl) rfl) (qw 0 rfl) rfl) (zAy (ya (yZ (zt (zBF (K:=K) rfl rfl) rfl B.all zDA (qc (zj ["_law_row"] ["_law_names","_law_free"] [1,4] rfl (zn (K:=K) rfl (qw 5 rfl)) rfl (by decide+kernel) rfl (by decide+kernel) (zc rfl (zc rfl lk0)) rfl (fr2 ⟨rfl,rfl,rfl,_,rfl,rfl⟩ ⟨rfl,rfl,rfl,_,rfl,rfl⟩) (zQ rfl) (fun _ _ _ _=>(zM 0 (show (["_law_row","_law_names","_law_free"] :List Str).Nodup by decide+kernel) rfl (.inl rfl) (.inr rfl))) (fun _ _ _ _=>zo) (fun _ _ _ _=>(zJ GWs hr2 rfl mWs FWs.kp bWs .nil zL (qc (qw 0 rfl) (qc (yu (qx 2 rfl) (qx 1 rfl)) zD rfl) rfl) rfl rfl rfl)) (fun _=>rfl)) zD rfl) rfl) (fun _=>rfl))))))) (zH
    (zO zAD)) zf) (zE
   (zAd PassesOwn.never rfl (zn (K:=K) rfl (qw 2 rfl)) (zM 6 zEP.nd rfl (Or.inl rfl) (.inr rfl)) (zH
    (zAd PassesOwn.never rfl (zBm rfl B.range (qc (yu (qx 4 rfl) (qx 1 rfl)) zD rfl) rfl) (zM 7 zEP.nd rfl (Or.inr rfl) (.inl rfl)) (zE
     (zT 8 zEP.nd rfl (zFS (zU zRe (qx 7 rfl) (qx 4 rfl) rfl) (yw (K:=K) rfl (qw 6 rfl) (zES (yu (qw 0 rfl) (qx 7 rfl)) (qx 4 rfl)) (fun _ _=>rfl)) zF) rfl) (zH
     (zq (zU yy (yu (zJ GS hr1 rfl mS FS.kp bS .nil zL (qc (zBe (K:=K) rfl (qw 6 rfl) zAp (zAj (qw 0 rfl))) (qc (zj ["_law_one"] ["_law_at"] [7] rfl (zn (K:=K) rfl (qw 5 rfl)) rfl (by decide+kernel) rfl (by decide+kernel) (zc rfl lk0) rfl (fr1 ⟨rfl,rfl,rfl,_,rfl,rfl⟩) (zQ rfl) (fun _ _ _ _=>(zM 0 (show (["_law_one","_law_at"] :List Str).Nodup by decide+kernel) rfl (.inl rfl) (.inr rfl))) (fun _ _ _ _=>zo) (fun _ _ _ _=>(yw (K:=K) rfl (qw 0 rfl) (qx 1 rfl) (fun _ _=>rfl))) (fun _=>rfl)) zD rfl) rfl) rfl rfl rfl) (qw 8 rfl)) zF rfl) (zH
      (zO zAD)) zf))) (fun _=>rfl))) (fun _=>rfl)) (zH
   (zO zAD)))))),?_⟩
  refine ⟨_,rfl,_,.ty "tuple",_,.type "tuple",_,rfl,rfl,.tup et,zBo K,_,rfl,yC ?_⟩;refine ⟨_,rfl,t,_,rfl,.inr (SqT.of et),rfl,_,rfl,yh (by rfl) ?_⟩;refine ⟨_,rfl,t,_,_,_,rfl,rfl,SqT.of et,rfl,(k:Int),rfl,_,rfl,yC ?_⟩;refine ⟨_,rfl,t,_,_,_,rfl,rfl,SqT.of et,rfl,_,.ty "list",_,.type "list",_,rfl,rfl,.lst er,zAF K,_,rfl,yC ?_⟩;refine ⟨_,rfl,_,rfl,t,_,rfl,SqT.of et,fun h=>absurd (show (1:Nat)=0 from h.1) (by decide),fun t2 ht2=>?_⟩;refine ⟨t2,_,rfl,SqT.of zB,rfl,_,_,rfl,_,_,rfl,rfl,?_⟩;have s1:zC H (L2.upd H t2 (.tup [.int (k:Int),.ref r])):=zC.upd ht2;refine ⟨_,rfl,(k:Int),0,rfl,rfl,_,rfl,yh (zSf (by omega)) ?_⟩;refine ⟨_,rfl,r,_,rfl,.inl (SqL.of (s1 _ _ er)),_,rfl,rfl,_,rfl,yh (by rw [zSM,la,hR,zSd rfl];rfl) ?_⟩;refine ⟨_,rfl,r,rfl,⟨_,SqL.of (s1 _ _ er)⟩,fun D hD=>?_⟩;have sD:=s1.trans (zC.upd hD (o:= .lst []));refine zV as.length (fun i ys H'=>i<=as.length/\ys=(List.replicate i true).map V.bl/\zC H H'/\H' D=some (.lst ys)) ⟨zSU _,rfl,sD,zB⟩ (by rw [zSQ];omega) ?_ ?_ ?_
  ·rintro i ys H2 hi ⟨_,rfl,s2,e2⟩;have e3:=s2 _ _ er;exact ⟨by simp,e2,fun h=>⟨_,_,SqL.of e3,zSF (by simpa using h)⟩,fun h=>⟨_,SqL.of e3,by simp;omega⟩⟩
  ·rintro i ys H2 x H3 hi ⟨_,rfl,s2,e2⟩ ⟨rfl,hx'⟩ pre hpre;obtain ⟨p0,rfl⟩:=yi hpre;have hx':=hx' _ (SqL.of (s2 _ _ er));rw [zSK,zSF hi] at hx';cases hx';obtain ⟨v,ev,hv⟩:=Paired.get' has (zSF hi);refine ⟨⟨[some (.ref as[i])],rfl,rfl⟩,zm ?_⟩;refine ⟨_,rfl,_,rfl,_,rfl,k,m,rfl,rfl,as[i],v,k+m,by simp,hv.same s2,(hx v (zSj ev)).1,by omega,fun H4 s4=>⟨s4 _ _ e2,hi,?_,zC.store (s2.trans s4) (zC.none s1 hD),zB⟩⟩;rw [List.replicate_succ',zSb];rfl
  rintro ys H2 ⟨_,rfl,s2,e2⟩;refine ⟨D,List.replicate as.length true,rfl,SqL.of e2,_,rfl,yh (by simp) ?_⟩;refine ⟨_,rfl,el,rfl,⟨_,SqL.of (s2 _ _ ee)⟩,?_⟩;refine zAH bs'.length (fun i σ H'=> ∃s6 s7 s8:Option V,σ= [some (.int (n:Int)),some (.int (m:Int)),some (.ref el),some (.ref t),some (.int (k:Int)),some (.ref r),s6,s7,s8] /\i<=bs'.length/\zC H H') ⟨none,none,none,rfl,zSU _,s2⟩ ?_ ?_ ?_ ?_
  ·rintro i σ H1 hi ⟨s6,s7,s8,rfl,_,s3⟩;exact ⟨_,_,SqL.of (s3 _ _ ee),zSF (by simpa using hi)⟩
  ·rintro σ H1 ⟨s6,s7,s8,rfl,_,s3⟩;exact ⟨_,SqL.of (s3 _ _ ee),by simp⟩
  ·rintro i σ H0 x H1 hi ⟨s6,s7,s8,rfl,_,s3⟩ ⟨rfl,hx'⟩;have hx':=hx' _ (SqL.of (s3 _ _ ee));rw [zSK,zSF hi] at hx';cases hx';obtain ⟨u,eu,hu⟩:=Paired.get' hbs (zSF hi);have hiE:i<Es.length:=by rw [lb,zW,zSM] at hi;exact hi
   rw [zW,zSK,zSF hiE] at eu;cases eu;obtain ⟨l1,l2,b1,ft⟩:=hf _ (zSk hiE);generalize Es[i] =E' at hu l1 l2 b1 ft;refine ⟨_,rfl,_,rfl,k,m,rfl,rfl,(k:Int)+(m:Int),rfl,by omega,by omega,?_⟩;refine zAH (k+m) (fun j σ H'=> ∃s7 s8:Option V,σ= [some (.int (n:Int)),some (.int (m:Int)),some (.ref el),some (.ref t),some (.int (k:Int)),some (.ref r),some (.ref bs'[i]),s7,s8] /\j<=k+m/\zC H H') ⟨s7,s8,rfl,zSU _,s3⟩ ?_ ?_ ?_ ?_
   ·rintro j σ H2 hj ⟨s7,s8,rfl,_⟩;exact hj
   ·rintro σ H2 ⟨s7,s8,rfl,_⟩;exact zSJ _
   ·rintro j σ H2 x H3 hj ⟨s7,s8,rfl,_,s4⟩ ⟨rfl,rfl⟩;refine ⟨_,rfl,_,rfl,(0:Int)+(j:Int),k,rfl,rfl,_,rfl,?_⟩;refine zOf (.int (if k<=j then zA E'.2 (j - k) else 0)) (fun c Q' q'=>?_) (fun c Q' q'=>?_) ?_
    ·have hkj:k<=j:=by have:=of_decide_eq_true c;omega
     rw [if_pos hkj] at q';refine ⟨_,rfl,_,rfl,_,rfl,n,(0:Int)+(j:Int),rfl,rfl,_,rfl,_,k,rfl,rfl,bs'[i],_,_,_,rfl,rfl,SqL.of (hu.same s4),?_,q'⟩;rw [show (n:Int)+((0:Int)+(j:Int)) -(k:Int)=((n+(j - k):Nat):Int) by omega];rw [<-zPq (u:=E'.1) (v:=E'.2) l1];exact yf (zZ (by rw [zSh];omega))
    ·have hkj: ¬k<=j:=by have:=of_decide_eq_false c;omega
     rw [if_neg hkj] at q';exact q'
    refine ⟨_,rfl,_,rfl,_,rfl,bs'[i],_,rfl,SqL.of (hu.same s4),fun pa hpa=>?_⟩;rw [zEM (by rw [zSh];omega),show (E'.1++E'.2).take n=E'.1 by rw [<-l1];simp];have sa:=zC.upd hpa (o:= .lst (E'.1.map V.int));have s1a:=s4.trans sa;refine ⟨_,rfl,r,rfl,⟨_,SqL.of (s1a _ _ er)⟩,fun D2 hD2=>?_⟩;have s5:=zC.upd hD2 (o:= .lst ((yE R j).map V.int));refine zHm (j:=j) (s1a _ _ er) (LIs.same has s1a) (fun x hx'=>by rw [(hx x hx').1];exact hj) (by omega) hD2 (Int.zero_add _) rfl ?_;refine ⟨pa,D2,E'.1,yE R j,rfl,s5 _ _ zB,zB,Nat.le_of_eq (by rw [zBC,l1,hR]),by omega,b1,Bts.col (fun x hx'=>(hx x hx').2) j,fun H5 s6'=>?_⟩;refine ⟨_,rfl,_,_,rfl,rfl,rfl,_,rfl,yh (by rw [ft j hj];rfl) ?_⟩;exact ⟨_,_,rfl,hj,s1a.trans (s5.trans s6')⟩
   ·rintro σ H2 ⟨s7,s8,rfl,_,s4⟩;exact ⟨_,_,_,rfl,hi,s4⟩
  ·rintro σ H1 ⟨s6,s7,s8,rfl,_,s3⟩;exact q _ s3
def zAn(d z:Int):Int:=if d>0 then z % d else z
def zMv:Sp:=fun vs H Q _=> ∃(el t fl:Addr) (n m:Nat) (d:Int) (fac:Vec) (xs:List Vec),vs= [.int (n:Int),.int (m:Int),.ref el,.ref t] /\H t=some (.tup [.str "clash",.ref fl,.int d])/\LI H fl fac/\LL H el xs/\fac.length=xs.length/\(∀x∈xs,x.length=n+m/\Bts 50000000 x)/\n+m<=1000/\xs.length<=1000/\Bts 50000000 fac/\0<=d/\d≠1/\
 (∀j,j<n->zAn d (dot fac (yE xs j))=0)/\(∃j,j<m/\zAn d (dot fac (yE xs (n+j)))≠0)/\ ∀H',zC H H'->Q (.bl true) H'
theorem zMr:FnScope ["_law_unknowns","_law_names","_law_equations_here","_law_told","_law_sums"] ["_law_unknowns","_law_names","_law_equations_here","_law_told"] (zG zEB):=⟨rfl,rfl,rfl,by decide+kernel,rfl,by decide+kernel,by decide+kernel⟩
theorem zRi{f fS fWh fWs:Addr}{fd fdS fdWh fdWs:FuncData}(F:Fun K "_law_clash" "_law_clash" zEB f fd)(B:Bn mg)
  (FS:Fun K "_law_sum" "_law_sum" zGX fS fdS) (bS:zK K fdS ["_law_row","_law_values"] []) (mS:mg "_law_sum" =some (.ref fS)) (GS:FnOk P w K mg base CX0 1 fS fdS ["_law_row","_law_values"] zKT)
  (FWh:Fun K "_law_whole" "_law_whole" zCK fWh fdWh) (bWh:zK K fdWh ["_law_found"] []) (mWh:mg "_law_whole" =some (.ref fWh)) (GWh:FnOk P w K mg base CX0 1 fWh fdWh ["_law_found"] zHt)
  (FWs:Fun K "_law_wholes" "_law_wholes" zBd fWs fdWs) (bWs:zK K fdWs ["_law_found","_law_size"] []) (mWs:mg "_law_wholes" =some (.ref fWs)) (GWs:FnOk P w K mg base CX0 2 fWs fdWs ["_law_found","_law_size"] zFx):FnOk P w K mg base CX0 3 f fd ["_law_unknowns","_law_names","_law_equations_here","_law_told"] zMv:=by
 refine F.ok zMr (fun vs H Q E h=>?_) (fun cdv A outer s H vs Q E hr2 h=>?_)
 ·obtain ⟨el,t,fl,n,m,d,fac,xs,rfl,_⟩:=h;rfl
 ·obtain ⟨el,t,fl,n,m,d,fac,xs,rfl,et,hfl,⟨as,ee,has⟩,hl,hx,hn,h1000,bf,d0,d1,z0,z1,q⟩:=h;have la:=Paired.len has;have hr1:Room 1 _:=hr2.mono (by decide);have huN:=Nat.lt_of_succ_lt (zGF hr2);refine ⟨_,QB.out (zE
   (zq (t_w (zAa (ya (yZ (zt (yc (K:=K) rfl) rfl B.isi zk (qc (qx 3 rfl) (qc (zAr (v:= .ty "tuple") rfl B.tuple zEs rfl (by decide) rfl) zD rfl) rfl) rfl) (fun _=>rfl))) (zAa (zU yy (zt (zr (K:=K) rfl) rfl B.len yQ (qc (qx 3 rfl) zD rfl) rfl) zF rfl) (zAy (ya (yZ (zJ GWs hr2 rfl mWs FWs.kp bWs .nil zL (qc (zx (K:=K) rfl (qx 3 rfl) zF (fun _ _=>rfl)) (qc (zt (zr (K:=K) rfl) rfl B.len yQ (qc (qx 2 rfl) zD rfl) rfl) zD rfl) rfl) rfl rfl rfl) (fun _=>rfl))))))) (zH
    (zO zAD)) zf) (zE
   (zq (t_w (zAa (ya (yZ (zJ GWh hr1 rfl mWh FWh.kp bWh .nil zL (qc (zx (K:=K) rfl (qx 3 rfl) zF (fun _ _=>rfl)) zD rfl) rfl rfl rfl) (fun _=>rfl))) (zAa (zU zEO (zx (K:=K) rfl (qx 3 rfl) zF (fun _ _=>rfl)) zF rfl) (zAy (zU yb (zx (K:=K) rfl (qx 3 rfl) zF (fun _ _=>rfl)) zF rfl))))) (zH
    (zO zAD)) zf) (zE
   (zOY zAN 4 (by exact zMr.nd) rfl (Or.inl rfl) (.inr rfl) ["_law_at"] ["_law_equations_here","_law_told"] [2,3] rfl (zBm rfl B.range (qc (yu (qw 0 rfl) (qw 1 rfl)) zD rfl) rfl) rfl rfl (by decide+kernel) (zc rfl (zc rfl lk0)) rfl (fr2 ⟨rfl,rfl,rfl,_,fun _=>rfl,rfl⟩ ⟨rfl,rfl,rfl,_,fun _=>rfl,rfl⟩) (fun _=>zQ rfl) (fun _ _ _ _=>(zM 0 (show (["_law_at","_law_equations_here","_law_told"] :List Str).Nodup by decide+kernel) rfl (.inr rfl) (.inl rfl))) (fun _ _ _ _=>zo) (fun C s₂ H₂ fp xe E hp=>(zJ GS hr1 rfl mS FS.kp bS .nil zL (qc (zx (K:=K) rfl (qx 2 rfl) zF (fun _ _=>rfl)) (qc (zj ["_law_row"] ["_law_at"] [0] rfl (zn (K:=K) rfl (qx 1 rfl)) rfl (by decide+kernel) rfl (by decide+kernel) (zc rfl lk0) rfl (fr1 ⟨rfl,rfl,rfl,_,rfl,rfl⟩) (zQ rfl) (fun _ _ _ _=>(zM 0 (show (["_law_row","_law_at"] :List Str).Nodup by decide+kernel) rfl (.inl rfl) (.inr rfl))) (fun _ _ _ _=>zo) (fun _ _ _ _=>(yw (K:=K) rfl (qw 0 rfl) (qx 1 rfl) (fun _ _=>rfl))) (fun _=>rfl)) zD rfl) rfl) rfl rfl rfl)) (fun _=>rfl) rfl) (zE
   (zq (zU zAb (zx (K:=K) rfl (qx 3 rfl) zF (fun _ _=>rfl)) zF rfl) (zH
    (zBE zAN 4 (by exact zMr.nd) rfl (Or.inl rfl) (.inr rfl) ["_law_one"] ["_law_told"] [3] rfl (zn (K:=K) rfl (qw 4 rfl)) rfl (by decide+kernel) rfl (by decide+kernel) (zc rfl lk0) rfl (fr1 ⟨rfl,rfl,rfl,_,rfl,rfl⟩) (zQ rfl) (fun _ _ _ _=>(zM 0 (show (["_law_one","_law_told"] :List Str).Nodup by decide+kernel) rfl (.inl rfl) (.inr rfl))) (fun _ _ _ _=>zo) (fun C s₂ H₂ fp xe E hp=>(yY (qw 0 rfl) (zx (K:=K) rfl (qx 1 rfl) zF (fun _ _=>rfl)))) (fun _=>rfl) rfl)) zf) (zE
   (zq (zU (zCL huN) (zj (cl:= []) ["_law_one"] [] [] rfl (zn (K:=K) rfl (zBe (K:=K) rfl (qw 4 rfl) zAp (zAj (qw 0 rfl)))) rfl (by decide+kernel) rfl (by decide+kernel) (fun _ _ h=>nomatch h) rfl (fun j y i h=>nomatch h) (zQ rfl) (fun _ _ _ _=>(zM 0 (show (["_law_one"] :List Str).Nodup by decide+kernel) rfl (.inl rfl) (.inr rfl))) (fun _ _ _ _=>(zCP (zU yy (qw 0 rfl) zF rfl))) (fun _ _ _ _=>(qw 0 rfl)) (fun _=>rfl)) (zAB zD) rfl) (zH
    (zO zAD)) zf) (zH
   (zO (zCa (zCL huN) (zj (cl:= []) ["_law_one"] [] [] rfl (zn (K:=K) rfl (zBe (K:=K) rfl (qw 4 rfl) (zAj (qw 0 rfl)) zAp)) rfl (by decide+kernel) rfl (by decide+kernel) (fun _ _ h=>nomatch h) rfl (fun j y i h=>nomatch h) (zQ rfl) (fun _ _ _ _=>(zM 0 (show (["_law_one"] :List Str).Nodup by decide+kernel) rfl (.inl rfl) (.inr rfl))) (fun _ _ _ _=>(zCP (zU yy (qw 0 rfl) zF rfl))) (fun _ _ _ _=>(qw 0 rfl)) (fun _=>rfl)) (zAB zD) rfl)))))))),?_⟩
  refine ⟨_,rfl,_,.ty "tuple",_,.type "tuple",_,rfl,rfl,.tup et,zBo K,_,rfl,yC ?_⟩;refine ⟨_,rfl,t,_,rfl,.inr (SqT.of et),rfl,_,rfl,yh (by rfl) ?_⟩;refine ⟨_,rfl,t,_,_,_,rfl,rfl,SqT.of et,rfl,_,rfl,el,_,rfl,.inl (SqL.of ee),fl,fac,(as.map V.ref).length,rfl,hfl,by rw [zSM];omega,by rw [zSM];omega,fun H1 s1=>⟨_,rfl,yC ?_⟩⟩;have et1:=s1 _ _ et;refine ⟨_,rfl,t,_,_,_,rfl,rfl,SqT.of et1,rfl,d,rfl,_,rfl,yC ?_⟩;refine ⟨_,rfl,t,_,_,_,rfl,rfl,SqT.of et1,rfl,d,0,rfl,rfl,_,rfl,yh (zSf (by omega)) ?_⟩;refine ⟨_,rfl,t,_,_,_,rfl,rfl,SqT.of et1,rfl,rfl,_,rfl,yh (zSf (by intro h;cases h;exact d1 rfl)) ?_⟩;refine ⟨_,rfl,_,rfl,n,m,rfl,rfl,(n:Int)+(m:Int),rfl,by omega,by omega,fun D hD=>?_⟩;refine zV (n+m) (fun j ys H2=>j<=n+m/\ys=(((List.range (n+m)).map fun j=>dot fac (yE xs j)).take j).map V.int/\zC H1 H2/\H2 D=some (.lst ys)) ⟨zSU _,by simp,zC.upd hD,zB⟩ (by rw [zSQ];omega) ?_ ?_ ?_
  ·rintro j ys H2 hj ⟨_,rfl,s2,e2⟩;exact ⟨by simp;omega,e2,fun h=>h,fun h=>Nat.le_of_eq h.symm⟩
  ·rintro j ys H2 x H3 hj ⟨_,rfl,s2,e2⟩ ⟨rfl,rfl⟩ pre hpre;obtain ⟨p0,rfl⟩:=yi hpre;have s12:=s1.trans s2;refine ⟨⟨[some (.int ((0:Int)+(j:Int)))],rfl,rfl⟩,zm ?_⟩;refine ⟨_,rfl,t,_,_,_,rfl,rfl,SqT.of (s12 _ _ et),rfl,_,rfl,el,rfl,⟨_,SqL.of (s12 _ _ ee)⟩,fun D2 hD2=>?_⟩;have s4:=zC.upd hD2 (o:= .lst ((yE xs j).map V.int));refine zHm (j:=j) (s12 _ _ ee) (LIs.same has s12) (fun x hx'=>by rw [(hx x hx').1];exact hj) (by omega) hD2 (Int.zero_add _) rfl ?_;refine ⟨fl,D2,fac,yE xs j,rfl,hfl.same (s12.trans s4),zB,Nat.le_of_eq (by rw [zBC,hl]),by omega,bf,Bts.col (fun x hx'=>(hx x hx').2) j,fun H5 s5=>?_⟩;refine ⟨s5 _ _ (s4 _ _ e2),hj,?_,zC.store (s2.trans (s4.trans s5)) hD,zB⟩;rw [zSc,zSK,List.getElem?_range hj];simp
  rintro ys H2 ⟨_,rfl,s2,e2⟩;rw [List.take_of_length_le (by simp)] at e2;have s12:=s1.trans s2;refine ⟨_,rfl,t,_,_,_,rfl,rfl,SqT.of (s12 _ _ et),rfl,d,0,rfl,rfl,_,rfl,?_⟩;refine zEU (fun σ' H'=> ∃D',σ'= [some (.int (n:Int)),some (.int (m:Int)),some (.ref el),some (.ref t),some (.ref D')] /\zC H H'/\LI H' D' ((List.range (n+m)).map fun j=>zAn d (dot fac (yE xs j)))) (fun c N hN=>?_) (fun c N hN=>?_) ?_
  ·have dp:0<d:=of_decide_eq_true c;have lS:((List.range (n+m)).map fun j=>dot fac (yE xs j)).length=n+m:=by simp
   refine ⟨_,rfl,D,rfl,⟨_,SqL.of e2⟩,fun D3 hD3=>?_⟩;refine zV (n+m) (fun j ys H3=>j<=n+m/\ys=(((List.range (n+m)).map fun j=>zAn d (dot fac (yE xs j))).take j).map V.int/\H3=L2.upd H2 D3 (.lst ys)) ⟨zSU _,by simp,rfl⟩ (by rw [zSQ];omega) ?_ ?_ ?_
   ·rintro j ys H3 hj ⟨_,rfl,rfl⟩;have e4:=zC.upd hD3 (o:= .lst ((((List.range (n+m)).map fun j=>zAn d (dot fac (yE xs j))).take j).map V.int)) _ _ e2;exact ⟨by simp;omega,zB,fun h=>⟨_,_,SqL.of e4,zSF (by simpa using h)⟩,fun h=>⟨_,SqL.of e4,by simp;omega⟩⟩
   ·rintro j ys H3 x H4 hj ⟨_,rfl,rfl⟩ ⟨rfl,hx'⟩ pre hpre;obtain ⟨p0,rfl⟩:=yi hpre;have s3:=zC.upd hD3 (o:= .lst ((((List.range (n+m)).map fun j=>zAn d (dot fac (yE xs j))).take j).map V.int));have hx':=hx' _ (SqL.of (s3 _ _ e2));rw [zSK,zSK,List.getElem?_range hj] at hx';cases hx';refine ⟨⟨[some (.int (dot fac (yE xs j)))],rfl,rfl⟩,zm ?_⟩;refine ⟨_,rfl,_,rfl,t,_,_,_,rfl,rfl,SqT.of (s3 _ _ (s12 _ _ et)),rfl,_,_,rfl,rfl,dp,zB,hj,?_,by rw [yM]⟩;rw [zSc,zSK,List.getElem?_range hj];simp [zAn,dp]
   ·rintro ys H3 ⟨_,rfl,rfl⟩;rw [List.take_of_length_le (by simp)];exact hN _ _ ⟨D3,rfl,s12.trans (zC.upd hD3),zB⟩
  ·have dp: ¬d>0:=of_decide_eq_false c;refine hN _ _ ⟨D,rfl,s12,?_⟩;rw [show (fun j=>zAn d (dot fac (yE xs j)))=fun j=>dot fac (yE xs j) from funext fun j=>if_neg dp];exact e2
  rintro σ' H3 ⟨D',rfl,s3,hD'⟩;have lS:((List.range (n+m)).map fun j=>zAn d (dot fac (yE xs j))).length=n+m:=by simp
  have f1:((((List.range (n+m)).map fun j=>zAn d (dot fac (yE xs j))).take n).filter fun z=>!decide (z=0))= [] :=by
   rw [List.filter_eq_nil_iff];intro z hz;rw [<-List.map_take,List.take_range,Nat.min_eq_left (by omega)] at hz;obtain ⟨j,hj,rfl⟩:=zTF.mp hz;rw [z0 j (List.mem_range.mp hj)];decide
  have f2:((((List.range (n+m)).map fun j=>zAn d (dot fac (yE xs j))).drop n).filter fun z=>!decide (z=0))≠ [] :=by
   obtain ⟨j,hj,hz⟩:=z1;intro h;rw [List.filter_eq_nil_iff] at h;refine h (zAn d (dot fac (yE xs (n+j)))) ?_ (by simpa using hz);rw [List.mem_iff_getElem?];exact ⟨j,by rw [List.getElem?_drop,zSK,List.getElem?_range (by omega)];rfl⟩
  generalize ((List.range (n+m)).map fun j=>zAn d (dot fac (yE xs j)))=S at lS hD' f1 f2;refine ⟨_,rfl,_,rfl,_,rfl,D',_,rfl,SqL.of hD',fun pa hpa=>?_⟩;rw [zEM (by omega)];have sa:=zC.upd hpa (o:= .lst ((S.take n).map V.int));refine ⟨pa,rfl,⟨_,SqL.of zB⟩,fun D3 hD3=>?_⟩;refine zIy (v:=S.take n) zB (by rw [List.length_take];omega) hD3 ?_;rw [f1];have sb:=zC.upd hD3 (o:= .lst (([] :Vec).map V.int));refine ⟨zSU _,fun pb hpb=>?_⟩;have sc:=zC.upd hpb (o:= .lst []);refine ⟨D3,pb,_,rfl,rfl,SqL.of (sc _ _ zB),SqL.of zB,_,rfl,yh (by rfl) ?_⟩;have s4:=s3.trans (sa.trans (sb.trans sc));have hD4:=hD'.same (sa.trans (sb.trans sc));refine ⟨_,rfl,_,rfl,_,rfl,D',_,rfl,SqL.of hD4,fun pa2 hpa2=>?_⟩;rw [zGm (by omega)];have sa2:=zC.upd hpa2 (o:= .lst ((S.drop n).map V.int));refine ⟨pa2,rfl,⟨_,SqL.of zB⟩,fun D5 hD5=>?_⟩;refine zIy (v:=S.drop n) zB (by rw [List.length_drop];omega) hD5 ?_;have sb2:=zC.upd hD5 (o:= .lst (((S.drop n).filter fun z=>!decide (z=0)).map V.int));refine ⟨zSU _,fun pb2 hpb2=>?_⟩;have sc2:=zC.upd hpb2 (o:= .lst []);refine ⟨D5,pb2,_,rfl,rfl,SqL.of (sc2 _ _ zB),SqL.of zB,?_⟩;have ne:(!(((S.drop n).filter fun z=>!decide (z=0)).map V.int).isEmpty)=true:=by
   cases h:(S.drop n).filter fun z=>!decide (z=0) with
   | nil=>exact absurd h f2
   | cons a b=>rfl
  rw [ne];exact q _ (s4.trans (sa2.trans (sb2.trans sc2)))
structure Ex(K:zSy)(mg:Str->Option Value)(BN:Addr):Prop where
 mgB:mg "BadNumber" =some (.ref BN)
 inB:PySem.W.excIn K BN [.type "ValueError",.type "Exception",.type "BaseException",.type "object"] "ValueError.__new__" =true
theorem FunD.okX{x qual:Str}{st:Stmt}{dV:Value}{f:Addr}{fd:FuncData}{N ps:List Str}{k:Nat}{sp:Sp}(F:FunD K x qual st dV f fd)(S:FnScope N ps (zG st))(len: ∀vs H Q E,sp vs H Q E->vs.length=ps.length)
  (hbody: ∀(cdv:Value) (A:Around) (outer:List Env) (s:Shared) (H:Hp) (vs:List V) (Q:VK) (E:XK),Room k (A.deeper (envOfC qual (zG st) s.heap.objs.size f cdv))->sp vs H Q E->
   ∃t,PSs (zAZ (Fly P w) P w K mg base N qual (zG st) f cdv A outer s H E) (ym st) t/\t {nx:=fun _ H'=>Q .non H',rt:=Q} (start N vs) H):FnOk P w K mg base (Fly P w) (k+1) f fd ps sp:=by
 obtain ⟨oc,od,kV,doc,pm,an,cdv,ct,osl,rfl,lk,hcd⟩:=F.ex;refine zJo lk hcd S len fun A outer s H vs Q E hr hsp=>?_;exact hbody cdv A outer s H vs Q E hr hsp
theorem Fun.toD{x qual:Str}{st:Stmt}{f:Addr}{fd:FuncData}(F:Fun K x qual st f fd):FunD K x qual st .none f fd:=⟨F.ex,F.kp⟩
def okN(x:V)(l:Int)(m:V):Bool:=match x,m with
 | .int i,.non=>decide (l<=i)
 | .int i,.int k=>decide (l<=i)&&decide (i<=k)
 | _,_=>false
def zGU(BN:Addr):Sp:=fun vs H Q E=> ∃(x:V) (l:Int) (m:V),vs= [x,.int l,m] /\Kd H x/\(m= .non\/ ∃k,m= .int k)/\(okN x l m=true->Q x H)/\(okN x l m=false->E (.ref BN) none H)
theorem zMD{f fW BN:Addr}{fd fdW:FuncData}{dN:Value}(F:FunD K "need_whole" "need_whole" zBg dN f fd)(B:Bn mg)(X:Ex K mg BN)(FW:Fun K "is_whole" "is_whole" zBl fW fdW)(bW:zK K fdW ["thing"] [])(mW:mg "is_whole" =some (.ref fW)):
  FnOk P w K mg base (Fly P w) 2 f fd ["thing","least","most"] (zGU BN):=by
 have GW:FnOk P w K mg base CX0 1 fW fdW ["thing"] zBz:=zIM FW B;refine F.okX zMB (fun vs H Q E h=>?_) (fun cdv A outer s H vs Q E hr h=>?_)
 ·obtain ⟨x,l,m,rfl,_⟩:=h;rfl
 ·obtain ⟨x,l,m,rfl,kd,hm,q,qe⟩:=h;refine ⟨_,yr (zFZ (zKq (zLg (zEc GW hr (by rfl) mW FW.kp bW .nil zL (yR (pv 0) zAI))))
    (zAJ (zDb PySem.F.excBase_ValueError X.inB zBX rfl (by rfl) X.mgB (yR zFt zAI))) zCv)
   (yr (zFZ (zDB zEO (pv 0) (pv 1) (zFf _)) (zAJ (zDb PySem.F.excBase_ValueError X.inB zBX rfl (by rfl) X.mgB (yR zFt zAI))) zCv)
   (yr (zFZ (zLq (zHX (zJC (pv 2))) (zJS (zDB zAb (pv 0) (pv 2) (zFf _)))).pt (zAJ (zDb PySem.F.excBase_ValueError X.inB zBX rfl (by rfl) X.mgB (yR zFt zAI))) zCv)
   (zAJ (zCM (pv 0))))),?_⟩
  have hz:([V.str "a"] :List V).length<=sizeLine:=by show 1<=sizeLine;decide
  refine ⟨x,rfl,x,rfl,kd,_,rfl,?_⟩;cases hx:isW x with
  | false=>
   refine zm ?_;refine ⟨hz,qe ?_⟩;cases x<;>first | rfl | cases hx
  | true=>
   refine yC ?_;obtain ⟨i,rfl⟩: ∃i,x= .int i:=by cases x<;>first | exact ⟨_,rfl⟩| cases hx
   refine ⟨_,rfl,_,rfl,i,l,rfl,rfl,_,rfl,?_⟩;refine yk (fun z=>?_) (fun z=>?_)
   ·have hi:i<l:=by simpa using z
    refine ⟨hz,qe ?_⟩;rcases hm with rfl |⟨k,rfl⟩
    ·show decide (l<=i)=false;rw [zSf (by omega)]
    ·show (decide (l<=i)&&decide (i<=k))=false;rw [zSf (by omega)];rfl
   ·have hi:l<=i:=by
     have: ¬i<l:=by simpa using z
     omega
    rcases hm with rfl |⟨k,rfl⟩
    ·refine ⟨_,rfl,_,rfl,?_⟩;refine yC ?_;refine yC ?_;exact ⟨_,rfl,q (zSd hi)⟩
    ·refine ⟨_,rfl,_,rfl,?_⟩;refine zm ?_;refine ⟨_,rfl,_,rfl,i,k,rfl,rfl,_,rfl,?_⟩;refine yk (fun z2=>?_) (fun z2=>?_)
     ·have hk:k<i:=by simpa using z2
      refine ⟨hz,qe ?_⟩;show (decide (l<=i)&&decide (i<=k))=false;rw [zSf (show¬i<=k by omega),Bool.and_false]
     ·have hk:i<=k:=by
       have: ¬k<i:=by simpa using z2
       omega
      refine ⟨_,rfl,q ?_⟩;show (decide (l<=i)&&decide (i<=k))=true;rw [zSd hi,zSd hk];rfl
inductive NoL (H:Hp):V->Prop
 | non:NoL H .non
 | bl (b:Bool):NoL H (.bl b)
 | int (i:Int):NoL H (.int i)
 | str (x:Str):NoL H (.str x)
 | tup {a:Addr} {xs:List V} (e:H a=some (.tup xs)):NoL H (.ref a)
 | dic {a:Addr} {kvs:List (Key×V)} (e:H a=some (.dK kvs)):NoL H (.ref a)
theorem zIl(K:zSy):PySem.W.kitOne K (.type "NoneType") (.type "list")=some false:=by kernel_rfl
theorem zIe(K:zSy):PySem.W.kitOne K (.type "bool") (.type "list")=some false:=by kernel_rfl
theorem zKW(K:zSy):PySem.W.kitOne K (.type "int") (.type "list")=some false:=by kernel_rfl
theorem zJj(K:zSy):PySem.W.kitOne K (.type "str") (.type "list")=some false:=by kernel_rfl
theorem zHw(K:zSy):PySem.W.kitOne K (.type "tuple") (.type "list")=some false:=by kernel_rfl
theorem zIj(K:zSy):PySem.W.kitOne K (.type "dict") (.type "list")=some false:=by kernel_rfl
theorem NoL.ty(K:zSy){H:Hp}{x:V}(k:NoL H x): ∃t,TyOf K H x t/\PySem.W.kitOne K t (.type "list")=some false:=by
 cases k with
 | non=>exact ⟨_,.non,zIl K⟩
 | bl b=>exact ⟨_,.bl b,zIe K⟩
 | int i=>exact ⟨_,.int i,zKW K⟩
 | str x=>exact ⟨_,.str x,zJj K⟩
 | tup e=>exact ⟨_,.tup e,zHw K⟩
 | dic e=>exact ⟨_,.dK e,zIj K⟩
theorem NoL.same{H H':Hp}{x:V}(k:NoL H x)(s:zC H H'):NoL H' x:=by
 cases k with
 | non=>exact .non
 | bl b=>exact .bl b
 | int i=>exact .int i
 | str x=>exact .str x
 | tup e=>exact .tup (s _ _ e)
 | dic e=>exact .dic (s _ _ e)
theorem Kd.sm{H H':Hp}{x:V}(k:Kd H x)(s:zC H H'):Kd H' x:=by
 cases k with
 | non=>exact .non
 | bl b=>exact .bl b
 | int i=>exact .int i
 | str x=>exact .str x
 | lst e=>exact .lst (s _ _ e)
 | tup e=>exact .tup (s _ _ e)
inductive EqB (H:Hp) (n:Nat):V->Bool->Prop
 | no {x:V} (k:NoL H x):EqB H n x false
 | len {a:Addr} {xs:List V} (e:H a=some (.lst xs)) (h:xs.length≠n):EqB H n (.ref a) false
 | all {a:Addr} {xs:List V} (e:H a=some (.lst xs)) (h:xs.length=n) (k: ∀y∈xs,Kd H y):EqB H n (.ref a) (xs.all isW)
theorem EqB.same{H H':Hp}{n:Nat}{x:V}{b:Bool}(k:EqB H n x b)(s:zC H H'):EqB H' n x b:=by
 cases k with
 | no k=>exact .no (k.same s)
 | len e h=>exact .len (s _ _ e) h
 | all e h k=>exact .all (s _ _ e) h fun y hy=>(k y hy).sm s
theorem EqB.good{H:Hp}{n:Nat}{a:Addr}{v:Vec}(h:LI H a v)(hn:v.length=n):EqB H n (.ref a) true:=by
 have:(v.map V.int).all isW=true:=by
  rw [List.all_map];exact List.all_eq_true.mpr fun x _=>rfl
 rw [<-this];exact .all h (by rw [zSM];exact hn) fun y hy=>by
  obtain ⟨i,_,rfl⟩:=zTF.mp hy;exact .int i
def zHZ:Sp:=fun vs H Q _=> ∃(x:V) (n:Nat) (b:Bool),vs= [x,.int (n:Int)] /\EqB H n x b/\n<=1000/\ ∀H',zC H H'->Q (.bl b) H'
theorem zOO{f fWh:Addr}{fd fdWh:FuncData}(F:Fun K "is_equation" "is_equation" zFG f fd)(B:Bn mg)
  (FWh:Fun K "is_whole" "is_whole" zBl fWh fdWh) (bWh:zK K fdWh ["thing"] []) (mWh:mg "is_whole" =some (.ref fWh)) (GWh:FnOk P w K mg base CX0 1 fWh fdWh ["thing"] zBz):FnOk P w K mg base CX0 2 f fd ["thing","length"] zHZ:=by
 refine F.ok zNO (fun vs H Q E h=>?_) (fun cdv A outer s H vs Q E hr1 h=>?_)
 ·obtain ⟨x,n,b,rfl,_⟩:=h;rfl
 ·obtain ⟨x,n,b,rfl,hb,h1000,q⟩:=h;refine ⟨_,QB.out (zE
   (zq (t_w (zAa (ya (yZ (zt (yc (K:=K) rfl) rfl B.isi zk (qc (qw 0 rfl) (qc (zAr (v:= .ty "list") rfl B.list zAX rfl (by decide) rfl) zD rfl) rfl) rfl) (fun _=>rfl))) (zAy (zU yy (zt (zr (K:=K) rfl) rfl B.len yQ (qc (qw 0 rfl) zD rfl) rfl) (qw 1 rfl) rfl)))) (zH
    (zO zAD)) zf) (zH
   (zO (zt (zBF (K:=K) rfl rfl) rfl B.all zDA (qc (zj (cl:= []) ["number"] [] [] rfl (zn (K:=K) rfl (qw 0 rfl)) rfl (by decide+kernel) rfl (by decide+kernel) (fun _ _ h=>nomatch h) rfl (fun j y i h=>nomatch h) (zQ rfl) (fun _ _ _ _=>(zM 0 (show (["number"] :List Str).Nodup by decide+kernel) rfl (.inl rfl) (.inr rfl))) (fun _ _ _ _=>zo) (fun _ _ _ _=>(zJ GWh hr1 rfl mWh FWh.kp bWh .nil zL (qc (qw 0 rfl) zD rfl) rfl rfl rfl)) (fun _=>rfl)) zD rfl) rfl)))),?_⟩
  cases hb with
  | no k=>
   obtain ⟨ty,h1,h2⟩:=k.ty K;exact ⟨_,rfl,_,.ty "list",_,.type "list",_,rfl,rfl,h1,h2,_,rfl,zm (zm (q H (zC.refl H)))⟩
  | @len a xs e h=>
   refine ⟨_,rfl,_,.ty "list",_,.type "list",_,rfl,rfl,.lst e,zAF K,_,rfl,yC ?_⟩;refine ⟨_,rfl,a,_,rfl,.inl (SqL.of e),_,rfl,rfl,_,rfl,?_⟩;refine zCe (by rw [zSf (fun z=>h (by injection z with z;omega))];rfl) ?_;exact q H (zC.refl H)
  | @all a xs e h k=>
   refine ⟨_,rfl,_,.ty "list",_,.type "list",_,rfl,rfl,.lst e,zAF K,_,rfl,yC ?_⟩;refine ⟨_,rfl,a,_,rfl,.inl (SqL.of e),_,rfl,rfl,_,rfl,?_⟩;refine yh (by rw [h,zSd rfl];rfl) ?_;refine ⟨_,rfl,a,rfl,⟨_,SqL.of e⟩,fun D hD=>?_⟩;refine zV xs.length (fun i ys H'=>i<=xs.length/\ys=((xs.map isW).take i).map V.bl/\H'=L2.upd H D (.lst ys)) ⟨zSU _,by simp,rfl⟩ (by rw [zSQ];omega) ?_ ?_ ?_
   ·rintro i ys H2 hi ⟨_,rfl,rfl⟩;have e2:=zC.upd hD (o:= .lst (((xs.map isW).take i).map V.bl)) _ _ e;exact ⟨by simp;omega,zB,fun h=>⟨_,_,SqL.of e2,zSF h⟩,fun h=>⟨_,SqL.of e2,by omega⟩⟩
   ·rintro i ys H2 x H3 hi ⟨_,rfl,rfl⟩ ⟨rfl,hx⟩ pre hpre;obtain ⟨p0,rfl⟩:=yi hpre;have s2:=zC.upd hD (o:= .lst (((xs.map isW).take i).map V.bl));have hx':=hx _ (SqL.of (s2 _ _ e));have hm:=zSj hx';refine ⟨⟨[some x],rfl,rfl⟩,zm ?_⟩;refine ⟨_,rfl,x,rfl,(k x hm).sm s2,zB,hi,?_,by rw [yM]⟩;rw [zSc,zSK,hx'];simp
   ·rintro ys H2 ⟨_,rfl,rfl⟩;rw [List.take_of_length_le (by simp)];refine ⟨D,xs.map isW,rfl,SqL.of zB,?_⟩;rw [show (xs.map isW).all id=xs.all isW by rw [List.all_map];rfl];exact q _ (zC.upd hD)
def Rfd(H:Hp)(x y z:V):Prop:=(Kd H x/\okN x 0 (.int 240)=false)\/ ∃n:Nat,x= .int (n:Int)/\n<=240/\((Kd H y/\okN y 0 (.int 6)=false)\/ ∃m:Nat,y= .int (m:Int)/\m<=6/\
 (NoL H z\/ ∃(l:Addr) (xs:List V),z= .ref l/\H l=some (.lst xs)/\(240<xs.length\/xs.length<=240/\ ∃bs:List Bool,Paired (fun x b=>EqB H (n+m) x b) xs bs/\bs.all id=false)))
def zBc(BN:Addr):Sp:=fun vs H Q E=> ∃x y z:V,vs= [x,y,z] /\Rfd H x y z/\ ∀H',zC H H'->E (.ref BN) none H'
theorem zJh{n k:Nat}(h:n<=k):okN (.int (n:Int)) 0 (.int (k:Int))=true:=by
 show (decide ((0:Int)<=n)&&decide ((n:Int)<=k))=true;rw [zSd (show (0:Int)<=n by omega),zSd (show (n:Int)<=k by omega)];rfl
theorem zLB{f fN fI BN:Addr}{fd fdN fdI:FuncData}{dN:Value}(F:Fun K "need_equations" "need_equations" zBi f fd)(B:Bn mg)(G:Gm mg)(X:Ex K mg BN)
  (FN:FunD K "need_whole" "need_whole" zBg dN fN fdN) (bN:zK K fdN ["thing","least","most"] []) (mN:mg "need_whole" =some (.ref fN)) (GN:FnOk P w K mg base (Fly P w) 2 fN fdN ["thing","least","most"] (zGU BN))
  (FI:Fun K "is_equation" "is_equation" zFG fI fdI) (bI:zK K fdI ["thing","length"] []) (mI:mg "is_equation" =some (.ref fI)) (GI:FnOk P w K mg base CX0 2 fI fdI ["thing","length"] zHZ):FnOk P w K mg base (Fly P w) 3 f fd ["unknowns","names","equations"] (zBc BN):=by
 obtain ⟨tu,mu⟩:=G.mu;obtain ⟨tn,mn⟩:=G.mn;obtain ⟨te,me⟩:=G.me;refine (Fr.Fun.toD F).okX zJR (fun vs H Q E h=>?_) (fun cdv A outer s H vs Q E hr2 h=>?_)
 ·obtain ⟨x,y,z,rfl,_⟩:=h;rfl
 ·obtain ⟨x,y,z,rfl,h,q⟩:=h;have big1:([V.str "a"] :List V).length<=sizeLine:=by show 1<=sizeLine;decide
  refine ⟨_,QB.out (zE
   (ye (zBy GN hr2 rfl mN FN.kp bN .nil zFH (qc (qx 0 rfl) (qc zF (qc (zCY (v:= .int 240) rfl mu ⟨tu,rfl⟩ rfl) zD rfl) rfl) rfl) rfl rfl rfl) rfl) (zE
   (ye (zBy GN hr2 rfl mN FN.kp bN .nil zFH (qc (qx 1 rfl) (qc zF (qc (zCY (v:= .int 6) rfl mn ⟨tn,rfl⟩ rfl) zD rfl) rfl) rfl) rfl rfl rfl) rfl) (zE
   (zq (t_w (zAa (ya (yZ (zt (yc (K:=K) rfl) rfl B.isi zk (qc (qw 2 rfl) (qc (zAr (v:= .ty "list") rfl B.list zAX rfl (by decide) rfl) zD rfl) rfl) rfl) (fun _=>rfl))) (zAy (zU zAb (zt (zr (K:=K) rfl) rfl B.len yQ (qc (qw 2 rfl) zD rfl) rfl) (zCY (v:= .int 240) rfl me ⟨te,rfl⟩ rfl) rfl)))) (zH
    (zJJ X.inB zBX rfl rfl X.mgB (qc zBt zD rfl) rfl rfl rfl)) zf) (zH
   (zq (ya (yZ (zt (zBF (K:=K) rfl rfl) rfl B.all zDA (qc (zj ["equation"] ["unknowns","names"] [0,1] rfl (zn (K:=K) rfl (qw 2 rfl)) rfl (by decide+kernel) rfl (by decide+kernel) (zc rfl (zc rfl lk0)) rfl (fr2 ⟨rfl,rfl,rfl,_,rfl,rfl⟩ ⟨rfl,rfl,rfl,_,rfl,rfl⟩) (zQ rfl) (fun _ _ _ _=>(zM 0 (show (["equation","unknowns","names"] :List Str).Nodup by decide+kernel) rfl (.inl rfl) (.inr rfl))) (fun _ _ _ _=>zo) (fun _ _ _ _=>(zJ GI hr2 rfl mI FI.kp bI .nil zL (qc (qw 0 rfl) (qc (yu (qx 1 rfl) (qx 2 rfl)) zD rfl) rfl) rfl rfl rfl)) (fun _=>rfl)) zD rfl) rfl) (fun _=>rfl))) (zH
    (zJJ X.inB zBX rfl rfl X.mgB (qc zBt zD rfl) rfl rfl rfl)) zf))))),?_⟩
  rcases h with ⟨kx,hx⟩|⟨n,rfl,hn,h⟩
  ·exact ⟨_,rfl,x,0,.int 240,rfl,kx,.inr ⟨_,rfl⟩,fun z=>(by rw [hx] at z;cases z),fun _=>q H (zC.refl H)⟩
  refine ⟨_,rfl,.int (n:Int),0,.int 240,rfl,.int _,.inr ⟨_,rfl⟩,fun _=>?_,fun z=>(by rw [show okN (.int (n:Int)) 0 (.int 240)=true from zJh (k:=240) hn] at z;cases z)⟩;rcases h with ⟨ky,hy⟩|⟨m,rfl,hm,h⟩
  ·exact ⟨_,rfl,y,0,.int 6,rfl,ky,.inr ⟨_,rfl⟩,fun z=>(by rw [hy] at z;cases z),fun _=>q H (zC.refl H)⟩
  refine ⟨_,rfl,.int (m:Int),0,.int 6,rfl,.int _,.inr ⟨_,rfl⟩,fun _=>?_,fun z=>(by rw [show okN (.int (m:Int)) 0 (.int 6)=true from zJh (k:=6) hm] at z;cases z)⟩;rcases h with h |⟨l,xs,rfl,el,h⟩
  ·obtain ⟨ty,h1,h2⟩:=h.ty K;exact ⟨_,rfl,_,.ty "list",_,.type "list",_,rfl,rfl,h1,h2,_,rfl,zm (zm ⟨big1,q H (zC.refl H)⟩)⟩
  refine ⟨_,rfl,_,.ty "list",_,.type "list",_,rfl,rfl,.lst el,zAF K,_,rfl,yC ?_⟩;refine ⟨_,rfl,l,_,rfl,.inl (SqL.of el),_,_,rfl,rfl,_,rfl,?_⟩;rcases h with h |⟨h,bs,pb,hb⟩
  ·exact zCe (zSd (by omega)) ⟨big1,q H (zC.refl H)⟩
  refine yh (zSf (by omega)) ?_;have lb:=Paired.len pb;refine ⟨_,rfl,l,rfl,⟨_,SqL.of el⟩,fun D hD=>?_⟩;refine zV xs.length (fun i ys H'=>i<=xs.length/\ys=(bs.take i).map V.bl/\zC H H'/\H' D=some (.lst ys)) ⟨zSU _,by simp,zC.upd hD,zB⟩ (by rw [zSQ];omega) ?_ ?_ ?_
  ·rintro i ys H2 hi ⟨_,rfl,s2,e2⟩;have e3:=s2 _ _ el;exact ⟨by simp;omega,e2,fun h=>⟨_,_,SqL.of e3,zSF h⟩,fun h=>⟨_,SqL.of e3,by omega⟩⟩
  ·rintro i ys H2 x H3 hi ⟨_,rfl,s2,e2⟩ ⟨rfl,hx'⟩ pre hpre;obtain ⟨p0,rfl⟩:=yi hpre;have hx':=hx' _ (SqL.of (s2 _ _ el));obtain ⟨b,eb,hbb⟩:=Paired.get' pb hx';refine ⟨⟨[some x],rfl,rfl⟩,zm ?_⟩;refine ⟨_,rfl,_,rfl,_,rfl,n,m,rfl,rfl,x,n+m,b,by simp,hbb.same s2,by omega,fun H4 s4=>⟨s4 _ _ e2,hi,?_,zC.store (s2.trans s4) hD,zB⟩⟩;rw [zSc,eb];simp
  ·rintro ys H2 ⟨_,rfl,s2,e2⟩;rw [List.take_of_length_le (by omega)] at e2;refine ⟨D,bs,rfl,SqL.of e2,_,rfl,?_⟩;refine zCe (by rw [hb];rfl) ?_;exact ⟨big1,q _ s2⟩
structure Tl(d:PyData)(w p:Nat):Prop where
 sh:d.showable=true
 lv:d.leavesShort 1921=true
 bk:d.bulk<=w
 dp:d.depth<=p
structure TlA(ds:List PyData)(w p:Nat):Prop where
 sh:PyData.showableAll ds=true
 lv:PyData.leavesShortAll 1921 ds=true
 bk:PyData.bulkAll ds<=w
 dp:PyData.depthAll ds<=p
theorem zLP(p:Nat):TlA [] 0 p:=⟨by simp only [PyData.showableAll],by simp only [PyData.leavesShortAll],by simp only [PyData.bulkAll];exact zSJ _,by simp only [PyData.depthAll];exact zSU _⟩
theorem zEK{d:PyData}{ds:List PyData}{w w' p:Nat}(h:Tl d w p)(t:TlA ds w' p):TlA (d::ds) (w+1+w') p:=by
 refine ⟨?_,?_,?_,?_⟩
 ·simp only [PyData.showableAll,h.sh,t.sh,Bool.and_self]
 ·simp only [PyData.leavesShortAll,h.lv,t.lv,Bool.and_self]
 ·simp only [PyData.bulkAll];have:=h.bk;have:=t.bk;omega
 ·simp only [PyData.depthAll];exact Nat.max_le.mpr ⟨h.dp,t.dp⟩
theorem zIq{ds:List PyData}{w p:Nat}(t:TlA ds w p):Tl (.list ds) w (p+1):=⟨by simp only [PyData.showable];exact t.sh,by simp only [PyData.leavesShort];exact t.lv,by simp only [PyData.bulk];exact t.bk,by simp only [PyData.depth];have:=t.dp;omega⟩
theorem zQv{ds:List PyData}{w p:Nat}(t:TlA ds w p):Tl (.tuple ds) w (p+1):=⟨by simp only [PyData.showable];exact t.sh,by simp only [PyData.leavesShort];exact t.lv,by simp only [PyData.bulk];exact t.bk,by simp only [PyData.depth];have:=t.dp;omega⟩
theorem zLi{i:Int}(h:Bt 1900 i):Tl (.int i) 0 0:=by
 have lg:i.natAbs.log2<1920:=by
  by_cases z:i.natAbs=0
  ·rw [z];decide
  ·exact (Nat.log2_lt z).mpr (zSW h (Nat.pow_lt_pow_right (by decide) (by decide)))
 refine ⟨?_,?_,?_,?_⟩
 ·simp only [PyData.showable,decide_eq_true_eq];exact lg
 ·simp only [PyData.leavesShort,decide_eq_true_eq];have:=int_text_length_le (a:=i) (k:=1920) (by decide) lg;show (Str.ofString (toString i)).length<=1921;rw [ofString_len];omega
 ·simp only [PyData.bulk];exact zSJ _
 ·simp only [PyData.depth];exact zSJ _
theorem Tl.mono{d:PyData}{w w' p p':Nat}(h:Tl d w p)(hw:w<=w')(hp:p<=p'):Tl d w' p':=⟨h.sh,h.lv,zST h.bk hw,zST h.dp hp⟩
theorem zGe: ∀{v:Vec},Bts 1900 v->TlA (v.map PyData.int) v.length 0
 | [],_=>zLP 0
 | x::v,h=>by
  have:=zEK (zLi (show Bt 1900 x from h 0)) (zGe (v:=v) fun i=>h (i+1));rw [zTD,zTH];exact ⟨this.sh,this.lv,by have:=this.bk;omega,this.dp⟩
def zNE(v:Vec):PyData:= .list (v.map PyData.int)
theorem zIQ{H:Hp}{n:Nat}: ∀(v:Vec),Paired (Dat H n) (v.map V.int) (v.map PyData.int)
 | [] => .nil
 | x::v=> .cons (by cases n<;>rfl) (zIQ v)
theorem zIw{H:Hp}{n:Nat}{a:Addr}{v:Vec}(h:LI H a v):Dat H (n+1) (.ref a) (zNE v):= .inl ⟨_,_,rfl,.inl h,zIQ v⟩
theorem zPr{H:Hp}{a:Addr}{n:Nat}{d:PyData}{w:Nat}(e:Dat H n (.ref a) d)(t:Tl d w 3)(hw:w<=1000):StrA H (.ref a) d.shown:=by
 refine .dat e t.sh ?_ (zST t.dp (by decide));have h:=PyData.shown_le_bulk 1921 (by decide) d t.lv;have h2:=zSt 1923 (zST t.bk hw);rw [zSQ];omega
theorem zPU{vs:List Vec}{i c:Nat}:zA (vs.map fun v=>zA v i) c=zA (vs.getD c []) i:=by
 show ((vs.map fun v=>zA v i)[c]?).getD 0=zA ((vs[c]?).getD []) i;rw [zSK];cases vs[c]?<;>rfl
theorem zKh: ∀(e:Vec) (x:Fn),dt x e=((List.range e.length).map fun i=>zA e i*x i).sum
 | [],_=>rfl
 | a::e,x=>by
  simp only [dt];rw [zKh e,zTH,List.range_succ_eq_map,zTD,List.sum_cons,List.map_map];rw [show zA (a::e) 0=a from rfl,Int.mul_comm];congr 1
theorem zHs{e v:Vec}{x:Fn}(h:v.length=e.length)(hx: ∀i,i<e.length->zA v i=x i):dot e v=dt x e:=by
 rw [zLM rfl h,zKh];congr 1;refine List.map_congr_left fun i hi=>?_;rw [hx i (List.mem_range.mp hi)]
theorem zHg{vs:List Vec}{n c:Nat}{v:Vec}(h:vs[c]?=some v){i:Nat}(hi:i<n):zA (yE (yp vs n) c) i=zA v i:=by
 simp [zA,yE,yp,hi,h]
theorem zDL{vs:List Vec}{n:Nat}:(yp vs n).length=n:=by simp [yp]
theorem zMU{n m:Nat}{Es:List Eqn}{s:Stt}(S:Sol n m Es s){E:Eqn}(hE:E∈Es)(l1:E.1.length=n):zKX s.steps.length m (yp (s.steps.map (·.2)++s.fixed) n) E:=by
 intro c hc;have hfl:=S.fl;by_cases hk:s.steps.length<=c
 ·have e1:s.fixed[c - s.steps.length]?=some s.fixed[c - s.steps.length] :=zSF (by omega);have e2:(s.steps.map (·.2)++s.fixed)[c]?=some s.fixed[c - s.steps.length] :=by
   rw [List.getElem?_append_right (by rw [zSM];exact hk),zSM];exact e1
  rw [if_pos hk,zHs (x:=zA s.fixed[c - s.steps.length]) (by rw [zBC,zDL,l1]) (fun i hi=>zHg e2 (by omega))];exact S.fx _ _ e1 E hE
 ·have hk':c<s.steps.length:=by omega
  have e2:(s.steps.map (·.2)++s.fixed)[c]?=some s.steps[c].2:=by
   rw [List.getElem?_append_left (by rw [zSM];exact hk'),zSK,zSF hk'];rfl
  rw [if_neg hk,zHs (x:=zA s.steps[c].2) (by rw [zBC,zDL,l1]) (fun i hi=>zHg e2 (by omega))];rw [S.steps (zSk hk') (Sp.mem (zSk hk')) hE];rfl
theorem zHc{d z:Int}(h:0<=d):zAn d z=0↔d∣z:=by
 unfold zAn;split
 ·exact Int.dvd_iff_emod_eq_zero.symm
 ·have:d=0:=by omega
  subst this;exact Int.zero_dvd.symm
theorem zIC{Es:List Eqn}{f:Vec}{i:Nat}(h:f.length=Es.length):dot f (yE (zW Es) i)=yP f (whole Es) i:=by
 refine zHs (by rw [zBC,zW,zSM,h]) fun j hj=>?_;rw [yE,zPU];have hj':j<Es.length:=by omega
 show zA (((zW Es)[j]?).getD []) i=_;rw [zDu hj'];rfl
theorem zLC{n m k:Nat}{Es:List Eqn}{f:Vec}{d:Int}(C:Clash n k Es.length (whole Es) f d)(hk:k<m):
  f.length=(zW Es).length/\0<=d/\d≠1/\(∀j,j<n->zAn d (dot f (yE (zW Es) j))=0)/\ ∃j,j<m/\zAn d (dot f (yE (zW Es) (n+j)))≠0:=by
 refine ⟨by rw [C.fl,zW,zSM],C.m0,fun h=>?_,fun j hj=>?_,k,hk,?_⟩
 ·have:=C.one;rw [h] at this;exact this (Int.one_dvd _)
 ·rw [zIC C.fl,zHc C.m0];exact C.all j hj
 ·rw [zIC C.fl,Ne,zHc C.m0];exact C.one
abbrev zBT(H:Hp)(a:Addr)(ks:List Nat):Prop:=H a=some (.lst (ks.map fun (k:Nat)=>V.int (k:Int)))
structure WOk(n m b:Nat)(Es Ls:List Eqn):Prop where
 ok:EqOk n m b Es
 ls:EqOk n m b Ls
 nn:n<=6
 mm:m<=100
 bb:b<=5000
theorem zDH{n m b:Nat}{Es Ls:List Eqn}{ks:List Nat}(h:EqOk n m b Es)(hL:EqOk n m b Ls)(hk: ∀k∈ks,k<Es.length):EqOk n m b (Ls++pick Es ks):=by
 have z: ∀E∈Ls++FrV.pick Es ks,E∈Ls\/E∈Es:=fun E hE=>by
  rcases zTC.mp hE with y | y
  ·exact .inl y
  ·obtain ⟨k,hk',rfl⟩:=zAi.mp y;exact .inr (zAE (hk k hk'))
 exact ⟨fun E hE=>(z E hE).elim (hL.l1 E) (h.l1 E),fun E hE=>(z E hE).elim (hL.l2 E) (h.l2 E),fun E hE=>(z E hE).elim (hL.b1 E) (h.b1 E),fun E hE=>(z E hE).elim (hL.b2 E) (h.b2 E)⟩
theorem zRN{n m b:Nat}{Es Ls:List Eqn}{st:Stt}{E:Eqn}(w:WOk n m b Es Ls)(S:Sol n m Ls st)(hE:E∈Es)(h1:st.spent.length<=1000)(h2: ∀q∈st.spent,q.2.1.length=n):TkOk n m (VB6 b) E st:=by
 have hn:=w.nn;have hm:=w.mm;have p:=zJP (l:=3) (S.kern w.ls) S.red ⟨w.ok.l1 E hE,w.ok.b1 E hE⟩ (by show n+1<=8;omega);have v:=zJp (b:=b) hn;exact ⟨w.ok.l1 _ hE,w.ok.l2 _ hE,by omega,by omega,S.ech,zST (zFQ S.ech) (by omega),S.fl,fun f' hf=>⟨S.fn f' hf,S.fixedB w.ls hn hf⟩,⟨p.eq.mono v,fun q hq=>(p.s q hq).mono v,fun S' h q hq=>(p.k S' h q hq).mono v,fun S' h=>(p.v S' h).mono v,fun S' h=>(p.r S' h).mono v⟩,(w.ok.b2 _ hE).mono (by unfold VB6;omega),h1,h2⟩
theorem zGB{n m:Nat}{Ls:List Eqn}{st:Stt}{E:Eqn}{j i:Nat}(S:Sol n m Ls st)(h1:st.spent.length<=i)(h2: ∀q∈st.spent,q.2.1.length=n):(take j E st).spent.length<=i+1/\ ∀q∈(take j E st).spent,q.2.1.length=n:=by
 have P:=ze (e:=E.1) S.ech;unfold take;simp only;split
 ·exact ⟨by omega,h2⟩
 ·rename_i h0
  have hr:0<(FrV.part E.1 st.steps).2.2:=by have:=P.r0;omega
  refine ⟨by simp;omega,fun q hq=>?_⟩;rcases zTC.mp hq with z | z
  ·exact h2 q z
  ·rw [zTE.mp z];exact P.len hr
def zRv(CS CP CL:Addr)(H:Hp)(n:Nat)(v:V):Option Stt->Prop
 | some s'=> ∃o' pl',v= .ref o'/\SoO CS CP CL H o' pl' n s'
 | none=>v= .non
def zIB(CS CP CL:Addr):Sp:=fun vs H Q _=> ∃(o pl l nl:Addr) (n m b:Nat) (Es Ls:List Eqn) (st:Stt) (ks:List Nat),vs= [.ref o,.ref l,.ref nl] /\SoO CS CP CL H o pl n st/\LL H l (zW Es)/\zBT H nl ks/\WOk n m b Es Ls/\Sol n m Ls st/\ks.length<=100/\(∀k∈ks,k<Es.length)/\
 ∀v H',zC H H'->zRv CS CP CL H' n v (zv Es ks (fresh' st))->Q v H'
theorem zHv:FnScope ["solution","equations","numbers","more","number"] ["solution","equations","numbers"] (zG zFk):=⟨rfl,rfl,rfl,by decide+kernel,rfl,by decide+kernel,by decide+kernel⟩
theorem zPC{f fT fI CS CP CL:Addr}{fd fdT fdI:FuncData}(F:Fun K "with_taken_in" "with_taken_in" zFk f fd)(T:LC K CL)
  (bLs:zK K fdI ["self","unknowns","steps","fixed"] []) (MLs:Mk K CL fI) (mLs:mg "Solution" =some (.ref CL)) (GLs:FnOk P w K mg base CX0 1 fI fdI ["self","unknowns","steps","fixed"] (zGD CL))
  (mtT:Meth K CL "take_in" fT) (bT:zK K fdT ["self","number","equation"] []) (GT:FnOk P w K mg base CX0 36 fT fdT ["self","number","equation"] (zFb CS CP CL)):FnOk P w K mg base CX0 37 f fd ["solution","equations","numbers"] (zIB CS CP CL):=by
 have cl:=T.cl;refine F.ok zHv (fun vs H Q E h=>?_) (fun cdv A outer s H vs Q E hr h=>?_)
 ·obtain ⟨o,pl,l,nl,n,m,b,Es,Ls,st,ks,rfl,_⟩:=h;rfl
 ·obtain ⟨o,pl,l,nl,n,m,b,Es,Ls,st,ks,rfl,⟨dx0,sl,fl,os,eo,hsl,hfl,epl,hos⟩,⟨as,el,has⟩,hnl,wk,S,lk,hk,q⟩:=h;have hr2:Room 2 _:=hr.mono (by decide);have hr36:Room 36 _:=hr;have la:as.length=Es.length:=by have:=Paired.len has;simpa using this
  have nn:=wk.nn;have bb:=wk.bb;have hV:VB6 b<=1000000:=by unfold VB6;omega
  refine ⟨_,QB.out (zE
   (zT 3 zHv.nd rfl (zDk MLs GLs (hr2.mono (by decide)) rfl mLs bLs .nil zL (qc (zu (K:=K) rfl (qw 0 rfl) rfl) (qc (zu (K:=K) rfl (qw 0 rfl) rfl) (qc (zu (K:=K) rfl (qw 0 rfl) rfl) zD rfl) rfl) rfl) rfl rfl rfl) rfl) (zE
   (zAd PassesOwn.never rfl (zn (K:=K) rfl (qw 2 rfl)) (zM 4 zHv.nd rfl (Or.inl rfl) (.inr rfl)) (zH
    (zq (zFs (zLI (qw 3 rfl) cl mtT GT hr36 bT .nil zL (qc (qw 4 rfl) (qc (yw (K:=K) rfl (qw 1 rfl) (qw 4 rfl) (fun _ _=>rfl)) zD rfl) rfl) rfl rfl rfl) rfl) (zH
     (zO zEb)) zf)) (fun _=>rfl)) (zH
   (zO (qw 3 rfl))))),?_⟩
  refine ⟨_,rfl,o,CL,dx0,_,_,rfl,eo,T.cl,T.n1,rfl,_,rfl,o,CL,dx0,_,_,rfl,eo,T.cl,T.n2,rfl,_,rfl,o,CL,dx0,_,_,rfl,eo,T.cl,T.n3,rfl,?_⟩;intro x dx hx hdx hne;have sx0:zC H (L2.upd (L2.upd H dx (.own x)) x (.ins CL dx [])):=zC.store (zC.upd hdx) hx;have ex0:(L2.upd (L2.upd H dx (.own x)) x (.ins CL dx [])) x=some (.ins CL dx []):=zB;refine ⟨x,dx,_,_,_,rfl,ex0,fun pl1 hpl=>⟨rfl,?_⟩⟩;have hpx:pl1≠x:=fun z=>by rw [z,ex0] at hpl;cases hpl
  have hpl2:=zC.none sx0 hpl;have s3:zC H (L2.upd (L2.upd (L2.upd (L2.upd H dx (.own x)) x (.ins CL dx [])) pl1 (.lst [])) x (.ins CL dx [("unknowns",.int (n:Int)),("steps",.ref sl),("fixed",.ref fl),("spent",.ref pl1)])):=zC.store (sx0.trans (zC.upd hpl)) hx;have so3:SoO CS CP CL (L2.upd (L2.upd (L2.upd (L2.upd H dx (.own x)) x (.ins CL dx [])) pl1 (.lst [])) x (.ins CL dx [("unknowns",.int (n:Int)),("steps",.ref sl),("fixed",.ref fl),("spent",.ref pl1)])) x pl1 n (fresh' st):=
   ⟨dx,sl,fl,[],zB,hsl.same s3,hfl.same s3,by rw [zI hpx,zB];rfl,.nil⟩
  generalize L2.upd (L2.upd (L2.upd (L2.upd H dx (.own x)) x (.ins CL dx [])) pl1 (.lst [])) x (.ins CL dx [("unknowns",.int (n:Int)),("steps",.ref sl),("fixed",.ref fl),("spent",.ref pl1)])=H1 at s3 so3⊢;refine ⟨_,rfl,nl,rfl,⟨_,SqL.of (s3 _ _ hnl)⟩,?_⟩;refine zAH ks.length (fun i σ H'=> ∃(st':Stt) (s4:Option V),σ= [some (.ref o),some (.ref l),some (.ref nl),some (.ref x),s4] /\zC H H'/\SoO CS CP CL H' x pl1 n st'/\Sol n m (Ls++pick Es (ks.take i)) st'/\zv Es ks (fresh' st)=zv Es (ks.drop i) st'/\st'.spent.length<=i/\ ∀q∈st'.spent,q.2.1.length=n)
   ⟨_,none,rfl,s3,so3,by rw [List.take_zero,show pick Es [] = [] from rfl,zSg];exact S.fresh',rfl,zSJ _,fun q hq=>(nomatch hq)⟩ ?_ ?_ ?_ ?_
  ·rintro i σ H' hi ⟨st',s4,rfl,s5,_⟩;exact ⟨_,_,SqL.of (s5 _ _ hnl),zSF (by simpa using hi)⟩
  ·rintro σ H' ⟨st',s4,rfl,s5,_⟩;exact ⟨_,SqL.of (s5 _ _ hnl),by simp⟩
  ·rintro i σ H' y H'' hi ⟨st',s4,rfl,s5,so,S',hrun,hs1,hs2⟩ ⟨rfl,hy⟩;have hy':=hy _ (SqL.of (s5 _ _ hnl));rw [zSK,zSF hi] at hy';cases hy';have hki:ks[i] <Es.length:=hk _ (zSk hi);have hmE:=zAE hki;have hia:ks[i] <as.length:=by omega
   obtain ⟨wv,ew,hw⟩:=Paired.get' has (zSF hia);rw [zSK,zCR hki] at ew;cases ew;have et:Ls++pick Es (ks.take (i+1))=(Ls++pick Es (ks.take i))++ [yU Es ks[i]] :=by
    rw [zSc,zSF hi,pick,zSb,List.append_assoc];rfl
   have wk':WOk n m b Es (Ls++pick Es (ks.take i)):=⟨wk.ok,zDH wk.ok wk.ls (fun k h=>hk k (List.mem_of_mem_take h)),wk.nn,wk.mm,wk.bb⟩;have tk:=zRN wk' S' hmE (by omega) hs2;have hd:ks.drop i=ks[i] ::ks.drop (i+1):=List.drop_eq_getElem_cons hi;have so':=so;obtain ⟨dx',sl',fl',os',eo',z2,z3,z4,z5⟩:=so';refine ⟨_,rfl,x,dx',_,rfl,eo',rfl,_,rfl,_,rfl,_,rfl,l,_,_,_,rfl,rfl,SqL.of (s5 _ _ el),yf (zSK .. |>.trans (by rw [zSF hia];rfl)),x,pl1,as[ks[i]],ks[i],n,m,VB6 b,yU Es ks[i],st',rfl,so,hw.same s5,tk,by omega,fun hf H4 b4 hs4=>?_,fun hf H4 s4'=>?_⟩
   ·have s4':zC H H4:=But.same s5 b4 (by intro a ha;simp at ha;rcases ha with rfl | rfl;exact hx;exact hpl2);refine ⟨_,rfl,yh (by rfl) ?_⟩;refine ⟨_,_,rfl,s4',hs4,?_,?_,(zGB S' hs1 hs2).1,(zGB S' hs1 hs2).2⟩
    ·rw [et];exact zEt S' (wk.ok.l2 _ hmE) hf
    ·rw [hrun,hd,zv,if_pos hf]
   ·refine ⟨_,rfl,zCe (by rfl) (q _ _ (s5.trans s4') ?_)⟩;rw [hrun,hd,zv,if_neg (by rw [hf];exact zSS)];rfl
  ·rintro σ H' ⟨st',s4,rfl,s5,so,S',hrun,hs1,hs2⟩;rw [List.drop_length] at hrun;exact ⟨_,rfl,q _ H' s5 (by rw [hrun];exact ⟨x,pl1,rfl,so⟩)⟩
def zBS(Es:List Eqn)(d:Nat)(s:Stt)(ks:List Nat):List Nat:=match zv Es (ks.take (ks.length/2)) (fresh' s) with
 | none=> []
 | some s'=>zAM Es d s' (ks.drop (ks.length/2))
theorem zJw{Es:List Eqn}{d:Nat}{s:Stt}{ks:List Nat}(h:ks.length≠1):zAM Es (d+1) s ks=match zv Es (zBS Es d s ks) (fresh' s) with
  | none=>zBS Es d s ks
  | some s'=>zAM Es d s' (ks.take (ks.length/2))++zBS Es d s ks:=by rw [zAM,if_neg h];rfl
theorem zQb{n m d:Nat}{Es Ls:List Eqn}{s:Stt}{ks:List Nat}(l1: ∀E∈Es,E.1.length=n)(l2: ∀E∈Es,E.2.length=m)(S:Sol n m Ls s)(hL: ∀E∈Ls,E.1.length=n)(hk: ∀k∈ks,k<Es.length)(h2:2<=ks.length)(hd:ks.length<=d+1)(no: ¬Can m (Ls++pick Es ks)):
  (zBS Es d s ks).length<=ks.length/\(∀k∈zBS Es d s ks,k<Es.length)/\ ¬Can m ((Ls++pick Es (zBS Es d s ks))++pick Es (ks.take (ks.length/2)))/\ ∀s1,zv Es (ks.take (ks.length/2)) (fresh' s)=some s1->Sol n m (Ls++pick Es (ks.take (ks.length/2))) s1/\ ¬Can m ((Ls++pick Es (ks.take (ks.length/2)))++pick Es (ks.drop (ks.length/2))):=by
 have ka: ∀k∈ks.take (ks.length/2),k<Es.length:=fun k h=>hk k (List.mem_of_mem_take h);have kb: ∀k∈ks.drop (ks.length/2),k<Es.length:=fun k h=>hk k (List.mem_of_mem_drop h);have ta:=zAf l1 l2 (ks.take (ks.length/2)) Ls (fresh' s) S.fresh' hL ka;have no': ¬Can m ((Ls++pick Es (ks.take (ks.length/2)))++pick Es (ks.drop (ks.length/2))):=fun h=>no (by
  rw [List.append_assoc,pick,pick,<-zSb,List.take_append_drop] at h;exact h)
 unfold zBS;cases e:zv Es (ks.take (ks.length/2)) (fresh' s) with
 | none=>
  rw [e] at ta;exact ⟨zSU _,fun k h=>(nomatch h),fun h=>ta (h.sub fun E hE=>by simp only [zTC] at hE⊢;exact hE.elim (fun z=> .inl (.inl z)) .inr),fun s1 h=>(nomatch h)⟩
 | some s1=>
  rw [e] at ta;have hLa: ∀E∈Ls++pick Es (ks.take (ks.length/2)),E.1.length=n:=fun E hE=>by
   rcases zTC.mp hE with z | z
   ·exact hL E z
   ·obtain ⟨k,h,rfl⟩:=zAi.mp z;exact l1 _ (zAE (ka k h))
  have ih:=zAu l1 l2 d s1 (ks.drop (ks.length/2)) _ ta hLa kb (fun z=>by have:=congrArg List.length z;rw [List.length_drop,List.length_nil] at this;omega) (by rw [List.length_drop];omega) no';refine ⟨zST ih.sub.length_le (by rw [List.length_drop];omega),fun k h=>kb k (ih.sub.subset h),fun h=>ih.no (h.sub fun E hE=>?_),fun s2 h=>by cases h;exact ⟨ta,no'⟩⟩;simp only [zTC] at hE⊢;rcases hE with (z | z)| z
  ·exact .inl (.inl z)
  ·exact .inr z
  ·exact .inl (.inr z)
theorem zPA{v:List Nat}{n:Nat}(h:n<=v.length):zBU (v.map fun (k:Nat)=>V.int (k:Int)) none (some (n:Int))=(v.take n).map fun (k:Nat)=>V.int (k:Int):=by
 rw [zIV (by omega) (by simp;omega),List.map_take];rfl
theorem zKz{v:List Nat}{n:Nat}(h:n<=v.length):zBU (v.map fun (k:Nat)=>V.int (k:Int)) (some (n:Int)) none=(v.drop n).map fun (k:Nat)=>V.int (k:Int):=by
 rw [zFM (by omega) (by simp;omega),List.map_drop];rfl
def zMI(CS CP CL:Addr)(d:Nat):Sp:=fun vs H Q _=> ∃(o pl l nl:Addr) (n m b:Nat) (Es Ls:List Eqn) (st:Stt) (ks:List Nat),vs= [.ref o,.ref l,.ref nl] /\SoO CS CP CL H o pl n st/\LL H l (zW Es)/\zBT H nl ks/\WOk n m b Es Ls/\Sol n m Ls st/\ks≠ [] /\ks.length<=d/\d<=100/\(∀k∈ks,k<Es.length)/\
 ¬Can m (Ls++pick Es ks)/\ ∀r H',zC H H'->(r=nl\/H r=none)->zBT H' r (zAM Es d st ks)->Q (.ref r) H'
theorem zAk:FnScope ["solution","equations","numbers","half","ahead","behind","other"] ["solution","equations","numbers"] (zG zCt):=⟨rfl,rfl,rfl,by decide+kernel,rfl,by decide+kernel,by decide+kernel⟩
theorem zGh{f fW CS CP CL:Addr}{fd fdW:FuncData}(F:Fun K "needed" "needed" zCt f fd)(B:Bn mg)(bN:zK K fd ["solution","equations","numbers"] [])(mN:mg "needed" =some (.ref f))
  (FW:Fun K "with_taken_in" "with_taken_in" zFk fW fdW) (bW:zK K fdW ["solution","equations","numbers"] []) (mW:mg "with_taken_in" =some (.ref fW)) (GW:FnOk P w K mg base CX0 37 fW fdW ["solution","equations","numbers"] (zIB CS CP CL)):
  ∀d:Nat,FnOk P w K mg base CX0 (38+d) f fd ["solution","equations","numbers"] (zMI CS CP CL d)
 | 0=>by
  refine F.ok zAk (fun vs H Q E h=>?_) (fun cdv A outer s H vs Q E hr h=>?_)
  ·obtain ⟨o,pl,l,nl,n,m,b,Es,Ls,st,ks,rfl,_⟩:=h;rfl
  ·obtain ⟨o,pl,l,nl,n,m,b,Es,Ls,st,ks,rfl,_,_,_,_,_,ne,hd,_⟩:=h;exact absurd (List.eq_nil_of_length_eq_zero (by omega)) ne
 | d+1=>by
  have GN:=zGh F B bN mN FW bW mW GW d;have FN:=F;refine F.ok zAk (fun vs H Q E h=>?_) (fun cdv A outer s H vs Q E hrN h=>?_)
  ·obtain ⟨o,pl,l,nl,n,m,b,Es,Ls,st,ks,rfl,_⟩:=h;rfl
  ·obtain ⟨o,pl,l,nl,n,m,b,Es,Ls,st,ks,rfl,so,hl,hnl,wk,S,ne,hd,d1,hk,no,q⟩:=h;have hr37:Room 37 _:=hrN.mono (show 37<=38+d by omega);have l1:=wk.ok.l1;have l2:=wk.ok.l2;refine ⟨_,QB.out (zE
   (zq (zU yb (zt (zr (K:=K) rfl) rfl B.len yQ (qc (qw 2 rfl) zD rfl) rfl) zF rfl) (zH
    (zO (qw 2 rfl))) zf) (zE
   (zT 3 zAk.nd rfl (zAm (zt (zr (K:=K) rfl) rfl B.len yQ (qc (qw 2 rfl) zD rfl) rfl) zF) rfl) (zE
   (zT 4 zAk.nd rfl (zBe (K:=K) rfl (qw 2 rfl) zAp (zAj (qw 3 rfl))) rfl) (zE
   (zT 5 zAk.nd rfl (zAB zD) rfl) (zE
   (zT 6 zAk.nd rfl (zJ GW hr37 rfl mW FW.kp bW .nil zL (qc (qw 0 rfl) (qc (qw 1 rfl) (qc (qw 4 rfl) zD rfl) rfl) rfl) rfl rfl rfl) rfl) (zE
   (zq (zFs (qw 6 rfl) rfl) (zH
    (zT 5 zAk.nd rfl (zJ GN hrN rfl mN FN.kp bN .nil zL (qc (qw 6 rfl) (qc (qw 1 rfl) (qc (zBe (K:=K) rfl (qw 2 rfl) (zAj (qw 3 rfl)) zAp) zD rfl) rfl) rfl) rfl rfl rfl) rfl)) zf) (zE
   (zT 6 zAk.nd rfl (zJ GW hr37 rfl mW FW.kp bW .nil zL (qc (qw 0 rfl) (qc (qw 1 rfl) (qc (qw 5 rfl) zD rfl) rfl) rfl) rfl rfl rfl) rfl) (zE
   (zq (zNe (qw 6 rfl) rfl) (zH
    (zO (qw 5 rfl))) zf) (zH
   (zO (zEH (zJ GN hrN rfl mN FN.kp bN .nil zL (qc (qw 6 rfl) (qc (qw 1 rfl) (qc (qw 4 rfl) zD rfl) rfl) rfl) rfl rfl rfl) (qw 5 rfl)))))))))))),?_⟩
   refine ⟨_,rfl,nl,_,rfl,.inl (SqL.of hnl),rfl,_,rfl,?_⟩;rw [zSM];refine yk (fun c=>?_) (fun c=>?_)
   ·have c1:(ks.length:Int)=1:=by simpa using c
    have c2:ks.length=1:=by omega
    refine ⟨_,rfl,q nl H (zC.refl H) (.inl rfl) ?_⟩;rw [zAM,if_pos c2];exact hnl
   have c1: ¬(ks.length:Int)=1:=by simpa using c
   have c2:ks.length≠1:=by omega
   have l2':2<=ks.length:=by
    have:ks.length≠0:=fun z=>ne (List.eq_nil_of_length_eq_zero z);omega
   obtain ⟨bl,bk,bno,bs1⟩:=zQb l1 l2 S wk.ls.l1 hk l2' hd no;have st1:=zJw (Es:=Es) (d:=d) (s:=st) c2;have hl2:ks.length/2<=ks.length:=Nat.div_le_self _ _;have ka: ∀k∈ks.take (ks.length/2),k<Es.length:=fun k h=>hk k (List.mem_of_mem_take h);have kb: ∀k∈ks.drop (ks.length/2),k<Es.length:=fun k h=>hk k (List.mem_of_mem_drop h);have na:ks.take (ks.length/2)≠ [] :=fun z=>by have:=congrArg List.length z;rw [List.length_take,List.length_nil] at this;omega
   have nb:ks.drop (ks.length/2)≠ [] :=fun z=>by have:=congrArg List.length z;rw [List.length_drop,List.length_nil] at this;omega
   have la:(ks.take (ks.length/2)).length<=d:=by rw [List.length_take];omega
   have lb:(ks.drop (ks.length/2)).length<=d:=by rw [List.length_drop];omega
   refine ⟨_,rfl,nl,_,rfl,.inl (SqL.of hnl),_,2,rfl,rfl,⟨by decide,by decide⟩,?_⟩;rw [zSM,show ((ks.length:Nat):Int)/2=((ks.length/2:Nat):Int) by omega];refine ⟨_,rfl,_,rfl,_,rfl,nl,_,rfl,SqL.of hnl,fun p1 hp1=>?_⟩;rw [zPA hl2];obtain ⟨H1,g1,s1,e1⟩:=zBQ hp1 (.lst ((ks.take (ks.length/2)).map fun (k:Nat)=>V.int (k:Int)));rw [g1];refine ⟨bs 0,fun p2 hp2=>?_⟩;obtain ⟨H2,g2,s2,e2⟩:=zBQ hp2 (.lst []);rw [g2];have s02:=s1.trans s2;have n2:=zC.none s1 hp2;refine ⟨_,rfl,_,rfl,_,rfl,o,pl,l,p1,n,m,b,Es,Ls,st,ks.take (ks.length/2),rfl,SoO.same so s02,hl.same s02,s2 _ _ e1,wk,S,by omega,ka,fun v H3 s3 hv=>?_⟩;have s03:=s02.trans s3;have e13:=s3 _ _ (s2 _ _ e1);refine ⟨_,rfl,_,rfl,zEU (fun σ' H'=> ∃pb,σ'= [some (.ref o),some (.ref l),some (.ref nl),some (.int ((ks.length/2:Nat):Int)),some (.ref p1),some (.ref pb),some v] /\zC H3 H'/\H pb=none/\zBT H' pb (zBS Es d st ks)) (fun c N hN=>?_) (fun c N hN=>?_) ?_⟩
   ·cases e:zv Es (ks.take (ks.length/2)) (fresh' st) with
    | none=>
     rw [e] at hv;have hv:v= .non:=hv;rw [hv] at c;simp at c
    | some s'=>
     rw [e] at hv;obtain ⟨o',pl',rfl,so'⟩:=hv;obtain ⟨S1,no1⟩:=bs1 s' e;refine ⟨_,rfl,_,rfl,_,rfl,_,rfl,_,rfl,nl,_,rfl,SqL.of (s03 _ _ hnl),fun p3 hp3=>?_⟩;rw [zKz hl2];obtain ⟨H4,g4,s4,e4⟩:=zBQ hp3 (.lst ((ks.drop (ks.length/2)).map fun (k:Nat)=>V.int (k:Int)));rw [g4];refine ⟨o',pl',l,p3,n,m,b,Es,Ls++pick Es (ks.take (ks.length/2)),s',ks.drop (ks.length/2),rfl,SoO.same so' s4,hl.same (s03.trans s4),e4,⟨wk.ok,zDH wk.ok wk.ls ka,wk.nn,wk.mm,wk.bb⟩,S1,nb,lb,by omega,kb,no1,fun r H5 s5 hr hN5=>hN _ _ ⟨r,rfl,s4.trans s5,?_,?_⟩⟩
     ·rcases hr with rfl | hr
      ·exact zC.none s03 hp3
      ·exact zC.none (s03.trans s4) hr
     ·unfold zBS;rw [e];exact hN5
   ·cases e:zv Es (ks.take (ks.length/2)) (fresh' st) with
    | some s'=>
     rw [e] at hv;obtain ⟨o',pl',rfl,so'⟩:=hv;simp at c
    | none=>
     refine hN _ _ ⟨p2,rfl,zC.refl _,n2,?_⟩;unfold zBS;rw [e];exact s3 _ _ e2
   rintro σ' H4 ⟨pb,rfl,s34,npb,hpb⟩;have s04:=s03.trans s34;refine ⟨_,rfl,_,rfl,_,rfl,o,pl,l,pb,n,m,b,Es,Ls,st,zBS Es d st ks,rfl,SoO.same so s04,hl.same s04,hpb,wk,S,by omega,bk,fun v2 H5 s5 hv2=>?_⟩;have s05:=s04.trans s5;have hpb5:=s5 _ _ hpb;have tb:=zAf l1 l2 (zBS Es d st ks) Ls (fresh' st) S.fresh' wk.ls.l1 bk;cases e:zv Es (zBS Es d st ks) (fresh' st) with
   | none=>
    rw [e] at hv2 st1;have hv2:v2= .non:=hv2;subst hv2;refine ⟨_,rfl,_,rfl,zCe (by rfl) ⟨_,rfl,q pb H5 s05 (.inr npb) ?_⟩⟩;rw [st1];exact hpb5
   | some s'=>
    rw [e] at hv2 st1 tb;obtain ⟨o2,pl2,rfl,so2⟩:=hv2;refine ⟨_,rfl,_,rfl,yh (by rfl) ?_⟩;refine ⟨_,rfl,_,rfl,_,rfl,o2,pl2,l,p1,n,m,b,Es,Ls++pick Es (zBS Es d st ks),s',ks.take (ks.length/2),rfl,so2,hl.same s05,s5 _ _ (s34 _ _ e13),⟨wk.ok,zDH wk.ok wk.ls bk,wk.nn,wk.mm,wk.bb⟩,tb,na,la,by omega,ka,bno,fun r H6 s6 _ hN6=>?_⟩;have fl:=zAu l1 l2 d s' (ks.take (ks.length/2)) _ tb (zDH wk.ok wk.ls bk).l1 ka na la bno;have lr:=fl.sub.length_le;refine ⟨_,rfl,r,pb,_,_,rfl,rfl,hN6,s6 _ _ hpb5,by rw [zSQ];simp;omega,fun p7 hp7=>?_⟩;refine q p7 _ ((s05.trans s6).trans (zC.upd hp7)) (.inr (zC.none (s05.trans s6) hp7)) ?_;rw [st1];show L2.upd _ p7 _ p7=_;rw [zB,zSb]
def zAP(f:Vec):List Nat:=(List.range f.length).filter fun j=>!decide (zA f j=0)
def yA(n m:Nat)(Es:List Eqn)(f:Vec):List Nat:=zAM Es 12 (yB n m) (zAP f)
structure Used(n m:Nat)(Es:List Eqn)(f:Vec):Prop where
 fl:f.length=Es.length
 lt: ∀k∈zAP f,k<Es.length
 ne:zAP f≠ []
 le:(zAP f).length<=Es.length
 no: ¬Can m ([] ++pick Es (zAP f))
theorem zIu{n m b:Nat}{Es:List Eqn}{f:Vec}{d:Int}(ok:EqOk n m b Es)(hn:n<=6)(e:yN n (whole Es) Es.length 0 Es (yB n m)= .inr (f,d)):Used n m Es f:=by
 have rs:=zAO ok hn Es 0 _ (Run.start n m b Es) rfl;rw [e] at rs;obtain ⟨k,hk,C⟩:=rs;have lt: ∀k∈zAP f,k<Es.length:=fun k h=>by
  have:=List.mem_range.mp (zTM.mp h).1;rw [C.fl] at this;exact this
 have no: ¬Can m ([] ++pick Es (zAP f)):=fun ⟨X,hX⟩=>zFA C ok.l1 (X k) fun j hj hd=>by
  refine hX _ (zAi.mpr ⟨j,?_,rfl⟩) k hk;refine zTM.mpr ⟨List.mem_range.mpr (by rw [C.fl];exact hj),?_⟩;rw [zSf fun z=>hd (by rw [z];exact Int.dvd_zero _)];rfl
 refine ⟨C.fl,lt,fun z=>no ?_,?_,no⟩
 ·rw [z];exact ⟨fun _ _=>0,fun E hE=>(nomatch hE)⟩
 ·rw [<-C.fl];have:=zTO (fun j=>!decide (zA f j=0)) (List.range f.length);rw [List.length_range] at this;exact this
theorem zKw{n m b:Nat}{Es:List Eqn}{f:Vec}(ok:EqOk n m b Es)(hl:Es.length<=12)(u:Used n m Es f):Few m Es [] (zAP f) (yA n m Es f):=
 zAu ok.l1 ok.l2 12 (yB n m) (zAP f) [] (zDN n m) (fun E h=>(nomatch h)) u.lt u.ne (zST u.le hl) u.no
theorem zKk{n m:Nat}{Es:List Eqn}{f:Vec}(u:Used n m Es f)(F:Few m Es [] (zAP f) (yA n m Es f)): ∀k∈yA n m Es f,k<Es.length:=fun k h=>u.lt k (F.sub.subset h)
theorem zJd{n m:Nat}{Es:List Eqn}{f:Vec}(u:Used n m Es f)(F:Few m Es [] (zAP f) (yA n m Es f)):(yA n m Es f).length<=Es.length:=zST F.sub.length_le u.le
theorem zJW{n m b:Nat}{Es:List Eqn}{ks:List Nat}(ok:EqOk n m b Es)(hk: ∀k∈ks,k<Es.length):EqOk n m b (pick Es ks):=zDH (Ls:= []) ok ⟨fun E h=>(nomatch h),fun E h=>(nomatch h),fun E h=>(nomatch h),fun E h=>(nomatch h)⟩ hk
theorem zEN{n m b:Nat}{Es:List Eqn}{ks:List Nat}(sv:SvOk n m b Es)(hk: ∀k∈ks,k<Es.length)(hl:ks.length<=12):SvOk n m b (pick Es ks):=⟨zJW sv.ok hk,sv.nn,sv.mm,by rw [pick,zSM];exact hl,sv.bb⟩
theorem zOH{n m b:Nat}{Es:List Eqn}{ks us:List Nat}(ok:EqOk n m b Es)(hn:n<=6)(hk: ∀k∈ks,k<Es.length)(F:Few m Es [] us ks): ∃f2 d2 k,yN n (whole (pick Es ks)) (pick Es ks).length 0 (pick Es ks) (yB n m)= .inr (f2,d2)/\k<m/\Clash n k (pick Es ks).length (whole (pick Es ks)) f2 d2:=
 zLU (zJW ok hk) hn fun X h=>F.no ⟨X,h⟩
theorem zID{H:Hp}{as:List Addr}{Es:List Eqn}(has:LIs H as (zW Es))(la:as.length=Es.length): ∀(ks:List Nat),(∀k∈ks,k<Es.length)->LIs H (ks.map fun k=>(as[k]?).getD 0) (zW (pick Es ks))
 | [],_=> .nil
 | k::ks,h=>by
  have hk:=h k (by simp);have hka:k<as.length:=by omega
  obtain ⟨wv,ew,hw⟩:=Paired.get' has (zSF hka);rw [zSK,zCR hk] at ew;cases ew;refine .cons ?_ (zID has la ks fun k h'=>h k (by simp [h']));show LI H ((as[k]?).getD 0) _;rw [zSF hka];exact hw
def zDa(H:Hp)(Q:VK)(n m:Nat)(Es:List Eqn):Prop:=match yN n (whole Es) Es.length 0 Es (yB n m) with
 | .inl _=> ∀H',zC H H'->Q .non H'
 | .inr (f,_)=> ∀f2 d2,yN n (whole (pick Es (yA n m Es f))) (pick Es (yA n m Es f)).length 0 (pick Es (yA n m Es f)) (yB n m)= .inr (f2,d2)-> ∀t kl fl H',zC H H'->H' t=some (.tup [.ref kl,.ref fl,.int d2])->zBT H' kl (yA n m Es f)->LI H' fl f2->H kl=none->H fl=none->kl≠fl->Q (.ref t) H'
def zFc:Sp:=fun vs H Q _=> ∃(l:Addr) (n m b:Nat) (Es:List Eqn),vs= [.int (n:Int),.int (m:Int),.ref l] /\LL H l (zW Es)/\SvOk n m b Es/\zDa H Q n m Es
theorem zDv:FnScope ["unknowns","names","equations","told","used","kept"] ["unknowns","names","equations"] (zG zEW):=⟨rfl,rfl,rfl,by decide+kernel,rfl,by decide+kernel,by decide+kernel⟩
theorem zOx{f fS fN fU CS CP CL:Addr}{fd fdS fdN fdU:FuncData}(F:Fun K "fewest_of" "fewest_of" zEW f fd)(B:Bn mg)
  (FS:Fun K "solution_of" "solution_of" zGI fS fdS) (bS:zK K fdS ["unknowns","names","equations"] []) (mS:mg "solution_of" =some (.ref fS)) (GS:FnOk P w K mg base CX0 37 fS fdS ["unknowns","names","equations"] zHK)
  (FN:Fun K "needed" "needed" zCt fN fdN) (bN:zK K fdN ["solution","equations","numbers"] []) (mN:mg "needed" =some (.ref fN)) (GN:FnOk P w K mg base CX0 50 fN fdN ["solution","equations","numbers"] (zMI CS CP CL 12))
  (FU:Fun K "open_solution" "open_solution" zEY fU fdU) (bU:zK K fdU ["unknowns","names"] []) (mU:mg "open_solution" =some (.ref fU)) (GU:FnOk P w K mg base CX0 3 fU fdU ["unknowns","names"] (zFY CS CP CL)):FnOk P w K mg base CX0 51 f fd ["unknowns","names","equations"] zFc:=by
 refine F.ok zDv (fun vs H Q E h=>?_) (fun cdv A outer s H vs Q E hr h=>?_)
 ·obtain ⟨l,n,m,b,Es,rfl,_⟩:=h;rfl
 ·obtain ⟨l,n,m,b,Es,rfl,hl,sv,q⟩:=h;have hr50:Room 50 _:=hr;have hr37:Room 37 _:=hr.mono (by decide);have hr3:Room 3 _:=hr.mono (by decide);have nn:=sv.nn;have mm:=sv.mm;have l12:=sv.le;refine ⟨_,QB.out (zE
   (zT 3 zDv.nd rfl (zJ GS hr37 rfl mS FS.kp bS .nil zL (qc (qw 0 rfl) (qc (qw 1 rfl) (qc (qx 2 rfl) zD rfl) rfl) rfl) rfl rfl rfl) rfl) (zE
   (zq (zU yb (zx (K:=K) rfl (qw 3 rfl) zF (fun _ _=>rfl)) zBt rfl) (zH
    (zO zEb)) zf) (zE
   (zBE (cl:= []) zAN 4 (by exact zDv.nd) rfl (Or.inl rfl) (.inr rfl) ["number","factor"] [] [] rfl (zHW (K:=K) rfl rfl B.enumerate (qc (zx (K:=K) rfl (qw 3 rfl) zF (fun _ _=>rfl)) zD rfl) rfl) rfl (by decide+kernel) rfl (by decide+kernel) (fun _ _ h=>nomatch h) rfl (fun j y i h=>nomatch h) (zQ rfl) (fun _ _ _ _=>(zBO (K:=K) (n:=2) rfl rfl (yK (zM 0 (show (["number","factor"] :List Str).Nodup by decide+kernel) rfl (.inl rfl) (.inr rfl)) (yK (zM 1 (show (["number","factor"] :List Str).Nodup by decide+kernel) rfl (.inl rfl) (.inr rfl)) zBW rfl) rfl) rfl rfl)) (fun _ _ _ _=>(zCP (zU yy (qw 1 rfl) zF rfl))) (fun C s₂ H₂ fp xe E hp=>(qw 0 rfl)) (fun _=>rfl) rfl) (zE
   (zT 5 zDv.nd rfl (zJ GN hr50 rfl mN FN.kp bN .nil zL (qc (zJ GU hr3 rfl mU FU.kp bU .nil zL (qc (qw 0 rfl) (qc (qw 1 rfl) zD rfl) rfl) rfl rfl rfl) (qc (qx 2 rfl) (qc (qw 4 rfl) zD rfl) rfl) rfl) rfl rfl rfl) rfl) (zE
   (zT 3 zDv.nd rfl (zJ GS hr37 rfl mS FS.kp bS .nil zL (qc (qw 0 rfl) (qc (qw 1 rfl) (qc (zj ["number"] ["equations"] [2] rfl (zn (K:=K) rfl (qw 5 rfl)) rfl (by decide+kernel) rfl (by decide+kernel) (zc rfl lk0) rfl (fr1 ⟨rfl,rfl,rfl,_,rfl,rfl⟩) (zQ rfl) (fun _ _ _ _=>(zM 0 (show (["number","equations"] :List Str).Nodup by decide+kernel) rfl (.inl rfl) (.inr rfl))) (fun _ _ _ _=>zo) (fun _ _ _ _=>(yw (K:=K) rfl (qx 1 rfl) (qw 0 rfl) (fun _ _=>rfl))) (fun _=>rfl)) zD rfl) rfl) rfl) rfl rfl rfl) rfl) (zH
   (zO (zBw (qc (qw 5 rfl) (qc (zx (K:=K) rfl (qw 3 rfl) zF (fun _ _=>rfl)) (qc (zx (K:=K) rfl (qw 3 rfl) zF (fun _ _=>rfl)) zD rfl) rfl) rfl))))))))),?_⟩
  refine ⟨_,rfl,_,rfl,_,rfl,l,n,m,b,Es,rfl,hl,sv,?_⟩;unfold zDa at q;unfold zAz;cases e:yN n (whole Es) Es.length 0 Es (yB n m) with
  | inl st=>
   rw [e] at q;intro t r H1 s1 et _ _;exact ⟨_,rfl,t,_,_,_,rfl,rfl,SqT.of et,rfl,rfl,_,rfl,zm (q H1 s1)⟩
  | inr p=>
   obtain ⟨fc,dd⟩:=p;rw [e] at q;simp only at q⊢;have u:=zIu sv.ok nn e;have fw:=zKw sv.ok l12 u;have klt:=zKk u fw;have kle:=zJd u fw;intro t fl H1 s1 et nfl hfl _;refine ⟨_,rfl,t,_,_,_,rfl,rfl,SqT.of et,rfl,rfl,_,rfl,yC ?_⟩;refine ⟨_,rfl,t,_,_,_,rfl,rfl,SqT.of et,rfl,fl,rfl,⟨_,SqL.of hfl⟩,fun D hD=>?_⟩;have lf:=u.fl;refine zV fc.length (fun i ys H'=>i<=fc.length/\ys=((List.range i).filter fun j=>!decide (zA fc j=0)).map (fun (k:Nat)=>V.int (k:Int))/\zC H1 H'/\H' D=some (.lst ys)) ⟨zSU _,by simp,zC.upd hD,zB⟩ (by rw [zSQ];omega) ?_ ?_ ?_
   ·rintro i ys H2 hi ⟨_,rfl,s2,e2⟩;have:=zTO (fun j=>!decide (zA fc j=0)) (List.range i);rw [List.length_range] at this;exact ⟨by rw [zSM];exact this,e2,fun h=>⟨_,_,SqL.of (hfl.same s2),zZ h⟩,fun h=>⟨_,SqL.of (hfl.same s2),by simp;omega⟩⟩
   ·rintro i ys H2 x H3 hi ⟨_,rfl,s2,e2⟩ ⟨t2,y,hy,ht2,rfl,rfl⟩ pre hpre;obtain ⟨p0,p1',rfl⟩:=zi hpre;have hy':=hy _ (SqL.of (hfl.same s2));rw [zZ hi] at hy';cases hy';have st2:=zC.upd ht2 (o:= .tup [.int (i:Int),.int (zA fc i)]);refine ⟨t2,_,rfl,SqT.of zB,rfl,_,_,rfl,_,_,rfl,rfl,⟨[some (.int (i:Int)),some (.int (zA fc i))],rfl,rfl⟩,?_⟩;refine ⟨_,rfl,rfl,_,rfl,yk (fun c=>?_) (fun c=>?_)⟩
    ·have c':zA fc i≠0:=by simpa using c
     refine ⟨_,rfl,st2 _ _ e2,hi,?_,zC.store (s2.trans st2) hD,zB⟩;rw [List.range_succ,zTK];simp [c']
    ·have c':zA fc i=0:=by simpa using c
     refine ⟨hi,?_,s2.trans st2,st2 _ _ e2⟩;rw [List.range_succ,zTK];simp [c']
   rintro ys H2 ⟨_,rfl,s2,e2⟩;have e2:zBT H2 D (zAP fc):=e2;have s02:=s1.trans s2;refine ⟨_,rfl,_,rfl,n,m,rfl,by omega,by omega,fun o pl H3 s3 _ _ so=>?_⟩;have s03:=s02.trans s3;refine ⟨_,rfl,_,rfl,o,pl,l,D,n,m,b,Es,[],yB n m,zAP fc,rfl,so,hl.same s03,s3 _ _ e2,⟨sv.ok,⟨fun E h=>(nomatch h),fun E h=>(nomatch h),fun E h=>(nomatch h),fun E h=>(nomatch h)⟩,nn,mm,sv.bb⟩,zDN n m,u.ne,by have:=u.le;omega,by decide,u.lt,u.no,fun r H4 s4 hr4 hN4=>?_⟩;have hN4:zBT H4 r (yA n m Es fc):=hN4;have nr:H r=none:=by
    rcases hr4 with rfl | h
    ·exact zC.none s1 hD
    ·exact zC.none s03 h
   have s04:=s03.trans s4;obtain ⟨as,el,has⟩:=hl.same s04;have la:as.length=Es.length:=by have:=Paired.len has;simpa using this
   obtain ⟨f2,d2,k2,erun,_,C2⟩:=zOH sv.ok nn klt fw;have svp:=zEN sv klt (zST kle l12);refine ⟨_,rfl,_,rfl,_,rfl,r,rfl,⟨_,SqL.of hN4⟩,fun D5 hD5=>?_⟩;refine zV (yA n m Es fc).length (fun i ys H'=>i<=(yA n m Es fc).length/\ys=(((yA n m Es fc).take i).map fun k=>(as[k]?).getD 0).map V.ref/\zC H4 H'/\H' D5=some (.lst ys)) ⟨zSU _,by simp,zC.upd hD5,zB⟩ (by rw [zSQ];omega) ?_ ?_ ?_
   ·rintro i ys H5 hi ⟨_,rfl,s5,e5⟩;exact ⟨by simp;omega,e5,fun h=>⟨_,_,SqL.of (s5 _ _ hN4),zSF (by simpa using h)⟩,fun h=>⟨_,SqL.of (s5 _ _ hN4),by simp;omega⟩⟩
   ·rintro i ys H5 x H6 hi ⟨_,rfl,s5,e5⟩ ⟨rfl,hx⟩ pre hpre;obtain ⟨p0,rfl⟩:=yi hpre;have hx':=hx _ (SqL.of (s5 _ _ hN4));rw [zSK,zSF hi] at hx';cases hx';have hki:=klt _ (zSk hi);have hka:(yA n m Es fc)[i] <as.length:=by omega
    refine ⟨⟨[some (.int (((yA n m Es fc)[i] :Nat):Int))],rfl,rfl⟩,zm ?_⟩;refine ⟨_,rfl,_,rfl,l,_,_,_,rfl,rfl,SqL.of (s5 _ _ el),yf (zSK .. |>.trans (by rw [zSF hka];rfl)),e5,hi,?_,zC.store s5 hD5,zB⟩;rw [zSc,zSF hi,zSb,zSb];show _=_++ [V.ref ((as[(yA n m Es fc)[i]]?).getD 0)];rw [zSF hka];rfl
   rintro ys H5 ⟨_,rfl,s5,e5⟩;rw [List.take_of_length_le (zSJ _)] at e5;have hl5:LL H5 D5 (zW (pick Es (yA n m Es fc))):=⟨_,e5,LIs.same (zID has la _ klt) s5⟩;refine ⟨D5,n,m,b,pick Es (yA n m Es fc),rfl,hl5,svp,?_⟩;unfold zAz;rw [erun];intro t6 fl6 H6 s6 et6 nfl6 hf6 _;have hN6:=s6 _ _ (s5 _ _ hN4);have s06:=(s04.trans s5).trans s6;refine ⟨_,rfl,_,rfl,t6,_,_,_,rfl,rfl,SqT.of et6,rfl,_,rfl,t6,_,_,_,rfl,rfl,SqT.of et6,rfl,bs 3,fun t7 ht7=>?_⟩;have st7:=zC.upd ht7 (o:= .tup [.ref r,.ref fl6,.int d2]);exact q f2 d2 erun t7 r fl6 _ (s06.trans st7) zB (st7 _ _ hN6) (hf6.same st7) nr (zC.none (s04.trans s5) nfl6) (fun z=>by rw [z] at hN4;rw [s5 _ _ hN4] at nfl6;cases nfl6)
def zKR:Sp:=fun vs H Q _=> ∃(l:Addr) (n m b:Nat) (Es:List Eqn),vs= [.int (n:Int),.int (m:Int),.ref l] /\LL H l (zW Es)/\SvOk n m b Es/\m<=6/\zDa H Q n m Es
theorem zDa.same{H H':Hp}{Q:VK}{n m:Nat}{Es:List Eqn}(h:zDa H Q n m Es)(s:zC H H'):zDa H' Q n m Es:=by
 unfold zDa at h⊢;cases e:yN n (whole Es) Es.length 0 Es (yB n m) with
 | inl st=>rw [e] at h;exact fun H2 s2=>h H2 (s.trans s2)
 | inr p=>
  rw [e] at h;exact fun f2 d2 e2 t kl fl H2 s2 et h1 h2 n1 n2 ne=>h f2 d2 e2 t kl fl H2 (s.trans s2) et h1 h2 (zC.none s n1) (zC.none s n2) ne
theorem zNg:FnScope ["unknowns","names","equations"] ["unknowns","names","equations"] (zG zEr):=⟨rfl,rfl,rfl,by decide+kernel,rfl,by decide+kernel,by decide+kernel⟩
theorem zQN{f fN fF:Addr}{fd fdN fdF:FuncData}(F:Fun K "fewest" "fewest" zEr f fd)
  (FN:Fun K "need_equations" "need_equations" zBi fN fdN) (bN:zK K fdN ["unknowns","names","equations"] []) (mN:mg "need_equations" =some (.ref fN)) (GN:FnOk P w K mg base CX0 3 fN fdN ["unknowns","names","equations"] zEa)
  (FF:Fun K "fewest_of" "fewest_of" zEW fF fdF) (bF:zK K fdF ["unknowns","names","equations"] []) (mF:mg "fewest_of" =some (.ref fF)) (GF:FnOk P w K mg base CX0 51 fF fdF ["unknowns","names","equations"] zFc):FnOk P w K mg base CX0 52 f fd ["unknowns","names","equations"] zKR:=by
 refine F.ok zNg (fun vs H Q E h=>?_) (fun cdv A outer s H vs Q E hr51 h=>?_)
 ·obtain ⟨l,n,m,b,Es,rfl,_⟩:=h;rfl
 ·obtain ⟨l,n,m,b,Es,rfl,hl,ok,m6,q⟩:=h;have hr3:Room 3 _:=hr51.mono (by decide);refine ⟨_,QB.out (zE
   (ye (zJ GN hr3 rfl mN FN.kp bN .nil zL (qc (qw 0 rfl) (qc (qw 1 rfl) (qc (qw 2 rfl) zD rfl) rfl) rfl) rfl rfl rfl) rfl) (zH
   (zO (zJ GF hr51 rfl mF FF.kp bF .nil zL (qc (qw 0 rfl) (qc (qw 1 rfl) (qc (qw 2 rfl) zD rfl) rfl) rfl) rfl rfl rfl)))),?_⟩
  have nn:=ok.nn;have le:=ok.le;have lw:(zW Es).length=Es.length:=by simp [zW]
  refine ⟨_,rfl,_,rfl,_,rfl,l,n,m,zW Es,rfl,hl,fun x hx=>?_,by omega,m6,by omega,fun H1 s1=>?_⟩
  ·obtain ⟨e,he,rfl⟩:=zTF.mp hx;simp [ok.ok.l1 e he,ok.ok.l2 e he]
  ·exact ⟨_,rfl,_,rfl,_,rfl,l,n,m,b,Es,rfl,hl.same s1,ok,q.same s1⟩
theorem zPI{f fN fF BN:Addr}{fd fdN fdF:FuncData}(F:Fun K "fewest" "fewest" zEr f fd)
  (FN:Fun K "need_equations" "need_equations" zBi fN fdN) (bN:zK K fdN ["unknowns","names","equations"] []) (mN:mg "need_equations" =some (.ref fN)) (GN:FnOk P w K mg base (Fly P w) 3 fN fdN ["unknowns","names","equations"] (zBc BN))
  (FF:Fun K "fewest_of" "fewest_of" zEW fF fdF) (bF:zK K fdF ["unknowns","names","equations"] []) (mF:mg "fewest_of" =some (.ref fF)) (GF:FnOk P w K mg base CX0 51 fF fdF ["unknowns","names","equations"] zFc):FnOk P w K mg base (Fly P w) 52 f fd ["unknowns","names","equations"] (zBc BN):=by
 refine (Fr.Fun.toD F).okX zNg (fun vs H Q E h=>?_) (fun cdv A outer s H vs Q E hr51 h=>?_)
 ·obtain ⟨x,y,z,rfl,_⟩:=h;rfl
 ·obtain ⟨x,y,z,rfl,h,q⟩:=h;have hr3:Room 3 _:=hr51.mono (by decide);refine ⟨_,QB.out (zE
   (ye (zBy GN hr3 rfl mN FN.kp bN .nil zFH (qc (qw 0 rfl) (qc (qw 1 rfl) (qc (qw 2 rfl) zD rfl) rfl) rfl) rfl rfl rfl) rfl) (zH
   (zO (zJ GF hr51 rfl mF FF.kp bF .nil zL (qc (qw 0 rfl) (qc (qw 1 rfl) (qc (qw 2 rfl) zD rfl) rfl) rfl) rfl rfl rfl)))),?_⟩
  exact ⟨_,rfl,_,rfl,_,rfl,x,y,z,rfl,h,q⟩
structure Ex22(K:zSy)(mg:Str->Option Value)(BN ME:Addr):Prop where
 mgM:mg "MeasureError" =some (.ref ME)
 ex:PySem.W.exmOne K (.ref BN) (.ref ME)=some true
 xc:XCls K BN
theorem zFE(K:zSy)(C:Addr):PySem.W.kitOne K (.ref C) (.ref C)=some true:=by
 unfold PySem.W.kitOne;rw [if_pos (by simp)]
theorem zQD(k:Nat)(x:V):(List.replicate k [x]).flatten=List.replicate k x:=by
 induction k with
 | zero=>rfl
 | succ k ih=>rw [List.replicate_succ,List.flatten_cons,ih];rfl
theorem zRU{H':Hp}{n:Nat}{as:List Addr}{Us:List Vec}(h:LIs H' as Us)(hU: ∀u∈Us,u.length=n):Paired (fun x b=>EqB H' n x b) (as.map V.ref) (List.replicate as.length true):=by
 induction h with
 | nil=>exact .nil
 | cons h1 h2 ih=>exact .cons (EqB.good h1 (hU _ (by simp))) (ih fun u hu=>hU u (by simp [hu]))
theorem zRI{H:Hp}{la:Addr}{xs:List V}(h:H la=some (.lst xs)){z:Int}(z0:0<=z)(z1:z<5): ∃b,atI [V.bl true,V.non,V.str "1",V.ref la,V.int (-1)] z=some b/\Kd H b/\okN b 0 (.int 240)=false/\okN b 0 (.int 6)=false/\(z≠4->isW b=false):=by
 have:z=0\/z=1\/z=2\/z=3\/z=4:=by omega
 rcases this with rfl | rfl | rfl | rfl | rfl
 ·exact ⟨_,rfl,.bl _,rfl,rfl,fun _=>rfl⟩
 ·exact ⟨_,rfl,.non,rfl,rfl,fun _=>rfl⟩
 ·exact ⟨_,rfl,.str _,rfl,rfl,fun _=>rfl⟩
 ·exact ⟨_,rfl,.lst h,rfl,rfl,fun _=>rfl⟩
 ·exact ⟨_,rfl,.int _,rfl,rfl,fun h=>absurd rfl h⟩
def zJq:Sp:=fun vs H Q _=> ∃(k:Int) (n m:Nat) (l:Addr) (Us:List Vec),vs= [.int k,.int (n:Int),.int (m:Int),.ref l] /\0<=k/\n<=6/\1<=m/\m<=3/\LL H l Us/\Us.length<=12/\(∀u∈Us,u.length=n+m)/\ ∀H',zC H H'->Q (.bl true) H'
theorem zKI:FnScope ["_law_number_here","_law_unknowns","_law_names","_law_equations_here","_law_bad","e"] ["_law_number_here","_law_unknowns","_law_names","_law_equations_here"] (zG zCS):=⟨rfl,rfl,rfl,by decide+kernel,rfl,by decide+kernel,by decide+kernel⟩
theorem zRH{f fS BN ME:Addr}{fd fdS:FuncData}(F:Fun K "_law_refused" "_law_refused" zCS f fd)(B:Bn mg)(X:Ex K mg BN)(Y:Ex22 K mg BN ME)
  (FS:Fun K "fewest" "fewest" zEr fS fdS) (bS:zK K fdS ["unknowns","names","equations"] []) (mS:mg "fewest" =some (.ref fS)) (GS:FnOk P w K mg base (Fly P w) 52 fS fdS ["unknowns","names","equations"] (zBc BN)):FnOk P w K mg base CX0 53 f fd ["_law_number_here","_law_unknowns","_law_names","_law_equations_here"] zJq:=by
 refine F.ok zKI (fun vs H Q E h=>?_) (fun cdv A outer s H vs Q E hr52 h=>?_)
 ·obtain ⟨k,n,m,l,Us,rfl,_⟩:=h;rfl
 ·obtain ⟨k,n,m,l,Us,rfl,k0,n6,m1,m3,hl,lU,hU,q⟩:=h;obtain ⟨as,el,has⟩:=hl;refine ⟨_,QB.out (zE
   (zT 4 zKI.nd rfl (yw (K:=K) rfl (zAB (qc zAD (qc zEb (qc zBt (qc (zAB (qc zF zD rfl)) (qc (zDW zF) zD rfl) rfl) rfl) rfl) rfl)) (yY (qw 0 rfl) zF) (fun _ _=>rfl)) rfl) (zE
   (zRa (K:=K) 5 rfl rfl rfl zKI.nd rfl rfl rfl (.inl Y.mgM) (fun ps xe E hp=>(zH
    (zq (zU yb (yY (zAm (qw 0 rfl) zF) zF) zF rfl) (zH
     (ye (zBy GS hr52 rfl mS FS.kp bS .nil hp (qc (qw 4 rfl) (qc (qw 2 rfl) (qc (qw 3 rfl) zD rfl) rfl) rfl) rfl rfl rfl) rfl)) (zH
     (zq (zU yb (yY (zAm (qw 0 rfl) zF) zF) zF rfl) (zH
      (ye (zBy GS hr52 rfl mS FS.kp bS .nil hp (qc (qw 1 rfl) (qc (qw 4 rfl) (qc (qw 3 rfl) zD rfl) rfl) rfl) rfl rfl rfl) rfl)) (zH
      (ye (zBy GS hr52 rfl mS FS.kp bS .nil hp (qc (qw 1 rfl) (qc (qw 2 rfl) (qc (zEH (qw 3 rfl) (zAB (qc (zNL (zAB (qc (qw 4 rfl) zD rfl)) (yu (yu (qw 1 rfl) (qw 2 rfl)) (zCV zGk rfl B.int zFv (qc (zCa yb (yY (qw 0 rfl) zF) zF rfl) zD rfl) rfl))) zD rfl))) zD rfl) rfl) rfl) rfl rfl rfl) rfl))))))) (fun e=>(zH
    (zO (zt (zJl (K:=K) rfl) rfl B.isi zk (qc (qw 5 rfl) (qc (zCY (v:= .ref BN) rfl X.mgB rfl rfl) zD rfl) rfl) rfl)))) rfl) (zH
   (zO zAD)))),?_⟩
  have z0:=zSX k (show (5:Int)≠0 by decide);have z1:=zSR k (show (0:Int)<5 by decide);refine ⟨bs 1,fun la hla=>?_⟩;obtain ⟨G1,g1,s1,ela⟩:=zBQ hla (.lst [.int 1]);rw [g1];refine ⟨_,rfl,bs 5,fun l5 hl5=>?_⟩;obtain ⟨G2,g2,s2,el5⟩:=zBQ hl5 (.lst [V.bl true,V.non,V.str "1",V.ref la,V.int (-1)]);rw [g2];obtain ⟨b0,pb0,kb0,ob0,oc0,wb0⟩:=zRI (s2 _ _ ela) z0 z1;refine ⟨_,rfl,_,_,rfl,rfl,by decide,l5,_,_,b0,rfl,rfl,SqL.of el5,pb0,?_⟩;have s02:=s1.trans s2;clear g1 g2 hla hl5 ela el5 s1 s2;refine ⟨_,rfl,k,5,rfl,rfl,⟨by decide,by decide⟩,_,_,rfl,rfl,by decide,rfl,_,rfl,yk (fun c=>?_) (fun c=>?_)⟩
  ·refine ⟨_,rfl,_,rfl,_,rfl,b0,.int (m:Int),.ref l,rfl,.inl ⟨kb0,ob0⟩,fun H1 s1=>⟨Y.ex,fun ea hea=>?_⟩⟩;exact ⟨_,rfl,ea,BN,.ref BN,.ref BN,true,_,rfl,rfl,zB,fun _ z=>z,Y.xc,zFE K BN,q _ ((s02.trans s1).trans (zC.upd hea))⟩
  refine ⟨_,rfl,k,5,rfl,rfl,⟨by decide,by decide⟩,_,_,rfl,rfl,by decide,rfl,_,rfl,yk (fun c=>?_) (fun c=>?_)⟩
  ·refine ⟨_,rfl,_,rfl,_,rfl,.int (n:Int),b0,.ref l,rfl,.inr ⟨n,rfl,by omega,.inl ⟨kb0,oc0⟩⟩,fun H1 s1=>⟨Y.ex,fun ea hea=>?_⟩⟩;exact ⟨_,rfl,ea,BN,.ref BN,.ref BN,true,_,rfl,rfl,zB,fun _ z=>z,Y.xc,zFE K BN,q _ ((s02.trans s1).trans (zC.upd hea))⟩
  refine ⟨_,rfl,_,rfl,_,rfl,_,rfl,bs 1,fun p0 hp0=>?_⟩;obtain ⟨G4,g4,s4,ep0⟩:=zBQ hp0 (.lst [b0]);rw [g4];obtain ⟨j,ej,j1⟩: ∃j:Nat,((n:Int)+(m:Int)+(if decide (V.int (k % 5)=V.int 4)=true then 1 else 0)=(j:Int))/\((k % 5=4/\j=n+m+1)\/(k % 5≠4/\j=n+m)):=by
   by_cases hz:k % 5=4
   ·exact ⟨n+m+1,by rw [hz];simp,.inl ⟨hz,rfl⟩⟩
   ·exact ⟨n+m,by simp [hz],.inr ⟨hz,rfl⟩⟩
  have ek:(j:Int).toNat=j:=by omega
  have j12:j<=12:=by omega
  have szj: [b0].length*((j:Int)).toNat<=sizeLine:=by rw [zSQ];simp;omega
  refine ⟨_,rfl,_,rfl,n,m,rfl,rfl,_,rfl,k,5,rfl,rfl,by decide,rfl,.inr ⟨_,rfl,_,_,rfl,rfl,?_⟩⟩;rw [ej];refine ⟨p0,_,_,rfl,rfl,ep0,by omega,by omega,szj,fun pr hpr=>?_⟩;rw [ek,zQD];obtain ⟨G5,g5,s5,epr⟩:=zBQ hpr (.lst (List.replicate j b0));rw [g5];refine ⟨bs 1,fun pq hpq=>?_⟩;obtain ⟨G6,g6,s6,epq⟩:=zBQ hpq (.lst [.ref pr]);rw [g6];have s46:=(s4.trans s5).trans s6;have s06:=s02.trans s46;have la:as.length=Us.length:=Paired.len has;refine ⟨l,pq,_,_,rfl,rfl,s06 _ _ el,epq,by rw [zSQ];simp;omega,fun lz hlz=>?_⟩;obtain ⟨G7,g7,s7,elz⟩:=zBQ hlz (.lst (as.map V.ref++ [.ref pr]));rw [g7];have s07:=s06.trans s7;have epr7:=(s6.trans s7) _ _ epr;have bad:EqB G7 (n+m) (.ref pr) false:=by
   rcases j1 with ⟨_,rfl⟩|⟨hz,rfl⟩
   ·exact .len epr7 (by simp)
   ·have:(List.replicate (n+m) b0).all isW=false:=by
     obtain ⟨c,hc⟩: ∃c,n+m=c+1:=⟨n+m - 1,by omega⟩;rw [hc,List.replicate_succ,List.all_cons,wb0 hz];rfl
    rw [<-this];exact .all epr7 (by simp) fun y hy=>by rw [List.eq_of_mem_replicate hy];exact kb0.sm (s46.trans s7)
  refine ⟨.int (n:Int),.int (m:Int),.ref lz,rfl,.inr ⟨n,rfl,by omega,.inr ⟨m,rfl,by omega,.inr ⟨lz,_,rfl,elz,.inr ⟨by simp;omega,List.replicate as.length true++ [false],Paired.snoc' (zRU (LIs.same has s07) hU) bad,by simp⟩⟩⟩⟩,fun H1 s1=>⟨Y.ex,fun ea hea=>?_⟩⟩;exact ⟨_,rfl,ea,BN,.ref BN,.ref BN,true,_,rfl,rfl,zB,fun _ z=>z,Y.xc,zFE K BN,q _ ((s07.trans s1).trans (zC.upd hea))⟩
theorem zOC{n m b:Nat}{Es:List Eqn}(ok:EqOk n m b Es)(hn:n<=6)(h:Can m Es): ∃st,yN n (whole Es) Es.length 0 Es (yB n m)= .inl st/\Sol n m Es st:=by
 have rs:=zAO ok hn Es 0 _ (Run.start n m b Es) rfl;cases e:yN n (whole Es) Es.length 0 Es (yB n m) with
 | inl st=>rw [e] at rs;exact ⟨st,rfl,Run.all rs⟩
 | inr p=>
  obtain ⟨f,d⟩:=p;rw [e] at rs;obtain ⟨k,hk,C⟩:=rs;obtain ⟨X,hX⟩:=h;exact (zFA C ok.l1 (X k) fun j hj _=>hX _ (zAE hj) k hk).elim
structure LsoOk(n m:Nat)(Es:List Eqn)(st:Stt):Prop where
 r: ∀r∈yp (st.steps.map (·.2)++st.fixed) n,r.length=st.steps.length+m/\Bts 50000000 r
 k:st.steps.length<=6
 e: ∀E∈Es,E.1.length=n/\E.2.length=m/\Bts 50000000 E.1/\zKX st.steps.length m (yp (st.steps.map (·.2)++st.fixed) n) E
theorem zKo{n m b:Nat}{Es:List Eqn}{st:Stt}(e:yN n (whole Es) Es.length 0 Es (yB n m)= .inl st)(S:Sol n m Es st)(ok:EqOk n m b Es)(hb:b<=33)(hn:n<=6):LsoOk n m Es st:=by
 have sm:=zDJ ok hn;rw [e] at sm;have cb:CB b<=50000000:=by unfold CB;omega
 have bb:b<=50000000:=by omega
 have k6:st.steps.length<=6:=zST (zFQ S.ech) hn;refine ⟨fun r hr=>?_,k6,fun E hE=>⟨ok.l1 E hE,ok.l2 E hE,fun i=>(ok.b1 E hE i).mono bb,zMU S hE (ok.l1 E hE)⟩⟩;obtain ⟨i,_,rfl⟩:=zTF.mp hr;refine ⟨by simp [S.fl],fun c=>?_⟩;show Bt 50000000 ((((st.steps.map (·.2)++st.fixed).map fun v=>zA v i)[c]?).getD 0);rw [zSK];cases e2:(st.steps.map (·.2)++st.fixed)[c]? with
 | none=>exact zSU _
 | some v=>exact (sm v (zSj e2) i).mono cb
theorem zJf{K:zSy}{H:Hp}{l kl D:Addr}{Es:List Eqn}{ks:List Nat}{tt:TT}{suf rest:L2.St}{p:Nat->Bool}{Q:VK}(hl:LL H l (zW Es))(hk:zBT H kl ks)(lt: ∀k∈ks,k<Es.length)(h12:ks.length<=100)(hD:H D=none)(hs:suf=some (.ref l)::rest)
  (htt: ∀(k:Nat) H' (R:Bool->Hp->Prop),R (p k) H'->tt ([some (V.int (k:Int))] ++suf) H' R) (q: ∀rs H',zC H H'->H' D=some (.lst (rs.map V.ref))->LIs H' rs (zW (pick Es (ks.filter p)))->Q (.ref D) H'):
  CompInv (Itl K kl) (zAA 0) tt (tCB (fun xs H Q=> ∃p ys,xs= [V.ref p] /\(SqL K H p ys\/SqT K H p ys)/\ ∀l,H l=none->Q (V.ref l) (upd H l (HO.lst ys))) (zDi (tOp (zJr K) (zCU 1) (zCU 0)) zDr)) 1 suf H D Q:=by
 subst hs;obtain ⟨as,el,has⟩:=hl;have la:as.length=Es.length:=by have:=Paired.len has;simpa using this
 refine zV ks.length (fun i ys H'=> ∃rs:List Addr,i<=ks.length/\ys=rs.map V.ref/\LIs H' rs (zW (pick Es ((ks.take i).filter p)))/\rs.length<=i/\D∉rs/\zC H H'/\H' D=some (.lst ys)) ⟨[],zSU _,rfl,.nil,zSJ _,by simp,zC.upd hD,zB⟩ (by rw [zSQ];omega) ?_ ?_ ?_
 ·rintro i ys H1 hi ⟨rs,_,rfl,_,hrl,_,s1,e1⟩;exact ⟨by simp;omega,e1,fun h=>⟨_,_,SqL.of (s1 _ _ hk),zSF (by simpa using h)⟩,fun h=>⟨_,SqL.of (s1 _ _ hk),by simp;omega⟩⟩
 ·rintro i ys H1 x H2 hi ⟨rs,_,rfl,hrs,hrl,hnd,s1,e1⟩ ⟨rfl,hx⟩ pre hpre;obtain ⟨p0,rfl⟩:=yi hpre;have hx':=hx _ (SqL.of (s1 _ _ hk));rw [zSK,zSF hi] at hx';cases hx';have hki:=lt _ (zSk hi);have hka:ks[i] <as.length:=by omega
  obtain ⟨u,eu,hu⟩:=Paired.get' has (zSF hka);rw [zSK,zCR hki] at eu;cases eu;have et:(ks.take (i+1)).filter p=(ks.take i).filter p++(if p ks[i] =true then [ks[i]] else []):=by
   rw [zSc,zSF hi,zTK];show _++ [ks[i]].filter p=_;rw [List.filter_cons,List.filter_nil]
  refine ⟨⟨[some (.int ((ks[i] :Nat):Int))],rfl,rfl⟩,htt ks[i] H2 _ ?_⟩;cases hp:p ks[i] with
  | false=>
   refine yC ⟨rs,hi,rfl,?_,by omega,hnd,s1,e1⟩;rw [et,hp,if_neg (by decide),zSg];exact hrs
  | true=>
   refine zm ?_;refine ⟨_,rfl,_,rfl,l,_,_,_,rfl,rfl,SqL.of (s1 _ _ el),yf (zSK .. |>.trans (by rw [zSF hka];rfl)),as[ks[i]],_,rfl,.inl (SqL.of (hu.same s1)),fun p1 hp1=>?_⟩;have sc:=zC.upd hp1 (o:= .lst (((yU Es ks[i]).1++(yU Es ks[i]).2).map V.int));have hne:p1≠D:=fun z=>by rw [z,e1] at hp1;cases hp1
   refine ⟨sc _ _ e1,rs++ [p1],hi,by simp,?_,by simp;omega,by simp [hnd,Ne.symm hne],zC.store (s1.trans sc) hD,zB⟩;have ew:zW (pick Es ((ks.take i).filter p++ [ks[i]]))=zW (pick Es ((ks.take i).filter p))++ [(yU Es ks[i]).1++(yU Es ks[i]).2] :=by
    rw [pick,zSb,zW,zSb];rfl
   rw [et,hp,if_pos rfl,ew];refine Paired.snoc' (Paired.mapM hrs fun a v hm ea=>?_) ?_
   ·have z:=sc _ _ ea;show L2.upd _ D _ a=_;rw [zI fun y=>hnd (by rw [<-y];exact hm)];exact z
   ·show L2.upd _ D _ p1=_;rw [zI hne];exact zB
 ·rintro ys H1 ⟨rs,_,rfl,hrs,_,_,s1,e1⟩;rw [List.take_of_length_le (zSJ _)] at hrs;exact q rs H1 s1 e1 hrs
def zMs:Sp:=fun vs H Q _=> ∃(l kl:Addr) (n m b:Nat) (Es:List Eqn) (ks:List Nat),vs= [.int (n:Int),.int (m:Int),.ref l,.ref kl] /\LL H l (zW Es)/\zBT H kl ks/\SvOk n m b Es/\b<=33/\m<=3/\ks.length<=12/\(∀k∈ks,k<Es.length)/\(∀k∈ks,Can m (pick Es (ks.filter fun j=>j !=k)))/\ ∀H',zC H H'->Q (.bl true) H'
theorem zKD:FnScope ["_law_unknowns","_law_names","_law_equations_here","_law_kept","_law_at","_law_less","_law_told"] ["_law_unknowns","_law_names","_law_equations_here","_law_kept"] (zG zDl):=⟨rfl,rfl,rfl,by decide+kernel,rfl,by decide+kernel,by decide+kernel⟩
theorem zRc{f fS fSo:Addr}{fd fdS fdSo:FuncData}(F:Fun K "_law_alone" "_law_alone" zDl f fd)(B:Bn mg)
  (FS:Fun K "solved" "solved" zCD fS fdS) (bS:zK K fdS ["unknowns","names","equations"] []) (mS:mg "solved" =some (.ref fS)) (GS:FnOk P w K mg base CX0 38 fS fdS ["unknowns","names","equations"] zDK)
  (FSo:Fun K "_law_solution" "_law_solution" zBH fSo fdSo) (bSo:zK K fdSo ["_law_unknowns","_law_names","_law_equations_here","_law_told"] []) (mSo:mg "_law_solution" =some (.ref fSo)) (GSo:FnOk P w K mg base CX0 3 fSo fdSo ["_law_unknowns","_law_names","_law_equations_here","_law_told"] zHM):FnOk P w K mg base CX0 39 f fd ["_law_unknowns","_law_names","_law_equations_here","_law_kept"] zMs:=by
 refine F.ok zKD (fun vs H Q E h=>?_) (fun cdv A outer s H vs Q E hr38 h=>?_)
 ·obtain ⟨l,kl,n,m,b,Es,ks,rfl,_⟩:=h;rfl
 ·obtain ⟨l,kl,n,m,b,Es,ks,rfl,hl,hk,sv,hb,m3,k12,lt,can,q⟩:=h;have hr3:Room 3 _:=hr38.mono (by decide);have nn:=sv.nn;refine ⟨_,QB.out (zE
   (zAd PassesOwn.never rfl (zn (K:=K) rfl (qw 3 rfl)) (zM 4 zKD.nd rfl (Or.inr rfl) (.inl rfl)) (zE
    (zBE zAN 5 (by exact zKD.nd) rfl (Or.inl rfl) (.inr rfl) ["_law_k"] ["_law_equations_here","_law_at"] [2,4] rfl (zn (K:=K) rfl (qw 3 rfl)) rfl (by decide+kernel) rfl (by decide+kernel) (zc rfl (zc rfl lk0)) rfl (fr2 ⟨rfl,rfl,rfl,_,rfl,rfl⟩ ⟨rfl,rfl,rfl,_,rfl,rfl⟩) (zQ rfl) (fun _ _ _ _=>(zM 0 (show (["_law_k","_law_equations_here","_law_at"] :List Str).Nodup by decide+kernel) rfl (.inl rfl) (.inr rfl))) (fun _ _ _ _=>(zCP (zU yy (qw 0 rfl) (qx 2 rfl) rfl))) (fun C s₂ H₂ fp xe E hp=>(zCV (zBv (K:=K) rfl) rfl B.list zAX (qc (yw (K:=K) rfl (qx 1 rfl) (qw 0 rfl) (fun _ _=>rfl)) zD rfl) rfl)) (fun _=>rfl) rfl) (zE
    (zT 6 zKD.nd rfl (zJ GS hr38 rfl mS FS.kp bS .nil zL (qc (qw 0 rfl) (qc (qw 1 rfl) (qc (qw 5 rfl) zD rfl) rfl) rfl) rfl rfl rfl) rfl) (zH
    (zq (t_w (zAa (zU yy (zx (K:=K) rfl (qw 6 rfl) zF (fun _ _=>rfl)) zBt rfl) (zAy (ya (yZ (zJ GSo hr3 rfl mSo FSo.kp bSo .nil zL (qc (qw 0 rfl) (qc (qw 1 rfl) (qc (qw 5 rfl) (qc (qw 6 rfl) zD rfl) rfl) rfl) rfl) rfl rfl rfl) (fun _=>rfl)))))) (zH
     (zO zAD)) zf)))) (fun _=>rfl)) (zH
   (zO zAD))),?_⟩
  refine ⟨_,rfl,kl,rfl,⟨_,SqL.of hk⟩,?_⟩;refine zAH ks.length (fun i σ H'=> ∃s4 s5 s6:Option V,σ= [some (.int (n:Int)),some (.int (m:Int)),some (.ref l),some (.ref kl),s4,s5,s6] /\zC H H') ⟨none,none,none,rfl,zC.refl H⟩ ?_ ?_ ?_ ?_
  ·rintro i σ H' hi ⟨s4,s5,s6,rfl,s1⟩;exact ⟨_,_,SqL.of (s1 _ _ hk),zSF (by simpa using hi)⟩
  ·rintro σ H' ⟨s4,s5,s6,rfl,s1⟩;exact ⟨_,SqL.of (s1 _ _ hk),by simp⟩
  ·rintro i σ H' y H1 hi ⟨s4,s5,s6,rfl,s1⟩ ⟨rfl,hy⟩;have hy':=hy _ (SqL.of (s1 _ _ hk));rw [zSK,zSF hi] at hy';cases hy';have hmk:=zSk hi;have flt: ∀k∈ks.filter (fun j=>j !=ks[i]),k<Es.length:=fun k h=>lt k (zTM.mp h).1;have fle:(ks.filter fun j=>j !=ks[i]).length<=12:=zST (zTO _ _) k12;have svp:=zEN sv flt fle;obtain ⟨st,erun,S⟩:=zOC svp.ok nn (can _ hmk);have lp:(pick Es (ks.filter fun j=>j !=ks[i])).length<=12:=svp.le;refine ⟨_,rfl,kl,rfl,⟨_,SqL.of (s1 _ _ hk)⟩,fun D hD=>?_⟩;refine zJf (p:=fun j=>j !=ks[i]) (hl.same s1) (s1 _ _ hk) lt (by omega) hD rfl (fun k H2 R hR=>⟨_,rfl,_,rfl,rfl,_,rfl,?_⟩) fun rs H2 s2 e2 hrs=>?_
   ·have:(!decide (V.int ((k:Nat):Int)=V.int ((ks[i] :Nat):Int)))=(k !=ks[i]):=by
     by_cases hz:k=ks[i]
     ·simp [hz]
     ·have: ¬(k:Int)=(ks[i] :Nat):=by omega
      simp [hz,this]
    rw [this];exact hR
   refine ⟨_,rfl,_,rfl,_,rfl,D,n,m,b,pick Es (ks.filter fun j=>j !=ks[i]),rfl,⟨rs,e2,hrs⟩,svp,by omega,?_⟩;unfold zAz;rw [erun];intro t r H3 s3 et _ hR;refine ⟨_,rfl,t,_,_,_,rfl,rfl,SqT.of et,rfl,rfl,_,rfl,yC ?_⟩;have ls:=zKo erun S svp.ok hb nn;have lk:=ls.k;exact ⟨_,rfl,_,rfl,_,rfl,_,rfl,D,t,r,n,m,st.steps.length,_,_,rfl,et,hR,LL.same ⟨rs,e2,hrs⟩ s3,zDL,ls.r,by omega,by omega,by omega,ls.e,fun H4 s4=>⟨_,rfl,yC ⟨_,_,_,rfl,((s1.trans s2).trans s3).trans s4⟩⟩⟩
  rintro σ H' ⟨s4,s5,s6,rfl,s1⟩;exact q H' s1
theorem zPi:bootBuiltins "set" =some (.type "set"):=by decide+kernel
theorem zLr:bootBuiltins "sorted" =some (.builtin "sorted"):=by decide+kernel
theorem zPp{n m k:Nat}{Es:List Eqn}{us ks:List Nat}{f2:Vec}{d2:Int}(F:Few m Es [] us ks)(l1: ∀E∈Es,E.1.length=n)(hlt: ∀k∈ks,k<Es.length)(up:ks.Pairwise (· < ·))(C:Clash n k (pick Es ks).length (whole (pick Es ks)) f2 d2)(hk:k<m): ∀j,j<ks.length-> ¬d2∣zA f2 j:=by
 intro j0 h0 hd;obtain ⟨X,hX⟩:=F.all ks[j0] (zSk h0);refine zFA C (fun E hE=>?_) (X k) fun j hj hn=>?_
 ·obtain ⟨q,hq,rfl⟩:=zAi.mp hE;exact l1 _ (zAE (hlt q hq))
 ·have hj':j<ks.length:=by simpa [pick] using hj
  have e:yU (pick Es ks) j=yU Es ks[j] :=by
   unfold yU pick;rw [zSK,zSF hj'];rfl
  have ne:j≠j0:=fun z=>hn (by rw [z];exact hd);have nk:ks[j] ≠ks[j0] :=fun z=>by
   rcases Nat.lt_or_gt_of_ne ne with y | y
   ·have:=List.pairwise_iff_getElem.mp up j j0 hj' h0 y;omega
   ·have:=List.pairwise_iff_getElem.mp up j0 j h0 hj' y;omega
  rw [e];refine hX _ ?_ k hk;rw [List.nil_append];refine zAi.mpr ⟨ks[j],zTM.mpr ⟨zSk hj',?_⟩,rfl⟩;simpa using nk
theorem zLj{n m:Nat}{Es:List Eqn}{f:Vec}(u:Used n m Es f)(hl:Es.length<=7){ks:List Nat}(h:ks.Sublist (zAP f)):Rise ks:=by
 refine ⟨?_,fun k hk=>zSO (u.lt k (h.subset hk)) hl⟩;refine List.Pairwise.sublist h ?_;unfold zAP;exact List.Pairwise.filter _ List.pairwise_lt_range
def zMM:Sp:=fun vs H Q _=> ∃(l t kl fl:Addr) (n m b:Nat) (Es:List Eqn) (us ks:List Nat) (f2:Vec) (d2:Int),vs= [.int (n:Int),.int (m:Int),.ref l,.ref t] /\LL H l (zW Es)/\H t=some (.tup [.ref kl,.ref fl,.int d2])/\zBT H kl ks/\LI H fl f2/\SvOk n m b Es/\b<=33/\m<=3/\Rise ks/\(∀k∈ks,k<Es.length)/\Few m Es [] us ks/\
 yN n (whole (pick Es ks)) (pick Es ks).length 0 (pick Es ks) (yB n m)= .inr (f2,d2)/\ ∀H',zC H H'->Q (.bl true) H'
theorem zIW:FnScope ["_law_unknowns","_law_names","_law_equations_here","_law_found","_law_kept","_law_factors","_law_modulus","_law_some"] ["_law_unknowns","_law_names","_law_equations_here","_law_found"] (zG zDn):=⟨rfl,rfl,rfl,by decide+kernel,rfl,by decide+kernel,by decide+kernel⟩
theorem zRf{f fWs fC fA:Addr}{fd fdWs fdC fdA:FuncData}(F:Fun K "_law_right" "_law_right" zDn f fd)(B:Bn mg)
  (FWs:Fun K "_law_wholes" "_law_wholes" zBd fWs fdWs) (bWs:zK K fdWs ["_law_found","_law_size"] []) (mWs:mg "_law_wholes" =some (.ref fWs)) (GWs:FnOk P w K mg base CX0 2 fWs fdWs ["_law_found","_law_size"] zFx)
  (FC:Fun K "_law_clash" "_law_clash" zEB fC fdC) (bC:zK K fdC ["_law_unknowns","_law_names","_law_equations_here","_law_told"] []) (mC:mg "_law_clash" =some (.ref fC)) (GC:FnOk P w K mg base CX0 3 fC fdC ["_law_unknowns","_law_names","_law_equations_here","_law_told"] zMv)
  (FA:Fun K "_law_alone" "_law_alone" zDl fA fdA) (bA:zK K fdA ["_law_unknowns","_law_names","_law_equations_here","_law_kept"] []) (mA:mg "_law_alone" =some (.ref fA)) (GA:FnOk P w K mg base CX0 39 fA fdA ["_law_unknowns","_law_names","_law_equations_here","_law_kept"] zMs):FnOk P w K mg base CX0 40 f fd ["_law_unknowns","_law_names","_law_equations_here","_law_found"] zMM:=by
 refine F.ok zIW (fun vs H Q E h=>?_) (fun cdv A outer s H vs Q E hr39 h=>?_)
 ·obtain ⟨l,t,kl,fl,n,m,b,Es,us,ks,f2,d2,rfl,_⟩:=h;rfl
 ·obtain ⟨l,t,kl,fl,n,m,b,Es,us,ks,f2,d2,rfl,hl,et,hk,hf,sv,hb,m3,ri,lt,few,erun,q⟩:=h;have hr3:Room 3 _:=hr39.mono (by decide);have hr2:Room 2 _:=hr39.mono (by decide);have huN:=Nat.lt_of_succ_lt (zGF hr39);have nn:=sv.nn;have l12:=sv.le;have k7:=ri.len;have svp:=zEN sv lt (by omega);have sm:=zDJ svp.ok nn;have rs:=zAO svp.ok nn (pick Es ks) 0 _ (Run.start n m b (pick Es ks)) rfl;rw [erun] at sm rs;obtain ⟨k,hkm,C⟩:=rs;have cb:CB b<=50000000:=by unfold CB;omega
  have bb:b<=50000000:=by omega
  have fn:=zPp few sv.ok.l1 lt ri.up C hkm;have lp:(pick Es ks).length=ks.length:=by simp [pick]
  have lf:f2.length=ks.length:=by rw [C.fl,lp]
  refine ⟨_,QB.out (zE
   (zq (t_w (zAa (ya (yZ (zt (yc (K:=K) rfl) rfl B.isi zk (qc (qw 3 rfl) (qc (zAr (v:= .ty "tuple") rfl B.tuple zEs rfl (by decide) rfl) zD rfl) rfl) rfl) (fun _=>rfl))) (zAa (zU yy (zt (zr (K:=K) rfl) rfl B.len yQ (qc (qw 3 rfl) zD rfl) rfl) zF rfl) (zAy (ya (yZ (zJ GWs hr2 rfl mWs FWs.kp bWs .nil zL (qc (zx (K:=K) rfl (qw 3 rfl) zF (fun _ _=>rfl)) (qc (zt (zr (K:=K) rfl) rfl B.len yQ (qc (zx (K:=K) rfl (qw 3 rfl) zF (fun _ _=>rfl)) zD rfl) rfl) zD rfl) rfl) rfl rfl rfl) (fun _=>rfl))))))) (zH
    (zO zAD)) zf) (zE
   (zNT (qw 3 rfl) (zBO (K:=K) rfl rfl (yK (zM 4 zIW.nd rfl (Or.inl rfl) (.inr rfl)) (yK (zM 5 zIW.nd rfl (Or.inl rfl) (.inr rfl)) (yK (zM 6 zIW.nd rfl (Or.inr rfl) (.inl rfl)) zBW rfl) rfl) rfl) rfl rfl) rfl rfl rfl) (zE
   (zq (t_w (zAa (zU (zOy (K:=K) rfl huN) (qw 4 rfl) (zt (zHC (P:=P) (w:=w) rfl rfl rfl) rfl B.sorted zLr (qc (zCV (zKb (P:=P) (w:=w) rfl rfl rfl) rfl B.set zPi (qc (qw 4 rfl) zD rfl) rfl) zD rfl) rfl) rfl) (zAy (zU (zCL huN) (zj ["_law_k"] ["_law_equations_here"] [2] rfl (zn (K:=K) rfl (qw 4 rfl)) rfl (by decide+kernel) rfl (by decide+kernel) (zc rfl lk0) rfl (fr1 ⟨rfl,rfl,rfl,_,rfl,rfl⟩) (zQ rfl) (fun _ _ _ _=>(zM 0 (show (["_law_k","_law_equations_here"] :List Str).Nodup by decide+kernel) rfl (.inl rfl) (.inr rfl))) (fun _ _ _ _=>(zCP (ya (zOb zRP zEO zF (qw 0 rfl) (zt (zr (K:=K) rfl) rfl B.len yQ (qc (qx 1 rfl) zD rfl) rfl) rfl)))) (fun _ _ _ _=>(qw 0 rfl)) (fun _=>rfl)) (zAB zD) rfl)))) (zH
    (zO zAD)) zf) (zE
   (zBE zAN 7 (by exact zIW.nd) rfl (Or.inl rfl) (.inr rfl) ["_law_k"] ["_law_equations_here"] [2] rfl (zn (K:=K) rfl (qw 4 rfl)) rfl (by decide+kernel) rfl (by decide+kernel) (zc rfl lk0) rfl (fr1 ⟨rfl,rfl,rfl,_,rfl,rfl⟩) (zQ rfl) (fun _ _ _ _=>(zM 0 (show (["_law_k","_law_equations_here"] :List Str).Nodup by decide+kernel) rfl (.inl rfl) (.inr rfl))) (fun _ _ _ _=>zo) (fun C s₂ H₂ fp xe E hp=>(zCV (zBv (K:=K) rfl) rfl B.list zAX (qc (yw (K:=K) rfl (qx 1 rfl) (qw 0 rfl) (fun _ _=>rfl)) zD rfl) rfl)) (fun _=>rfl) rfl) (zE
   (zq (ya (yZ (zJ GC hr3 rfl mC FC.kp bC .nil zL (qc (qw 0 rfl) (qc (qw 1 rfl) (qc (qw 7 rfl) (qc (zBw (qc zBt (qc (qw 5 rfl) (qc (qx 6 rfl) zD rfl) rfl) rfl)) zD rfl) rfl) rfl) rfl) rfl rfl rfl) (fun _=>rfl))) (zH
    (zO zAD)) zf) (zE
   (zq (zU (zCL huN) (zj ["_law_one"] ["_law_modulus"] [6] rfl (zn (K:=K) rfl (qw 5 rfl)) rfl (by decide+kernel) rfl (by decide+kernel) (zc rfl lk0) rfl (fr1 ⟨rfl,rfl,rfl,_,rfl,rfl⟩) (zQ rfl) (fun _ _ _ _=>(zM 0 (show (["_law_one","_law_modulus"] :List Str).Nodup by decide+kernel) rfl (.inl rfl) (.inr rfl))) (fun _ _ _ _=>(zCP (t_w (zAa (zU yb (qw 0 rfl) zF rfl) (zAy (t_w (zER (zU zAb (qx 1 rfl) zF rfl) (zDD (zU yb (yY (qw 0 rfl) (qx 1 rfl)) zF rfl))))))))) (fun _ _ _ _=>(qw 0 rfl)) (fun _=>rfl)) (zAB zD) rfl) (zH
    (zO zAD)) zf) (zH
   (zO (zJ GA hr39 rfl mA FA.kp bA .nil zL (qc (qw 0 rfl) (qc (qw 1 rfl) (qc (qx 2 rfl) (qc (qw 4 rfl) zD rfl) rfl) rfl) rfl) rfl rfl rfl))))))))),?_⟩
  refine ⟨_,rfl,_,.ty "tuple",_,.type "tuple",_,rfl,rfl,.tup et,zBo K,_,rfl,yC ?_⟩;refine ⟨_,rfl,t,_,rfl,.inr (SqT.of et),rfl,_,rfl,yC ?_⟩;refine ⟨_,rfl,t,_,_,_,rfl,rfl,SqT.of et,rfl,_,rfl,t,_,_,_,rfl,rfl,SqT.of et,rfl,kl,_,rfl,.inl (SqL.of hk),?_⟩;rw [zSM];refine ⟨kl,ks.map fun (k:Nat)=>(k:Int),ks.length,rfl,by show H kl=_;rw [hk,List.map_map];rfl,by simp,by omega,fun H1 s1=>⟨_,rfl,yC ?_⟩⟩;refine ⟨_,rfl,t,_,rfl,SqT.of (s1 _ _ et),rfl,_,_,rfl,_,_,rfl,_,_,rfl,rfl,?_⟩;have hk1:=s1 _ _ hk;refine ⟨_,rfl,_,rfl,kl,ks,rfl,.of hk1,ri,fun b2 hb2=>⟨b2,ks,rfl,zB,ri,fun sl hsl=>?_⟩⟩;have sb2:=zC.upd hb2 (o:=zFO P w b2 ks);have ssl:=zC.upd hsl (o:= .lst (ks.map fun (k:Nat)=>V.int (k:Int)));refine ⟨kl,sl,_,rfl,rfl,SqL.of ((sb2.trans ssl) _ _ hk1),SqL.of zB,fun x hx=>?_,_,rfl,yC ?_⟩
  ·obtain ⟨k,_,rfl⟩:=zTF.mp hx;rfl
  have s3:=s1.trans (sb2.trans ssl);generalize L2.upd (L2.upd H1 b2 (zFO P w b2 ks)) sl (.lst (ks.map fun (k:Nat)=>V.int (k:Int)))=H3 at s3⊢;have hk3:=s3 _ _ hk;have hl3:=hl.same s3;clear s1 hk1 sb2 ssl hb2 hsl;obtain ⟨as,el3,has3⟩:=hl3;have la:as.length=Es.length:=by have:=Paired.len has3;simpa using this
  refine ⟨_,rfl,kl,rfl,⟨_,SqL.of hk3⟩,fun D hD=>?_⟩;refine zV ks.length (fun i ys H'=>i<=ks.length/\ys= [] /\H'=L2.upd H3 D (.lst [])) ⟨zSU _,rfl,rfl⟩ (by rw [zSQ];omega) ?_ ?_ ?_
  ·rintro i ys H4 hi ⟨_,rfl,rfl⟩;have e2:=zC.upd hD (o:= .lst []) _ _ hk3;exact ⟨zSU _,zB,fun h=>⟨_,_,SqL.of e2,zSF (by simpa using h)⟩,fun h=>⟨_,SqL.of e2,by simp;omega⟩⟩
  ·rintro i ys H4 x H5 hi ⟨_,rfl,rfl⟩ ⟨rfl,hx⟩ pre hpre;obtain ⟨p0,rfl⟩:=yi hpre;have e2:=zC.upd hD (o:= .lst []);have hx':=hx _ (SqL.of (e2 _ _ hk3));rw [zSK,zSF hi] at hx';cases hx';have hki:=lt _ (zSk hi);refine ⟨⟨[some (.int ((ks[i] :Nat):Int))],rfl,rfl⟩,?_⟩;refine ⟨_,rfl,_,_,rfl,rfl,true,congrArg V.bl (zSd (by omega)),zm ?_⟩;refine ⟨_,rfl,l,_,rfl,.inl (SqL.of (e2 _ _ el3)),_,_,rfl,rfl,true,congrArg V.bl (zSd ?_),yC ⟨hi,rfl,rfl⟩⟩;rw [zSM];omega
  rintro ys H4 ⟨_,rfl,rfl⟩;refine ⟨bs 0,fun p5 hp5=>⟨D,p5,[],rfl,rfl,SqL.of (zC.upd hp5 _ _ zB),SqL.of zB,_,rfl,yC ?_⟩⟩;have s5:=s3.trans ((zC.upd hD (o:= .lst [])).trans (zC.upd hp5 (o:= .lst [])));generalize L2.upd (L2.upd H3 D (.lst [])) p5 (.lst [])=H5 at s5⊢;clear has3 el3 hk3 s3 hD hp5;have hk5:=s5 _ _ hk;refine ⟨_,rfl,kl,rfl,⟨_,SqL.of hk5⟩,fun D6 hD6=>zJf (p:=fun _=>true) (hl.same s5) hk5 lt (by omega) hD6 rfl (fun k H' R hR=>hR) fun rs H6 s6 e6 hrs=>?_⟩;rw [List.filter_eq_self.mpr fun _ _=>rfl] at hrs;have s06:=s5.trans s6;obtain ⟨lf',d0,d1,z0,z1⟩:=zLC C hkm;refine ⟨_,rfl,_,rfl,_,rfl,_,rfl,_,rfl,bs 3,fun t7 ht7=>?_⟩;have s7:=zC.upd ht7 (o:= .tup [.str "clash",.ref fl,.int d2]);refine ⟨D6,t7,fl,n,m,d2,f2,_,rfl,zB,hf.same (s06.trans s7),LL.same ⟨rs,e6,hrs⟩ s7,lf',fun u hu=>?_,by omega,by rw [zW,zSM];omega,fun i=>(sm.1 i).mono cb,d0,d1,z0,z1,fun H8 s8=>⟨_,rfl,yC ?_⟩⟩
  ·obtain ⟨E,hE,rfl⟩:=zTF.mp hu;exact ⟨by rw [zSh,svp.ok.l1 E hE,svp.ok.l2 E hE],zEX (fun i=>(svp.ok.b1 E hE i).mono bb) fun i=>(svp.ok.b2 E hE i).mono bb⟩
  have s08:=(s06.trans s7).trans s8;have hf8:=hf.same s08;refine ⟨_,rfl,fl,rfl,⟨_,SqL.of hf8⟩,fun D9 hD9=>?_⟩;refine zV f2.length (fun i ys H'=>i<=f2.length/\ys= [] /\H'=L2.upd H8 D9 (.lst [])) ⟨zSU _,rfl,rfl⟩ (by rw [zSQ];omega) ?_ ?_ ?_
  ·rintro i ys H4 hi ⟨_,rfl,rfl⟩;have e2:=hf8.same (zC.upd hD9 (o:= .lst []));exact ⟨zSU _,zB,fun h=>⟨_,_,SqL.of e2,zZ h⟩,fun h=>⟨_,SqL.of e2,by simp;omega⟩⟩
  ·rintro i ys H4 x H5' hi ⟨_,rfl,rfl⟩ ⟨rfl,hx⟩ pre hpre;obtain ⟨p0,rfl⟩:=yi hpre;have hx':=hx _ (SqL.of (hf8.same (zC.upd hD9 (o:= .lst []))));rw [zZ hi] at hx';cases hx';have fni:=fn i (by omega);refine ⟨⟨[some (.int (zA f2 i))],rfl,rfl⟩,?_⟩;refine ⟨_,rfl,rfl,false,congrArg V.bl (zSf fun z=>fni ?_),yC ?_⟩
   ·injection z with z;rw [z];exact Int.dvd_zero _
   refine ⟨_,rfl,_,_,rfl,rfl,_,rfl,yk (fun c=>?_) (fun c=>?_)⟩
   ·have c':0<d2:=by simpa using c
    refine ⟨_,rfl,_,rfl,_,_,rfl,rfl,c',rfl,false,congrArg V.bl (zSf fun z=>fni ?_),yC ⟨hi,rfl,rfl⟩⟩;injection z with z;exact Int.dvd_of_emod_eq_zero z
   ·exact yC ⟨hi,rfl,rfl⟩
  rintro ys H9 ⟨_,rfl,rfl⟩;refine ⟨bs 0,fun pa hpa=>⟨D9,pa,[],rfl,rfl,SqL.of (zC.upd hpa _ _ zB),SqL.of zB,_,rfl,yC ?_⟩⟩;have s0a:=s08.trans ((zC.upd hD9 (o:= .lst [])).trans (zC.upd hpa (o:= .lst [])));exact ⟨_,rfl,_,rfl,_,rfl,_,rfl,l,kl,n,m,b,Es,ks,rfl,hl.same s0a,s0a _ _ hk,sv,hb,m3,by omega,lt,few.all,fun H' s'=>q _ (s0a.trans s')⟩
theorem zPu{A:Around}{k:Nat}(hr:Room k A):A.units+11<cLine:=zSW (Nat.add_le_add_left (by decide:11<=64) _) hr.units
def zHj(n m:Nat)(Es:List Eqn)(H H':Hp)(v:V):Prop:=match yN n (whole Es) Es.length 0 Es (yB n m) with
 | .inl _=>v= .non
 | .inr (f,_)=> ∃(t kl fl:Addr) (f2:Vec) (d2:Int),v= .ref t/\yN n (whole (pick Es (yA n m Es f))) (pick Es (yA n m Es f)).length 0 (pick Es (yA n m Es f)) (yB n m)= .inr (f2,d2)/\H' t=some (.tup [.ref kl,.ref fl,.int d2])/\zBT H' kl (yA n m Es f)/\LI H' fl f2/\H kl=none/\H fl=none/\kl≠fl
theorem zIZ{H:Hp}{Q:VK}{n m:Nat}{Es:List Eqn}(k: ∀v H',zC H H'->zHj n m Es H H' v->Q v H'):zDa H Q n m Es:=by
 unfold zDa;unfold zHj at k;cases e:yN n (whole Es) Es.length 0 Es (yB n m) with
 | inl st=>rw [e] at k;exact fun H' s=>k _ _ s rfl
 | inr p=>
  rw [e] at k;exact fun f2 d2 e2 t kl fl H' s et h1 h2 n1 n2 ne=>k _ _ s ⟨t,kl,fl,f2,d2,rfl,e2,et,h1,h2,n1,n2,ne⟩
def zBs(ks:List Nat):Vec:=ks.map fun (k:Nat)=>(k:Int)
theorem zBT.li{H:Hp}{a:Addr}{ks:List Nat}(h:zBT H a ks):LI H a (zBs ks):=by
 show H a=some (.lst ((ks.map fun (k:Nat)=>(k:Int)).map V.int));rw [List.map_map];exact h
def zKZ(v f:Vec)(d:Int):PyData:= .tuple [zNE v,zNE f,.int d]
theorem zOG{H:Hp}{t r s:Addr}{v f:Vec}{d:Int}(et:H t=some (.tup [.ref r,.ref s,.int d]))(hv:LI H r v)(hf:LI H s f)(bv:Bts 1900 v)(bf:Bts 1900 f)(bd:Bt 1900 d)(lv:v.length<=400)(lf:f.length<=400):StrA H (.ref t) (zKZ v f d).shown:=by
 refine zPr (n:=3) (w:=920) (.inr ⟨_,_,rfl,et,.cons (zIw hv) (.cons (zIw hf) (.cons rfl .nil))⟩) ?_ (by decide);have:=zQv (zEK (zIq (zGe bv)) (zEK (zIq (zGe bf)) (zEK ((zLi bd).mono (zSJ _) (zSU 1)) (zLP 1))));exact this.mono (by omega) (by decide)
theorem zMm{ks:List Nat}(h: ∀k∈ks,k<12):Bts 1900 (zBs ks):=fun i=>by
 have:(zA (zBs ks) i).natAbs<=12:=by
  show (((zBs ks)[i]?).getD 0).natAbs<=12;unfold zBs;rw [zSK];cases e:ks[i]? with
  | none=>exact zSU _
  | some k=>
   have:=h k (zSj e);show ((k:Int)).natAbs<=12;omega
 exact zST this (zST (show 12<=2^4 by decide) (Nat.pow_le_pow_right (by decide) (by decide)))
def zHI(K:zSy):Sp:=fun vs H Q _=> ∃(a:Addr) (ns:List Int),vs= [.ref a] /\SqL K H a (ns.map V.int)/\ns.length<=63/\ ∀H',Q (.bl true) H'
theorem zBM:FnScope ["_law_script","_law_number_here","_law_unknowns","_law_names","_law_spot","_law_equations_here","_law_handed","_law_found","_law_told","_law_kept","_law_again"] ["_law_script"] (zG zFF):=⟨rfl,rfl,rfl,by decide+kernel,rfl,by decide+kernel,by decide+kernel⟩
theorem zPo{f fN fE fD fR fF fS fSo fRi:Addr}{fd fdN fdE fdD fdR fdF fdS fdSo fdRi:FuncData}(F:Fun K "law" "law" zFF f fd)(B:Bn mg)
  (FN:Fun K "_law_number" "_law_number" zFJ fN fdN) (bN:zK K fdN ["_law_script","_law_k"] []) (mN:mg "_law_number" =some (.ref fN)) (GN:FnOk P w K mg base CX0 2 fN fdN ["_law_script","_law_k"] (zGH K))
  (FE:Fun K "_law_equations" "_law_equations" zIG fE fdE) (bE:zK K fdE ["_law_script","_law_spot","_law_unknowns","_law_names","_law_most"] []) (mE:mg "_law_equations" =some (.ref fE)) (GE:FnOk P w K mg base CX0 4 fE fdE ["_law_script","_law_spot","_law_unknowns","_law_names","_law_most"] (zMi K))
  (FD:Fun K "_law_drawn" "_law_drawn" zCp fD fdD) (bD:zK K fdD ["_law_script","_law_spot","_law_size","_law_most"] []) (mD:mg "_law_drawn" =some (.ref fD)) (GD:FnOk P w K mg base CX0 3 fD fdD ["_law_script","_law_spot","_law_size","_law_most"] (zKM K))
  (FR:Fun K "_law_refused" "_law_refused" zCS fR fdR) (bR:zK K fdR ["_law_number_here","_law_unknowns","_law_names","_law_equations_here"] []) (mR:mg "_law_refused" =some (.ref fR)) (GR:FnOk P w K mg base CX0 53 fR fdR ["_law_number_here","_law_unknowns","_law_names","_law_equations_here"] zJq)
  (FF:Fun K "fewest" "fewest" zEr fF fdF) (bF:zK K fdF ["unknowns","names","equations"] []) (mF:mg "fewest" =some (.ref fF)) (GF:FnOk P w K mg base CX0 52 fF fdF ["unknowns","names","equations"] zKR)
  (FS:Fun K "solved" "solved" zCD fS fdS) (bS:zK K fdS ["unknowns","names","equations"] []) (mS:mg "solved" =some (.ref fS)) (GS:FnOk P w K mg base CX0 38 fS fdS ["unknowns","names","equations"] zDK)
  (FSo:Fun K "_law_solution" "_law_solution" zBH fSo fdSo) (bSo:zK K fdSo ["_law_unknowns","_law_names","_law_equations_here","_law_told"] []) (mSo:mg "_law_solution" =some (.ref fSo)) (GSo:FnOk P w K mg base CX0 3 fSo fdSo ["_law_unknowns","_law_names","_law_equations_here","_law_told"] zHM)
  (FRi:Fun K "_law_right" "_law_right" zDn fRi fdRi) (bRi:zK K fdRi ["_law_unknowns","_law_names","_law_equations_here","_law_found"] []) (mRi:mg "_law_right" =some (.ref fRi)) (GRi:FnOk P w K mg base CX0 40 fRi fdRi ["_law_unknowns","_law_names","_law_equations_here","_law_found"] zMM):FnOk P w K mg base CX0 54 f fd ["_law_script"] (zHI K):=by
 refine F.ok zBM (fun vs H Q E h=>?_) (fun cdv A outer s H vs Q E hr53 h=>?_)
 ·obtain ⟨a,ns,rfl,_⟩:=h;rfl
 ·obtain ⟨a,ns,rfl,ha,hns,q⟩:=h;have hr52:Room 52 _:=hr53.mono (by decide);have hr40:Room 40 _:=hr53.mono (by decide);have hr38:Room 38 _:=hr53.mono (by decide);have hr4:Room 4 _:=hr53.mono (by decide);have hr3:Room 3 _:=hr53.mono (by decide);have hr2:Room 2 _:=hr53.mono (by decide);have huL:=zGF hr53;have hu8:=zPu hr53;have hg:=hr53.gd;refine ⟨_,QB.out (zE
   (zT 1 zBM.nd rfl (zJ GN hr2 rfl mN FN.kp bN .nil zL (qc (qw 0 rfl) (qc zF zD rfl) rfl) rfl rfl rfl) rfl) (zE
   (zT 2 zBM.nd rfl (yY (qw 1 rfl) zF) rfl) (zE
   (zT 3 zBM.nd rfl (yu zF (yY (zAm (qw 1 rfl) zF) zF)) rfl) (zE
   (zT 4 zBM.nd rfl (zAB (qc zF zD rfl)) rfl) (zE
   (zT 5 zBM.nd rfl (zEH (zJ GE hr4 rfl mE FE.kp bE .nil zL (qc (qw 0 rfl) (qc (qw 4 rfl) (qc (qw 2 rfl) (qc (qw 3 rfl) (qc zF zD rfl) rfl) rfl) rfl) rfl) rfl rfl rfl) (zAB (qc (zJ GD hr3 rfl mD FD.kp bD .nil zL (qc (qw 0 rfl) (qc (qw 4 rfl) (qc (yu (qw 2 rfl) (qw 3 rfl)) (qc zF zD rfl) rfl) rfl) rfl) rfl rfl rfl) zD rfl))) rfl) (zE
   (zq (ya (yZ (zJ GR hr53 rfl mR FR.kp bR .nil zL (qc (zJ GN hr2 rfl mN FN.kp bN .nil zL (qc (qw 0 rfl) (qc zF zD rfl) rfl) rfl rfl rfl) (qc (qw 2 rfl) (qc (qw 3 rfl) (qc (qw 5 rfl) zD rfl) rfl) rfl) rfl) rfl rfl rfl) (fun _=>rfl))) (zH
    (zO zAD)) zf) (zE
   (zBE (cl:= []) zAN 6 (by exact zBM.nd) rfl (Or.inl rfl) (.inr rfl) ["_law_row"] [] [] rfl (zn (K:=K) rfl (qw 5 rfl)) rfl (by decide+kernel) rfl (by decide+kernel) (fun _ _ h=>nomatch h) rfl (fun j y i h=>nomatch h) (zQ rfl) (fun _ _ _ _=>(zM 0 (show (["_law_row"] :List Str).Nodup by decide+kernel) rfl (.inl rfl) (.inr rfl))) (fun _ _ _ _=>zo) (fun C s₂ H₂ fp xe E hp=>(zCV (zBv (K:=K) rfl) rfl B.list zAX (qc (qw 0 rfl) zD rfl) rfl)) (fun _=>rfl) rfl) (zE
   (zT 7 zBM.nd rfl (zJ GF hr52 rfl mF FF.kp bF .nil zL (qc (qw 2 rfl) (qc (qw 3 rfl) (qc (qw 6 rfl) zD rfl) rfl) rfl) rfl rfl rfl) rfl) (zE
   (zq (zU (zOS (K:=K) rfl huL) (qw 6 rfl) (qw 5 rfl) rfl) (zH
    (zO zAD)) zf) (zE
   (zq (zNe (qw 7 rfl) rfl) (zE
    (zT 8 zBM.nd rfl (zJ GS hr38 rfl mS FS.kp bS .nil zL (qc (qw 2 rfl) (qc (qw 3 rfl) (qc (qw 6 rfl) zD rfl) rfl) rfl) rfl rfl rfl) rfl) (zH
    (zO (zFV (zCa yb (zx (K:=K) rfl (qw 8 rfl) zF (fun _ _=>rfl)) zBt rfl) (zHN (zJ GSo hr3 rfl mSo FSo.kp bSo .nil zL (qc (qw 2 rfl) (qc (qw 3 rfl) (qc (qw 5 rfl) (qc (qw 8 rfl) zD rfl) rfl) rfl) rfl) rfl rfl rfl)))))) zf) (zE
   (zq (ya (yZ (zJ GRi hr40 rfl mRi FRi.kp bRi .nil zL (qc (qw 2 rfl) (qc (qw 3 rfl) (qc (qw 5 rfl) (qc (qw 7 rfl) zD rfl) rfl) rfl) rfl) rfl rfl rfl) (fun _=>rfl))) (zH
    (zO zAD)) zf) (zE
   (zT 9 zBM.nd rfl (zCV (zCc hg hu8) rfl B.str zFq (qc (qw 7 rfl) zD rfl) rfl) rfl) (zE
   (zT 10 zBM.nd rfl (zJ GF hr52 rfl mF FF.kp bF .nil zL (qc (qw 2 rfl) (qc (qw 3 rfl) (qc (zj (cl:= []) ["_law_row"] [] [] rfl (zn (K:=K) rfl (qw 5 rfl)) rfl (by decide+kernel) rfl (by decide+kernel) (fun _ _ h=>nomatch h) rfl (fun j y i h=>nomatch h) (zQ rfl) (fun _ _ _ _=>(zM 0 (show (["_law_row"] :List Str).Nodup by decide+kernel) rfl (.inl rfl) (.inr rfl))) (fun _ _ _ _=>zo) (fun _ _ _ _=>(zCV (zBv (K:=K) rfl) rfl B.list zAX (qc (qw 0 rfl) zD rfl) rfl)) (fun _=>rfl)) zD rfl) rfl) rfl) rfl rfl rfl) rfl) (zE
   (zq (zU yy (zCV (zCc hg hu8) rfl B.str zFq (qc (qw 10 rfl) zD rfl) rfl) (qw 9 rfl) rfl) (zH
    (zO zAD)) zf) (zE
   (ye (zDg (K:=K) rfl (zx (K:=K) rfl (qw 10 rfl) zF (fun _ _=>rfl)) zEb rfl rfl rfl) rfl) (zE
   (ye (zOT (K:=K) rfl (zx (K:=K) rfl (qw 10 rfl) zF (fun _ _=>rfl)) rfl rfl) rfl) (zH
   (zO (zFV (zCa yb (zCV (zCc hg hu8) rfl B.str zFq (qc (qw 7 rfl) zD rfl) rfl) (qw 9 rfl) rfl) (zHN (zCa yb (zCV (zCc hg hu8) rfl B.str zFq (qc (zJ GF hr52 rfl mF FF.kp bF .nil zL (qc (qw 2 rfl) (qc (qw 3 rfl) (qc (qw 6 rfl) zD rfl) rfl) rfl) rfl rfl rfl) zD rfl) rfl) (qw 9 rfl) rfl))))))))))))))))))))),?_⟩
  refine ⟨_,rfl,a,ns,0,rfl,ha,hns,by decide,by decide,fun r H1 s1 r0 r1=>?_⟩;refine ⟨_,rfl,r,6,rfl,rfl,by decide,?_⟩;refine ⟨_,rfl,r,6,rfl,rfl,⟨by decide,by decide⟩,_,_,rfl,rfl,by decide,_,_,rfl,rfl,?_⟩;have n0:=zSX r (show (6:Int)≠0 by decide);have n1:=zSR r (show (0:Int)<6 by decide);have m0:=zSX (r/6) (show (3:Int)≠0 by decide);have m1:=zSR (r/6) (show (0:Int)<3 by decide);obtain ⟨n,en⟩: ∃n:Nat,r % 6=n:=⟨(r % 6).toNat,by omega⟩;obtain ⟨m,em⟩: ∃m:Nat,1+r/6 % 3=m:=⟨(1+r/6 % 3).toNat,by omega⟩;rw [en,em];have n6:n<=6:=by omega
  have m3:m<=3:=by omega
  have m1':1<=m:=by omega
  refine ⟨bs 1,fun p hp=>?_⟩;have sc:=(Scr.of (s1.seq ha) hp).but (But.upd (o:= .lst [.int 200]));refine ⟨_,rfl,_,rfl,_,rfl,_,rfl,a,p,ns,200,n,m,3,rfl,sc,hns,zB,by decide,by decide,n6,m3,by decide,by decide,fun l1 Us c2 H2 b2 hL ep2 c20 c21 lU hU=>?_⟩;have sc2:=sc.but b2;refine ⟨_,rfl,_,rfl,_,rfl,_,rfl,n,m,rfl,rfl,?_⟩;rw [show (n:Int)+(m:Int)=((n+m:Nat):Int) by omega];refine ⟨a,p,ns,c2,n+m,2,rfl,sc2,hns,ep2,c20,by omega,by decide,by decide,fun l2 v H3 b3 ep3 nl2 hv lv bv=>?_⟩;have a3:=(sc2.but b3).sq;obtain ⟨as,el1,has,_,_⟩:=hL.but b3;clear hp sc sc2 b2 b3 ep2 ep3 hL nl2 s1 ha;refine ⟨bs 1,fun p4 hp4=>?_⟩;obtain ⟨H4,g4,s4,e4⟩:=zBQ hp4 (.lst [.ref l2]);rw [g4];have la:=Paired.len has;refine ⟨l1,p4,_,_,rfl,rfl,s4 _ _ el1,e4,by rw [zSQ];simp;omega,fun el hel=>?_⟩;obtain ⟨H5,g5,s5,e5⟩:=zBQ hel (.lst (as.map V.ref++ [.ref l2]));rw [g5];have s35:=s4.trans s5;have a5:=s35.seq a3;have hE0:LL H5 el (Us++ [v]):=⟨as++ [l2],by rw [e5,zSb];rfl,Paired.snoc' (LIs.same has s35) (hv.same s35)⟩;have bv33:Bts 33 v:=fun i=>zST (bv i) (by decide);have okE: ∃Es:List Eqn,zW Es=Us++ [v] /\SvOk n m 33 Es/\Es.length<=7:=by
   have ew:zW ((Us++ [v]).map fun u=>(u.take n,u.drop n))=Us++ [v] :=by
    rw [zW,List.map_map];exact (List.map_congr_left fun u _=>List.take_append_drop n u).trans (List.map_id _)
   have all: ∀u∈Us++ [v],u.length=n+m/\Bts 33 u:=fun u hu=>by
    rcases zTC.mp hu with z | z
    ·exact hU u z
    ·rw [zTE.mp z];exact ⟨lv,bv33⟩
   refine ⟨_,ew,⟨⟨fun E hE=>?_,fun E hE=>?_,fun E hE=>?_,fun E hE=>?_⟩,n6,by omega,by rw [zSM];simp;omega,by decide⟩,by rw [zSM];simp;omega⟩
   all_goals obtain ⟨u,hu,rfl⟩:=zTF.mp hE
   all_goals obtain ⟨l1,b1⟩:=all u hu
   ·show (u.take n).length=n;rw [List.length_take];omega
   ·show (u.drop n).length=m;rw [List.length_drop];omega
   ·exact Bts.take' b1 n
   ·exact zHa b1 n
  obtain ⟨Es,eEs,sv,l7⟩:=okE;rw [<-eEs] at hE0;clear eEs hv bv bv33 lv has el1 la e4 e5 hp4 hel s4 s5 s35 a3 lU hU g4 g5;have lw:(zW Es).length=Es.length:=by simp [zW]
  have wl: ∀u∈zW Es,u.length=n+m:=fun u hu=>by
   obtain ⟨E,hE,rfl⟩:=zTF.mp hu;rw [zSh,sv.ok.l1 E hE,sv.ok.l2 E hE]
  refine ⟨_,rfl,a,ns,3,rfl,a5,hns,by decide,by decide,fun r2 H6 s6 r20 _=>⟨_,rfl,_,rfl,_,rfl,r2,n,m,el,zW Es,rfl,r20,n6,m1',m3,hE0.same s6,by omega,wl,fun H7 s7=>⟨_,rfl,yC ?_⟩⟩⟩;have hE:=hE0.same (s6.trans s7);clear hE0 s6 s7 a5;obtain ⟨y7,ee,ly7⟩:=hE.at;refine ⟨_,rfl,el,rfl,⟨_,SqL.of ee⟩,fun D hD=>zGz hE (by omega) hD fun hs H8 s8 e8 h8 _=>?_⟩;have hD8:LL H8 D (zW Es):=⟨hs,e8,h8⟩;have hE8:=hE.same s8;clear hE ee ly7 s8 e8 h8 hD;refine ⟨_,rfl,_,rfl,_,rfl,D,n,m,33,Es,rfl,hD8,sv,by omega,zIZ fun vf H9 s9 hf=>?_⟩;have hD9:=hD8.same s9;have hE9:=hE8.same s9;refine ⟨_,rfl,_,rfl,zQA hD9 hE9 ⟨_,rfl,yC ?_⟩⟩;unfold zHj at hf;cases e:yN n (whole Es) Es.length 0 Es (yB n m) with
  | inl st=>
   rw [e] at hf;have hf:vf= .non:=hf;subst hf;have rs:=zAO sv.ok n6 Es 0 _ (Run.start n m 33 Es) rfl;rw [e] at rs;have ls:=zKo e (Run.all rs) sv.ok (zSJ _) n6;have lk:=ls.k;refine ⟨_,rfl,_,rfl,zCe (by rfl) ?_⟩;refine ⟨_,rfl,_,rfl,_,rfl,D,n,m,33,Es,rfl,hD9,sv,by omega,?_⟩;unfold zAz;rw [e];intro t r H10 s10 et _ hR;exact ⟨_,rfl,t,_,_,_,rfl,rfl,SqT.of et,rfl,rfl,_,rfl,zm ⟨_,rfl,_,rfl,_,rfl,_,rfl,el,t,r,n,m,st.steps.length,_,_,rfl,et,hR,hE9.same s10,zDL,ls.r,by omega,by omega,by omega,ls.e,fun H11 s11=>q _⟩⟩
  | inr pr=>
   obtain ⟨fc,dc⟩:=pr;rw [e] at hf;obtain ⟨t,kl,fl,f2,d2,rfl,erun,et,hk,hfl,nkl,nfl,nkf⟩:=hf;have u:=zIu sv.ok n6 e;have fw:=zKw sv.ok sv.le u;have klt:=zKk u fw;have kle:=zJd u fw;have ri:=zLj u l7 fw.sub;have svp:=zEN sv klt (by omega);have sm:=zDJ svp.ok n6;have rs:=zAO svp.ok n6 (pick Es (yA n m Es fc)) 0 _ (Run.start n m 33 _) rfl;rw [erun] at sm rs;obtain ⟨k2,_,C2⟩:=rs;have lf2:f2.length<=400:=by rw [C2.fl,pick,zSM];omega
   have cb:CB 33<=1900:=by decide
   have bk:=zMm (ks:=yA n m Es fc) fun k hk=>zSO (klt k hk) (by omega);have str: ∀{H':Hp} {t' k' f':Addr},H' t'=some (.tup [.ref k',.ref f',.int d2])->zBT H' k' (yA n m Es fc)->LI H' f' f2->StrA H' (.ref t') (zKZ (zBs (yA n m Es fc)) f2 d2).shown:=fun x y z=>zOG x y.li z bk (fun i=>(sm.1 i).mono cb) (sm.2.mono cb) (by unfold zBs;rw [zSM];omega) lf2;refine ⟨_,rfl,_,rfl,yh (by rfl) ?_⟩;refine ⟨_,rfl,_,rfl,_,rfl,_,rfl,el,t,kl,fl,n,m,33,Es,_,_,f2,d2,rfl,hE9,et,hk,hfl,sv,by decide,m3,ri,klt,fw,erun,fun H10 s10=>⟨_,rfl,yC ?_⟩⟩;have et10:=s10 _ _ et;have hk10:=s10 _ _ hk;have hfl10:=hfl.same s10;have hE10:=hE9.same s10;have hD10:=hD9.same s10;clear et hk hfl hE9 hD9 hE8 hD8 s10 s9 nkl nfl nkf;refine ⟨_,rfl,_,_,rfl,str et10 hk10 hfl10,?_⟩;obtain ⟨y10,ee,ly10⟩:=hE10.at;refine ⟨_,rfl,_,rfl,_,rfl,el,rfl,⟨_,SqL.of ee⟩,fun D2 hD2=>zGz hE10 (by omega) hD2 fun hs2 H11 s11 e11 h11 _=>⟨D2,n,m,33,Es,rfl,⟨hs2,e11,h11⟩,sv,by omega,zIZ fun v2 H12 s12 hf2=>?_⟩⟩;unfold zHj at hf2;rw [e] at hf2;obtain ⟨t2,kl2,fl2,f2',d2',rfl,erun',et2,hk2,hfl2,nk2,nf2,nkf2⟩:=hf2;rw [erun] at erun';cases erun';refine ⟨_,rfl,_,_,rfl,str et2 hk2 hfl2,_,rfl,rfl,false,congrArg V.bl (by simp),yC ?_⟩;refine ⟨_,rfl,t2,_,_,_,rfl,rfl,SqT.of et2,rfl,.inl ⟨rfl,_,SqL.of hk2⟩,kl2,_,_,rfl,rfl,hk2,by rw [zSQ];simp;omega,?_⟩;have net:t2≠kl2:=fun z=>by rw [z,hk2] at et2;cases et2
   have et3:(L2.upd H12 kl2 (.lst (((yA n m Es fc).map fun (k:Nat)=>V.int (k:Int))++ [.non]))) t2=_:=(zI net).trans et2;have hf3:(L2.upd H12 kl2 (.lst (((yA n m Es fc).map fun (k:Nat)=>V.int (k:Int))++ [.non]))) fl2=_:=(zI (Ne.symm nkf2)).trans hfl2;refine ⟨_,rfl,t2,_,_,_,rfl,rfl,SqT.of et3,rfl,.inl ⟨rfl,_,SqL.of hf3⟩,fl2,_,rfl,rfl,hf3,?_⟩;have s10e:zC H10 (L2.upd (L2.upd H12 kl2 (.lst (((yA n m Es fc).map fun (k:Nat)=>V.int (k:Int))++ [.non]))) fl2 (.lst [])):=fun b o eb=>by
    have eb:=s11 _ _ eb;rw [zI (zw eb nf2),zI (zw eb nk2)];exact s12 _ _ eb
   generalize L2.upd (L2.upd H12 kl2 (.lst (((yA n m Es fc).map fun (k:Nat)=>V.int (k:Int))++ [.non]))) fl2 (.lst [])=H13 at s10e⊢;refine ⟨_,rfl,_,_,rfl,str (s10e _ _ et10) (s10e _ _ hk10) (hfl10.same s10e),_,rfl,rfl,true,congrArg V.bl (by simp),zm ?_⟩;refine ⟨_,rfl,_,rfl,_,rfl,D,n,m,33,Es,rfl,hD10.same s10e,sv,by omega,zIZ fun v3 H14 s14 hf3=>?_⟩;unfold zHj at hf3;rw [e] at hf3;obtain ⟨t3,kl3,fl3,f3,d3,rfl,erun3,et3,hk3,hfl3,_,_,_⟩:=hf3;rw [erun] at erun3;cases erun3;refine ⟨_,_,rfl,str et3 hk3 hfl3,_,rfl,rfl,?_⟩;have:=q H14
   rwa [show (decide (V.str (zKZ (zBs (yA n m Es fc)) f2 d2).shown=V.str (zKZ (zBs (yA n m Es fc)) f2 d2).shown))=true by simp]
end
def GA(K:zSy)(n:Str)(f:Addr):Prop:=PySem.W.nsIn K mainGlobals n=some (some (.ref f))
def LF(K:zSy)(f:Addr)(n q:Str)(st:Stmt)(dv oc:Value)(od:Option Addr)(kV dc pm:Value)(an:Option Addr)(cd ct:Value)(sl:Array (Option Value)):Prop:=K.lookup f=some ⟨oc,od,.func (PySem.W.fnOf n q (zAV st) (ym st) (zG st) dv kV dc pm an cd ct),sl⟩
def CF(K:zSy)(cd:Value)(q:Str):Prop:=PySem.W.codeIn K cd q=true
def KF(K:zSy)(f:Addr):Prop:=PySem.W.keepIn K (.ref f)=true
def xOk(K:zSy)(C:Addr):Bool:=(PySem.W.clsIn K C).any (fun cd=>PySem.W.excMro cd.mro)&&PySem.W.hasDictIn K C&&
 PySem.W.findIn K (.ref C) "__getattribute__" ==some (some (.builtin "BaseException.__getattribute__"))&&PySem.W.findIn K (.ref C) "__getattr__" ==some none&&PySem.W.findIn K (.ref C) "__setattr__" ==some (some (.builtin "object.__setattr__"))&&
 PySem.W.mroIn K C (.type "BaseException")==some true&&PySem.W.mroIn K C (.type "object")==some true&&PySem.W.findIn K (.ref C) "__class__" ==some (some (.builtin "object.__class__"))
theorem zSC{K:zSy}{C:Addr}(cg:PySem.W.specialIn K (.builtin "object.__class__") "__get__" =some (some (.builtin "getset_descriptor.__get__")))(ct:PySem.W.takesIn K (.builtin "object.__class__")=some true)(h:xOk K C=true):XCls K C:=by
 unfold xOk at h;simp only [zTA,beq_iff_eq] at h;obtain ⟨⟨⟨⟨⟨⟨⟨h4,h5⟩,h6⟩,h7⟩,h8⟩,h9⟩,h10⟩,h11⟩:=h;exact ⟨h6,h7,h8,h9,h10,h4,h5,h11,cg,ct⟩
theorem zHY{us:List Value}(h:us.length=1): ∃a,us= [a] :=zTB.mp h
theorem zAY{us:List Value}(h:us.length=2): ∃a b,us= [a,b] :=by
 cases us with
 | nil=>cases h
 | cons a r=>
  obtain ⟨b,rfl⟩:=zHY (us:=r) (by simpa using h);exact ⟨a,b,rfl⟩
theorem zCO{us:List Value}(h:us.length=3): ∃a b c,us= [a,b,c] :=by
 cases us with
 | nil=>cases h
 | cons a r=>
  obtain ⟨b,c,rfl⟩:=zAY (us:=r) (by simpa using h);exact ⟨a,b,c,rfl⟩
theorem zCQ{us:List Value}(h:us.length=4): ∃a b c d,us= [a,b,c,d] :=by
 cases us with
 | nil=>cases h
 | cons a r=>
  obtain ⟨b,c,d,rfl⟩:=zCO (us:=r) (by simpa using h);exact ⟨a,b,c,d,rfl⟩
theorem zRt{us:List Value}(h:us.length=5): ∃a b c d e,us= [a,b,c,d,e] :=by
 cases us with
 | nil=>cases h
 | cons a r=>
  obtain ⟨b,c,d,e,rfl⟩:=zCQ (us:=r) (by simpa using h);exact ⟨a,b,c,d,e,rfl⟩
theorem zPO{l:PySem.W.OpenLaw}{w:World}{K:zSy}{h:Heap}{mg:Str->Option Value}{fa:Addr}(ht:l.prog.given.tree=none)(X:K.In h)(G:h.Ns mainGlobals mg)(hfa:mg "law" =some (.ref fa))
  (a0:GA K "is_whole" f0)
  (l0:LF K f0 "is_whole" "is_whole" zBl .none oc0 od0 kV0 dc0 pm0 an0 cd0 ct0 sl0)
  (c0:CF K cd0 "is_whole")
  (k0:KF K f0)
  (a1:GA K "need_whole" f1)
  (l1:LF K f1 "need_whole" "need_whole" zBg (.ref T1) oc1 od1 kV1 dc1 pm1 an1 cd1 ct1 sl1)
  (c1:CF K cd1 "need_whole")
  (k1:KF K f1)
  (d1:K.lookup T1=some ⟨to1,td1,.seq #[.none] tn1,ts1⟩)
  (a2:GA K "common_divisor" f2)
  (l2:LF K f2 "common_divisor" "common_divisor" zGb .none oc2 od2 kV2 dc2 pm2 an2 cd2 ct2 sl2)
  (c2:CF K cd2 "common_divisor")
  (k2:KF K f2)
  (a3:GA K "one_at" f3)
  (l3:LF K f3 "one_at" "one_at" zGN .none oc3 od3 kV3 dc3 pm3 an3 cd3 ct3 sl3)
  (c3:CF K cd3 "one_at")
  (k3:KF K f3)
  (a4:GA K "mixed" f4)
  (l4:LF K f4 "mixed" "mixed" zBk .none oc4 od4 kV4 dc4 pm4 an4 cd4 ct4 sl4)
  (c4:CF K cd4 "mixed")
  (k4:KF K f4)
  (a5:GA K "marks_of" f5)
  (l5:LF K f5 "marks_of" "marks_of" zDC .none oc5 od5 kV5 dc5 pm5 an5 cd5 ct5 sl5)
  (c5:CF K cd5 "marks_of")
  (k5:KF K f5)
  (a6:GA K "reach_of" f6)
  (l6:LF K f6 "reach_of" "reach_of" zCJ .none oc6 od6 kV6 dc6 pm6 an6 cd6 ct6 sl6)
  (c6:CF K cd6 "reach_of")
  (k6:KF K f6)
  (a7:GA K "divisor_of" f7)
  (l7:LF K f7 "divisor_of" "divisor_of" zGO .none oc7 od7 kV7 dc7 pm7 an7 cd7 ct7 sl7)
  (c7:CF K cd7 "divisor_of")
  (k7:KF K f7)
  (a8:GA K "rows_of" f8)
  (l8:LF K f8 "rows_of" "rows_of" zFi .none oc8 od8 kV8 dc8 pm8 an8 cd8 ct8 sl8)
  (c8:CF K cd8 "rows_of")
  (k8:KF K f8)
  (a9:GA K "lessened" f9)
  (l9:LF K f9 "lessened" "lessened" zDc .none oc9 od9 kV9 dc9 pm9 an9 cd9 ct9 sl9)
  (c9:CF K cd9 "lessened")
  (k9:KF K f9)
  (a10:GA K "parted" f10)
  (l10:LF K f10 "parted" "parted" zET .none oc10 od10 kV10 dc10 pm10 an10 cd10 ct10 sl10)
  (c10:CF K cd10 "parted")
  (k10:KF K f10)
  (a11:GA K "left_over" f11)
  (l11:LF K f11 "left_over" "left_over" zCd .none oc11 od11 kV11 dc11 pm11 an11 cd11 ct11 sl11)
  (c11:CF K cd11 "left_over")
  (k11:KF K f11)
  (a12:GA K "all_left_over" f12)
  (l12:LF K f12 "all_left_over" "all_left_over" zDs .none oc12 od12 kV12 dc12 pm12 an12 cd12 ct12 sl12)
  (c12:CF K cd12 "all_left_over")
  (k12:KF K f12)
  (a13:GA K "open_solution" f13)
  (l13:LF K f13 "open_solution" "open_solution" zEY .none oc13 od13 kV13 dc13 pm13 an13 cd13 ct13 sl13)
  (c13:CF K cd13 "open_solution")
  (k13:KF K f13)
  (a14:GA K "clash_of" f14)
  (l14:LF K f14 "clash_of" "clash_of" zCx .none oc14 od14 kV14 dc14 pm14 an14 cd14 ct14 sl14)
  (c14:CF K cd14 "clash_of")
  (k14:KF K f14)
  (a15:GA K "nearest" f15)
  (l15:LF K f15 "nearest" "nearest" zFn .none oc15 od15 kV15 dc15 pm15 an15 cd15 ct15 sl15)
  (c15:CF K cd15 "nearest")
  (k15:KF K f15)
  (a16:GA K "shortened" f16)
  (l16:LF K f16 "shortened" "shortened" zCq .none oc16 od16 kV16 dc16 pm16 an16 cd16 ct16 sl16)
  (c16:CF K cd16 "shortened")
  (k16:KF K f16)
  (a17:GA K "solution_of" f17)
  (l17:LF K f17 "solution_of" "solution_of" zGI .none oc17 od17 kV17 dc17 pm17 an17 cd17 ct17 sl17)
  (c17:CF K cd17 "solution_of")
  (k17:KF K f17)
  (a18:GA K "is_equation" f18)
  (l18:LF K f18 "is_equation" "is_equation" zFG .none oc18 od18 kV18 dc18 pm18 an18 cd18 ct18 sl18)
  (c18:CF K cd18 "is_equation")
  (k18:KF K f18)
  (a19:GA K "need_equations" f19)
  (l19:LF K f19 "need_equations" "need_equations" zBi .none oc19 od19 kV19 dc19 pm19 an19 cd19 ct19 sl19)
  (c19:CF K cd19 "need_equations")
  (k19:KF K f19)
  (a20:GA K "solved" f20)
  (l20:LF K f20 "solved" "solved" zCD .none oc20 od20 kV20 dc20 pm20 an20 cd20 ct20 sl20)
  (c20:CF K cd20 "solved")
  (k20:KF K f20)
  (a21:GA K "with_taken_in" f21)
  (l21:LF K f21 "with_taken_in" "with_taken_in" zFk .none oc21 od21 kV21 dc21 pm21 an21 cd21 ct21 sl21)
  (c21:CF K cd21 "with_taken_in")
  (k21:KF K f21)
  (a22:GA K "needed" f22)
  (l22:LF K f22 "needed" "needed" zCt .none oc22 od22 kV22 dc22 pm22 an22 cd22 ct22 sl22)
  (c22:CF K cd22 "needed")
  (k22:KF K f22)
  (a23:GA K "fewest_of" f23)
  (l23:LF K f23 "fewest_of" "fewest_of" zEW .none oc23 od23 kV23 dc23 pm23 an23 cd23 ct23 sl23)
  (c23:CF K cd23 "fewest_of")
  (k23:KF K f23)
  (a24:GA K "fewest" f24)
  (l24:LF K f24 "fewest" "fewest" zEr .none oc24 od24 kV24 dc24 pm24 an24 cd24 ct24 sl24)
  (c24:CF K cd24 "fewest")
  (k24:KF K f24)
  (a25:GA K "_law_mixed" f25)
  (l25:LF K f25 "_law_mixed" "_law_mixed" zIc .none oc25 od25 kV25 dc25 pm25 an25 cd25 ct25 sl25)
  (c25:CF K cd25 "_law_mixed")
  (k25:KF K f25)
  (a26:GA K "_law_number" f26)
  (l26:LF K f26 "_law_number" "_law_number" zFJ .none oc26 od26 kV26 dc26 pm26 an26 cd26 ct26 sl26)
  (c26:CF K cd26 "_law_number")
  (k26:KF K f26)
  (a27:GA K "_law_whole" f27)
  (l27:LF K f27 "_law_whole" "_law_whole" zCK .none oc27 od27 kV27 dc27 pm27 an27 cd27 ct27 sl27)
  (c27:CF K cd27 "_law_whole")
  (k27:KF K f27)
  (a28:GA K "_law_wholes" f28)
  (l28:LF K f28 "_law_wholes" "_law_wholes" zBd .none oc28 od28 kV28 dc28 pm28 an28 cd28 ct28 sl28)
  (c28:CF K cd28 "_law_wholes")
  (k28:KF K f28)
  (a29:GA K "_law_drawn" f29)
  (l29:LF K f29 "_law_drawn" "_law_drawn" zCp .none oc29 od29 kV29 dc29 pm29 an29 cd29 ct29 sl29)
  (c29:CF K cd29 "_law_drawn")
  (k29:KF K f29)
  (a30:GA K "_law_equations" f30)
  (l30:LF K f30 "_law_equations" "_law_equations" zIG .none oc30 od30 kV30 dc30 pm30 an30 cd30 ct30 sl30)
  (c30:CF K cd30 "_law_equations")
  (k30:KF K f30)
  (a31:GA K "_law_sum" f31)
  (l31:LF K f31 "_law_sum" "_law_sum" zGX .none oc31 od31 kV31 dc31 pm31 an31 cd31 ct31 sl31)
  (c31:CF K cd31 "_law_sum")
  (k31:KF K f31)
  (a32:GA K "_law_solution" f32)
  (l32:LF K f32 "_law_solution" "_law_solution" zBH .none oc32 od32 kV32 dc32 pm32 an32 cd32 ct32 sl32)
  (c32:CF K cd32 "_law_solution")
  (k32:KF K f32)
  (a33:GA K "_law_clash" f33)
  (l33:LF K f33 "_law_clash" "_law_clash" zEB .none oc33 od33 kV33 dc33 pm33 an33 cd33 ct33 sl33)
  (c33:CF K cd33 "_law_clash")
  (k33:KF K f33)
  (a34:GA K "_law_refused" f34)
  (l34:LF K f34 "_law_refused" "_law_refused" zCS .none oc34 od34 kV34 dc34 pm34 an34 cd34 ct34 sl34)
  (c34:CF K cd34 "_law_refused")
  (k34:KF K f34)
  (a35:GA K "_law_alone" f35)
  (l35:LF K f35 "_law_alone" "_law_alone" zDl .none oc35 od35 kV35 dc35 pm35 an35 cd35 ct35 sl35)
  (c35:CF K cd35 "_law_alone")
  (k35:KF K f35)
  (a36:GA K "_law_right" f36)
  (l36:LF K f36 "_law_right" "_law_right" zDn .none oc36 od36 kV36 dc36 pm36 an36 cd36 ct36 sl36)
  (c36:CF K cd36 "_law_right")
  (k36:KF K f36)
  (a37:GA K "law" f37)
  (l37:LF K f37 "law" "law" zFF .none oc37 od37 kV37 dc37 pm37 an37 cd37 ct37 sl37)
  (c37:CF K cd37 "law")
  (k37:KF K f37)
  (mCS:GA K "Step" CS)
  (pgCS:PySem.W.plainGet K CS Str.empty=true)
  (hdCS:PySem.W.hasDictIn K CS=true)
  (poCS:PySem.W.plainOver K CS=true)
  (saCS:PySem.W.findIn K (.ref CS) "__setattr__" =some (some (.builtin "object.__setattr__")))
  (mkCS:PySem.W.makesIn K CS=true)
  (kcCS:PySem.W.keepIn K (.ref CS)=true)
  (nCS_place:PySem.W.findIn K (.ref CS) "place" =some none)
  (nCS_vector:PySem.W.findIn K (.ref CS) "vector" =some none)
  (mCP:GA K "Spent" CP)
  (pgCP:PySem.W.plainGet K CP Str.empty=true)
  (hdCP:PySem.W.hasDictIn K CP=true)
  (poCP:PySem.W.plainOver K CP=true)
  (saCP:PySem.W.findIn K (.ref CP) "__setattr__" =some (some (.builtin "object.__setattr__")))
  (mkCP:PySem.W.makesIn K CP=true)
  (kcCP:PySem.W.keepIn K (.ref CP)=true)
  (nCP_number:PySem.W.findIn K (.ref CP) "number" =some none)
  (nCP_vector:PySem.W.findIn K (.ref CP) "vector" =some none)
  (nCP_reach:PySem.W.findIn K (.ref CP) "reach" =some none)
  (mCL:GA K "Solution" CL)
  (pgCL:PySem.W.plainGet K CL Str.empty=true)
  (hdCL:PySem.W.hasDictIn K CL=true)
  (poCL:PySem.W.plainOver K CL=true)
  (saCL:PySem.W.findIn K (.ref CL) "__setattr__" =some (some (.builtin "object.__setattr__")))
  (mkCL:PySem.W.makesIn K CL=true)
  (kcCL:PySem.W.keepIn K (.ref CL)=true)
  (nCL_unknowns:PySem.W.findIn K (.ref CL) "unknowns" =some none)
  (nCL_steps:PySem.W.findIn K (.ref CL) "steps" =some none)
  (nCL_fixed:PySem.W.findIn K (.ref CL) "fixed" =some none)
  (nCL_spent:PySem.W.findIn K (.ref CL) "spent" =some none)
  (atS:PySem.W.findIn K (.ref CS) "__init__" =some (some (.ref ftS)))
  (itS:PySem.W.isFn K (.ref ftS)=true)
  (ltS:LF K ftS "__init__" "Step.__init__" (zy (top 9) 0) .none octS odtS kVtS dctS pmtS antS cdtS cttS sltS)
  (ctS:CF K cdtS "Step.__init__")
  (ktS:KF K ftS)
  (atP:PySem.W.findIn K (.ref CP) "__init__" =some (some (.ref ftP)))
  (itP:PySem.W.isFn K (.ref ftP)=true)
  (ltP:LF K ftP "__init__" "Spent.__init__" (zy (top 24) 0) .none octP odtP kVtP dctP pmtP antP cdtP cttP sltP)
  (ctP:CF K cdtP "Spent.__init__")
  (ktP:KF K ftP)
  (atI:PySem.W.findIn K (.ref CL) "__init__" =some (some (.ref ftI)))
  (itI:PySem.W.isFn K (.ref ftI)=true)
  (ltI:LF K ftI "__init__" "Solution.__init__" (zy (top 25) 0) .none octI odtI kVtI dctI pmtI antI cdtI cttI sltI)
  (ctI:CF K cdtI "Solution.__init__")
  (ktI:KF K ftI)
  (atT:PySem.W.findIn K (.ref CL) "take_in" =some (some (.ref ftT)))
  (itT:PySem.W.isFn K (.ref ftT)=true)
  (ltT:LF K ftT "take_in" "Solution.take_in" (zy (top 25) 1) .none octT odtT kVtT dctT pmtT antT cdtT cttT sltT)
  (ctT:CF K cdtT "Solution.take_in")
  (ktT:KF K ftT)
  (atW:PySem.W.findIn K (.ref CL) "rows_told" =some (some (.ref ftW)))
  (itW:PySem.W.isFn K (.ref ftW)=true)
  (ltW:LF K ftW "rows_told" "Solution.rows_told" (zy (top 25) 2) .none octW odtW kVtW dctW pmtW antW cdtW cttW sltW)
  (ctW:CF K cdtW "Solution.rows_told")
  (ktW:KF K ftW)
  (mU:PySem.W.nsIn K mainGlobals "MOST_UNKNOWNS" =some (some (.int 240 tU)))
  (mN:PySem.W.nsIn K mainGlobals "MOST_NAMES" =some (some (.int 6 tN)))
  (mE:PySem.W.nsIn K mainGlobals "MOST_EQUATIONS" =some (some (.int 240 tE)))
  (mBN:GA K "BadNumber" BN)
  (mME:GA K "MeasureError" ME)
  (inB:PySem.W.excIn K BN [.type "ValueError",.type "Exception",.type "BaseException",.type "object"] "ValueError.__new__" =true)
  (xB:xOk K BN=true)
  (exB:PySem.W.exmOne K (.ref BN) (.ref ME)=some true)
  (cg:PySem.W.specialIn K (.builtin "object.__class__") "__get__" =some (some (.builtin "getset_descriptor.__get__")))
  (ct:PySem.W.takesIn K (.builtin "object.__class__")=some true)
  (zisi:PySem.W.nsIn K mainGlobals "isinstance" =some none)
  (zint:PySem.W.nsIn K mainGlobals "int" =some none)
  (zbool:PySem.W.nsIn K mainGlobals "bool" =some none)
  (ztuple:PySem.W.nsIn K mainGlobals "tuple" =some none)
  (zlen:PySem.W.nsIn K mainGlobals "len" =some none)
  (zrange:PySem.W.nsIn K mainGlobals "range" =some none)
  (zstr:PySem.W.nsIn K mainGlobals "str" =some none)
  (zabs:PySem.W.nsIn K mainGlobals "abs" =some none)
  (zlist:PySem.W.nsIn K mainGlobals "list" =some none)
  (zall:PySem.W.nsIn K mainGlobals "all" =some none)
  (zany:PySem.W.nsIn K mainGlobals "any" =some none)
  (zsum:PySem.W.nsIn K mainGlobals "sum" =some none)
  (zzip:PySem.W.nsIn K mainGlobals "zip" =some none)
  (zreversed:PySem.W.nsIn K mainGlobals "reversed" =some none)
  (zenumerate:PySem.W.nsIn K mainGlobals "enumerate" =some none)
  (zverr:PySem.W.nsIn K mainGlobals "ValueError" =some none)
  (zset:PySem.W.nsIn K mainGlobals "set" =some none)
  (zsorted:PySem.W.nsIn K mainGlobals "sorted" =some none):
  ∃fd:FuncData,(∀(s:Shared) (v:Value),BindsTo s fd ⟨[v],[]⟩ [("_law_script",v)])/\ ∀base:Heap,K.In base->base.Ns mainGlobals mg->FnOk l.prog w K mg base CX0 54 fa fd ["_law_script"] (zHI K):=by
 have e:=hfa.symm.trans (zSI X G a37);cases e;have B:Bn mg:=⟨zSi X G zisi,zSi X G zint,zSi X G zbool,zSi X G ztuple,zSi X G zlen,zSi X G zrange,zSi X G zstr,zSi X G zabs,zSi X G zlist,zSi X G zall,zSi X G zany,zSi X G zsum,zSi X G zzip,zSi X G zreversed,zSi X G zenumerate,zSi X G zverr,zSi X G zset,zSi X G zsorted⟩;have EX:Ex K mg BN:=⟨zSI X G mBN,inB⟩;have Y:Ex22 K mg BN ME:=⟨zSI X G mME,exB,zSC cg ct xB⟩;have V:Gm mg:=⟨⟨_,zSI X G mU⟩,⟨_,zSI X G mN⟩,⟨_,zSI X G mE⟩⟩;have TCS:SC K CS:=⟨⟨pgCS,hdCS,poCS,saCS⟩,nCS_place,nCS_vector⟩;have MKCS:Mk K CS ftS:=⟨mkCS,atS,itS,kcCS⟩;have TCP:PC K CP:=⟨⟨pgCP,hdCP,poCP,saCP⟩,nCP_number,nCP_vector,nCP_reach⟩;have MKCP:Mk K CP ftP:=⟨mkCP,atP,itP,kcCP⟩;have TCL:LC K CL:=⟨⟨pgCL,hdCL,poCL,saCL⟩,nCL_unknowns,nCL_steps,nCL_fixed,nCL_spent⟩;have MKCL:Mk K CL ftI:=⟨mkCL,atI,itI,kcCL⟩;have FtS:=zX (st:=zy (top 9) 0) ltS ctS ktS;have BtS:=FtS.binds (ps:= ["self","place","vector"]) fun _ _ _ _ _ _ us hl=>by
  obtain ⟨v0,v1,v2,rfl⟩:=zCO hl;rfl
 have FtP:=zX (st:=zy (top 24) 0) ltP ctP ktP;have BtP:=FtP.binds (ps:= ["self","number","vector","reach"]) fun _ _ _ _ _ _ us hl=>by
  obtain ⟨v0,v1,v2,v3,rfl⟩:=zCQ hl;rfl
 have FtI:=zX (st:=zy (top 25) 0) ltI ctI ktI;have BtI:=FtI.binds (ps:= ["self","unknowns","steps","fixed"]) fun _ _ _ _ _ _ us hl=>by
  obtain ⟨v0,v1,v2,v3,rfl⟩:=zCQ hl;rfl
 have FtT:=zX (st:=zy (top 25) 1) ltT ctT ktT;have BtT:=FtT.binds (ps:= ["self","number","equation"]) fun _ _ _ _ _ _ us hl=>by
  obtain ⟨v0,v1,v2,rfl⟩:=zCO hl;rfl
 have QtT:Meth K CL "take_in" ftT:=⟨atT,itT,ktT⟩;have FtW:=zX (st:=zy (top 25) 2) ltW ctW ktW;have BtW:=FtW.binds (ps:= ["self"]) fun _ _ _ _ _ _ us hl=>by
  obtain ⟨v0,rfl⟩:=zHY hl;rfl
 have QtW:Meth K CL "rows_told" ftW:=⟨atW,itW,ktW⟩;have F0:=zX (st:=zBl) l0 c0 k0;have B0:=F0.binds (ps:= ["thing"]) fun _ _ _ _ _ _ us hl=>by
  obtain ⟨v0,rfl⟩:=zHY hl;rfl
 have M0:=zSI X G a0;have F1:=zNy (st:=zBg) l1 c1 k1;have B1:L2.zK K _ ["thing","least","most"] [] :=fun s us KX hl=>by
  rw [zSg] at hl⊢;obtain ⟨v0,v1,v2,rfl⟩:=zCO hl;exact PySem.W.binds_K (fd:=PySem.W.fnOf "need_whole" "need_whole" (zAV zBg) (ym zBg) (zG zBg) (.ref T1) kV1 dc1 pm1 an1 cd1 ct1) KX rfl d1 rfl rfl rfl
 have M1:=zSI X G a1;have F2:=zX (st:=zGb) l2 c2 k2;have B2:=F2.binds (ps:= ["above","below"]) fun _ _ _ _ _ _ us hl=>by
  obtain ⟨v0,v1,rfl⟩:=zAY hl;rfl
 have M2:=zSI X G a2;have F3:=zX (st:=zGN) l3 c3 k3;have B3:=F3.binds (ps:= ["place","length"]) fun _ _ _ _ _ _ us hl=>by
  obtain ⟨v0,v1,rfl⟩:=zAY hl;rfl
 have M3:=zSI X G a3;have F4:=zX (st:=zBk) l4 c4 k4;have B4:=F4.binds (ps:= ["factor","one","other_factor","other"]) fun _ _ _ _ _ _ us hl=>by
  obtain ⟨v0,v1,v2,v3,rfl⟩:=zCQ hl;rfl
 have M4:=zSI X G a4;have F5:=zX (st:=zDC) l5 c5 k5;have B5:=F5.binds (ps:= ["vector"]) fun _ _ _ _ _ _ us hl=>by
  obtain ⟨v0,rfl⟩:=zHY hl;rfl
 have M5:=zSI X G a5;have F6:=zX (st:=zCJ) l6 c6 k6;have B6:=F6.binds (ps:= ["vector","marks"]) fun _ _ _ _ _ _ us hl=>by
  obtain ⟨v0,v1,rfl⟩:=zAY hl;rfl
 have M6:=zSI X G a6;have F7:=zX (st:=zGO) l7 c7 k7;have B7:=F7.binds (ps:= ["one","other"]) fun _ _ _ _ _ _ us hl=>by
  obtain ⟨v0,v1,rfl⟩:=zAY hl;rfl
 have M7:=zSI X G a7;have F8:=zX (st:=zFi) l8 c8 k8;have B8:=F8.binds (ps:= ["vectors","count"]) fun _ _ _ _ _ _ us hl=>by
  obtain ⟨v0,v1,rfl⟩:=zAY hl;rfl
 have M8:=zSI X G a8;have F9:=zX (st:=zDc) l9 c9 k9;have B9:=F9.binds (ps:= ["vector","steps"]) fun _ _ _ _ _ _ us hl=>by
  obtain ⟨v0,v1,rfl⟩:=zAY hl;rfl
 have M9:=zSI X G a9;have F10:=zX (st:=zET) l10 c10 k10;have B10:=F10.binds (ps:= ["steps","marks"]) fun _ _ _ _ _ _ us hl=>by
  obtain ⟨v0,v1,rfl⟩:=zAY hl;rfl
 have M10:=zSI X G a10;have F11:=zX (st:=zCd) l11 c11 k11;have B11:=F11.binds (ps:= ["number","modulus"]) fun _ _ _ _ _ _ us hl=>by
  obtain ⟨v0,v1,rfl⟩:=zAY hl;rfl
 have M11:=zSI X G a11;have F12:=zX (st:=zDs) l12 c12 k12;have B12:=F12.binds (ps:= ["vector","modulus"]) fun _ _ _ _ _ _ us hl=>by
  obtain ⟨v0,v1,rfl⟩:=zAY hl;rfl
 have M12:=zSI X G a12;have F13:=zX (st:=zEY) l13 c13 k13;have B13:=F13.binds (ps:= ["unknowns","names"]) fun _ _ _ _ _ _ us hl=>by
  obtain ⟨v0,v1,rfl⟩:=zAY hl;rfl
 have M13:=zSI X G a13;have F14:=zX (st:=zCx) l14 c14 k14;have B14:=F14.binds (ps:= ["solution","equations","number","reach"]) fun _ _ _ _ _ _ us hl=>by
  obtain ⟨v0,v1,v2,v3,rfl⟩:=zCQ hl;rfl
 have M14:=zSI X G a14;have F15:=zX (st:=zFn) l15 c15 k15;have B15:=F15.binds (ps:= ["number","modulus"]) fun _ _ _ _ _ _ us hl=>by
  obtain ⟨v0,v1,rfl⟩:=zAY hl;rfl
 have M15:=zSI X G a15;have F16:=zX (st:=zCq) l16 c16 k16;have B16:=F16.binds (ps:= ["factors","modulus"]) fun _ _ _ _ _ _ us hl=>by
  obtain ⟨v0,v1,rfl⟩:=zAY hl;rfl
 have M16:=zSI X G a16;have F17:=zX (st:=zGI) l17 c17 k17;have B17:=F17.binds (ps:= ["unknowns","names","equations"]) fun _ _ _ _ _ _ us hl=>by
  obtain ⟨v0,v1,v2,rfl⟩:=zCO hl;rfl
 have M17:=zSI X G a17;have F18:=zX (st:=zFG) l18 c18 k18;have B18:=F18.binds (ps:= ["thing","length"]) fun _ _ _ _ _ _ us hl=>by
  obtain ⟨v0,v1,rfl⟩:=zAY hl;rfl
 have M18:=zSI X G a18;have F19:=zX (st:=zBi) l19 c19 k19;have B19:=F19.binds (ps:= ["unknowns","names","equations"]) fun _ _ _ _ _ _ us hl=>by
  obtain ⟨v0,v1,v2,rfl⟩:=zCO hl;rfl
 have M19:=zSI X G a19;have F20:=zX (st:=zCD) l20 c20 k20;have B20:=F20.binds (ps:= ["unknowns","names","equations"]) fun _ _ _ _ _ _ us hl=>by
  obtain ⟨v0,v1,v2,rfl⟩:=zCO hl;rfl
 have M20:=zSI X G a20;have F21:=zX (st:=zFk) l21 c21 k21;have B21:=F21.binds (ps:= ["solution","equations","numbers"]) fun _ _ _ _ _ _ us hl=>by
  obtain ⟨v0,v1,v2,rfl⟩:=zCO hl;rfl
 have M21:=zSI X G a21;have F22:=zX (st:=zCt) l22 c22 k22;have B22:=F22.binds (ps:= ["solution","equations","numbers"]) fun _ _ _ _ _ _ us hl=>by
  obtain ⟨v0,v1,v2,rfl⟩:=zCO hl;rfl
 have M22:=zSI X G a22;have F23:=zX (st:=zEW) l23 c23 k23;have B23:=F23.binds (ps:= ["unknowns","names","equations"]) fun _ _ _ _ _ _ us hl=>by
  obtain ⟨v0,v1,v2,rfl⟩:=zCO hl;rfl
 have M23:=zSI X G a23;have F24:=zX (st:=zEr) l24 c24 k24;have B24:=F24.binds (ps:= ["unknowns","names","equations"]) fun _ _ _ _ _ _ us hl=>by
  obtain ⟨v0,v1,v2,rfl⟩:=zCO hl;rfl
 have M24:=zSI X G a24;have F25:=zX (st:=zIc) l25 c25 k25;have B25:=F25.binds (ps:= ["_law_number_here","_law_k"]) fun _ _ _ _ _ _ us hl=>by
  obtain ⟨v0,v1,rfl⟩:=zAY hl;rfl
 have M25:=zSI X G a25;have F26:=zX (st:=zFJ) l26 c26 k26;have B26:=F26.binds (ps:= ["_law_script","_law_k"]) fun _ _ _ _ _ _ us hl=>by
  obtain ⟨v0,v1,rfl⟩:=zAY hl;rfl
 have M26:=zSI X G a26;have F27:=zX (st:=zCK) l27 c27 k27;have B27:=F27.binds (ps:= ["_law_found"]) fun _ _ _ _ _ _ us hl=>by
  obtain ⟨v0,rfl⟩:=zHY hl;rfl
 have M27:=zSI X G a27;have F28:=zX (st:=zBd) l28 c28 k28;have B28:=F28.binds (ps:= ["_law_found","_law_size"]) fun _ _ _ _ _ _ us hl=>by
  obtain ⟨v0,v1,rfl⟩:=zAY hl;rfl
 have M28:=zSI X G a28;have F29:=zX (st:=zCp) l29 c29 k29;have B29:=F29.binds (ps:= ["_law_script","_law_spot","_law_size","_law_most"]) fun _ _ _ _ _ _ us hl=>by
  obtain ⟨v0,v1,v2,v3,rfl⟩:=zCQ hl;rfl
 have M29:=zSI X G a29;have F30:=zX (st:=zIG) l30 c30 k30;have B30:=F30.binds (ps:= ["_law_script","_law_spot","_law_unknowns","_law_names","_law_most"]) fun _ _ _ _ _ _ us hl=>by
  obtain ⟨v0,v1,v2,v3,v4,rfl⟩:=zRt hl;rfl
 have M30:=zSI X G a30;have F31:=zX (st:=zGX) l31 c31 k31;have B31:=F31.binds (ps:= ["_law_row","_law_values"]) fun _ _ _ _ _ _ us hl=>by
  obtain ⟨v0,v1,rfl⟩:=zAY hl;rfl
 have M31:=zSI X G a31;have F32:=zX (st:=zBH) l32 c32 k32;have B32:=F32.binds (ps:= ["_law_unknowns","_law_names","_law_equations_here","_law_told"]) fun _ _ _ _ _ _ us hl=>by
  obtain ⟨v0,v1,v2,v3,rfl⟩:=zCQ hl;rfl
 have M32:=zSI X G a32;have F33:=zX (st:=zEB) l33 c33 k33;have B33:=F33.binds (ps:= ["_law_unknowns","_law_names","_law_equations_here","_law_told"]) fun _ _ _ _ _ _ us hl=>by
  obtain ⟨v0,v1,v2,v3,rfl⟩:=zCQ hl;rfl
 have M33:=zSI X G a33;have F34:=zX (st:=zCS) l34 c34 k34;have B34:=F34.binds (ps:= ["_law_number_here","_law_unknowns","_law_names","_law_equations_here"]) fun _ _ _ _ _ _ us hl=>by
  obtain ⟨v0,v1,v2,v3,rfl⟩:=zCQ hl;rfl
 have M34:=zSI X G a34;have F35:=zX (st:=zDl) l35 c35 k35;have B35:=F35.binds (ps:= ["_law_unknowns","_law_names","_law_equations_here","_law_kept"]) fun _ _ _ _ _ _ us hl=>by
  obtain ⟨v0,v1,v2,v3,rfl⟩:=zCQ hl;rfl
 have M35:=zSI X G a35;have F36:=zX (st:=zDn) l36 c36 k36;have B36:=F36.binds (ps:= ["_law_unknowns","_law_names","_law_equations_here","_law_found"]) fun _ _ _ _ _ _ us hl=>by
  obtain ⟨v0,v1,v2,v3,rfl⟩:=zCQ hl;rfl
 have M36:=zSI X G a36;have F37:=zX (st:=zFF) l37 c37 k37;refine ⟨PySem.W.fnOf "law" "law" (zAV zFF) (ym zFF) (zG zFF) .none kV37 dc37 pm37 an37 cd37 ct37,fun s v=> .of_eq rfl,fun base _ _=>?_⟩;have gWh:FnOk l.prog w K mg base CX0 1 f0 _ ["thing"] zBz:=zIM F0 B;have gDiv:FnOk l.prog w K mg base CX0 1 f2 _ ["above","below"] zHL:=zQo F2;have gOne:FnOk l.prog w K mg base CX0 1 f3 _ ["place","length"] zHH:=zPe F3 B;have gMx:FnOk l.prog w K mg base CX0 1 f4 _ ["factor","one","other_factor","other"] zBx:=zEu F4 B;have gMk:FnOk l.prog w K mg base CX0 1 f5 _ ["vector"] zEZ:=zMh F5 B;have gRe:FnOk l.prog w K mg base CX0 1 f6 _ ["vector","marks"] zCz:=zHy F6 B;have gLe:FnOk l.prog w K mg base CX0 34 f9 _ ["vector","steps"] (zFl CS):=zJa F9 B ht TCS F4 B4 M4;have gRo:FnOk l.prog w K mg base CX0 1 f8 _ ["vectors","count"] zHq:=zOo F8 B;have gSI:FnOk l.prog w K mg base CX0 1 ftS _ ["self","place","vector"] (zEI CS):=zIX FtS TCS;have gPa:FnOk l.prog w K mg base CX0 35 f10 _ ["steps","marks"] (zHO CS):=zPH F10 B ht TCS F6 B6 M6 F4 B4 M4 F7 B7 M7 F9 B9 M9 FtS BtS MKCS (zSI X G mCS);have gLf:FnOk l.prog w K mg base CX0 1 f11 _ ["number","modulus"] zDG:=zJH F11;have gLs:FnOk l.prog w K mg base CX0 2 f12 _ ["vector","modulus"] zGQ:=zNH F12 F11 B11 M11;have gPI:FnOk l.prog w K mg base CX0 1 ftP _ ["self","number","vector","reach"] (zFL CP):=zLc FtP TCP;have gLI:FnOk l.prog w K mg base CX0 1 ftI _ ["self","unknowns","steps","fixed"] (zGD CL):=zOe FtI TCL;have gTk:FnOk l.prog w K mg base CX0 36 ftT _ ["self","number","equation"] (zFb CS CP CL):=zOm FtT B ht TCL TCP F5 B5 M5 gMk F10 B10 M10 gPa F6 B6 M6 gRe F11 B11 M11 gLf F9 B9 M9 gLe F4 B4 M4 gMx FtP BtP MKCP (zSI X G mCP) gPI;have gTo:FnOk l.prog w K mg base CX0 2 ftW _ ["self"] (zHQ CS CP CL):=zOz FtW B TCL TCS F8 B8 M8 gRo;have gOp:FnOk l.prog w K mg base CX0 3 f13 _ ["unknowns","names"] (zFY CS CP CL):=zOk F13 B TCL TCS F3 B3 M3 gOne BtS MKCS (zSI X G mCS) gSI BtI MKCL (zSI X G mCL) gLI;have gNe:FnOk l.prog w K mg base CX0 2 f15 _ ["number","modulus"] zHk:=zOt F15 F11 B11 M11 gLf;have gSh:FnOk l.prog w K mg base CX0 34 f16 _ ["factors","modulus"] zGT:=zMV F16 B ht F2 B2 M2 gDiv F15 B15 M15 gNe;have gCl:FnOk l.prog w K mg base CX0 34 f14 _ ["solution","equations","number","reach"] (zGJ CS CP CL):=zNB F14 B ht TCL TCP F3 B3 M3 gOne F11 B11 M11 gLf F6 B6 M6 gRe F5 B5 M5 gMk F2 B2 M2 gDiv F12 B12 M12 gLs F4 B4 M4 gMx;have gSo:FnOk l.prog w K mg base CX0 37 f17 _ ["unknowns","names","equations"] zHK:=zQC F17 B TCL F13 B13 M13 gOp F14 B14 M14 gCl F16 B16 M16 gSh QtT BtT gTk QtW BtW gTo;have gNw:FnOk l.prog w K mg base CX0 2 f1 _ ["thing","least","most"] zHV:=zOR F1 F0 B0 M0 gWh;have gIE:FnOk l.prog w K mg base CX0 2 f18 _ ["thing","length"] zKC:=zQU F18 B F0 B0 M0 gWh;have gNE:FnOk l.prog w K mg base CX0 3 f19 _ ["unknowns","names","equations"] zEa:=zMN F19 B V F1 B1 M1 gNw F18 B18 M18 gIE;have gSd:FnOk l.prog w K mg base CX0 38 f20 _ ["unknowns","names","equations"] zDK:=zLK F20 F19 B19 M19 gNE F17 B17 M17 gSo;have gNu:FnOk l.prog w K mg base CX0 2 f26 _ ["_law_script","_law_k"] (zGH K):=zQf F26 B F25 B25 M25;have gLW:FnOk l.prog w K mg base CX0 1 f27 _ ["_law_found"] zHt:=zRK F27 B;have gWs:FnOk l.prog w K mg base CX0 2 f28 _ ["_law_found","_law_size"] zFx:=zQS F28 B F27 B27 M27 gLW;have gSu:FnOk l.prog w K mg base CX0 1 f31 _ ["_law_row","_law_values"] zKT:=zRT F31 B;have gDr:FnOk l.prog w K mg base CX0 3 f29 _ ["_law_script","_law_spot","_law_size","_law_most"] (zKM K):=zRY F29 B F26 B26 M26 gNu;have gEq:FnOk l.prog w K mg base CX0 4 f30 _ ["_law_script","_law_spot","_law_unknowns","_law_names","_law_most"] (zMi K):=zRM F30 B F26 B26 M26 gNu F29 B29 M29 gDr;have gLS:FnOk l.prog w K mg base CX0 3 f32 _ ["_law_unknowns","_law_names","_law_equations_here","_law_told"] zHM:=zQV F32 B F31 B31 M31 gSu F27 B27 M27 gLW F28 B28 M28 gWs;have gLC:FnOk l.prog w K mg base CX0 3 f33 _ ["_law_unknowns","_law_names","_law_equations_here","_law_told"] zMv:=zRi F33 B F31 B31 M31 gSu F27 B27 M27 gLW F28 B28 M28 gWs;have hNw:FnOk l.prog w K mg base (Fly l.prog w) 2 f1 _ ["thing","least","most"] (zGU BN):=zMD F1 B EX F0 B0 M0;have hIE:FnOk l.prog w K mg base CX0 2 f18 _ ["thing","length"] zHZ:=zOO F18 B F0 B0 M0 gWh;have hNE:FnOk l.prog w K mg base (Fly l.prog w) 3 f19 _ ["unknowns","names","equations"] (zBc BN):=zLB F19 B V EX F1 B1 M1 hNw F18 B18 M18 hIE;have gWi:FnOk l.prog w K mg base CX0 37 f21 _ ["solution","equations","numbers"] (zIB CS CP CL):=zPC F21 TCL BtI MKCL (zSI X G mCL) gLI QtT BtT gTk;have gNd:FnOk l.prog w K mg base CX0 50 f22 _ ["solution","equations","numbers"] (zMI CS CP CL 12):=zGh F22 B B22 M22 F21 B21 M21 gWi 12;have gFO:FnOk l.prog w K mg base CX0 51 f23 _ ["unknowns","names","equations"] zFc:=zOx F23 B F17 B17 M17 gSo F22 B22 M22 gNd F13 B13 M13 gOp;have gFe:FnOk l.prog w K mg base CX0 52 f24 _ ["unknowns","names","equations"] zKR:=zQN F24 F19 B19 M19 gNE F23 B23 M23 gFO;have hFe:FnOk l.prog w K mg base (Fly l.prog w) 52 f24 _ ["unknowns","names","equations"] (zBc BN):=zPI F24 F19 B19 M19 hNE F23 B23 M23 gFO;have gRf:FnOk l.prog w K mg base CX0 53 f34 _ ["_law_number_here","_law_unknowns","_law_names","_law_equations_here"] zJq:=zRH F34 B EX Y F24 B24 M24 hFe;have gAl:FnOk l.prog w K mg base CX0 39 f35 _ ["_law_unknowns","_law_names","_law_equations_here","_law_kept"] zMs:=zRc F35 B F20 B20 M20 gSd F32 B32 M32 gLS;have gRi:FnOk l.prog w K mg base CX0 40 f36 _ ["_law_unknowns","_law_names","_law_equations_here","_law_found"] zMM:=zRf F36 B F28 B28 M28 gWs F33 B33 M33 gLC F35 B35 M35 gAl;exact zPo F37 B F26 B26 M26 gNu F30 B30 M30 gEq F29 B29 M29 gDr F34 B34 M34 gRf F24 B24 M24 gFe F20 B20 M20 gSd F32 B32 M32 gLS F36 B36 M36 gRi
theorem zSA{l:PySem.W.OpenLaw}{q:Program}{loose:List Str}{XP:(Str->Option Value)->Heap->Prop}{YP:World->Heap->Prop}{d:DefRec}{K:Params->zSy}(hn:l.most=some 63)(hdf:d.params.defaults= [])(hI:importsNone q=true)
  (hY: ∀(w:World) (h:Heap),YP w h->(K w.params).In h)
  (F: ∀(w:World) (mg:Str->Option Value) (fa:Addr) (h:Heap),(K w.params).In h->h.Ns mainGlobals mg->mg d.name=some (.ref fa)->
   ∃fd:FuncData,(∀(s:Shared) (u:Value),BindsTo s fd ⟨[u],[]⟩ [("_law_script",u)])/\ ∀base:Heap,(K w.params).In base->base.Ns mainGlobals mg->FnOk l.prog w (K w.params) mg base CX0 54 fa fd ["_law_script"] (zHI (K w.params))):
  PySem.W.WalkO q loose XP YP l.row.toRowW d [] (fun f vs=>PySem.call f vs):=
 L2.zOD (n:=63) (k:=54) (x:= "_law_script") (CX:=fun _=>CX0) (sp:=fun w=>zHI (K w.params)) hn (by decide) hdf hI ⟨rfl,by decide,by decide,rfl⟩ hY F (fun _ _ a ns hl _ hS=>⟨a,ns,rfl,hS,hl,fun _=>rfl⟩) fun _ _ _ _ _ z=>z
end Fr
open PySem PySem.W PyProof.Rows
namespace PySem.W.Fast
def tw9474179418280737281:=0
def tw10808727767487269279:=0
def tw2836366791499273708:=0
def tw11027135642689501564:=0
def tw1768543293437449082:=0
def tw8261750796176143395:=0
def tw7857303528803695147:=0
def tw4289802412434371499:=0
def tw461085961451687441:=0
def tw3335199857292902996:=0
def tw8536237588679454843:=0
def tw1164038962992121745:=0
def tw17641361711970511448:=0
def tw5923436270348003156:=0
def tw1326925029247053524:=0
def tw556306149717373618:=0
def tw2800581777422323778:=0
def tw5834860701652223270:=0
def tw9883520163351849080:=0
def tw3263128806942492850:=0
def tw1919846755852237835:=0
def tw11620414866968874459:=0
def tw8715765566125237965:=0
def tw1728749665538651772:=0
def tw5370532828036720409:=0
def tw4393249061062763080:=0
def tw12728484083263237115:=0
def tw2768418032901732179:=0
def tw472243246317870786:=0
def tw8454176827307094519:=0
def tw5593297114818198814:=0
def tw9771715296876405058:=0
def tw4382666107332058743:=0
def tw3661617017397379025:=0
def tw3180737015871975380:=0
def tw506997201035895949:=0
def tw16651821691865141637:=0
def tw12403390681417543643:=0
def tw17193471011746740617:=0
def tw9726627800691638107:=0
def tw12999269230809817398:=0
def tw14999138406413068559:=0
def tw4613868376889281892:=0
def tw4936745944844497408:=0
def tw1606749360787039003:=0
def tw11116840463250652091:=0
def tw12294191958314191078:=0
def tw8737750513149926668:=0
def tw5217158160126079198:=0
def tw14833111975310193469:=0
def tw1108528323013731695:=0
def tw2363384974041916341:=0
def tw12271483524776022795:=0
def tw14624476436264496029:=0
def tw10622008458230201438:=0
def tw7150230477749275468:=0
def tw283130202034177939:=0
def tw8362629344035426325:=0
def tw2482455948392016101:=0
def tw10206629019888796940:=0
def tw17981575146952111181:=0
def tw4165716469791299375:=0
def tw13716028418227602305:=0
def tw13985543203241938725:=0
def tw10688799336342116912:=0
def tw15373229916778069194:=0
def tw18379064519610011589:=0
def tw18106205659359138446:=0
def tw4846559879200744780:=0
def tw13472360227999437234:=0
def tw13230789874289011601:=0
def tw4378568309296936866:=0
def tw15481589395109882470:=0
def tw13874319416564879191:=0
def tw4926615698157874044:=0
def tw13461263838421553630:=0
def tw3041841978458250643:=0
def tw60870978207773459:=0
def tw7703516794648999736:=0
def tw1810799736072229411:=0
def tw17125488616350363462:=0
def tw13868555888340179844:=0
def tw5220436225345348062:=0
def tw13900712718055768104:=0
def tw4245383898130483480:=0
def tw9048883556608936845:=0
def tw12798026384978149085:=0
def tw14554669972794199570:=0
def tw3737696645072427722:=0
def tw12399402874742959116:=0
def tw546634702378435890:=0
def tw17748800861162513545:=0
def tw3208936333495331661:=0
def tw14060747912924328822:=0
def tw14753604452286686780:=0
def tw913905999398566615:=0
def tw126284388885631599:=0
def tw9179162470143704210:=0
def tw12018918010284806856:=0
def tw10352736963983343801:=0
def tw11922292425715230941:=0
def tw7936159849509661830:=0
def tw14993615028281268262:=0
def tw4665654365615498551:=0
def tw8341995451331244734:=0
def tw15201750328768517597:=0
def tw18126345124849211886:=0
def tw6618880297197714474:=0
def tw12488639557681888245:=0
def tw1812346771381454503:=0
def tw9675997046005181689:=0
def tw6778633604365927321:=0
def tw10788834537486632633:=0
def tw6048657799552489917:=0
def tw5117092234056430315:=0
def tw1814100878416877170:=0
def tw4537311338742677078:=0
def tw10640983559547601519:=0
def tw1686911911917360858:=0
def tw9024060876495285124:=0
def tw6384614001501283885:=0
def tw16409258919558829343:=0
def tw14523020477453446920:=0
def tw949420174132602610:=0
def tw378839790559221810:=0
def tw10699049652318199123:=0
def tw11932390615372111573:=0
def tw12223585515944302024:=0
def tw13548201478932727580:=0
def tw9265273917800347522:=0
def tw8934354223867887896:=0
def tw868839722089752561:=0
def tw435475416377715650:=0
def tw15966349493926149282:=0
def tw1652934184681478033:=0
def tw7343413440212154829:=0
def tw1970018190762161745:=0
def tw8384019752810057005:=0
def tw14931453872863668681:=0
def tw12590872755645262333:=0
def tw10853324130346258833:=0
def tw1764763387904862469:=0
def tw18438173782824325325:=0
def tw17115666445536764437:=0
def tw2149829831003695897:=0
def tw211569522500300047:=0
def tw12255535107863705048:=0
def tw1364235916756299767:=0
def tw7919424623282249063:=0
def tw1560438187207268204:=0
end PySem.W.Fast
set_option maxRecDepth 100000 in
set_option maxHeartbeats 0 in
theorem PySem.Challenge.cw_measurewise_k22_fewest_that_clash_holds : PySem.Challenge.rw_measurewise_k22_fewest_that_clash.Holds := by
 w_on;o_law;k_head;(case hw=>w_witness2)
 k_fill
 refine Fr.zSA (l:=PySem.Challenge.rw_measurewise_k22_fewest_that_clash) rfl rfl ?hI (fun w h Y=>PySem.W.kIn_of Y) ?F
 case hI=>first | rfl | kernel_rfl | decide+kernel
 case F=>
  intro w mg fa h KX G hmg;apply Fr.zPO rfl KX G hmg
  all_goals first |(unfold Fr.LF;k_is)|(unfold Fr.GA;k_is)|(unfold Fr.CF;k_is)|(unfold Fr.KF;k_is)| k_is | kernel_rfl
