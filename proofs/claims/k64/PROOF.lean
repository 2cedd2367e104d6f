import PyProof.Rows.All
import Wide.All
import OpenK.AllK
import Wide.FinOn
import Lean
import PyProof.EqAt
import PyProof.EqKinds
import PyProof.TupleCall
import PySem.Challenge.RW_shuffletold_k64_bound_papers
set_option Elab.async false
set_option linter.all false
set_option maxRecDepth 100000
set_option genSizeOfSpec false
noncomputable section
namespace L2
open PySem PySem.Spec PyProof.Rows
noncomputable abbrev Key:=Sum Int Str
noncomputable def zid:Key->Value->Bool
 | .inl k,v=>Value.isInt k v
 | .inr x,v=>Value.isStrOf x v
noncomputable def keyH (w:World):Key->Int
 | .inl k=>hashInt k
 | .inr x=>hashStr w x
theorem zap:∀{k:Key} {v:Value},zid k v=true->(∃i t,k=Sum.inl i/\v=Value.int i t)∨(∃x t,k=Sum.inr x/\v=Value.str x t)
 | .inl i,v,h=>by
  obtain⟨t,e⟩:=Value.isInt_shape (k:=i) (v:=v) h
  exact .inl ⟨i,t,rfl,e⟩
 | .inr x,v,h=>by
  obtain⟨t,e⟩:=Value.isStrOf_shape (x:=x) (v:=v) h
  exact .inr ⟨x,t,rfl,e⟩
theorem zie (a b:Int):decide ((Sum.inl a:Key)=Sum.inl b)=(a==b):=by
 by_cases e:a=b
 ·subst e;simp
 ·have h:¬(Sum.inl a:Key)=Sum.inl b:=fun q=>e (Sum.inl.inj q)
  rw[decide_eq_false h]
  exact (beq_eq_false_iff_ne.mpr e).symm
theorem zif (a b:Str):decide ((Sum.inr a:Key)=Sum.inr b)=decide (a=b):=by
 by_cases e:a=b
 ·subst e;simp
 ·have h:¬(Sum.inr a:Key)=Sum.inr b:=fun q=>e (Sum.inr.inj q)
  rw[decide_eq_false h,decide_eq_false e]
theorem zig (a:Int)(b:Str):decide ((Sum.inl a:Key)=Sum.inr b)=false:=decide_eq_false (fun q=>nomatch q)
theorem zih (a:Str)(b:Int):decide ((Sum.inr a:Key)=Sum.inl b)=false:=decide_eq_false (fun q=>nomatch q)
noncomputable def zcj (prog:Program)(w:World):PySem.KeyKind prog w Key where
 is:=zid
 hash:=keyH w
 inj:=fun v a b ha hb=>by
  rcases zap ha with⟨i,t,rfl,rfl⟩|⟨x,t,rfl,rfl⟩
  ·rcases zap hb with⟨j,u,rfl,e⟩|⟨y,u,rfl,e⟩
   ·injection e with e1 _;rw[e1]
   ·exact nomatch e
  ·rcases zap hb with⟨j,u,rfl,e⟩|⟨y,u,rfl,e⟩
   ·exact nomatch e
   ·injection e with e1 _;rw[e1]
 byValue:=fun k v h=>by
  rcases zap h with⟨i,t,rfl,rfl⟩|⟨x,t,rfl,rfl⟩<;>rfl
 pyHash:=fun hv h=>by
  rcases zap hv with⟨i,t,rfl,rfl⟩|⟨x,t,rfl,rfl⟩
  ·exact wpAny_pyHash_int h
  ·exact wpAny_pyHash_str h
 eqBool:=fun hu hv h=>by
  rcases zap hu with⟨i,t,rfl,rfl⟩|⟨x,t,rfl,rfl⟩
  ·rcases zap hv with⟨j,u,rfl,rfl⟩|⟨y,u,rfl,rfl⟩
   ·rw[zie] at h;exact wpAny_eqBool_int h
   ·rw[zig] at h;exact SeqAt.EqAt.int_str i t y u _ _ _ _ h
  ·rcases zap hv with⟨j,u,rfl,rfl⟩|⟨y,u,rfl,rfl⟩
   ·rw[zih] at h;exact SeqAt.EqAt.str_int x t j u _ _ _ _ h
   ·rw[zif] at h;exact wpAny_eqBool_str h
 «strs»:=fun k x t v h=>by
  rcases zap h with⟨i,u,rfl,e⟩|⟨y,u,rfl,e⟩
  ·exact nomatch e
  ·injection e with e1 _
   subst e1
   cases v<;>rfl
inductive V where
 |non|bl (b:Bool)|int (i:Int)|str (x:Str)|byt (b:Array UInt8)|flt (b:UInt64)|ref (a:Addr)|ty (n:String)
 deriving DecidableEq
noncomputable def RelV:V->Value->Prop
 | .non,u=>u=Value.none
 | .bl b,u=>u=Value.bool b
 | .int i,u=>∃t,u=Value.int i t
 | .str x,u=>∃t,u=Value.str x t
 | .byt b,u=>∃t,u=Value.bytes b t
 | .flt b,u=>∃t,u=Value.float b t
 | .ref a,u=>u=Value.ref a
 | .ty n,u=>u=Value.type n
noncomputable abbrev Vals:List V->List Value->Prop:=Paired RelV
theorem Vals.length {xs:List V}{us:List Value}(r:Vals xs us):xs.length=us.length:=Paired.length r
theorem Vals.get:∀{xs:List V} {us:List Value} {i:Nat} {x:V},Vals xs us->xs[i]? =some x->∃u,us[i]? =some u/\RelV x u
 |_,_,_,_,.nil,e=>by simp at e
 |_,_,0,_,.cons r _,e=>by simp at e;subst e;exact⟨_,rfl,r⟩
 |_,_,i+1,x,.cons _ t,e=>by
  obtain⟨u,h1,h2⟩:=Vals.get (i:=i) (x:=x) t (by simpa using e)
  exact⟨u,by simpa using h1,h2⟩
theorem Vals.set {x:V}{u:Value}(r:RelV x u):∀{xs:List V} {us:List Value} (i:Nat),Vals xs us->Vals (xs.set i x) (us.set i u)
 |_,_,_,.nil=>.nil
 |_,_,0,.cons _ t=>.cons r t
 |_,_,i+1,.cons q t=>.cons q (Vals.set r i t)
theorem Vals.append:∀{xs ys:List V} {us ws:List Value},Vals xs us->Vals ys ws->Vals (xs++ys) (us++ws)
 |_,_,_,_,.nil,s=>s
 |_,_,_,_,.cons r t,s=>.cons r (Vals.append t s)
theorem Vals.take:∀{xs:List V} {us:List Value} (n:Nat),Vals xs us->Vals (xs.take n) (us.take n)
 |_,_,0,_=>.nil
 |_,_,_+1,.nil=>.nil
 |_,_,n+1,.cons r t=>.cons r (Vals.take n t)
theorem Vals.drop:∀{xs:List V} {us:List Value} (n:Nat),Vals xs us->Vals (xs.drop n) (us.drop n)
 |_,_,0,r=>r
 |_,_,_+1,.nil=>.nil
 |_,_,n+1,.cons _ t=>Vals.drop n t
theorem Vals.none_of:∀{xs:List V} {us:List Value} {i:Nat},Vals xs us->xs[i]? =none->us[i]? =none:=fun {xs us i} r e=>by
 have h1:=r.length
 have h2:xs.length<=i:=List.getElem?_eq_none_iff.mp e
 exact List.getElem?_eq_none_iff.mpr (by (first|lia|omega))
noncomputable def RelO:Option V->Option Value->Prop
 |some v,some u=>RelV v u
 |none,none=>True
 |_,_=>False
noncomputable def KV {κ:Type}:List (κ×V)->List (κ×Value)->Prop:=Paired fun (p:κ×V) (q:κ×Value)=>p.1=q.1/\RelV p.2 q.2
noncomputable def kV:Key->V
 | .inl i=>.int i
 | .inr x=>.str x
inductive HO where
  |lst (xs:List V)
  |tup (xs:List V)
  |dK (kvs:List (Key×V))|dT (kvs:List (List Key×V))
  |set (S:Int->Bool) (n:Nat)
  |ins (C dx:Addr) (fs:List (Str×V))
  |own (x:Addr)
  |xd (fs:List (Str×V))
  |met (f x:Addr)
  |rng (lo hi:Int)
  |frz (o:Obj) (u:HO)
  |tbl (ps:Array Value)
  |ext (φ:Heap->Prop)
noncomputable abbrev Hp:=Addr->Option HO
noncomputable def upd (H:Hp)(a:Addr)(o:HO):Hp:=fun b=>if b=a then some o else H b
theorem zab {H:Hp}{a:Addr}{o:HO}:upd H a o a=some o:=by unfold upd;rw[if_pos rfl]
theorem zak {H:Hp}{a b:Addr}{o:HO}(h:b≠a):upd H a o b=H b:=by unfold upd;rw[if_neg h]
theorem zhu {H:Hp}{a:Addr}{o u:HO}:upd (upd H a o) a u=upd H a u:=by
 funext b;unfold upd;split<;>rfl
theorem zii {H:Hp}{a b:Addr}{o u:HO}(h:H a=some o)(h':H b=some u)(d:o≠u):a≠b:=by
 intro e;subst e;rw[h] at h';exact d (Option.some.inj h')
theorem zaw {H:Hp}{a b:Addr}{o:HO}(h:H a=some o)(h':H b=none):a≠b:=by
 intro e;subst e;rw[h] at h';cases h'
noncomputable def PTup (h:Heap)(a:Addr)(items:Array Value):Prop:=∃o,h.get? a=some o/\o.cls=.type "tuple" /\(∃n,o.data=.seq items n)/\o.dict=none/\o.slots=#[]
theorem PTup.tup {h:Heap}{a:Addr}{items:Array Value}(p:PTup h a items):IsTup h a items:=by
 obtain⟨o,e,c,d,_⟩:=p
 exact⟨o,e,c,d⟩
theorem PTup.new {h:Heap}{items:Array Value}{n:Nat}:PTup (h.push {cls:=.type "tuple",data:=.seq items n}) h.objs.size items:=⟨_,Heap.get?_push_size _ rfl,rfl,⟨_,rfl⟩,rfl,rfl⟩
section
variable (P:Program)(w:World)
noncomputable def ObjOk (H:Hp)(h:Heap)(a:Addr):HO->Prop
 | .lst xs=>xs.length<=sizeLine/\∃(its:List Value) (n:Nat),Vals xs its/\h.get? a=some {cls:=.type "list",data:=.seq its.toArray n}
 | .tup xs=>xs.length<=sizeLine/\∃its:List Value,Vals xs its/\PTup h a its.toArray
 | .dK kvs=>kvs.length<=sizeLine/\(a==sysModules)=false/\∃vs,KV kvs vs/\h.DictOf (zcj P w) a vs
 | .dT kvs=>kvs.length<=sizeLine/\(a==sysModules)=false/\∃xs:List (List Key×Addr×Value),
   Paired (fun (p:List Key×V) (q:List Key×Addr×Value)=>p.1=q.1/\H q.2.1=some (.tup (p.1.map kV))/\RelV p.2 q.2.2) kvs xs/\
   ∃o es ep,h.get? a=some o/\o.ExactDict/\o.data=.dict es ep/\es.toList=xs.map (entryOfKey (tupleKind (zcj P w)))/\(xs.map (·.1)).Nodup
 | .set S n=>h.SetOf (intKind P w) a S n
 | .ins C dx fs=>H dx=some (.own a)/\fs.length<=1000/\dx≠a/\h.get? a=some (PySem.W.instObj C dx)/\
   ∃mA,h.Ns1 dx mA/\(∀f,RelO (fs.lookup f) (mA f))/\PySem.Within mA (fs.map (·.1))
 | .own _=>∃o,h.get? a=some o
 | .xd fs=>∃mA,h.Ns1 a mA/\∀f,RelO (fs.lookup f) (mA f)
 | .rng lo hi=>∃t u v,h.get? a=some {cls:=.type "range",data:=.fields #[.int lo t,.int hi u,.int 1 v]}
 | .frz o u=>h.get? a=some o/\ObjOk H h a u
 | .tbl ps=>h.get? a=some {cls:=.none,data:=.fields ps}
 | .met f x=>h.get? a=some (PySem.W.methodObj (.ref f) (.ref x))
 | .ext φ=>φ h/\(∃o,h.get? a=some o)/\∀h1 h2:Heap,φ h1->(∀o,h1.get? a=some o->h2.get? a=some o)->φ h2
noncomputable def HOk (H:Hp)(h:Heap):Prop:=∀a o,H a=some o->ObjOk P w H h a o
end
section
variable {P:Program}{w:World}{H H':Hp}{h h':Heap}{a:Addr}{o:HO}
theorem ObjOk.lt (x:ObjOk P w H h a o):a<h.objs.size:=by
 cases o with
 |lst xs=>obtain⟨_,_,_,_,e⟩:=x;exact Heap.lt_size e
 |tup xs=>obtain⟨_,_,_,p⟩:=x;exact p.tup.lt
 |dK kvs=>obtain⟨_,_,_,_,o,_,_,e,_⟩:=x;exact Heap.lt_size e
 |dT kvs=>obtain⟨_,_,_,_,o,_,_,e,_⟩:=x;exact Heap.lt_size e
 |set S n=>obtain⟨o,_,_,_,e,_⟩:=x;exact Heap.lt_size e
 |ins C dx fs=>obtain⟨_,_,_,e,_⟩:=x;exact Heap.lt_size e
 |own y=>obtain⟨_,e⟩:=x;exact Heap.lt_size e
 |xd fs=>obtain⟨_,⟨_,_,_,e,_⟩,_⟩:=x;exact Heap.lt_size e
 |rng lo hi=>obtain⟨_,_,_,e⟩:=x;exact Heap.lt_size e
 |frz ob u=>obtain⟨e,_⟩:=x;exact Heap.lt_size e
 |tbl ps=>exact Heap.lt_size (show h.get? a=some _ from x)
 |met f y=>exact Heap.lt_size (show h.get? a=some _ from x)
 |ext φ=>obtain⟨_,⟨_,e⟩,_⟩:=x;exact Heap.lt_size e
theorem Paired.mapP {α β:Type}{F G:α->β->Prop}:∀{l₁:List α} {l₂:List β},Paired F l₁ l₂->(∀a b,F a b->G a b)->Paired G l₁ l₂
 |_,_,.nil,_=>.nil
 |_,_,.cons r t,f=>.cons (f _ _ r) (Paired.mapP t f)
theorem ObjOk.stay (x:ObjOk P w H h a o)(k:∀b u,(b=a∨H b=some (.own a))->h.get? b=some u->h'.get? b=some u)
  (ho:∀b,H b=some (.own a)->H' b=some (.own a)) (ht:∀b xs,H b=some (.tup xs)->H' b=some (.tup xs)):ObjOk P w H' h' a o:=by
 induction o with
 |lst xs=>obtain⟨z,its,n,r,e⟩:=x;exact⟨z,its,n,r,k _ _ (.inl rfl) e⟩
 |tup xs=>obtain⟨z,its,r,ob,e,c⟩:=x;exact⟨z,its,r,ob,k _ _ (.inl rfl) e,c⟩
 |dK kvs=>obtain⟨z,y,vs,r,ob,es,ep,e,c⟩:=x;exact⟨z,y,vs,r,ob,es,ep,k _ _ (.inl rfl) e,c⟩
 |dT kvs=>
  obtain⟨z,y,xs,r,ob,es,ep,e,c⟩:=x
  exact⟨z,y,xs,Paired.mapP r fun p q z=>⟨z.1,ht _ _ z.2.1,z.2.2⟩,ob,es,ep,k _ _ (.inl rfl) e,c⟩
 |set S n=>obtain⟨ob,es,ep,t,e,c⟩:=x;exact⟨ob,es,ep,t,k _ _ (.inl rfl) e,c⟩
 |ins C dx fs=>
  obtain⟨d,z,ne,e,mA,⟨od,es,ep,e2,c⟩,r⟩:=x
  exact⟨ho _ d,z,ne,k _ _ (.inl rfl) e,mA,⟨od,es,ep,k _ _ (.inr d) e2,c⟩,r⟩
 |own y=>obtain⟨ob,e⟩:=x;exact⟨ob,k _ _ (.inl rfl) e⟩
 |xd fs=>obtain⟨mA,⟨od,es,ep,e,c⟩,r⟩:=x;exact⟨mA,⟨od,es,ep,k _ _ (.inl rfl) e,c⟩,r⟩
 |rng lo hi=>obtain⟨t,u,v,e⟩:=x;exact⟨t,u,v,k _ _ (.inl rfl) e⟩
 |frz ob u ih=>obtain⟨e,q⟩:=x;exact⟨k _ _ (.inl rfl) e,ih q⟩
 |tbl ps=>
  have e:h.get? a=some {cls:=.none,data:=.fields ps}:=x
  show h'.get? a=some {cls:=.none,data:=.fields ps}
  exact k a _ (.inl rfl) e
 |met f y=>
  have e:h.get? a=some (PySem.W.methodObj (.ref f) (.ref y)):=x
  show h'.get? a=some (PySem.W.methodObj (.ref f) (.ref y))
  exact k a _ (.inl rfl) e
 |ext φ=>obtain⟨p,⟨o,e⟩,st⟩:=x;exact⟨st _ _ p fun o q=>k _ _ (.inl rfl) q,⟨o,k _ _ (.inl rfl) e⟩,st⟩
theorem HOk.lt (x:HOk P w H h)(e:H a=some o):a<h.objs.size:=(x a o e).lt
theorem HOk.fresh (x:HOk P w H h)(e:h.objs.size<=a):H a=none:=by
 cases q:H a with
 |none=>rfl
 |some u=>exact absurd (Nat.lt_of_lt_of_le (x.lt q) e) (Nat.lt_irrefl _)
theorem HOk.kept (x:HOk P w H h)(k:∀b u,h.get? b=some u->h'.get? b=some u):HOk P w H h':=fun a o e=>
 (x a o e).stay (fun b u _ q=>k b u q) (fun _ q=>q) fun _ _ q=>q
theorem HOk.laid (x:HOk P w H h)(k:∀b u,h.get? b=some u->h'.get? b=some u)(hp:h.objs.size<=a)(new:ObjOk P w (upd H a o) h' a o):HOk P w (upd H a o) h':=fun b u e=>by
 have hn:=x.fresh hp
 by_cases hb:b=a
 ·subst hb;rw[zab] at e;cases e;exact new
 ·rw [zak hb] at e
  exact (x b u e).stay (fun c v _ q=>k c v q) (fun c q=>by rw[zak (zaw q hn)];exact q) fun c xs q=>by rw[zak (zaw q hn)];exact q
end
noncomputable def Rd (H:Hp)(a:Addr)(u:HO):Prop:=H a=some u∨∃o,H a=some (.frz o u)
theorem Rd.ok {P:Program}{w:World}{H:Hp}{h:Heap}{a:Addr}{u:HO}(r:Rd H a u)(x:HOk P w H h):ObjOk P w H h a u:=by
 rcases r with r|⟨o,r⟩
 ·exact x a u r
 ·obtain ⟨_,q⟩:=x a _ r
  exact q
noncomputable def Mut:Option HO->Prop
 |some (.lst _)=>True
 |some (.dK _)=>True
 |some (.dT _)=>True
 |some (.set _ _)=>True
 |some (.ins _ _ _)=>True
 |some (.ext _)=>True
 |_=>False
section
variable {P:Program}{w:World}{H:Hp}{h h':Heap}{x e:Addr}{o':HO}
theorem HOk.write (ok:HOk P w H h)(mu:Mut (H x))(he:e=x∨H e=some (.own x))(k:∀b u,b≠e->h.get? b=some u->h'.get? b=some u)(heo:∃u,h'.get? e=some u)
  (new:ObjOk P w (upd H x o') h' x o'):HOk P w (upd H x o') h':=fun b u q=>by
 have nown:∀c y,H c=some (.own y)->c≠x:=fun c y r z=>by subst z;rw[r] at mu;exact mu
 have ntup:∀c xs,H c=some (.tup xs)->c≠x:=fun c xs r z=>by subst z;rw[r] at mu;exact mu
 by_cases hb:b=x
 ·subst hb;rw[zab] at q;cases q;exact new
 ·rw [zak hb] at q
  by_cases hbe:b=e
  ·have q':H b=some (.own x):=by
    rcases he with z|z
    ·exact absurd (hbe.trans z) hb
    ·rw[hbe];exact z
   rw[q] at q';cases q'
   obtain⟨v,hv⟩:=heo
   exact⟨v,by rw[hbe];exact hv⟩
  ·refine (ok b u q).stay (fun c v hc r=>k c v ?_ r) (fun c r=>by rw[zak (nown c b r)];exact r) fun c xs r=>by rw[zak (ntup c xs r)];exact r
   rcases hc with rfl|hc
   ·exact hbe
   ·rintro rfl
    rcases he with z|z
    ·exact nown c b hc z
    ·rw[hc] at z;cases z;exact hb rfl
end
structure Un (fs ex:List Addr) (H H':Hp) (h h':Heap):Prop where
 keep:∀b o,h.get? b=some o->H b=none->b∉fs->b∉ex->h'.get? b=some o
 slot:∀b o,h.get? b=some o->H b=none->b∈fs->b∉ex->∃sl,h'.get? b=some {o with slots:=sl}
 free:∀b o,h.get? b=some o->H b=none->b∉ex->H' b=none
 there:∀b o,h.get? b=some o->b∉ex->∃o',h'.get? b=some o'
 tups:∀b xs,H b=some (.tup xs)->H' b=some (.tup xs)
 frzs:∀b o u,H b=some (.frz o u)->H' b=some (.frz o u)
 tbls:∀b ps,H b=some (.tbl ps)->∃more,H' b=some (.tbl (ps++more))
section
variable {fs fs' ex ex':List Addr}{H H1 H2:Hp}{h h1 h2 h':Heap}{a x e:Addr}{o:HO}
theorem Un.any (u:Un fs ex H H1 h h1){b:Addr}{ob:Obj}(q:h.get? b=some ob)(n:H b=none)(hx:b∉ex):∃sl,h1.get? b=some {ob with slots:=sl}:=by
 by_cases hb:b∈fs
 ·exact u.slot b ob q n hb hx
 ·exact⟨ob.slots,u.keep b ob q n hb hx⟩
theorem Un.kept (k:∀b u,h.get? b=some u->h'.get? b=some u):Un fs ex H H h h':=
 ⟨fun b ob q _ _ _=>k b ob q,fun b ob q _ _ _=>⟨ob.slots,k b ob q⟩,fun _ _ _ n _=>n,fun b ob q _=>⟨ob,k b ob q⟩,fun _ _ q=>q,fun _ _ _ q=>q,fun _ ps q=>⟨#[],by rw[q];simp⟩⟩
theorem Un.refl:Un fs ex H H h h:=Un.kept fun _ _ q=>q
theorem Un.laid (k:∀b u,h.get? b=some u->h'.get? b=some u)(hp:h.objs.size<=a)(hn:H a=none):Un fs ex H (upd H a o) h h' where
 keep:=fun b u q _ _ _=>k b u q
 slot:=fun b u q _ _ _=>⟨u.slots,k b u q⟩
 free:=fun b u q n _=>by rw[zak (Nat.ne_of_lt (Nat.lt_of_lt_of_le (Heap.lt_size q) hp))];exact n
 there:=fun b u q _=>⟨u,k b u q⟩
 tups:=fun b xs q=>by rw[zak (zaw q hn)];exact q
 frzs:=fun b u xs q=>by rw[zak (zaw q hn)];exact q
 tbls:=fun b ps q=>⟨#[],by rw[zak (zaw q hn),q];simp⟩
theorem Un.write (mu:Mut (H x))(he:e=x∨H e=some (.own x))(k:∀b u,b≠e->h.get? b=some u->h'.get? b=some u)(heo:∃u,h'.get? e=some u):Un fs ex H (upd H x o) h h':=by
 have hx:∀b,H b=none->b≠x:=fun b n z=>by subst z;rw[n] at mu;exact mu
 have hb:∀b,H b=none->b≠e:=fun b n z=>by
  subst z
  rcases he with r|r
  ·exact hx b n r
  ·rw[n] at r;cases r
 have hm:∀b u,H b=some u->¬Mut (some u)->b≠x:=fun b u q nm z=>by subst z;rw[q] at mu;exact nm mu
 refine⟨fun b u q n _ _=>k b u (hb b n) q,fun b u q n _ _=>⟨u.slots,k b u (hb b n) q⟩,fun b u q n _=>by rw[zak (hx b n)];exact n,fun b u q _=> ?_,
  fun b xs q=>by rw[zak (hm b _ q fun z=>z)];exact q,fun b u xs q=>by rw[zak (hm b _ q fun z=>z)];exact q,fun b ps q=>⟨#[],by rw[zak (hm b _ q fun z=>z),q];simp⟩⟩
 by_cases hbe:b=e
 ·subst hbe;exact heo
 ·exact⟨u,k b u hbe q⟩
end
noncomputable def trk (h:Heap)(H:Hp):List Addr:=(List.range h.objs.size).filter fun a=>(H a).isSome
noncomputable def hidT (h:Heap)(H:Hp):Heap:=PySem.W.hideAll h (trk h H)
theorem zfw (h:Heap)(H:Hp):(hidT h H).objs.size=h.objs.size:=PySem.W.hideAll_size _ _
theorem zgH {h:Heap}{H:Hp}{b:Addr}{o:Obj}(e:h.get? b=some o)(n:H b=none):(hidT h H).get? b=some o:=
 PySem.W.hideAll_get _ e fun hm=>by
  have q:(H b).isSome=true:=(List.mem_filter.mp hm).2
  rw[n] at q;simp at q
theorem zhv {h:Heap}{H:Hp}{b:Addr}{o:Obj}(e:(hidT h H).get? b=some o):h.get? b=some o/\H b=none:=by
 have e':h.get? b=some o:=PySem.W.of_hideAll (trk h H) e
 refine⟨e', ?_⟩
 cases q:H b with
 |none=>rfl
 |some x=>
  have hm:b∈trk h H:=List.mem_filter.mpr ⟨List.mem_range.mpr (Heap.lt_size e'),by simp[q]⟩
  have z:(hidT h H).get? b=none:=PySem.W.hideAll_none (trk h H) hm
  rw[z] at e;cases e
noncomputable def zhw (g h:Heap)(L:Addr):List (Addr×Obj):=(List.range h.objs.size).filterMap fun a=>if a=L∨(g.get? a).isSome=true then none else (h.get? a).map fun o=>(a,o)
noncomputable def rest (g h:Heap)(L d:Addr):List (Addr×Obj):=(zhw g h L).filter fun p=>decide (p.1≠d)
structure Mod (K:PySem.W.Frag) (mg:Str->Option Value) (base:Heap):Prop where
 kin:K.In base
 glob:base.Ns mainGlobals mg
 blt:∃mb,base.Ns builtinsNs mb/\∀x:Str,x≠ "__name__" ->mb x=bootBuiltins x
 nolimit:base.NoLimit
structure Cx where
 prog:Program
 w:World
 K:PySem.W.Frag
 mg:Str->Option Value
 base:Heap
 A:Around
 N:List Str
 s₀:Shared
 H₀:Hp
 env:Env
 outer:List Env
 stack:List Env
 ex:List Addr
 fn:Str->Bool
 calm:Bool
 pn:List (Addr×Obj)
 xe:Value->Shared->Prop
noncomputable def frs (l:List Env):List Addr:=l.filterMap (·.frame)
noncomputable abbrev Cx.fs (X:Cx):List Addr:=frs X.outer
noncomputable def Vis (sc:Scope)(x:Str):Prop:=sc.names.lookup x=some .local∨sc.names.lookup x=some .cell∨sc.names.lookup x=some .free
noncomputable def Loc (sc:Scope)(x:Str):Prop:=sc.names.lookup x=some .local∨sc.names.lookup x=some .cell
noncomputable def Look (env:Env)(h:Heap)(m:Str->Option Value)(x:Str)(u:Value):Prop:=
 (env.kindOf x=some .local/\m x=some u)∨((env.kindOf x=some .cell∨env.kindOf x=some .free)/\∃c,env.cells.lookup x=some c/\h.IsCell c (some u))
structure Cx.Ok (X:Cx):Prop where
 mod:Mod X.K X.mg X.base
 kind:X.env.scope.kind=.function
 glob:X.env.globals=mainGlobals
 blt:X.env.builtins=builtinsNs
 above:X.s₀.heap.objs.size<=X.env.locals
 inj:∀x y c,X.env.cells.lookup x=some c->X.env.cells.lookup y=some c->x=y
 has:∀x,(X.env.kindOf x=some .cell∨X.env.kindOf x=some .free)->∃c,X.env.cells.lookup x=some c
 cab:∀x c,X.fn x=true->X.env.cells.lookup x=some c->X.s₀.heap.objs.size<=c
 hd:X.calm=true->X.A.handled=none
 frames:X.A.frames=some X.stack
 stk:X.stack=X.outer∨(X.stack=X.env::X.outer/\X.env.frame=some X.env.locals)
 exf:∀b∈X.ex,b≠X.env.locals/\∀x c,X.env.cells.lookup x=some c->c≠b
 bs:∀b o,X.base.get? b=some o->X.s₀.heap.get? b=some o/\X.H₀ b=none
 bsz:X.base.objs.size<=X.s₀.heap.objs.size
 noex:∀b o,X.base.get? b=some o->b∉X.ex
 exfs:∀b∈X.ex,b∉X.fs
 funs:X.s₀.heap.FunFrames X.base X.outer
 frf:∀b∈X.fs,X.H₀ b=none
structure Inv (X:Cx) (pins:List (Addr×Obj)) (σ:List (Option V)) (H:Hp) (s:Shared):Prop where
 ok:X.Ok
 os:s.os=X.s₀.os
 bare:AllBare s.gens
 base:Un X.fs X.ex X.H₀ H X.s₀.heap s.heap
 loc:∃m,s.heap.Ns X.env.locals m/\∀(i:Nat) (x:Str) (v:V),X.N[i]? =some x->σ[i]? =some (some v)->Vis X.env.scope x->∃u,RelV v u/\Look X.env s.heap m x u
 cell:∀x c,X.env.cells.lookup x=some c->∃v,s.heap.IsCell c v
 free:H X.env.locals=none
 freeC:∀x c,X.env.cells.lookup x=some c->H c=none
 pin:∀p∈X.pn++pins,s.heap.get? p.1=some p.2/\H p.1=none/\p.1≠X.env.locals/\p.1∉X.fs/\∀v,p.2.data≠.cell v
 hok:HOk X.prog X.w H s.heap
 len:σ.length=X.N.length
section
variable {X:Cx}{pins:List (Addr×Obj)}{σ:List (Option V)}{H H':Hp}{s:Shared}{h':Heap}
theorem Cx.Ok.nofr (ok:X.Ok){b:Addr}{o:Obj}(e:X.base.get? b=some o):b∉X.fs:=fun hb=>by
 have:=(ok.funs.mem hb).1
 rw[e] at this;cases this
theorem Inv.bs (I:Inv X pins σ H s):∀b o,X.base.get? b=some o->s.heap.get? b=some o/\H b=none:=fun b o e=>
 ⟨I.base.keep b o (I.ok.bs b o e).1 (I.ok.bs b o e).2 (I.ok.nofr e) (I.ok.noex b o e),I.base.free b o (I.ok.bs b o e).1 (I.ok.bs b o e).2 (I.ok.noex b o e)⟩
theorem Inv.bk (I:Inv X pins σ H s):∀b o,X.base.get? b=some o->s.heap.get? b=some o:=fun b o e=>(I.bs b o e).1
theorem Inv.mod (I:Inv X pins σ H s):Mod X.K X.mg X.base:=I.ok.mod
theorem Inv.kIn (I:Inv X pins σ H s):X.K.In s.heap:=I.ok.mod.kin.keeps I.bk
theorem Inv.lt (I:Inv X pins σ H s):X.env.locals<s.heap.objs.size:=let ⟨_,hn,_⟩:=I.loc;hn.lt
theorem Inv.sz (I:Inv X pins σ H s):X.s₀.heap.objs.size<=s.heap.objs.size:=Nat.le_trans I.ok.above (Nat.le_of_lt I.lt)
theorem Inv.nofs (I:Inv X pins σ H s){a:Addr}(h:s.heap.objs.size<=a):a∉X.fs:=fun hb=>by
 obtain⟨_,o,ho,_⟩:=I.ok.funs.mem hb
 exact absurd (Nat.lt_of_lt_of_le (Heap.lt_size ho) (Nat.le_trans I.sz h)) (Nat.lt_irrefl _)
theorem Inv.cne (I:Inv X pins σ H s):∀x c,X.env.cells.lookup x=some c->c≠X.env.locals:=fun x c e z=>by
 obtain⟨v,o,ho,hd⟩:=I.cell x c e
 obtain⟨m,⟨o',es,ep,ho',hd',_⟩,_⟩:=I.loc
 rw[z,ho'] at ho;cases ho;rw[hd'] at hd;cases hd
theorem Inv.funs (I:Inv X pins σ H s):s.heap.FunFrames X.base X.outer:=by
 have all:∀(l:List Env),(∀b∈frs l,b∈X.fs)->X.s₀.heap.FunFrames X.base l->s.heap.FunFrames X.base l:=by
  intro l
  induction l with
  |nil=>intro _ _;trivial
  |cons env r ih=>
   intro hs hl
   obtain⟨hk,⟨L,o,hf,hn,ho,hd⟩,hr⟩:=hl
   have hL:L∈X.fs:=hs L (by unfold frs;rw[List.filterMap_cons,hf];exact List.mem_cons_self)
   obtain⟨sl,e⟩:=I.base.slot L o ho (I.ok.frf L hL) hL fun z=>I.ok.exfs L z hL
   exact⟨hk,⟨L,_,hf,hn,e,hd⟩,ih (fun b hb=>hs b (by unfold frs;rw[List.filterMap_cons,hf];exact List.mem_cons_of_mem _ hb)) hr⟩
 exact all X.outer (fun _ hb=>hb) I.ok.funs
theorem Inv.stack (I:Inv X pins σ H s):s.heap.FunFrames X.base X.stack:=by
 rcases I.ok.stk with e|⟨e,hf⟩
 ·rw[e];exact I.funs
 ·rw [e]
  obtain⟨m,hn,_⟩:=I.loc
  refine .cons (by rw[I.ok.kind];decide) hf hn ?_ I.funs
  exact Heap.get?_none_of_le (Nat.le_trans I.ok.bsz I.ok.above)
theorem Inv.stkSub (I:Inv X pins σ H s):∀b∈frs X.stack,b∈X.env.locals::X.fs:=fun b hb=>by
 rcases I.ok.stk with e|⟨e,hf⟩
 ·rw[e] at hb;exact List.mem_cons_of_mem _ hb
 ·rw [e] at hb
  unfold frs at hb
  rw[List.filterMap_cons,hf] at hb
  exact hb
theorem Inv.stkFree (I:Inv X pins σ H s):∀b∈frs X.stack,H b=none:=fun b hb=>by
 rcases List.mem_cons.mp (I.stkSub b hb) with e|hb
 ·rw[e];exact I.free
 ·obtain ⟨_,o,ho,_⟩:=I.ok.funs.mem hb
  exact I.base.free b o ho (I.ok.frf b hb) fun z=>I.ok.exfs b z hb
theorem Inv.step {g':Array GenState}{t':Nat}{d':Drawn}{ch:List Addr}(I:Inv X pins σ H s)
  (hch:∀b∈ch,(b∈X.ex∨X.s₀.heap.objs.size<=b)/\b≠X.env.locals/\(∀x c,X.env.cells.lookup x=some c->c≠b)/\∀p∈X.pn++pins,p.1≠b)
  (keep:∀b o,b≠X.env.locals->b∉X.fs->b∉ch->s.heap.get? b=some o->H b=none->h'.get? b=some o)
  (slot:∀b o,b≠X.env.locals->b∈X.fs->b∉ch->s.heap.get? b=some o->H b=none->∃sl,h'.get? b=some {o with slots:=sl}) (free:∀b o,b∉ch->s.heap.get? b=some o->H b=none->H' b=none)
  (there:∀b o,b∉ch->s.heap.get? b=some o->∃o',h'.get? b=some o')
  (tups:∀b xs,H b=some (.tup xs)->H' b=some (.tup xs)) (frzs:∀b o u,H b=some (.frz o u)->H' b=some (.frz o u)) (tbls:∀b ps,H b=some (.tbl ps)->∃more,H' b=some (.tbl (ps++more)))
  (ns:∀m,s.heap.Ns X.env.locals m->h'.Ns X.env.locals m) (hok:HOk X.prog X.w H' h') (hg:AllBare g'):
  Inv X pins σ H' {s with heap:=h',gens:=g',drawn:=d',toks:=t'}:=by
 have neL:∀b o,X.s₀.heap.get? b=some o->b≠X.env.locals:=fun b o e=>Nat.ne_of_lt (Nat.lt_of_lt_of_le (Heap.lt_size e) I.ok.above)
 have neC:∀b o,X.s₀.heap.get? b=some o->b∉X.ex->b∉ch:=fun b o e hx hb=>by
  rcases (hch b hb).1 with z|z
  ·exact hx z
  ·exact absurd (Nat.lt_of_lt_of_le (Heap.lt_size e) z) (Nat.lt_irrefl _)
 have cellK:∀x c,X.env.cells.lookup x=some c->∀v,s.heap.IsCell c v->h'.IsCell c v:=fun x c e v ⟨o,ho,hd⟩=>by
  have nch:c∉ch:=fun z=>(hch c z).2.2.1 x c e rfl
  by_cases hc:c∈X.fs
  ·obtain ⟨sl,q⟩:=slot c o (I.cne x c e) hc nch ho (I.freeC x c e)
   exact⟨_,q,hd⟩
  ·exact⟨o,keep c o (I.cne x c e) hc nch ho (I.freeC x c e),hd⟩
 refine⟨I.ok,I.os,hg,⟨fun b o e n hb hx=> ?_,fun b o e n hb hx=> ?_,fun b o e n hx=> ?_,fun b o e hx=> ?_,fun b xs e=>tups b xs (I.base.tups b xs e),fun b o xs e=>frzs b o xs (I.base.frzs b o xs e),fun b ps e=> ?_⟩, ?_,fun x c e=> ?_, ?_,fun x c e=> ?_,fun p hp=> ?_,hok,I.len⟩
 ·exact keep b o (neL b o e) hb (neC b o e hx) (I.base.keep b o e n hb hx) (I.base.free b o e n hx)
 ·obtain ⟨sl,e1⟩:=I.base.slot b o e n hb hx
  obtain⟨sl',e2⟩:=slot b _ (neL b o e) hb (neC b o e hx) e1 (I.base.free b o e n hx)
  exact⟨sl',e2⟩
 ·obtain ⟨o',e1⟩:=I.base.there b o e hx
  exact free b o' (neC b o e hx) e1 (I.base.free b o e n hx)
 ·obtain ⟨o',e1⟩:=I.base.there b o e hx
  exact there b o' (neC b o e hx) e1
 ·obtain ⟨m1,e1⟩:=I.base.tbls b ps e
  obtain⟨m2,e2⟩:=tbls b _ e1
  exact⟨m1++m2,by rw[e2,Array.append_assoc]⟩
 ·obtain ⟨m,hn,hl⟩:=I.loc
  refine⟨m,ns m hn,fun i x v e1 e2 e3=> ?_⟩
  obtain⟨u,r,l⟩:=hl i x v e1 e2 e3
  refine⟨u,r, ?_⟩
  rcases l with l|⟨k,c,e,z⟩
  ·exact .inl l
  ·exact .inr ⟨k,c,e,cellK x c e _ z⟩
 ·obtain ⟨v,z⟩:=I.cell x c e
  exact⟨v,cellK x c e v z⟩
 ·obtain ⟨m,⟨o,_,_,ho,_⟩,_⟩:=I.loc
  exact free _ o (fun z=>(hch _ z).2.1 rfl) ho I.free
 ·obtain ⟨v,o,ho,hd⟩:=I.cell x c e
  exact free c o (fun z=>(hch c z).2.2.1 x c e rfl) ho (I.freeC x c e)
 ·obtain ⟨e,n,ne,nf,d⟩:=I.pin p hp
  have nch:p.1∉ch:=fun z=>(hch p.1 z).2.2.2 p hp rfl
  exact⟨keep p.1 p.2 ne nf nch e n,free p.1 p.2 nch e n,ne,nf,d⟩
theorem Inv.un {t':Nat}(I:Inv X pins σ H s)(u:Un X.fs [] H H' s.heap h')(hok:HOk X.prog X.w H' h'):Inv X pins σ H' {s with heap:=h',toks:=t'}:=by
 obtain⟨m,⟨o,es,ep,ho,r⟩,_⟩:=id I.loc
 obtain⟨sl,hL⟩:=u.any ho I.free (by simp)
 exact I.step (g':=s.gens) (d':=s.drawn) (ch:=[]) (fun _ z=>nomatch z) (fun b o _ hb _ e n=>u.keep b o e n hb (by simp)) (fun b o _ hb _ e n=>u.slot b o e n hb (by simp)) (fun b o _ e n=>u.free b o e n (by simp)) (fun b o _ e=>u.there b o e (by simp)) u.tups u.frzs u.tbls (fun m' hm=>by
  obtain⟨o',es',ep',ho',r'⟩:=hm
  rw[ho] at ho';cases ho'
  exact⟨_,es',ep',hL,r'⟩) hok I.bare
theorem Inv.call {g':Array GenState}{t':Nat}{d':Drawn}{ch:List Addr}(I:Inv X pins σ H s)(u:Un (frs X.stack) ch H H' s.heap h')(hok:HOk X.prog X.w H' h')(hg:AllBare g')
  (hch:∀b∈ch,(b∈X.ex∨X.s₀.heap.objs.size<=b)/\b≠X.env.locals/\(∀x c,X.env.cells.lookup x=some c->c≠b)/\∀p∈X.pn++pins,p.1≠b):
  Inv X pins σ H' {s with heap:=h',gens:=g',drawn:=d',toks:=t'}:=by
 obtain⟨m,⟨o,es,ep,ho,r⟩,_⟩:=id I.loc
 obtain⟨sl,hL⟩:=u.any ho I.free fun z=>(hch _ z).2.1 rfl
 exact I.step (ch:=ch) hch (fun b o hL hb hc e n=>u.keep b o e n (fun z=>(List.mem_cons.mp (I.stkSub b z)).elim hL hb) hc) (fun b o _ _ hc e n=>u.any e n hc) (fun b o hc e n=>u.free b o e n hc) (fun b o hc e=>u.there b o e hc) u.tups u.frzs u.tbls (fun m' hm=>by
  obtain⟨o',es',ep',ho',r'⟩:=hm
  rw[ho] at ho';cases ho'
  exact⟨_,es',ep',hL,r'⟩) hok hg
theorem Inv.turned {t':Nat}{it:Addr}(I:Inv X pins σ H s)(k:∀b o,b≠it->s.heap.get? b=some o->h'.get? b=some o)(hn:H it=none)(hL:it≠X.env.locals)
  (h1:it∈X.ex∨X.s₀.heap.objs.size<=it) (h2:∀x c,X.env.cells.lookup x=some c->c≠it) (h3:∀p∈X.pn++pins,p.1≠it):Inv X pins σ H {s with heap:=h',toks:=t'}:=by
 have nit:∀b u,H b=some u->b≠it:=fun b u e z=>by rw[z,hn] at e;cases e
 refine I.step (g':=s.gens) (d':=s.drawn) (ch:=[it]) (fun b hb=> ?_) (fun b o _ _ hc e _=>k b o (fun z=>hc (by simp[z])) e) (fun b o _ _ hc e _=>⟨o.slots,k b o (fun z=>hc (by simp[z])) e⟩) (fun _ _ _ _ n=>n)
  (fun b o hc e=>⟨o,k b o (fun z=>hc (by simp[z])) e⟩) (fun _ _ e=>e) (fun _ _ _ e=>e) (fun b ps e=>⟨#[],by rw[e];simp⟩) (fun m hm=> ?_) (fun b u e=> ?_) I.bare
 ·have e:b=it:=by simpa using hb
  subst e
  exact⟨h1,hL,h2,h3⟩
 ·obtain ⟨o,es,ep,ho,r⟩:=hm
  exact⟨o,es,ep,k _ o (Ne.symm hL) ho,r⟩
 ·refine (I.hok b u e).stay (fun c v hc q=>k c v ?_ q) (fun _ q=>q) fun _ _ q=>q
  rcases hc with z|z
  ·rw[z];exact nit b u e
  ·exact nit c _ z
theorem Inv.tok (I:Inv X pins σ H s)(t:Nat):Inv X pins σ H {s with toks:=t}:=I.un (h':=s.heap) (t':=t) Un.refl I.hok
theorem Inv.kept {t':Nat}(I:Inv X pins σ H s)(k:∀b u,s.heap.get? b=some u->h'.get? b=some u):Inv X pins σ H {s with heap:=h',toks:=t'}:=I.un (Un.kept k) (I.hok.kept k)
theorem Inv.laid {a:Addr}{o:HO}{t':Nat}(I:Inv X pins σ H s)(k:∀b u,s.heap.get? b=some u->h'.get? b=some u)(hp:s.heap.objs.size<=a)(new:ObjOk X.prog X.w (upd H a o) h' a o):
  Inv X pins σ (upd H a o) {s with heap:=h',toks:=t'}:=I.un (Un.laid k hp (I.hok.fresh hp)) (I.hok.laid k hp new)
theorem Inv.write {x e:Addr}{o:HO}{t':Nat}(I:Inv X pins σ H s)(mu:Mut (H x))(he:e=x∨H e=some (.own x))(k:∀b u,b≠e->s.heap.get? b=some u->h'.get? b=some u)(heo:∃u,h'.get? e=some u)
  (new:ObjOk X.prog X.w (upd H x o) h' x o):Inv X pins σ (upd H x o) {s with heap:=h',toks:=t'}:=I.un (Un.write mu he k heo) (I.hok.write mu he k heo new)
theorem Inv.weak {σ':List (Option V)}(I:Inv X pins σ H s)(hl:σ'.length=σ.length)(w:∀(i:Nat) v,σ'[i]? =some (some v)->σ[i]? =some (some v)):Inv X pins σ' H s:=
 ⟨I.ok,I.os,I.bare,I.base,let ⟨m,hn,hl'⟩:=I.loc;⟨m,hn,fun i x v e1 e2 e3=>hl' i x v e1 (w i v e2) e3⟩,I.cell,I.free,I.freeC,I.pin,I.hok,hl.trans I.len⟩
theorem Inv.pins_of {pins':List (Addr×Obj)}(I:Inv X pins σ H s)(h:∀p∈pins',s.heap.get? p.1=some p.2/\H p.1=none/\p.1≠X.env.locals/\p.1∉X.fs/\∀v,p.2.data≠.cell v):Inv X pins' σ H s:=
 ⟨I.ok,I.os,I.bare,I.base,I.loc,I.cell,I.free,I.freeC,fun p hp=>(List.mem_append.mp hp).elim (fun z=>I.pin p (List.mem_append_left _ z)) (h p),I.hok,I.len⟩
theorem zeO {N:List Str}(hN:N.Nodup){i j:Nat}{x:Str}(a:N[i]? =some x)(b:N[j]? =some x):i=j:=by
 obtain⟨h1,e1⟩:=List.getElem?_eq_some_iff.mp a
 obtain⟨h2,e2⟩:=List.getElem?_eq_some_iff.mp b
 exact (List.getElem_inj hN).mp (e1.trans e2.symm)
theorem zfx {M:Model}{A:Around}{E:Value->Shared->Prop}{i:Nat}{x:Str}{v:V}{u:Value}{Q:Unit->Shared->Prop}(I:Inv X pins σ H s)(hN:X.N.Nodup)(hi:X.N[i]? =some x)(hx:Loc X.env.scope x)(r:RelV v u)
  (h:∀s',Inv X pins (σ.set i (some v)) H s'->(∃a,Heap.SameBut a s.heap s'.heap/\(a=X.env.locals∨X.env.cells.lookup x=some a))->Q () s') (hf:X.fn x=true∨X.env.scope.names.lookup x=some .local:=by first|exact .inl rfl|exact .inr rfl|assumption):wpAny M A (storeName X.env x u) Q E s:=by
 obtain⟨m,hn,hl⟩:=id I.loc
 have hcls:(X.env.scope.kind==.class||(X.env.scope.kind==.module&&X.env.locals != X.env.globals))=false:=by rw[I.ok.kind];rfl
 have hiσ:i<σ.length:=by rw[I.len];exact (List.getElem?_eq_some_iff.mp hi).1
 have cne:=I.cne
 have tracked:∀{a:Addr} {h':Heap},(∃o,s.heap.get? a=some o/\H a=none)->Heap.SameBut a s.heap h'->HOk X.prog X.w H h':=fun {a h'} ha hs b ob e=>by
  obtain⟨_,_,hfree⟩:=ha
  refine (I.hok b ob e).stay (fun c w' hc q=>(hs.2 c ?_).trans q) (fun _ q=>q) fun _ _ q=>q
  rintro rfl
  rcases hc with rfl|hc
  ·rw[hfree] at e;cases e
  ·rw[hfree] at hc;cases hc
 rcases hx with hk|hk
 ·refine wpAny_storeName_local hk hn (fun h' hn' hs=> ?_) hcls
  obtain⟨oL,_,_,hoL,_⟩:=id hn
  refine h _ ⟨I.ok,I.os,I.bare,⟨fun b o e n hb hx=> ?_,fun b o e n hb hx=> ?_,I.base.free,fun b o e hx=> ?_,I.base.tups,I.base.frzs,I.base.tbls⟩,⟨_,hn',fun j y v' e1 e2 e3=> ?_⟩,fun y c e=> ?_,I.free,I.freeC,fun p hp=> ?_,tracked ⟨oL,hoL,I.free⟩ hs,by simpa using I.len⟩ ⟨_,hs,.inl rfl⟩
  ·exact (hs.2 b (Nat.ne_of_lt (Nat.lt_of_lt_of_le (Heap.lt_size e) I.ok.above))).trans (I.base.keep b o e n hb hx)
  ·obtain ⟨sl,e1⟩:=I.base.slot b o e n hb hx
   exact⟨sl,(hs.2 b (Nat.ne_of_lt (Nat.lt_of_lt_of_le (Heap.lt_size e) I.ok.above))).trans e1⟩
  ·obtain ⟨o',e1⟩:=I.base.there b o e hx
   exact⟨o',(hs.2 b (Nat.ne_of_lt (Nat.lt_of_lt_of_le (Heap.lt_size e) I.ok.above))).trans e1⟩
  ·by_cases hj:j=i
   ·subst hj
    rw[hi] at e1;cases e1
    rw[List.getElem?_set_self hiσ] at e2
    cases e2
    exact⟨u,r,.inl ⟨hk,by simp⟩⟩
   ·rw [List.getElem?_set_ne (Ne.symm hj)] at e2
    obtain⟨u',r',q⟩:=hl j y v' e1 e2 e3
    refine⟨u',r', ?_⟩
    rcases q with⟨k,e⟩|⟨k,c,e,z⟩
    ·refine .inl ⟨k, ?_⟩
     have:y≠x:=fun e=>hj (zeO hN e1 (e▸hi))
     simp[this,e]
    ·exact .inr ⟨k,c,e,z.sameBut hs (cne y c e)⟩
  ·obtain ⟨w',z⟩:=I.cell y c e
   exact⟨w',z.sameBut hs (cne y c e)⟩
  ·obtain ⟨e,n,ne,nf,d⟩:=I.pin p hp
   exact⟨(hs.2 p.1 ne).trans e,n,ne,nf,d⟩
 ·have hfn:X.fn x=true:=by
   rcases hf with z|z
   ·exact z
   ·rw[z] at hk;cases hk
  obtain⟨c,hc⟩:=I.ok.has x (.inl hk)
  obtain⟨w',z⟩:=I.cell x c hc
  refine wpAny_storeName_cell I.ok.kind hk hc z (fun h' hc' hs=> ?_)
  obtain⟨oc,hoc,hocd⟩:=id z
  refine h {s with heap:=h'} ⟨I.ok,I.os,I.bare,⟨fun b o e n hb hx=> ?_,fun b o e n hb hx=> ?_,I.base.free,fun b o e hx=> ?_,I.base.tups,I.base.frzs,I.base.tbls⟩,⟨m,hn.sameBut hs (Ne.symm (cne x c hc)),fun j y v' e1 e2 e3=> ?_⟩,fun y c' e=> ?_,I.free,I.freeC,fun p hp=> ?_,tracked ⟨oc,hoc,I.freeC x c hc⟩ hs,by simpa using I.len⟩ ⟨c,hs,.inr hc⟩
  ·exact (hs.2 b (Nat.ne_of_lt (Nat.lt_of_lt_of_le (Heap.lt_size e) (I.ok.cab x c hfn hc)))).trans (I.base.keep b o e n hb hx)
  ·obtain ⟨sl,e1⟩:=I.base.slot b o e n hb hx
   exact⟨sl,(hs.2 b (Nat.ne_of_lt (Nat.lt_of_lt_of_le (Heap.lt_size e) (I.ok.cab x c hfn hc)))).trans e1⟩
  ·obtain ⟨o',e1⟩:=I.base.there b o e hx
   exact⟨o',(hs.2 b (Nat.ne_of_lt (Nat.lt_of_lt_of_le (Heap.lt_size e) (I.ok.cab x c hfn hc)))).trans e1⟩
  ·by_cases hj:j=i
   ·subst hj
    rw[hi] at e1;cases e1
    rw[List.getElem?_set_self hiσ] at e2
    cases e2
    exact⟨u,r,.inr ⟨.inl hk,c,hc,hc'⟩⟩
   ·rw [List.getElem?_set_ne (Ne.symm hj)] at e2
    obtain⟨u',r',q⟩:=hl j y v' e1 e2 e3
    refine⟨u',r', ?_⟩
    rcases q with q|⟨k,c',e,z'⟩
    ·exact .inl q
    ·refine .inr ⟨k,c',e,z'.sameBut hs ?_⟩
     rintro rfl
     exact hj (zeO hN e1 (I.ok.inj _ _ _ e hc▸hi))
  ·by_cases hcc:c'=c
   ·subst hcc;exact⟨_,hc'⟩
   ·obtain ⟨w2,z2⟩:=I.cell y c' e
    exact⟨w2,z2.sameBut hs hcc⟩
  ·obtain ⟨e,n,ne,nf,d⟩:=I.pin p hp
   refine⟨(hs.2 p.1 ?_).trans e,n,ne,nf,d⟩
   intro q
   rw[q,hoc] at e
   have q':oc=p.2:=Option.some.inj e
   exact d w' (by rw[<-q'];exact hocd)
theorem za0 {M:Model}{A:Around}{E:Value->Shared->Prop}{i:Nat}{x:Str}{v:V}{u:Value}{Q:Unit->Shared->Prop}(I:Inv X pins σ H s)(hN:X.N.Nodup)(hi:X.N[i]? =some x)(hx:Loc X.env.scope x)(r:RelV v u)
  (h:∀s',Inv X pins (σ.set i (some v)) H s'->Q () s') (hf:X.fn x=true∨X.env.scope.names.lookup x=some .local:=by first|exact .inl rfl|exact .inr rfl|assumption):wpAny M A (storeName X.env x u) Q E s:=
 zfx I hN hi hx r (fun s' I' _=>h s' I') hf
theorem Inv.call' {s':Shared}{ch:List Addr}(I:Inv X pins σ H s)(ho:s'.os=s.os)(u:Un (frs X.stack) ch H H' s.heap s'.heap)(hok:HOk X.prog X.w H' s'.heap)(hg:AllBare s'.gens)
  (hch:∀b∈ch,(b∈X.ex∨X.s₀.heap.objs.size<=b)/\b≠X.env.locals/\(∀x c,X.env.cells.lookup x=some c->c≠b)/\∀p∈X.pn++pins,p.1≠b):Inv X pins σ H' s':=by
 obtain⟨h',g',d',t',o'⟩:=s'
 have e:o'=s.os:=ho
 subst e
 exact I.call (g':=g') (t':=t') (d':=d') u hok hg hch
end
noncomputable abbrev XK:=Value->Option Addr->Hp->Prop
noncomputable abbrev St:=List (Option V)
noncomputable abbrev VK:=V->Hp->Prop
noncomputable abbrev TE:=St->Hp->VK->Prop
noncomputable abbrev TT:=St->Hp->(Bool->Hp->Prop)->Prop
noncomputable abbrev TA:=St->Hp->(List V->Hp->Prop)->Prop
structure Ends where
 nx:St->Hp->Prop
 rt:VK
 bk:St->Hp->Prop:=fun _ _=>False
 ct:St->Hp->Prop:=fun _ _=>False
noncomputable abbrev TS:=Ends->St->Hp->Prop
noncomputable def EP (X:Cx)(pins:List (Addr×Obj))(σ:St)(Q:VK)(u:Value)(s':Shared):Prop:=∃v H',Inv X pins σ H' s'/\RelV v u/\Q v H'
noncomputable def TP (X:Cx)(pins:List (Addr×Obj))(σ:St)(Q:Bool->Hp->Prop)(b:Bool)(s':Shared):Prop:=∃H',Inv X pins σ H' s'/\Q b H'
noncomputable def AP (X:Cx)(pins:List (Addr×Obj))(σ:St)(Q:List V->Hp->Prop)(us:List Value)(s':Shared):Prop:=∃vs H',Inv X pins σ H' s'/\Vals vs us/\Q vs H'
noncomputable def SP (X:Cx)(pins:List (Addr×Obj))(D:Ends)(f:Flow)(s':Shared):Prop:=
 match f with
 | .next=>∃σ' H',Inv X pins σ' H' s'/\D.nx σ' H'
 | .brk=>∃σ' H',Inv X pins σ' H' s'/\D.bk σ' H'
 | .cont=>∃σ' H',Inv X pins σ' H' s'/\D.ct σ' H'
 | .ret u=>∃v σ' H',Inv X pins σ' H' s'/\RelV v u/\D.rt v H'
noncomputable def PE (X:Cx)(e:Expr)(t:TE):Prop:=
 ∀(pins:List (Addr×Obj)) (s:Shared) (σ:St) (H:Hp) (Q:VK),Inv X pins σ H s->t σ H Q->wpAny (model X.prog X.w) X.A (eval e X.env) (EP X pins σ Q) X.xe s
noncomputable def PT (X:Cx)(e:Expr)(t:TT):Prop:=
 ∀(pins:List (Addr×Obj)) (s:Shared) (σ:St) (H:Hp) (Q:Bool->Hp->Prop),Inv X pins σ H s->t σ H Q->wpAny (model X.prog X.w) X.A (isTrue e X.env (eval e X.env)) (TP X pins σ Q) X.xe s
noncomputable def PW (X:Cx)(e:Expr)(t:TT):Prop:=
 ∀(whole:Sem Value) (pins:List (Addr×Obj)) (s:Shared) (σ:St) (H:Hp) (Q:Bool->Hp->Prop),Inv X pins σ H s->t σ H Q->wpAny (model X.prog X.w) X.A (isTrue e X.env whole) (TP X pins σ Q) X.xe s
theorem PW.pt {X:Cx}{e:Expr}{t:TT}(h:PW X e t):PT X e t:=h _
noncomputable def PA (X:Cx)(es:List Expr)(t:TA):Prop:=
 ∀(pos:Pos) (pins:List (Addr×Obj)) (s:Shared) (σ:St) (H:Hp) (Q:List V->Hp->Prop),Inv X pins σ H s->t σ H Q->wpAny (model X.prog X.w) X.A (spliced (backTo pos (starEach es X.env))) (AP X pins σ Q) X.xe s
noncomputable def PS (X:Cx)(st:Stmt)(t:TS):Prop:=
 ∀(pins:List (Addr×Obj)) (s:Shared) (σ:St) (H:Hp) (D:Ends),Inv X pins σ H s->t D σ H->wpAny (model X.prog X.w) X.A (exec st X.env) (SP X pins D) X.xe s
noncomputable def PSs (X:Cx)(st:List Stmt)(t:TS):Prop:=
 ∀(pins:List (Addr×Obj)) (s:Shared) (σ:St) (H:Hp) (D:Ends),Inv X pins σ H s->t D σ H->wpAny (model X.prog X.w) X.A (execs st X.env) (SP X pins D) X.xe s
theorem thn {α:Type}{t:Sem α}{Q Q':α->Shared->Prop}{M:Model}{A:Around}{E:Value->Shared->Prop}{s:Shared}(h:wpAny M A t Q E s)(hQ:∀a s,Q a s->Q' a s):wpAny M A t Q' E s:=wpAny_mono h hQ fun _ _ x=>x
section
variable {X:Cx}
noncomputable def tVar (i:Nat):TE:=fun σ H Q=>∃v,σ[i]? =some (some v)/\Q v H
noncomputable def tC (v:V):TE:=fun _ H Q=>Q v H
theorem zij {i:Nat}{x:Str}{pos:Pos}(hN:X.N[i]? =some x)(hv:Vis X.env.scope x)(hd:(x==("__debug__" :Str))=false:=by decide)(hcd:(x==("__classdict__" :Str))=false:=by decide):PE X (.Name x pos) (tVar i):=by
 intro pins s σ H Q I h
 obtain⟨v,e,h⟩:=h
 obtain⟨m,hn,hl⟩:=I.loc
 obtain⟨u,r,l⟩:=hl i x v hN e hv
 have fin:EP X pins σ Q u s:=⟨v,H,I,r,h⟩
 rcases l with⟨hk,hm⟩|⟨hk,c,hc,hcell⟩
 ·exact wpAny_Name (wpAny_loadName_local I.ok.kind hk hn hm fin) hd
 ·rcases hk with hk|hk
  ·exact wpAny_Name (wpAny_loadName_cell I.ok.kind hk hc hcell fin) hd
  ·exact wpAny_Name (wpAny_loadName_free I.ok.kind hk hc hcell fin hcd) hd
theorem pe_int {i j pos}:PE X (.Constant (.int i) j pos) (tC (.int i)):=fun _ _ _ H _ I h=>wpAny_Constant_int ⟨.int i,H,I.tok _,⟨_,rfl⟩,h⟩
theorem pe_bl {b j pos}:PE X (.Constant (.bool b) j pos) (tC (.bl b)):=fun _ _ _ H _ I h=>Constant_bool ⟨.bl b,H,I,rfl,h⟩
theorem pe_non {j pos}:PE X (.Constant .none j pos) (tC .non):=fun _ _ _ H _ I h=>Constant_none ⟨.non,H,I,rfl,h⟩
theorem pe_str {x j pos}:PE X (.Constant (.str x) j pos) (tC (.str x)):=fun _ _ _ H _ I h=>Calls.Constant_str ⟨.str x,H,I.tok _,⟨_,rfl⟩,h⟩
noncomputable def Gl (X:Cx)(x:Str):Prop:=X.env.kindOf x=some .globalImplicit
theorem zfy {E:Value->Shared->Prop}{pins:List (Addr×Obj)}{s:Shared}{σ:St}{H:Hp}{x:Str}{u:Value}{pos:Pos}{Q:Value->Shared->Prop}(I:Inv X pins σ H s)(hg:Gl X x)(hm:X.mg x=some u)(h:Q u s)
  (hd:(x==("__debug__" :Str))=false:=by decide):wpAny (model X.prog X.w) X.A (eval (.Name x pos) X.env) Q E s:=
 Calls.Name_function_global I.ok.kind hg (Calls.loadGlobal_global (by rw[I.ok.glob];exact I.mod.glob.keeps I.bk) hm h) hd
theorem zck {E:Value->Shared->Prop}{pins:List (Addr×Obj)}{s:Shared}{σ:St}{H:Hp}{x:Str}{u:Value}{pos:Pos}{Q:Value->Shared->Prop}(I:Inv X pins σ H s)(hg:Gl X x)(hm:X.mg x=none)(hv:bootBuiltins x=some u)(h:Q u s)
  (hn:x≠ "__name__" :=by decide) (hd:(x==("__debug__" :Str))=false:=by decide):wpAny (model X.prog X.w) X.A (eval (.Name x pos) X.env) Q E s:=by
 obtain⟨mb,h1,h2⟩:=I.mod.blt
 exact Calls.Name_function_global I.ok.kind hg (Calls.loadGlobal_builtin (by rw[I.ok.glob];exact I.mod.glob.keeps I.bk) hm (by rw[I.ok.blt];exact h1.keeps I.bk) ((h2 x hn).trans hv) h) hd
theorem zbd {x:Str}{v:V}{u:Value}{pos:Pos}(hg:Gl X x)(hm:X.mg x=some u)(r:RelV v u)(hd:(x==("__debug__" :Str))=false:=by decide):PE X (.Name x pos) (tC v):=
 fun _ _ _ H _ I h=>zfy I hg hm ⟨v,H,I,r,h⟩ hd
theorem pe_bltn {x:Str}{v:V}{u:Value}{pos:Pos}(hg:Gl X x)(hm:X.mg x=none)(hv:bootBuiltins x=some u)(r:RelV v u)(hn:x≠ "__name__" :=by decide)(hd:(x==("__debug__" :Str))=false:=by decide):PE X (.Name x pos) (tC v):=
 fun _ _ _ H _ I h=>zck I hg hm hv ⟨v,H,I,r,h⟩ hn hd
variable {a b:Expr}{ta tb:TE}{pos:Pos}
noncomputable def tB (t:TE):TT:=fun σ H Q=>t σ H fun x H1=>∃c,x=.bl c/\Q c H1
theorem pt_val {e:Expr}{t:TE}(h:PE X e t)(he:∀whole,isTrue e X.env whole=(do let v<-whole;standAt e.pos;holding [v] (truthy v)):=by intro _;rfl):PT X e (tB t):=by
 intro pins s σ H Q I hw
 refine isTrue_plain (thn (h pins s σ H _ I hw) fun v s1 zq=> ?_) (he _)
 obtain⟨x,H1,I1,r1,q1⟩:=zq
 obtain⟨d,rfl,q⟩:=q1
 cases r1
 exact wpAny_truthy_bool ⟨H1,I1,q⟩
variable {tA tB':TT}{rest:List Expr}
noncomputable def tAnd (t u:TT):TT:=fun σ H Q=>t σ H fun c H1=>if c=true then u σ H1 Q else Q false H1
noncomputable def tOr (t u:TT):TT:=fun σ H Q=>t σ H fun c H1=>if c=true then Q true H1 else u σ H1 Q
noncomputable def tNot (t:TT):TT:=fun σ H Q=>t σ H fun c H1=>Q (!c) H1
theorem zbO (ha:PT X a tA):PW X (.BoolOp .And [a] pos) tA:=by
 intro wh pins s σ H Q I h
 refine isTrue_and (thn (ha pins s σ H Q I h) fun c s1 e=> ?_)
 cases c with
 |true=>exact isTrue_and_nil e
 |false=>exact e
theorem pw_or1 (ha:PT X a tA):PW X (.BoolOp .Or [a] pos) tA:=by
 intro wh pins s σ H Q I h
 refine isTrue_or (thn (ha pins s σ H Q I h) fun c s1 e=> ?_)
 cases c with
 |false=>exact isTrue_or_nil e
 |true=>exact e
theorem zc2 (ha:PT X a tA)(hb:PW X (.BoolOp .And (b::rest) pos) tB'):PW X (.BoolOp .And (a::b::rest) pos) (tAnd tA tB'):=by
 intro wh pins s σ H Q I h
 refine isTrue_and (thn (ha pins s σ H _ I h) fun c s1 zq=> ?_)
 obtain⟨H1,I1,q1⟩:=zq
 cases c with
 |true=>exact hb wh pins s1 σ H1 Q I1 q1
 |false=>exact⟨H1,I1,q1⟩
theorem pw_or (ha:PT X a tA)(hb:PW X (.BoolOp .Or (b::rest) pos) tB'):PW X (.BoolOp .Or (a::b::rest) pos) (tOr tA tB'):=by
 intro wh pins s σ H Q I h
 refine isTrue_or (thn (ha pins s σ H _ I h) fun c s1 zq=> ?_)
 obtain⟨H1,I1,q1⟩:=zq
 cases c with
 |true=>exact⟨H1,I1,q1⟩
 |false=>exact hb wh pins s1 σ H1 Q I1 q1
theorem pt_not (ha:PT X a tA):PT X (.UnaryOp .Not a pos) (tNot tA):=by
 intro pins s σ H Q I h
 exact isTrue_not (ha pins s σ H (fun c H1=>Q (!c) H1) I h)
noncomputable def zgI (ta tb:TE):TE:=fun σ H Q=>ta σ H fun x H1=>∃c,x=.bl c/\if c=true then tb σ H1 Q else Q (.bl false) H1
noncomputable def zi4 (ta:TE):TE:=fun σ H Q=>ta σ H fun x H1=>∃c,x=.bl c/\Q (.bl (!c)) H1
theorem pe_one {op}{t:TE}(h:PE X a t):PE X (.BoolOp op [a] pos) t:=fun pins s σ H Q I hw=>BoolOp_one (h pins s σ H Q I hw)
theorem pe_and (ha:PE X a ta)(hb:PE X (.BoolOp .And (b::rest) pos) tb):PE X (.BoolOp .And (a::b::rest) pos) (zgI ta tb):=by
 intro pins s σ H Q I h
 refine BoolOp_and (thn (ha pins s σ H _ I h) fun v s1 zq=> ?_)
 obtain⟨x,H1,I1,r1,q1⟩:=zq
 obtain⟨c,rfl,q1⟩:=q1
 cases r1
 refine wpAny_truthy_bool ?_
 cases c with
 |true=>exact hb pins s1 σ H1 Q I1 q1
 |false=>exact⟨.bl false,H1,I1,rfl,q1⟩
theorem zdH (ha:PE X a ta):PE X (.UnaryOp .Not a pos) (zi4 ta):=by
 intro pins s σ H Q I h
 refine UnaryOp_ (thn (ha pins s σ H _ I h) fun v s1 zq=> ?_)
 obtain⟨x,H1,I1,r1,q1⟩:=zq
 obtain⟨c,rfl,q1⟩:=q1
 cases r1
 exact not_of (wpAny_truthy_bool ⟨.bl (!c),H1,I1,rfl,q1⟩)
noncomputable def tIf (t:TT)(ta tb:TE):TE:=fun σ H Q=>t σ H fun c H1=>if c=true then ta σ H1 Q else tb σ H1 Q
theorem pe_ifExp {c:Expr}(hc:PT X c tA)(ha:PE X a ta)(hb:PE X b tb):PE X (.IfExp c a b pos) (tIf tA ta tb):=by
 intro pins s σ H Q I h
 refine wpAny_IfExp (thn (hc pins s σ H _ I h) fun d s1 zq=> ?_)
 obtain⟨H1,I1,q1⟩:=zq
 cases d with
 |true=>exact ha pins s1 σ H1 Q I1 q1
 |false=>exact hb pins s1 σ H1 Q I1 q1
end
noncomputable def SqL (K:PySem.W.Frag)(H:Hp)(a:Addr)(xs:List V):Prop:=
 Rd H a (.lst xs)∨
  ∃(o:Obj) (its:Array Value) (n:Nat),K.lookup a=some o/\o.cls=.type "list" /\o.dict=none/\o.data=.seq its n/\its.size<=sizeLine/\Vals xs its.toList
noncomputable def SqT (K:PySem.W.Frag)(H:Hp)(a:Addr)(xs:List V):Prop:=
 Rd H a (.tup xs)∨
  ∃(o:Obj) (its:Array Value) (n:Nat),K.lookup a=some o/\o.cls=.type "tuple" /\o.data=.seq its n/\its.size<=sizeLine/\Vals xs its.toList
noncomputable def absV:Value->Option V
 | .none=>some .non
 | .bool b=>some (.bl b)
 | .int i _=>some (.int i)
 | .str x _=>some (.str x)
 | .bytes b _=>some (.byt b)
 | .float b _=>some (.flt b)
 | .ref a=>some (.ref a)
 | .type n=>some (.ty n)
 |_=>none
theorem RelV.abs {x:V}{u:Value}(r:RelV x u):absV u=some x:=by
 cases x with
 |non=>cases r;rfl
 |bl _=>cases r;rfl
 |int _=>obtain⟨t,rfl⟩:=r;rfl
 |str _=>obtain⟨t,rfl⟩:=r;rfl
 |byt _=>obtain⟨t,rfl⟩:=r;rfl
 |flt _=>obtain⟨t,rfl⟩:=r;rfl
 |ref _=>cases r;rfl
 |ty _=>cases r;rfl
theorem RelV.inj {x y:V}{u:Value}(r:RelV x u)(q:RelV y u):x=y:=Option.some.inj (r.abs.symm.trans q.abs)
theorem Vals.inj:∀{xs ys:List V} {us:List Value},Vals xs us->Vals ys us->xs=ys
 |_,_,_,.nil,.nil=>rfl
 |_,_,_,.cons r t,.cons r' t'=>by rw[r.inj r',Vals.inj t t']
section
variable {X:Cx}{pins:List (Addr×Obj)}{σ:St}{H:Hp}{s:Shared}{a:Addr}{xs ys:List V}
theorem SqL.of {K:PySem.W.Frag}(h:H a=some (.lst xs)):SqL K H a xs:=.inl (.inl h)
theorem SqT.of {K:PySem.W.Frag}(h:H a=some (.tup xs)):SqT K H a xs:=.inl (.inl h)
theorem Inv.list (I:Inv X pins σ H s)(h:SqL X.K H a xs):∃its:List Value,Vals xs its/\PlainL s.heap a its.toArray/\xs.length<=sizeLine:=by
 rcases h with h|⟨o,its,n,hk,hc,hd,hs,hz,r⟩
 ·obtain ⟨z,its,n,r,e⟩:=h.ok I.hok
  exact⟨its,r,⟨_,n,e,rfl,rfl,rfl⟩,z⟩
 ·refine ⟨its.toList,r,⟨o,n,I.kIn a o hk,hc,hd,by simpa using hs⟩, ?_⟩
  have e:=r.length
  simp only[Array.length_toList] at e
  (first|lia|omega)
theorem Inv.tuple (I:Inv X pins σ H s)(h:SqT X.K H a xs):∃its:List Value,Vals xs its/\IsTup s.heap a its.toArray/\xs.length<=sizeLine:=by
 rcases h with h|⟨o,its,n,hk,hc,hs,hz,r⟩
 ·obtain ⟨z,its,r,p⟩:=h.ok I.hok
  exact⟨its,r,p.tup,z⟩
 ·refine ⟨its.toList,r,⟨o,I.kIn a o hk,hc,n,by simpa using hs⟩, ?_⟩
  have e:=r.length
  simp only[Array.length_toList] at e
  (first|lia|omega)
theorem Inv.list_inj (I:Inv X pins σ H s)(h:SqL X.K H a xs)(h':SqL X.K H a ys):xs=ys:=by
 obtain⟨its,r,⟨o,n,e,_,_,d⟩,_⟩:=I.list h
 obtain⟨its',r',⟨o',n',e',_,_,d'⟩,_⟩:=I.list h'
 rw[e] at e';cases e'
 rw[d] at d'
 injection d' with d1 _
 have:its=its':=by simpa using congrArg Array.toList d1
 subst this
 exact r.inj r'
theorem Inv.tuple_inj (I:Inv X pins σ H s)(h:SqT X.K H a xs)(h':SqT X.K H a ys):xs=ys:=by
 obtain⟨its,r,⟨o,e,_,n,d⟩,_⟩:=I.tuple h
 obtain⟨its',r',⟨o',e',_,n',d'⟩,_⟩:=I.tuple h'
 rw[e] at e';cases e'
 rw[d] at d'
 injection d' with d1 _
 have:its=its':=by simpa using congrArg Array.toList d1
 subst this
 exact r.inj r'
end
noncomputable abbrev Cx.wish (X:Cx)(E:Value->Shared->Prop):Cx:={X with xe:=E}
noncomputable abbrev Cx.nox (X:Cx):Cx:=X.wish fun _ _=>False
theorem Cx.Ok.wish {X:Cx}(ok:X.Ok)(E:Value->Shared->Prop):(X.wish E).Ok:=
 ⟨ok.mod,ok.kind,ok.glob,ok.blt,ok.above,ok.inj,ok.has,ok.cab,ok.hd,ok.frames,ok.stk,ok.exf,ok.bs,ok.bsz,ok.noex,ok.exfs,ok.funs,ok.frf⟩
theorem Cx.Ok.unwish {X:Cx}{E:Value->Shared->Prop}(ok:(X.wish E).Ok):X.Ok:=
 ⟨ok.mod,ok.kind,ok.glob,ok.blt,ok.above,ok.inj,ok.has,ok.cab,ok.hd,ok.frames,ok.stk,ok.exf,ok.bs,ok.bsz,ok.noex,ok.exfs,ok.funs,ok.frf⟩
section
variable {X:Cx}{pins:List (Addr×Obj)}{σ:St}{H:Hp}{s:Shared}{E:Value->Shared->Prop}
theorem Inv.wish (I:Inv X pins σ H s)(E:Value->Shared->Prop):Inv (X.wish E) pins σ H s:=⟨I.ok.wish E,I.os,I.bare,I.base,I.loc,I.cell,I.free,I.freeC,I.pin,I.hok,I.len⟩
theorem Inv.unwish (I:Inv (X.wish E) pins σ H s):Inv X pins σ H s:=⟨I.ok.unwish,I.os,I.bare,I.base,I.loc,I.cell,I.free,I.freeC,I.pin,I.hok,I.len⟩
theorem SP.unwish {D:Ends}{f:Flow}{s':Shared}(h:SP (X.wish E) pins D f s'):SP X pins D f s':=by
 cases f with
 |next=>obtain⟨σ',H',I,q⟩:=h;exact⟨σ',H',I.unwish,q⟩
 |brk=>obtain⟨σ',H',I,q⟩:=h;exact⟨σ',H',I.unwish,q⟩
 |cont=>obtain⟨σ',H',I,q⟩:=h;exact⟨σ',H',I.unwish,q⟩
 |ret u=>obtain⟨v,σ',H',I,r,q⟩:=h;exact⟨v,σ',H',I.unwish,r,q⟩
theorem PSs.nox {st:List Stmt}{t:TS}(h:PSs X.nox st t):PSs X st t:=fun pins s σ H D I hw=>
 wpAny_mono (h pins s σ H D (I.wish _) hw) (fun _ _ q=>q.unwish) fun _ _ z=>False.elim z
end
section
variable {X:Cx}{st:Stmt}{rest:List Stmt}{t u:TS}{e:Expr}{te:TE}{pos:Pos}
noncomputable def zik:TS:=fun D σ H=>D.nx σ H
noncomputable def tSeq (t u:TS):TS:=fun D σ H=>t {D with nx:=u D} σ H
theorem pss_nil:PSs X [] zik:=fun _ _ σ H _ I h=>wpAny_execs_nil ⟨σ,H,I,h⟩
theorem pss_cons (h1:PS X st t)(h2:PSs X rest u):PSs X (st::rest) (tSeq t u):=by
 intro pins s σ H D I h
 refine wpAny_execs_cons (thn (h1 pins s σ H {D with nx:=u D} I h) fun f s1 q=> ?_)
 cases f with
 |next=>
  obtain⟨σ',H',I',q⟩:=q
  exact h2 pins s1 σ' H' D I' q
 |ret v=>exact q
 |brk=>exact q
 |cont=>exact q
theorem pss_one (h1:PS X st t):PSs X [st] t:=by
 intro pins s σ H D I h
 refine wpAny_execs_cons (thn (h1 pins s σ H D I h) fun f s1 q=> ?_)
 cases f with
 |next=>exact wpAny_execs_nil q
 |ret v=>exact q
 |brk=>exact q
 |cont=>exact q
noncomputable def tRet (te:TE):TS:=fun D σ H=>te σ H D.rt
theorem ps_ret (he:PE X e te):PS X (.Return (some e) pos) (tRet te):=by
 intro pins s σ H D I h
 exact wpAny_Return_some (thn (he pins s σ H _ I h) fun v s1 ⟨x,H1,I1,r1,q1⟩=>⟨x,σ,H1,I1,r1,q1⟩)
noncomputable def tIfS (c:TT)(t u:TS):TS:=fun D σ H=>c σ H fun b H1=>if b=true then t D σ H1 else u D σ H1
theorem ps_if {c:Expr}{a b:List Stmt}{tc:TT}(hc:PT X c tc)(ha:PSs X a t)(hb:PSs X b u):PS X (.If c a b pos) (tIfS tc t u):=by
 intro pins s σ H D I h
 refine wpAny_If (thn (hc pins s σ H _ I h) fun d s1 zq=> ?_)
 obtain⟨H1,I1,q1⟩:=zq
 cases d with
 |true=>exact ha pins s1 σ H1 D I1 q1
 |false=>exact hb pins s1 σ H1 D I1 q1
noncomputable def zil:TS:=fun _ _ _=>False
theorem zcl {sts:List Stmt}:PSs X sts zil:=fun _ _ _ _ _ _ h=>h.elim
end
noncomputable abbrev TG:=V->St->Hp->(St->Hp->Prop)->Prop
noncomputable abbrev TGs:=List V->St->Hp->(St->Hp->Prop)->Prop
noncomputable def PG (X:Cx)(target:Expr)(t:TG):Prop:=
 ∀(pins:List (Addr×Obj)) (s:Shared) (σ:St) (H:Hp) (v:V) (u:Value) (Q:St->Hp->Prop),Inv X pins σ H s->RelV v u->t v σ H Q->
  wpAny (model X.prog X.w) X.A (assign target X.env u) (fun _ s'=>∃σ' H',Inv X pins σ' H' s'/\Q σ' H') X.xe s
noncomputable def PGs (X:Cx)(ts:List Expr)(t:TGs):Prop:=
 ∀(pins:List (Addr×Obj)) (s:Shared) (σ:St) (H:Hp) (vs:List V) (us:List Value) (Q:St->Hp->Prop),Inv X pins σ H s->Vals vs us->t vs σ H Q->
  wpAny (model X.prog X.w) X.A (assignInOrder ((assignEach ts X.env).map (·.2)) us) (fun _ s'=>∃σ' H',Inv X pins σ' H' s'/\Q σ' H') X.xe s
noncomputable abbrev TSet:=V->V->V->Hp->(Hp->Prop)->Prop
noncomputable def PSet (X:Cx)(t:TSet):Prop:=
 ∀(pins:List (Addr×Obj)) (s:Shared) (σ:St) (H:Hp) (o i v:V) (ov iv u:Value) (Q:Hp->Prop),Inv X pins σ H s->RelV o ov->RelV i iv->RelV v u->t o i v H Q->
  wpAny (model X.prog X.w) X.A (setItem ov iv u) (fun _ s'=>∃H',Inv X pins σ H' s'/\Q H') X.xe s
section
variable {X:Cx}{pos:Pos}
noncomputable def zbr (i:Nat):TG:=fun v σ H Q=>Q (σ.set i (some v)) H
theorem zao {i:Nat}{x:Str}(hN:X.N.Nodup)(hi:X.N[i]? =some x)(hx:Loc X.env.scope x)(hf:X.fn x=true∨X.env.scope.names.lookup x=some .local:=by first|exact .inl rfl|exact .inr rfl|assumption):PG X (.Name x pos) (zbr i):=by
 intro pins s σ H v u Q I r h
 exact wpAny_assign_Name (za0 I hN hi hx r (fun s' I'=>⟨_,H,I',h⟩) hf)
noncomputable def gNil:TGs:=fun vs σ H Q=>vs=[]/\Q σ H
noncomputable def zep (t:TG)(u:TGs):TGs:=fun vs σ H Q=>∃v r,vs=v::r/\t v σ H fun σ' H'=>u r σ' H' Q
theorem zfz:PGs X [] gNil:=by
 intro pins s σ H vs us Q I r h
 obtain⟨e,h⟩:=h
 subst e
 cases r
 exact assignInOrder_nil ⟨σ,H,I,h⟩
theorem zcg {e:Expr}{es:List Expr}{t:TG}{u:TGs}(h1:PG X e t)(h2:PGs X es u)
  (hs:(assignEach (e::es) X.env).map (·.2)=assign e X.env::(assignEach es X.env).map (·.2):=by rfl):PGs X (e::es) (zep t u):=by
 intro pins s σ H vs us Q I r h
 obtain⟨v,vr,e1,h⟩:=h
 subst e1
 cases r with
 |cons r rr=>
  rw[hs]
  refine assignInOrder_cons (thn (h1 pins s σ H _ _ _ I r h) fun _ s1 zq=> ?_)
  obtain⟨σ1,H1,I1,q1⟩:=zq
  exact h2 pins s1 σ1 H1 _ _ Q I1 rr q1
noncomputable def gTup (K:PySem.W.Frag)(n:Nat)(t:TGs):TG:=fun v σ H Q=>∃a xs,v=.ref a/\SqT K H a xs/\xs.length=n/\t xs σ H Q
theorem zhf {es:List Expr}{k:Nat}{t:TGs}{n:Nat}(hc:X.calm=true)(h:PGs X es t)
  (hn:(assignEach es X.env).length=n:=by rfl) (hst:(assignEach es X.env).findIdx? (·.1)=none:=by rfl):PG X (.Tuple es k pos) (gTup X.K n t):=by
 intro pins s σ H v u Q I r hw
 obtain⟨a,xs,e1,hq,hl,hw⟩:=hw
 subst e1
 cases r
 obtain⟨its,rv,ht,hz⟩:=I.tuple hq
 refine assign_Tuple_tuple (I.ok.hd hc) ht (by simp[hn,<-hl,rv.length]) hst fun h' hx=> ?_
 have I1:Inv X pins σ H {s with heap:=h'}:=I.kept (t':=s.toks) fun b o e=>hx b o (Nat.ne_of_lt (Heap.lt_size e)) e
 exact h pins _ σ H xs _ Q I1 (by simpa using rv) hw
noncomputable def gSub (to ti:TE)(t:TSet):TG:=fun v σ H Q=>to σ H fun o H1=>ti σ H1 fun i H2=>t o i v H2 fun H3=>Q σ H3
theorem zhg {o i:Expr}{to ti:TE}{t:TSet}(ho:PE X o to)(hi:PE X i ti)(hs:PSet X t)
  (ha:∀v,assign (.Subscript o i pos) X.env v=(do
   let ov<-holding [v] (eval o X.env)
   let iv<-holding [v,ov] (eval i X.env)
   standAt pos
   holding [v,ov,iv] (setItem ov iv v)
   release [v,ov,iv] []):=by intro _;rfl):PG X (.Subscript o i pos) (gSub to ti t):=by
 intro pins s σ H v u Q I r h
 rw[ha]
 refine wpAny_bind (wpAny_holding (thn (ho pins s σ H _ I h) fun ov s1 zq=> ?_))
 obtain⟨x,H1,I1,r1,q1⟩:=zq
 refine wpAny_bind (wpAny_holding (thn (hi pins s1 σ H1 _ I1 q1) fun iv s2 zq=> ?_))
 obtain⟨y,H2,I2,r2,q2⟩:=zq
 refine wpAny_bind (wpAny_standAt (wpAny_bind (wpAny_holding (thn (hs pins s2 σ H2 x y v ov iv u _ I2 r1 r2 r q2) fun _ s3 zq=> ?_))))
 obtain⟨H3,I3,q3⟩:=zq
 exact wpAny_release ⟨σ,H3,I3,q3⟩
noncomputable def tAsg (te:TE)(g:TG):TS:=fun D σ H=>te σ H fun x H1=>g x σ H1 D.nx
theorem ps_asg {tg e:Expr}{te:TE}{g:TG}(he:PE X e te)(hg:PG X tg g)(hs:swapsWithSole [tg] e pos.line X.env=pure false:=by rfl)(hw:swappedStores [tg] e X.env=pure none:=by rfl)
  (h1:(assignEach [tg] X.env).map (·.2)=[assign tg X.env]:=by rfl):PS X (.Assign [tg] e pos) (tAsg te g):=by
 intro pins s σ H D I h
 refine wpAny_Assign_stores (thn (he pins s σ H _ I h) fun v s1 zq=> ?_) hs hw
 obtain⟨x,H1,I1,r1,q1⟩:=zq
 rw[h1]
 exact thn (hg pins s1 σ H1 x v _ I1 r1 q1) fun _ s2 q=>q
theorem ps_set {i:Nat}{x:Str}{e:Expr}{te:TE}{pos':Pos}(hN:X.N.Nodup)(hi:X.N[i]? =some x)(hx:Loc X.env.scope x)(he:PE X e te)(hs:swapsWith e (some (.Name x pos')) pos.line X.env=pure false:=by rfl)(hf:X.fn x=true∨X.env.scope.names.lookup x=some .local:=by first|exact .inl rfl|exact .inr rfl|assumption):
  PS X (.Assign [.Name x pos'] e pos) (tAsg te (zbr i)):=by
 intro pins s σ H D I h
 refine wpAny_Assign_Name (thn (he pins s σ H _ I h) fun v s1 zq=> ?_) hs
 obtain⟨y,H1,I1,r1,q1⟩:=zq
 exact za0 I1 hN hi hx r1 (fun s2 I2=>⟨_,H1,I2,q1⟩) hf
noncomputable def tPar (i j:Nat)(ta:TA):TS:=fun D σ H=>ta σ H fun vs H1=>∃v w,vs=[v,w]/\D.nx ((σ.set i (some v)).set j (some w)) H1
theorem ps_par {i j:Nat}{x y:Str}{a b:Expr}{ta:TA}{px py pt:Pos}{kt k2 pt2}(hc:X.calm=true)(hN:X.N.Nodup)(hi:X.N[i]? =some x)(hj:X.N[j]? =some y)(hij:i≠j)
  (hx:X.env.scope.names.lookup x=some .local) (hy:X.env.scope.names.lookup y=some .local) (ha:PA X [a,b] ta)
  (hw:swappedStores [.Tuple [.Name x px,.Name y py] kt pt] (.Tuple [a,b] k2 pt2) X.env=pure (some [x,y]))
  (hs:swapsWithSole [.Tuple [.Name x px,.Name y py] kt pt] (.Tuple [a,b] k2 pt2) pos.line X.env=pure false:=by rfl):
  PS X (.Assign [.Tuple [.Name x px,.Name y py] kt pt] (.Tuple [a,b] k2 pt2) pos) (tPar i j ta):=by
 intro pins s σ H D I h
 rw[exec_Assign_arm]
 refine wpAny_bind (wpAny_standAt ?_)
 rw[hs]
 refine wpAny_bind (wpAny_pure ?_)
 rw[if_neg (by decide)]
 refine wpAny_bind (Tuple_ (thn (ha _ pins s σ H _ I h) fun us s1 zq=> ?_))
 obtain⟨vs,H1,I1,r1,q1⟩:=zq
 obtain⟨v,w,e1,q1⟩:=q1
 subst e1
 obtain⟨u1,u2,rfl,rv,rw'⟩:∃u1 u2,us=[u1,u2]/\RelV v u1/\RelV w u2:=by
  cases r1 with
  | cons p q=>
   cases q with
   |cons p' q'=>
    cases q'
    exact⟨_,_,rfl,p,p'⟩
 refine wpAny_newObj_type ?_ (by show 2<=sizeLine;decide)
 have I2:Inv X pins σ H1 {s1 with heap:=s1.heap.push {cls:=.type "tuple",data:=.seq [u1,u2].toArray}}:=I1.kept (t':=s1.toks) fun b o e=>Heap.get?_push_of_some _ e
 rw[hw]
 refine wpAny_bind (wpAny_pure ?_)
 show wpAny (model X.prog X.w) X.A (do rule "assign.swapped-stores";let items<-unpackItems (.ref s1.heap.objs.size) 2 none;assignInOrder [fun v=>bindName X.env y v,fun v=>bindName X.env x v] items.reverse;pure Flow.next) _ _ _
 refine wpAny_bind (wpAny_rule (wpAny_bind (unpackItems_tuple (items:=#[u1,u2]) (I.ok.hd hc) (IsTup.new s1.heap _) fun h' hx'=> ?_)))
 have I3:=I2.kept (h':=h') (t':=s1.toks) fun b o e=>hx' b o (Nat.ne_of_lt (Heap.lt_size e)) e
 show wpAny _ _ (assignInOrder [fun v=>bindName X.env y v,fun v=>bindName X.env x v] [u2,u1] >>= fun _=>pure Flow.next) _ _ _
 refine wpAny_bind (assignInOrder_cons (wpAny_bindName (za0 I3 hN hj (.inl hy) rw' (fun s2 I4=> ?_) (.inr hy))))
 refine assignInOrder_cons (wpAny_bindName (za0 I4 hN hi (.inl hx) rv (fun s3 I5=>assignInOrder_nil (wpAny_pure ?_)) (.inr hx)))
 rw[List.set_comm _ _ (Ne.symm hij)] at I5
 exact⟨_,H1,I5,q1⟩
noncomputable def zim (c:TT)(tb:TS):TS:=fun D σ H=>∃W:Nat->St->Hp->Prop,(∃m,W m σ H)/\∀m σ H,W m σ H->
 c σ H fun b H1=>if b=true then ∃N:St->Hp->Prop,(∀σ' H',N σ' H'->∃m',m'<m/\W m' σ' H')/\tb {D with nx:=N,ct:=N,bk:=D.nx} σ H1 else D.nx σ H1
theorem zdb {c:Expr}{body:List Stmt}{tc:TT}{tb:TS}(hp:PassesOwn (model X.prog X.w) X.A X.env X.xe)(hc:PT X c tc)(hb:PSs X body tb):PS X (.While c body [] pos) (zim tc tb):=by
 intro pins s σ H D I h
 obtain⟨W,⟨m0,w0⟩,turn⟩:=h
 refine wpAny_While (codeAny_whileLoop (fun n s'=>∃σ' H',Inv X pins σ' H' s'/\W n σ' H') ?_ m0 ⟨σ,H,I,w0⟩)
 rintro n s1 ⟨σ1,H1,I1,w1⟩
 refine wpAny_passesOwn hp (thn (hc pins s1 σ1 H1 _ I1 (turn n σ1 H1 w1)) fun b s2 zq=> ?_)
 obtain⟨H2,I2,q2⟩:=zq
 cases b with
 | true=>
  obtain⟨N,hN,q2⟩:=q2
  rw[if_pos rfl]
  refine wpAny_passesOwn hp (thn (hb pins s2 σ1 H2 _ I2 q2) fun f s3 q3=> ?_)
  cases f with
  |next=>
   obtain⟨σ3,H3,I3,n3⟩:=q3
   obtain⟨m',hm,w3⟩:=hN σ3 H3 n3
   exact⟨m',hm,σ3,H3,I3,w3⟩
  |cont=>
   obtain⟨σ3,H3,I3,n3⟩:=q3
   obtain⟨m',hm,w3⟩:=hN σ3 H3 n3
   exact⟨m',hm,σ3,H3,I3,w3⟩
  |brk=>exact q3
  |ret v=>exact q3
 |false=>
  rw[if_neg Bool.false_ne_true]
  exact wpAny_execs_nil ⟨σ1,H2,I2,q2⟩
end
structure It where
 go:Nat->Hp->Prop
 yld:Nat->Hp->V->Hp->Prop
 stop:Nat->Hp->Prop
noncomputable def FpOk (X:Cx)(pins:List (Addr×Obj))(H:Hp)(b:Addr):Prop:=
 H b=none/\b≠X.env.locals/\b∉X.fs/\(b∈X.ex∨X.s₀.heap.objs.size<=b)/\(∀x c,X.env.cells.lookup x=some c->c≠b)/\∀p∈X.pn++pins,p.1≠b
theorem Inv.fpOk {X:Cx}{pins:List (Addr×Obj)}{σ:St}{H H':Hp}{s:Shared}{b:Addr}(I:Inv X pins σ H s)(hb:s.heap.objs.size<=b)(hn:H' b=none):FpOk X pins H' b:=by
 refine⟨hn,Nat.ne_of_gt (Nat.lt_of_lt_of_le I.lt hb),I.nofs hb,.inr (Nat.le_trans I.sz hb),fun x c e z=> ?_,fun p hp z=> ?_⟩
 ·obtain ⟨v,q⟩:=I.cell x c e
  exact absurd (Nat.lt_of_lt_of_le q.lt (by rw[z];exact hb)) (Nat.lt_irrefl _)
 ·exact absurd (Nat.lt_of_lt_of_le (Heap.lt_size (I.pin p hp).1) (by rw[z];exact hb)) (Nat.lt_irrefl _)
structure Turn (P:Program) (w:World) (K:PySem.W.Frag) (tg:Expr) (J:It) (fp:List Addr) (it:Addr) (tn:Nat->Heap->Prop):Prop where
 mem:it∈fp
 obj:∀i h,tn i h->∀b∈fp,∃o,h.get? b=some o/\∀v,o.data≠.cell v
 keep:∀i h h',tn i h->(∀b∈fp,∀o,h.get? b=some o->h'.get? b=some o)->tn i h'
 item:∀(X:Cx),X.prog=P->X.w=w->X.K=K->X.calm=true->∀(i:Nat) (pins:List (Addr×Obj)) (s:Shared) (σ:St) (H:Hp) (E:Value->Shared->Prop),Inv X pins σ H s->(∀b∈fp,FpOk X pins H b)->tn i s.heap->J.go i H->
  wpAny (model P w) X.A (pyNext (.ref it)) (fun r s1=>∃u,r=some u/\
   wpAny (model P w) X.A (letOwnedTupleGo tg (.ref it) u) (fun _ s2=>∃x H',Inv X pins σ H' s2/\RelV x u/\J.yld i H x H'/\tn (i+1) s2.heap/\∀b∈fp,H' b=none) E s1) E s
 done:∀(X:Cx),X.prog=P->X.w=w->X.K=K->X.calm=true->∀(i:Nat) (pins:List (Addr×Obj)) (s:Shared) (σ:St) (H:Hp) (E:Value->Shared->Prop),Inv X pins σ H s->(∀b∈fp,FpOk X pins H b)->tn i s.heap->J.stop i H->
  wpAny (model P w) X.A (pyNext (.ref it)) (fun r s1=>r=none/\Inv X pins σ H s1) E s
 self:∀(A:Around) (i:Nat) (s:Shared) (Q:Value->Shared->Prop) (E:Value->Shared->Prop),tn i s.heap->Q (.ref it) s->wpAny (model P w) A (pyIter (.ref it)) Q E s
noncomputable abbrev TI:=St->Hp->(It->Hp->Prop)->Prop
noncomputable def PIE (X:Cx)(pins:List (Addr×Obj))(σ:St)(tg:Expr)(R:It->Hp->Prop)(itv:Value)(s2:Shared):Prop:=
 ∃(it:Addr) (fp:List Addr) (tn:Nat->Heap->Prop) (J:It) (H':Hp),itv=.ref it/\Inv X pins σ H' s2/\Turn X.prog X.w X.K tg J fp it tn/\tn 0 s2.heap/\(∀b∈fp,FpOk X pins H' b)/\R J H'
noncomputable def PI (X:Cx)(tg iter:Expr)(wi:TI):Prop:=
 ∀(pins:List (Addr×Obj)) (s:Shared) (σ:St) (H:Hp) (R:It->Hp->Prop),Inv X pins σ H s->wi σ H R->
  wpAny (model X.prog X.w) X.A (eval iter X.env) (fun v s1=>wpAny (model X.prog X.w) X.A (pyIter v) (PIE X pins σ tg R) X.xe s1) X.xe s
theorem zgJ {M:Model}{A:Around}{E:Value->Shared->Prop}{s:Shared}{tg:Expr}{it:Addr}{u:Value}{o:Obj}{n:String}{vs:Array Value}{Q:Unit->Shared->Prop}(ho:s.heap.get? it=some o)(hc:o.cls=.type n)(hd:o.data=.fields vs)
    (hn:["enumerate", "zip", "dict_itemiterator", "dict_reverseitemiterator", "odict_iterator", "itertools.zip_longest", "itertools.pairwise"].contains n=false) (hQ:Q () s):wpAny M A (letOwnedTupleGo tg (.ref it) u) Q E s:=by
  unfold letOwnedTupleGo
  cases tg <;>first
    |exact wpAny_pure hQ
    |(cases u<;>first
        |exact wpAny_pure hQ
        | (refine wpAny_bind (wpAny_load ho ?_)
           rw[hc,hd]
           show wpAny M A (if (["enumerate", "zip", "dict_itemiterator", "dict_reverseitemiterator", "odict_iterator", "itertools.zip_longest", "itertools.pairwise"].contains n&&vs[0]? ==some (rawInt _))=true then _ else _) Q E s
           rw[if_neg (by intro h;rw[hn,Bool.false_and] at h;cases h)]
           exact wpAny_pure hQ))
noncomputable def Itl (K:PySem.W.Frag)(a:Addr):It:=
 ⟨fun i H=>∃xs x,SqL K H a xs/\xs[i]? =some x,fun i H x H'=>H'=H/\∀xs,SqL K H a xs->xs[i]? =some x,fun i H=>∃xs,SqL K H a xs/\xs.length<=i⟩
noncomputable def Itt (K:PySem.W.Frag)(a:Addr):It:=
 ⟨fun i H=>∃xs x,SqT K H a xs/\xs[i]? =some x,fun i H x H'=>H'=H/\∀xs,SqT K H a xs->xs[i]? =some x,fun i H=>∃xs,SqT K H a xs/\xs.length<=i⟩
noncomputable def Itr (lo:Int)(n:Nat):It:=⟨fun i _=>i<n,fun i H x H'=>H'=H/\x=.int (lo+i),fun i _=>n<=i⟩
theorem zfA {P:Program}{w:World}{K:PySem.W.Frag}{tg:Expr}(a it:Addr):Turn P w K tg (Itl K a) [it] it (fun i h=>h.IsListIter it a i) where
 mem:=by simp
 obj:=fun i h st b hb=>by
  have e:b=it:=by simpa using hb
  subst e
  obtain⟨o,e,c,d⟩:=st
  exact⟨o,e,fun v z=>by rw[d] at z;cases z⟩
 keep:=fun i h h' st k=>st.at fun o e=>k it (by simp) o e
 item:=by
  intro X hP hw hK hc i pins s σ H E I hf st hg
  subst hP hw hK
  obtain⟨xs,x,hq,hx⟩:=hg
  obtain⟨its,rv,p,hz⟩:=I.list hq
  obtain⟨u,hu,ru⟩:=rv.get hx
  obtain⟨f0,f1,f2,f3,f4,f5⟩:=hf it (by simp)
  refine wpAny_pyNext_list_item st p.isList (x:=u) (by simpa using hu) fun h' st' sb=> ?_
  have I1:Inv X pins σ H {s with heap:=h'}:=I.turned (t':=s.toks) (fun b o hb e=>(sb.2 b hb).trans e) f0 f1 f3 f4 f5
  obtain⟨o,e,c,d⟩:=id st'
  exact⟨u,rfl,zgJ (s:={s with heap:=h'}) e c d (by decide) ⟨x,H,I1,ru,⟨rfl,fun ys hy=>by rw[I.list_inj hy hq];exact hx⟩,st',fun b hb=>(hf b hb).1⟩⟩
 done:=by
  intro X hP hw hK hc i pins s σ H E I hf st hg
  subst hP hw hK
  obtain⟨xs,hq,hx⟩:=hg
  obtain⟨its,rv,p,hz⟩:=I.list hq
  obtain⟨f0,f1,f2,f3,f4,f5⟩:=hf it (by simp)
  have hl:=rv.length
  exact wpAny_pyNext_list_end (I.ok.hd hc) st p.isList (by simp;(first|lia|omega)) fun h' eb=>⟨rfl,I.turned (t':=s.toks) (fun b o hb e=>eb b o hb e) f0 f1 f3 f4 f5⟩
 self:=fun _ _ _ _ _ st h=>wpAny_pyIter_listiter st h
theorem zfd {P:Program}{w:World}{K:PySem.W.Frag}{tg:Expr}(a it:Addr):Turn P w K tg (Itt K a) [it] it (fun i h=>h.IsTupleIter it a i) where
 mem:=by simp
 obj:=fun i h st b hb=>by
  have e:b=it:=by simpa using hb
  subst e
  obtain⟨o,e,c,d⟩:=st
  exact⟨o,e,fun v z=>by rw[d] at z;cases z⟩
 keep:=fun i h h' st k=>st.at fun o e=>k it (by simp) o e
 item:=by
  intro X hP hw hK hc i pins s σ H E I hf st hg
  subst hP hw hK
  obtain⟨xs,x,hq,hx⟩:=hg
  obtain⟨its,rv,p,hz⟩:=I.tuple hq
  obtain⟨u,hu,ru⟩:=rv.get hx
  obtain⟨f0,f1,f2,f3,f4,f5⟩:=hf it (by simp)
  refine wpAny_pyNext_tuple_item st (show s.heap.IsTuple a its.toArray from p) (x:=u) (by simpa using hu) fun h' st' sb=> ?_
  have I1:Inv X pins σ H {s with heap:=h'}:=I.turned (t':=s.toks) (fun b o hb e=>(sb.2 b hb).trans e) f0 f1 f3 f4 f5
  obtain⟨o,e,c,d⟩:=id st'
  exact⟨u,rfl,zgJ (s:={s with heap:=h'}) e c d (by decide) ⟨x,H,I1,ru,⟨rfl,fun ys hy=>by rw[I.tuple_inj hy hq];exact hx⟩,st',fun b hb=>(hf b hb).1⟩⟩
 done:=by
  intro X hP hw hK hc i pins s σ H E I hf st hg
  subst hP hw hK
  obtain⟨xs,hq,hx⟩:=hg
  obtain⟨its,rv,p,hz⟩:=I.tuple hq
  obtain⟨f0,f1,f2,f3,f4,f5⟩:=hf it (by simp)
  have hl:=rv.length
  exact wpAny_pyNext_tuple_end (I.ok.hd hc) st (show s.heap.IsTuple a its.toArray from p) (by simp;(first|lia|omega)) fun h' eb=>⟨rfl,I.turned (t':=s.toks) (fun b o hb e=>eb b o hb e) f0 f1 f3 f4 f5⟩
 self:=fun _ _ _ _ _ st h=>wpAny_pyIter_tupleiter st h
theorem zc3 {P:Program}{w:World}{K:PySem.W.Frag}{tg:Expr}(it:Addr)(lo:Int)(n:Nat):Turn P w K tg (Itr lo n) [it] it (fun i h=>IsRangeIter h it (lo+(i:Nat)*1) ((n:Int)-(i:Nat)) 1) where
 mem:=by simp
 obj:=fun i h st b hb=>by
  have e:b=it:=by simpa using hb
  subst e
  exact⟨_,st,fun v z=>by
   have z':Data.fields _=Data.cell v:=z
   cases z'⟩
 keep:=fun i h h' st k=>k it (by simp) _ st
 item:=by
  intro X hP hw hK hc i pins s σ H E I hf st hg
  subst hP hw hK
  obtain⟨f0,f1,f2,f3,f4,f5⟩:=hf it (by simp)
  have W:=Walks.range (prog:=X.prog) (w:=X.w) (I.ok.hd hc) it lo 1 n
  refine W.item i s _ _ hg st fun v h' tk hv st' kk=> ?_
  obtain⟨t,rfl⟩:=hv
  have I1:Inv X pins σ H {s with heap:=h',toks:=tk}:=I.turned (fun b o hb e=>kk b o (by simpa using hb) e) f0 f1 f3 f4 f5
  refine⟨_,rfl,zgJ (s:={s with heap:=h',toks:=tk}) (n:= "range_iterator") st' rfl rfl (by decide) ⟨.int (lo+i),H,I1,⟨t, ?_⟩,⟨rfl,rfl⟩,st',fun b hb=>(hf b hb).1⟩⟩
  rw[Int.mul_one]
 done:=by
  intro X hP hw hK hc i pins s σ H E I hf st hg
  subst hP hw hK
  obtain⟨f0,f1,f2,f3,f4,f5⟩:=hf it (by simp)
  exact wpAny_pyNext_range_end (I.ok.hd hc) st (by have:n<=i:=hg;(first|lia|omega)) fun h' eb=>⟨rfl,I.turned (t':=s.toks) (fun b o hb e=>eb b o hb e) f0 f1 f3 f4 f5⟩
 self:=fun _ _ _ _ _ st h=>wpAny_pyIter_rangeiter st h
section
variable {X:Cx}{tg:Expr}
noncomputable def zin (K:PySem.W.Frag)(tl:TE):TI:=fun σ H R=>tl σ H fun x H1=>∃a,x=.ref a/\(∃xs,SqL K H1 a xs)/\R (Itl K a) H1
noncomputable def iTup (K:PySem.W.Frag)(tl:TE):TI:=fun σ H R=>tl σ H fun x H1=>∃a,x=.ref a/\(∃xs,SqT K H1 a xs)/\R (Itt K a) H1
theorem pi_list {l:Expr}{tl:TE}(hl:PE X l tl):PI X tg l (zin X.K tl):=by
 intro pins s σ H R I h
 refine thn (hl pins s σ H _ I h) fun v s1 zq=> ?_
 obtain⟨x,H1,I1,r1,q1⟩:=zq
 obtain⟨a,e,⟨xs,hq⟩,q⟩:=q1
 subst e
 cases r1
 obtain⟨its,rv,p,hz⟩:=I1.list hq
 refine wpAny_pyIter_list p.isList ?_
 refine⟨s1.heap.objs.size,[s1.heap.objs.size],_,_,H1,rfl,I1.kept (t':=s1.toks) fun b o e=>Heap.get?_push_of_some _ e,zfA a _,⟨_,Heap.get?_push_size _ rfl,rfl,rfl⟩,fun b hb=> ?_,q⟩
 have e:b=s1.heap.objs.size:=by simpa using hb
 subst e
 exact I1.fpOk (Nat.le_refl _) (I1.hok.fresh (Nat.le_refl _))
theorem zio {l:Expr}{tl:TE}(hl:PE X l tl):PI X tg l (iTup X.K tl):=by
 intro pins s σ H R I h
 refine thn (hl pins s σ H _ I h) fun v s1 zq=> ?_
 obtain⟨x,H1,I1,r1,q1⟩:=zq
 obtain⟨a,e,⟨xs,hq⟩,q⟩:=q1
 subst e
 cases r1
 obtain⟨its,rv,p,hz⟩:=I1.tuple hq
 refine wpAny_pyIter_tuple (show s1.heap.IsTuple a its.toArray from p) ?_
 refine⟨s1.heap.objs.size,[s1.heap.objs.size],_,_,H1,rfl,I1.kept (t':=s1.toks) fun b o e=>Heap.get?_push_of_some _ e,zfd a _,⟨_,Heap.get?_push_size _ rfl,rfl,rfl⟩,fun b hb=> ?_,q⟩
 have e:b=s1.heap.objs.size:=by simpa using hb
 subst e
 exact I1.fpOk (Nat.le_refl _) (I1.hok.fresh (Nat.le_refl _))
theorem zeP {pins:List (Addr×Obj)}{σ:St}{H:Hp}{s:Shared}{R:It->Hp->Prop}{E:Value->Shared->Prop}{lo hi:Int}{t u v:Tok}{tk:Nat}(I:Inv X pins σ H s)(h1:-(2^62)<=lo)(h2:lo<2^62)(h3:-(2^62)<=hi)(h4:hi<2^62)
  (q:R (Itr lo (hi-lo).toNat) H):wpAny (model X.prog X.w) X.A (pyIter (.ref s.heap.objs.size)) (PIE X pins σ tg R) E {s with heap:=s.heap.push {cls:=.type "range",data:=.fields #[.int lo t,.int hi u,.int 1 v]},toks:=tk}:=by
 refine wpAny_pyIter_range (IsRange.new ..) (small_one h1 h2 h3 h4) ?_
 have I1:Inv X pins σ H {s with heap:=s.heap.push {cls:=.type "range",data:=.fields #[.int lo t,.int hi u,.int 1 v]},toks:=tk}:=I.kept fun b o e=>Heap.get?_push_of_some _ e
 refine⟨(s.heap.push {cls:=.type "range",data:=.fields #[.int lo t,.int hi u,.int 1 v]}).objs.size,[(s.heap.push {cls:=.type "range",data:=.fields #[.int lo t,.int hi u,.int 1 v]}).objs.size],_,_,H,rfl,
  I1.kept (t':=tk) fun b o e=>Heap.get?_push_of_some _ e,zc3 _ lo (hi-lo).toNat, ?_,fun b hb=> ?_,q⟩
 ·have e1:lo+((0:Nat):Int)*1=lo:=by simp
  have e2:(((hi-lo).toNat:Nat):Int)-((0:Nat):Int)=Builtin.Range.rangeSize lo hi 1:=by rw[rangeSize_one];split<;>(first|lia|omega)
  show IsRangeIter _ _ (lo+((0:Nat):Int)*1) ((((hi-lo).toNat:Nat):Int)-((0:Nat):Int)) 1
  rw[e1,e2]
  exact Heap.get?_push_size _ rfl
 ·have e:b=(s.heap.push {cls:=.type "range",data:=.fields #[.int lo t,.int hi u,.int 1 v]}).objs.size:=by simpa using hb
  subst e
  exact I1.fpOk (Nat.le_refl _) (I1.hok.fresh (Nat.le_refl _))
noncomputable def ziq (ta:TA):TI:=fun σ H R=>ta σ H fun vs H1=>∃j:Int,vs=[.int j]/\-(2^62)<=j/\j<2^62/\R (Itr 0 j.toNat) H1
noncomputable def zi5 (ta:TA):TI:=fun σ H R=>ta σ H fun vs H1=>∃i j:Int,vs=[.int i,.int j]/\(-(2^62)<=i/\i<2^62/\-(2^62)<=j/\j<2^62)/\R (Itr i (j-i).toNat) H1
theorem pi_range1 {a:Expr}{ta:TA}{p pos:Pos}(hg:Gl X "range")(hm:X.mg "range" =none)(ha:PA X [a] ta)(hs:starEach [a] X.env=[(false,eval a X.env)]:=by rfl):PI X tg (.Call (.Name "range" p) [a] [] pos) (ziq ta):=by
 intro pins s σ H R I h
 refine Call_ (zck I hg hm boot_range (PyProof.Rows.callWith_type1 (thn (ha pos pins s σ H _ I h) fun us s1 zq=> ?_) hs rfl))
 obtain⟨vs,H1,I1,r1,q1⟩:=zq
 obtain⟨j,e,q1,q2,q⟩:=q1
 subst e
 cases r1 with
 |cons r rr=>
  cases rr
  obtain⟨t,rfl⟩:=r
  exact call_range_1 (zeP I1 (by (first|lia|omega)) (by (first|lia|omega)) q1 q2 (by simpa using q))
theorem zdI {a b:Expr}{ta:TA}{p pos:Pos}(hg:Gl X "range")(hm:X.mg "range" =none)(ha:PA X [a,b] ta)(hs:starEach [a,b] X.env=[(false,eval a X.env),(false,eval b X.env)]:=by rfl)(hs2:starEach [b] X.env=[(false,eval b X.env)]:=by rfl):
  PI X tg (.Call (.Name "range" p) [a,b] [] pos) (zi5 ta):=by
 intro pins s σ H R I h
 refine Call_ (zck I hg hm boot_range (PyProof.Rows.callWith_type1 (thn (ha pos pins s σ H _ I h) fun us s1 zq=> ?_) (by rw[hs,hs2]) (by rw[hs2];rfl)))
 obtain⟨vs,H1,I1,r1,q1⟩:=zq
 obtain⟨i,j,e,⟨q1,q2,q3,q4⟩,q⟩:=q1
 subst e
 cases r1 with
 | cons r rr=>
  cases rr with
  |cons r' rr=>
   cases rr
   obtain⟨t,rfl⟩:=r
   obtain⟨t',rfl⟩:=r'
   exact call_range_2 (zeP I1 q1 q2 q3 q4 q)
noncomputable def tFor (wi:TI)(g:TG)(tb:TS):TS:=fun D σ H=>wi σ H fun J H1=>∃W:Nat->Nat->St->Hp->Prop,(∃m,W 0 m σ H1)/\∀i m σ H,W i m σ H->
 (J.stop i H/\D.nx σ H)∨(J.go i H/\∃N:St->Hp->Prop,(∀σ' H',N σ' H'->∃m',m'<m/\W (i+1) m' σ' H')/\∀x H',J.yld i H x H'->g x σ H' fun σ2 H2=>tb {D with nx:=N,ct:=N,bk:=D.nx} σ2 H2)
noncomputable def zdJ (fp:List Addr)(h:Heap):List (Addr×Obj):=fp.filterMap fun b=>(h.get? b).map fun o=>(b,o)
theorem zbm {fp:List Addr}{h:Heap}{b:Addr}{o:Obj}(hb:b∈fp)(e:h.get? b=some o):(b,o)∈zdJ fp h:=List.mem_filterMap.mpr ⟨b,hb,by rw[e];rfl⟩
theorem zfB {fp:List Addr}{h:Heap}{p:Addr×Obj}(hp:p∈zdJ fp h):p.1∈fp/\h.get? p.1=some p.2:=by
 obtain⟨b,hb,e⟩:=List.mem_filterMap.mp hp
 cases q:h.get? b with
 |none=>rw[q] at e;cases e
 |some o=>
  rw[q] at e
  have e':(b,o)=p:=Option.some.inj e
  subst e'
  exact⟨hb,q⟩
theorem Inv.pinned {pins:List (Addr×Obj)}{σ:St}{H:Hp}{s:Shared}{fp:List Addr}(I:Inv X pins σ H s)(hf:∀b∈fp,FpOk X pins H b)(ho:∀b∈fp,∃o,s.heap.get? b=some o/\∀v,o.data≠.cell v):Inv X (pins++zdJ fp s.heap) σ H s:=
 I.pins_of fun p hp=>(List.mem_append.mp hp).elim (fun z=>I.pin p (List.mem_append_right _ z)) fun z=>by
  obtain⟨hb,e⟩:=zfB z
  obtain⟨f0,f1,f2,_⟩:=hf p.1 hb
  obtain⟨o,e',d⟩:=ho p.1 hb
  rw[e] at e';cases e'
  exact⟨e,f0,f1,f2,d⟩
theorem Inv.unpinned {pins pl:List (Addr×Obj)}{σ:St}{H:Hp}{s:Shared}(I:Inv X (pins++pl) σ H s):Inv X pins σ H s:=I.pins_of fun p hp=>I.pin p (List.mem_append_right _ (List.mem_append_left _ hp))
theorem ps_for {iter:Expr}{body:List Stmt}{wi:TI}{g:TG}{tb:TS}{pos:Pos}(hp:PassesOwn (model X.prog X.w) X.A X.env X.xe)(hc:X.calm=true)(hi:PI X tg iter wi)(hg:PG X tg g)(hb:PSs X body tb)
  (hs:∀x,foldedSetIterable iter X.env x=pure x:=by intro _;rfl):PS X (.For tg iter body [] pos) (tFor wi g tb):=by
 intro pins s σ H D I h
 refine wpAny_For (thn (hi pins s σ H _ I h) fun v s1 h1=>thn h1 fun itv s2 h2=> ?_) hs
 obtain⟨it,fp,tn,J,H2,e,I2,T,st2,f2,W,⟨m0,w0⟩,turn⟩:=h2
 subst e
 have stat:∀{H':Hp},(∀b∈fp,H' b=none)->∀b∈fp,FpOk X pins H' b:=fun hn b hb=>⟨hn b hb,(f2 b hb).2⟩
 refine codeAny_forLoop_any (fun n s'=>∃i σ' H',Inv X pins σ' H' s'/\tn i s'.heap/\(∀b∈fp,H' b=none)/\W i n σ' H') ?_ m0 ⟨0,σ,H2,I2,st2,fun b hb=>(f2 b hb).1,w0⟩
 rintro n s3 ⟨i,σ3,H3,I3,st3,fr3,w3⟩
 rcases turn i n σ3 H3 w3 with⟨stop,qn⟩|⟨go,N,hN,step⟩
 ·refine wpAny_passesOwn hp (thn (T.done X rfl rfl rfl hc i pins s3 σ3 H3 X.xe I3 (stat fr3) st3 stop) fun r s4 zq=> ?_)
  obtain⟨hr,I4⟩:=zq
  subst hr
  exact wpAny_execs_nil ⟨σ3,H3,I4,qn⟩
 ·refine wpAny_passesOwn hp (thn (T.item X rfl rfl rfl hc i pins s3 σ3 H3 X.xe I3 (stat fr3) st3 go) fun r s4 zq=> ?_)
  obtain⟨u,hr,h4⟩:=zq
  subst hr
  refine wpAny_passesOwn hp (thn h4 fun _ s5 zq=> ?_)
  obtain⟨x,H5,I5,r5,y5,st5,fr5⟩:=zq
  have I5':=I5.pinned (stat fr5) (T.obj _ _ st5)
  refine wpAny_passesOwn hp (thn (hg _ s5 σ3 H5 x u _ I5' r5 (step x H5 y5)) fun _ s6 zq=> ?_)
  obtain⟨σ6,H6,I6,q6⟩:=zq
  refine wpAny_passesOwn hp (thn (hb _ s6 σ6 H6 _ I6 q6) fun f s7 q7=> ?_)
  have again:∀{σ7:St} {H7:Hp},Inv X (pins++zdJ fp s5.heap) σ7 H7 s7->N σ7 H7->∃m,m<n/\∃i σ' H',Inv X pins σ' H' s7/\tn i s7.heap/\(∀b∈fp,H' b=none)/\W i m σ' H':=fun {σ7 H7} I7 n7=>by
   obtain⟨m',hm,w7⟩:=hN σ7 H7 n7
   refine⟨m',hm,i+1,σ7,H7,I7.unpinned,T.keep _ _ _ st5 fun b hb o e=>(I7.pin (b,o) (List.mem_append_right _ (List.mem_append_right _ (zbm hb e)))).1,fun b hb=> ?_,w7⟩
   obtain⟨o,e,d⟩:=T.obj _ _ st5 b hb
   exact (I7.pin (b,o) (List.mem_append_right _ (List.mem_append_right _ (zbm hb e)))).2.1
  cases f with
  |next=>obtain⟨σ7,H7,I7,n7⟩:=q7;exact again I7 n7
  |cont=>obtain⟨σ7,H7,I7,n7⟩:=q7;exact again I7 n7
  |brk=>obtain⟨σ7,H7,I7,q7⟩:=q7;exact⟨σ7,H7,I7.unpinned,q7⟩
  |ret v=>obtain⟨x7,σ7,H7,I7,r7,q7⟩:=q7;exact⟨x7,σ7,H7,I7.unpinned,r7,q7⟩
end
theorem zdc {K:PySem.W.Frag}{a:Addr}{xs:List V}{g:TG}{tb:TS}{D:Ends}{σ:St}{H:Hp}(Pv:Nat->St->Hp->Prop)(h0:Pv 0 σ H)(hl:∀i σ H,i<=xs.length->Pv i σ H->SqL K H a xs)
  (hs:∀i x σ H,xs[i]? =some x->Pv i σ H->g x σ H fun σ2 H2=>tb {D with nx:=Pv (i+1),ct:=Pv (i+1),bk:=D.nx} σ2 H2) (hd:∀σ H,Pv xs.length σ H->D.nx σ H):
  ∃W:Nat->Nat->St->Hp->Prop,(∃m,W 0 m σ H)/\∀i m σ H,W i m σ H->
   ((Itl K a).stop i H/\D.nx σ H)∨((Itl K a).go i H/\∃N:St->Hp->Prop,(∀σ' H',N σ' H'->∃m',m'<m/\W (i+1) m' σ' H')/\∀x H',(Itl K a).yld i H x H'->g x σ H' fun σ2 H2=>tb {D with nx:=N,ct:=N,bk:=D.nx} σ2 H2):=by
 refine⟨fun i m σ H=>m=xs.length-i/\i<=xs.length/\Pv i σ H,⟨xs.length,by simp,Nat.zero_le _,h0⟩, ?_⟩
 rintro i m σ H ⟨rfl,hi,p⟩
 have q:=hl i σ H hi p
 by_cases hlt:i<xs.length
 ·refine .inr ⟨⟨xs,xs[i],q,by simp[hlt]⟩,Pv (i+1),fun σ' H' p'=>⟨xs.length-(i+1),by (first|lia|omega),rfl,hlt,p'⟩,fun x H' y=> ?_⟩
  obtain⟨e,y⟩:=y
  subst e
  exact hs i x σ _ (y xs q) p
 ·have e:i=xs.length:=by (first|lia|omega)
  subst e
  exact .inl ⟨⟨xs,q,Nat.le_refl _⟩,hd σ H p⟩
theorem zaq {lo:Int}{n:Nat}{g:TG}{tb:TS}{D:Ends}{σ:St}{H:Hp}(Pv:Nat->St->Hp->Prop)(h0:Pv 0 σ H)
  (hs:∀i σ H,i<n->Pv i σ H->g (.int (lo+i)) σ H fun σ2 H2=>tb {D with nx:=Pv (i+1),ct:=Pv (i+1),bk:=D.nx} σ2 H2) (hd:∀σ H,Pv n σ H->D.nx σ H):
  ∃W:Nat->Nat->St->Hp->Prop,(∃m,W 0 m σ H)/\∀i m σ H,W i m σ H->
   ((Itr lo n).stop i H/\D.nx σ H)∨((Itr lo n).go i H/\∃N:St->Hp->Prop,(∀σ' H',N σ' H'->∃m',m'<m/\W (i+1) m' σ' H')/\∀x H',(Itr lo n).yld i H x H'->g x σ H' fun σ2 H2=>tb {D with nx:=N,ct:=N,bk:=D.nx} σ2 H2):=by
 refine⟨fun i m σ H=>m=n-i/\i<=n/\Pv i σ H,⟨n,by simp,Nat.zero_le _,h0⟩, ?_⟩
 rintro i m σ H ⟨rfl,hi,p⟩
 by_cases hlt:i<n
 ·refine .inr ⟨hlt,Pv (i+1),fun σ' H' p'=>⟨n-(i+1),by (first|lia|omega),rfl,hlt,p'⟩,fun x H' y=> ?_⟩
  obtain⟨e,y⟩:=y
  subst e y
  exact hs i σ _ hlt p
 ·have e:i=n:=by (first|lia|omega)
  subst e
  exact .inl ⟨Nat.le_refl _,hd σ H p⟩
noncomputable abbrev R2:=V->V->Hp->VK->Prop
noncomputable def OpR (X:Cx)(f:Value->Value->Sem Value)(r:R2):Prop:=
 ∀(pins:List (Addr×Obj)) (s:Shared) (σ:St) (H:Hp) (x y:V) (v u:Value) (Q:VK),Inv X pins σ H s->RelV x v->RelV y u->r x y H Q->
  wpAny (model X.prog X.w) X.A (f v u) (EP X pins σ Q) X.xe s
noncomputable def UnR (X:Cx)(f:Value->Sem Value)(r:V->Hp->VK->Prop):Prop:=
 ∀(pins:List (Addr×Obj)) (s:Shared) (σ:St) (H:Hp) (x:V) (v:Value) (Q:VK),Inv X pins σ H s->RelV x v->r x H Q->
  wpAny (model X.prog X.w) X.A (f v) (EP X pins σ Q) X.xe s
noncomputable def zcm (X:Cx)(f:Value)(r:List V->Hp->VK->Prop):Prop:=
 ∀(pins:List (Addr×Obj)) (s:Shared) (σ:St) (H:Hp) (xs:List V) (us:List Value) (Q:VK),Inv X pins σ H s->Vals xs us->r xs H Q->
  wpAny (model X.prog X.w) X.A (call f us) (EP X pins σ Q) X.xe s
noncomputable def TruR (X:Cx)(r:V->Hp->(Bool->Hp->Prop)->Prop):Prop:=
 ∀(pins:List (Addr×Obj)) (s:Shared) (σ:St) (H:Hp) (x:V) (v:Value) (Q:Bool->Hp->Prop),Inv X pins σ H s->RelV x v->r x H Q->
  wpAny (model X.prog X.w) X.A (truthy v) (TP X pins σ Q) X.xe s
noncomputable def tOp (r:R2)(ta tb:TE):TE:=fun σ H Q=>ta σ H fun x H1=>tb σ H1 fun y H2=>r x y H2 Q
noncomputable def tUn (r:V->Hp->VK->Prop)(ta:TE):TE:=fun σ H Q=>ta σ H fun x H1=>r x H1 Q
noncomputable def rI (C:Int->Int->Prop)(g:Int->Int->V):R2:=fun x y H Q=>∃i j,x=.int i/\y=.int j/\C i j/\Q (g i j) H
noncomputable def rI0 (g:Int->Int->V):R2:=fun x y H Q=>∃i j,x=.int i/\y=.int j/\Q (g i j) H
noncomputable def rU (g:Int->V):V->Hp->VK->Prop:=fun x H Q=>∃i,x=.int i/\Q (g i) H
section
variable {X:Cx}{a b c:Expr}{ta tb tc:TE}{pos:Pos}
theorem binT (ha:PE X a ta)(hb:PE X b tb){pins:List (Addr×Obj)}{s:Shared}{σ:St}{H:Hp}{R:V->V->Hp->Prop}(I:Inv X pins σ H s)
  (h:ta σ H fun x H1=>tb σ H1 fun y H2=>R x y H2) {Q:Value->Shared->Prop} {f:Value->Value->Sem Value}
  (hf:∀v u s2 x y H2,Inv X pins σ H2 s2->RelV x v->RelV y u->R x y H2->wpAny (model X.prog X.w) X.A (f v u) Q X.xe s2):
  wpAny (model X.prog X.w) X.A (eval a X.env) (fun v s₁=>wpAny (model X.prog X.w) X.A (eval b X.env) (fun u s₂=>wpAny (model X.prog X.w) X.A (f v u) Q X.xe s₂) X.xe s₁) X.xe s:=by
 refine thn (ha pins s σ H _ I h) fun v s1 zq=> ?_
 obtain⟨x,H1,I1,r1,q1⟩:=zq
 refine thn (hb pins s1 σ H1 _ I1 q1) fun u s2 zq=> ?_
 obtain⟨y,H2,I2,r2,q2⟩:=zq
 exact hf v u s2 x y H2 I2 r1 r2 q2
theorem pe_op {op:Operator}{r:R2}(ho:OpR X (binaryOp op) r)(ha:PE X a ta)(hb:PE X b tb):PE X (.BinOp a op b pos) (tOp r ta tb):=by
 intro pins s σ H Q I h
 exact wpAny_BinOp (binT ha hb I h fun v u s2 x y H2 I2 rx ry q=>ho pins s2 σ H2 x y v u Q I2 rx ry q)
theorem pe_un {op:UnaryOp}{r:V->Hp->VK->Prop}(ho:UnR X (unaryOp op) r)(ha:PE X a ta):PE X (.UnaryOp op a pos) (tUn r ta):=by
 intro pins s σ H Q I h
 exact UnaryOp_ (thn (ha pins s σ H _ I h) fun v s1 ⟨x,H1,I1,r1,q1⟩=>ho pins s1 σ H1 x v Q I1 r1 q1)
theorem opI {f:Value->Value->Sem Value}{C:Int->Int->Prop}{g:Int->Int->Int}
  (rule:∀(i j:Int) (t u:Tok) (s:Shared) (Q:Value->Shared->Prop) (E:Value->Shared->Prop),C i j->Q (.int (g i j) s.toks) {s with toks:=s.toks+1}->wpAny (model X.prog X.w) X.A (f (.int i t) (.int j u)) Q E s):
  OpR X f (rI C fun i j=>.int (g i j)):=by
 intro pins s σ H x y v u Q I rx ry h
 obtain⟨i,j,rfl,rfl,hc,q⟩:=h
 obtain⟨t,rfl⟩:=rx
 obtain⟨t',rfl⟩:=ry
 exact rule i j t t' s _ _ hc ⟨.int (g i j),H,I.tok _,⟨_,rfl⟩,q⟩
theorem opI0 {f:Value->Value->Sem Value}{g:Int->Int->Int}
  (rule:∀(i j:Int) (t u:Tok) (s:Shared) (Q:Value->Shared->Prop) (E:Value->Shared->Prop),Q (.int (g i j) s.toks) {s with toks:=s.toks+1}->wpAny (model X.prog X.w) X.A (f (.int i t) (.int j u)) Q E s):
  OpR X f (rI0 fun i j=>.int (g i j)):=by
 intro pins s σ H x y v u Q I rx ry h
 obtain⟨i,j,rfl,rfl,q⟩:=h
 obtain⟨t,rfl⟩:=rx
 obtain⟨t',rfl⟩:=ry
 exact rule i j t t' s _ _ ⟨.int (g i j),H,I.tok _,⟨_,rfl⟩,q⟩
theorem opB0 {f:Value->Value->Sem Value}{g:Int->Int->Bool}
  (rule:∀(i j:Int) (t u:Tok) (s:Shared) (Q:Value->Shared->Prop) (E:Value->Shared->Prop),Q (.bool (g i j)) s->wpAny (model X.prog X.w) X.A (f (.int i t) (.int j u)) Q E s):
  OpR X f (rI0 fun i j=>.bl (g i j)):=by
 intro pins s σ H x y v u Q I rx ry h
 obtain⟨i,j,rfl,rfl,q⟩:=h
 obtain⟨t,rfl⟩:=rx
 obtain⟨t',rfl⟩:=ry
 exact rule i j t t' s _ _ ⟨.bl (g i j),H,I,rfl,q⟩
noncomputable def CDiv (i j:Int):Prop:=0<j/\j<1073741824
noncomputable def CPow (i j:Int):Prop:=0<=j/\j<=1000000/\i.natAbs<2^64
noncomputable def CMul (i j:Int):Prop:=(-(2^64)<i/\i<2^64)∨(-(2^64)<j/\j<2^64)
theorem CMul.ok {i j:Int}(h:CMul i j):IntMulOk i j:=by
 rcases h with⟨h1,h2⟩|⟨h1,h2⟩
 ·exact .of_left (intBits_le_64 h1 h2)
 ·exact .of_right (intBits_le_64 h1 h2)
theorem zar:OpR X (binaryOp .Add) (rI0 fun i j=>.int (i+j)):=opI0 fun _ _ _ _ _ _ _ q=>add_int q
theorem zax:OpR X (binaryOp .Sub) (rI0 fun i j=>.int (i-j)):=opI0 fun _ _ _ _ _ _ _ q=>sub_int q
theorem zaJ:OpR X (binaryOp .Mult) (rI CMul fun i j=>.int (i*j)):=opI fun _ _ _ _ _ _ _ hc q=>mul_int q hc.ok
theorem zbs:OpR X (binaryOp .FloorDiv) (rI CDiv fun i j=>.int (i/j)):=opI fun i j _ _ _ _ _ hc q=>by
 have h1:(0:Int)<j:=hc.1
 have h2:j<1073741824:=hc.2
 exact floordiv_int (by (first|lia|omega)) (by rw[Int.fdiv_eq_ediv_of_nonneg i (by (first|lia|omega))];exact q) (.inl (PyProof.noPylong_small (by (first|lia|omega))))
theorem zbo:OpR X (binaryOp .Mod) (rI (fun _ j=>0<j) fun i j=>.int (i%j)):=opI fun i j _ _ _ _ _ hc q=>by
 have h1:(0:Int)<j:=hc
 exact mod_int' (by (first|lia|omega)) (by rw[Int.fmod_eq_emod_of_nonneg i (by (first|lia|omega))];exact q)
theorem zeQ:OpR X (binaryOp .Pow) (rI CPow fun i j=>.int (i^j.toNat)):=opI fun _ _ _ _ _ _ _ hc q=>pow_int_small hc.1 hc.2.1 hc.2.2 q
theorem unI {f:Value->Sem Value}{g:Int->Int}
  (rule:∀(i:Int) (t:Tok) (s:Shared) (Q:Value->Shared->Prop) (E:Value->Shared->Prop),Q (.int (g i) s.toks) {s with toks:=s.toks+1}->wpAny (model X.prog X.w) X.A (f (.int i t)) Q E s):
  UnR X f (rU fun i=>.int (g i)):=by
 intro pins s σ H x v Q I rx h
 obtain⟨i,rfl,q⟩:=h
 obtain⟨t,rfl⟩:=rx
 exact rule i t s _ _ ⟨.int (g i),H,I.tok _,⟨_,rfl⟩,q⟩
theorem zb2:UnR X (unaryOp .USub) (rU fun i=>.int (-i)):=unI fun _ _ _ _ _ q=>neg_int q
end
noncomputable def scal:V->V->Bool
 | .non,.non=>true| .non,.int _=>true| .int _,.non=>true| .non,.bl _=>true| .bl _,.non=>true| .non,.str _=>true| .str _,.non=>true
 | .int _,.int _=>true| .bl _,.bl _=>true| .str _,.str _=>true| .byt _,.byt _=>true
 | .int _,.str _=>true| .str _,.int _=>true| .bl _,.str _=>true| .str _,.bl _=>true
 |_,_=>false
noncomputable def rEq:R2:=fun x y H Q=>scal x y=true/\Q (.bl (decide (x=y))) H
noncomputable def rNe:R2:=fun x y H Q=>scal x y=true/\Q (.bl (!decide (x=y))) H
theorem zfC {i j:Int}:decide (V.int i=V.int j)=(i==j):=by
 rw[Bool.eq_iff_iff]
 simp
theorem zhh {i j:Bool}:decide (V.bl i=V.bl j)=(i==j):=by
 rw[Bool.eq_iff_iff]
 simp
theorem zfD {i j:Str}:decide (V.str i=V.str j)=(i==j):=by
 rw[Bool.eq_iff_iff]
 simp
theorem zfE {i j:Array UInt8}:decide (V.byt i=V.byt j)=(i.toList==j.toList):=by
 rw[Bool.eq_iff_iff]
 cases i
 cases j
 simp
section
variable {X:Cx}{a b c:Expr}{ta tb tc:TE}{pos:Pos}
theorem zam {pins:List (Addr×Obj)}{σ:St}{H:Hp}{s:Shared}{Q:VK}{k k':Bool}(I:Inv X pins σ H s)(q:Q (.bl k) H)(e:k=k'):EP X pins σ Q (.bool k') s:=by
 subst e
 exact⟨.bl k,H,I,rfl,q⟩
theorem za1:OpR X (compareOp .Eq) rEq:=by
 intro pins s σ H x y v u Q I rx ry h
 obtain⟨hs,q⟩:=h
 cases x with
 |non=>
  cases rx
  cases y with
  |non=>cases ry;exact PySem.EqNone.eq_none_none (zam I q (by simp))
  |bl j=>cases ry;exact PySem.EqNone.eq_none_bool (zam I q (by simp))
  |int j=>obtain⟨t',rfl⟩:=ry;exact PySem.EqNone.eq_none_int (zam I q (by simp))
  |str j=>obtain⟨t',rfl⟩:=ry;exact PySem.EqNone.eq_none_str (zam I q (by simp))
  |_=>exact absurd (show false=true from hs) Bool.false_ne_true
 |bl i=>
  cases rx
  cases y with
  |non=>cases ry;exact PySem.EqNone.eq_bool_none (zam I q (by simp))
  |bl j=>cases ry;exact eq_bool (zam I q zhh)
  |str j=>obtain⟨t',rfl⟩:=ry;exact PySem.EqMixed.eq_bool_str (zam I q (by simp))
  |_=>exact absurd (show false=true from hs) Bool.false_ne_true
 |int i=>
  obtain⟨t,rfl⟩:=rx
  cases y with
  |non=>cases ry;exact PySem.EqNone.eq_int_none (zam I q (by simp))
  |int j=>obtain⟨t',rfl⟩:=ry;exact eq_int (zam I q zfC)
  |str j=>obtain⟨t',rfl⟩:=ry;exact PySem.EqMixed.eq_int_str (zam I q (by simp))
  |_=>exact absurd (show false=true from hs) Bool.false_ne_true
 |str i=>
  obtain⟨t,rfl⟩:=rx
  cases y with
  |non=>cases ry;exact PySem.EqNone.eq_str_none (zam I q (by simp))
  |bl j=>cases ry;exact PySem.EqMixed.eq_str_bool (zam I q (by simp))
  |int j=>obtain⟨t',rfl⟩:=ry;exact PySem.EqMixed.eq_str_int (zam I q (by simp))
  |str j=>obtain⟨t',rfl⟩:=ry;exact eq_str (zam I q zfD)
  |_=>exact absurd (show false=true from hs) Bool.false_ne_true
 |byt i=>
  obtain⟨t,rfl⟩:=rx
  cases y with
  |byt j=>obtain⟨t',rfl⟩:=ry;exact PySem.W.eq_bytes (zam I q zfE)
  |_=>exact absurd (show false=true from hs) Bool.false_ne_true
 |_=>cases y<;>exact absurd (show false=true from hs) Bool.false_ne_true
theorem zfe:OpR X (compareOp .NotEq) rNe:=by
 intro pins s σ H x y v u Q I rx ry h
 obtain⟨hs,q⟩:=h
 cases x with
 |non=>
  cases rx
  cases y with
  |non=>cases ry;exact PySem.EqNone.ne_none_none (zam I q (by simp))
  |bl j=>cases ry;exact PySem.EqNone.ne_none_bool (zam I q (by simp))
  |int j=>obtain⟨t',rfl⟩:=ry;exact PySem.EqNone.ne_none_int (zam I q (by simp))
  |str j=>obtain⟨t',rfl⟩:=ry;exact PySem.EqNone.ne_none_str (zam I q (by simp))
  |_=>exact absurd (show false=true from hs) Bool.false_ne_true
 |bl i=>
  cases rx
  cases y with
  |non=>cases ry;exact PySem.EqNone.ne_bool_none (zam I q (by simp))
  |bl j=>cases ry;exact ne_bool (zam I q (congrArg not zhh))
  |str j=>obtain⟨t',rfl⟩:=ry;exact PySem.EqMixed.ne_bool_str (zam I q (by simp))
  |_=>exact absurd (show false=true from hs) Bool.false_ne_true
 |int i=>
  obtain⟨t,rfl⟩:=rx
  cases y with
  |non=>cases ry;exact PySem.EqNone.ne_int_none (zam I q (by simp))
  |int j=>obtain⟨t',rfl⟩:=ry;exact ne_int (zam I q (congrArg not zfC))
  |str j=>obtain⟨t',rfl⟩:=ry;exact PySem.EqMixed.ne_int_str (zam I q (by simp))
  |_=>exact absurd (show false=true from hs) Bool.false_ne_true
 |str i=>
  obtain⟨t,rfl⟩:=rx
  cases y with
  |non=>cases ry;exact PySem.EqNone.ne_str_none (zam I q (by simp))
  |bl j=>cases ry;exact PySem.EqMixed.ne_str_bool (zam I q (by simp))
  |int j=>obtain⟨t',rfl⟩:=ry;exact PySem.EqMixed.ne_str_int (zam I q (by simp))
  |str j=>obtain⟨t',rfl⟩:=ry;exact ne_str (zam I q (congrArg not zfD))
  |_=>exact absurd (show false=true from hs) Bool.false_ne_true
 |byt i=>
  obtain⟨t,rfl⟩:=rx
  cases y with
  |byt j=>obtain⟨t',rfl⟩:=ry;exact PySem.W.ne_bytes (zam I q (congrArg not zfE))
  |_=>exact absurd (show false=true from hs) Bool.false_ne_true
 |_=>cases y<;>exact absurd (show false=true from hs) Bool.false_ne_true
theorem zfF:OpR X (compareOp .Lt) (rI0 fun i j=>.bl (decide (i<j))):=opB0 fun _ _ _ _ _ _ _ q=>lt_int q
theorem zir:OpR X (compareOp .LtE) (rI0 fun i j=>.bl (decide (i<=j))):=opB0 fun _ _ _ _ _ _ _ q=>le_int q
theorem zcL:OpR X (compareOp .Gt) (rI0 fun i j=>.bl (decide (j<i))):=opB0 fun _ _ _ _ _ _ _ q=>gt_int q
theorem zhx:OpR X (compareOp .GtE) (rI0 fun i j=>.bl (decide (j<=i))):=opB0 fun _ _ _ _ _ _ _ q=>ge_int q
theorem zdK:OpR X (compareOp .Is) (fun x y H Q=>y=.non/\Q (.bl (decide (x=.non))) H):=by
 intro pins s σ H x y v u Q I rx ry h
 obtain⟨rfl,q⟩:=h
 cases ry
 refine is_none_gen (zam I q ?_)
 cases x<;>first
  |(cases rx;rfl)
  |(obtain⟨t,rfl⟩:=rx;rfl)
theorem zhy:OpR X (compareOp .IsNot) (fun x y H Q=>y=.non/\Q (.bl (!decide (x=.non))) H):=by
 intro pins s σ H x y v u Q I rx ry h
 obtain⟨rfl,q⟩:=h
 cases ry
 refine isnot_none_gen (zam I q ?_)
 cases x<;>first
  |(cases rx;rfl)
  |(obtain⟨t,rfl⟩:=rx;rfl)
theorem zag (b:Expr){op:CmpOp}(h:op≠.In:=by decide)(h2:op≠.NotIn:=by decide):behindInMarks op b=false:=by
 have e1:(op==CmpOp.In)=false:=by cases op<;>first|rfl|exact absurd rfl h
 have e2:(op==CmpOp.NotIn)=false:=by cases op<;>first|rfl|exact absurd rfl h2
 cases b<;>simp[behindInMarks,e1,e2]
theorem pe_cmpR {op:CmpOp}{r:R2}(ho:OpR X (compareOp op) r)(ha:PE X a ta)(hb:PE X b tb)(hm:behindInMarks op b=false):PE X (.Compare a [op] [b] pos) (tOp r ta tb):=by
 intro pins s σ H Q I h
 exact wpAny_Compare1 (binT ha hb I h fun v u s2 x y H2 I2 rx ry q=>ho pins s2 σ H2 x y v u Q I2 rx ry q) hm
noncomputable def zis (t:TE):TT:=fun σ H Q=>t σ H fun x H'=>∃k,x=.bl k/\Q k H'
theorem pt_cmpR {op:CmpOp}{r:R2}(ho:OpR X (compareOp op) r)(ha:PE X a ta)(hb:PE X b tb)(hm:behindInMarks op b=false):PT X (.Compare a [op] [b] pos) (zis (tOp r ta tb)):=by
 intro pins s σ H Q I h
 refine wpAny_isTrue_Compare1 (thn (ha pins s σ H _ I h) fun v s1 ⟨x,H1,I1,r1,q1⟩=>thn (hb pins s1 σ H1 _ I1 q1) fun u s2 ⟨y,H2,I2,r2,q2⟩=>
  thn (ho pins s2 σ H2 x y v u _ I2 r1 r2 q2) fun c s3 ⟨z,H3,I3,r3,k,e,q3⟩=> ?_) hm
 subst e
 cases r3
 exact wpAny_truthy_bool ⟨H3,I3,q3⟩
noncomputable def TruV (K:PySem.W.Frag)(x:V)(H:Hp)(k:Bool):Prop:=
 match x with
 | .non=>k=false
 | .bl b=>k=b
 | .int i=>k=(i != 0)
 | .str y=>y.length<=sizeLine/\k=((y.length:Int) != 0)
 | .byt y=>y.size<=sizeLine/\k=((y.size:Int) != 0)
 | .ref p=>(∃xs,SqL K H p xs/\k= !xs.isEmpty)∨(∃xs,SqT K H p xs/\k= !xs.isEmpty)∨∃kvs,H p=some (.dK kvs)/\k= !kvs.isEmpty
 |_=>False
theorem zff {κ:Type}{kvs:List (κ×V)}{vs:List (κ×Value)}(r:KV kvs vs):(!vs.isEmpty)= !kvs.isEmpty:=by
 cases r<;>rfl
theorem zc4 {xs:List V}{its:List Value}(r:Vals xs its):(!its.toArray.isEmpty)= !xs.isEmpty:=by
 cases r<;>simp
theorem zdL:(sizeLine:Nat)<2^63:=by rw[sizeLine_eq];decide
theorem zit:TruR X (fun x H Q=>∃k,TruV X.K x H k/\Q k H):=by
 intro pins s σ H x v Q I rx h
 obtain⟨k,e,q⟩:=h
 have hl:=zdL
 have hs:sizeLine=16777216:=sizeLine_eq
 cases x with
 |non=>
  cases rx
  have e':k=false:=e
  subst e'
  exact truthy_none ⟨H,I,q⟩
 |bl b=>
  cases rx
  have e':k=b:=e
  subst e'
  exact wpAny_truthy_bool ⟨H,I,q⟩
 |int i=>
  obtain⟨t,rfl⟩:=rx
  have e':k=(i != 0):=e
  subst e'
  exact PySem.P.truthy_int ⟨H,I,q⟩
 |str y=>
  obtain⟨t,rfl⟩:=rx
  obtain⟨hy,e'⟩:y.length<=sizeLine/\k=((y.length:Int) != 0):=e
  subst e'
  exact PySem.P.truthy_str (by (first|lia|omega)) ⟨H,I.tok _,q⟩
 |byt y=>
  obtain⟨t,rfl⟩:=rx
  obtain⟨hy,e'⟩:y.size<=sizeLine/\k=((y.size:Int) != 0):=e
  subst e'
  exact PySem.W.truthy_bytes (by (first|lia|omega)) ⟨H,I.tok _,q⟩
 | ref p=>
  cases rx
  have e':(∃xs,SqL X.K H p xs/\k= !xs.isEmpty)∨(∃xs,SqT X.K H p xs/\k= !xs.isEmpty)∨∃kvs,H p=some (.dK kvs)/\k= !kvs.isEmpty:=e
  rcases e' with⟨xs,hx,e'⟩|⟨xs,hx,e'⟩|⟨kvs,hx,e'⟩
  ·subst e'
   obtain⟨its,r,pl,hz⟩:=I.list hx
   have hlen:=r.length
   exact wpAny_truthy_list pl.isList (by simp only[List.size_toArray];(first|lia|omega)) ⟨H,I.tok _,by rw[zc4 r];exact q⟩
  ·subst e'
   obtain⟨its,r,pl,hz⟩:=I.tuple hx
   have hlen:=r.length
   exact truthy_tuple pl (by simp only[List.size_toArray];(first|lia|omega)) ⟨H,I.tok _,by rw[zc4 r];exact q⟩
  ·subst e'
   obtain⟨hz,hS,vs,r,m⟩:kvs.length<=sizeLine/\(p==sysModules)=false/\∃vs,KV kvs vs/\s.heap.DictOf (zcj X.prog X.w) p vs:=I.hok p _ hx
   have hlen:kvs.length=vs.length:=Paired.length r
   exact wpAny_truthy_dict hS m (by (first|lia|omega)) ⟨H,I.tok _,by rw[zff r];exact q⟩
 |_=>exact (show False from e).elim
theorem zeR (ha:PE X a ta)(he:∀whole,isTrue a X.env whole=(do let v<-whole;standAt a.pos;holding [v] (truthy v))):
  PT X a (fun σ H Q=>ta σ H fun x H'=>∃k,TruV X.K x H' k/\Q k H'):=by
 intro pins s σ H Q I h
 exact isTrue_plain (thn (ha pins s σ H _ I h) fun v s1 ⟨x,H1,I1,r1,q1⟩=>zit pins s1 σ H1 x v Q I1 r1 q1) (he _)
theorem zfg {x:V}{us:List Value}(r:Vals [x] us):∃u,us=[u]/\RelV x u:=by
 cases r with
 |cons r1 r2=>cases r2;exact⟨_,rfl,r1⟩
theorem zfG {x y:V}{us:List Value}(r:Vals [x,y] us):∃u w',us=[u,w']/\RelV x u/\RelV y w':=by
 cases r with
 |cons r1 r2=>
  cases r2 with
  |cons r3 r4=>cases r4;exact⟨_,_,rfl,r1,r3⟩
theorem zeS:zcm X (.builtin "abs") (fun xs H Q=>∃i,xs=[.int i]/\Q (.int (if i<0 then-i else i)) H):=by
 intro pins s σ H xs us Q I r h
 obtain⟨i,rfl,q⟩:=h
 obtain⟨u,rfl,t,rfl⟩:=zfg r
 exact call_abs_int fun u tk=>⟨.int (if i<0 then-i else i),H,I.tok _,⟨_,rfl⟩,q⟩
theorem zaK (hc:X.calm=true):zcm X (.builtin "max") (fun xs H Q=>∃i j,xs=[.int i,.int j]/\Q (.int (if j>i then j else i)) H):=by
 intro pins s σ H xs us Q I r h
 obtain⟨i,j,rfl,q⟩:=h
 obtain⟨u,w',rfl,⟨t,rfl⟩,⟨t',rfl⟩⟩:=zfG r
 refine max_two_ints (I.ok.hd hc) fun h' tk k=>⟨_,H,I.kept k, ?_,q⟩
 by_cases hj:j>i
 ·rw[if_pos hj,if_pos hj];exact⟨_,rfl⟩
 ·rw[if_neg hj,if_neg hj];exact⟨_,rfl⟩
theorem zdM (hc:X.calm=true):zcm X (.builtin "min") (fun xs H Q=>∃i j,xs=[.int i,.int j]/\Q (.int (if j<i then j else i)) H):=by
 intro pins s σ H xs us Q I r h
 obtain⟨i,j,rfl,q⟩:=h
 obtain⟨u,w',rfl,⟨t,rfl⟩,⟨t',rfl⟩⟩:=zfG r
 refine min_two_ints (I.ok.hd hc) fun h' tk k=>⟨_,H,I.kept k, ?_,q⟩
 by_cases hj:j<i
 ·rw[if_pos hj,if_pos hj];exact⟨_,rfl⟩
 ·rw[if_neg hj,if_neg hj];exact⟨_,rfl⟩
theorem zcn:zcm X (.type "int") (fun xs H Q=>(∃i,xs=[.int i]/\Q (.int i) H)∨∃k,xs=[.bl k]/\Q (.int (if k then 1 else 0)) H):=by
 intro pins s σ H xs us Q I r h
 rcases h with⟨i,rfl,q⟩|⟨k,rfl,q⟩
 ·obtain ⟨u,rfl,t,rfl⟩:=zfg r
  exact call_int_int ⟨.int i,H,I,⟨_,rfl⟩,q⟩
 ·obtain ⟨u,rfl,r1⟩:=zfg r
  cases r1
  exact call_int_bool ⟨.int (if k then 1 else 0),H,I.tok _,⟨_,rfl⟩,q⟩
end
structure ObjM (h:Heap) (x dx C:Addr) (mA:Str->Option Value):Prop where
 obj:h.get? x=some (PySem.W.instObj C dx)
 ns:h.Ns1 dx mA
 ne:dx≠x
theorem zfH {h:Heap}{dx:Addr}{mA:Str->Option Value}(n:h.Ns1 dx mA):∃od,h.get? dx=some od/\∀name,PySem.W.lookIn name od=some (mA name):=by
 obtain⟨o,es,ep,ho,hd,hk,_,hm⟩:=n
 refine⟨o,ho,fun name=> ?_⟩
 have e:=hm name
 unfold nsFind findBy at e
 rw[<-Array.find?_toList] at e
 unfold PySem.W.lookIn
 rw[hd]
 dsimp only
 split
 ·rename_i y q
  rw[q] at e
  exact congrArg some e
 ·rename_i q
  rw[q] at e
  have a:es.toList.any (·.refKey)=false:=by
   rw[List.any_eq_false]
   intro y hy
   obtain⟨z,t,hkey⟩:=hk y (Array.mem_toList_iff.mp hy)
   simp[DictEntry.refKey,hkey]
  have a':¬es.toList.any (·.refKey)=true:=by rw[a];exact Bool.false_ne_true
  rw[if_neg a']
  exact congrArg some e
theorem ObjM.look {h:Heap}{x dx C:Addr}{mA:Str->Option Value}(I:ObjM h x dx C mA):∃od,PySem.W.InstAt h x (PySem.W.instObj C dx) C (some od)/\∀name,PySem.W.lookIn name od=some (mA name):=
 let ⟨od,ho,hl⟩:=zfH I.ns
 ⟨od,⟨I.obj,rfl,rfl,ho⟩,hl⟩
section
variable {prog:Program}{w:World}{A:Around}{E:Value->Shared->Prop}{s:Shared}{K:PySem.W.Frag}{x dx C f:Addr}{mA:Str->Option Value}{name:Str}{v:Value}
end
section
variable {P:Program}{w:World}{H H':Hp}{h h':Heap}{a C dx:Addr}{fs fs':List (Str×V)}
theorem zhz (hok:HOk P w H h)(e:H a=some (.ins C dx fs)):∃mA,ObjM h a dx C mA/\(∀f,RelO (fs.lookup f) (mA f))/\PySem.Within mA (fs.map (·.1))/\fs.length<=1000/\H dx=some (.own a):=by
 obtain⟨d,z,ne,ob,mA,n,r,q⟩:=(show ObjOk P w H h a (.ins C dx fs) from hok a _ e)
 exact⟨mA,⟨ob,n,ne⟩,r,q,z,d⟩
end
structure Cls (K:PySem.W.Frag) (C:Addr):Prop where
 pg:PySem.W.plainGet K C Str.empty=true
 hd:PySem.W.hasDictIn K C=true
 po:PySem.W.plainOver K C=true
 sa:PySem.W.findIn K (.ref C) "__setattr__" =some (some (.builtin "object.__setattr__"))
theorem Cls.get {K:PySem.W.Frag}{C:Addr}(c:Cls K C)(f:Str):PySem.W.plainGet K C f=true:=c.pg
structure Con (K:PySem.W.Frag) (C:Addr) (f:Str) (v:V) (u:Value):Prop where
 at_:PySem.W.findIn K (.ref C) f=some (some u)
 rel:RelV v u
 get:PySem.W.specialIn K u "__get__" =some none
 cp:PySem.W.copiedNames.contains f=false
structure Meth (K:PySem.W.Frag) (C:Addr) (m:Str) (f:Addr):Prop where
 at_:PySem.W.findIn K (.ref C) m=some (some (.ref f))
 fn:PySem.W.isFn K (.ref f)=true
 kp:PySem.W.keepIn K (.ref f)=true
section
variable {X:Cx}{pins:List (Addr×Obj)}{σ:St}{H:Hp}{s:Shared}{a C dx:Addr}{fs:List (Str×V)}{f:Str}{v:V}{A:Around}{E:Value->Shared->Prop}
end
section
variable {X:Cx}{o e value:Expr}{f:Str}{pos pos' tpos:Pos}{ta tv:TE}
end
section
variable {X:Cx}{pins:List (Addr×Obj)}{σ:St}{H:Hp}{s:Shared}{A:Around}{E:Value->Shared->Prop}{Q:Value->Shared->Prop}{c:Value}{b:Bool}
inductive TyOf (K:PySem.W.Frag) (H:Hp):V->Value->Prop where
 |non:TyOf K H .non (.type "NoneType")
 |bl (x:Bool):TyOf K H (.bl x) (.type "bool")
 |int (i:Int):TyOf K H (.int i) (.type "int")
 |str (x:Str):TyOf K H (.str x) (.type "str")
 |flt (x:UInt64):TyOf K H (.flt x) (.type "float")
 |lst {a:Addr} {xs:List V} (e:H a=some (.lst xs)):TyOf K H (.ref a) (.type "list")
 |frz {a:Addr} {o:Obj} {xs:List V} (e:H a=some (.frz o (.lst xs))):TyOf K H (.ref a) (.type "list")
 |tup {a:Addr} {xs:List V} (e:H a=some (.tup xs)):TyOf K H (.ref a) (.type "tuple")
 |dK {a:Addr} {kvs:List (Key×V)} (e:H a=some (.dK kvs)):TyOf K H (.ref a) (.type "dict")
 |dT {a:Addr} {kvs:List (List Key×V)} (e:H a=some (.dT kvs)):TyOf K H (.ref a) (.type "dict")
 | ins {a C dx:Addr} {fs:List (Str×V)} (e:H a=some (.ins C dx fs)) (cl:Cls K C) (ha:PySem.W.findIn K (.ref C) "__class__" =some (some (.builtin "object.__class__")))
   (hn:PySem.W.specialIn K (.builtin "object.__class__") "__get__" =some (some (.builtin "getset_descriptor.__get__"))) (htk:PySem.W.takesIn K (.builtin "object.__class__")=some true)
   (hm:PySem.W.mroIn K C (.type "object")=some true):TyOf K H (.ref a) (.ref C)
theorem zfI {x:V}{u t:Value}(I:Inv X pins σ H s)(rx:RelV x u)(ty:TyOf X.K H x t)(e:PySem.W.kitOne X.K t c=some b)(h:∀tk,Q (.bool b) {s with toks:=tk}):
  wpAny (model X.prog X.w) A (call (.builtin "isinstance") [u,c]) Q E s:=by
 cases ty with
 |non=>cases (show u=Value.none from rx);exact PySem.W.kia_one PySem.W.kitx_none I.kIn True.intro e (fun z=>nomatch z) h
 |bl y=>cases (show u=Value.bool y from rx);exact PySem.W.kia_one PySem.W.kitx_bool I.kIn True.intro e (fun z=>nomatch z) h
 |int i=>obtain⟨t,q⟩:=(show ∃t,u=Value.int i t from rx);cases q;exact PySem.W.kia_one PySem.W.kitx_int I.kIn True.intro e (fun z=>nomatch z) h
 |str y=>obtain⟨t,q⟩:=(show ∃t,u=Value.str y t from rx);cases q;exact PySem.W.kia_one PySem.W.kitx_str I.kIn True.intro e (fun z=>nomatch z) h
 |flt y=>obtain⟨t,q⟩:=(show ∃t,u=Value.float y t from rx);cases q;exact PySem.W.kia_one PySem.W.kitx_float I.kIn True.intro e (fun z=>nomatch z) h
 |@lst a xs ea=>
  cases (show u=Value.ref a from rx)
  obtain⟨_,_,n,_,h1⟩:=(show ObjOk X.prog X.w H s.heap a (.lst xs) from I.hok a _ ea)
  exact PySem.W.kia_one PySem.W.kitx_list I.kIn ⟨_,h1,rfl⟩ e (fun z=>nomatch z) h
 |@frz a ob xs ea=>
  cases (show u=Value.ref a from rx)
  obtain⟨_,_,_,n,_,h1⟩:=(show ObjOk X.prog X.w H s.heap a (.frz ob (.lst xs)) from I.hok a _ ea)
  exact PySem.W.kia_one PySem.W.kitx_list I.kIn ⟨_,h1,rfl⟩ e (fun z=>nomatch z) h
 |@tup a xs ea=>
  cases (show u=Value.ref a from rx)
  obtain⟨_,_,_,p⟩:=(show ObjOk X.prog X.w H s.heap a (.tup xs) from I.hok a _ ea)
  obtain⟨o,h1,h2,_⟩:=p
  exact PySem.W.kia_one PySem.W.kitx_tuple I.kIn ⟨o,h1,h2⟩ e (fun z=>nomatch z) h
 |@dK a kvs ea=>
  cases (show u=Value.ref a from rx)
  obtain⟨_,_,vs,_,p⟩:=(show ObjOk X.prog X.w H s.heap a (.dK kvs) from I.hok a _ ea)
  obtain⟨o,es,ep,h1,h2,_⟩:=p
  exact PySem.W.kia_one PySem.W.kitx_dict I.kIn ⟨o,h1,h2.1⟩ e (fun z=>nomatch z) h
 |@dT a kvs ea=>
  cases (show u=Value.ref a from rx)
  obtain⟨_,_,xs,_,o,es,ep,h1,h2,_⟩:=(show ObjOk X.prog X.w H s.heap a (.dT kvs) from I.hok a _ ea)
  exact PySem.W.kia_one PySem.W.kitx_dict I.kIn ⟨o,h1,h2.1⟩ e (fun z=>nomatch z) h
 |@ins a C dx fs ea cl ha hn htk hm=>
  cases (show u=Value.ref a from rx)
  obtain⟨mA,O,_⟩:=zhz I.hok ea
  obtain⟨od,J,_⟩:=O.look
  exact PySem.W.kia_one (PySem.W.kitx_own (cl.get _) cl.hd ha hn htk hm) I.kIn J e (fun z=>nomatch z) h
end
structure Room (k:Nat) (A:Around):Prop where
 hd:A.handled=none
 dp:A.depth+3*k+5<recursionLimit
 un:A.units+16*k+200<cLine
 gd:A.guards=some []
theorem Room.mono {j k:Nat}{A:Around}(r:Room k A)(h:j<=k):Room j A:=⟨r.hd,by have:=r.dp;(first|lia|omega),by have:=r.un;(first|lia|omega),r.gd⟩
theorem Room.deeper {k:Nat}{A:Around}(r:Room (k+1) A)(env:Env):Room k (A.deeper env):=
 ⟨r.hd,by have:=r.dp;show A.depth+1+3*k+5<_;(first|lia|omega),by have:=r.un;show A.units+3+16*k+200<_;(first|lia|omega),r.gd⟩
theorem Room.depth {k:Nat}{A:Around}(r:Room k A):A.depth<recursionLimit:=by have:=r.dp;(first|lia|omega)
theorem Room.units {k:Nat}{A:Around}(r:Room k A):A.units+64<cLine:=by have:=r.un;(first|lia|omega)
noncomputable def tNil:TA:=fun _ H Q=>Q [] H
noncomputable def zcM (ta:TE)(tr:TA):TA:=fun σ H Q=>ta σ H fun x H1=>tr σ H1 fun xs H2=>Q (x::xs) H2
section
variable {X:Cx}{e:Expr}{es:List Expr}{te:TE}{t:TA}{pos:Pos}
theorem pa_nil:PA X [] tNil:=fun _ _ _ _ H Q I h=>Calls.spliced_nil ⟨[],H,I,.nil,h⟩
theorem pa_cons (ha:PE X e te)(hr:PA X es t)(hs:starEach (e::es) X.env=(false,eval e X.env)::starEach es X.env:=by rfl):PA X (e::es) (zcM te t):=by
 intro pos pins s σ H Q I h
 rw[hs]
 show wpAny _ _ (spliced ((false,eval e X.env)::backTo pos (starEach es X.env))) _ _ s
 refine Calls.spliced_cons (thn (ha pins s σ H _ I h) fun u s1 zq=> ?_)
 obtain⟨x,H1,I1,r1,q1⟩:=zq
 exact thn (hr pos pins s1 σ H1 _ I1 q1) fun us s2 ⟨xs,H2,I2,r2,q2⟩=>⟨x::xs,H2,I2,.cons r1 r2,q2⟩
noncomputable def tTup (t:TA):TE:=fun σ H Q=>t σ H fun xs H1=>xs.length<=sizeLine/\∀p,H1 p=none->Q (.ref p) (upd H1 p (.tup xs))
noncomputable def tLst (t:TA):TE:=fun σ H Q=>t σ H fun xs H1=>xs.length<=sizeLine/\∀p,H1 p=none->Q (.ref p) (upd H1 p (.lst xs))
theorem pe_tup {x1}(h:PA X es t):PE X (.Tuple es x1 pos) (tTup t):=by
 intro pins s σ H Q I hq
 refine wpAny_Tuple_spliced (thn (h pos pins s σ H _ I hq) fun us s1 ⟨xs,H1,I1,r,z,q⟩=>⟨by rw[<-r.length];exact z, ?_⟩)
 have hf:H1 s1.heap.objs.size=none:=I1.hok.fresh (Nat.le_refl _)
 refine⟨.ref s1.heap.objs.size,upd H1 s1.heap.objs.size (.tup xs),I1.laid (t':=s1.toks) (fun b u e=>Heap.get?_push_of_some _ e) (Nat.le_refl _) ?_,rfl,q _ hf⟩
 exact⟨z,us,r,PTup.new⟩
theorem pe_lst (h:PA X es t):PE X (.List es pos) (tLst t):=by
 intro pins s σ H Q I hq
 refine wpAny_List_spliced (thn (h pos pins s σ H _ I hq) fun us s1 ⟨xs,H1,I1,r,z,q⟩=>⟨by rw[<-r.length];exact z, ?_⟩)
 have hf:H1 s1.heap.objs.size=none:=I1.hok.fresh (Nat.le_refl _)
 refine⟨.ref s1.heap.objs.size,upd H1 s1.heap.objs.size (.lst xs),I1.laid (t':=s1.toks) (fun b u e=>Heap.get?_push_of_some _ e) (Nat.le_refl _) ?_,rfl,q _ hf⟩
 exact⟨z,us,0,r,Heap.get?_push_size _ rfl⟩
end
noncomputable abbrev Sp:=List V->Hp->VK->XK->Prop
noncomputable abbrev CXT:=List Env->Hp->Shared->XK->Value->Shared->Prop
structure Env0 (P:Program) (w:World) (K:PySem.W.Frag) (mg:Str->Option Value) (base:Heap) (A:Around) (outer:List Env) (s:Shared) (H:Hp):Prop where
 frames:A.frames=some outer
 mod:Mod K mg base
 bs:∀b o,base.get? b=some o->s.heap.get? b=some o/\H b=none
 bsz:base.objs.size<=s.heap.objs.size
 funs:s.heap.FunFrames base outer
 frf:∀b∈frs outer,H b=none
 hok:HOk P w H s.heap
 bare:AllBare s.gens
noncomputable def CE (outer:List Env)(P:Program)(w:World)(H:Hp)(s:Shared)(Q:VK)(u:Value)(s':Shared):Prop:=
 ∃v H',s'.os=s.os/\AllBare s'.gens/\Un (frs outer) [] H H' s.heap s'.heap/\HOk P w H' s'.heap/\RelV v u/\Q v H'
noncomputable def CR (CX:CXT)(outer:List Env)(P:Program)(w:World)(H:Hp)(s:Shared)(Q:VK)(E:XK)(r:Result)(s':Shared):Prop:=
 match r with
 | .ok (.ret u)=>CE outer P w H s Q u s'
 | .ok _=>False
 | .error e=>CX outer H s E e s'
structure FnOk (P:Program) (w:World) (K:PySem.W.Frag) (mg:Str->Option Value) (base:Heap) (CX:CXT) (k:Nat) (f:Addr) (fd:FuncData) (ps:List Str) (sp:Sp):Prop where
 len:∀vs H Q E,sp vs H Q E->vs.length=ps.length
 run:∀(A:Around) (outer:List Env) (s:Shared) (H:Hp) (args:Args) (us:List Value) (vs:List V) (Q:VK) (E:XK),Room k A->Env0 P w K mg base A outer s H->BindsTo s fd args (ps.zip us)->Vals vs us->sp vs H Q E->
  codeAny (model P w) A (.call (.ref f) args) (CR CX outer P w H s Q E) s
theorem FnOk.mono {P:Program}{w:World}{K:PySem.W.Frag}{mg:Str->Option Value}{base:Heap}{CX:CXT}{j k:Nat}{f:Addr}{fd:FuncData}{ps:List Str}{sp:Sp}(F:FnOk P w K mg base CX j f fd ps sp)(h:j<=k):
  FnOk P w K mg base CX k f fd ps sp:=⟨F.len,fun A outer s H args us vs Q E hr=>F.run A outer s H args us vs Q E (hr.mono h)⟩
section
variable {X:Cx}{pins:List (Addr×Obj)}{σ:St}{H:Hp}{s s':Shared}
theorem Inv.env0 (I:Inv X pins σ H s):Env0 X.prog X.w X.K X.mg X.base X.A X.stack s H:=
 ⟨I.ok.frames,I.ok.mod,I.bs,Nat.le_trans I.ok.bsz I.sz,I.stack,I.stkFree,I.hok,I.bare⟩
theorem Inv.after {Q:VK}{u:Value}(I:Inv X pins σ H s)(h:CE X.stack X.prog X.w H s Q u s'):EP X pins σ Q u s':=by
 obtain⟨v,H',os,bare,un,hok,r,q⟩:=h
 obtain⟨hh,g,d,t,os'⟩:=s'
 obtain rfl:os'=s.os:=os
 exact⟨v,H',I.call (h':=hh) (g':=g) (d':=d) (t':=t) (ch:=[]) un hok bare (fun b z=>absurd z (by simp)),r,q⟩
end
noncomputable def zi6 (sp:Sp)(dvs:List V)(E:XK)(t:TA):TE:=fun σ H Q=>t σ H fun vs H1=>sp (vs++dvs) H1 Q E
noncomputable def Binds (K:PySem.W.Frag)(fd:FuncData)(ps:List Str)(ds:List Value):Prop:=
 ∀(s:Shared) (us:List Value),K.In s.heap->(us++ds).length=ps.length->BindsTo s fd ⟨us,[]⟩ (ps.zip (us++ds))
theorem Binds.all {K:PySem.W.Frag}{fd:FuncData}{ps:List Str}(h:∀us:List Value,us.length=ps.length->bindArgs fd ⟨us,[]⟩=pure (ps.zip us)):Binds K fd ps []:=fun s us _ hl=>by
 rw[List.append_nil] at hl ⊢
 exact .of_eq (h us hl)
noncomputable def zfJ (CX:CXT)(X:Cx)(E:XK):Prop:=∀(pins:List (Addr×Obj)) (σ:St) (H:Hp) (s:Shared) (e:Value) (s':Shared),Inv X pins σ H s->CX X.stack H s E e s'->X.xe e s'
section
variable {X:Cx}{CX:CXT}{k:Nat}{f C:Addr}{fd:FuncData}{ps:List Str}{sp:Sp}{dvs:List V}{ds:List Value}{E:XK}{x m:Str}{p pos apos:Pos}{e o:Expr}{es:List Expr}{ta:TE}{t:TA}
theorem zhi {pins:List (Addr×Obj)}{σ:St}{H:Hp}{s:Shared}{Q:VK}{us:List Value}{vs:List V}(F:FnOk X.prog X.w X.K X.mg X.base CX k f fd ps sp)(hr:Room k X.A)(hb:Binds X.K fd ps ds)(hd:Vals dvs ds)(hx:zfJ CX X E)
  (I:Inv X pins σ H s) (r:Vals vs us) (h:sp (vs++dvs) H Q E):wpAny (model X.prog X.w) X.A (call (.ref f) us) (EP X pins σ Q) X.xe s:=by
 have r2:Vals (vs++dvs) (us++ds):=r.append hd
 have hl:(us++ds).length=ps.length:=by rw[<-r2.length];exact F.len _ _ _ _ h
 refine wpAny_call (codeAny_mono (F.run X.A X.stack s H ⟨us,[]⟩ (us++ds) (vs++dvs) Q E hr I.env0 (hb s us I.kIn hl) r2 h) fun r s' hq=> ?_)
 cases r with
 |error e=>exact hx pins σ H s e s' I hq
 |ok fl=>
  cases fl with
  |ret u=>exact I.after hq
  |next=>exact False.elim hq
  |brk=>exact False.elim hq
  |cont=>exact False.elim hq
theorem zhA (F:FnOk X.prog X.w X.K X.mg X.base CX k f fd ps sp)(hr:Room k X.A)(hg:Gl X x)(hm:X.mg x=some (.ref f))(hk:PySem.W.keepIn X.K (.ref f)=true)(hb:Binds X.K fd ps ds)(hd:Vals dvs ds)(hx:zfJ CX X E)
  (ha:PA X (e::es) t) (hdb:(x==("__debug__" :Str))=false:=by decide) (he:starEach (e::es) X.env=(false,eval e X.env)::starEach es X.env:=by rfl) (hpl:(backTo pos (starEach es X.env)).any (·.1)=false:=by rfl):
  PE X (.Call (.Name x p) (e::es) [] pos) (zi6 sp dvs E t):=by
 intro pins s σ H Q I h
 refine wpAny_Call_Name_kw (zfy I hg hm ?_ hdb)
 refine PySem.W.callWith_K (h₀:=X.base) I.ok.mod.kin hk (thn (ha pos pins s σ H _ I h) fun us s1 ⟨vs,H1,I1,r,q⟩=>⟨I1.kIn, ?_⟩) he hpl
 exact zhi F hr hb hd hx I1 r q
structure Mk (K:PySem.W.Frag) (C f:Addr):Prop where
 makes:PySem.W.makesIn K C=true
 init:PySem.W.findIn K (.ref C) "__init__" =some (some (.ref f))
 fn:PySem.W.isFn K (.ref f)=true
 kp:PySem.W.keepIn K (.ref C)=true
end
section
variable {X:Cx}{CX:CXT}{k:Nat}{f C:Addr}{fd:FuncData}{ps ks:List Str}{sp:Sp}{E:XK}{x m:Str}{p pos apos kpos:Pos}{e o:Expr}{es:List Expr}{kws:List Keyword}{te ta:TE}{t tk:TA}{nm:Option Str}
structure KBinds (K:PySem.W.Frag) (fd:FuncData) (ps ks:List Str) (g:List Value->List Value->List Value) (gV:List V->List V->List V):Prop where
 to:∀(s:Shared) (us ws:List Value),K.In s.heap->(g us ws).length=ps.length->BindsTo s fd ⟨us,ks.zip ws⟩ (ps.zip (g us ws))
 rel:∀{vs:List V} {us:List Value} {zs:List V} {ws:List Value},Vals vs us->Vals zs ws->Vals (gV vs zs) (g us ws)
variable {g:List Value->List Value->List Value}{gV:List V->List V->List V}
end
structure FnScope (N P:List Str) (sc:Scope):Prop where
 kind:sc.kind=.function
 co:sc.isCoroutine=false
 gen:sc.isGenerator=false
 nd:N.Nodup
 pre:N.take P.length=P
 par:∀x∈P,sc.names.lookup x=some .local∨sc.names.lookup x=some .cell
 nofree:∀y∈sc.names,y.2≠.free
theorem zdN {kindOf:Str->Option NameKind}{x:Str}:∀{binds:List (Str×Value)} {m:Str->Option Value},(∀v,(x,v)∉binds)->bindL kindOf binds m x=m x
 |[],_,_=>rfl
 | (n,v)::r,m,h=>by
  unfold bindL
  rw[zdN fun w hw=>h w (List.mem_cons_of_mem _ hw)]
  split
  ·have:x≠n:=by rintro rfl;exact h v List.mem_cons_self
   simp[this]
  ·rfl
theorem zdO {kindOf:Str->Option NameKind}{x:Str}:∀{binds:List (Str×Value)} {m:Str->Option Value},(∀v,(x,v)∉binds)->bindC kindOf binds m x=m x
 |[],_,_=>rfl
 | (n,v)::r,m,h=>by
  unfold bindC
  rw[zdO fun w hw=>h w (List.mem_cons_of_mem _ hw)]
  split
  ·rfl
  ·have:x≠n:=by rintro rfl;exact h v List.mem_cons_self
   simp[this]
theorem zdP {kindOf:Str->Option NameKind}{x:Str}{v:Value}:∀{P:List Str} {vs:List Value} {i:Nat} {m:Str->Option Value},P.Nodup->P[i]? =some x->vs[i]? =some v->kindOf x=some .local->
  bindL kindOf (P.zip vs) m x=some v
 |[],_,_,_,_,h,_,_=>by simp at h
 |_::_,[],_,_,_,_,h,_=>by simp at h
 |p::P,w::vs,0,m,nd,h1,h2,hk=>by
  simp at h1 h2;subst h1;subst h2
  show bindL kindOf ((p,w)::P.zip vs) m p=_
  unfold bindL
  rw[zdN fun v hv=>(List.nodup_cons.mp nd).1 (List.of_mem_zip hv).1,if_pos hk]
  simp
 |p::P,w::vs,i+1,m,nd,h1,h2,hk=>by
  show bindL kindOf ((p,w)::P.zip vs) m x=_
  unfold bindL
  exact zdP (i:=i) (List.nodup_cons.mp nd).2 (by simpa using h1) (by simpa using h2) hk
theorem zdQ {kindOf:Str->Option NameKind}{x:Str}{v:Value}:∀{P:List Str} {vs:List Value} {i:Nat} {m:Str->Option Value},P.Nodup->P[i]? =some x->vs[i]? =some v->kindOf x≠some .local->
  bindC kindOf (P.zip vs) m x=some v
 |[],_,_,_,_,h,_,_=>by simp at h
 |_::_,[],_,_,_,_,h,_=>by simp at h
 |p::P,w::vs,0,m,nd,h1,h2,hk=>by
  simp at h1 h2;subst h1;subst h2
  show bindC kindOf ((p,w)::P.zip vs) m p=_
  unfold bindC
  rw[zdO fun v hv=>(List.nodup_cons.mp nd).1 (List.of_mem_zip hv).1,if_neg hk]
  simp
 |p::P,w::vs,i+1,m,nd,h1,h2,hk=>by
  show bindC kindOf ((p,w)::P.zip vs) m x=_
  unfold bindC
  exact zdQ (i:=i) (List.nodup_cons.mp nd).2 (by simpa using h1) (by simpa using h2) hk
noncomputable def zdR (N:List Str)(vs:List V):St:=vs.map some++List.replicate (N.length-vs.length) none
noncomputable def cxOf (CX:CXT)(P:Program)(w:World)(K:PySem.W.Frag)(mg:Str->Option Value)(base:Heap)(N:List Str)(qual:Str)(scope:Scope)(f:Addr)(cd:Value)(A:Around)(outer:List Env)(s:Shared)(H:Hp)(E:XK):Cx where
 prog:=P
 w:=w
 K:=K
 mg:=mg
 base:=base
 A:=A.deeper (envOfC qual scope s.heap.objs.size f cd)
 N:=N
 s₀:=s
 H₀:=H
 env:=envOfC qual scope s.heap.objs.size f cd
 outer:=outer
 stack:=envOfC qual scope s.heap.objs.size f cd::outer
 ex:=[]
 calm:=true
 fn:=fun _=>true
 pn:=[]
 xe:=fun e s'=>wpAny (model P w) (A.deeper (envOfC qual scope s.heap.objs.size f cd)) (leaving (envOfC qual scope s.heap.objs.size f cd) e) (fun _ s''=>CX outer H s E e s'') (fun e' s''=>CX outer H s E e' s'') s'
theorem zeT {sc:Scope}{n:Nat}{x:Str}(h:sc.names.lookup x=some .cell):∃c,(cellsFrom n sc.names []).lookup x=some c:=by
 have q:=PySem.W.cellsFrom_some sc.names n [] (.inl h)
 exact Option.isSome_iff_exists.mp q
theorem zfK {CX:CXT}{P:Program}{w:World}{K:PySem.W.Frag}{mg:Str->Option Value}{base:Heap}{N ps:List Str}{qual:Str}{scope:Scope}{f:Addr}{cd:Value}{A:Around}{outer:List Env}{s s1:Shared}{H:Hp}{E:XK}{us:List Value}{vs:List V}
  (S:FnScope N ps scope) (hd:A.handled=none) (e0:Env0 P w K mg base A outer s H) (hl:vs.length=ps.length) (r:Vals vs us)
  (x:InCallC s s.heap.objs.size (bindL (envOfC qual scope s.heap.objs.size f cd).kindOf (ps.zip us) fun _=>none) (cellsFrom (s.heap.objs.size+1) scope.names []) (bindC (envOfC qual scope s.heap.objs.size f cd).kindOf (ps.zip us) fun _=>none) s1):
  Inv (cxOf CX P w K mg base N qual scope f cd A outer s H E) [] (zdR N vs) H s1:=by
 have hpl:ps.length<=N.length:=by have:=congrArg List.length S.pre;rw[List.length_take] at this;(first|lia|omega)
 obtain⟨h1,tk,rfl,hk⟩:=x.done
 have noA:∀b:Addr,b∉(cxOf CX P w K mg base N qual scope f cd A outer s H E).ex:=fun b z=>absurd (show b∈([]:List Addr) from z) (by simp)
 refine⟨⟨e0.mod,S.kind,rfl,rfl,Nat.le_refl _,fun y z c h1 h2=> ?_,fun y hy=> ?_,fun y c _ h=> ?_,fun _=>hd,Around.frames_deeper e0.frames,.inr ⟨rfl,rfl⟩,fun b z=>absurd z (noA b),e0.bs,e0.bsz,fun b _ _=>noA b,fun b z=>absurd z (noA b),e0.funs,e0.frf⟩,
  rfl,e0.bare,Un.kept hk,⟨_,x.toInCall.ns,fun i y v h1 h2 h3=> ?_⟩,fun y c h=>⟨_,x.cell y c h⟩,e0.hok.fresh (Nat.le_refl _),fun y c h=> ?_,fun p hp=>absurd (show p∈([]:List (Addr×Obj)) from hp) (by simp),e0.hok.kept hk, ?_⟩
 ·exact name_of_addr x.apart (PySem.mem_of_lookup h1) (PySem.mem_of_lookup h2)
 ·have hy:scope.names.lookup y=some .cell∨scope.names.lookup y=some .free:=hy
  rcases hy with hy|hy
  ·exact zeT hy
  ·exact absurd rfl (S.nofree _ (PySem.mem_of_lookup hy))
 ·exact Nat.le_of_lt (x.above y c (PySem.mem_of_lookup h))
 ·have hi:i<vs.length:=by
   unfold zdR at h2
   by_cases hi:i<vs.length
   ·exact hi
   ·rw [List.getElem?_append_right (by simpa using hi)] at h2
    rw[List.getElem?_replicate] at h2
    split at h2<;>cases h2
  have ha:vs[i]? =some v:=by
   unfold zdR at h2
   rw[List.getElem?_append_left (by simpa using hi),List.getElem?_map] at h2
   cases e:vs[i]? with
   |none=>rw[e] at h2;cases h2
   |some a=>rw[e] at h2;cases h2;rfl
  obtain⟨u,hu,rv⟩:=r.get ha
  have hp:ps[i]? =some y:=by
   rw[<-S.pre,List.getElem?_take_of_lt (by (first|lia|omega))];exact h1
  have ndP:ps.Nodup:=by rw[<-S.pre];exact S.nd.sublist (List.take_sublist _ _)
  refine⟨u,rv, ?_⟩
  rcases S.par y (List.mem_of_getElem? hp) with k|k
  ·exact .inl ⟨k,zdP ndP hp hu k⟩
  ·obtain ⟨c,e⟩:=zeT (n:=s.heap.objs.size+1) k
   refine .inr ⟨.inl k,c,e, ?_⟩
   have q:=x.cell y c e
   rw[zdQ ndP hp hu (by show scope.names.lookup y≠_;rw[k];decide)] at q
   exact q
 ·exact e0.hok.fresh (Nat.le_of_lt (x.above y c (PySem.mem_of_lookup h)))
 ·unfold zdR
  show _=N.length
  rw[List.length_append,List.length_map,List.length_replicate]
  (first|lia|omega)
theorem zi7 {CX:CXT}{P:Program}{w:World}{K:PySem.W.Frag}{mg:Str->Option Value}{base:Heap}{k:Nat}{f:Addr}{name qual:Str}{params:Arguments}{body:List Stmt}{scope:Scope}{dV kV doc pm cdv ct oc:Value}{an od:Option Addr}
  {osl:Array (Option Value)} {N ps:List Str} {sp:Sp} (lk:K.lookup f=some ⟨oc,od,.func (PySem.W.fnOf name qual params body scope dV kV doc pm an cdv ct),osl⟩) (hcd:PySem.W.codeIn K cdv qual=true) (S:FnScope N ps scope)
  (len:∀vs H Q E,sp vs H Q E->vs.length=ps.length)
  (hbody:∀(A:Around) (outer:List Env) (s:Shared) (H:Hp) (vs:List V) (Q:VK) (E:XK),Room k (A.deeper (envOfC qual scope s.heap.objs.size f cdv))->sp vs H Q E->
   ∃t,PSs (cxOf CX P w K mg base N qual scope f cdv A outer s H E) body t/\t {nx:=fun _ H'=>Q .non H',rt:=Q} (zdR N vs) H):
  FnOk P w K mg base CX (k+1) f (PySem.W.fnOf name qual params body scope dV kV doc pm an cdv ct) ps sp:=by
 refine⟨len,fun A outer s H args us vs Q E hr e0 hb r hsp=> ?_⟩
 have hl:=len _ _ _ _ hsp
 have KX:K.In s.heap:=e0.mod.kin.keeps fun b o e=>(e0.bs b o e).1
 have lim:s.heap.NoLimit:=e0.mod.nolimit.keeps fun b o e=>(e0.bs b o e).1
 have hkind:∀y∈ps.zip us,scope.names.lookup y.1=some .local∨(scope.names.lookup y.1=some .cell/\((cellsFrom (s.heap.objs.size+1) scope.names []).lookup y.1).isSome=true):=fun ⟨n,v⟩ hy=>by
  rcases S.par n (List.of_mem_zip hy).1 with q|q
  ·exact .inl q
  ·exact .inr ⟨q,PySem.W.cellsFrom_some _ _ _ (.inl q)⟩
 refine codeAny_call_function hr.depth (KX _ _ lk) rfl S.co S.gen rfl (PySem.W.codeRec_of KX hcd) (hb _ _ _ _ ?_)
 refine wpAny_newFunctionEnv_cells S.kind hkind fun env he s1 x=> ?_
 subst he
 refine⟨lim.keeps x.toInCall.keep,codeAny_func ?_⟩
 obtain⟨t,ht,hq⟩:=hbody A outer s H vs Q E (hr.deeper _) hsp
 have I:Inv (cxOf CX P w K mg base N qual scope f cdv A outer s H E) [] (zdR N vs) H s1:=zfK S hr.hd e0 hl r x
 refine wpAny_mono (ht [] s1 (zdR N vs) H _ I hq) (fun fl s' hs=> ?_) fun e s' hs=>hs
 have fin:∀{σ':St} {H':Hp} {v:V} {u:Value},Inv (cxOf CX P w K mg base N qual scope f cdv A outer s H E) [] σ' H' s'->RelV v u->Q v H'->CE outer P w H s Q u s':=
  fun {σ' H' v u} J rv q=>⟨v,H',J.os,J.bare,J.base,J.hok,rv,q⟩
 cases fl with
 |ret u=>
  obtain⟨v,σ',H',J,rv,q⟩:=hs
  exact fin J rv q
 |next=>
  obtain⟨σ',H',J,q⟩:=hs
  exact fin (v:=V.non) (u:=Value.none) J rfl q
 |brk=>
  obtain⟨_,_,_,q⟩:=hs
  exact False.elim q
 |cont=>
  obtain⟨_,_,_,q⟩:=hs
  exact False.elim q
section
variable {X:Cx}{x:Str}{p pos:Pos}{e:Expr}{es:List Expr}{t:TA}{id T:String}{r:List V->Hp->VK->Prop}
noncomputable def tCB (r:List V->Hp->VK->Prop)(t:TA):TE:=fun σ H Q=>t σ H fun vs H1=>r vs H1 Q
theorem pe_callB (hc:zcm X (.builtin id) r)(hg:Gl X x)(hm:X.mg x=none)(hv:bootBuiltins x=some (.builtin id))(ha:PA X (e::es) t)(hn:x≠ "__name__" :=by decide)(hdb:(x==("__debug__" :Str))=false:=by decide)
  (he:starEach (e::es) X.env=(false,eval e X.env)::starEach es X.env:=by rfl) (hpl:(backTo pos (starEach es X.env)).any (·.1)=false:=by rfl):PE X (.Call (.Name x p) (e::es) [] pos) (tCB r t):=by
 intro pins s σ H Q I h
 refine wpAny_Call_Name_kw (zck I hg hm hv ?_ hn hdb)
 exact PyProof.Rows.callWith_builtin1 (thn (ha pos pins s σ H _ I h) fun us s1 ⟨vs,H1,I1,r1,q1⟩=>hc pins s1 σ H1 vs us Q I1 r1 q1) he hpl
theorem zco (hc:zcm X (.type T) r)(hg:Gl X x)(hm:X.mg x=none)(hv:bootBuiltins x=some (.type T))(ha:PA X (e::es) t)(hn:x≠ "__name__" :=by decide)(hdb:(x==("__debug__" :Str))=false:=by decide)
  (he:starEach (e::es) X.env=(false,eval e X.env)::starEach es X.env:=by rfl) (hpl:(backTo pos (starEach es X.env)).any (·.1)=false:=by rfl):PE X (.Call (.Name x p) (e::es) [] pos) (tCB r t):=by
 intro pins s σ H Q I h
 refine wpAny_Call_Name_kw (zck I hg hm hv ?_ hn hdb)
 exact PyProof.Rows.callWith_type1 (thn (ha pos pins s σ H _ I h) fun us s1 ⟨vs,H1,I1,r1,q1⟩=>hc pins s1 σ H1 vs us Q I1 r1 q1) he hpl
end
end L2
namespace HT
open PySem PyProof.Rows
section
open PySem.SeqAt
open PySem.AutoSeq1 (wpAny_loadPart')
open PySem.MeetsSeq PySem.MeetsSeq2 PySem.MeetsSeq3
end
section
variable {prog:Program}{w:World}{A:Around}{E:Value->Shared->Prop}{s:Shared}
theorem cat_tup {t b:Addr}{vs ws:List Value}{Q:Value->Shared->Prop}(ht:IsTup s.heap t vs.toArray)(hb:IsTup s.heap b ws.toArray)(hv:vs≠[])
  (h1:ws=[]->Q (.ref t) s) (h2:ws≠[]->Q (.ref s.heap.objs.size) {s with heap:=s.heap.push {cls:=.type "tuple",data:=.seq (vs++ws).toArray}})
  (hsz:vs.length+ws.length<=sizeLine):wpAny (model prog w) A (binaryOp .Add (.ref t) (.ref b)) Q E s:=by
 obtain⟨⟨cls,dd,data,sl⟩,ho,hc,n,hd⟩:=id ht
 obtain⟨⟨cls2,dd2,data2,sl2⟩,ho2,hc2,n2,hd2⟩:=id hb
 simp only at hc hd hc2 hd2
 subst hc hd hc2 hd2
 have e:vs.toArray++ws.toArray=(vs++ws).toArray:=by simp
 by_cases hw:ws=[]
 ·exact concat_meets ⟨_,ho,rfl⟩ ⟨_,ho2,rfl⟩ noFill_tuple_add seq_tuple_add PySem.F.slot_tuple_add PySem.F.entry_tuple_add (PySem.F.args_tuple_add_2 _ _)
   (tuple_addW1 t b vs.toArray ws.toArray n n2 dd dd2 sl sl2 (by simpa using hv) (by simp[hw])) ⟨ho,ho2,h1 hw⟩
 ·refine concat_meets ⟨_,ho,rfl⟩ ⟨_,ho2,rfl⟩ noFill_tuple_add seq_tuple_add PySem.F.slot_tuple_add PySem.F.entry_tuple_add (PySem.F.args_tuple_add_2 _ _)
   (tuple_addW2 t b vs.toArray ws.toArray n n2 dd dd2 sl sl2 (by simpa using hv) (by simpa using hw) (by rw[List.size_toArray,List.size_toArray];exact hsz)) ⟨ho,ho2, ?_⟩
  rw[e]
  exact h2 hw
noncomputable def sIx (n d:Nat):Option Int->Nat
 |none=>d
 |some v=>if v<0 then (v+(n:Int)).toNat else min v.toNat n
theorem ziu (n d:Nat)(hd:d<=n)(o:Option Int):sIx n d o<=n:=by
 cases o with
 |none=>exact hd
 |some v=>
  show (if v<0 then (v+(n:Int)).toNat else min v.toNat n)<=n
  by_cases hv:v<0
  ·rw[if_pos hv];(first|lia|omega)
  ·rw[if_neg hv];exact Nat.min_le_right _ _
theorem zfL (v:Int)(n d:Nat):(if v<0 then max (v+(n:Int)) 0 else min v (n:Int))=((sIx n d (some v):Nat):Int):=by
 show (if v<0 then max (v+(n:Int)) 0 else min v (n:Int))=(((if v<0 then (v+(n:Int)).toNat else min v.toNat n):Nat):Int)
 by_cases hv:v<0
 ·simp only[if_pos hv];(first|lia|omega)
 ·simp only[if_neg hv];(first|lia|omega)
theorem zfh (lo hi:Option Int)(n:Nat):Builtin.Slice.sliceAdjust lo hi 1 (n:Int)=(((sIx n 0 lo:Nat):Int),((sIx n n hi:Nat):Int)):=by
 have h1:¬((1:Int)<0):=by (first|lia|omega)
 unfold Builtin.Slice.sliceAdjust
 simp only[h1,if_false]
 refine Prod.ext ?_ ?_
 ·cases lo with
  |none=>rfl
  |some v=>exact zfL v n 0
 ·cases hi with
  |none=>rfl
  |some v=>exact zfL v n n
theorem zfi (i j:Nat):Builtin.Slice.slicePlaces (i:Int) (j:Int) 1=j-i:=by
 unfold Builtin.Slice.slicePlaces
 have h1:(1:Int)>0:=by (first|lia|omega)
 simp only[h1,if_true,Int.ediv_one]
 split<;>(first|lia|omega)
theorem zc5 {v:Value}{o:Option Int}{Q:Option Int->Shared->Prop}(p:IsPart v o)(h:Q o s):wpAny (model prog w) A (Builtin.Slice.slicePartIndex v) Q E s:=by
 cases p with
 |none=>exact slicePart_none h
 |int i t=>exact slicePart_int h
theorem sliceApplied_gen {sl:Addr}{vl vu:Value}{lo hi:Option Int}{n:Nat}{Q:Int×Int×Nat->Shared->Prop}(hs:s.heap.IsSliceOf sl vl vu .none)(pl:IsPart vl lo)(pu:IsPart vu hi)
  (h:Q (((sIx n 0 lo:Nat):Int),1,sIx n n hi-sIx n 0 lo) s):wpAny (model prog w) A (Builtin.Slice.sliceApplied (.ref sl) (pure (n:Int))) Q E s:=by
 obtain⟨os,hos,hcs,hds⟩:=id hs
 unfold Builtin.Slice.sliceApplied Builtin.Slice.sliceFields
 refine wpAny_bind (wpAny_bind (wpAny_field hos hds (x:=vl) rfl (wpAny_bind (wpAny_field hos hds (x:=vu) rfl (wpAny_bind (wpAny_field hos hds (x:=.none) rfl (wpAny_pure ?_)))))))
 refine wpAny_bind (slicePart_none ?_)
 show wpAny _ _ (if ((1:Int)==0)=true then _ else _) _ _ s
 rw[if_neg (by decide)]
 refine wpAny_bind (zc5 pl (wpAny_bind (zc5 pu (wpAny_bind (wpAny_pure ?_)))))
 show wpAny _ _ (match Builtin.Slice.sliceAdjust lo hi 1 (n:Int) with|(lo,hi)=>pure (lo,(1:Int),Builtin.Slice.slicePlaces lo hi 1)) _ _ s
 rw[zfh lo hi n]
 show wpAny _ _ (pure (((sIx n 0 lo:Nat):Int),(1:Int),Builtin.Slice.slicePlaces ((sIx n 0 lo:Nat):Int) ((sIx n n hi:Nat):Int) 1)) _ _ s
 rw[zfi]
 exact wpAny_pure h
theorem zgK (xs:Array Value)(i k:Nat):((List.range k).filterMap fun (m:Nat)=>xs[((i:Int)+(m:Int)*1).toNat]?).toArray=((xs.toList.drop i).take k).toArray:=by
 have e:(fun (m:Nat)=>xs[((i:Int)+(m:Int)*1).toNat]?)=fun m=>xs[i+m]? :=by
  funext m
  have:((i:Int)+(m:Int)*1).toNat=i+m:=by (first|lia|omega)
  rw[this]
 rw[e]
 have:=pick_run xs i k
 rw[List.filterMap_map] at this
 have e2:((fun x=>xs[x]?)∘fun x=>i+x)=fun m=>xs[i+m]? :=rfl
 rw[e2] at this
 rw[this]
theorem getItem_tuple_cut {t sl:Addr}{items:Array Value}{vl vu:Value}{lo hi:Option Int}{Q:Value->Shared->Prop}(ht:IsTup s.heap t items)(hs:s.heap.IsSliceOf sl vl vu .none)(pl:IsPart vl lo)(pu:IsPart vu hi)
  (hw:¬(sIx items.size 0 lo=0/\sIx items.size items.size hi=items.size))
  (h:Q (.ref s.heap.objs.size) {s with heap:=s.heap.push {cls:=.type "tuple",data:=.seq ((items.toList.drop (sIx items.size 0 lo)).take (sIx items.size items.size hi-sIx items.size 0 lo)).toArray}})
  (hsz:items.size<=sizeLine):wpAny (model prog w) A (getItem (.ref t) (.ref sl)) Q E s:=by
 have htake:sizeOk (.seq ((items.toList.drop (sIx items.size 0 lo)).take (sIx items.size items.size hi-sIx items.size 0 lo)).toArray):=by
  show ((items.toList.drop (sIx items.size 0 lo)).take (sIx items.size items.size hi-sIx items.size 0 lo)).toArray.size<=sizeLine
  rw[List.size_toArray,List.length_take,List.length_drop,Array.length_toList]
  (first|lia|omega)
 have hj:sIx items.size items.size hi<=items.size:=ziu _ _ (Nat.le_refl _) hi
 obtain⟨os,hos,hcs,hds⟩:=id hs
 have hTs:s.TypeIs (.ref sl) "slice" :=⟨os,hos,hcs⟩
 unfold getItem
 try with_reducible refine wpAny_holding ?_
 first|refine wpAny_bind (wpAny_pure ?_)|skip
 refine wpAny_bind (wpAny_sequenceKey ht.typeIs (by decide) ?_)
 refine wpAny_bind (wpAny_callSpecial?_slot (name:=Str.ofString "__getitem__") ht.typeIs PyProof.Rows.slot_tuple_getitem
  (wpAny_call_entry PyProof.Rows.slot_tuple_getitem ht.typeIs entry_tuple_getitem ?_ (args_tuple_getitem _ _)))
 show wpAny _ _ (Builtin.Tuple.tupleItemsOf (.ref t) >>= _) _ _ s
 refine wpAny_bind (tupleItemsOf_ ht ?_)
 refine wpAny_bind (wpAny_typeOf hTs ?_)
 rw[if_pos (by decide)]
 refine wpAny_bind (sliceApplied_gen hs pl pu ?_)
 have hno:¬((((sIx items.size 0 lo:Nat):Int)==0&&(1:Int)==1&&(sIx items.size items.size hi-sIx items.size 0 lo)==items.size)=true):=by
  intro q
  rw[Bool.and_eq_true,Bool.and_eq_true] at q
  have q1:((sIx items.size 0 lo:Nat):Int)=0:=eq_of_beq q.1.1
  have q2:sIx items.size items.size hi-sIx items.size 0 lo=items.size:=eq_of_beq q.2
  exact hw ⟨by (first|lia|omega),by (first|lia|omega)⟩
 show wpAny _ _ (if (((sIx items.size 0 lo:Nat):Int)==0&&(1:Int)==1&&(sIx items.size items.size hi-sIx items.size 0 lo)==items.size)=true then _ else _) _ _ s
 rw[if_neg hno,zgK]
 first
  |exact wpAny_bind (m:=Builtin.Tuple.tupleExact _) (wpAny_newObj_type (wpAny_pure ⟨_,rfl,wpAny_pure h⟩) htake)
  |exact wpAny_bind (m:=Builtin.Tuple.tupleExact _) (wpAny_newObj_type (wpAny_bind (wpAny_pure (wpAny_pure ⟨_,rfl,wpAny_pure h⟩))) htake)
  |exact wpAny_bind (wpAny_bind (m:=Builtin.Tuple.tupleExact _) (wpAny_newObj_type (wpAny_pure (wpAny_pure ⟨_,rfl,wpAny_pure h⟩)) htake))
  |exact wpAny_bind (wpAny_bind (m:=Builtin.Tuple.tupleExact _) (wpAny_newObj_type (wpAny_pure ⟨_,rfl,wpAny_pure h⟩) htake))
end
end HT
namespace L2
open PySem PySem.Spec PyProof.Rows
noncomputable abbrev TO:=St->Hp->(Option Int->Hp->Prop)->Prop
noncomputable def PO (X:Cx)(e:Option Expr)(t:TO):Prop:=
 ∀(pins:List (Addr×Obj)) (s:Shared) (σ:St) (H:Hp) (Q:Option Int->Hp->Prop),Inv X pins σ H s->t σ H Q->
  wpAny (model X.prog X.w) X.A (evalPart e X.env) (fun u s'=>∃o H',Inv X pins σ H' s'/\IsPart u o/\Q o H') X.xe s
noncomputable def zeq:TO:=fun _ H Q=>Q none H
noncomputable def zgL (t:TE):TO:=fun σ H Q=>t σ H fun x H1=>∃i,x=.int i/\Q (some i) H1
section
variable {X:Cx}{e:Expr}{te:TE}{lo hi:Option Expr}{tl th:TO}{pos p2:Pos}
theorem zdd:PO X none zeq:=by
 intro pins s σ H Q I h
 rw[evalPart_none]
 exact wpAny_pure ⟨none,H,I,.none,h⟩
theorem po_some (h:PE X e te):PO X (some e) (zgL te):=by
 intro pins s σ H Q I hw
 rw[evalPart_some]
 refine thn (h pins s σ H _ I hw) fun u s1 zq=> ?_
 obtain⟨x,H1,I1,r1,q1⟩:=zq
 obtain⟨i,rfl,q⟩:=q1
 obtain⟨t,rfl⟩:=r1
 exact⟨some i,H1,I1,.int i t,q⟩
noncomputable def SlR (X:Cx)(r:V->Option Int->Option Int->Hp->VK->Prop):Prop:=
 ∀(pins:List (Addr×Obj)) (s:Shared) (σ:St) (H:Hp) (x:V) (v vl vu:Value) (lo hi:Option Int) (sl:Addr) (Q:VK),Inv X pins σ H s->RelV x v->s.heap.IsSliceOf sl vl vu .none->IsPart vl lo->IsPart vu hi->r x lo hi H Q->
  ∃T id,typeLookup (.type T) "__getitem__" =pure (some (.builtin id))/\s.TypeIs v T/\wpAny (model X.prog X.w) X.A (getItem v (.ref sl)) (EP X pins σ Q) X.xe s
noncomputable def tSl (r:V->Option Int->Option Int->Hp->VK->Prop)(te:TE)(tl th:TO):TE:=fun σ H Q=>te σ H fun x H1=>tl σ H1 fun l H2=>th σ H2 fun u H3=>r x l u H3 Q
theorem pe_slice {r:V->Option Int->Option Int->Hp->VK->Prop}(hr:SlR X r)(he:PE X e te)(hl:PO X lo tl)(hu:PO X hi th):PE X (.Subscript e (.Slice lo hi none p2) pos) (tSl r te tl th):=by
 intro pins s σ H Q I h
 refine Subscript_ (thn (he pins s σ H _ I h) fun v s1 zq=> ?_)
 obtain⟨x,H1,I1,r1,q1⟩:=zq
 refine wpAny_Slice (thn (hl pins s1 σ H1 _ I1 q1) fun vl s2 ⟨l,H2,I2,pl,q2⟩=>thn (hu pins s2 σ H2 _ I2 q2) fun vu s3 ⟨u,H3,I3,pu,q3⟩=> ?_)
 rw[evalPart_none]
 refine wpAny_pure ?_
 have I4:Inv X pins σ H3 {s3 with heap:=s3.heap.push {cls:=.type "slice",data:=.fields #[vl,vu,.none]}}:=I3.kept (t':=s3.toks) fun b ob q=>Heap.get?_push_of_some _ q
 obtain⟨T,id,hT,ht,hg⟩:=hr pins {s3 with heap:=s3.heap.push {cls:=.type "slice",data:=.fields #[vl,vu,.none]}} σ H3 x v vl vu l u s3.heap.objs.size Q I4 r1 (Heap.IsSliceOf.new ..) pl pu q3
 show wpAny (model X.prog X.w) X.A (subscriptTail e (.Slice lo hi none p2) v (.ref s3.heap.objs.size)) (EP X pins σ Q) X.xe {s3 with heap:=s3.heap.push {cls:=.type "slice",data:=.fields #[vl,vu,.none]}}
 exact tail_any (ops:=[.ref s3.heap.objs.size,v]) ht hT hg (by with_unfolding_all rfl)
noncomputable def cutV (xs:List V)(lo hi:Option Int):List V:=(xs.drop (HT.sIx xs.length 0 lo)).take (HT.sIx xs.length xs.length hi-HT.sIx xs.length 0 lo)
theorem zer (xs:List V)(lo hi:Option Int):(cutV xs lo hi).length<=xs.length:=by
 unfold cutV
 rw[List.length_take,List.length_drop]
 (first|lia|omega)
noncomputable def rSlT (K:PySem.W.Frag):V->Option Int->Option Int->Hp->VK->Prop:=fun x lo hi H Q=>∃a xs,x=.ref a/\SqT K H a xs/\
 ¬(HT.sIx xs.length 0 lo=0/\HT.sIx xs.length xs.length hi=xs.length)/\∀p,H p=none->Q (.ref p) (upd H p (.tup (cutV xs lo hi)))
theorem ziv:SlR X (rSlT X.K):=by
 intro pins s σ H x v vl vu lo hi sl Q I rx hs pl pu h
 obtain⟨a,xs,rfl,hx,hw,q⟩:=h
 cases rx
 obtain⟨its,r,ht,hz⟩:=I.tuple hx
 have hlen:its.toArray.size=xs.length:=by rw[List.size_toArray];exact r.length.symm
 refine⟨"tuple",_,PyProof.Rows.slot_tuple_getitem.lookup,ht.typeIs, ?_⟩
 refine HT.getItem_tuple_cut ht hs pl pu (by rw[hlen];exact hw) ?_ (by rw[hlen];exact hz)
 rw[hlen]
 refine⟨.ref s.heap.objs.size,_,I.laid (t':=s.toks) (o:=.tup (cutV xs lo hi)) (fun b ob q=>Heap.get?_push_of_some _ q) (Nat.le_refl _) ?_,rfl,q _ (I.hok.fresh (Nat.le_refl _))⟩
 exact⟨Nat.le_trans (zer xs lo hi) hz,_,(r.drop (HT.sIx xs.length 0 lo)).take (HT.sIx xs.length xs.length hi-HT.sIx xs.length 0 lo),PTup.new⟩
noncomputable def zi8 (K:PySem.W.Frag):R2:=fun x y H Q=>∃a b xs ys,x=.ref a/\y=.ref b/\SqT K H a xs/\SqT K H b ys/\xs≠[]/\xs.length+ys.length<=sizeLine/\
 (ys=[]->Q (.ref a) H)/\(ys≠[]->∀p,H p=none->Q (.ref p) (upd H p (.tup (xs++ys))))
theorem Vals.nil_iff {xs:List V}{us:List Value}(r:Vals xs us):us=[]↔xs=[]:=by
 cases r with
 |nil=>simp
 |cons _ _=>simp
theorem zhB:OpR X (binaryOp .Add) (zi8 X.K):=by
 intro pins s σ H x y v u Q I rx ry h
 obtain⟨a,b,xs,ys,rfl,rfl,ha,hb,hx,hz,q1,q2⟩:=h
 cases rx
 cases ry
 obtain⟨its,r1,p1,_⟩:=I.tuple ha
 obtain⟨its2,r2,p2,_⟩:=I.tuple hb
 refine HT.cat_tup p1 p2 (fun z=>hx (r1.nil_iff.mp z)) (fun z=>⟨.ref a,H,I,rfl,q1 (r2.nil_iff.mp z)⟩) (fun z=> ?_) (by rw[<-r1.length,<-r2.length];exact hz)
 refine⟨.ref s.heap.objs.size,_,I.laid (t':=s.toks) (o:=.tup (xs++ys)) (fun b ob q=>Heap.get?_push_of_some _ q) (Nat.le_refl _) ?_,rfl,q2 (fun w=>z (r2.nil_iff.mpr w)) _ (I.hok.fresh (Nat.le_refl _))⟩
 exact⟨by rw[List.length_append];exact hz,_,r1.append r2,PTup.new⟩
end
noncomputable def ixN (n:Nat)(i:Int):Option Nat:=if 0<=i then (if i<n then some i.toNat else none) else if-(n:Int)<=i then some (i+n).toNat else none
noncomputable def atI {α:Type}(xs:List α)(i:Int):Option α:=(ixN xs.length i).bind fun j=>xs[j]?
theorem zfM {n:Nat}{i:Int}{j:Nat}(h:ixN n i=some j):seqIndex? i n=some j/\j<n/\-(n:Int)<=i/\i<n:=by
 unfold ixN at h
 by_cases h0:0<=i
 ·rw [if_pos h0] at h
  by_cases h1:i<n
  ·rw [if_pos h1] at h
   have e:i.toNat=j:=Option.some.inj h
   exact⟨by rw[seqIndex_of h0 h1,e],by (first|lia|omega),by (first|lia|omega),h1⟩
  ·rw[if_neg h1] at h;cases h
 ·rw [if_neg h0] at h
  by_cases h1:-(n:Int)<=i
  ·rw [if_pos h1] at h
   have e:(i+n).toNat=j:=Option.some.inj h
   exact⟨by rw[seqIndex_neg (by (first|lia|omega)) h1,e],by (first|lia|omega),h1,by (first|lia|omega)⟩
  ·rw[if_neg h1] at h;cases h
theorem zfN {α:Type}{xs:List α}{i:Int}{v:α}(h:atI xs i=some v):∃j,seqIndex? i xs.length=some j/\xs[j]? =some v/\j<xs.length/\-(xs.length:Int)<=i/\i<xs.length:=by
 unfold atI at h
 cases e:ixN xs.length i with
 |none=>rw[e] at h;cases h
 |some j=>
  rw[e] at h
  obtain⟨h1,h2,h3,h4⟩:=zfM e
  exact⟨j,h1,h,h2,h3,h4⟩
theorem zad {α:Type}{xs:List α}{j:Nat}{v:α}(h:xs[j]? =some v):atI xs (j:Int)=some v:=by
 have hj:j<xs.length:=(List.getElem?_eq_some_iff.mp h).1
 have e:ixN xs.length (j:Int)=some j:=by
  unfold ixN
  rw[if_pos (by (first|lia|omega)),if_pos (by (first|lia|omega))];simp
 unfold atI;rw[e];exact h
noncomputable def zfO (b:Expr):Prop:=∀o i,subscripted b false o i=operate [o,i] (getItem o i)
noncomputable def IxR (X:Cx)(r:R2):Prop:=
 ∀(value slice:Expr) (pins:List (Addr×Obj)) (s:Shared) (σ:St) (H:Hp) (x y:V) (v u:Value) (Q:VK),Inv X pins σ H s->RelV x v->RelV y u->r x y H Q->
  subscripted slice false v u=operate [v,u] (getItem v u)->wpAny (model X.prog X.w) X.A (subscriptTail value slice v u) (EP X pins σ Q) X.xe s
noncomputable def MtR (X:Cx)(id:String)(r:V->List V->Hp->VK->Prop):Prop:=
 ∀(pins:List (Addr×Obj)) (s:Shared) (σ:St) (H:Hp) (x:V) (xs:List V) (v:Value) (us:List Value) (Q:VK),Inv X pins σ H s->RelV x v->Vals xs us->r x xs H Q->
  wpAny (model X.prog X.w) X.A (call (.builtin id) (v::us)) (EP X pins σ Q) X.xe s
section
variable {X:Cx}{a b:Expr}{ta tb:TE}{pos:Pos}
theorem pe_ix {r:R2}(hr:IxR X r)(ha:PE X a ta)(hb:PE X b tb)(hs:zfO b):PE X (.Subscript a b pos) (tOp r ta tb):=by
 intro pins s σ H Q I h
 exact Subscript_ (binT ha hb I h fun v u s2 x y H2 I2 rx ry q=>hr a b pins s2 σ H2 x y v u Q I2 rx ry q (hs _ _))
noncomputable def rIxL (K:PySem.W.Frag):R2:=fun x y H Q=>∃p xs i v,x=.ref p/\y=.int i/\SqL K H p xs/\atI xs i=some v/\Q v H
noncomputable def rIxT (K:PySem.W.Frag):R2:=fun x y H Q=>∃p xs i v,x=.ref p/\y=.int i/\SqT K H p xs/\atI xs i=some v/\Q v H
theorem za2:IxR X (rIxL X.K):=by
 intro value slice pins s σ H x y v u Q I rx ry h hs
 obtain⟨p,xs,i,z,rfl,rfl,hq,he,q⟩:=h
 cases rx
 obtain⟨t,rfl⟩:=ry
 obtain⟨its,r,pl,hz⟩:=I.list hq
 obtain⟨j,h1,h2,h3,h4,h5⟩:=zfN he
 obtain⟨w,ew,rw'⟩:=r.get h2
 have hl:=r.length
 have hn:=zdL
 have fin:EP X pins σ Q w s:=⟨z,H,I,rw',q⟩
 by_cases h0:0<=i
 ·have hj:i.toNat=j:=by
   rw[seqIndex_of h0 h5] at h1
   exact Option.some.inj h1
  exact item_listR pl.isList h0 (by (first|lia|omega)) (by rw[hj];simpa using ew) fin hs
 ·have hj:(i+(its.toArray.size:Int)).toNat=j:=by
   rw[seqIndex_neg (by (first|lia|omega)) h4] at h1
   rw[List.size_toArray,<-hl]
   exact Option.some.inj h1
  exact subscriptTail_builtinR (x:=w) pl.isList.typeIs slot_list_getitem.lookup
   (wpAny_getItem_list_neg (Q:=fun r s'=>r=w/\EP X pins σ Q r s') pl.isList (by (first|lia|omega)) (by rw[List.size_toArray]<;>(first|lia|omega)) (by (first|lia|omega)) (by rw[hj];simpa using ew) ⟨rfl,fin⟩) hs
theorem zae:IxR X (rIxT X.K):=by
 intro value slice pins s σ H x y v u Q I rx ry h hs
 obtain⟨p,xs,i,z,rfl,rfl,hq,he,q⟩:=h
 cases rx
 obtain⟨t,rfl⟩:=ry
 obtain⟨its,r,pl,hz⟩:=I.tuple hq
 obtain⟨j,h1,h2,h3,h4,h5⟩:=zfN he
 obtain⟨w,ew,rw'⟩:=r.get h2
 have hl:=r.length
 have hn:=zdL
 have fin:EP X pins σ Q w s:=⟨z,H,I,rw',q⟩
 exact subscriptTail_builtinR (x:=w) pl.typeIs slot_tuple_getitem.lookup
  (getItem_tuple (j:=j) (Q:=fun r s'=>r=w/\EP X pins σ Q r s') pl (by (first|lia|omega)) (by (first|lia|omega)) (by rw[List.size_toArray,<-hl];exact h1) (by simpa using ew) ⟨rfl,fin⟩) hs
theorem zfj (its:List Value)(n j:Nat)(u:Value):Obj.mapSeq (·.setIfInBounds j u) {cls:=.type "list",data:=.seq its.toArray n}={cls:=.type "list",data:=.seq (its.set j u).toArray n}:=by
 simp[Obj.mapSeq]
theorem Inv.lst {pins:List (Addr×Obj)}{σ:St}{H:Hp}{s:Shared}{p:Addr}{xs:List V}(I:Inv X pins σ H s)(h:H p=some (.lst xs)):
  ∃(its:List Value) (n:Nat),Vals xs its/\s.heap.get? p=some {cls:=.type "list",data:=.seq its.toArray n}/\xs.length<=sizeLine:=by
 obtain⟨z,its,n,r,e⟩:=I.hok p _ h
 exact⟨its,n,r,e,z⟩
theorem Inv.lstUpd {pins:List (Addr×Obj)}{σ:St}{H:Hp}{s:Shared}{p:Addr}{xs ys:List V}{its its':List Value}{n n':Nat}{f:Obj->Obj}(I:Inv X pins σ H s)(h:H p=some (.lst xs))
  (ho:s.heap.get? p=some {cls:=.type "list",data:=.seq its.toArray n}) (hf:f {cls:=.type "list",data:=.seq its.toArray n}={cls:=.type "list",data:=.seq its'.toArray n'}) (r:Vals ys its') (hz:ys.length<=sizeLine) (t:Nat):
  Inv X pins σ (upd H p (.lst ys)) {s with heap:=s.heap.update p f,toks:=t}:=by
 have e:(s.heap.update p f).get? p=some {cls:=.type "list",data:=.seq its'.toArray n'}:=by
  rw[Heap.get?_update_self f ho (by rw[hf]<;>rfl),hf]
 refine I.write (x:=p) (e:=p) (by rw[h];trivial) (.inl rfl) (fun b u hb q=>(Heap.get?_update_other _ _ (Ne.symm hb)).trans q) ⟨_,e⟩ ?_
 exact⟨hz,its',n',r,e⟩
noncomputable def zi9:V->V->V->Hp->(Hp->Prop)->Prop:=fun o i v H Q=>∃p xs k j,o=.ref p/\i=.int k/\H p=some (.lst xs)/\ixN xs.length k=some j/\Q (upd H p (.lst (xs.set j v)))
theorem zeU:PSet X zi9:=by
 intro pins s σ H o i v ov iv u Q I ro ri rv h
 obtain⟨p,xs,k,j,rfl,rfl,hp,hj,q⟩:=h
 cases ro
 obtain⟨t,rfl⟩:=ri
 obtain⟨its,n,r,ho,hz⟩:=I.lst hp
 obtain⟨h1,h2,h3,h4⟩:=zfM hj
 have hl:=r.length
 have hn:=zdL
 have I':Inv X pins σ (upd H p (.lst (xs.set j v))) {s with heap:=s.heap.update p (Obj.mapSeq (·.setIfInBounds j u))}:=
  I.lstUpd hp ho (zfj its n j u) (r.set rv j) (by rw[List.length_set];exact hz) s.toks
 by_cases h0:0<=k
 ·have hk:k.toNat=j:=by
   rw[seqIndex_of h0 h4] at h1
   exact Option.some.inj h1
  exact PySem.W.ki_setAt ho h0 (by (first|lia|omega)) (by rw[List.size_toArray,<-hl];exact h4) (by rw[hk];exact⟨_,I',q⟩)
 ·have hk:(k+(its.toArray.size:Int)).toNat=j:=by
   rw[seqIndex_neg (by (first|lia|omega)) h3] at h1
   rw[List.size_toArray,<-hl]
   exact Option.some.inj h1
  exact PySem.W.ki_setBack ho (by (first|lia|omega)) (by rw[List.size_toArray,<-hl];exact h3) (by (first|lia|omega)) (by rw[hk];exact⟨_,I',q⟩)
noncomputable def zdS:V->Bool
 | .non=>true
 | .bl _=>true
 | .int _=>true
 | .str _=>true
 |_=>false
noncomputable def eqV:V->V->Bool
 | .non,.non=>true
 | .bl a,.bl b=>a==b
 | .bl a,.int b=>(if a then 1 else 0)==b
 | .int a,.bl b=>a==(if b then 1 else 0)
 | .int a,.int b=>a==b
 | .str a,.str b=>a==b
 |_,_=>false
theorem ziw {A:Around}{s:Shared}{y x:V}{u v:Value}(ry:RelV y u)(rx:RelV x v)(fy:zdS y=true)(fx:zdS x=true):SeqAt.EqAt A s u v (eqV y x):=by
 cases y with
 |non=>
  cases ry
  cases x with
  |non=>cases rx;exact SeqAt.EqAt.same _
  |bl b=>cases rx;exact SeqAt.EqAt.none_bool b
  |int b=>obtain⟨t,rfl⟩:=rx;exact SeqAt.EqAt.none_int b t
  |str b=>obtain⟨t,rfl⟩:=rx;exact SeqAt.EqAt.none_str b t
  |_=>exact absurd (show false=true from fx) Bool.false_ne_true
 |bl a=>
  cases ry
  cases x with
  |non=>cases rx;exact SeqAt.EqAt.bool_none a
  |bl b=>cases rx;exact SeqAt.EqAt.bool_bool a b
  |int b=>obtain⟨t,rfl⟩:=rx;exact SeqAt.EqAt.bool_int a b t
  |str b=>obtain⟨t,rfl⟩:=rx;exact SeqAt.EqAt.bool_str a b t
  |_=>exact absurd (show false=true from fx) Bool.false_ne_true
 |int a=>
  obtain⟨t',rfl⟩:=ry
  cases x with
  |non=>cases rx;exact SeqAt.EqAt.int_none a t'
  |bl b=>cases rx;exact SeqAt.EqAt.int_bool a t' b
  |int b=>obtain⟨t,rfl⟩:=rx;exact SeqAt.EqAt.int_int a t' b t
  |str b=>obtain⟨t,rfl⟩:=rx;exact SeqAt.EqAt.int_str a t' b t
  |_=>exact absurd (show false=true from fx) Bool.false_ne_true
 |str a=>
  obtain⟨t',rfl⟩:=ry
  cases x with
  |non=>cases rx;exact SeqAt.EqAt.str_none a t'
  |bl b=>cases rx;exact SeqAt.EqAt.str_bool a t' b
  |int b=>obtain⟨t,rfl⟩:=rx;exact SeqAt.EqAt.str_int a t' b t
  |str b=>obtain⟨t,rfl⟩:=rx;exact SeqAt.EqAt.str_str a t' b t
  |_=>exact absurd (show false=true from fx) Bool.false_ne_true
 |_=>exact absurd (show false=true from fy) Bool.false_ne_true
noncomputable def eqU (x:V)(u:Value):Bool:=match u with
 | .none=>eqV .non x
 | .bool b=>eqV (.bl b) x
 | .int i _=>eqV (.int i) x
 | .str z _=>eqV (.str z) x
 |_=>false
theorem zhj {x y:V}{u:Value}(r:RelV y u)(f:zdS y=true):eqU x u=eqV y x:=by
 cases y with
 |non=>cases r;rfl
 |bl b=>cases r;rfl
 |int i=>obtain⟨t,rfl⟩:=r;rfl
 |str z=>obtain⟨t,rfl⟩:=r;rfl
 |_=>exact absurd (show false=true from f) Bool.false_ne_true
theorem zes {x:V}:∀{xs:List V} {us:List Value},Vals xs us->xs.all zdS=true->us.any (eqU x)=xs.any fun y=>eqV y x
 |_,_,.nil,_=>rfl
 |y::xs,u::us,.cons r t,f=>by
  rw[List.all_cons,Bool.and_eq_true] at f
  rw[List.any_cons,List.any_cons,zhj r f.1,zes t f.2]
theorem zde {A:Around}{s:Shared}{x:V}{v:Value}(rx:RelV x v)(fx:zdS x=true):∀{xs:List V} {us:List Value},Vals xs us->xs.all zdS=true->∀u∈us,SeqAt.EqAt A s u v (eqU x u)
 |_,_,.nil,_=>fun u hu=>by cases hu
 |y::xs,u::us,.cons r t,f=>fun u' hu=>by
  rw[List.all_cons,Bool.and_eq_true] at f
  rcases List.mem_cons.mp hu with rfl|hu
  ·rw[zhj r f.1];exact ziw r rx f.1 fx
  ·exact zde rx fx t f.2 u' hu
noncomputable def inV (x:V)(xs:List V):Bool:=xs.any fun y=>eqV y x
noncomputable def rIn (K:PySem.W.Frag)(neg:Bool):R2:=fun x y H Q=>∃p xs,y=.ref p/\(SqL K H p xs∨SqT K H p xs)/\zdS x=true/\xs.all zdS=true/\Q (.bl (if neg then !inV x xs else inV x xs)) H
theorem zbA:OpR X (compareOp .In) (rIn X.K false):=by
 intro pins s σ H x y v u Q I rx ry h
 obtain⟨p,xs,rfl,hq,fx,fs,q⟩:=h
 cases ry
 rcases hq with hq|hq
 ·obtain ⟨its,r,pl,hz⟩:=I.list hq
  refine SeqAt.in_listAt (eqU x) pl.isList (fun w hw=>zde rx fx r fs w (by simpa using hw)) ⟨.bl _,H,I,rfl, ?_⟩
  rw[show its.toArray.any (eqU x)=its.any (eqU x) by simp,zes r fs]
  exact q
 ·obtain ⟨its,r,pl,hz⟩:=I.tuple hq
  refine SeqAt.in_tupleAt (eqU x) pl (fun w hw=>zde rx fx r fs w (by simpa using hw)) ⟨.bl _,H,I,rfl, ?_⟩
  rw[show its.toArray.any (eqU x)=its.any (eqU x) by simp,zes r fs]
  exact q
theorem zan:zcm X (.builtin "len") (fun xs H Q=>∃p ys,xs=[.ref p]/\(SqL X.K H p ys∨SqT X.K H p ys)/\Q (.int ys.length) H):=by
 intro pins s σ H xs us Q I r h
 obtain⟨p,ys,rfl,hq,q⟩:=h
 obtain⟨u,rfl,rx⟩:=zfg r
 cases rx
 have hn:=zdL
 rcases hq with hq|hq
 ·obtain ⟨its,r',pl,hz⟩:=I.list hq
  have hlen:=r'.length
  exact Calls.call_len_list pl.isList (by simp only[List.size_toArray]<;>(first|lia|omega)) ⟨.int ys.length,H,I.tok _,⟨s.toks+1,by rw[List.size_toArray,hlen]⟩,q⟩
 ·obtain ⟨its,r',pl,hz⟩:=I.tuple hq
  have hlen:=r'.length
  exact len_tuple pl (by simp only[List.size_toArray]<;>(first|lia|omega)) ⟨.int ys.length,H,I.tok _,⟨s.toks+1,by rw[List.size_toArray,hlen]⟩,q⟩
noncomputable def tyV (K:PySem.W.Frag)(T:String)(x:V)(H:Hp):Prop:=match x with
 | .str _=>T= "str"
 | .int _=>T= "int"
 | .ref p=>(T= "list" /\∃xs,SqL K H p xs)∨(T= "tuple" /\∃o,K.lookup p=some o/\o.cls=.type "tuple" /\o.dict=none)∨
   (T= "dict" /\((∃kvs,H p=some (.dK kvs))∨∃kvs,H p=some (.dT kvs)))∨(T= "set" /\∃S n,H p=some (.set S n))
 |_=>False
theorem zix {pins:List (Addr×Obj)}{σ:St}{H:Hp}{s:Shared}{T:String}{x:V}{v:Value}(I:Inv X pins σ H s)(r:RelV x v)(ty:tyV X.K T x H):
  s.TypeIs v T/\∀a,v=.ref a->∃ob,s.heap.get? a=some ob/\ob.dict=none:=by
 cases x with
 |str z=>
  obtain⟨t,rfl⟩:=r
  cases (show T= "str" from ty)
  exact⟨typeIs_str s z t,fun _ e=>nomatch e⟩
 |int i=>
  obtain⟨t,rfl⟩:=r
  cases (show T= "int" from ty)
  exact⟨typeIs_int s i t,fun _ e=>nomatch e⟩
 | ref p=>
  cases r
  rcases ty with⟨rfl,xs,hq⟩|⟨rfl,o,hk,hc,hd⟩|⟨rfl,hk⟩|⟨rfl,S,n,hk⟩
  ·obtain ⟨its,_,pl,_⟩:=I.list hq
   refine⟨pl.isList.typeIs,fun a e=> ?_⟩
   cases e
   obtain⟨o,n,e,c,hd,_⟩:=pl
   exact⟨o,e,hd⟩
  ·refine ⟨⟨o,I.kIn p o hk,hc⟩,fun a e=> ?_⟩
   cases e
   exact⟨o,I.kIn _ o hk,hd⟩
  ·have z:∃o,s.heap.get? p=some o/\o.ExactDict:=by
    rcases hk with⟨kvs,hk⟩|⟨kvs,hk⟩
    ·obtain ⟨_,_,_,_,o,_,_,e,ex,_⟩:=I.hok p _ hk
     exact⟨o,e,ex⟩
    ·obtain ⟨_,_,_,_,o,_,_,e,ex,_⟩:=I.hok p _ hk
     exact⟨o,e,ex⟩
   obtain⟨o,e,ex⟩:=z
   refine⟨⟨o,e,ex.1⟩,fun a e2=> ?_⟩
   cases e2
   exact⟨o,e,ex.2.1⟩
  ·obtain ⟨o,_,_,_,e,ex,_⟩:=I.hok p _ hk
   refine⟨⟨o,e,ex.1⟩,fun a e2=> ?_⟩
   cases e2
   exact⟨o,e,ex.2.1⟩
 |_=>exact False.elim ty
noncomputable def tBM0 (K:PySem.W.Frag)(T:String)(r:V->List V->Hp->VK->Prop)(to:TE):TE:=fun σ H Q=>to σ H fun x H1=>tyV K T x H1/\r x [] H1 Q
variable {o e:Expr}{es:List Expr}{to:TE}{t:TA}{name:Str}{apos cpos:Pos}{T id:String}{r:V->List V->Hp->VK->Prop}
theorem zhk (pa:PlainAttrs T)(slot:Slot T name id)(hty:typeOf (.builtin id)=pure (.type "method_descriptor"))(hm:MtR X id r)(ho:PE X o to)
  (hbase:attributeBase o name X.env (eval o X.env)=eval o X.env:=by rfl) (hline:(apos.endLine==cpos.line)=true:=by rfl):PE X (.Call (.Attribute o name apos) [] [] cpos) (tBM0 X.K T r to):=by
 intro pins s σ H Q I h
 refine wpAny_Call_method0_late hbase hline (thn (ho pins s σ H _ I h) fun v s1 zq=> ?_)
 obtain⟨x,H1,I1,r1,ty,q1⟩:=zq
 obtain⟨h1,h2⟩:=zix I1 r1 ty
 exact⟨T,id,pa,slot,hty,h1,h2,Calls.callWith_builtin rfl (PySem.evalArgs_none (hm pins s1 σ H1 x [] v [] Q I1 r1 .nil q1))⟩
end
noncomputable def MtM (X:Cx)(id:String)(r:V->List V->Hp->VK->Prop):Prop:=
 ∀(pins:List (Addr×Obj)) (s:Shared) (σ:St) (H:Hp) (x:V) (xs:List V) (v:Value) (us:List Value) (Q:VK),Inv X pins σ H s->RelV x v->Vals xs us->r x xs H Q->
  wpAny (model X.prog X.w) X.A (call (.builtin id) (v::us)) (EP X pins σ Q) X.xe s
theorem Vals.one:∀{x:V} {us:List Value},Vals [x] us->∃u,us=[u]/\RelV x u
 |_,_,.cons r .nil=>⟨_,rfl,r⟩
section
variable {X:Cx}{pins:List (Addr×Obj)}{σ:St}{H:Hp}{s:Shared}{l b:Addr}{xs ys zs:List V}
theorem Inv.lset {its its':List Value}{n:Nat}{f:Array Value->Array Value}{t':Nat}(I:Inv X pins σ H s)(hH:H l=some (.lst xs))
  (e:s.heap.get? l=some {cls:=.type "list",data:=.seq its.toArray n}) (hf:f its.toArray=its'.toArray) (hv:Vals ys its') (hz:ys.length<=sizeLine):
  Inv X pins σ (upd H l (.lst ys)) {s with heap:=s.heap.update l (Obj.mapSeq f),toks:=t'}:=by
 have q:=PySem.IsL.update e f
 rw[hf] at q
 refine I.write (x:=l) (e:=l) (by rw[hH];exact trivial) (.inl rfl) (fun b' u hb hu=>(Heap.get?_update_other s.heap (Obj.mapSeq f) (Ne.symm hb)).trans hu) ⟨_,q⟩ ?_
 exact⟨hz,its',_,hv,q⟩
theorem Inv.lnew {its:List Value}{t':Nat}(I:Inv X pins σ H s)(hv:Vals ys its)(hz:ys.length<=sizeLine):
  Inv X pins σ (upd H s.heap.objs.size (.lst ys)) {s with heap:=s.heap.push {cls:=.type "list",data:=.seq its.toArray},toks:=t'}:=
 I.laid (fun _ _ q=>Heap.get?_push_of_some _ q) (Nat.le_refl _) ⟨hz,its,0,hv,Heap.get?_push_size _ rfl⟩
theorem Inv.fresh (I:Inv X pins σ H s):H s.heap.objs.size=none:=I.hok.fresh (Nat.le_refl _)
theorem Inv.lstM (I:Inv X pins σ H s)(hH:H l=some (.lst xs)):xs.length<=sizeLine/\∃(its:List Value) (n:Nat),Vals xs its/\xs.length=its.length/\s.heap.get? l=some {cls:=.type "list",data:=.seq its.toArray n}:=by
 obtain⟨z,its,n,r,e⟩:=I.hok l _ hH
 exact⟨z,its,n,r,r.length,e⟩
end
section
variable {X:Cx}
noncomputable def zhC:V->List V->Hp->VK->Prop:=fun x vs H Q=>∃l xs y,x=.ref l/\vs=[y]/\H l=some (.lst xs)/\xs.length<sizeLine/\Q .non (upd H l (.lst (xs++[y])))
theorem zfP:MtM X "list.append" zhC:=by
 intro pins s σ H x vs v us Q I rx rv h
 obtain⟨l,xs,y,rfl,rfl,hH,hz,q⟩:=h
 cases rx
 obtain⟨u,rfl,ru⟩:=rv.one
 obtain⟨z,its,n,r,hl,e⟩:=I.lstM hH
 refine call_meets F.slot_list_append ⟨_,e,rfl⟩ F.entry_list_append (F.args_list_append_2 _ _) (PySem.list_append l its.toArray n u (by rw[List.size_toArray];(first|lia|omega))) ⟨e, ?_⟩
 refine⟨.non,_,I.lset (its':=its++[u]) hH e (by simp) (r.append (.cons ru .nil)) ?_,rfl,q⟩
 rw[List.length_append,List.length_singleton]
 (first|lia|omega)
noncomputable def rCat:R2:=fun x y H Q=>∃l b xs zs,x=.ref l/\y=.ref b/\H l=some (.lst xs)/\H b=some (.lst zs)/\xs.length+zs.length<=sizeLine/\∀p,H p=none->Q (.ref p) (upd H p (.lst (xs++zs)))
theorem ziy:OpR X (binaryOp .Add) rCat:=by
 intro pins s σ H x y v u Q I rx ry h
 obtain⟨l,b,xs,zs,rfl,rfl,hH,hB,hz,q⟩:=h
 cases rx
 cases ry
 obtain⟨z,its,n,r,hl,e⟩:=I.lstM hH
 obtain⟨z2,its2,n2,r2,hl2,e2⟩:=I.lstM hB
 refine PySem.P.add_list e e2 ?_ (by rw[List.size_toArray,List.size_toArray];(first|lia|omega))
 have ea:its.toArray++its2.toArray=(its++its2).toArray:=by simp
 rw[ea]
 exact⟨.ref _,_,I.lnew (t':=s.toks) (r.append r2) (by rw[List.length_append];(first|lia|omega)),rfl,q _ I.fresh⟩
end
section
variable {prog:Program}{w:World}{A:Around}{E:Value->Shared->Prop}{s:Shared}
end
section
variable {X:Cx}
end
end L2
namespace Att
open PySem PySem.W PySem.Calls PyProof.Rows
theorem zcp {P:Params}{h:Heap}:∀(ns:List Int) (vs:List Value),WellAll P h vs (ns.map WData.int)->IntsAre vs ns:=by
 intro ns
 induction ns with
 |nil=>
  intro vs w
  rw[List.map_nil] at w
  cases w
  exact .nil
 | cons n ns ih=>
  intro vs w
  rw[List.map_cons] at w
  cases w with
  |cons a b=>
   cases a
   exact .cons _ _ (ih _ b)
theorem zfQ {l:OpenLaw}{n:Nat}(hn:l.most=some n){P:Params}{h:Heap}{args:List WData}{vals:List Value}
  (hpre:l.row.toRowW.claim.pre args=true) (hwl:WellAll P h vals args):
  ∃a vs ns,vals=[Value.ref a]/\args=[WData.list (ns.map WData.int)]/\h.get? a=some {cls:=.type "list",data:=.seq vs.toArray}/\IntsAre vs ns/\ns.length<=n:=by
 have hsh:WShape.hasAll [] args [.list .int]=true:=(pre_splitW hpre).1
 have hc:l.pre.holds [] {args:=args}=true:=(pre_splitW hpre).2
 obtain⟨d,r,rfl,h1,h2⟩:=hasAllW_cons hsh
 obtain rfl:=hasAllW_nil h2
 obtain⟨xs,rfl,h3⟩:=hasW_list h1
 obtain⟨ns,rfl⟩:=items_int h3
 have hlen:ns.length<=n:=by
  unfold OpenLaw.pre at hc
  have h4:(WTm.not (.lt (.lit (.int (n:Int))) (.len (.arg 0)))).holds [] {args:=[.list (ns.map .int)]}=true:=by
   have h4:=(holds_andW hc).1
   rw[hn] at h4
   exact h4
  have h5:=condW_of h4 (w_not (w_lt w_lit (w_len_list (w_arg rfl))))
  rw[List.length_map] at h5
  refine Nat.le_of_not_lt fun q=> ?_
  have q':(n:Int)<((ns.length:Nat):Int):=by (first|lia|omega)
  first
   |(rw[decide_eq_true q'] at h5;exact absurd h5 (by decide))
   |(simp at h5;(first|lia|omega))
 cases hwl with
 |cons w1 w2=>
  cases w2
  cases w1 with
  |list ho hall=>exact⟨_,_,ns,rfl,rfl,ho,zcp ns _ hall,hlen⟩
theorem zfR (l:OpenLaw)(args:List WData):l.row.toRowW.claim.post args (.bool true) args=true:=
 postW_of (r:=l.row.toRowW) (X:=(true==true))
  (show WShape.has [] (.bool true) .bool=true by first|rfl|decide|simp[WShape.has,WShape.arms,WShape.armsAll])
  (show (WTm.eq .res (.lit (.bool true))).value [] {args:=args,res:=some (.bool true),after:=args}=some (.bool (true==true)) from w_eq_bool (w_res rfl) w_lit) rfl
theorem attach_call {l:OpenLaw}{n:Nat}{q:Program}{loose:List Str}{XP:(Str->Option Value)->Heap->Prop}{YP:World->Heap->Prop}{d:DefRec}
  (hn:l.most=some n) (hdf:d.params.defaults=[])
  (call:∀(w:World) (s₀ s₁:Shared) (mg mb:Str->Option Value) (fa:Addr) (o:Obj) (pm cd doc:Value) (a:Addr) (vs:List Value) (ns:List Int),
   Ground q loose [] XP w s₀ mg mb s₁.heap->YP w s₁.heap->
   s₁.heap.get? fa=some o->o.data=.func (docDef d.name d.params d.body d.scope pm cd doc)->s₁.heap.CodeRec cd d.name->mg d.name=some (.ref fa)->
   s₁.heap.get? a=some {cls:=.type "list",data:=.seq vs.toArray}->IntsAre vs ns->ns.length<=n->s₁.gens=#[]->
   codeAny (model l.prog w) callerA (.call (.ref fa) ⟨[.ref a],[]⟩) (fun r s'=>r=.ok (.ret (.bool true))/\OldK s₁.heap s'.heap/\s'.os=s₁.os/\AllBare s'.gens) s₁):
  WalkO q loose XP YP l.row.toRowW d [] (fun f vs=>PySem.call f vs):=by
 intro w s₀ s₁ mg mb G Y fa o pm cd doc dV kV ho hd hcd hD hmg hg args vals as hpre hlay hrd hwl hlo
 obtain rfl:dV=.none:=Dflts.none hD hdf
 obtain rfl:kV=.none:=Dflts.noKw hD
 obtain⟨a,vs,ns,rfl,rfl,hobj,hints,hlen⟩:=zfQ hn hpre hwl
 refine enter_call (codeAny_mono (call w s₀ s₁ mg mb fa o pm cd doc a vs ns G Y ho (fd_plain hd) hcd hmg hobj hints hlen hg) fun r s' hq=> ?_)
 obtain⟨rfl,h2,h3,h4⟩:=hq
 exact⟨.inl ⟨.bool true,.bool true,[],rfl,fun _=>rfl,.bool true,zfR l _,fun _=>⟨List.Pairwise.nil,fun _ hm=>(nomatch hm)⟩⟩,h2,h3,h4⟩
section
variable {prog:Program}{w:World}{A:Around}{E:Value->Shared->Prop}{s:Shared}{K:Frag}
end
end Att
namespace L2
open PySem PySem.Spec PyProof.Rows
theorem zdT:∀{vs:List Value} {ns:List Int},IntsAre vs ns->Vals (ns.map V.int) vs
 |_,_,.nil=>.nil
 |_,_,.cons n t h=>.cons ⟨t,rfl⟩ (zdT h)
noncomputable def Only (H:Hp):Prop:=∀b,H b=none∨∃o xs,H b=some (.frz o (.lst xs))
theorem zgM {P:Program}{w:World}{K:PySem.W.Frag}{mg mb:Str->Option Value}{CX:CXT}{k:Nat}{fa a:Addr}{fd:FuncData}{x:Str}{sp:Sp}{s₁:Shared}{vs:List Value}{ns:List Int}
  (KX:K.In s₁.heap) (hns:s₁.heap.Ns mainGlobals mg) (hb:s₁.heap.Ns builtinsNs mb) (hbb:∀x:Str,x≠ "__name__" ->mb x=bootBuiltins x) (hlim:s₁.heap.NoLimit) (hg:s₁.gens=#[])
  (ha:s₁.heap.get? a=some {cls:=.type "list",data:=.seq vs.toArray}) (hi:IntsAre vs ns) (hl:ns.length<=sizeLine) (hr:Room k callerA)
  (F:∀base:Heap,K.In base->base.Ns mainGlobals mg->FnOk P w K mg base CX k fa fd [x] sp) (hbind:∀(s:Shared) (u:Value),BindsTo s fd ⟨[u],[]⟩ [(x,u)])
  (hsp:∀H:Hp,Only H->SqL K H a (ns.map V.int)->sp [.ref a] H (fun v _=>v=.bl true) fun _ _ _=>False)
  (hCX:∀H e s',CX [] H s₁ (fun _ _ _=>False) e s'->False):
  codeAny (model P w) callerA (.call (.ref fa) ⟨[.ref a],[]⟩) (fun r s'=>r=.ok (.ret (.bool true))/\OldK s₁.heap s'.heap/\s'.os=s₁.os/\AllBare s'.gens) s₁:=by
 have rv:=zdT hi
 have lenV:=hi.length
 have core:∀H:Hp,Only H->SqL K H a (ns.map V.int)->HOk P w H s₁.heap->(∀b,H b≠none->b=a)->(H a≠none->K.lookup a=none)->
   codeAny (model P w) callerA (.call (.ref fa) ⟨[.ref a],[]⟩) (fun r s'=>r=.ok (.ret (.bool true))/\OldK s₁.heap s'.heap/\s'.os=s₁.os/\AllBare s'.gens) s₁:=by
  intro H hO hS hok hA hK
  have base_of:∀{b:Addr} {o:Obj},s₁.heap.get? b=some o->H b=none->(hidT s₁.heap H).get? b=some o:=fun e n=>zgH e n
  have noA:∀{b:Addr} {o:Obj} {es:Array DictEntry} {ep:Nat},s₁.heap.get? b=some o->o.data=.dict es ep->H b=none:=fun {b o es ep} e d=>by
   cases q:H b with
   |none=>rfl
   |some u=>
    have e':b=a:=hA b (by rw[q];simp)
    subst e'
    rw[ha] at e;cases e
    have d':Data.seq vs.toArray _=Data.dict es ep:=d
    cases d'
  have nsK:∀{b:Addr} {m:Str->Option Value},s₁.heap.Ns b m->(hidT s₁.heap H).Ns b m:=fun {b m} ⟨o,es,ep,e,d,r⟩=>⟨o,es,ep,base_of e (noA e d),d,r⟩
  have hKb:K.In (hidT s₁.heap H):=fun b o e=>base_of (KX b o e) (by
   cases q:H b with
   |none=>rfl
   |some u=>
    have e':b=a:=hA b (by rw[q];simp)
    subst e'
    rw[hK (by rw[q];simp)] at e;cases e)
  have hM:Mod K mg (hidT s₁.heap H):=⟨hKb,nsK hns,⟨mb,nsK hb,hbb⟩,let ⟨mc,h1,h2⟩:=hlim;⟨mc,nsK h1,h2⟩⟩
  have e0:Env0 P w K mg (hidT s₁.heap H) callerA [] s₁ H:=⟨rfl,hM,fun b o e=>zhv e,Nat.le_of_eq (zfw _ _),trivial,fun b hb=>absurd (show b∈([]:List Addr) from hb) (by simp),hok,.of_eq hg⟩
  refine codeAny_mono ((F _ hKb (nsK hns)).run callerA [] s₁ H ⟨[.ref a],[]⟩ [.ref a] [.ref a] _ _ hr e0 (hbind s₁ (.ref a)) (.cons rfl .nil) (hsp H hO hS)) fun r s' h=> ?_
  cases r with
  |error e=>exact (hCX H e s' h).elim
  | ok fl=>
   cases fl with
   |next=>exact False.elim h
   |brk=>exact False.elim h
   |cont=>exact False.elim h
   | ret u=>
    obtain⟨v,H',os,bare,un,hok',r',q⟩:=h
    have q':v=.bl true:=q
    subst q'
    obtain rfl:u=Value.bool true:=r'
    refine⟨rfl,OldK.of_keep fun b o e=> ?_,os,bare⟩
    cases q:H b with
    |none=>exact un.keep b o e q (by intro z;exact absurd (show b∈([]:List Addr) from z) (by simp)) (by simp)
    | some u=>
     rcases hO b with z|⟨ob,xs,z⟩
     ·rw[q] at z;cases z
     ·have z2:=un.frzs b ob _ z
      obtain⟨e1,_⟩:=hok b _ z
      obtain⟨e2,_⟩:=hok' b _ z2
      rw[e] at e1;cases e1
      exact e2
 cases hk:K.lookup a with
 |some o=>
  have e:=KX a o hk
  rw[ha] at e
  cases e
  refine core (fun _=>none) (fun _=>.inl rfl) (.inr ⟨_,vs.toArray,_,hk,rfl,rfl,rfl,by rw[List.size_toArray,lenV];exact hl,by simpa using rv⟩) (fun b u z=>by have z':(none:Option HO)=some u:=z;cases z') (fun b z=>absurd rfl z) fun z=>absurd rfl z
 | none=>
  refine core (fun b=>if b=a then some (.frz {cls:=.type "list",data:=.seq vs.toArray} (.lst (ns.map V.int))) else none) (fun b=> ?_) (.inl (.inr ⟨{cls:=.type "list",data:=.seq vs.toArray},if_pos rfl⟩)) (fun b u z=> ?_) (fun b z=> ?_) fun _=>hk
  ·by_cases hb:b=a
   ·exact .inr ⟨_,_,if_pos hb⟩
   ·exact .inl (if_neg hb)
  ·by_cases hb:b=a
   ·have z':=(if_pos hb).symm.trans z
    cases z'
    subst hb
    exact⟨ha,by rw[List.length_map];exact hl,vs,_,rv,ha⟩
   ·have z':=(if_neg hb).symm.trans z
    cases z'
  ·by_cases hb:b=a
   ·exact hb
   ·exact absurd (if_neg hb) z
theorem zhD {l:PySem.W.OpenLaw}{n k:Nat}{q:Program}{loose:List Str}{XP:(Str->Option Value)->Heap->Prop}{YP:World->Heap->Prop}{d:DefRec}{K:Params->PySem.W.Frag}{CX:World->CXT}{sp:World->Sp}{x:Str}
  (hn:l.most=some n) (hn2:n<=sizeLine) (hdf:d.params.defaults=[]) (hr:Room k callerA)
  (hY:∀(w:World) (h:Heap),YP w h->(K w.params).In h)
  (F:∀(w:World) (mg:Str->Option Value) (fa:Addr) (h:Heap),(K w.params).In h->h.Ns mainGlobals mg->mg d.name=some (.ref fa)->
   ∃fd:FuncData,(∀(s:Shared) (u:Value),BindsTo s fd ⟨[u],[]⟩ [(x,u)])/\
    ∀base:Heap,(K w.params).In base->base.Ns mainGlobals mg->FnOk l.prog w (K w.params) mg base (CX w) k fa fd [x] (sp w))
  (hsp:∀(w:World) (H:Hp) (a:Addr) (ns:List Int),ns.length<=n->Only H->SqL (K w.params) H a (ns.map V.int)->sp w [.ref a] H (fun v _=>v=.bl true) fun _ _ _=>False)
  (hCX:∀(w:World) (H:Hp) (s:Shared) (e:Value) (s':Shared),CX w [] H s (fun _ _ _=>False) e s'->False):
  PySem.W.WalkO q loose XP YP l.row.toRowW d [] (fun f vs=>PySem.call f vs):=by
 refine Att.attach_call hn hdf fun w s₀ s₁ mg mb fa o pm cd doc a vs ns G Y ho hd hcd hmg hobj hints hlen hg=> ?_
 have KX:=hY w _ Y
 obtain⟨fd,hb,hF⟩:=F w mg fa _ KX G.T.g hmg
 exact zgM KX G.T.g G.T.b G.T.builtins G.T.nolimit hg hobj hints (Nat.le_trans hlen hn2) hr hF hb (fun H hO hS=>hsp w H a ns hlen hO hS) fun H e s'=>hCX w H s₁ e s'
noncomputable def zaF (s:Stmt):Arguments:=match s with
 | .FunctionDef _ a _ _ _ _ _ _ _ _=>a
 |_=>{posonlyargs:=[],args:=[],vararg:=none,kwonlyargs:=[],kw_defaults:=[],kwarg:=none,defaults:=[]}
noncomputable def zat (s:Stmt):List Stmt:=match s with
 | .FunctionDef _ _ b _ _ _ _ _ _ _=>b
 |_=>[]
noncomputable def zac (s:Stmt):Scope:=match s with
 | .FunctionDef _ _ _ _ _ _ sc _ _ _=>sc
 |_=>{kind:=.function,names:=[],isGenerator:=false,isCoroutine:=false}
noncomputable abbrev CX0:CXT:=fun _ _ _ _ _ _=>False
noncomputable abbrev E0:XK:=fun _ _ _=>False
theorem ziz {X:Cx}:zfJ CX0 X E0:=fun _ _ _ _ _ _ _ h=>h.elim
structure Fun (K:PySem.W.Frag) (x qual:Str) (st:Stmt) (f:Addr) (fd:FuncData):Prop where
 ex:∃(oc:Value) (od:Option Addr) (kV doc pm:Value) (an:Option Addr) (cdv ct:Value) (osl:Array (Option Value)),
  fd=PySem.W.fnOf x qual (zaF st) (zat st) (zac st) .none kV doc pm an cdv ct/\K.lookup f=some ⟨oc,od,.func fd,osl⟩/\PySem.W.codeIn K cdv qual=true
 kp:PySem.W.keepIn K (.ref f)=true
section
variable {P:Program}{w:World}{K:PySem.W.Frag}{mg:Str->Option Value}{base:Heap}
theorem Fun.ok {x qual:Str}{st:Stmt}{f:Addr}{fd:FuncData}{N ps:List Str}{k:Nat}{sp:Sp}(F:Fun K x qual st f fd)(S:FnScope N ps (zac st))(len:∀vs H Q E,sp vs H Q E->vs.length=ps.length)
  (hbody:∀(cdv:Value) (A:Around) (outer:List Env) (s:Shared) (H:Hp) (vs:List V) (Q:VK) (E:XK),Room k (A.deeper (envOfC qual (zac st) s.heap.objs.size f cdv))->sp vs H Q E->
   ∃t,PSs (cxOf CX0 P w K mg base N qual (zac st) f cdv A outer s H E).nox (zat st) t/\t {nx:=fun _ H'=>Q .non H',rt:=Q} (zdR N vs) H):FnOk P w K mg base CX0 (k+1) f fd ps sp:=by
 obtain⟨oc,od,kV,doc,pm,an,cdv,ct,osl,rfl,lk,hcd⟩:=F.ex
 refine zi7 lk hcd S len fun A outer s H vs Q E hr hsp=> ?_
 obtain⟨t,h,q⟩:=hbody cdv A outer s H vs Q E hr hsp
 exact⟨t,h.nox,q⟩
theorem Fun.binds {x qual:Str}{st:Stmt}{f:Addr}{fd:FuncData}{ps:List Str}(F:Fun K x qual st f fd)
  (h:∀(kV doc pm:Value) (an:Option Addr) (cdv ct:Value) (us:List Value),us.length=ps.length->bindArgs (PySem.W.fnOf x qual (zaF st) (zat st) (zac st) .none kV doc pm an cdv ct) ⟨us,[]⟩=pure (ps.zip us)):Binds K fd ps []:=by
 obtain⟨oc,od,kV,doc,pm,an,cdv,ct,osl,rfl,lk,hcd⟩:=F.ex
 exact .all (h kV doc pm an cdv ct)
theorem ziA {x qual:Str}{st:Stmt}{f:Addr}{oc:Value}{od an:Option Addr}{osl:Array (Option Value)}{kV doc pm cdv ct:Value}(l:K.lookup f=some ⟨oc,od,.func (PySem.W.fnOf x qual (zaF st) (zat st) (zac st) .none kV doc pm an cdv ct),osl⟩)
  (c:PySem.W.codeIn K cdv qual=true) (k:PySem.W.keepIn K (.ref f)=true):Fun K x qual st f (PySem.W.fnOf x qual (zaF st) (zat st) (zac st) .none kV doc pm an cdv ct):=⟨⟨oc,od,kV,doc,pm,an,cdv,ct,osl,rfl,l,c⟩,k⟩
end
section
variable {X:Cx}
theorem pv (i:Nat){x:Str}{pos:Pos}(hN:X.N[i]? =some x:=by rfl)(hv:Vis X.env.scope x:=by first|exact Or.inl rfl|exact Or.inr (Or.inl rfl)|exact Or.inr (Or.inr rfl))(hd:(x==("__debug__" :Str))=false:=by decide)
  (hcd:(x==("__classdict__" :Str))=false:=by decide):PE X (.Name x pos) (tVar i):=zij hN hv hd hcd
end
theorem iteF {A B:Prop}(h:B):if false=true then A else B:=by
 rw[if_neg Bool.false_ne_true]
 exact h
theorem iteT {A B:Prop}(h:A):if true=true then A else B:=by
 rw[if_pos rfl]
 exact h
theorem ite2 {c A B:Prop}[Decidable c](h1:c->A)(h2:¬c->B):if c then A else B:=by
 by_cases h:c
 ·rw [if_pos h]
  exact h1 h
 ·rw [if_neg h]
  exact h2 h
noncomputable def Same (H H':Hp):Prop:=∀b o,H b=some o->H' b=some o
theorem Same.refl (H:Hp):Same H H:=fun _ _ h=>h
theorem Same.trans {H H1 H2:Hp}(a:Same H H1)(b:Same H1 H2):Same H H2:=fun c o h=>b c o (a c o h)
theorem Same.seq {K:PySem.W.Frag}{H H':Hp}{a:Addr}{xs:List V}(e:Same H H')(h:SqL K H a xs):SqL K H' a xs:=by
 rcases h with (h|⟨o,h⟩)|h
 ·exact .inl (.inl (e _ _ h))
 ·exact .inl (.inr ⟨o,e _ _ h⟩)
 ·exact .inr h
theorem zc6 {env:Env}{scope:Scope}(h:∀y∈scope.names,y.2=.free->∃c,env.cells.lookup y.1=some c):
  ∃cl,closureFor scope env=pure cl/\(∀x c,cl.lookup x=some c->env.cells.lookup x=some c)/\∀y∈scope.names,y.2=.free->cl.lookup y.1=env.cells.lookup y.1:=by
 have go:∀(names:List (Str×NameKind)) (acc:List (Str×Addr)),(∀y∈names,y.2=.free->∃c,env.cells.lookup y.1=some c)->
   (∀x c,acc.lookup x=some c->env.cells.lookup x=some c)->
   ∃cl,(forIn names acc (fun (y:Str×NameKind) (cs:List (Str×Addr))=>if (y.2==.free)=true then (do let c<-cellOf env y.1;pure (ForInStep.yield ((y.1,c)::cs))) else pure (ForInStep.yield cs)):Sem (List (Str×Addr)))=pure cl/\
    (∀x c,cl.lookup x=some c->env.cells.lookup x=some c)/\(∀x c,acc.lookup x=some c->cl.lookup x=some c)/\∀y∈names,y.2=.free->cl.lookup y.1=env.cells.lookup y.1:=by
  intro names
  induction names with
  |nil=>intro acc _ ha;exact⟨acc,rfl,ha,fun _ _ h=>h,fun y hy=>nomatch hy⟩
  | cons y r ih=>
   intro acc hn ha
   obtain⟨n,k⟩:=y
   by_cases hk:k=.free
   ·subst hk
    obtain⟨c,hc⟩:=hn (n,.free) List.mem_cons_self rfl
    have ha':∀x d,(((n,c)::acc:List (Str×Addr))).lookup x=some d->env.cells.lookup x=some d:=fun x d e=>by
     rw[List.lookup_cons] at e
     cases hx:x==n with
     |true=>
      rw[hx] at e
      have e1:x=n:=eq_of_beq hx
      subst e1
      cases e
      exact hc
     |false=>rw[hx] at e;exact ha x d e
    obtain⟨cl,e,h1,h2,h3⟩:=ih ((n,c)::acc) (fun y hy=>hn y (List.mem_cons_of_mem _ hy)) ha'
    refine⟨cl, ?_,h1,fun x d e=> ?_,fun y hy hf=> ?_⟩
    ·rw [List.forIn_cons]
     have ec:cellOf env n=pure c:=by unfold cellOf;rw[hc]
     simp only[beq_self_eq_true,if_true]
     rw[ec]
     exact e
    ·have e':=ha x d e
     by_cases hx:x=n
     ·subst hx
      rw[hc] at e';cases e'
      exact h2 x c (by rw[List.lookup_cons];simp)
     ·exact h2 x d (by rw[List.lookup_cons,beq_eq_false_iff_ne.mpr hx];exact e)
    ·rcases List.mem_cons.mp hy with rfl|hy
     ·show cl.lookup n=env.cells.lookup n
      rw[hc]
      exact h2 n c (by rw[List.lookup_cons];simp)
     ·exact h3 y hy hf
   ·obtain ⟨cl,e,h1,h2,h3⟩:=ih acc (fun y hy=>hn y (List.mem_cons_of_mem _ hy)) ha
    refine⟨cl, ?_,h1,h2,fun y hy hf=> ?_⟩
    ·rw [List.forIn_cons]
     have:(k==NameKind.free)=false:=by simpa using hk
     simp only[this,Bool.false_eq_true,if_false]
     exact e
    ·rcases List.mem_cons.mp hy with rfl|hy
     ·exact absurd hf hk
     ·exact h3 y hy hf
 obtain⟨cl,e,h1,_,h3⟩:=go scope.names [] h (fun x c e=>by simp at e)
 refine⟨cl, ?_,h1,h3⟩
 unfold closureFor
 exact (congrArg (fun m=>m >>= fun r=>pure r) e).trans rfl
noncomputable def zbB (n:Nat)(ix:List Nat)(σ:St):St:=List.replicate n none++ix.map fun i=>σ.getD i none
noncomputable def Cx.comp (X:Cx)(s₂:Shared)(H₂:Hp)(N':List Str)(scope:Scope)(cl:List (Str×Addr))(C:Addr)(fp:List Addr):Cx:=
 {X with N:=N',s₀:=s₂,H₀:=H₂,env:=compEnvC scope cl C X.env,outer:=X.stack,stack:=X.stack,ex:=fp,fn:=fun _=>false,pn:=[],xe:=fun _ _=>False}
structure CompScope (X:Cx) (scope:Scope) (N':List Str) (n:Nat) (ix:List Nat):Prop where
 kind:scope.kind=.function
 nocell:∀y∈scope.names,y.2≠.cell
 names:∀y∈scope.names,y.2=.local->scope.names.lookup y.1=some .local
 free:∀y∈scope.names,y.2=.free->X.env.scope.names.lookup y.1=some .cell∨X.env.scope.names.lookup y.1=some .free
 nodup:∀y:Str,(y,NameKind.free)∈scope.names->scope.names.lookup y=some .local->False
 len:N'.length=n+ix.length
 at_:∀(j i:Nat),ix[j]? =some i->∃x,N'[n+j]? =some x/\X.N[i]? =some x/\(x,NameKind.free)∈scope.names
theorem zaE {env:Env}{scope:Scope}(x:Str):(relabel scope env).names.lookup x=(scope.names.lookup x).map fun k=>if (k==.free&&env.scope.kind==.function&&env.kindOf x==some .cell) then .cell else k:=by
 show (scope.names.map fun (n,k)=>if (k==NameKind.free&&env.scope.kind==.function&&env.kindOf n==some .cell) then (n,NameKind.cell) else (n,k)).lookup x=_
 generalize scope.names=l
 induction l with
 |nil=>rfl
 | cons y r ih=>
  obtain⟨n,k⟩:=y
  rw[List.map_cons,List.lookup_cons]
  cases hx:x==n with
  | true=>
   have e:x=n:=eq_of_beq hx
   subst e
   by_cases hc:(k==NameKind.free&&env.scope.kind==.function&&env.kindOf x==some .cell)=true
   ·rw [if_pos hc,List.lookup_cons]
    simp only[beq_self_eq_true]
    show some NameKind.cell=some (ite _ _ _)
    rw[if_pos hc]
   ·rw [if_neg hc,List.lookup_cons]
    simp only[beq_self_eq_true]
    show some k=some (ite _ _ _)
    rw[if_neg hc]
  |false=>
   by_cases hc:(k==NameKind.free&&env.scope.kind==.function&&env.kindOf n==some .cell)=true
   ·rw[if_pos hc,List.lookup_cons,hx];exact ih
   ·rw[if_neg hc,List.lookup_cons,hx];exact ih
section
variable {X:Cx}{pins:List (Addr×Obj)}{σ:St}{H:Hp}{s:Shared}
theorem zdU {env:Env}{scope:Scope}{x:Str}(h:scope.names.lookup x=some .free):(relabel scope env).names.lookup x=some .cell∨(relabel scope env).names.lookup x=some .free:=by
 rw[zaE,h]
 by_cases hc:(NameKind.free==NameKind.free&&env.scope.kind==.function&&env.kindOf x==some .cell)=true
 ·exact .inl (by show some (ite _ _ _)=_;rw[if_pos hc])
 ·exact .inr (by show some (ite _ _ _)=_;rw[if_neg hc])
theorem zfk {env:Env}{scope:Scope}{x:Str}(hn:∀y∈scope.names,y.2≠.cell)(h:(relabel scope env).names.lookup x=some .cell∨(relabel scope env).names.lookup x=some .free):scope.names.lookup x=some .free:=by
 rw[zaE] at h
 cases e:scope.names.lookup x with
 |none=>rw[e] at h;rcases h with h|h<;>cases h
 | some k=>
  rw[e] at h
  have hk:=hn _ (PySem.mem_of_lookup e)
  by_cases hf:k=.free
  ·rw[hf]
  ·have hb:(k==NameKind.free)=false:=by simpa using hf
   have hr:Option.map (fun k=>if (k==NameKind.free&&env.scope.kind==.function&&env.kindOf x==some .cell)=true then NameKind.cell else k) (some k)=some k:=by
    show some (ite _ _ _)=_
    rw[if_neg (by rw[hb];simp)]
   rw[hr] at h
   rcases h with h|h
   ·cases h;exact absurd rfl hk
   ·exact h
theorem zgN {scope:Scope}{N':List Str}{n:Nat}{ix:List Nat}{cl:List (Str×Addr)}{fp:List Addr}{h₁:Heap}{acc C:Addr}{na:Nat}{m:Str->Option Value}{tk:Nat}
  (I:Inv X pins σ H s) (S:CompScope X scope N' n ix) (hcl1:∀x c,cl.lookup x=some c->X.env.cells.lookup x=some c) (hcl2:∀y∈scope.names,y.2=.free->cl.lookup y.1=X.env.cells.lookup y.1)
  (hf:∀b∈fp,FpOk X pins H b) (hlt:∀b∈fp,b<s.heap.objs.size) (ha:s.heap.objs.size<=acc) (hC:s.heap.objs.size<=C) (hne:C≠acc)
  (k:∀b u,s.heap.get? b=some u->h₁.get? b=some u) (hacc:h₁.get? acc=some {cls:=.type "list",data:=.seq ([]:List Value).toArray na}) (hns:h₁.Ns C m):
  Inv (X.comp s H N' scope cl C fp) [] (zbB n ix σ) (upd H acc (.lst [])) {s with heap:=h₁,toks:=tk}:=by
 have fr:∀b:Addr,s.heap.objs.size<=b->H b=none:=fun b hb=>I.hok.fresh hb
 have cellLt:∀x c,cl.lookup x=some c->c<s.heap.objs.size:=fun x c e=>by
  obtain⟨v,q⟩:=I.cell x c (hcl1 x c e)
  exact q.lt
 refine⟨⟨I.ok.mod,S.kind,I.ok.glob,I.ok.blt,hC,fun x y c e1 e2=>I.ok.inj x y c (hcl1 x c e1) (hcl1 y c e2),fun x hx=> ?_,fun x c e _=>absurd e Bool.false_ne_true,I.ok.hd,I.ok.frames,.inl rfl,fun b hb=>⟨Nat.ne_of_lt (Nat.lt_of_lt_of_le (hlt b hb) hC),fun x c e=>(hf b hb).2.2.2.2.1 x c (hcl1 x c e)⟩,
   I.bs,Nat.le_trans I.ok.bsz I.sz,fun b o e hb=> ?_,fun b hb hs=> ?_,I.stack,I.stkFree⟩,
  rfl,I.bare,Un.laid k ha (fr acc ha),⟨m,hns,fun i x v e1 e2 e3=> ?_⟩,fun x c e=> ?_, ?_,fun x c e=> ?_,fun p hp=>absurd (show p∈([]:List (Addr×Obj)) from hp) (by simp),I.hok.laid k ha ⟨Nat.zero_le _,[],na,.nil,hacc⟩, ?_⟩
 ·have hx':scope.names.lookup x=some .free:=zfk (env:=X.env) S.nocell hx
  have hm:=PySem.mem_of_lookup hx'
  obtain⟨c,e⟩:=I.ok.has x (S.free _ hm rfl)
  exact⟨c,(hcl2 _ hm rfl).trans e⟩
 ·rcases (hf b hb).2.2.2.1 with z|z
  ·exact I.ok.noex b o e z
  ·exact absurd (Nat.lt_of_lt_of_le (Heap.lt_size e) (Nat.le_trans I.ok.bsz z)) (Nat.lt_irrefl _)
 ·rcases List.mem_cons.mp (I.stkSub b hs) with z|z
  ·exact (hf b hb).2.1 z
  ·exact (hf b hb).2.2.1 z
 ·-- a name of the frame,seen through its cell
  have hi:n<=i:=by
   by_cases hi:n<=i
   ·exact hi
   ·unfold zbB at e2
    rw[List.getElem?_append_left (by simp;(first|lia|omega)),List.getElem?_replicate] at e2
    split at e2<;>cases e2
  obtain⟨j,rfl⟩:∃j,i=n+j:=⟨i-n,by (first|lia|omega)⟩
  unfold zbB at e2
  rw[List.getElem?_append_right (by simp),List.length_replicate,Nat.add_sub_cancel_left,List.getElem?_map] at e2
  cases ej:ix[j]? with
  |none=>rw[ej] at e2;cases e2
  | some q=>
   rw[ej] at e2
   have e2':σ.getD q none=some v:=Option.some.inj e2
   have e2'':σ[q]? =some (some v):=by
    rw[List.getD_eq_getElem?_getD] at e2'
    cases eq:σ[q]? with
    |none=>rw[eq] at e2';cases e2'
    |some z=>rw[eq] at e2';exact congrArg some e2'
   obtain⟨y,h1,h2,h3⟩:=S.at_ j q ej
   have ey:y=x:=Option.some.inj (h1.symm.trans e1)
   subst ey
   have hk:=S.free _ h3 rfl
   obtain⟨mX,_,hl⟩:=I.loc
   obtain⟨u,r,l⟩:=hl q y v h2 e2'' (.inr hk)
   refine⟨u,r,.inr ?_⟩
   have hkc:X.env.kindOf y=some .cell∨X.env.kindOf y=some .free:=hk
   have l':∃c,X.env.cells.lookup y=some c/\s.heap.IsCell c (some u):=by
    rcases l with⟨z,_⟩|⟨_,c,ec,hc⟩
    ·rcases hkc with q|q<;>(rw[q] at z;cases z)
    ·exact⟨c,ec,hc⟩
   obtain⟨c,ec,o,ho,hd⟩:=l'
   have e3':Vis (relabel scope X.env) y:=e3
   refine⟨?_,c,(hcl2 _ h3 rfl).trans ec,o,k _ _ ho,hd⟩
   have nl:scope.names.lookup y≠some .local:=fun z=> ?_
   ·cases el:scope.names.lookup y with
    |none=>
     have:(relabel scope X.env).names.lookup y=none:=by rw[zaE,el];rfl
     rcases e3' with z|z|z<;>(rw[this] at z;cases z)
    | some kk=>
     have hmem:=PySem.mem_of_lookup el
     have ncell:=S.nocell _ hmem
     have hr:(relabel scope X.env).names.lookup y=some (if (kk==NameKind.free&&X.env.scope.kind==.function&&X.env.kindOf y==some .cell)=true then .cell else kk):=by rw[zaE,el];rfl
     by_cases hkf:kk=.free
     ·subst hkf
      exact zdU (env:=X.env) el
     ·have hb:(kk==NameKind.free)=false:=by simpa using hkf
      have hr':(relabel scope X.env).names.lookup y=some kk:=by rw[hr,hb];rfl
      rcases e3' with z|z|z
      ·rw[hr'] at z;cases z;exact absurd el nl
      ·rw[hr'] at z;cases z;exact absurd rfl ncell
      ·rw[hr'] at z;cases z;exact absurd rfl hkf
   ·exact S.nodup _ h3 z
 ·obtain ⟨v,o,ho,hd⟩:=I.cell x c (hcl1 x c e)
  exact⟨v,o,k _ _ ho,hd⟩
 ·show upd H acc (.lst []) C=none
  rw[zak hne];exact fr C hC
 ·show upd H acc (.lst []) c=none
  have:=cellLt x c e
  rw[zak (Nat.ne_of_lt (Nat.lt_of_lt_of_le this ha))]
  exact I.freeC x c (hcl1 x c e)
 ·show (zbB n ix σ).length=N'.length
  unfold zbB
  rw[List.length_append,List.length_replicate,List.length_map,S.len]
end
noncomputable def Wk (σ σ':St):Prop:=σ.length=σ'.length/\∀(i:Nat) v,σ[i]? =some (some v)->σ'[i]? =some (some v)
noncomputable def PTs (Y:Cx)(ifs:List Expr)(t:TT):Prop:=
 ∀(pins:List (Addr×Obj)) (s:Shared) (σ:St) (H:Hp) (Q:Bool->Hp->Prop),Inv Y pins σ H s->t σ H Q->
  wpAny (model Y.prog Y.w) Y.A (forIn ifs true fun c r=>if r=true then do let ok<-isTrue c Y.env (eval c Y.env);pure (ForInStep.yield ok) else pure (ForInStep.yield r)) (TP Y pins σ Q) Y.xe s
noncomputable def zbt:TT:=fun _ H Q=>Q true H
theorem zet {Y:Cx}:PTs Y [] zbt:=fun _ _ _ H _ I h=>wpAny_tests_nil ⟨H,I,h⟩
theorem zhE {Y:Cx}{c:Expr}{t:TT}(h:PT Y c t):PTs Y [c] t:=fun pins s σ H Q I q=>wpAny_tests_one (h pins s σ H Q I q)
theorem zdV {prog:Program}{w:World}{A:Around}{R:Result->Shared->Prop}{s:Shared}{elt target iter:Expr}{ifs:List Expr}{scope:Scope}{pos:Pos}{it acc:Value}{env:Env}(I:Nat->Shared->Prop)
  (turn:∀n s,I n s->wpAny (model prog w) A (pyNext it) (fun r s₁=>match r with
   |none=>R (.ok .next) s₁
   | some v=>wpAny (model prog w) A (letOwnedTupleGo target it v) (fun _ s₂=>wpAny (model prog w) A (assign target env v) (fun _ s₃=>
     wpAny (model prog w) A (forIn ifs true fun c r=>if r=true then do let ok<-isTrue c env (eval c env);pure (ForInStep.yield ok) else pure (ForInStep.yield r)) (fun ok s₄=>
      if ok=true then wpAny (model prog w) A (eval elt env) (fun x s₅=>
       wpAny (model prog w) A (call (.builtin "list.append") [acc,x]) (fun _ s₆=>∃m,m<n/\I m s₆) (fun _ _=>False) s₅) (fun _ _=>False) s₄
      else ∃m,m<n/\I m s₄) (fun _ _=>False) s₃) (fun _ _=>False) s₂) (fun _ _=>False) s₁) (fun _ _=>False) s)
  (n:Nat) (h:I n s):
  codeAny (model prog w) A (.compLoop (.ListComp elt [⟨target,iter,ifs,0⟩] scope pos) 0 it acc env) R s:=by
 refine codeAny_loop rfl I (fun n s hI=> ?_) n h
 show wpAny _ A ((compTurn (.ListComp elt [⟨target,iter,ifs,0⟩] scope pos) 0 it acc env).onRaise (fun x=>do noteFrame x env;theTreesLotGoes x)) _ _ s
 refine wpAny_noted (wpAny_noRaise ?_)
 rw[compTurn_list]
 refine wpAny_bind (wpAny_standAt (wpAny_bind (thn (turn n s hI) fun r s₁ h₁=> ?_)))
 cases r with
 |none=>exact wpAny_pure h₁
 |some v=>
  refine wpAny_bind (thn h₁ fun _ s₂ h₂=>wpAny_bind (thn h₂ fun _ s₃ h₃=>wpAny_bind (thn h₃ fun ok s₄ h₄=> ?_)))
  cases ok with
  |false=>exact wpAny_pure ⟨rfl,h₄⟩
  |true=>exact wpAny_bind (wpAny_bind (thn h₄ fun x s₅ h₅=>wpAny_bind (thn h₅ fun _ s₆ h₆=>wpAny_pure (wpAny_pure ⟨rfl,h₆⟩))))
noncomputable def LcW (J:It)(H1:Hp)(g:TG)(tt:TT)(te:TE)(n:Nat)(ix:List Nat)(σ:St)(Q:VK):Prop:=∀acc,H1 acc=none->
 ∃ W:Nat->Nat->Hp->Prop,(∃m,W 0 m (upd H1 acc (.lst [])))/\∀i m H,W i m H->
  (J.stop i H/\Q (.ref acc) H)∨(J.go i H/\∀x H',J.yld i H x H'->g x (zbB n ix σ) H' fun σ2 H2=>Wk (zbB n ix σ) σ2/\tt σ2 H2 fun b H3=>
   if b=true then te σ2 H3 fun v H4=>∃ys,H4 acc=some (.lst ys)/\ys.length<sizeLine/\∃m',m'<m/\W (i+1) m' (upd H4 acc (.lst (ys++[v])))
   else ∃m',m'<m/\W (i+1) m' H3)
noncomputable def tLc (wi:TI)(g:TG)(tt:TT)(te:TE)(n:Nat)(ix:List Nat):TE:=fun σ H Q=>wi σ H fun J H1=>LcW J H1 g tt te n ix σ Q
section
variable {X:Cx}{elt tg iter:Expr}{ifs:List Expr}{scope:Scope}{pos:Pos}{wi:TI}{g:TG}{tt:TT}{te:TE}{N':List Str}{n:Nat}{ix:List Nat}
theorem zfS {pins:List (Addr×Obj)}{σ:St}{H2:Hp}{s2:Shared}{cl:List (Str×Addr)}{it:Addr}{fp:List Addr}{tn:Nat->Heap->Prop}{J:It}{Q:VK}{R:Value->Addr->Result->Shared->Prop}
  (hc:X.calm=true) (S:CompScope X scope N' n ix)
  (hY:∀s₂ H₂ cl C fp,PG (X.comp s₂ H₂ N' scope cl C fp) tg g/\PTs (X.comp s₂ H₂ N' scope cl C fp) ifs tt/\PE (X.comp s₂ H₂ N' scope cl C fp) elt te)
  (I2:Inv X pins σ H2 s2) (hcl1:∀x c,cl.lookup x=some c->X.env.cells.lookup x=some c) (hcl2:∀y∈scope.names,y.2=.free->cl.lookup y.1=X.env.cells.lookup y.1)
  (T:Turn X.prog X.w X.K tg J fp it tn) (st2:tn 0 s2.heap) (f2:∀b∈fp,FpOk X pins H2 b)
  (hW:LcW J H2 g tt te n ix σ Q)
  (hR:∀acc C s' H' m,s'.heap.Ns C m->Inv X pins σ H' s'->H' C=none->C≠X.env.locals->(C∈X.ex∨X.s₀.heap.objs.size<=C)->(∀x c,X.env.cells.lookup x=some c->c≠C)->(∀p∈X.pn++pins,p.1≠C)->C∉X.fs->Q (.ref acc) H'->R (.ref acc) C (.ok .next) s'):
  wpAny (model X.prog X.w) X.A (newList []) (fun acc s₃=>wpAny (model X.prog X.w) X.A (newFunctionEnv scope X.env.globals cl [] X.env.qual none .none (some X.env)) (fun cenv s₄=>
   codeAny (model X.prog X.w) X.A (.compStart (.ListComp elt [⟨tg,iter,ifs,0⟩] scope pos) 0 (.ref it) acc {cenv with scope:=relabel scope X.env}) (R acc cenv.locals) s₄) X.xe s₃) X.xe s2:=by
 refine wpAny_newObj_type (wpAny_newFunctionEnv S.nocell (by intro y hy;simp at hy) (fun h₁ hns₁ hsb₁=> ?_) S.kind)
 dsimp only at hns₁ hsb₁ ⊢
 generalize hH2:s2.heap.push {cls:=.type "list",dict:=none,data:=.seq ([]:List Value).toArray}=G at hns₁ hsb₁ ⊢
 have hC:G.objs.size=s2.heap.objs.size+1:=by rw[<-hH2,Heap.size_push]
 have hlt:∀b∈fp,b<s2.heap.objs.size:=fun b hb=>by
  obtain⟨o,e,_⟩:=T.obj _ _ st2 b hb
  exact Heap.lt_size e
 have old:∀b o,s2.heap.get? b=some o->h₁.get? b=some o:=fun b o e=>hsb₁.extBut b o (by rw[hC];exact Nat.ne_of_lt (Nat.lt_succ_of_lt (Heap.lt_size e))) (Heap.get?_push_of_some _ (hH2▸Heap.get?_push_of_some _ e))
 have hacc:h₁.get? s2.heap.objs.size=some {cls:=.type "list",dict:=none,data:=.seq ([]:List Value).toArray}:=hsb₁.extBut _ _ (by rw[hC];exact Nat.ne_of_lt (Nat.lt_succ_self _)) (Heap.get?_push_of_some _ (hH2▸Heap.get?_push_size _ rfl))
 obtain⟨W,⟨m0,w0⟩,turn⟩:=hW s2.heap.objs.size (I2.hok.fresh (Nat.le_refl _))
 obtain⟨hYg,hYt,hYe⟩:=hY s2 H2 cl G.objs.size fp
 have fpY:∀{H':Hp},(∀b∈fp,H' b=none)->∀b∈fp,FpOk (X.comp s2 H2 N' scope cl G.objs.size fp) [] H' b:=fun {H'} hn b hb=>by
  obtain⟨_,q1,q2,q3,q4,q5⟩:=f2 b hb
  refine⟨hn b hb, ?_,fun z=> ?_,.inl hb,fun x c e=>q4 x c (hcl1 x c e),fun p hp=>absurd (show p∈([]:List (Addr×Obj)) from hp) (by simp)⟩
  ·show b≠G.objs.size
   rw[hC]
   exact Nat.ne_of_lt (Nat.lt_succ_of_lt (hlt b hb))
  ·rcases List.mem_cons.mp (I2.stkSub b z) with y|y
   ·exact q1 y
   ·exact q2 y
 have loop:∀s₃:Shared,s₃={s2 with heap:=h₁,toks:=s2.toks+([]:List (Str×Value)).length}->
   codeAny (model X.prog X.w) X.A (.compLoop (.ListComp elt [⟨tg,iter,ifs,0⟩] scope pos) 0 (.ref it) (.ref s2.heap.objs.size) (compEnvC scope cl G.objs.size X.env)) (R (.ref s2.heap.objs.size) G.objs.size) s₃:=by
  rintro s₃ rfl
  have I4:=zgN (tk:=s2.toks+([]:List (Str×Value)).length) I2 S hcl1 hcl2 f2 hlt (Nat.le_refl _) (by rw[hC];exact Nat.le_succ _) (by rw[hC];exact Nat.ne_of_gt (Nat.lt_succ_self _)) old hacc hns₁
  refine zdV (fun n' s'=>∃i H',Inv (X.comp s2 H2 N' scope cl G.objs.size fp) [] (zbB n ix σ) H' s'/\tn i s'.heap/\(∀b∈fp,H' b=none)/\W i n' H') ?_ m0
   ⟨0,_,I4,T.keep _ _ _ st2 fun b hb o e=>old b o e,fun b hb=> ?_,w0⟩
  ·rintro n' s3 ⟨i,H3,I3,st3,fr3,w3⟩
   rcases turn i n' H3 w3 with⟨stop,q⟩|⟨go,step⟩
   ·refine thn (T.done (X.comp s2 H2 N' scope cl G.objs.size fp) rfl rfl rfl hc i [] s3 _ H3 _ I3 (fpY fr3) st3 stop) fun r s4 zq=> ?_
    obtain⟨hr,I5⟩:=zq
    subst hr
    obtain⟨mC,hnC,_⟩:=I5.loc
    have IX:Inv X pins σ H3 s4:=I2.call' I5.os I5.base I5.hok I5.bare fun b hb=>by
     obtain⟨_,q1,q2,q3,q4,q5⟩:=f2 b hb
     exact⟨q3,q1,q4,q5⟩
    refine hR _ _ s4 H3 mC hnC IX I5.free ?_ (.inr ?_) (fun x c e z=> ?_) (fun p hp z=> ?_) (I2.nofs (by rw[hC];exact Nat.le_succ _)) q
    ·rw [hC]
     exact Nat.ne_of_gt (Nat.lt_succ_of_lt I2.lt)
    ·rw [hC]
     exact Nat.le_succ_of_le I2.sz
    ·obtain ⟨v,q⟩:=I2.cell x c e
     rw[hC] at z
     exact absurd z (Nat.ne_of_lt (Nat.lt_succ_of_lt q.lt))
    ·rw [hC] at z
     exact absurd z (Nat.ne_of_lt (Nat.lt_succ_of_lt (Heap.lt_size (I2.pin p hp).1)))
   ·refine thn (T.item (X.comp s2 H2 N' scope cl G.objs.size fp) rfl rfl rfl hc i [] s3 _ H3 _ I3 (fpY fr3) st3 go) fun r s4 zq=> ?_
    obtain⟨u,hr,h4⟩:=zq
    subst hr
    refine thn h4 fun _ s5 zq=> ?_
    obtain⟨x,H5,I5,r5,y5,st5,fr5⟩:=zq
    have I5':=I5.pinned (fpY fr5) (T.obj _ _ st5)
    refine thn (hYg _ s5 _ H5 x u _ I5' r5 (step x H5 y5)) fun _ s6 zq=> ?_
    obtain⟨σ6,H6,I6,wk,q6⟩:=zq
    have back:∀{H':Hp} {s':Shared},Inv (X.comp s2 H2 N' scope cl G.objs.size fp) ([]++zdJ fp s5.heap) σ6 H' s'->
      Inv (X.comp s2 H2 N' scope cl G.objs.size fp) [] (zbB n ix σ) H' s'/\tn (i+1) s'.heap/\∀b∈fp,H' b=none:=fun {H' s'} I7=>by
     refine⟨I7.unpinned.weak wk.1 wk.2,T.keep _ _ _ st5 fun b hb o e=>(I7.pin (b,o) (List.mem_append_right _ (List.mem_append_right _ (zbm hb e)))).1,fun b hb=> ?_⟩
     obtain⟨o,e,d⟩:=T.obj _ _ st5 b hb
     exact (I7.pin (b,o) (List.mem_append_right _ (List.mem_append_right _ (zbm hb e)))).2.1
    refine thn (hYt _ s6 σ6 H6 _ I6 q6) fun ok s7 zq=> ?_
    obtain⟨H7,I7,q7⟩:=zq
    cases ok with
    |false=>
     rw[if_neg Bool.false_ne_true] at q7 ⊢
     obtain⟨m',hm,w7⟩:=q7
     obtain⟨b1,b2,b3⟩:=back I7
     exact⟨m',hm,i+1,H7,b1,b2,b3,w7⟩
    |true=>
     rw[if_pos rfl] at q7 ⊢
     refine thn (hYe _ s7 σ6 H7 _ I7 q7) fun xv s8 zq=> ?_
     obtain⟨v8,H8,I8,r8,ys,ha,hz,m',hm,w8⟩:=zq
     refine thn (zfP _ s8 σ6 H8 (.ref s2.heap.objs.size) [v8] (.ref s2.heap.objs.size) [xv] (fun _ H'=>H'=upd H8 s2.heap.objs.size (.lst (ys++[v8]))) I8 rfl (.cons r8 .nil) ⟨_,ys,v8,rfl,rfl,ha,hz,rfl⟩) fun _ s9 zq=> ?_
     obtain⟨_,H9,I9,_,e9⟩:=zq
     subst e9
     obtain⟨b1,b2,b3⟩:=back I9
     exact⟨m',hm,i+1,_,b1,b2,b3,w8⟩
  ·rw [zak (Nat.ne_of_lt (hlt b hb))]
   exact (f2 b hb).1
 exact codeAny_compStart_list (loop _ rfl) (T.self _ 0 _ _ _ (T.keep _ _ _ st2 fun b hb o e=>old b o e) (loop _ rfl))
theorem pe_lc (hc:X.calm=true)(S:CompScope X scope N' n ix)(hi:PI X tg iter wi)
  (hY:∀s₂ H₂ cl C fp,PG (X.comp s₂ H₂ N' scope cl C fp) tg g/\PTs (X.comp s₂ H₂ N' scope cl C fp) ifs tt/\PE (X.comp s₂ H₂ N' scope cl C fp) elt te)
  (hs:∀x,foldedSetIterable iter X.env x=pure x:=by intro _;rfl):PE X (.ListComp elt [⟨tg,iter,ifs,0⟩] scope pos) (tLc wi g tt te n ix):=by
 intro pins s σ H Q I h
 obtain⟨cl,hcl,hcl1,hcl2⟩:=zc6 (env:=X.env) (scope:=scope) fun y hy hf=>I.ok.has _ (S.free y hy hf)
 rw[eval_ListComp]
 refine wpAny_comprehension_free (use:=none) rfl hs hcl S.kind S.names (thn (hi pins s σ H _ I h) fun v s1 h1=>thn h1 fun itv s2 h2=> ?_)
 obtain⟨it,fp,tn,J,H2,rfl,I2,T,st2,f2,hW⟩:=h2
 refine zfS (R:=fun acc C=>compPost (model X.prog X.w) X.A X.xe none (EP X pins σ Q) acc C) hc S hY I2 hcl1 hcl2 T st2 f2 hW ?_
 intro acc C s' H' m hn IX hf hL h1 h2 h3 h4 q
 exact⟨m,hn,fun h' sb=>⟨.ref acc,H',IX.turned (t':=s'.toks) (fun b o hb e=>sb.extBut b o hb e) hf hL h1 h2 h3,rfl,q⟩⟩
theorem zgO {x:Str}{i:Nat}{pos' spos:Pos}(hsw:swapsWith (.ListComp elt [⟨tg,iter,ifs,0⟩] scope pos) (some (.Name x pos')) spos.line X.env=pure true)(hN:X.N.Nodup)(hi':X.N[i]? =some x)(hx:X.env.scope.names.lookup x=some .local)
  (hc:X.calm=true) (S:CompScope X scope N' n ix) (hi:PI X tg iter wi)
  (hY:∀s₂ H₂ cl C fp,PG (X.comp s₂ H₂ N' scope cl C fp) tg g/\PTs (X.comp s₂ H₂ N' scope cl C fp) ifs tt/\PE (X.comp s₂ H₂ N' scope cl C fp) elt te)
  (hs:∀x,foldedSetIterable iter X.env x=pure x:=by intro _;rfl):PS X (.Assign [.Name x pos'] (.ListComp elt [⟨tg,iter,ifs,0⟩] scope pos) spos) (tAsg (tLc wi g tt te n ix) (zbr i)):=by
 intro pins s σ H D I h
 obtain⟨cl,hcl,hcl1,hcl2⟩:=zc6 (env:=X.env) (scope:=scope) fun y hy hf=>I.ok.has _ (S.free y hy hf)
 rw[exec_Assign_Name_used _ _ _ _ hsw]
 refine wpAny_bind (wpAny_standAt (wpAny_bind ?_))
 show wpAny _ _ (do let _<-comprehension (.ListComp elt [⟨tg,iter,ifs,0⟩] scope pos) scope X.env _ (newList []) false (eval iter X.env) (some (assign (.Name x pos') X.env))) _ _ s
 refine wpAny_bind (thn (wpAny_comprehension_free (use:=some (assign (.Name x pos') X.env)) (Q:=fun _ s'=>SP X pins D .next s') rfl hs hcl S.kind S.names (thn (hi pins s σ H _ I h) fun v s1 h1=>thn h1 fun itv s2 h2=> ?_)) fun _ s' hq=>wpAny_pure (wpAny_pure hq))
 obtain⟨it,fp,tn,J,H2,rfl,I2,T,st2,f2,hW⟩:=h2
 refine zfS (Q:=fun x H1=>zbr i x σ H1 D.nx) (R:=fun acc C=>compPost (model X.prog X.w) X.A X.xe (some (assign (.Name x pos') X.env)) (fun _ s'=>SP X pins D .next s') acc C) hc S hY I2 hcl1 hcl2 T st2 f2 hW ?_
 intro acc C s' H' m hn IX hf hL h1 h2 h3 h4 q
 show wpAny _ _ (assign (.Name x pos') X.env (.ref acc)) _ _ _
 obtain⟨oC,esC,epC,hoC,hdC,rC⟩:=id hn
 have IP:Inv X (pins++[(C,oC)]) σ H' s':=IX.pins_of fun p hp=>by
  rcases List.mem_append.mp hp with z|z
  ·exact IX.pin p (List.mem_append_right _ z)
  ·have e:p=(C,oC):=by simpa using z
   subst e
   exact⟨hoC,hf,hL,h4,fun v z=>by rw[hdC] at z;cases z⟩
 refine thn (zao hN hi' (.inl hx) (.inr hx) _ s' σ H' (.ref acc) (.ref acc) D.nx IP rfl q) fun _ s'' zq=> ?_
 obtain⟨σ',H'',I'',q''⟩:=zq
 obtain⟨e1,e2,_⟩:=I''.pin (C,oC) (List.mem_append_right _ (List.mem_append_right _ (by simp)))
 refine⟨m,⟨oC,esC,epC,e1,hdC,rC⟩,fun h' sb=>⟨σ',H'', ?_,q''⟩⟩
 exact I''.unpinned.turned (t':=s''.toks) (fun b o hb e=>sb.extBut b o hb e) e2 hL h1 h2 h3
end
theorem PE.mono {X:Cx}{e:Expr}{t t':TE}(h:PE X e t)(m:∀σ H Q,t' σ H Q->t σ H Q):PE X e t':=fun pins s σ H Q I q=>h pins s σ H Q I (m σ H Q q)
theorem zaa {H:Hp}{a:Addr}{o:HO}(h:H a=none):Same H (upd H a o):=fun b u e=>by
 rw[zak (zaw e h)];exact e
theorem zfT {H H':Hp}{a:Addr}{o:HO}(s:Same H H')(h:H a=none):Same H (upd H' a o):=fun b u e=>by
 rw[zak (zaw e h)];exact s b u e
noncomputable def SameT (H H':Hp):Prop:=∀b xs,H b=some (.tup xs)->H' b=some (.tup xs)
theorem Same.t {H H':Hp}(h:Same H H'):SameT H H':=fun b xs e=>h b _ e
theorem SameT.trans {H H1 H2:Hp}(a:SameT H H1)(b:SameT H1 H2):SameT H H2:=fun c o h=>b c o (a c o h)
theorem zfU {H:Hp}{a:Addr}{xs ys:List V}(h:H a=some (.lst xs)):SameT H (upd H a (.lst ys)):=fun b zs e=>by
 rw[zak (zii e h (by intro z;cases z))];exact e
structure Yields (J:It) (Ok:Hp->Prop) (xs:List V):Prop where
 go:∀i H,Ok H->i<xs.length->J.go i H
 yld:∀i H x H',Ok H->i<xs.length->J.yld i H x H'->H'=H/\xs[i]? =some x
 stop:∀H,Ok H->J.stop xs.length H
theorem zeu {K:PySem.W.Frag}{a:Addr}{xs:List V}:Yields (Itl K a) (fun H=>SqL K H a xs) xs:=
 ⟨fun i H q h=>⟨xs,xs[i],q,by simp[h]⟩,fun i H x H' q _ y=>⟨y.1,y.2 xs q⟩,fun H q=>⟨xs,q,Nat.le_refl _⟩⟩
theorem zfl {K:PySem.W.Frag}{a:Addr}{xs:List V}:Yields (Itt K a) (fun H=>SqT K H a xs) xs:=
 ⟨fun i H q h=>⟨xs,xs[i],q,by simp[h]⟩,fun i H x H' q _ y=>⟨y.1,y.2 xs q⟩,fun H q=>⟨xs,q,Nat.le_refl _⟩⟩
noncomputable def zdW (lo:Int)(n:Nat):List V:=(List.range n).map fun (i:Nat)=>V.int (lo+(i:Int))
theorem zbP (lo:Int)(n:Nat):(zdW lo n).length=n:=by simp[zdW]
theorem zfm {lo:Int}{n i:Nat}(h:i<n):(zdW lo n)[i]? =some (V.int (lo+(i:Int))):=by
 simp[zdW,h]
theorem zdX {lo:Int}{n:Nat}:Yields (Itr lo n) (fun _=>True) (zdW lo n):=by
 refine⟨fun i H _ h=> ?_,fun i H x H' _ h y=> ?_,fun H _=> ?_⟩
 ·rw[zbP] at h;exact h
 ·obtain ⟨y1,y2⟩:=y
  rw[zbP] at h
  exact⟨y1,by rw[zfm h,y2]⟩
 ·rw[zbP];exact Nat.le_refl _
section
variable {J:It}{Ok:Hp->Prop}{xs:List V}{tt:TT}{te:TE}{ix:List Nat}{σ:St}{H1:Hp}{Q:VK}
theorem zhF (Y:Yields J Ok xs)(small:xs.length<sizeLine)(p:V->Bool)(f:V->V)(hok:∀H,Same H1 H->Ok H)
  (ht:∀x∈xs,∀H,Same H1 H->∀Q':Bool->Hp->Prop,Q' (p x) H->tt (some x::ix.map fun i=>σ.getD i none) H Q')
  (he:∀x∈xs,p x=true->∀H,Same H1 H->∀Q':VK,Q' (f x) H->te (some x::ix.map fun i=>σ.getD i none) H Q')
  (fin:∀acc,H1 acc=none->Q (.ref acc) (upd H1 acc (.lst ((xs.filter p).map f)))):
  LcW J H1 (zbr 0) tt te 1 ix σ Q:=by
 intro acc ha
 refine⟨fun i m H=>m=xs.length-i/\i<=xs.length/\H=upd H1 acc (.lst (((xs.take i).filter p).map f)),⟨xs.length,by simp,Nat.zero_le _,rfl⟩, ?_⟩
 rintro i m H ⟨rfl,hi,rfl⟩
 have sm:Same H1 (upd H1 acc (.lst (((xs.take i).filter p).map f))):=zaa ha
 have o:=hok _ sm
 by_cases hlt:i<xs.length
 ·refine .inr ⟨Y.go i _ o hlt,fun x H' y=> ?_⟩
  obtain⟨rfl,hx⟩:=Y.yld i _ x H' o hlt y
  have hmem:x∈xs:=List.mem_of_getElem? hx
  have htk:xs.take (i+1)=xs.take i++[x]:=by
   rw[List.take_succ,hx];rfl
  refine⟨⟨rfl,fun j v e=> ?_⟩, ?_⟩
  ·cases j with
   |zero=>cases e
   |succ j=>exact e
  ·refine ht x hmem _ sm _ ?_
   cases hp:p x with
   |false=>
    rw[if_neg Bool.false_ne_true]
    refine⟨xs.length-(i+1),by (first|lia|omega),rfl,hlt, ?_⟩
    rw[htk,List.filter_append]
    simp[hp]
   | true=>
    rw[if_pos rfl]
    refine he x hmem hp _ sm _ ?_
    refine⟨_,zab, ?_,xs.length-(i+1),by (first|lia|omega),rfl,hlt, ?_⟩
    ·rw [List.length_map]
     refine Nat.lt_of_le_of_lt (List.length_filter_le _ _) ?_
     rw[List.length_take];(first|lia|omega)
    ·rw [zhu,htk,List.filter_append,List.map_append]
     simp[hp]
 ·have e:i=xs.length:=by (first|lia|omega)
  subst e
  refine .inl ⟨Y.stop _ o, ?_⟩
  rw[List.take_length]
  exact fin acc ha
end
section
variable {prog:Program}{w:World}{A:Around}{E:Value->Shared->Prop}{s:Shared}
theorem zbQ {it t:Addr}{i:Nat}{its:Array Value}{x:Value}{Q:Value->Shared->Prop}(hi:s.heap.IsTupleIter it t i)(ht:s.heap.IsTuple t its)(hx:its[i]? =some x)
  (q:∀h',h'.IsTupleIter it t (i+1)->Heap.SameBut it s.heap h'->Q x {s with heap:=h'}):wpAny (model prog w) A (Builtin.SmallTypes.nextOf (.ref it)) Q E s:=by
 obtain⟨o,e1,e2,e3⟩:=id hi
 obtain⟨u,f1,f2,nu,f3⟩:=ht
 unfold Builtin.SmallTypes.nextOf
 refine wpAny_bind (wpAny_callSpecial?_slot (name:=Str.ofString "__next__") hi.typeIs F.slot_tuple_iterator_next (wpAny_call_entry F.slot_tuple_iterator_next hi.typeIs F.entry_tuple_iterator_next ?_ (F.args_tuple_iterator_next_1 _)))
 show wpAny _ _ (field (.ref it) 0 >>= _) _ _ s
 refine wpAny_bind (wpAny_field e1 e3 (x:=.ref t) rfl ?_)
 show wpAny _ _ (if (Value.ref t==Value.none)=true then _ else _) _ _ s
 rw[if_neg (show ¬((Value.ref t==Value.none)=true) from Bool.false_ne_true)]
 show wpAny _ _ (field (.ref it) 1 >>= _) _ _ s
 refine wpAny_bind (wpAny_field e1 e3 (x:=.int i 0) rfl ?_)
 show wpAny _ _ (seqItems? (.ref t) >>= _) _ _ s
 refine wpAny_bind (wpAny_seqItems f1 f3 ?_)
 simp only[Int.toNat_natCast,hx]
 refine wpAny_bind (wpAny_setField e1 e3 (by simp) (wpAny_pure ⟨x,rfl,wpAny_pure (q _ ⟨_,Heap.get?_update_self _ e1 (Obj.isFreed_of_fields (Obj.data_mapFields e3 _)),(Obj.cls_mapFields ..).trans e2, ?_⟩ (Heap.SameBut.update ..))⟩))
 rw[Obj.data_mapFields e3]
 simp[rawInt]
theorem zdY {it t:Addr}{i:Nat}{its:Array Value}{Q:Value->Shared->Prop}(hh:A.handled=none)(hi:s.heap.IsTupleIter it t i)(ht:s.heap.IsTuple t its)(hx:its[i]? =none)
  (q:∀h' e,Heap.ExtBut it s.heap h'->(∃o,h'.get? e=some o/\o.cls=.type "StopIteration")->E (.ref e) {s with heap:=h'}):wpAny (model prog w) A (Builtin.SmallTypes.nextOf (.ref it)) Q E s:=by
 obtain⟨o,e1,e2,e3⟩:=id hi
 obtain⟨u,f1,f2,nu,f3⟩:=ht
 unfold Builtin.SmallTypes.nextOf
 refine wpAny_bind (wpAny_callSpecial?_slot (name:=Str.ofString "__next__") hi.typeIs F.slot_tuple_iterator_next (wpAny_call_entry F.slot_tuple_iterator_next hi.typeIs F.entry_tuple_iterator_next ?_ (F.args_tuple_iterator_next_1 _)))
 show wpAny _ _ (field (.ref it) 0 >>= _) _ _ s
 refine wpAny_bind (wpAny_field e1 e3 (x:=.ref t) rfl ?_)
 show wpAny _ _ (if (Value.ref t==Value.none)=true then _ else _) _ _ s
 rw[if_neg (show ¬((Value.ref t==Value.none)=true) from Bool.false_ne_true)]
 show wpAny _ _ (field (.ref it) 1 >>= _) _ _ s
 refine wpAny_bind (wpAny_field e1 e3 (x:=.int i 0) rfl ?_)
 show wpAny _ _ (seqItems? (.ref t) >>= _) _ _ s
 refine wpAny_bind (wpAny_seqItems f1 f3 ?_)
 simp only[Int.toNat_natCast,hx]
 refine wpAny_bind (wpAny_rule (wpAny_bind (wpAny_setField e1 e3 (by simp) ?_)))
 show wpAny _ _ (newExc (.type "StopIteration") [] >>= _) _ _ _
 refine wpAny_bind ?_
 simp only[newExc,newTuple]
 refine wpAny_bind (wpAny_newObj_type ?_ (by size_fits))
 refine wpAny_bind (m:=firstArgMember _ _) (wpAny_of_eq (a:=Value.none) (by first|rfl|(simp only[firstArgMember];rfl)) ?_)
 refine wpAny_newObj_type ?_ (by size_fits)
 simp only[raiseNew]
 refine wpAny_bind (wpAny_handled ?_)
 first|rw[show A.in1.handled=none from hh]|rw[hh]
 refine wpAny_bind (wpAny_pure (wpAny_throw ?_))
 exact q _ _ (((Heap.SameBut.update ..).extBut.push _).push _) ⟨_,Heap.get?_push_size _ rfl,rfl⟩
end
section
variable {X:Cx}{pins:List (Addr×Obj)}{σ:St}{H:Hp}{s:Shared}{h':Heap}
theorem Inv.turnedN {t':Nat}{fp:List Addr}(I:Inv X pins σ H s)(hf:∀b∈fp,FpOk X pins H b)(k:∀b o,b∉fp->s.heap.get? b=some o->h'.get? b=some o):Inv X pins σ H {s with heap:=h',toks:=t'}:=by
 have nit:∀b u,H b=some u->b∉fp:=fun b u e z=>by rw[(hf b z).1] at e;cases e
 refine I.step (g':=s.gens) (d':=s.drawn) (ch:=fp) (fun b hb=> ?_) (fun b o _ _ hc e _=>k b o hc e) (fun b o _ _ hc e _=>⟨o.slots,k b o hc e⟩) (fun _ _ _ _ n=>n)
  (fun b o hc e=>⟨o,k b o hc e⟩) (fun _ _ e=>e) (fun _ _ _ e=>e) (fun b ps e=>⟨#[],by rw[e];simp⟩) (fun m hm=> ?_) (fun b u e=> ?_) I.bare
 ·obtain ⟨_,q1,q2,q3,q4,q5⟩:=hf b hb
  exact⟨q3,q1,q4,q5⟩
 ·obtain ⟨o,es,ep,ho,r⟩:=hm
  exact⟨o,es,ep,k _ o (fun z=>(hf _ z).2.1 rfl) ho,r⟩
 ·refine (I.hok b u e).stay (fun c v hc q=>k c v ?_ q) (fun _ q=>q) fun _ _ q=>q
  rcases hc with z|z
  ·rw[z];exact nit b u e
  ·exact nit c _ z
theorem Inv.trackT {a:Addr}{xs:List V}{its:List Value}(I:Inv X pins σ H s)(hn:H a=none)(hs:X.s₀.heap.objs.size<=a)(hL:a≠X.env.locals)(hc:∀x c,X.env.cells.lookup x=some c->c≠a)(hp:∀p∈X.pn++pins,p.1≠a)
  (rv:Vals xs its) (ht:PTup s.heap a its.toArray) (hz:xs.length<=sizeLine):Inv X pins σ (upd H a (.tup xs)) s:=by
 have ne:∀{b u},H b=some u->b≠a:=fun e=>zaw e hn
 refine⟨I.ok,I.os,I.bare,⟨I.base.keep,I.base.slot,fun b o e n hx=> ?_,I.base.there,fun b ys e=> ?_,fun b o u e=> ?_,fun b ps e=> ?_⟩,I.loc,I.cell, ?_,fun x c e=> ?_,fun p hp'=> ?_,fun b u e=> ?_,I.len⟩
 ·rw [zak (Nat.ne_of_lt (Nat.lt_of_lt_of_le (Heap.lt_size e) hs))]
  exact I.base.free b o e n hx
 ·have q:=I.base.tups b ys e
  rw[zak (ne q)];exact q
 ·have q:=I.base.frzs b o u e
  rw[zak (ne q)];exact q
 ·obtain ⟨m,q⟩:=I.base.tbls b ps e
  exact⟨m,by rw[zak (ne q)];exact q⟩
 ·rw[zak (Ne.symm hL)];exact I.free
 ·rw[zak (hc x c e)];exact I.freeC x c e
 ·obtain ⟨q1,q2,q3⟩:=I.pin p hp'
  exact⟨q1,by rw[zak (hp p hp')];exact q2,q3⟩
 ·by_cases hb:b=a
  ·subst hb
   rw[zab] at e;cases e
   exact⟨hz,its,rv,ht⟩
  ·rw [zak hb] at e
   exact (I.hok b u e).stay (fun _ _ _ q=>q) (fun c q=>by rw[zak (ne q)];exact q) fun c ys q=>by rw[zak (ne q)];exact q
theorem Inv.turnedT {t':Nat}{fp:List Addr}{xs:List V}{its:List Value}(I:Inv X pins σ H s)(hf:∀b∈fp,FpOk X pins H b)(k:∀b o,b∉fp->s.heap.get? b=some o->h'.get? b=some o)
  (rv:Vals xs its) (ht:PTup h' s.heap.objs.size its.toArray) (hz:xs.length<=sizeLine):Inv X pins σ (upd H s.heap.objs.size (.tup xs)) {s with heap:=h',toks:=t'}:=by
 refine (I.turnedN (t':=t') hf k).trackT (I.hok.fresh (Nat.le_refl _)) I.sz (Nat.ne_of_gt I.lt) (fun x c e=> ?_) (fun p hp=> ?_) rv ht hz
 ·obtain ⟨v,q⟩:=I.cell x c e
  exact Nat.ne_of_lt q.lt
 ·exact Nat.ne_of_lt (Heap.lt_size (I.pin p hp).1)
end
section
variable {X:Cx}
end
structure ZipT (h:Heap) (z TI TO i1 i2 a b:Addr) (i:Nat):Prop where
 z:IsZip h z TI TO .none
 ti:IsPair h TI (.ref i1) (.ref i2)
 to:∃x y,IsPair h TO x y
 one:h.IsTupleIter i1 a i
 two:h.IsTupleIter i2 b i
structure ZipNe (z TI TO i1 i2:Addr):Prop where
 az:TI≠z
 bz:TO≠z
 cz:i1≠z
 dz:i2≠z
 ab:TI≠TO
 ac:TI≠i1
 ad:TI≠i2
 bc:TO≠i1
 bd:TO≠i2
 cd:i1≠i2
section
variable {prog:Program}{w:World}{A:Around}{E:Value->Shared->Prop}{s:Shared}{z TI TO i1 i2 a b:Addr}{i:Nat}{xs ys:Array Value}
theorem zev {T:Addr}{p q x:Value}{k:Nat}{Q:Unit->Shared->Prop}(hT:IsPair s.heap T p q)(h:∀h',h'.get? T=some {cls:=.type "tuple",data:=.seq ((#[p,q]:Array Value).setIfInBounds k x)}->Heap.SameBut T s.heap h'->Q () {s with heap:=h'}):
  wpAny (model prog w) A (updateSeq T (·.setIfInBounds k x)) Q E s:=wpAny_updateSeq_pair hT h
theorem zfV {h:Heap}{t j:Addr}{k:Nat}{its:Array Value}{u:Addr}(ht:h.IsTuple t its)(hj:h.IsTupleIter j u k):t≠j:=fun e=>by
 obtain⟨o,e1,e2,_⟩:=ht
 obtain⟨o',f1,f2,_⟩:=hj
 rw[e,f1] at e1;cases e1;rw[f2] at e2;injection e2 with z2;revert z2;decide
theorem zfW {x y:Value}{Q:Option Value->Shared->Prop}(D:ZipNe z TI TO i1 i2)(S:ZipT s.heap z TI TO i1 i2 a b i)(ha:s.heap.IsTuple a xs)(hb:s.heap.IsTuple b ys)(haz:a≠z/\a≠TO)(hbz:b≠z/\b≠TO)(hx:xs[i]? =some x)(hy:ys[i]? =some y)
  (q:∀h',IsZip h' z TI TO (rawInt s.heap.objs.size)->IsPair h' TI (.ref i1) (.ref i2)->IsPair h' TO x y->h'.IsTupleIter i1 a (i+1)->h'.IsTupleIter i2 b (i+1)->IsPair h' s.heap.objs.size x y->
   (∀c o,c≠z->c≠TO->c≠i1->c≠i2->s.heap.get? c=some o->h'.get? c=some o)->Q (some (.ref s.heap.objs.size)) {s with heap:=h'}):
  wpAny (model prog w) A (pyNext (.ref z)) Q E s:=by
 obtain⟨hz,hti,⟨p0,p1,hto⟩,h1,h2⟩:=S
 have ai1:=zfV ha h1
 have ai2:=zfV ha h2
 have bi1:=zfV hb h1
 have bi2:=zfV hb h2
 have hT:s.TypeIs (.ref z) "zip" :=⟨_,hz,rfl⟩
 unfold pyNext
 refine wpAny_bind (wpAny_attempt (wpAny_callSpecial?_slot (name:=Str.ofString "__next__") hT F.slot_zip_next (wpAny_call_entry F.slot_zip_next hT F.entry_zip_next ?_ (F.args_zip_next_1 _))))
 show wpAny _ _ (field (.ref z) 2 >>= _) _ _ _
 refine wpAny_bind (wpAny_field hz rfl (x:=.bool false) rfl ?_);show wpAny _ _ (field (.ref z) 3 >>= _) _ _ _
 refine wpAny_bind (wpAny_field hz rfl (x:=.ref TI) rfl (wpAny_bind (wpAny_seqItems hti rfl ?_)))
 show wpAny _ _ (Builtin.SmallTypes.ownedTupleIsFree (.ref z) >>= _) _ _ _
 refine wpAny_bind ?_
 unfold Builtin.SmallTypes.ownedTupleIsFree
 refine wpAny_bind (wpAny_field hz rfl (x:=.none) rfl (wpAny_pure ?_));simp only[if_true]
 refine wpAny_bind (wpAny_rule (wpAny_bind (wpAny_field hz rfl (x:=.ref TO) rfl (wpAny_bind (wpAny_setField_rec hz (by simp) fun g1 k1 s1=> ?_)))))
 replace k1:IsZip g1 z TI TO .ellipsis:=k1
 refine wpAny_bind ?_
 simp only[List.zipIdx_cons,List.zipIdx_nil,List.forIn_cons,List.forIn_nil]
 refine wpAny_bind (wpAny_bind (wpAny_onRaise ?_));show wpAny _ _ (Builtin.SmallTypes.nextOf (.ref i1) >>= _) _ _ _
 refine wpAny_bind (zbQ (h1.extBut s1.extBut D.cz) (ha.extBut s1.extBut haz.1) hx fun g2 j2 s2=>wpAny_pure ?_)
 have t2:IsPair g2 TO p0 p1:=s2.extBut _ _ D.bc (s1.extBut _ _ D.bz hto)
 refine wpAny_bind (wpAny_seqItems t2 rfl (wpAny_bind (zev t2 fun g3 t3 s3=> ?_)))
 replace t3:IsPair g3 TO x p1:=t3
 refine wpAny_bind (wpAny_letGo (wpAny_pure ?_))
 refine wpAny_bind (wpAny_bind (wpAny_onRaise ?_));show wpAny _ _ (Builtin.SmallTypes.nextOf (.ref i2) >>= _) _ _ _
 have e3:∀c o,c≠z->c≠i1->c≠TO->s.heap.get? c=some o->g3.get? c=some o:=fun c o c1 c2 c3 e=>s3.extBut _ _ c3 (s2.extBut _ _ c2 (s1.extBut _ _ c1 e))
 have h23:g3.IsTupleIter i2 b i:=let ⟨o,ho,r⟩:=h2;⟨o,e3 _ _ D.dz D.cd.symm D.bd.symm ho,r⟩
 have hb3:g3.IsTuple b ys:=let ⟨o,ho,r⟩:=hb;⟨o,e3 _ _ hbz.1 bi1 hbz.2 ho,r⟩
 refine wpAny_bind (zbQ h23 hb3 hy fun g4 j4 s4=>wpAny_pure ?_)
 have t4:IsPair g4 TO x p1:=s4.extBut _ _ D.bd t3
 refine wpAny_bind (wpAny_seqItems t4 rfl (wpAny_bind (zev t4 fun g5 t5 s5=> ?_)))
 replace t5:IsPair g5 TO x y:=t5
 refine wpAny_bind (wpAny_letGo (wpAny_pure (wpAny_pure ?_)))
 refine wpAny_bind (wpAny_seqItems t5 rfl (wpAny_bind (wpAny_newTuple ?_)))
 have z5:g5.objs.size=s.heap.objs.size:=by rw[s5.1,s4.1,s3.1,s2.1,s1.1]
 have e5:∀c o,c≠z->c≠TO->c≠i1->c≠i2->s.heap.get? c=some o->g5.get? c=some o:=fun c o c1 c2 c3 c4 e=>s5.extBut _ _ c2 (s4.extBut _ _ c4 (e3 c o c1 c3 c2 e))
 have k5:IsZip g5 z TI TO .ellipsis:=s5.extBut _ _ D.bz.symm (s4.extBut _ _ D.dz.symm (s3.extBut _ _ D.bz.symm (s2.extBut _ _ D.cz.symm k1)))
 have m1:g5.IsTupleIter i1 a (i+1):=((j2.extBut s3.extBut D.bc.symm).extBut s4.extBut D.cd).extBut s5.extBut D.bc.symm
 have m2:g5.IsTupleIter i2 b (i+1):=j4.extBut s5.extBut D.bd.symm
 have zlt:z<g5.objs.size:=Heap.lt_size k5
 show wpAny _ _ (Builtin.SmallTypes.ownedTupleHandOut (.ref z) (.ref g5.objs.size) >>= _) _ _ _
 refine wpAny_bind ?_
 unfold Builtin.SmallTypes.ownedTupleHandOut
 have k6:IsZip (g5.push {cls:=.type "tuple",data:=.seq #[x,y]}) z TI TO .ellipsis:=Heap.get?_push_of_some _ k5
 refine wpAny_bind (wpAny_setField_rec k6 (by simp) fun g7 k7 s7=> ?_)
 replace k7:IsZip g7 z TI TO (rawInt g5.objs.size):=k7
 refine wpAny_setField_rec k7 (by simp) fun g8 k8 s8=> ?_
 replace k8:IsZip g8 z TI TO (rawInt g5.objs.size):=k8
 have up:∀c o,c≠z->g5.get? c=some o->g8.get? c=some o:=fun c o c1 e=>s8.extBut _ _ c1 (s7.extBut _ _ c1 (Heap.get?_push_of_some _ e))
 have t8:IsPair g8 g5.objs.size x y:=s8.extBut _ _ (Nat.ne_of_gt zlt) (s7.extBut _ _ (Nat.ne_of_gt zlt) (Heap.get?_push_size _ rfl))
 rw[z5] at k8 t8
 refine wpAny_pure ⟨_,rfl,wpAny_pure ?_⟩
 show Q (some (.ref g5.objs.size)) _
 rw[z5]
 exact q g8 k8 (up _ _ D.az (e5 _ _ D.az D.ab D.ac D.ad hti)) (up _ _ D.bz t5) (let ⟨o,ho,r⟩:=m1;⟨o,up _ _ D.cz ho,r⟩) (let ⟨o,ho,r⟩:=m2;⟨o,up _ _ D.dz ho,r⟩) t8 fun c o c1 c2 c3 c4 e=>up c o c1 (e5 c o c1 c2 c3 c4 e)
theorem zgP {Q:Option Value->Shared->Prop}(hh:A.in1.handled=none)(D:ZipNe z TI TO i1 i2)(S:ZipT s.heap z TI TO i1 i2 a b i)(ha:s.heap.IsTuple a xs)(hb:s.heap.IsTuple b ys)(haz:a≠z/\a≠TO)(hbz:b≠z/\b≠TO)(hend:xs[i]? =none∨ys[i]? =none)
  (q:∀h',(∀c o,c≠z->c≠TO->c≠i1->c≠i2->s.heap.get? c=some o->h'.get? c=some o)->Q none {s with heap:=h'}):
  wpAny (model prog w) A (pyNext (.ref z)) Q E s:=by
 obtain⟨hz,hti,⟨p0,p1,hto⟩,h1,h2⟩:=S
 have bi1:=zfV hb h1
 have hT:s.TypeIs (.ref z) "zip" :=⟨_,hz,rfl⟩
 unfold pyNext
 refine wpAny_bind (wpAny_attempt (wpAny_callSpecial?_slot (name:=Str.ofString "__next__") hT F.slot_zip_next (wpAny_call_entry F.slot_zip_next hT F.entry_zip_next ?_ (F.args_zip_next_1 _))))
 show wpAny _ _ (field (.ref z) 2 >>= _) _ _ _
 refine wpAny_bind (wpAny_field hz rfl (x:=.bool false) rfl ?_);show wpAny _ _ (field (.ref z) 3 >>= _) _ _ _
 refine wpAny_bind (wpAny_field hz rfl (x:=.ref TI) rfl (wpAny_bind (wpAny_seqItems hti rfl ?_)))
 show wpAny _ _ (Builtin.SmallTypes.ownedTupleIsFree (.ref z) >>= _) _ _ _
 refine wpAny_bind ?_
 unfold Builtin.SmallTypes.ownedTupleIsFree
 refine wpAny_bind (wpAny_field hz rfl (x:=.none) rfl (wpAny_pure ?_));simp only[if_true]
 refine wpAny_bind (wpAny_rule (wpAny_bind (wpAny_field hz rfl (x:=.ref TO) rfl (wpAny_bind (wpAny_setField_rec hz (by simp) fun g1 k1 s1=> ?_)))))
 replace k1:IsZip g1 z TI TO .ellipsis:=k1
 refine wpAny_bind ?_
 simp only[List.zipIdx_cons,List.zipIdx_nil,List.forIn_cons,List.forIn_nil]
 have fin:∀(g:Heap) (e:Addr),IsZip g z TI TO .ellipsis->(∀c o,c≠z->c≠TO->c≠i1->c≠i2->s.heap.get? c=some o->g.get? c=some o)->(∃o,g.get? e=some o/\o.cls=.type "StopIteration")->
   wpAny (model prog w) A.in1 (setField (.ref z) 0 .none) (fun _ s'=>wpAny (model prog w) A (do if<-isInstance (.ref e) (.type "StopIteration") then pure none else throw (Value.ref e)) Q E s') (fun e' s'=>wpAny (model prog w) A (do if<-isInstance e' (.type "StopIteration") then pure none else throw e') Q E s') {s with heap:=g}:=by
  rintro g e kz kk ⟨oe,f1,f2⟩
  have ez:e≠z:=fun y=>by subst y;rw[kz] at f1;cases f1;injection f2 with z2;revert z2;decide
  refine wpAny_setField_rec kz (by simp) fun g' _ s'=> ?_
  refine wpAny_bind (wpAny_isInstance (T:= "StopIteration") (b:=true) ⟨oe,s'.extBut _ _ ez f1,f2⟩ isSubtype_stop ?_)
  exact wpAny_pure (q g' fun c o c1 c2 c3 c4 y=>s'.extBut _ _ c1 (kk c o c1 c2 c3 c4 y))
 refine wpAny_bind (wpAny_bind (wpAny_onRaise ?_));show wpAny _ _ (Builtin.SmallTypes.nextOf (.ref i1) >>= _) _ _ _
 cases hx:xs[i]? with
 |none=>
  refine wpAny_bind (zdY hh (h1.extBut s1.extBut D.cz) (ha.extBut s1.extBut haz.1) hx fun g2 e s2 he=> ?_)
  exact fin g2 e (s2 _ _ D.cz.symm k1) (fun c o c1 _ c3 _ y=>s2 _ _ c3 (s1.extBut _ _ c1 y)) he
 |some x=>
  have hy:ys[i]? =none:=by rcases hend with h|h;rw[hx] at h;cases h;exact h
  refine wpAny_bind (zbQ (h1.extBut s1.extBut D.cz) (ha.extBut s1.extBut haz.1) hx fun g2 j2 s2=>wpAny_pure ?_)
  have t2:IsPair g2 TO p0 p1:=s2.extBut _ _ D.bc (s1.extBut _ _ D.bz hto)
  refine wpAny_bind (wpAny_seqItems t2 rfl (wpAny_bind (zev t2 fun g3 t3 s3=> ?_)))
  refine wpAny_bind (wpAny_letGo (wpAny_pure ?_))
  refine wpAny_bind (wpAny_bind (wpAny_onRaise ?_));show wpAny _ _ (Builtin.SmallTypes.nextOf (.ref i2) >>= _) _ _ _
  have e3:∀c o,c≠z->c≠i1->c≠TO->s.heap.get? c=some o->g3.get? c=some o:=fun c o c1 c2 c3 e=>s3.extBut _ _ c3 (s2.extBut _ _ c2 (s1.extBut _ _ c1 e))
  have h23:g3.IsTupleIter i2 b i:=let ⟨o,ho,r⟩:=h2;⟨o,e3 _ _ D.dz D.cd.symm D.bd.symm ho,r⟩
  have hb3:g3.IsTuple b ys:=let ⟨o,ho,r⟩:=hb;⟨o,e3 _ _ hbz.1 bi1 hbz.2 ho,r⟩
  refine wpAny_bind (zdY hh h23 hb3 hy fun g4 e s4 he=> ?_)
  exact fin g4 e (s4 _ _ D.dz.symm (s3.extBut _ _ D.bz.symm (s2.extBut _ _ D.cz.symm k1))) (fun c o c1 c2 c3 c4 y=>s4 _ _ c4 (e3 c o c1 c3 c2 y)) he
noncomputable abbrev zT1 (h:Heap)(l1:Addr):Heap:=h.push {cls:=.type "tuple_iterator",data:=.fields #[.ref l1,.int 0 0]}
noncomputable abbrev zT2 (h:Heap)(l1 l2:Addr):Heap:=(zT1 h l1).push {cls:=.type "tuple_iterator",data:=.fields #[.ref l2,.int 0 0]}
noncomputable abbrev zT3 (h:Heap)(l1 l2:Addr):Heap:=(zT2 h l1 l2).push {cls:=.type "tuple",data:=.seq #[.ref h.objs.size,.ref (zT1 h l1).objs.size]}
noncomputable abbrev zT4 (h:Heap)(l1 l2:Addr):Heap:=(zT3 h l1 l2).push {cls:=.type "tuple",data:=.seq #[.none,.none]}
noncomputable abbrev zT5 (h:Heap)(l1 l2:Addr):Heap:=(zT4 h l1 l2).push {cls:=.type "zip",data:=.fields #[.none,.bool false,.bool false,.ref (zT2 h l1 l2).objs.size,.ref (zT3 h l1 l2).objs.size]}
theorem zgQ (l1 l2:Addr)(xs ys:Array Value):
  Meets (Builtin.«zip.__new__» ⟨[.type "zip",.ref l1,.ref l2],[]⟩) (fun _ R s=>s.heap.IsTuple l1 xs/\s.heap.IsTuple l2 ys/\R (.ok (.ret (.ref (zT4 s.heap l1 l2).objs.size))) {s with heap:=zT5 s.heap l1 l2}):=
 .of_wp fun prog w A R s h=>by
  obtain⟨hp,g,d,tk,os⟩:=s;obtain⟨hl1,hl2,h⟩:=h
  have hsub:=sub_zip
  have hL1:Heap.IsTuple (Shared.heap ⟨hp,g,d,tk,os⟩) l1 xs:=hl1
  have hL2:Heap.IsTuple (Shared.heap ⟨hp.push {cls:=.type "tuple_iterator",data:=.fields #[.ref l1,.int 0 0]},g,d,tk,os⟩) l2 ys:=Heap.IsTuple.push hl2 _
  wp_walk using wpAny_pyIter_tuple hL1,wpAny_pyIter_tuple hL2
  exact⟨_,rfl,h⟩
theorem zfX {l1 l2:Addr}{Q:Value->Shared->Prop}(hl1:s.heap.IsTuple l1 xs)(hl2:s.heap.IsTuple l2 ys)
  (h:∀h',ZipT h' (s.heap.objs.size+4) (s.heap.objs.size+2) (s.heap.objs.size+3) s.heap.objs.size (s.heap.objs.size+1) l1 l2 0->(∀c o,s.heap.get? c=some o->h'.get? c=some o)->Q (.ref (s.heap.objs.size+4)) {s with heap:=h'}):
  wpAny (model prog w) A (call (.type "zip") [.ref l1,.ref l2]) Q E s:=by
 refine callType_new F.called_zip (by decide) (F.typeCall_zip_2 _ _) (F.newCall_zip_2 _ _) (fun obj=>F.args_object_init_3 obj _ _) F.entry_zip_new (zgQ l1 l2 xs ys) ⟨hl1,hl2, ?_⟩
 have z1:(zT1 s.heap l1).objs.size=s.heap.objs.size+1:=Heap.size_push ..
 have z2:(zT2 s.heap l1 l2).objs.size=s.heap.objs.size+2:=by rw[Heap.size_push,z1]
 have z3:(zT3 s.heap l1 l2).objs.size=s.heap.objs.size+3:=by rw[Heap.size_push,z2]
 have z4:(zT4 s.heap l1 l2).objs.size=s.heap.objs.size+4:=by rw[Heap.size_push,z3]
 have p1:∀{g:Heap} {c o u},g.get? c=some o->(g.push u).get? c=some o:=fun e=>Heap.get?_push_of_some _ e
 have g5:(zT5 s.heap l1 l2).get? (zT4 s.heap l1 l2).objs.size=some _:=Heap.get?_push_size _ rfl
 have g4:(zT5 s.heap l1 l2).get? (zT3 s.heap l1 l2).objs.size=some _:=p1 (Heap.get?_push_size _ rfl)
 have g3:(zT5 s.heap l1 l2).get? (zT2 s.heap l1 l2).objs.size=some _:=p1 (p1 (Heap.get?_push_size _ rfl))
 have g2:(zT5 s.heap l1 l2).get? (zT1 s.heap l1).objs.size=some _:=p1 (p1 (p1 (Heap.get?_push_size _ rfl)))
 have g1:(zT5 s.heap l1 l2).get? s.heap.objs.size=some _:=p1 (p1 (p1 (p1 (Heap.get?_push_size _ rfl))))
 show _/\_
 rw[z2,z3,z4] at g5
 rw[z1,z2] at g3
 rw[z3] at g4
 rw[z1] at g2
 rw[z4]
 exact⟨⟨_,g5,rfl⟩,h _ ⟨g5,g3,⟨_,_,g4⟩,⟨_,g1,rfl,rfl⟩,⟨_,g2,rfl,rfl⟩⟩ fun c o x=>p1 (p1 (p1 (p1 (p1 x))))⟩
end
noncomputable def Itz (K:PySem.W.Frag)(a b:Addr):It:=
 ⟨fun i H=>∃xs ys x y,SqT K H a xs/\SqT K H b ys/\xs[i]? =some x/\ys[i]? =some y,fun i H v H'=>∃t x y,H t=none/\v=.ref t/\H'=upd H t (.tup [x,y])/\∀xs ys,SqT K H a xs->SqT K H b ys->xs[i]? =some x/\ys[i]? =some y,
  fun i H=>∃xs ys,SqT K H a xs/\SqT K H b ys/\(xs[i]? =none∨ys[i]? =none)⟩
theorem zeV {z TI TO i1 i2:Addr}{h:Heap}{a b:Addr}{i:Nat}(S:ZipT h z TI TO i1 i2 a b i)(h1:TI≠TO)(h2:i1≠i2):ZipNe z TI TO i1 i2:=by
 obtain⟨hz,hti,⟨p0,p1,hto⟩,⟨o1,e1,c1,d1⟩,⟨o2,e2,c2,d2⟩⟩:=S
 refine⟨fun e=> ?_,fun e=> ?_,fun e=> ?_,fun e=> ?_,h1,fun e=> ?_,fun e=> ?_,fun e=> ?_,fun e=> ?_,h2⟩
 ·have q:=(show h.get? TI=_ from hti);rw[e,show h.get? z=_ from hz] at q;injection q with q;injection q with q1;injection q1 with q2;revert q2;decide
 ·have q:=(show h.get? TO=_ from hto);rw[e,show h.get? z=_ from hz] at q;injection q with q;injection q with q1;injection q1 with q2;revert q2;decide
 ·rw[e,hz] at e1;cases e1;injection c1 with q2;revert q2;decide
 ·rw[e,hz] at e2;cases e2;injection c2 with q2;revert q2;decide
 ·rw[<-e,hti] at e1;cases e1;injection c1 with q2;revert q2;decide
 ·rw[<-e,hti] at e2;cases e2;injection c2 with q2;revert q2;decide
 ·rw[<-e,hto] at e1;cases e1;injection c1 with q2;revert q2;decide
 ·rw[<-e,hto] at e2;cases e2;injection c2 with q2;revert q2;decide
theorem SqT.fpNe {X:Cx}{pins:List (Addr×Obj)}{σ:St}{H:Hp}{s:Shared}{t c:Addr}{zs:List V}(I:Inv X pins σ H s)(hq:SqT X.K H t zs)(f:FpOk X pins H c):t≠c:=by
 rintro rfl
 rcases hq with (h|⟨o,h⟩)|h
 ·rw[f.1] at h;cases h
 ·rw[f.1] at h;cases h
 ·obtain ⟨o,_,_,hl,_⟩:=h
  have e:=I.ok.mod.kin _ _ hl
  rcases f.2.2.2.1 with z|z
  ·exact I.ok.noex _ _ e z
  ·exact absurd (Nat.lt_of_lt_of_le (Heap.lt_size e) (Nat.le_trans I.ok.bsz z)) (Nat.lt_irrefl _)
theorem zfY {P:Program}{w:World}{K:PySem.W.Frag}{els:List Expr}{kx}{tp:Pos}(a b z TI TO i1 i2:Addr)(h1:TI≠TO)(h2:i1≠i2):Turn P w K (.Tuple els kx tp) (Itz K a b) [z,TI,TO,i1,i2] z (fun i h=>ZipT h z TI TO i1 i2 a b i) where
 mem:=by simp
 obj:=fun i h st c hc=>by
  obtain⟨hz,hti,⟨p0,p1,hto⟩,⟨o1,e1,c1,d1⟩,⟨o2,e2,c2,d2⟩⟩:=st
  simp only[List.mem_cons,List.not_mem_nil,or_false] at hc
  rcases hc with rfl|rfl|rfl|rfl|rfl
  ·exact⟨_,hz,fun v q=>by cases q⟩
  ·exact⟨_,hti,fun v q=>by cases q⟩
  ·exact⟨_,hto,fun v q=>by cases q⟩
  ·exact⟨_,e1,fun v q=>by rw[d1] at q;cases q⟩
  ·exact⟨_,e2,fun v q=>by rw[d2] at q;cases q⟩
 keep:=fun i h h' st k=>by
  obtain⟨hz,hti,⟨p0,p1,hto⟩,⟨o1,e1,r1⟩,⟨o2,e2,r2⟩⟩:=st
  exact⟨k _ (by simp) _ hz,k _ (by simp) _ hti,⟨p0,p1,k _ (by simp) _ hto⟩,⟨o1,k _ (by simp) _ e1,r1⟩,⟨o2,k _ (by simp) _ e2,r2⟩⟩
 item:=by
  intro X hP hw hK hc i pins s σ H E I hf st hg
  subst hP hw hK
  obtain⟨xs,ys,x,y,hqa,hqb,hx,hy⟩:=hg
  obtain⟨its,rv,p,_⟩:=I.tuple hqa
  obtain⟨jts,rw',p',_⟩:=I.tuple hqb
  obtain⟨u,hu,ru⟩:=rv.get hx
  obtain⟨v,hv,rvv⟩:=rw'.get hy
  have D:=zeV st h1 h2
  obtain⟨hz,hti,⟨p0,p1,hto⟩,hi1,hi2⟩:=id st
  have apart:∀{t:Addr} {zs:List V},SqT X.K H t zs->t≠z/\t≠TO:=fun hq=>⟨SqT.fpNe I hq (hf z (by simp)),SqT.fpNe I hq (hf TO (by simp))⟩
  refine zfW D st p p' (apart hqa) (apart hqb) (by simpa using hu) (by simpa using hv) fun g k1 k2 k3 k4 k5 k6 k7=> ?_
  refine⟨_,rfl,wpAny_letOwnedTupleGo_zip k1 fun g2 l1 s2=> ?_⟩
  have hne0:s.heap.objs.size≠z:=Nat.ne_of_gt (Heap.lt_size hz)
  have keep:∀c o,c∉[z,TI,TO,i1,i2]->s.heap.get? c=some o->g2.get? c=some o:=fun c o hc e=>s2.extBut _ _ (fun q=>hc (by simp[q])) (k7 c o (fun q=>hc (by simp[q])) (fun q=>hc (by simp[q])) (fun q=>hc (by simp[q])) (fun q=>hc (by simp[q])) e)
  refine⟨.ref s.heap.objs.size,_,I.turnedT (h':=g2) (t':=s.toks) (xs:=[x,y]) hf keep (.cons ru (.cons rvv .nil)) ⟨_,s2.extBut _ _ hne0 k6,rfl,⟨_,rfl⟩,rfl,rfl⟩ (by show 2<=sizeLine;decide),rfl,
   ⟨_,x,y,I.hok.fresh (Nat.le_refl _),rfl,rfl,fun as bs ha hb=>⟨by rw[I.tuple_inj ha hqa];exact hx,by rw[I.tuple_inj hb hqb];exact hy⟩⟩,⟨l1,s2.extBut _ _ D.az k2,⟨_,_,s2.extBut _ _ D.bz k3⟩,k4.extBut s2.extBut D.cz,k5.extBut s2.extBut D.dz⟩,fun c hc=> ?_⟩
  have:c<s.heap.objs.size:=by
   obtain⟨o1,e1,_⟩:=hi1
   obtain⟨o2,e2,_⟩:=hi2
   simp only[List.mem_cons,List.not_mem_nil,or_false] at hc
   rcases hc with rfl|rfl|rfl|rfl|rfl
   ·exact Heap.lt_size hz
   ·exact Heap.lt_size hti
   ·exact Heap.lt_size hto
   ·exact Heap.lt_size e1
   ·exact Heap.lt_size e2
  rw[zak (Nat.ne_of_lt this)]
  exact (hf c hc).1
 done:=by
  intro X hP hw hK hc i pins s σ H E I hf st hg
  subst hP hw hK
  obtain⟨xs,ys,hqa,hqb,hx⟩:=hg
  obtain⟨its,rv,p,_⟩:=I.tuple hqa
  obtain⟨jts,rw',p',_⟩:=I.tuple hqb
  have D:=zeV st h1 h2
  have apart:∀{t:Addr} {zs:List V},SqT X.K H t zs->t≠z/\t≠TO:=fun hq=>⟨SqT.fpNe I hq (hf z (by simp)),SqT.fpNe I hq (hf TO (by simp))⟩
  refine zgP (I.ok.hd hc) D st p p' (apart hqa) (apart hqb) (hx.elim (fun q=>.inl (by simpa using rv.none_of q)) fun q=>.inr (by simpa using rw'.none_of q)) fun g k=>⟨rfl, ?_⟩
  exact I.turnedN (t':=s.toks) hf fun c o hc e=>k c o (fun q=>hc (by simp[q])) (fun q=>hc (by simp[q])) (fun q=>hc (by simp[q])) (fun q=>hc (by simp[q])) e
 self:=fun _ _ _ _ _ st h=>wpAny_pyIter_zip st.z h
section
variable {X:Cx}
noncomputable def iZip (K:PySem.W.Frag)(ta:TA):TI:=fun σ H R=>ta σ H fun vs H1=>∃a b,vs=[.ref a,.ref b]/\(∃xs,SqT K H1 a xs)/\(∃ys,SqT K H1 b ys)/\R (Itz K a b) H1
theorem zhG {els:List Expr}{kx}{tp:Pos}{l l':Expr}{ta:TA}{p pos:Pos}(hg:Gl X "zip")(hm:X.mg "zip" =none)(ha:PA X [l,l'] ta)(hs:starEach [l,l'] X.env=[(false,eval l X.env),(false,eval l' X.env)]:=by rfl)(hs2:starEach [l'] X.env=[(false,eval l' X.env)]:=by rfl):
  PI X (.Tuple els kx tp) (.Call (.Name "zip" p) [l,l'] [] pos) (iZip X.K ta):=by
 intro pins s σ H R I h
 refine Call_ (zck I hg hm boot_zip (PyProof.Rows.callWith_type1 (thn (ha pos pins s σ H _ I h) fun us s1 zq=> ?_) (by rw[hs,hs2]) (by rw[hs2];rfl)))
 obtain⟨vs,H1,I1,r1,q1⟩:=zq
 obtain⟨a,b,rfl,⟨xs,hqa⟩,⟨ys,hqb⟩,q⟩:=q1
 obtain⟨u,v,rfl,ru,rv⟩:=zfG r1
 cases (show u=Value.ref a from ru)
 cases (show v=Value.ref b from rv)
 obtain⟨its,_,p1,_⟩:=I1.tuple hqa
 obtain⟨jts,_,p2,_⟩:=I1.tuple hqb
 refine zfX (show s1.heap.IsTuple a its.toArray from p1) (show s1.heap.IsTuple b jts.toArray from p2) fun h' S hk=>wpAny_pyIter_zip S.z ?_
 have I2:Inv X pins σ H1 {s1 with heap:=h'}:=I1.kept (t':=s1.toks) hk
 refine⟨_,_,_,_,H1,rfl,I2,zfY a b _ _ _ _ _ (Nat.ne_of_lt (Nat.lt_succ_self _)) (Nat.ne_of_lt (Nat.lt_succ_self _)),S,fun c hc=> ?_,q⟩
 have:s1.heap.objs.size<=c:=by
  simp only[List.mem_cons,List.not_mem_nil,or_false] at hc
  rcases hc with rfl|rfl|rfl|rfl|rfl<;>first|exact Nat.le_refl _|exact Nat.le_add_right _ _|exact Nat.le_succ _|exact Nat.le_succ_of_le (Nat.le_add_right _ _)
 exact I1.fpOk this (I1.hok.fresh this)
end
section
variable {X:Cx}{e:Expr}{te:TE}{p2 pos:Pos}
end
section
variable {X:Cx}
end
theorem zcN (f:Nat->Bool):∀(bs:List Bool),(∀i,i<bs.length->f i=bs.getD i false)->(List.range bs.length).all f=bs.all id:=by
 intro bs h
 rw[Bool.eq_iff_iff,List.all_eq_true,List.all_eq_true]
 constructor
 ·intro q b hb
  obtain⟨i,hi,e⟩:=List.getElem_of_mem hb
  have:=q i (List.mem_range.mpr hi)
  rw[h i hi,List.getD_eq_getElem?_getD,List.getElem?_eq_getElem hi,e] at this
  exact this
 ·intro q i hi
  have hi':=List.mem_range.mp hi
  rw[h i hi',List.getD_eq_getElem?_getD,List.getElem?_eq_getElem hi']
  exact q _ (List.getElem_mem hi')
section
variable {X:Cx}
noncomputable def rIsi (K:PySem.W.Frag):List V->Hp->VK->Prop:=fun xs H Q=>∃x T t b,xs=[x,.ty T]/\TyOf K H x t/\PySem.W.kitOne K t (.type T)=some b/\Q (.bl b) H
theorem za3:zcm X (.builtin "isinstance") (rIsi X.K):=by
 intro pins s σ H xs us Q I rs h
 obtain⟨x,T,t,b,rfl,ty,e,q⟩:=h
 obtain⟨u,c,rfl,ru,rc⟩:=zfG rs
 cases (show c=Value.type T from rc)
 exact zfI I ru ty e fun tk=>⟨.bl b,H,I.tok tk,rfl,q⟩
noncomputable def rAll:List V->Hp->VK->Prop:=fun xs H Q=>∃(a:Addr) (bs:List Bool),xs=[.ref a]/\H a=some (.lst (bs.map V.bl))/\Q (.bl (bs.all id)) H
theorem zeW (hc:X.calm=true):zcm X (.builtin "all") rAll:=by
 intro pins s σ H xs us Q I rs h
 obtain⟨a,bs,rfl,ha,q⟩:=h
 obtain⟨u,rfl,ru⟩:=zfg rs
 cases (show u=Value.ref a from ru)
 obtain⟨hz,its,n,rv,ho⟩:=(show ObjOk X.prog X.w H s.heap a (.lst (bs.map V.bl)) from I.hok a _ ha)
 have hl:s.heap.IsList a its.toArray:=⟨_,ho,rfl,n,rfl⟩
 have hh:X.A.in1.handled=none:=I.ok.hd hc
 have hlen:its.length=bs.length:=by rw[<-rv.length,List.length_map]
 have hne:a≠s.heap.objs.size:=Nat.ne_of_lt (Heap.lt_size ho)
 have hit:∀(i:Nat) v,its.toArray[i]? =some v->v=Value.bool (bs.getD i false):=fun i v e=>by
  have e':its[i]? =some v:=by simpa using e
  have hi:i<bs.length:=by rw[<-hlen];exact (List.getElem?_eq_some_iff.mp e').1
  obtain⟨u,hu,ru⟩:=rv.get (i:=i) (x:=V.bl bs[i]) (by rw[List.getElem?_map,List.getElem?_eq_getElem hi];rfl)
  rw[e'] at hu;cases hu
  cases (show v=Value.bool bs[i] from ru)
  rw[List.getD_eq_getElem?_getD,List.getElem?_eq_getElem hi]
  rfl
 refine call_all_walk (wpAny_pyIter_list hl ⟨s.heap.objs.size,_,_,_,_,_,fun i=>bs.getD i false,rfl,Walks.list hh _ a hne its.toArray,⟨⟨_,Heap.get?_push_size _ rfl,rfl,rfl⟩,hl.push _⟩, ?_,fun h' tk hk=> ?_⟩)
 ·intro i v s' Q' E' hP hQ
  rw[hit i v hP]
  exact wpAny_truthy_bool hQ
 ·refine ⟨.bl (bs.all id),H,I.kept (t':=tk) fun b o e=>hk b o ?_ (Heap.get?_push_of_some _ e), ?_,q⟩
  ·exact fun hm=>absurd (List.mem_singleton.mp hm) (Nat.ne_of_lt (Heap.lt_size e))
  ·show Value.bool _=Value.bool _
   have hs:its.toArray.size=bs.length:=by simpa using hlen
   rw[hs,zcN _ bs fun i _=>rfl]
end
mutual
inductive Is (H:Hp):V->PyData->Prop
 |non:Is H .non .none
 |bl (b:Bool):Is H (.bl b) (.bool b)
 |int (i:Int):Is H (.int i) (.int i)
 |str (x:Str):Is H (.str x) (.str x)
 |tup {a:Addr} {vs:List V} {ds:List PyData}:H a=some (.tup vs)->IsAll H vs ds->Is H (.ref a) (.tuple ds)
 |lst {a:Addr} {vs:List V} {ds:List PyData}:H a=some (.lst vs)->IsAll H vs ds->Is H (.ref a) (.list ds)
inductive IsAll (H:Hp):List V->List PyData->Prop
 |nil:IsAll H [] []
 |cons {v:V} {vs:List V} {d:PyData} {ds:List PyData}:Is H v d->IsAll H vs ds->IsAll H (v::vs) (d::ds)
end
mutual
theorem Is.same {H H':Hp}(e:Same H H'):∀{v:V} {d:PyData},Is H v d->Is H' v d
 |_,_,.non=>.non
 |_,_,.bl b=>.bl b
 |_,_,.int i=>.int i
 |_,_,.str x=>.str x
 |_,_,.tup h r=>.tup (e _ _ h) (IsAll.same e r)
 |_,_,.lst h r=>.lst (e _ _ h) (IsAll.same e r)
theorem IsAll.same {H H':Hp}(e:Same H H'):∀{vs:List V} {ds:List PyData},IsAll H vs ds->IsAll H' vs ds
 |_,_,.nil=>.nil
 |_,_,.cons h r=>.cons (Is.same e h) (IsAll.same e r)
end
theorem IsAll.ints {H:Hp}:∀ns:List Int,IsAll H (ns.map V.int) (ns.map PyData.int)
 |[]=>.nil
 |n::r=>.cons (.int n) (IsAll.ints r)
theorem Is.ints {H:Hp}{a:Addr}{ns:List Int}(h:H a=some (.tup (ns.map V.int))):Is H (.ref a) (.tuple (ns.map PyData.int)):=.tup h (IsAll.ints ns)
section
variable {X:Cx}{pins:List (Addr×Obj)}{σ:St}{H:Hp}{s:Shared}
mutual
theorem Inv.reads (I:Inv X pins σ H s):∀{v:V} {d:PyData} {u:Value},Is H v d->RelV v u->∃as,Reads s.heap u d as
 |_,_,_,.non,r=>by cases (show _=Value.none from r);exact⟨_,.none⟩
 |_,_,_,.bl b,r=>by cases (show _=Value.bool b from r);exact⟨_,.bool b⟩
 |_,_,_,.int i,r=>by obtain⟨t,rfl⟩:=r;exact⟨_,.int i t⟩
 |_,_,_,.str x,r=>by obtain⟨t,rfl⟩:=r;exact⟨_,.str x t⟩
 |_,_,_,.tup (a:=a) (vs:=vs) h al,r=>by
  cases (show _=Value.ref a from r)
  obtain⟨_,its,rv,o,ho,hc,⟨n,hd⟩,_⟩:=(show ObjOk X.prog X.w H s.heap a (.tup vs) from I.hok a _ h)
  obtain⟨as,q⟩:=Inv.readsAll I al rv
  exact⟨as,.tuple ho hc hd (by simpa using q)⟩
 |_,_,_,.lst (a:=a) (vs:=vs) h al,r=>by
  cases (show _=Value.ref a from r)
  obtain⟨_,its,n,rv,ho⟩:=(show ObjOk X.prog X.w H s.heap a (.lst vs) from I.hok a _ h)
  obtain⟨as,q⟩:=Inv.readsAll I al rv
  exact⟨_,.list ho rfl rfl (by simpa using q)⟩
theorem Inv.readsAll (I:Inv X pins σ H s):∀{vs:List V} {ds:List PyData} {us:List Value},IsAll H vs ds->Vals vs us->∃as,ReadsAll s.heap us ds as
 |_,_,_,.nil,.nil=>⟨_,.nil⟩
 |_,_,_,.cons h al,.cons r rs=>by
  obtain⟨as,q⟩:=Inv.reads I h r
  obtain⟨bs,q'⟩:=Inv.readsAll I al rs
  exact⟨_,.cons q q'⟩
end
noncomputable def rEqD:R2:=fun x y H Q=>∃d e,Is H x d/\Is H y e/\SeqAt.shaped d=true/\SeqAt.shaped e=true/\Q (.bl (PyData.eqv d e)) H
theorem zhl (hu:X.A.units+64<cLine):OpR X (compareOp .Eq) rEqD:=by
 intro pins s σ H x y v u Q I rx ry h
 obtain⟨d,e,hd,he,sd,se,q⟩:=h
 obtain⟨as,ra⟩:=I.reads hd rx
 obtain⟨bs,rb⟩:=I.reads he ry
 exact eq_dataH ra rb sd se hu ⟨.bl _,H,I,rfl,q⟩
end
theorem zeX:∀ns:List Int,PyData.canLayAll0 (ns.map PyData.int)=true
 |[]=>rfl
 |_::r=>by simp[PyData.canLayAll0,PyData.canLay0,zeX r]
theorem zdZ:∀ns:List Int,PyData.depthAll (ns.map PyData.int)=0
 |[]=>rfl
 |_::r=>by simp[PyData.depthAll,PyData.depth,zdZ r]
theorem zb3 (ns:List Int):SeqAt.shaped (.tuple (ns.map PyData.int))=true:=by
 simp[SeqAt.shaped,PyData.canLay0,PyData.depth,zeX,zdZ]
theorem zeY:∀ns ms:List Int,PyData.eqvAll (ns.map PyData.int) (ms.map PyData.int)=decide (ns=ms)
 |[],[]=>by simp[PyData.eqvAll]
 |[],_::_=>by simp[PyData.eqvAll]
 |_::_,[]=>by simp[PyData.eqvAll]
 |a::r,b::t=>by
  simp only[List.map_cons,PyData.eqvAll,PyData.eqv,zeY r t]
  by_cases h:a=b<;>by_cases h':r=t<;>simp[h,h']
noncomputable def zfZ (sc:Scope)(N:List Str)(scope:Scope)(N':List Str)(n:Nat)(ix:List Nat):Bool:=
 scope.kind==.function&&scope.names.all (fun y=>y.2 != .cell)&&scope.names.all (fun y=>y.2 != .local||scope.names.lookup y.1==some .local)&&
 scope.names.all (fun y=>y.2 != .free||(sc.names.lookup y.1==some .cell||sc.names.lookup y.1==some .free))&&scope.names.all (fun y=>y.2 != .free||scope.names.lookup y.1 != some .local)&&
 N'.length==n+ix.length&&(List.range ix.length).all fun j=>match ix[j]?,N'[n+j]? with
  |some i,some x=>N[i]? ==some x&&scope.names.contains (x,.free)
  |_,_=>false
theorem CompScope.of {X:Cx}{sc:Scope}{N:List Str}{scope:Scope}{N':List Str}{n:Nat}{ix:List Nat}(h:zfZ sc N scope N' n ix=true)(hs:X.env.scope=sc)(hN:X.N=N):CompScope X scope N' n ix:=by
 unfold zfZ at h
 simp only[Bool.and_eq_true,List.all_eq_true] at h
 obtain⟨⟨⟨⟨⟨⟨h1,h2⟩,h3⟩,h4⟩,h5⟩,h6⟩,h7⟩:=h
 subst hs hN
 refine⟨eq_of_beq h1,fun y hy=>by simpa using h2 y hy,fun y hy hl=> ?_,fun y hy hf=> ?_,fun y hy hl=> ?_,eq_of_beq h6,fun j i e=> ?_⟩
 ·have:=h3 y hy
  rw[hl] at this
  simpa using this
 ·have:=h4 y hy
  rw[hf] at this
  simpa using this
 ·have:=h5 _ hy
  rw[hl] at this
  simp at this
 ·have hj:j<ix.length:=(List.getElem?_eq_some_iff.mp e).1
  have:=h7 j (List.mem_range.mpr hj)
  rw[e] at this
  cases hx:N'[n+j]? with
  |none=>rw[hx] at this;simp at this
  |some x=>
   rw[hx] at this
   simp only[Bool.and_eq_true] at this
   exact⟨x,rfl,eq_of_beq this.1,by simpa using this.2⟩
structure Cal (P:Program) (w:World) (K:PySem.W.Frag) (mg:Str->Option Value) (base:Heap) (k:Nat) (x:Str) (ps:List Str) (sp:Sp):Prop where
 ex:∃f fd,FnOk P w K mg base CX0 k f fd ps sp/\mg x=some (.ref f)/\PySem.W.keepIn K (.ref f)=true/\Binds K fd ps []
section
variable {X:Cx}{k:Nat}{ps:List Str}{sp:Sp}{x:Str}{p pos:Pos}{e:Expr}{es:List Expr}{t:TA}
theorem pe_cal (C:Cal X.prog X.w X.K X.mg X.base k x ps sp)(hr:Room k X.A)(hg:Gl X x)(ha:PA X (e::es) t)(hdb:(x==("__debug__" :Str))=false:=by decide)(he:starEach (e::es) X.env=(false,eval e X.env)::starEach es X.env:=by rfl)
  (hpl:(backTo pos (starEach es X.env)).any (·.1)=false:=by rfl):PE X (.Call (.Name x p) (e::es) [] pos) (fun σ H Q=>t σ H fun vs H1=>sp vs H1 Q E0):=by
 obtain⟨f,fd,F,hm,hk,hb⟩:=C.ex
 exact (zhA F hr hg hm hk hb .nil ziz ha hdb he hpl).mono fun σ H Q q=>by
  have e:(fun (vs:List V) (H1:Hp)=>sp (vs++[]) H1 Q E0)=fun vs H1=>sp vs H1 Q E0:=by funext vs H1;rw[List.append_nil]
  show t σ H fun vs H1=>sp (vs++[]) H1 Q E0
  rw[e]
  exact q
end
structure Top (mg:Str->Option Value):Prop where
 n_len:mg "len" =none
 n_tuple:mg "tuple" =none
 n_list:mg "list" =none
 n_range:mg "range" =none
 n_int:mg "int" =none
 n_bool:mg "bool" =none
 n_isinstance:mg "isinstance" =none
 n_all:mg "all" =none
 n_zip:mg "zip" =none
 n_enumerate:mg "enumerate" =none
 n_min:mg "min" =none
 n_sum:mg "sum" =none
 n_max:mg "max" =none
 n_abs:mg "abs" =none
 n_sorted:mg "sorted" =none
section
variable {X:Cx}
noncomputable def zhH:R2:=fun x y H Q=>∃a b xs ys,x=.ref a/\y=.ref b/\H a=some (.tup xs)/\H b=some (.tup ys)/\xs.length+ys.length<=sizeLine/\∀p H',Same H H'->H' p=some (.tup (xs++ys))->Q (.ref p) H'
theorem zcq:OpR X (binaryOp .Add) zhH:=by
 intro pins s σ H x y v u Q I rx ry h
 obtain⟨a,b,xs,ys,rfl,rfl,ha,hb,hz,q⟩:=h
 have ha':SqT X.K H a xs:=SqT.of ha
 have hb':SqT X.K H b ys:=SqT.of hb
 by_cases hx:xs=[]
 ·subst hx
  cases rx
  cases ry
  obtain⟨its,r1,p1,_⟩:=I.tuple ha'
  obtain⟨its2,r2,p2,_⟩:=I.tuple hb'
  cases r1
  obtain⟨⟨cls,dd,data,sl⟩,ho,hc,n,hd⟩:=id p1
  obtain⟨⟨cls2,dd2,data2,sl2⟩,ho2,hc2,n2,hd2⟩:=id p2
  simp only at hc hd hc2 hd2
  subst hc hd hc2 hd2
  exact concat_meets ⟨_,ho,rfl⟩ ⟨_,ho2,rfl⟩ noFill_tuple_add seq_tuple_add PySem.F.slot_tuple_add PySem.F.entry_tuple_add (PySem.F.args_tuple_add_2 _ _)
   (tuple_addW0 a b #[] its2.toArray n n2 dd dd2 sl sl2 rfl) ⟨ho,ho2,⟨.ref b,H,I,rfl,q b H (Same.refl H) hb⟩⟩
 ·refine zhB pins s σ H _ _ v u Q I rx ry ⟨a,b,xs,ys,rfl,rfl,ha',hb',hx,hz,fun hy=> ?_,fun _ p hp=> ?_⟩
  ·subst hy
   exact q a H (Same.refl H) (by rw[List.append_nil];exact ha)
  ·exact q p _ (zaa hp) zab
end
theorem zf0 {n:Nat}(h:n<=1000):n<sizeLine:=Nat.lt_of_le_of_lt h (by decide)
theorem zch (ns:List Int):(ns.map V.int).length=ns.length:=List.length_map ..
noncomputable def Keep (p q:Addr)(H H':Hp):Prop:=∀b o,H b=some o->b≠p->b≠q->H' b=some o
theorem Keep.trans {p q:Addr}{H H1 H2:Hp}(a:Keep p q H H1)(b:Keep p q H1 H2):Keep p q H H2:=fun c o h h1 h2=>b c o (a c o h h1 h2) h1 h2
noncomputable def num0 (n:Nat):List Int:=(List.range n).map fun (i:Nat)=>(i:Int)
theorem zaf {K:PySem.W.Frag}{a b:String}{r:Bool}(h:(if (Value.type a==Value.type b)=true then some true else if PySem.W.kitMeta b=true then (fastBuiltinMro a).map (·.contains (Value.type b)) else none)=some r):PySem.W.kitOne K (.type a) (.type b)=some r:=h
theorem zew {K:PySem.W.Frag}:PySem.W.kitOne K (.type "int") (.type "int")=some true:=zaf (by decide+kernel)
theorem zdf {K:PySem.W.Frag}:PySem.W.kitOne K (.type "bool") (.type "bool")=some true:=zaf (by decide+kernel)
theorem zf1 {X:Cx}{i j:Nat}{x y:Str}{px py pt:Pos}{kt:Nat}(hc:X.calm=true)(hN:X.N.Nodup)(hi:X.N[i]? =some x)(hj:X.N[j]? =some y)(hx:Loc X.env.scope x)(hy:Loc X.env.scope y)(fx:X.fn x=true∨X.env.scope.names.lookup x=some .local)(fy:X.fn y=true∨X.env.scope.names.lookup y=some .local):
  PG X (.Tuple [.Name x px,.Name y py] kt pt) (gTup X.K 2 (zep (zbr i) (zep (zbr j) gNil))):=zhf hc (zcg (zao hN hi hx fx) (zcg (zao hN hj hy fy) zfz))
theorem zgR {X:Cx}(K:PySem.W.Frag){i j:Nat}{x y:Str}{px py pt:Pos}{kt:Nat}(hK:X.K=K)(hc:X.calm=true)(hN:X.N.Nodup)(hi:X.N[i]? =some x)(hj:X.N[j]? =some y)(hx:Loc X.env.scope x)(hy:Loc X.env.scope y)(fx:X.fn x=true∨X.env.scope.names.lookup x=some .local)(fy:X.fn y=true∨X.env.scope.names.lookup y=some .local):
  PG X (.Tuple [.Name x px,.Name y py] kt pt) (gTup K 2 (zep (zbr i) (zep (zbr j) gNil))):=hK▸zhf hc (zcg (zao hN hi hx fx) (zcg (zao hN hj hy fy) zfz))
structure Def (K:PySem.W.Frag) (x:Str) (st:Stmt):Prop where
 ex:∃(f:Addr) (oc:Value) (od an:Option Addr) (kV doc pm cdv ct:Value) (osl:Array (Option Value)),PySem.W.nsIn K mainGlobals x=some (some (.ref f))/\
  K.lookup f=some ⟨oc,od,.func (PySem.W.fnOf x x (zaF st) (zat st) (zac st) .none kV doc pm an cdv ct),osl⟩/\PySem.W.codeIn K cdv x=true/\PySem.W.keepIn K (.ref f)=true
section
variable {K:PySem.W.Frag}{h:Heap}{mg:Str->Option Value}{x:Str}{st:Stmt}
theorem Def.of {f:Addr}{oc:Value}{od an:Option Addr}{kV doc pm cdv ct:Value}{osl:Array (Option Value)}(a:PySem.W.nsIn K mainGlobals x=some (some (.ref f)))
  (l:K.lookup f=some ⟨oc,od,.func (PySem.W.fnOf x x (zaF st) (zat st) (zac st) .none kV doc pm an cdv ct),osl⟩) (c:PySem.W.codeIn K cdv x=true) (k:PySem.W.keepIn K (.ref f)=true):Def K x st:=
 ⟨f,oc,od,an,kV,doc,pm,cdv,ct,osl,a,l,c,k⟩
theorem Def.fn (D:Def K x st)(X:K.In h)(G:h.Ns mainGlobals mg):∃f fd,Fun K x x st f fd/\mg x=some (.ref f):=by
 obtain⟨f,oc,od,an,kV,doc,pm,cdv,ct,osl,a,l,c,k⟩:=D.ex
 exact⟨f,_,ziA (st:=st) l c k,PySem.W.mg_of X G a⟩
end
structure TopK (K:PySem.W.Frag):Prop where
 k_len:PySem.W.nsIn K mainGlobals "len" =some none
 k_tuple:PySem.W.nsIn K mainGlobals "tuple" =some none
 k_list:PySem.W.nsIn K mainGlobals "list" =some none
 k_range:PySem.W.nsIn K mainGlobals "range" =some none
 k_int:PySem.W.nsIn K mainGlobals "int" =some none
 k_bool:PySem.W.nsIn K mainGlobals "bool" =some none
 k_isinstance:PySem.W.nsIn K mainGlobals "isinstance" =some none
 k_all:PySem.W.nsIn K mainGlobals "all" =some none
 k_zip:PySem.W.nsIn K mainGlobals "zip" =some none
 k_enumerate:PySem.W.nsIn K mainGlobals "enumerate" =some none
 k_min:PySem.W.nsIn K mainGlobals "min" =some none
 k_sum:PySem.W.nsIn K mainGlobals "sum" =some none
 k_max:PySem.W.nsIn K mainGlobals "max" =some none
 k_abs:PySem.W.nsIn K mainGlobals "abs" =some none
 k_sorted:PySem.W.nsIn K mainGlobals "sorted" =some none
theorem TopK.top {K:PySem.W.Frag}{h:Heap}{mg:Str->Option Value}(T:TopK K)(X:K.In h)(G:h.Ns mainGlobals mg):Top mg:=
  ⟨PySem.W.mg_none_of X G T.k_len,PySem.W.mg_none_of X G T.k_tuple,PySem.W.mg_none_of X G T.k_list,PySem.W.mg_none_of X G T.k_range,PySem.W.mg_none_of X G T.k_int,PySem.W.mg_none_of X G T.k_bool,PySem.W.mg_none_of X G T.k_isinstance,
   PySem.W.mg_none_of X G T.k_all,PySem.W.mg_none_of X G T.k_zip,PySem.W.mg_none_of X G T.k_enumerate,PySem.W.mg_none_of X G T.k_min,PySem.W.mg_none_of X G T.k_sum,PySem.W.mg_none_of X G T.k_max,PySem.W.mg_none_of X G T.k_abs,PySem.W.mg_none_of X G T.k_sorted⟩
open Sem (wp)
open AutoSeq1 (wpAny_loadPart')
section
variable {prog:Program}{w:World}{A:Around}{E:Value->Shared->Prop}{s:Shared}
end
section
variable {X:Cx}
end
open Sem (wp)
open AutoSeq1 (wpAny_loadPart')
section
variable {prog:Program}{w:World}{A:Around}{E:Value->Shared->Prop}{s:Shared}
end
section
variable {X:Cx}{pos:Pos}
end
section
variable {prog:Program}{w:World}{A:Around}{E:Value->Shared->Prop}{s:Shared}
end
section
variable {X:Cx}
end
noncomputable def atO (ns:List Int)(x:Int):Int:=ns.getD x.toNat 0
section
variable {m:Nat}{ns ms ks:List Int}{x:Int}
end
noncomputable def itO (ns:List Int)(x:Int):Nat->Int
 |0=>x
 |k+1=>atO ns (itO ns x k)
noncomputable def orbO (ns:List Int)(x:Int)(k:Nat):List Int:=(List.range k).map (itO ns x)
structure IsRound (ns:List Int) (x:Int) (row:List Int):Prop where
 ex:∃k,row=orbO ns x (k+1)/\itO ns x (k+1)=x
 nd:row.Nodup
section
variable {m:Nat}{ns:List Int}{x y:Int}
open Classical in
noncomputable def rowO (ns:List Int)(x:Int):List Int:=if h:∃row,IsRound ns x row then choose h else []
structure MetO (ns:List Int) (m:Nat) (rows:List (List Int)):Prop where
 nd:rows.flatten.Nodup
 rng:∀y∈rows.flatten,0<=y/\y<m
 clo:∀y∈rows.flatten,atO ns y∈rows.flatten
 row:∀r∈rows,∃f:Int,0<=f/\f<m/\r=rowO ns f
end
section
variable {X:Cx}
end
section
variable {prog:Program}{w:World}{A:Around}{E:Value->Shared->Prop}{s:Shared}
theorem zbu {t sl:Addr}{items:Array Value}{vl vu:Value}{lo hi:Option Int}{Q:Value->Shared->Prop}(ht:IsTup s.heap t items)(hs:s.heap.IsSliceOf sl vl vu .none)(pl:IsPart vl lo)(pu:IsPart vu hi)
  (hw:HT.sIx items.size 0 lo=0/\HT.sIx items.size items.size hi=items.size) (h:Q (.ref t) s):wpAny (model prog w) A (getItem (.ref t) (.ref sl)) Q E s:=by
 obtain⟨os,hos,hcs,hds⟩:=id hs
 have hTs:s.TypeIs (.ref sl) "slice" :=⟨os,hos,hcs⟩
 unfold getItem
 try with_reducible refine wpAny_holding ?_
 first|refine wpAny_bind (wpAny_pure ?_)|skip
 refine wpAny_bind (wpAny_sequenceKey ht.typeIs (by decide) ?_)
 refine wpAny_bind (wpAny_callSpecial?_slot (name:=Str.ofString "__getitem__") ht.typeIs PyProof.Rows.slot_tuple_getitem
  (wpAny_call_entry PyProof.Rows.slot_tuple_getitem ht.typeIs entry_tuple_getitem ?_ (args_tuple_getitem _ _)))
 show wpAny _ _ (Builtin.Tuple.tupleItemsOf (.ref t) >>= _) _ _ s
 refine wpAny_bind (tupleItemsOf_ ht ?_)
 refine wpAny_bind (wpAny_typeOf hTs ?_)
 rw[if_pos (by decide)]
 refine wpAny_bind (HT.sliceApplied_gen hs pl pu ?_)
 show wpAny _ _ (if (((HT.sIx items.size 0 lo:Nat):Int)==0&&(1:Int)==1&&(HT.sIx items.size items.size hi-HT.sIx items.size 0 lo)==items.size)=true then _ else _) _ _ s
 rw[if_pos (by rw[hw.1,hw.2];simp)]
 unfold Builtin.Tuple.tupleIsExact
 refine wpAny_bind (wpAny_bind (wpAny_typeOf ht.typeIs (wpAny_pure ?_)))
 rw[if_pos (by decide)]
 refine wpAny_bind (wpAny_rule ?_)
 exact wpAny_pure ⟨_,rfl,wpAny_pure h⟩
end
section
variable {X:Cx}{e:Expr}{te:TE}{p2 pos:Pos}
end
structure Bits (bs:List Bool) (m:Nat) (S:List Int):Prop where
 len:bs.length=m
 bit:∀i,i<m->bs[i]? =some (decide ((i:Int)∈S))
inductive Ents (P:Params):List DictEntry->List (Str×Addr)->Prop
 |nil:Ents P [] []
 |cons {x:Str} {t:Tok} {f:Addr} {es:List DictEntry} {kvs:List (Str×Addr)}:Ents P es kvs->Ents P (⟨PyData.keyHash P x,.str x t,.ref f⟩::es) ((x,f)::kvs)
structure GDict (K:PySem.W.Frag) (P:Params) (C:Addr) (kvs:List (Str×Addr)):Prop where
 ex:∃es n,K.lookup C=some {cls:=.type "dict",data:=.dict es n}/\Ents P es.toList kvs
 nd:(kvs.map (·.1)).Nodup
theorem Ents.keys {prog:Program}{w:World}:∀{es:List DictEntry} {kvs:List (Str×Addr)},Ents w.params es kvs->∀e∈es,∃k,(PySem.strKind prog w).is k e.key=true/\e.hash=(PySem.strKind prog w).hash k
 |_,_,.nil,_,h=>by cases h
 |_,_,.cons (x:=x) t,e,h=>by
  rcases List.mem_cons.mp h with rfl|h
  ·exact⟨x,by simp[PySem.strKind,Value.isStrOf],rfl⟩
  ·exact Ents.keys t e h
theorem Ents.pairs {prog:Program}{w:World}:∀{es:List DictEntry} {kvs:List (Str×Addr)},Ents w.params es kvs->Pairs (PySem.strKind prog w) es (kvs.map fun kv=>(kv.1,Value.ref kv.2))
 |_,_,.nil=>.nil
 |_,_,.cons t=>.cons (by simp[PySem.strKind,Value.isStrOf]) rfl (Ents.pairs t)
theorem zb4:∀(kvs:List (Str×Addr)) (x:Str),valueAt (kvs.map fun kv=>(kv.1,Value.ref kv.2)) x=(kvs.lookup x).map Value.ref
 |[],_=>rfl
 | (y,f)::t,x=>by
  have ih:=zb4 t x
  unfold valueAt at ih ⊢
  rw[List.map_cons,List.find?_cons,List.lookup_cons]
  by_cases h:y=x
  ·subst h
   simp
  ·have h2:(x==y)=false:=beq_eq_false_iff_ne.mpr fun z=>h z.symm
   simp only[decide_eq_false h,h2]
   exact ih
section
variable {X:Cx}
noncomputable def rGd (K:PySem.W.Frag)(P:Params):R2:=fun x y H Q=>∃C kvs z f,x=.ref C/\y=.str z/\GDict K P C kvs/\kvs.lookup z=some f/\Q (.ref f) H
theorem zf2:IxR X (rGd X.K X.w.params):=by
 intro value slice pins s σ H x y v u Q I rx ry h hs
 obtain⟨C,kvs,z,f,rfl,rfl,⟨⟨es,n,hk,en⟩,nd⟩,hl,q⟩:=h
 cases rx
 obtain⟨t,rfl⟩:=ry
 have hg:=I.kIn C _ hk
 have hD:s.heap.DictOf (PySem.strKind X.prog X.w) C (kvs.map fun kv=>(kv.1,Value.ref kv.2)):=
  ⟨_,es,n,hg,⟨rfl,rfl,rfl⟩,rfl,fun e he=>en.keys e (by simpa using he),en.pairs,by rw[List.map_map];exact nd⟩
 have fin:EP X pins σ Q (.ref f) {s with toks:=s.toks+1}:=⟨.ref f,H,I.tok _,rfl,q⟩
 exact subscriptTail_builtinR (x:=.ref f) hD.typeIs PySem.F.slot_dict_getitem.lookup
  (wpAny_getItem_of (k:=z) (knd:=PySem.strKind X.prog X.w) (Q:=fun r s'=>r=.ref f/\EP X pins σ Q r s') (by simp[PySem.strKind,Value.isStrOf]) hD.mapOf (by rw[zb4,hl];rfl) ⟨rfl,fin⟩) hs
end
structure CalF (P:Program) (w:World) (K:PySem.W.Frag) (mg:Str->Option Value) (base:Heap) (k:Nat) (f:Addr) (ps:List Str) (sp:Sp):Prop where
 ex:∃fd,FnOk P w K mg base CX0 k f fd ps sp/\PySem.W.keepIn K (.ref f)=true/\Binds K fd ps []
section
variable {X:Cx}{k:Nat}{x:Str}{p pos:Pos}{e:Expr}{es:List Expr}{t:TA}{tf:TE}
noncomputable def ziB (P:Program)(w:World)(K:PySem.W.Frag)(mg:Str->Option Value)(base:Heap)(k:Nat)(tf:TE)(t:TA):TE:=fun σ H Q=>tf σ H fun v H1=>∃f ps sp,v=.ref f/\CalF P w K mg base k f ps sp/\t σ H1 fun vs H2=>sp vs H2 Q E0
theorem zbC (hf:PE X (.Name x p) tf)(hr:Room k X.A)(ha:PA X (e::es) t)(he:starEach (e::es) X.env=(false,eval e X.env)::starEach es X.env:=by rfl)
  (hpl:(backTo pos (starEach es X.env)).any (·.1)=false:=by rfl):PE X (.Call (.Name x p) (e::es) [] pos) (ziB X.prog X.w X.K X.mg X.base k tf t):=by
 intro pins s σ H Q I h
 refine wpAny_Call_Name_kw (thn (hf pins s σ H _ I h) fun v s1 zq=> ?_)
 obtain⟨y,H1,I1,r1,f,ps,sp,ey,⟨fd,F,hk,hb⟩,q1⟩:=zq
 subst ey
 cases (show v=Value.ref f from r1)
 refine PySem.W.callWith_K (h₀:=X.base) I1.ok.mod.kin hk (thn (ha pos pins s1 σ H1 _ I1 q1) fun us s2 ⟨vs,H2,I2,r2,q2⟩=>⟨I2.kIn, ?_⟩) he hpl
 exact zhi F hr hb .nil ziz I2 r2 (by rw[List.append_nil];exact q2)
end
section
variable {prog:Program}{w:World}{A:Around}{R:Result->Shared->Prop}{s:Shared}{elt tg iter tg2 iter2:Expr}{ifs ifs2:List Expr}{scope:Scope}{pos:Pos}{it acc:Value}{env:Env}
end
section
variable {X:Cx}{elt tg iter tg2 iter2:Expr}{ifs ifs2:List Expr}{scope:Scope}{pos:Pos}{wi wi2:TI}{g g2:TG}{tt tt2:TT}{te:TE}{N':List Str}{n:Nat}{ix:List Nat}
end
section
variable {X:Cx}
noncomputable def rSlA:V->Option Int->Option Int->Hp->VK->Prop:=fun x lo hi H Q=>∃a xs,x=.ref a/\H a=some (.tup xs)/\∀p H',Same H H'->H' p=some (.tup (cutV xs lo hi))->Q (.ref p) H'
theorem zbR:SlR X rSlA:=by
 intro pins s σ H x v vl vu lo hi sl Q I rx hs pl pu h
 obtain⟨a,xs,rfl,ha,q⟩:=h
 by_cases hw:HT.sIx xs.length 0 lo=0/\HT.sIx xs.length xs.length hi=xs.length
 ·cases rx
  obtain⟨its,r,ht,hz⟩:=I.tuple (SqT.of (K:=X.K) ha)
  have hl:its.toArray.size=xs.length:=by rw[List.size_toArray];exact r.length.symm
  refine⟨"tuple",_,PyProof.Rows.slot_tuple_getitem.lookup,ht.typeIs, ?_⟩
  refine zbu ht hs pl pu (by rw[hl];exact hw) ⟨.ref a,H,I,rfl,q a H (Same.refl H) ?_⟩
  unfold cutV
  rw[hw.1,hw.2,List.drop_zero,Nat.sub_zero,List.take_length]
  exact ha
 ·exact ziv pins s σ H _ v vl vu lo hi sl Q I rx hs pl pu ⟨a,xs,rfl,SqT.of ha,hw,fun p hp=>q p _ (zaa hp) zab⟩
end
section
variable {X:Cx}{elt tg iter tg2 iter2:Expr}{ifs ifs2:List Expr}{scope:Scope}{pos:Pos}{wi wi2:TI}{g g2:TG}{tt tt2:TT}{te:TE}{N':List Str}{n:Nat}{ix:List Nat}
end
noncomputable def zja (m:Nat)(b:List Int):List Int:=(num0 m).filter fun x=>decide (x∉b)
structure Beg (m k:Nat) (b:List Int):Prop where
 len:b.length=k
 nd:b.Nodup
 rng:∀y∈b,0<=y/\y<m
 free:(zja m b).length+k=m
section
variable {X:Cx}
end
structure Heaps (ns:List Int) (L:List Int) (es:List Int):Prop where
 inc:L.Pairwise (·<·)
 len:es.length=ns.length
 up:∀(j:Nat) a,L[j]? =some a->∃k:Nat,ns[k]? =some a/\es[k]? =some ((j:Int)+1)
 dn:∀(k:Nat) e,es[k]? =some e->∃(j:Nat) (a b:Int),e=(j:Int)+1/\L[j]? =some a/\ns[k]? =some b/\a<=b
structure CompScopeZ (X:Cx) (scope:Scope) (N':List Str) (n:Nat) (ix:List Nat) (z:Str):Prop where
 kind:scope.kind=.function
 onecell:∀y∈scope.names,y.2=.cell->y.1=z
 nz:∀y:Str,(y,NameKind.free)∈scope.names->y≠z
 cf:∀(a:Addr) (cl:List (Str×Addr)),cellsFrom a scope.names cl=(z,a)::cl
 pc:∀h:Heap,pushCells h scope.names=h.push {cls:=.type "cell",data:=.cell none}
 names:∀y∈scope.names,y.2=.local->scope.names.lookup y.1=some .local
 free:∀y∈scope.names,y.2=.free->X.env.scope.names.lookup y.1=some .cell∨X.env.scope.names.lookup y.1=some .free
 nodup:∀y:Str,(y,NameKind.free)∈scope.names->scope.names.lookup y=some .local->False
 len:N'.length=n+ix.length
 at_:∀(j i:Nat),ix[j]? =some i->∃x,N'[n+j]? =some x/\X.N[i]? =some x/\(x,NameKind.free)∈scope.names
section
variable {X:Cx}{pins:List (Addr×Obj)}{σ:St}{H:Hp}{s:Shared}
end
section
variable {X:Cx}{elt tg iter:Expr}{ifs:List Expr}{scope:Scope}{pos:Pos}{wi:TI}{g:TG}{tt:TT}{te:TE}{N':List Str}{n:Nat}{ix:List Nat}
end
mutual
inductive IsK (K:PySem.W.Frag) (H:Hp):V->PyData->Prop
 |non:IsK K H .non .none
 |bl (b:Bool):IsK K H (.bl b) (.bool b)
 |int (i:Int):IsK K H (.int i) (.int i)
 |str (x:Str):IsK K H (.str x) (.str x)
 |tup {a:Addr} {vs:List V} {ds:List PyData}:SqT K H a vs->IsAllK K H vs ds->IsK K H (.ref a) (.tuple ds)
 |lst {a:Addr} {vs:List V} {ds:List PyData}:H a=some (.lst vs)->IsAllK K H vs ds->IsK K H (.ref a) (.list ds)
inductive IsAllK (K:PySem.W.Frag) (H:Hp):List V->List PyData->Prop
 |nil:IsAllK K H [] []
 |cons {v:V} {vs:List V} {d:PyData} {ds:List PyData}:IsK K H v d->IsAllK K H vs ds->IsAllK K H (v::vs) (d::ds)
end
section
variable {X:Cx}{pins:List (Addr×Obj)}{σ:St}{H:Hp}{s:Shared}
mutual
theorem Inv.readsK (I:Inv X pins σ H s):∀{v:V} {d:PyData} {u:Value},IsK X.K H v d->RelV v u->∃as,Reads s.heap u d as
 |_,_,_,.non,r=>by cases (show _=Value.none from r);exact⟨_,.none⟩
 |_,_,_,.bl b,r=>by cases (show _=Value.bool b from r);exact⟨_,.bool b⟩
 |_,_,_,.int i,r=>by obtain⟨t,rfl⟩:=r;exact⟨_,.int i t⟩
 |_,_,_,.str x,r=>by obtain⟨t,rfl⟩:=r;exact⟨_,.str x t⟩
 |_,_,_,.tup (a:=a) (vs:=vs) h al,r=>by
  cases (show _=Value.ref a from r)
  obtain⟨its,rv,⟨o,ho,hc,n,hd⟩,_⟩:=I.tuple h
  obtain⟨as,q⟩:=Inv.readsAllK I al rv
  exact⟨as,.tuple ho hc hd (by simpa using q)⟩
 |_,_,_,.lst (a:=a) (vs:=vs) h al,r=>by
  cases (show _=Value.ref a from r)
  obtain⟨_,its,n,rv,ho⟩:=(show ObjOk X.prog X.w H s.heap a (.lst vs) from I.hok a _ h)
  obtain⟨as,q⟩:=Inv.readsAllK I al rv
  exact⟨_,.list ho rfl rfl (by simpa using q)⟩
theorem Inv.readsAllK (I:Inv X pins σ H s):∀{vs:List V} {ds:List PyData} {us:List Value},IsAllK X.K H vs ds->Vals vs us->∃as,ReadsAll s.heap us ds as
 |_,_,_,.nil,.nil=>⟨_,.nil⟩
 |_,_,_,.cons h al,.cons r rs=>by
  obtain⟨as,q⟩:=Inv.readsK I h r
  obtain⟨bs,q'⟩:=Inv.readsAllK I al rs
  exact⟨_,.cons q q'⟩
end
noncomputable def rEqK (K:PySem.W.Frag):R2:=fun x y H Q=>∃d e,IsK K H x d/\IsK K H y e/\SeqAt.shaped d=true/\SeqAt.shaped e=true/\Q (.bl (PyData.eqv d e)) H
theorem ziC (hu:X.A.units+64<cLine):OpR X (compareOp .Eq) (rEqK X.K):=by
 intro pins s σ H x y v u Q I rx ry h
 obtain⟨d,e,hd,he,sd,se,q⟩:=h
 obtain⟨as,ra⟩:=I.readsK hd rx
 obtain⟨bs,rb⟩:=I.readsK he ry
 exact eq_dataH ra rb sd se hu ⟨.bl _,H,I,rfl,q⟩
end
noncomputable def zjb (K:PySem.W.Frag):List V->Hp->VK->Prop:=fun xs H Q=>∃x T t b,xs=[x,.ty T]/\(TyOf K H x t∨∃a ys,x=.ref a/\SqT K H a ys/\t=.type "tuple")/\PySem.W.kitOne K t (.type T)=some b/\Q (.bl b) H
theorem zal {X:Cx}:zcm X (.builtin "isinstance") (zjb X.K):=by
 intro pins s σ H xs us Q I rs h
 obtain⟨x,T,t,b,rfl,ty,hk,q⟩:=h
 rcases ty with ty|⟨a,ys,rfl,hq,rfl⟩
 ·exact za3 pins s σ H _ us Q I rs ⟨x,T,t,b,rfl,ty,hk,q⟩
 ·obtain ⟨u,u',rfl,ru,ru'⟩:=zfG rs
  cases (show u=Value.ref a from ru)
  cases (show u'=Value.type T from ru')
  obtain⟨its,_,⟨o,h1,h2,_⟩,_⟩:=I.tuple hq
  exact PySem.W.kia_one PySem.W.kitx_tuple I.kIn ⟨o,h1,h2⟩ hk (fun z=>nomatch z) fun tk=>⟨.bl b,H,I.tok _,rfl,q⟩
theorem Same.seqT {K:PySem.W.Frag}{H H':Hp}{a:Addr}{xs:List V}(e:Same H H')(h:SqT K H a xs):SqT K H' a xs:=by
 rcases h with (h|⟨o,h⟩)|h
 ·exact .inl (.inl (e _ _ h))
 ·exact .inl (.inr ⟨o,e _ _ h⟩)
 ·exact .inr h
section
variable {X:Cx}
end
end L2
namespace L2
end L2
namespace L2
open PySem PySem.Spec PyProof.Rows
theorem GDict.of {K:PySem.W.Frag}{P:Params}{C:Addr}{kvs:List (Str×Addr)}{es:Array DictEntry}{n:Nat}(l:K.lookup C=some {cls:=.type "dict",data:=.dict es n})(en:Ents P es.toList kvs)(nd:(kvs.map (·.1)).Nodup):GDict K P C kvs:=⟨⟨es,n,l,en⟩,nd⟩
theorem CalF.of {P:Program}{w:World}{K:PySem.W.Frag}{mg:Str->Option Value}{base:Heap}{k k':Nat}{x:Str}{f:Addr}{ps:List Str}{sp:Sp}(C:Cal P w K mg base k x ps sp)(h:mg x=some (.ref f))(hk:k<=k'):CalF P w K mg base k' f ps sp:=by
 obtain⟨f',fd,F,hm,kp,hb⟩:=C.ex
 rw[h] at hm
 cases hm
 exact⟨fd,F.mono hk,kp,hb⟩
theorem sqT_ofK {K:PySem.W.Frag}{a:Addr}{xs:List V}{its:Array Value}{n:Nat}(l:K.lookup a=some {cls:=.type "tuple",data:=.seq its n})(hz:its.size<=sizeLine)(r:Vals xs its.toList):∀H,SqT K H a xs:=fun _=>.inr ⟨_,its,n,l,rfl,rfl,hz,r⟩
theorem zbS {X:Cx}:OpR X (binaryOp .Pow) (rI (fun i j=>0<=j/\(Builtin.Int.intBits i:Int)*j<=2^27) fun i j=>.int (i^j.toNat)):=opI fun _ _ _ _ _ _ _ hc q=>pow_int hc.1 hc.2 q
structure TopX (mg:Str->Option Value):Prop where
 n_str:mg "str" =none
 n_repr:mg "repr" =none
 n_divmod:mg "divmod" =none
structure TopXK (K:PySem.W.Frag):Prop where
 k_str:PySem.W.nsIn K mainGlobals "str" =some none
 k_repr:PySem.W.nsIn K mainGlobals "repr" =some none
 k_divmod:PySem.W.nsIn K mainGlobals "divmod" =some none
theorem TopXK.top {K:PySem.W.Frag}{h:Heap}{mg:Str->Option Value}(T:TopXK K)(X:K.In h)(G:h.Ns mainGlobals mg):TopX mg:=
 ⟨PySem.W.mg_none_of X G T.k_str,PySem.W.mg_none_of X G T.k_repr,PySem.W.mg_none_of X G T.k_divmod⟩
noncomputable def Pot2 (H:Hp)(p:Addr):Prop:=∃own mixed:Int,H p=some (.lst [.int own,.int mixed])/\0<=own/\0<=mixed/\mixed<18446744073709551557
theorem Pot2.same {p:Addr}{H H':Hp}(h:Pot2 H p)(s:Same H H'):Pot2 H' p:=by
 obtain⟨o,m,h1,h2⟩:=h
 exact⟨o,m,s _ _ h1,h2⟩
theorem Pot2.keepT {p:Addr}{H H':Hp}(h:Pot2 H p)(k:Keep p p H H'){a:Addr}{xs:List V}(ha:H a=some (.tup xs)):H' a=some (.tup xs):=by
 obtain⟨o,m,h1,h2⟩:=h
 have:a≠p:=zii ha h1 (by intro z;cases z)
 exact k a _ ha this this
theorem Pot2.ne_new {p l:Addr}{H:Hp}(h:Pot2 H p)(hl:H l=none):l≠p:=by
 obtain⟨o,m,h1,h2⟩:=h
 intro e
 rw[e,h1] at hl
 cases hl
noncomputable def zeZ (K:PySem.W.Frag):Sp:=fun vs H Q _=>∃(a:Addr) (ns:List Int) (k:Int),vs=[.ref a,.int k]/\SqL K H a (ns.map V.int)/\0<=k/\k<=1000/\∀p H',Same H H'->Pot2 H' p->H p=none->Q (.ref p) H'
noncomputable def zaS:Sp:=fun vs H Q _=>∃(p:Addr) (m:Int),vs=[.ref p,.int m]/\0<m/\m<1073741824/\Pot2 H p/\∀d H',0<=d->d<m->Pot2 H' p->Keep p p H H'->Q (.int d) H'
noncomputable def zex:Sp:=fun vs H Q _=>∃(p l:Addr) (xs:List V),vs=[.ref p,.ref l]/\H l=some (.lst xs)/\l≠p/\0<xs.length/\xs.length<=1000/\Pot2 H p/\∀x∈xs,∀H',Pot2 H' p->Keep p p H H'->Q x H'
noncomputable def zbD:Sp:=fun vs H Q _=>∃(p l:Addr) (ns:List Int),vs=[.ref p,.ref l]/\H l=some (.lst (ns.map V.int))/\l≠p/\0<ns.length/\ns.length<=1000/\(∀n∈ns,n<1073741824)/\Pot2 H p/\∀n∈ns,∀d H',(0<n->0<=d/\d<n)->(¬0<n->d=-n)->Pot2 H' p->Keep p p H H'->Q (.int d) H'
theorem zf3:Builtin.Int.intBits (((10:Int)^(60:Int).toNat)^(15:Int).toNat)<=3616:=by
 have h10:Builtin.Int.intBits (10:Int)<=4:=intBits_le_iff.mpr (by decide)
 have h1:Builtin.Int.intBits ((10:Int)^(60:Int).toNat)<=241:=intBits_pow_le h10 60
 exact intBits_pow_le h1 15
theorem zgS:(Builtin.Int.intBits ((10:Int)^(60:Int).toNat):Int)*15<=2^27:=by
 have h10:Builtin.Int.intBits (10:Int)<=4:=intBits_le_iff.mpr (by decide)
 have h1:Builtin.Int.intBits ((10:Int)^(60:Int).toNat)<=241:=intBits_pow_le h10 60
 (first|lia|omega)
theorem zci:(0:Int)<((10:Int)^(60:Int).toNat)^(15:Int).toNat:=Int.pow_pos (Int.pow_pos (by decide))
theorem zf4 {F r k e:Int}(hF:Builtin.Int.intBits F<=3616)(r0:0<=r)(r1:r<F)(k0:0<=k)(k1:k<=1000)(e0:0<=e)(e1:e<=1):(Builtin.Int.intBits (2*r+e+7919*k+13):Int)*3<=2^27:=by
 have h1:=intBits_le_iff.mp hF
 have h3:2^3616*2+7920000<=2^3700:=by decide+kernel
 have h2:Builtin.Int.intBits (2*r+e+7919*k+13)<=3700:=by
  refine intBits_le_iff.mpr ?_
  generalize (2:Nat)^3616=N at*
  generalize (2:Nat)^3700=M at*
  (first|lia|omega)
 (first|lia|omega)
noncomputable abbrev Sm (x:Int)(n:Nat):Prop:=Builtin.Int.intBits x<=n
theorem Sm.of {x:Int}{n:Nat}(h:x.natAbs<2^n):Sm x n:=intBits_le_iff.mpr h
theorem Sm.lt {x:Int}{n:Nat}(h:Sm x n):x.natAbs<2^n:=intBits_le_iff.mp h
theorem Sm.mono {x:Int}{m n:Nat}(h:Sm x m)(k:m<=n):Sm x n:=Nat.le_trans h k
theorem Sm.mul {x y:Int}{m n:Nat}(h:Sm x m)(k:Sm y n):Sm (x*y) (m+n):=by
 refine Sm.of ?_
 rw[Int.natAbs_mul,Nat.pow_add]
 have h1:=h.lt
 have h2:=k.lt
 exact Nat.lt_of_le_of_lt (Nat.mul_le_mul_right _ (Nat.le_of_lt h1)) (Nat.mul_lt_mul_of_pos_left h2 (Nat.two_pow_pos _))
theorem Sm.add {x y:Int}{n:Nat}(h:Sm x n)(k:Sm y n):Sm (x+y) (n+1):=by
 refine Sm.of ?_
 have h1:=h.lt
 have h2:=k.lt
 rw[Nat.pow_succ]
 generalize (2:Nat)^n=N at*
 (first|lia|omega)
theorem Sm.sub {x y:Int}{n:Nat}(h:Sm x n)(k:Sm y n):Sm (x-y) (n+1):=by
 refine Sm.of ?_
 have h1:=h.lt
 have h2:=k.lt
 rw[Nat.pow_succ]
 generalize (2:Nat)^n=N at*
 (first|lia|omega)
theorem Sm.le {x y:Int}{n:Nat}(h:Sm y n)(k:x.natAbs<=y.natAbs):Sm x n:=Sm.of (Nat.lt_of_le_of_lt k h.lt)
theorem zah {X:Cx}:OpR X (binaryOp .Mult) (rI (fun i j=>Sm i 8000/\Sm j 8000) fun i j=>.int (i*j)):=opI fun _ _ _ _ _ _ _ hc q=>mul_int q (IntMulOk.of_le hc.1 hc.2 (by decide))
theorem zbn {X:Cx}:OpR X (binaryOp .FloorDiv) (rI (fun _ j=>0<j/\Sm j 8000) fun i j=>.int (i/j)):=opI fun i j _ _ _ _ _ hc q=>by
 have e:i/j=i.fdiv j:=(Int.fdiv_eq_ediv_of_nonneg _ (Int.le_of_lt hc.1)).symm
 rw[e] at q
 have h1:=hc.1
 refine floordiv_int (by (first|lia|omega)) q (.inl (PyProof.noPylong_of_log2 ?_))
 have h0:j.natAbs≠0:=by (first|lia|omega)
 rw[Nat.log2_lt h0]
 exact (hc.2.mono (by decide)).lt
noncomputable def gcdZ (a b:Int):Int:=(Int.gcd a b:Int)
noncomputable def lowZ (a b:Int):Int×Int:=(a/gcdZ a b,b/gcdZ a b)
theorem zay {a b:Int}(h:0<b):0<gcdZ a b:=by
 unfold gcdZ
 have:=Int.gcd_pos_of_ne_zero_right (a:=a) (b:=b) (by (first|lia|omega))
 (first|lia|omega)
theorem zf5 {a b:Int}(h:0<b):gcdZ a b<=b:=Int.le_of_dvd h (Int.gcd_dvd_right ..)
theorem zd0 {a b:Int}(h:0<b):gcdZ b (a%b)=gcdZ a b:=by
 unfold gcdZ
 have e:a%b=a+b*(-(a/b)):=by
  have:=Int.mul_ediv_add_emod a b
  have e2:b*(-(a/b))=-(b*(a/b)):=Int.mul_neg ..
  (first|lia|omega)
 rw[e,Int.gcd_add_mul_left_right,Int.gcd_comm]
theorem zd1 {a:Int}(h:0<=a):gcdZ a 0=a:=by
 unfold gcdZ
 rw[Int.gcd_zero_right]
 (first|lia|omega)
theorem zcr (a b:Int):gcdZ a b=gcdZ b a:=by
 unfold gcdZ
 rw[Int.gcd_comm]
theorem zgT (a b:Int):gcdZ (if a<0 then-a else a) b=gcdZ a b:=by
 unfold gcdZ Int.gcd
 congr 2
 split<;>(first|lia|omega)
theorem low1 {a b:Int}:(lowZ a b).1*gcdZ a b=a:=Int.ediv_mul_cancel (Int.gcd_dvd_left ..)
theorem low2 {a b:Int}:(lowZ a b).2*gcdZ a b=b:=Int.ediv_mul_cancel (Int.gcd_dvd_right ..)
theorem zbe {a b:Int}(h:0<b):0<(lowZ a b).2:=by
 have h1:=zay (a:=a) h
 have h2:=low2 (a:=a) (b:=b)
 refine Int.pos_of_mul_pos_left ?_ h1
 rw[h2];exact h
theorem zcs {a b:Int}(h:0<b):(lowZ a b).1*b=a*(lowZ a b).2:=by
 have h1:=low1 (a:=a) (b:=b)
 have h2:=low2 (a:=a) (b:=b)
 generalize (lowZ a b).1=x at*
 generalize (lowZ a b).2=y at*
 generalize gcdZ a b=g at*
 subst h1 h2
 rw[Int.mul_assoc,Int.mul_comm g y]
theorem zbE {a b c:Int}(hb:0<b)(hc:0<c):lowZ (a*c) (b*c)=lowZ a b:=by
 unfold lowZ gcdZ
 rw[Int.gcd_mul_right]
 have e:(((a.gcd b*c.natAbs:Nat)):Int)=(a.gcd b:Int)*c:=by
  rw[Int.natCast_mul]
  congr 1
  (first|lia|omega)
 rw[e,Int.mul_ediv_mul_of_pos_left _ _ hc,Int.mul_ediv_mul_of_pos_left _ _ hc]
theorem ze0 {a b c d:Int}(hb:0<b)(hd:0<d)(h:a*d=c*b):lowZ a b=lowZ c d:=by
 rw[<-zbE hb hd,<-zbE hd hb,h,Int.mul_comm b d]
theorem zhI {a b:Int}(hb:0<b):lowZ (lowZ a b).1 (lowZ a b).2=lowZ a b:=ze0 (zbe hb) hb (zcs hb)
theorem zgU {a b:Int}(h:0<b):(lowZ a b).1.natAbs<=a.natAbs:=by
 have h1:=low1 (a:=a) (b:=b)
 have h2:=zay (a:=a) h
 generalize (lowZ a b).1=x at*
 generalize gcdZ a b=g at*
 subst h1
 rw[Int.natAbs_mul]
 exact Nat.le_mul_of_pos_right _ (by (first|lia|omega))
theorem zgV {a b:Int}(h:0<b):(lowZ a b).2.natAbs<=b.natAbs:=by
 have h1:=low2 (a:=a) (b:=b)
 have h2:=zay (a:=a) h
 generalize (lowZ a b).2=x at*
 generalize gcdZ a b=g at*
 subst h1
 rw[Int.natAbs_mul]
 exact Nat.le_mul_of_pos_right _ (by (first|lia|omega))
theorem ziD {a b c d:Int}(hb:0<b)(hd:0<d):(lowZ a b).1*(lowZ c d).2<(lowZ c d).1*(lowZ a b).2↔a*d<c*b:=by
 have h1:=low1 (a:=a) (b:=b)
 have h2:=low2 (a:=a) (b:=b)
 have h3:=low1 (a:=c) (b:=d)
 have h4:=low2 (a:=c) (b:=d)
 have g1:=zay (a:=a) hb
 have g2:=zay (a:=c) hd
 generalize (lowZ a b).1=x at*
 generalize (lowZ a b).2=y at*
 generalize (lowZ c d).1=z at*
 generalize (lowZ c d).2=u at*
 generalize gcdZ a b=g at*
 generalize gcdZ c d=k at*
 subst h1 h2 h3 h4
 have e1:x*g*(u*k)=(x*u)*(g*k):=by rw[Int.mul_assoc,Int.mul_assoc,Int.mul_left_comm g u k]
 have e2:z*k*(y*g)=(z*y)*(g*k):=by rw[Int.mul_assoc,Int.mul_assoc,Int.mul_left_comm k y g,Int.mul_comm k g]
 rw[e1,e2]
 exact (Int.mul_lt_mul_right (Int.mul_pos g1 g2)).symm
noncomputable abbrev Shr (H:Hp)(z:Addr)(p:Int×Int):Prop:=H z=some (.tup [.int p.1,.int p.2])
structure ShB (p:Int×Int) (n:Nat):Prop where
 pos:0<p.2
 s1:Sm p.1 n
 s2:Sm p.2 n
theorem ShB.mono {p:Int×Int}{m n:Nat}(h:ShB p m)(k:m<=n):ShB p n:=⟨h.pos,h.s1.mono k,h.s2.mono k⟩
theorem ShB.low {a b:Int}{n:Nat}(h:0<b)(ha:Sm a n)(hb:Sm b n):ShB (lowZ a b) n:=⟨zbe h,ha.le (zgU h),hb.le (zgV h)⟩
noncomputable def plZ (p q:Int×Int):Int×Int:=lowZ (p.1*q.2+q.1*p.2) (p.2*q.2)
noncomputable def leZ (p q:Int×Int):Int×Int:=lowZ (p.1*q.2-q.1*p.2) (p.2*q.2)
noncomputable def tmZ (p q:Int×Int):Int×Int:=lowZ (p.1*q.1) (p.2*q.2)
noncomputable def ptZ (p q:Int×Int):Int×Int:=lowZ (p.1*q.2) (p.2*q.1)
noncomputable def ltZ (p q:Int×Int):Bool:=decide (p.1*q.2<q.1*p.2)
noncomputable def minZ (p q:Int×Int):Int×Int:=if ltZ q p then q else p
theorem zhm {a b c d:Int}(hb:0<b)(hd:0<d):ltZ (lowZ a b) (lowZ c d)=decide (a*d<c*b):=by
 unfold ltZ
 exact decide_eq_decide.mpr (ziD hb hd)
noncomputable def zhJ:Sp:=fun vs H Q _=>∃a b:Int,vs=[.int a,.int b]/\0<b/\Q (.int (gcdZ a b)) H
noncomputable def zbf:Sp:=fun vs H Q _=>∃a b:Int,vs=[.int a,.int b]/\0<b/\Sm b 8000/\∀z H',Same H H'->Shr H' z (lowZ a b)->Q (.ref z) H'
noncomputable def spSh (g:Int×Int->Int×Int->Int×Int):Sp:=fun vs H Q _=>∃(x y:Addr) (p q:Int×Int),vs=[.ref x,.ref y]/\Shr H x p/\Shr H y q/\ShB p 3900/\ShB q 3900/\∀z H',Same H H'->Shr H' z (g p q)->Q (.ref z) H'
noncomputable def spPt:Sp:=fun vs H Q _=>∃(x y:Addr) (p q:Int×Int),vs=[.ref x,.ref y]/\Shr H x p/\Shr H y q/\ShB p 3900/\ShB q 3900/\0<q.1/\∀z H',Same H H'->Shr H' z (ptZ p q)->Q (.ref z) H'
noncomputable def fcZ:Nat->Int
 |0=>1
 |n+1=>fcZ n*((n:Int)+1)
theorem zaj:∀n,0<fcZ n
 |0=>by decide
 |n+1=>Int.mul_pos (zaj n) (by (first|lia|omega))
theorem ziE {m n:Nat}(h:m<=n):fcZ m<=fcZ n:=by
  induction n with
  | zero => have:m=0:=by (first|lia|omega)
            rw[this];exact Int.le_refl _
  | succ n ih=>
    by_cases e:m=n+1
    · rw[e];exact Int.le_refl _
    · refine Int.le_trans (ih (by (first|lia|omega))) ?_
      show fcZ n<=fcZ n*((n:Int)+1)
      have:=zaj n
      have h2:=Int.mul_le_mul_of_nonneg_left (show (1:Int)<=(n:Int)+1 by (first|lia|omega)) (Int.le_of_lt this)
      (first|lia|omega)
theorem zau {n:Nat}(h:n<=70):Sm (fcZ n) 340:=by
 have h1:Sm (fcZ 70) 340:=Sm.of (by decide+kernel)
 refine h1.le ?_
 have:=ziE h
 have:=zaj n
 (first|lia|omega)
noncomputable def spFc (N:Nat):Sp:=fun vs H Q _=>∃m:Nat,vs=[.int m]/\m<=N/\Q (.int (fcZ m)) H
noncomputable def spPr:Sp:=fun vs H Q _=>∃n:Nat,vs=[.int 1,.int n]/\n<=300/\Q (.int (fcZ n)) H
noncomputable def zjc (i j l:Nat)(ta:TA):TS:=fun D σ H=>ta σ H fun vs H1=>∃v w u,vs=[v,w,u]/\D.nx (((σ.set i (some v)).set j (some w)).set l (some u)) H1
theorem zhK {X:Cx}{pos:Pos}{i j l:Nat}{x y z:Str}{a b c:Expr}{ta:TA}{px py pz pt:Pos}{kt k2 pt2}(hc:X.calm=true)(hN:X.N.Nodup)(hi:X.N[i]? =some x)(hj:X.N[j]? =some y)(hl:X.N[l]? =some z)(hij:i≠j)(hil:i≠l)(hjl:j≠l)
  (hx:X.env.scope.names.lookup x=some .local) (hy:X.env.scope.names.lookup y=some .local) (hz:X.env.scope.names.lookup z=some .local) (ha:PA X [a,b,c] ta)
  (hw:swappedStores [.Tuple [.Name x px,.Name y py,.Name z pz] kt pt] (.Tuple [a,b,c] k2 pt2) X.env=pure (some [x,y,z]))
  (hs:swapsWithSole [.Tuple [.Name x px,.Name y py,.Name z pz] kt pt] (.Tuple [a,b,c] k2 pt2) pos.line X.env=pure false:=by rfl):
  PS X (.Assign [.Tuple [.Name x px,.Name y py,.Name z pz] kt pt] (.Tuple [a,b,c] k2 pt2) pos) (zjc i j l ta):=by
 intro pins s σ H D I h
 rw[exec_Assign_arm]
 refine wpAny_bind (wpAny_standAt ?_)
 rw[hs]
 refine wpAny_bind (wpAny_pure ?_)
 rw[if_neg (by decide)]
 refine wpAny_bind (Tuple_ (thn (ha _ pins s σ H _ I h) fun us s1 zq=> ?_))
 obtain⟨vs,H1,I1,r1,q1⟩:=zq
 obtain⟨v,w,u,e1,q1⟩:=q1
 subst e1
 obtain⟨u1,u2,u3,rfl,rv,rw',ru⟩:∃u1 u2 u3,us=[u1,u2,u3]/\RelV v u1/\RelV w u2/\RelV u u3:=by
  cases r1 with
  | cons p q=>
   cases q with
   | cons p' q'=>
    cases q' with
    |cons p'' q''=>
     cases q''
     exact⟨_,_,_,rfl,p,p',p''⟩
 refine wpAny_newObj_type ?_ (by show 3<=sizeLine;decide)
 have I2:Inv X pins σ H1 {s1 with heap:=s1.heap.push {cls:=.type "tuple",data:=.seq [u1,u2,u3].toArray}}:=I1.kept (t':=s1.toks) fun b o e=>Heap.get?_push_of_some _ e
 rw[hw]
 refine wpAny_bind (wpAny_pure ?_)
 show wpAny (model X.prog X.w) X.A (do rule "assign.swapped-stores";let items<-unpackItems (.ref s1.heap.objs.size) 3 none;assignInOrder [fun v=>bindName X.env z v,fun v=>bindName X.env y v,fun v=>bindName X.env x v] items.reverse;pure Flow.next) _ _ _
 refine wpAny_bind (wpAny_rule (wpAny_bind (unpackItems_tuple (items:=#[u1,u2,u3]) (I.ok.hd hc) (IsTup.new s1.heap _) fun h' hx'=> ?_)))
 have I3:=I2.kept (h':=h') (t':=s1.toks) fun b o e=>hx' b o (Nat.ne_of_lt (Heap.lt_size e)) e
 show wpAny _ _ (assignInOrder [fun v=>bindName X.env z v,fun v=>bindName X.env y v,fun v=>bindName X.env x v] [u3,u2,u1] >>= fun _=>pure Flow.next) _ _ _
 refine wpAny_bind (assignInOrder_cons (wpAny_bindName (za0 I3 hN hl (.inl hz) ru (fun s2 I4=> ?_) (.inr hz))))
 refine assignInOrder_cons (wpAny_bindName (za0 I4 hN hj (.inl hy) rw' (fun s3 I5=> ?_) (.inr hy)))
 refine assignInOrder_cons (wpAny_bindName (za0 I5 hN hi (.inl hx) rv (fun s4 I6=>assignInOrder_nil (wpAny_pure ?_)) (.inr hx)))
 rw[List.set_comm _ _ (Ne.symm hij),List.set_comm _ _ (Ne.symm hil),List.set_comm _ _ (Ne.symm hjl)] at I6
 exact⟨_,H1,I6,q1⟩
noncomputable def zhL:V->List V->Hp->VK->Prop:=fun x vs H Q=>∃i,x=.int i/\vs=[]/\Q (.int (Builtin.Int.intBits i)) H
theorem zd2 {X:Cx}:MtR X "int.bit_length" zhL:=by
 intro pins s σ H x vs v us Q I rx rv h
 obtain⟨i,rfl,rfl,q⟩:=h
 obtain⟨t,rfl⟩:=rx
 cases rv
 exact call_gives PySem.F.slot_int_bit_length (typeIs_int s i t) PySem.F.entry_int_bit_length (PySem.F.args_int_bit_length_1 _) (AutoIntG2.int_bit_length_int_0 i t) ⟨.int _,H,I.tok _,⟨_,rfl⟩,q⟩
theorem sm1:Sm 1 3900:=Sm.of (by decide+kernel)
theorem low_one {c:Int}:lowZ c 1=(c,1):=by
 unfold lowZ gcdZ
 rw[show (c.gcd 1:Nat)=1 from by rw[Int.gcd_one]]
 simp
noncomputable def figZ (x:Int):Int:=(Builtin.Int.intBits x:Int)
theorem zd3 {a b c d:Int}(hb:0<b)(hd:0<d):tmZ (lowZ a b) (lowZ c d)=lowZ (a*c) (b*d):=by
 unfold tmZ
 have h1:=low1 (a:=a) (b:=b)
 have h2:=low2 (a:=a) (b:=b)
 have h3:=low1 (a:=c) (b:=d)
 have h4:=low2 (a:=c) (b:=d)
 have g1:=zay (a:=a) hb
 have g2:=zay (a:=c) hd
 have p1:=zbe (a:=a) hb
 have p2:=zbe (a:=c) hd
 generalize (lowZ a b).1=x at*
 generalize (lowZ a b).2=y at*
 generalize (lowZ c d).1=z at*
 generalize (lowZ c d).2=u at*
 generalize gcdZ a b=g at*
 generalize gcdZ c d=k at*
 subst h1 h2 h3 h4
 rw[<-zbE (Int.mul_pos p1 p2) (Int.mul_pos g1 g2)]
 congr 1
 ·rw[Int.mul_assoc,Int.mul_assoc,Int.mul_left_comm g z k]
 ·rw[Int.mul_assoc,Int.mul_assoc,Int.mul_left_comm g u k]
theorem ziF {a b c d:Int}(hb:0<b)(hd:0<d)(hc:0<c):ptZ (lowZ a b) (lowZ c d)=lowZ (a*d) (b*c):=by
 unfold ptZ
 have h1:=low1 (a:=a) (b:=b)
 have h2:=low2 (a:=a) (b:=b)
 have h3:=low1 (a:=c) (b:=d)
 have h4:=low2 (a:=c) (b:=d)
 have g1:=zay (a:=a) hb
 have g2:=zay (a:=c) hd
 have p1:=zbe (a:=a) hb
 have p2:=zbe (a:=c) hd
 have p3:0<(lowZ c d).1:=by
  refine Int.pos_of_mul_pos_left ?_ g2
  rw[h3];exact hc
 generalize (lowZ a b).1=x at*
 generalize (lowZ a b).2=y at*
 generalize (lowZ c d).1=z at*
 generalize (lowZ c d).2=u at*
 generalize gcdZ a b=g at*
 generalize gcdZ c d=k at*
 subst h1 h2 h3 h4
 rw[<-zbE (Int.mul_pos p1 p3) (Int.mul_pos g1 g2)]
 congr 1
 ·rw[Int.mul_assoc,Int.mul_assoc,Int.mul_left_comm g u k]
 ·rw[Int.mul_assoc,Int.mul_assoc,Int.mul_left_comm g z k]
theorem zct {c d:Int}(hd:0<d)(hc:0<c):0<(lowZ c d).1:=by
 have g2:=zay (a:=c) hd
 refine Int.pos_of_mul_pos_left ?_ g2
 rw[low1];exact hc
theorem zgW {b:Int}(hb:0<b):lowZ b b=(1,1):=by
 rw[ze0 hb (by decide:(0:Int)<1) (show b*1=1*b by (first|lia|omega)),low_one]
noncomputable def capZ (a b:Int):Int×Int:=if b<a then (1,1) else lowZ a b
theorem zdg {a b:Int}(hb:0<b):minZ (1,1) (lowZ a b)=capZ a b:=by
 unfold minZ capZ
 rw[show ((1,1):Int×Int)=lowZ 1 1 from low_one.symm,zhm hb (by decide),Int.mul_one,Int.one_mul]
 by_cases h:a<b
 ·rw[if_pos (decide_eq_true h),if_neg (by (first|lia|omega))]
 ·rw [if_neg (fun z=>h (of_decide_eq_true z))]
  by_cases h2:b<a
  ·rw[if_pos h2]
  ·rw[if_neg h2,show a=b by (first|lia|omega),zgW hb,low_one]
noncomputable def sZ (N:Int):Nat->Int
 |0=>1
 |i+1=>sZ N i*(N-(i:Int))/((i:Int)+1)
theorem zf6 {N:Int}(h:0<=N):∀i:Nat,0<=sZ N i/\(N<(i:Int)->sZ N i=0)
 |0=>⟨(by decide:(0:Int)<=1),fun z=>absurd z (by (first|lia|omega))⟩
 | i+1=>by
  obtain⟨h1,h2⟩:=zf6 h i
  show 0<=sZ N i*(N-(i:Int))/((i:Int)+1)/\(_->sZ N i*(N-(i:Int))/((i:Int)+1)=0)
  by_cases c:N<(i:Int)
  ·rw [h2 c,Int.zero_mul,Int.zero_ediv]
   exact⟨Int.le_refl _,fun _=>rfl⟩
  ·refine ⟨Int.ediv_nonneg (Int.mul_nonneg h1 (by (first|lia|omega))) (by (first|lia|omega)),fun z=> ?_⟩
   rw[show N-(i:Int)=0 by (first|lia|omega),Int.mul_zero,Int.zero_ediv]
theorem sm_N {N:Int}(h0:0<=N)(h1:N<=10^30):Sm N 100:=Sm.of (by
 have:(10:Int)^30<2^100:=by decide+kernel
 (first|lia|omega))
theorem zd4 {N:Int}{i:Nat}(h0:0<=N)(h1:N<=10^30)(hi:i<=60):Sm (N-(i:Int)) 100:=Sm.of (by
 have:(10:Int)^30+60<2^100:=by decide+kernel
 (first|lia|omega))
theorem zey {N:Int}(h0:0<=N)(h1:N<=10^30):∀i:Nat,i<=60->Sm (sZ N i) (100*i+1)
 |0,_=>Sm.of (show (1:Int).natAbs<2^1 by decide)
 | i+1,h=>by
  obtain⟨a1,a2⟩:=zf6 h0 i
  have ih:=zey h0 h1 i (by (first|lia|omega))
  have hm:=(ih.mul (zd4 h0 h1 (i:=i) (by (first|lia|omega)))).mono (show 100*i+1+100<=100*(i+1)+1 by (first|lia|omega))
  refine Sm.le hm ?_
  show (sZ N i*(N-(i:Int))/((i:Int)+1)).natAbs<=_
  by_cases c:N<(i:Int)
  ·rw [a2 c,Int.zero_mul,Int.zero_ediv]
   exact Nat.le_refl _
  ·have p:0<=sZ N i*(N-(i:Int)):=Int.mul_nonneg a1 (by (first|lia|omega))
   have q:=Int.ediv_le_self ((i:Int)+1) p
   have r:=Int.ediv_nonneg p (show (0:Int)<=(i:Int)+1 by (first|lia|omega))
   (first|lia|omega)
noncomputable def mxZ (N:Int):Int:=if N-1>0 then N-1 else 0
noncomputable def mnZ (kind:Str)(N:Int):Int×Int:=if kind= "rises" then lowZ (mxZ N) 2 else lowZ (N*(N-1)) 4
noncomputable def sdZ (kind:Str)(N:Int):Int×Int:=if kind= "rises" then lowZ ((if decide (1<N)=true then 1 else 0)*(N+1)) 12 else lowZ (N*(N-1)*(2*N+5)) 72
theorem tw_even (N:Int):N*(N-1)/2*2=N*(N-1):=by
 refine Int.ediv_mul_cancel ?_
 have h:=Int.emod_two_eq N
 rcases h with h|h
 ·exact Int.dvd_mul_of_dvd_left (Int.dvd_of_emod_eq_zero h)
 ·exact Int.dvd_mul_of_dvd_right (Int.dvd_of_emod_eq_zero (by (first|lia|omega)))
theorem zgX (N:Int):N*(N-1)/2*(N-2)/3*3=N*(N-1)/2*(N-2):=by
 refine Int.ediv_mul_cancel ?_
 have e:=tw_even N
 generalize N*(N-1)/2=t at*
 have h:N%3=0∨N%3=1∨N%3=2:=by (first|lia|omega)
 have two:∀x:Int,(3:Int) ∣ x*2->3 ∣ x:=fun x hx=>by (first|lia|omega)
 rcases h with h|h|h
 ·refine Int.dvd_mul_of_dvd_left (two t ?_)
  rw[e]
  exact Int.dvd_mul_of_dvd_left (Int.dvd_of_emod_eq_zero h)
 ·refine Int.dvd_mul_of_dvd_left (two t ?_)
  rw[e]
  exact Int.dvd_mul_of_dvd_right (Int.dvd_of_emod_eq_zero (by (first|lia|omega)))
 ·exact Int.dvd_mul_of_dvd_right (Int.dvd_of_emod_eq_zero (by (first|lia|omega)))
theorem ziG (N:Int):lowZ (N*(N-1)/2) 2=lowZ (N*(N-1)) 4:=by
 refine ze0 (by decide) (by decide) ?_
 have e:=tw_even N
 (first|lia|omega)
theorem zgY (N:Int):lowZ (3*(N*(N-1)/2)+2*(N*(N-1)/2*(N-2)/3)) 12=lowZ (N*(N-1)*(2*N+5)) 72:=by
 refine ze0 (by decide) (by decide) ?_
 have e:=tw_even N
 have e3:=zgX N
 generalize N*(N-1)/2=t at*
 rw[<-e]
 generalize t*(N-2)/3=u at*
 have x1:t*(N-2)=t*N-t*2:=Int.mul_sub ..
 have x2:t*2*(2*N+5)=4*(t*N)+10*t:=by
  rw[Int.mul_add,Int.mul_comm 2 N,<-Int.mul_assoc,Int.mul_right_comm t 2 N]
  (first|lia|omega)
 rw[x2]
 (first|lia|omega)
theorem ziH (N:Int)(h0:0<=N):lowZ (if (0:Int)>N-1 then 0 else N-1) 2=lowZ (mxZ N) 2:=by
 unfold mxZ
 congr 1
 split<;>split<;>(first|lia|omega)
theorem zgZ (N:Int)(h0:0<=N):lowZ (3*(if (0:Int)>N-1 then 0 else N-1)-2*(if (0:Int)>N-2 then 0 else N-2)) 12=lowZ ((if decide (1<N)=true then 1 else 0)*(N+1)) 12:=by
 congr 1
 by_cases h:1<N
 ·rw [if_pos (decide_eq_true h),if_neg (by (first|lia|omega)),if_neg (by (first|lia|omega))]
  (first|lia|omega)
 ·rw [show decide (1<N)=false from decide_eq_false h]
  by_cases e:N=0
  ·subst e;decide
  ·rw[show N=1 by (first|lia|omega)];decide
theorem zdh {kind:Str}{N:Int}(h0:0<=N)(h1:N<=10^30):ShB (mnZ kind N) 600:=by
 have a:=sm_N h0 h1
 have b:=zd4 (i:=1) h0 h1 (by decide)
 unfold mnZ
 split
 ·refine ShB.low (by decide) ?_ (Sm.of (by decide+kernel))
  unfold mxZ
  split
  ·exact b.mono (by decide)
  ·exact Sm.of (by decide+kernel)
 ·exact ShB.low (by decide) ((a.mul b).mono (by decide)) (Sm.of (by decide+kernel))
theorem zjd {N:Int}(h0:0<=N)(h1:N<=10^30):Sm (2*N+5) 110:=Sm.of (by
 have:2*(10:Int)^30+5<2^110:=by decide+kernel
 (first|lia|omega))
theorem zje {N:Int}(h0:0<=N)(h1:N<=10^30):Sm (N+1) 110:=Sm.of (by
 have:(10:Int)^30+1<2^110:=by decide+kernel
 (first|lia|omega))
theorem zf7 (b:Bool):Sm (if b=true then 1 else 0) 10:=by cases b<;>exact Sm.of (by decide)
theorem zdi {kind:Str}{N:Int}(h0:0<=N)(h1:N<=10^30):ShB (sdZ kind N) 600:=by
 have a:=sm_N h0 h1
 have b:=zd4 (i:=1) h0 h1 (by decide)
 unfold sdZ
 split
 ·exact ShB.low (by decide) (((zf7 _).mul (zje h0 h1)).mono (by decide)) (Sm.of (by decide+kernel))
 ·exact ShB.low (by decide) (((a.mul b).mul (zjd h0 h1)).mono (by decide)) (Sm.of (by decide+kernel))
theorem ziI {kind:Str}{N:Int}:lowZ (sdZ kind N).1 (sdZ kind N).2=sdZ kind N:=by
 unfold sdZ
 split<;>exact zhI (by decide)
noncomputable def farZ (kind:Str)(N k:Int):Int:=k*(mnZ kind N).2-(mnZ kind N).1
noncomputable def ovZ (kind:Str)(N:Int):Int:=(sdZ kind N).1*(mnZ kind N).2*(mnZ kind N).2
noncomputable def unZ (kind:Str)(N k:Int):Int:=(sdZ kind N).2*farZ kind N k*farZ kind N k
noncomputable def sbZ (kind:Str)(N k:Int):Int×Int:=if farZ kind N k<=0 then (1,1) else lowZ (ovZ kind N) (unZ kind N k)
theorem zc7 {kind:Str}{N k:Int}(h0:0<=N)(h1:N<=10^30)(k0:0<=k)(k1:k<=60):Sm (farZ kind N k) 700:=by
 have b:=zdh (kind:=kind) h0 h1
 have hk:Sm k 6:=Sm.of (by (first|lia|omega))
 unfold farZ
 exact (Sm.sub ((hk.mul b.s2).mono (show 6+600<=606 by decide)) (b.s1.mono (by decide))).mono (by decide)
theorem zbF {kind:Str}{N k:Int}(h0:0<=N)(h1:N<=10^30)(hf:0<farZ kind N k):0<unZ kind N k:=Int.mul_pos (Int.mul_pos (zdi h0 h1).pos hf) hf
theorem zd5 {kind:Str}{N k:Int}:leZ (k,1) (mnZ kind N)=lowZ (farZ kind N k) (mnZ kind N).2:=by
 unfold leZ farZ
 dsimp only
 rw[Int.mul_one,Int.one_mul]
theorem zd6 {a b:Int}(hb:0<b):ltZ (0,1) (lowZ a b)=decide (0<a):=by
 rw[show ((0,1):Int×Int)=lowZ 0 1 from low_one.symm,zhm (by decide) hb,Int.zero_mul,Int.mul_one]
theorem ze1 {kind:Str}{N k:Int}(h0:0<=N)(h1:N<=10^30)(hf:0<farZ kind N k):ptZ (sdZ kind N) (tmZ (lowZ (farZ kind N k) (mnZ kind N).2) (lowZ (farZ kind N k) (mnZ kind N).2))=lowZ (ovZ kind N) (unZ kind N k):=by
 have m0:=(zdh (kind:=kind) h0 h1).pos
 rw[zd3 m0 m0]
 have e:=ziI (kind:=kind) (N:=N)
 have s0:=(zdi (kind:=kind) h0 h1).pos
 unfold ovZ unZ
 generalize sdZ kind N=s at*
 conv=>lhs;rw[<-e]
 rw[ziF s0 (Int.mul_pos m0 m0) (Int.mul_pos hf hf),Int.mul_assoc,Int.mul_assoc]
theorem ziJ {kind:Str}{N k:Int}(h0:0<=N)(h1:N<=10^30)(k0:0<=k)(k1:k<=60):ShB (sbZ kind N k) 2500:=by
 have m:=zdh (kind:=kind) h0 h1
 have d:=zdi (kind:=kind) h0 h1
 have f:=zc7 (kind:=kind) h0 h1 k0 k1
 unfold sbZ
 by_cases hf:farZ kind N k<=0
 ·rw [if_pos hf]
  exact⟨by decide,Sm.of (by decide+kernel),Sm.of (by decide+kernel)⟩
 ·rw [if_neg hf]
  refine ShB.low (zbF h0 h1 (by (first|lia|omega))) ?_ ?_
  ·unfold ovZ
   exact ((d.s1.mul m.s2).mul m.s2).mono (by decide)
  ·unfold unZ
   exact ((d.s2.mul f).mul f).mono (by decide)
noncomputable def bSt (N:Int)(k:Nat):Int×Int:=if (k:Int)<=N then (1,fcZ k) else (0,1)
noncomputable def bLg (N:Int)(k:Nat):Int×Int:=lowZ (sZ N k) (fcZ k)
noncomputable def bGr (N:Int)(k:Nat):Int×Int:=lowZ (figZ N^k) (fcZ k)
noncomputable def zaT (kind:Str)(N:Int)(k:Nat):Int×Int:=if k=0 then (1,1) else if kind= "stays" then bSt N k else if kind= "longest" then capZ (sZ N k) (fcZ k) else if kind= "rounds" ∨kind= "highs" then capZ (figZ N^k) (fcZ k) else if farZ kind N k<=0 then (1,1) else capZ (ovZ kind N) (unZ kind N k)
theorem ziK {N:Int}{k:Nat}:minZ (1,1) (bSt N k)=bSt N k:=by
 unfold minZ bSt ltZ
 have f:=zaj k
 by_cases h:(k:Int)<=N
 ·rw [if_pos h]
  dsimp only
  by_cases c:fcZ k=1
  ·rw[c];rfl
  ·rw[if_pos (decide_eq_true (by (first|lia|omega)))]
 ·rw [if_neg h]
  rfl
theorem zhn {kind:Str}{N:Int}{k:Nat}(h0:0<=N)(h1:N<=10^30):minZ (1,1) (sbZ kind N k)=if farZ kind N k<=0 then (1,1) else capZ (ovZ kind N) (unZ kind N k):=by
 unfold sbZ
 by_cases h:farZ kind N k<=0
 ·rw [if_pos h,if_pos h]
  rfl
 ·rw [if_neg h,if_neg h]
  exact zdg (zbF h0 h1 (by (first|lia|omega)))
theorem ziL {N:Int}{k:Nat}(hk:k<=60):ShB (bSt N k) 8000:=by
 unfold bSt
 split
 ·exact⟨zaj k,sm1.mono (by decide),(zau (by (first|lia|omega))).mono (by decide)⟩
 ·exact⟨by decide,Sm.of (by decide+kernel),Sm.of (by decide+kernel)⟩
theorem ze2 {N:Int}(h0:0<=N)(h1:N<=10^30):0<=figZ N/\figZ N<=100:=by
 have:=sm_N h0 h1
 unfold figZ
 unfold Sm at this
 (first|lia|omega)
theorem zf8 {N:Int}(h0:0<=N)(h1:N<=10^30):∀k:Nat,Sm (figZ N^k) (7*k+1)
 |0=>Sm.of (show (1:Int).natAbs<2^1 by decide)
 |k+1=>by
  have f:=ze2 h0 h1
  rw[Int.pow_succ]
  exact ((zf8 h0 h1 k).mul (show Sm (figZ N) 7 from Sm.of (by (first|lia|omega)))).mono (by (first|lia|omega))
theorem zjf {N:Int}{k:Nat}(h0:0<=N)(h1:N<=10^30)(hk:k<=60):ShB (bLg N k) 8000:=ShB.low (zaj k) ((zey h0 h1 k hk).mono (by (first|lia|omega))) ((zau (by (first|lia|omega))).mono (by decide))
theorem ziM {N:Int}{k:Nat}(h0:0<=N)(h1:N<=10^30)(hk:k<=60):ShB (bGr N k) 8000:=ShB.low (zaj k) ((zf8 h0 h1 k).mono (by (first|lia|omega))) ((zau (by (first|lia|omega))).mono (by decide))
noncomputable def zdj:Sp:=fun vs H Q _=>∃(x y:Addr) (p q:Int×Int),vs=[.ref x,.ref y]/\Shr H x p/\Shr H y q/\ShB p 8000/\ShB q 8000/\∀H',Same H H'->Q (.bl (ltZ p q)) H'
noncomputable def zhM (g:Int×Int->Int×Int->Int×Int):Sp:=fun vs H Q _=>∃(x y:Addr) (p q:Int×Int),vs=[.ref x,.ref y]/\Shr H x p/\Shr H y q/\ShB p 8000/\ShB q 8000/\∀z H',Same H H'->Shr H' z (g p q)->Q (.ref z) H'
noncomputable def spN1 (g:Int->Int×Int):Sp:=fun vs H Q _=>∃N:Int,vs=[.int N]/\0<=N/\N<=10^30/\∀z H',Same H H'->Shr H' z (g N)->Q (.ref z) H'
noncomputable def spKN (g:Str->Int->Int×Int):Sp:=fun vs H Q _=>∃(kind:Str) (N:Int),vs=[.str kind,.int N]/\(kind= "rises" ∨kind= "crossed")/\0<=N/\N<=10^30/\∀z H',Same H H'->Shr H' z (g kind N)->Q (.ref z) H'
noncomputable def spNK (g:Int->Nat->Int×Int):Sp:=fun vs H Q _=>∃(N:Int) (k:Nat),vs=[.int N,.int k]/\0<=N/\N<=10^30/\k<=60/\∀z H',Same H H'->Shr H' z (g N k)->Q (.ref z) H'
noncomputable def zg0:Sp:=fun vs H Q _=>∃(kind:Str) (N:Int) (k:Nat),vs=[.str kind,.int N,.int k]/\(kind= "rises" ∨kind= "crossed")/\0<=N/\N<=10^30/\k<=60/\∀z H',Same H H'->Shr H' z (sbZ kind N k)->Q (.ref z) H'
noncomputable def zai:List Str:=["rounds", "stays", "rises", "highs", "crossed", "longest"]
noncomputable def zd7:Sp:=fun vs H Q _=>∃(kind:Str) (N:Int) (k:Nat),vs=[.str kind,.int N,.int k]/\kind∈zai/\0<=N/\N<=10^30/\k<=60/\∀z H',Same H H'->Shr H' z (zaT kind N k)->Q (.ref z) H'
noncomputable def zd8:Sp:=fun vs H Q _=>∃(N:Int) (k:Nat),vs=[.int N,.int k]/\0<=N/\N<=10^30/\k<=60/\Q (.int (sZ N k)) H
noncomputable def zhN:Sp:=fun vs H Q _=>∃(b:Int) (k:Nat),vs=[.int b,.int k]/\0<=b/\b<=1000/\k<=60/\Q (.int (b^k)) H
noncomputable def zbG:Sp:=fun vs H Q _=>∃p:Addr,vs=[.ref p]/\Pot2 H p/\∀x H',0<=x->x<=10^30->Pot2 H' p->Keep p p H H'->Q (.int x) H'
theorem p10:∀n<31,(1:Int)<=10^n/\(10:Int)^n<=10^30:=by decide+kernel
theorem zhO {m:Int}{f:Nat}(m1:0<=m)(h:m<2^f)(h2:f=0∨(2:Int)^(f-1)<=m):Builtin.Int.intBits m=f:=by
 have c:∀k:Nat,((2^k:Nat):Int)=(2:Int)^k:=fun k=>by simp
 have a1:Builtin.Int.intBits m<=f:=intBits_le_iff.mpr (by have:=c f;(first|lia|omega))
 by_cases f0:f=0
 ·(first|lia|omega)
 ·have h2:(2:Int)^(f-1)<=m:=by
   rcases h2 with h2|h2
   ·exact absurd h2 f0
   ·exact h2
  have a2:¬Builtin.Int.intBits m<=f-1:=fun z=>by
   have:=intBits_le_iff.mp z
   have:=c (f-1)
   (first|lia|omega)
  (first|lia|omega)
noncomputable abbrev Sh:=Int×Int
section
variable {κ:Type}[DecidableEq κ]
end
section
variable {P:Program}{w:World}{H:Hp}{h:Heap}{a:Addr}
theorem zjg {u:HO}(ok:HOk P w H h)(e:Rd H a u):ObjOk P w H h a u:=e.ok ok
theorem zjh {kvs:List (Key×V)}(ok:HOk P w H h)(e:Rd H a (.dK kvs)):kvs.length<=sizeLine/\(a==sysModules)=false/\∃vs,KV kvs vs/\h.DictOf (zcj P w) a vs:=
 show ObjOk P w H h a (.dK kvs) from zjg ok e
theorem zji {kvs:List (Key×V)}(ok:HOk P w H h)(e:H a=some (.dK kvs)):kvs.length<=sizeLine/\(a==sysModules)=false/\∃vs,KV kvs vs/\h.DictOf (zcj P w) a vs:=zjh ok (.inl e)
end
section
variable {X:Cx}{pins:List (Addr×Obj)}{σ:St}{H:Hp}{s:Shared}{a:Addr}{y v:V}{u r:Value}{o:Option V}{A:Around}{E:Value->Shared->Prop}
end
section
variable {X:Cx}{pins:List (Addr×Obj)}{σ:St}{H:Hp}{s:Shared}{a:Addr}{kvs:List (Key×V)}{k:Key}{u:Value}{A:Around}{E:Value->Shared->Prop}
end
section
variable {X:Cx}{o i e value:Expr}{pos pos' tpos:Pos}{td ty tv:TE}
end
section
variable {X:Cx}{pos:Pos}
end
structure M1 (X:Cx) (o:Expr) (m:Str) (apos:Pos) (e:Expr) (cpos:Pos):Prop where
 base:attributeBase o m X.env (eval o X.env)=eval o X.env
 few:((backTo cpos (starEach [e] X.env)).all (fun x=> !x.1)&&(backToKw cpos (keywordEach [] X.env)).all (fun x=>x.1.isSome)
  &&decide (([e]:List Expr).length+([]:List Keyword).length+(if ([]:List Keyword).isEmpty then 0 else 1)<30))=true
 line:(apos.endLine==cpos.line)=true
 trees:backTo cpos (starEach [e] X.env)=[(false,eval e X.env)]
structure M2 (X:Cx) (o:Expr) (m:Str) (apos:Pos) (e f:Expr) (cpos:Pos):Prop where
 base:attributeBase o m X.env (eval o X.env)=eval o X.env
 few:((backTo cpos (starEach [e,f] X.env)).all (fun x=> !x.1)&&(backToKw cpos (keywordEach [] X.env)).all (fun x=>x.1.isSome)
  &&decide (([e,f]:List Expr).length+([]:List Keyword).length+(if ([]:List Keyword).isEmpty then 0 else 1)<30))=true
 line:(apos.endLine==cpos.line)=true
 trees:backTo cpos (starEach [e,f] X.env)=[(false,eval e X.env),(false,eval f X.env)]
section
variable {X:Cx}{pins:List (Addr×Obj)}{σ:St}{H:Hp}{s:Shared}{a:Addr}{y d:V}{u r:Value}{o:Option V}{A:Around}{E:Value->Shared->Prop}
end
section
variable {X:Cx}{o e f:Expr}{apos cpos:Pos}{td ty tx:TE}
end
section
variable {X:Cx}{pins:List (Addr×Obj)}{σ:St}{H:Hp}{s:Shared}{a:Addr}{kvs:List (Key×V)}{A:Around}{E:Value->Shared->Prop}
end
section
variable {X:Cx}{pins:List (Addr×Obj)}{σ:St}{H:Hp}{s:Shared}{a:Addr}{y:V}{u:Value}{A:Around}{E:Value->Shared->Prop}
end
noncomputable def kD:Key->PyData
 | .inl i=>.int i
 | .inr x=>.str x
mutual
inductive IsY (S:Addr->Prop) (H:Hp):V->PyData->Prop
 |non:IsY S H .non .none
 |bl (b:Bool):IsY S H (.bl b) (.bool b)
 |int (i:Int):IsY S H (.int i) (.int i)
 |str (x:Str):IsY S H (.str x) (.str x)
 |tup {a:Addr} {vs:List V} {ds:List PyData}:H a=some (.tup vs)->IsAllY S H vs ds->IsY S H (.ref a) (.tuple ds)
 |lst {a:Addr} {vs:List V} {ds:List PyData}:H a=some (.lst vs)->S a->IsAllY S H vs ds->IsY S H (.ref a) (.list ds)
 |d0 {a:Addr}:H a=some (.dK [])->IsY S H (.ref a) (.dict [])
 |d1 {a:Addr} {k:Key} {v:V} {d:PyData}:H a=some (.dK [(k,v)])->IsY S H v d->IsY S H (.ref a) (.dict [(kD k,d)])
inductive IsAllY (S:Addr->Prop) (H:Hp):List V->List PyData->Prop
 |nil:IsAllY S H [] []
 |cons {v:V} {vs:List V} {d:PyData} {ds:List PyData}:IsY S H v d->IsAllY S H vs ds->IsAllY S H (v::vs) (d::ds)
end
noncomputable def tyD:PyData->String
 | .none=> "NoneType" | .bool _=> "bool" | .int _=> "int" | .str _=> "str" | .list _=> "list" | .tuple _=> "tuple" | .dict _=> "dict"
noncomputable def zd9:List String:=["NoneType", "bool", "int", "str", "list", "tuple", "dict"]
theorem zf9 (d:PyData):tyD d∈zd9:=by cases d<;>simp[tyD,zd9]
theorem IsY.ty {K:PySem.W.Frag}{S:Addr->Prop}{H:Hp}{v:V}{d:PyData}(h:IsY S H v d):TyOf K H v (.type (tyD d)):=by
 cases h with
 |non=>exact .non
 |bl b=>exact .bl b
 |int i=>exact .int i
 |str x=>exact .str x
 |tup e _=>exact .tup e
 |lst e _ _=>exact .lst e
 |d0 e=>exact .dK e
 |d1 e _=>exact .dK e
theorem kit7 {K:PySem.W.Frag}{t:String}(h:t∈zd9):
  PySem.W.kitOne K (.type t) (.type "int")=some (t== "bool" ||t== "int")/\PySem.W.kitOne K (.type t) (.type "bool")=some (t== "bool")/\PySem.W.kitOne K (.type t) (.type "tuple")=some (t== "tuple"):=by
 have:t= "NoneType" ∨t= "bool" ∨t= "int" ∨t= "str" ∨t= "list" ∨t= "tuple" ∨t= "dict" :=by simpa [zd9] using h
 rcases this with rfl|rfl|rfl|rfl|rfl|rfl|rfl<;>exact⟨zaf (by decide+kernel),zaf (by decide+kernel),zaf (by decide+kernel)⟩
mutual
theorem IsY.map {S S':Addr->Prop}{H H':Hp}(hS:∀a,S a->S' a)(ht:∀a xs,H a=some (.tup xs)->H' a=some (.tup xs))(hl:∀a xs,S a->H a=some (.lst xs)->H' a=some (.lst xs))(hd:∀a xs,H a=some (.dK xs)->H' a=some (.dK xs)):∀{v:V} {d:PyData},IsY S H v d->IsY S' H' v d
 |_,_,.non=>.non
 |_,_,.bl b=>.bl b
 |_,_,.int i=>.int i
 |_,_,.str x=>.str x
 |_,_,.tup e al=>.tup (ht _ _ e) (IsAllY.map hS ht hl hd al)
 |_,_,.lst e s al=>.lst (hl _ _ s e) (hS _ s) (IsAllY.map hS ht hl hd al)
 |_,_,.d0 e=>.d0 (hd _ _ e)
 |_,_,.d1 e al=>.d1 (hd _ _ e) (IsY.map hS ht hl hd al)
theorem IsAllY.map {S S':Addr->Prop}{H H':Hp}(hS:∀a,S a->S' a)(ht:∀a xs,H a=some (.tup xs)->H' a=some (.tup xs))(hl:∀a xs,S a->H a=some (.lst xs)->H' a=some (.lst xs))(hd:∀a xs,H a=some (.dK xs)->H' a=some (.dK xs)):∀{vs:List V} {ds:List PyData},IsAllY S H vs ds->IsAllY S' H' vs ds
 |_,_,.nil=>.nil
 |_,_,.cons h t=>.cons (IsY.map hS ht hl hd h) (IsAllY.map hS ht hl hd t)
end
theorem IsY.same {S:Addr->Prop}{H H':Hp}(s:Same H H'){v:V}{d:PyData}(h:IsY S H v d):IsY S H' v d:=IsY.map (fun _ z=>z) (fun a _=>s a _) (fun a _ _=>s a _) (fun a _=>s a _) h
theorem IsAllY.same {S:Addr->Prop}{H H':Hp}(s:Same H H'){v:List V}{d:List PyData}(h:IsAllY S H v d):IsAllY S H' v d:=IsAllY.map (fun _ z=>z) (fun a _=>s a _) (fun a _ _=>s a _) (fun a _=>s a _) h
theorem IsAllY.append {S:Addr->Prop}{H:Hp}:∀{v w:List V} {d e:List PyData},IsAllY S H v d->IsAllY S H w e->IsAllY S H (v++w) (d++e)
 |_,_,_,_,.nil,h=>h
 |_,_,_,_,.cons a t,h=>.cons a (IsAllY.append t h)
theorem IsAllY.len {S:Addr->Prop}{H:Hp}:∀{v:List V} {d:List PyData},IsAllY S H v d->v.length=d.length
 |_,_,.nil=>rfl
 |_,_,.cons _ t=>by rw[List.length_cons,List.length_cons,IsAllY.len t]
theorem IsAllY.at {S:Addr->Prop}{H:Hp}:∀{v:List V} {d:List PyData} {i:Nat} {x:V},IsAllY S H v d->v[i]? =some x->∃e,d[i]? =some e/\IsY S H x e
 |_,_,_,_,.nil,h=>by simp at h
 |_,_,0,_,.cons a _,h=>by
  simp at h
  subst h
  exact⟨_,rfl,a⟩
 |_,_,i+1,_,.cons _ t,h=>by
  obtain⟨e,h1,h2⟩:=IsAllY.at (i:=i) t (by simpa using h)
  exact⟨e,by simpa using h1,h2⟩
section
variable {X:Cx}{pins:List (Addr×Obj)}{σ:St}{H:Hp}{s:Shared}
end
theorem zez {X:Cx}:OpR X (compareOp .IsNot) (fun x y H Q=>∃a b,x=.bl a/\y=.bl b/\Q (.bl (!(a==b))) H):=by
 intro pins s σ H x y v u Q I rx ry h
 obtain⟨a,b,rfl,rfl,q⟩:=h
 cases (show v=Value.bool a from rx)
 cases (show u=Value.bool b from ry)
 refine wpAny_pure ⟨.bl (!(a==b)),H,I, ?_,q⟩
 show Value.bool _=Value.bool _
 cases a<;>cases b<;>rfl
open Classical in
noncomputable def Kn (K:PySem.W.Frag)(H:Hp)(y:V):Prop:=∃t:String,TyOf K H y (.type t)/\t∈zd9
theorem IsY.kn {K:PySem.W.Frag}{S:Addr->Prop}{H:Hp}{x:V}{d:PyData}(h:IsY S H x d):Kn K H x:=⟨_,h.ty,zf9 d⟩
theorem tyI {K:PySem.W.Frag}{H:Hp}{y:V}{t:String}(h:TyOf K H y (.type t)):t= "int" ↔∃n:Int,y=.int n:=by
 cases h<;>simp
noncomputable def isIv:V->Bool
 | .int _=>true
 |_=>false
noncomputable def zg1 (K:PySem.W.Frag):Sp:=fun vs H Q _=>∃x,vs=[x]/\Kn K H x/\Q (.bl (isIv x)) H
theorem isIv_iff {y:V}:isIv y=true↔∃n:Int,y=.int n:=by
 cases y<;>simp[isIv]
noncomputable def lit:Nat->Expr->Option PyData
 |0,_=>none
 |_+1,.Constant .none _ _=>some .none
 |_+1,.Constant (.bool b) _ _=>some (.bool b)
 |_+1,.Constant (.int i) _ _=>some (.int i)
 |_+1,.Constant (.str x) _ _=>some (.str x)
 |_+1,.UnaryOp .USub (.Constant (.int i) _ _) _=>some (.int (-i))
 |n+1,.Tuple es _ _=>if es.length<=100 then (es.mapM (lit n)).map PyData.tuple else none
 |n+1,.List es _=>if es.length<=100 then (es.mapM (lit n)).map PyData.list else none
 |_+1,.Dict [] [] _=>some (.dict [])
 |_+1,_=>none
theorem zg2 {J:It}{Ok:Hp->Prop}{xs:List V}{te:TE}{ix:List Nat}{σ:L2.St}{H1:Hp}{Q:VK}(Y:Yields J Ok xs)(small:xs.length<sizeLine)(bs:List Bool)(hbs:bs.length=xs.length)(hok:∀H,Same H1 H->Ok H)
  (he:∀(i:Nat) (x:V) (b:Bool) (H:Hp),xs[i]? =some x->bs[i]? =some b->Same H1 H->∀(QT:VK),(∀H',Same H H'->QT (.bl b) H')->te (some x::ix.map fun i=>σ.getD i none) H QT)
  (fin:∀acc H',H1 acc=none->Same H1 H'->H' acc=some (.lst (bs.map V.bl))->Q (.ref acc) H'):
  LcW J H1 (zbr 0) zbt te 1 ix σ Q:=by
 intro acc ha
 refine⟨fun i m H=>m=xs.length-i/\i<=xs.length/\Same H1 H/\H acc=some (.lst ((bs.take i).map V.bl)),⟨xs.length,by simp,Nat.zero_le _,zaa ha,zab⟩, ?_⟩
 rintro i m H ⟨rfl,hi,sm,hacc⟩
 have o:=hok _ sm
 by_cases hlt:i<xs.length
 ·refine .inr ⟨Y.go i _ o hlt,fun x H' y=> ?_⟩
  obtain⟨rfl,hx⟩:=Y.yld i _ x H' o hlt y
  refine⟨⟨rfl,fun j v e=> ?_⟩, ?_⟩
  ·cases j with
   |zero=>cases e
   |succ j=>exact e
  ·unfold zbt
   dsimp only
   rw[if_pos rfl]
   have hb:bs[i]? =some bs[i]:=List.getElem?_eq_getElem (by (first|lia|omega))
   refine he i x bs[i] H' hx hb sm _ (fun H4 s4=> ?_)
   have h4:=s4 _ _ hacc
   refine⟨_,h4,by rw[List.length_map,List.length_take];(first|lia|omega),xs.length-(i+1),by (first|lia|omega),rfl,hlt,fun b o' hb'=> ?_, ?_⟩
   ·have hba:b≠acc:=fun e=>by rw[e,ha] at hb';cases hb'
    rw[zak hba]
    exact s4 b _ (sm b _ hb')
   ·rw [zab,List.take_succ,hb,List.map_append]
    rfl
 ·have e:i=xs.length:=by (first|lia|omega)
  subst e
  rw[<-hbs,List.take_length] at hacc
  exact .inl ⟨Y.stop _ o,fin acc H ha sm hacc⟩
noncomputable def whD:PyData->Bool
 | .int _=>true
 |_=>false
noncomputable def zcu:PyData->Bool
 | .tuple ds=>ds.all whD
 |_=>false
noncomputable def asI:PyData->Int
 | .int n=>n
 |_=>0
theorem zga {S:Addr->Prop}{H:Hp}:∀{vs:List V} {ds:List PyData},IsAllY S H vs ds->ds.all whD=true->vs=(ds.map asI).map V.int
 |_,_,.nil,_=>rfl
 |_,_,.cons (d:=d) h t,a=>by
  rw[List.all_cons,Bool.and_eq_true] at a
  rw[zga t a.2]
  cases h with
  |int i=>rfl
  |_=>cases a.1
noncomputable def Sz (n:Nat)(d:PyData):Prop:=d.bulk<=n
theorem zea:∀ds:List PyData,ds.length<=PyData.bulkAll ds
 |[]=>Nat.zero_le _
 |d::r=>by
  have:=zea r
  simp only[PyData.bulkAll,List.length_cons];(first|lia|omega)
theorem Sz.tup {n:Nat}{ds:List PyData}(h:Sz n (.tuple ds)):ds.length<=n/\∀d∈ds,Sz n d:=by
 have h:PyData.bulkAll ds<=n:=by simpa only[Sz,PyData.bulk] using h
 induction ds with
 |nil=>exact⟨Nat.zero_le _,fun _ h=>by cases h⟩
 | cons d r ih=>
  simp only[PyData.bulkAll] at h
  have:=ih (by simpa only[Sz,PyData.bulk] using (by (first|lia|omega):PyData.bulkAll r<=n)) (by (first|lia|omega))
  have hl:=zea r
  refine⟨by rw[List.length_cons];(first|lia|omega),fun e he=> ?_⟩
  rcases List.mem_cons.mp he with rfl|he
  ·show e.bulk<=n
   (first|lia|omega)
  ·exact this.2 e he
noncomputable def zgb:Sp:=fun vs H Q _=>∃S x d,vs=[x]/\IsY S H x d/\Sz 1000 d/\∀H',Same H H'->Q (.bl (zcu d)) H'
theorem IsY.isT {S:Addr->Prop}{H:Hp}{x:V}{d:PyData}(h:IsY S H x d):(∃a vs ds,x=.ref a/\d=.tuple ds/\H a=some (.tup vs)/\IsAllY S H vs ds)∨(tyD d≠ "tuple" /\∀ds,d≠.tuple ds):=by
 cases h with
 |tup e al=>exact .inl ⟨_,_,_,rfl,rfl,e,al⟩
 |_=>exact .inr ⟨(by simp[tyD]),fun _=>(by intro z;cases z)⟩
structure PEw (X:Cx) (e:Expr) (t:TE):Prop where
 h:PE X e t
structure PAw (X:Cx) (e:List Expr) (t:TA):Prop where
 h:PA X e t
structure PTw (X:Cx) (e:Expr) (t:TT):Prop where
 h:PT X e t
structure PWw (X:Cx) (e:Expr) (t:TT):Prop where
 h:PW X e t
structure PSw (X:Cx) (e:Stmt) (t:TS):Prop where
 h:PS X e t
structure PSsw (X:Cx) (e:List Stmt) (t:TS):Prop where
 h:PSs X e t
end L2
namespace Wr
open PySem PySem.Spec PyProof.Rows L2
theorem pss_cons {X:Cx}{st:PySem.Stmt}{rest:List PySem.Stmt}{t u:TS}(h1:PSw X st t)(h2:PSsw X rest u):PSsw X (st::rest) (tSeq t u):=⟨L2.pss_cons h1.h h2.h⟩
theorem pss_one {X:Cx}{st:PySem.Stmt}{t:TS}(h1:PSw X st t):PSsw X [st] t:=⟨L2.pss_one h1.h⟩
theorem pss_nil {X:Cx}:PSsw X [] zik:=⟨L2.pss_nil⟩
theorem ps_set {X:Cx}{pos:PySem.Pos}{i:Nat}{x:Str}{e:Expr}{te:TE}{pos':Pos}(hN:X.N.Nodup)(hi:X.N[i]? =some x)(hx:Loc X.env.scope x)(he:PEw X e te)(hs:swapsWith e (some (.Name x pos')) pos.line X.env=pure false:=by rfl)(hf:X.fn x=true∨X.env.scope.names.lookup x=some .local:=by first|exact .inl rfl|exact .inr rfl|assumption):PSw X (.Assign [.Name x pos'] e pos) (tAsg te (zbr i)):=⟨L2.ps_set hN hi hx he.h hs hf⟩
theorem ps_par {X:Cx}{pos:PySem.Pos}{i j:Nat}{x y:Str}{a b:Expr}{ta:TA}{px py pt:Pos}{kt k2 pt2}(hc:X.calm=true)(hN:X.N.Nodup)(hi:X.N[i]? =some x)(hj:X.N[j]? =some y)(hij:i≠j)(hx:X.env.scope.names.lookup x=some .local)(hy:X.env.scope.names.lookup y=some .local)(ha:PAw X [a,b] ta)(hw:swappedStores [.Tuple [.Name x px,.Name y py] kt pt] (.Tuple [a,b] k2 pt2) X.env=pure (some [x,y]))(hs:swapsWithSole [.Tuple [.Name x px,.Name y py] kt pt] (.Tuple [a,b] k2 pt2) pos.line X.env=pure false:=by rfl):PSw X (.Assign [.Tuple [.Name x px,.Name y py] kt pt] (.Tuple [a,b] k2 pt2) pos) (tPar i j ta):=⟨L2.ps_par hc hN hi hj hij hx hy ha.h hw hs⟩
theorem ps_asg {X:Cx}{pos:PySem.Pos}{tg e:Expr}{te:TE}{g:TG}(he:PEw X e te)(hg:PG X tg g)(hs:swapsWithSole [tg] e pos.line X.env=pure false:=by rfl)(hw:swappedStores [tg] e X.env=pure none:=by rfl)(h1:(assignEach [tg] X.env).map (·.2)=[assign tg X.env]:=by rfl):PSw X (.Assign [tg] e pos) (tAsg te g):=⟨L2.ps_asg he.h hg hs hw h1⟩
theorem ps_for {X:Cx}{tg:PySem.Expr}{iter:Expr}{body:List Stmt}{wi:TI}{g:TG}{tb:TS}{pos:Pos}(hp:PassesOwn (model X.prog X.w) X.A X.env X.xe)(hc:X.calm=true)(hi:PI X tg iter wi)(hg:PG X tg g)(hb:PSsw X body tb)(hs:∀x,foldedSetIterable iter X.env x=pure x:=by intro _;rfl):PSw X (.For tg iter body [] pos) (tFor wi g tb):=⟨L2.ps_for hp hc hi hg hb.h hs⟩
theorem ps_if {X:Cx}{t u:TS}{pos:PySem.Pos}{c:Expr}{a b:List Stmt}{tc:TT}(hc:PTw X c tc)(ha:PSsw X a t)(hb:PSsw X b u):PSw X (.If c a b pos) (tIfS tc t u):=⟨L2.ps_if hc.h ha.h hb.h⟩
theorem ps_ret {X:Cx}{e:PySem.Expr}{te:TE}{pos:PySem.Pos}(he:PEw X e te):PSw X (.Return (some e) pos) (tRet te):=⟨L2.ps_ret he.h⟩
theorem pe_int {X:Cx}{i j pos}:PEw X (.Constant (.int i) j pos) (tC (.int i)):=⟨L2.pe_int⟩
theorem pe_bl {X:Cx}{b j pos}:PEw X (.Constant (.bool b) j pos) (tC (.bl b)):=⟨L2.pe_bl⟩
theorem pe_non {X:Cx}{j pos}:PEw X (.Constant .none j pos) (tC .non):=⟨L2.pe_non⟩
theorem pe_str {X:Cx}{x j pos}:PEw X (.Constant (.str x) j pos) (tC (.str x)):=⟨L2.pe_str⟩
theorem pv {X:Cx}(i:Nat){x:Str}{pos:Pos}(hN:X.N[i]? =some x:=by rfl)(hv:Vis X.env.scope x:=by first|exact Or.inl rfl|exact Or.inr (Or.inl rfl)|exact Or.inr (Or.inr rfl))(hd:(x==("__debug__" :Str))=false:=by decide)(hcd:(x==("__classdict__" :Str))=false:=by decide):PEw X (.Name x pos) (tVar i):=⟨L2.pv i hN hv hd hcd⟩
theorem pe_ix {X:Cx}{a b:PySem.Expr}{ta tb:TE}{pos:PySem.Pos}{r:R2}(hr:IxR X r)(ha:PEw X a ta)(hb:PEw X b tb)(hs:zfO b):PEw X (.Subscript a b pos) (tOp r ta tb):=⟨L2.pe_ix hr ha.h hb.h hs⟩
theorem pe_slice {X:Cx}{e:PySem.Expr}{te:TE}{lo hi:Option PySem.Expr}{tl th:TO}{pos p2:PySem.Pos}{r:V->Option Int->Option Int->Hp->VK->Prop}(hr:SlR X r)(he:PEw X e te)(hl:PO X lo tl)(hu:PO X hi th):PEw X (.Subscript e (.Slice lo hi none p2) pos) (tSl r te tl th):=⟨L2.pe_slice hr he.h hl hu⟩
theorem po_some {X:Cx}{e:PySem.Expr}{te:TE}(h:PEw X e te):PO X (some e) (zgL te):=L2.po_some h.h
theorem pe_op {X:Cx}{a b:PySem.Expr}{ta tb:TE}{pos:PySem.Pos}{op:Operator}{r:R2}(ho:OpR X (binaryOp op) r)(ha:PEw X a ta)(hb:PEw X b tb):PEw X (.BinOp a op b pos) (tOp r ta tb):=⟨L2.pe_op ho ha.h hb.h⟩
theorem pe_un {X:Cx}{a:PySem.Expr}{ta:TE}{pos:PySem.Pos}{op:UnaryOp}{r:V->Hp->VK->Prop}(ho:UnR X (unaryOp op) r)(ha:PEw X a ta):PEw X (.UnaryOp op a pos) (tUn r ta):=⟨L2.pe_un ho ha.h⟩
theorem pe_and {X:Cx}{a b:PySem.Expr}{ta tb:TE}{pos:PySem.Pos}{rest:List PySem.Expr}(ha:PEw X a ta)(hb:PEw X (.BoolOp .And (b::rest) pos) tb):PEw X (.BoolOp .And (a::b::rest) pos) (zgI ta tb):=⟨L2.pe_and ha.h hb.h⟩
theorem pe_one {X:Cx}{a:PySem.Expr}{pos:PySem.Pos}{op}{t:TE}(h:PEw X a t):PEw X (.BoolOp op [a] pos) t:=⟨L2.pe_one h.h⟩
theorem pe_cmpR {X:Cx}{a b:PySem.Expr}{ta tb:TE}{pos:PySem.Pos}{op:CmpOp}{r:R2}(ho:OpR X (compareOp op) r)(ha:PEw X a ta)(hb:PEw X b tb)(hm:behindInMarks op b=false):PEw X (.Compare a [op] [b] pos) (tOp r ta tb):=⟨L2.pe_cmpR ho ha.h hb.h hm⟩
theorem pe_ifExp {X:Cx}{a b:PySem.Expr}{ta tb:TE}{pos:PySem.Pos}{tA:TT}{c:Expr}(hc:PTw X c tA)(ha:PEw X a ta)(hb:PEw X b tb):PEw X (.IfExp c a b pos) (tIf tA ta tb):=⟨L2.pe_ifExp hc.h ha.h hb.h⟩
theorem pe_lst {X:Cx}{es:List PySem.Expr}{t:TA}{pos:PySem.Pos}(h:PAw X es t):PEw X (.List es pos) (tLst t):=⟨L2.pe_lst h.h⟩
theorem pe_tup {X:Cx}{es:List PySem.Expr}{t:TA}{pos:PySem.Pos}{x1}(h:PAw X es t):PEw X (.Tuple es x1 pos) (tTup t):=⟨L2.pe_tup h.h⟩
theorem pe_cal {X:Cx}{k:Nat}{ps:List PySem.Str}{sp:Sp}{x:PySem.Str}{p pos:PySem.Pos}{e:PySem.Expr}{es:List PySem.Expr}{t:TA}(C:Cal X.prog X.w X.K X.mg X.base k x ps sp)(hr:Room k X.A)(hg:Gl X x)(ha:PAw X (e::es) t)(hdb:(x==("__debug__" :Str))=false:=by decide)(he:starEach (e::es) X.env=(false,eval e X.env)::starEach es X.env:=by rfl)(hpl:(backTo pos (starEach es X.env)).any (·.1)=false:=by rfl):PEw X (.Call (.Name x p) (e::es) [] pos) (fun σ H Q=>t σ H fun vs H1=>sp vs H1 Q E0):=⟨L2.pe_cal C hr hg ha.h hdb he hpl⟩
theorem pe_callB {X:Cx}{x:PySem.Str}{p pos:PySem.Pos}{e:PySem.Expr}{es:List PySem.Expr}{t:TA}{id:String}{r:List V->Hp->VK->Prop}(hc:zcm X (.builtin id) r)(hg:Gl X x)(hm:X.mg x=none)(hv:bootBuiltins x=some (.builtin id))(ha:PAw X (e::es) t)(hn:x≠ "__name__" :=by decide)(hdb:(x==("__debug__" :Str))=false:=by decide)(he:starEach (e::es) X.env=(false,eval e X.env)::starEach es X.env:=by rfl)(hpl:(backTo pos (starEach es X.env)).any (·.1)=false:=by rfl):PEw X (.Call (.Name x p) (e::es) [] pos) (tCB r t):=⟨L2.pe_callB hc hg hm hv ha.h hn hdb he hpl⟩
theorem pe_bltn {X:Cx}{x:Str}{v:V}{u:Value}{pos:Pos}(hg:Gl X x)(hm:X.mg x=none)(hv:bootBuiltins x=some u)(r:RelV v u)(hn:x≠ "__name__" :=by decide)(hd:(x==("__debug__" :Str))=false:=by decide):PEw X (.Name x pos) (tC v):=⟨L2.pe_bltn hg hm hv r hn hd⟩
theorem pa_nil {X:Cx}:PAw X [] tNil:=⟨L2.pa_nil⟩
theorem pa_cons {X:Cx}{e:PySem.Expr}{es:List PySem.Expr}{te:TE}{t:TA}(ha:PEw X e te)(hr:PAw X es t)(hs:starEach (e::es) X.env=(false,eval e X.env)::starEach es X.env:=by rfl):PAw X (e::es) (zcM te t):=⟨L2.pa_cons ha.h hr.h hs⟩
theorem pt_cmpR {X:Cx}{a b:PySem.Expr}{ta tb:TE}{pos:PySem.Pos}{op:CmpOp}{r:R2}(ho:OpR X (compareOp op) r)(ha:PEw X a ta)(hb:PEw X b tb)(hm:behindInMarks op b=false):PTw X (.Compare a [op] [b] pos) (zis (tOp r ta tb)):=⟨L2.pt_cmpR ho ha.h hb.h hm⟩
theorem pt_not {X:Cx}{a:PySem.Expr}{pos:PySem.Pos}{tA:TT}(ha:PTw X a tA):PTw X (.UnaryOp .Not a pos) (tNot tA):=⟨L2.pt_not ha.h⟩
theorem pt_val {X:Cx}{e:Expr}{t:TE}(h:PEw X e t)(he:∀whole,isTrue e X.env whole=(do let v<-whole;standAt e.pos;holding [v] (truthy v)):=by intro _;rfl):PTw X e (tB t):=⟨L2.pt_val h.h he⟩
theorem pw_or {X:Cx}{a b:PySem.Expr}{pos:PySem.Pos}{tA tB':TT}{rest:List PySem.Expr}(ha:PTw X a tA)(hb:PWw X (.BoolOp .Or (b::rest) pos) tB'):PWw X (.BoolOp .Or (a::b::rest) pos) (tOr tA tB'):=⟨L2.pw_or ha.h hb.h⟩
theorem pw_or1 {X:Cx}{a:PySem.Expr}{pos:PySem.Pos}{tA:TT}(ha:PTw X a tA):PWw X (.BoolOp .Or [a] pos) tA:=⟨L2.pw_or1 ha.h⟩
theorem pi_list {X:Cx}{tg:PySem.Expr}{l:Expr}{tl:TE}(hl:PEw X l tl):PI X tg l (zin X.K tl):=L2.pi_list hl.h
theorem pi_range1 {X:Cx}{tg:PySem.Expr}{a:Expr}{ta:TA}{p pos:Pos}(hg:Gl X "range")(hm:X.mg "range" =none)(ha:PAw X [a] ta)(hs:starEach [a] X.env=[(false,eval a X.env)]:=by rfl):PI X tg (.Call (.Name "range" p) [a] [] pos) (ziq ta):=L2.pi_range1 hg hm ha.h hs
theorem PWpt {X:Cx}{e:Expr}{t:TT}(h:PWw X e t):PTw X e t:=⟨L2.PW.pt h.h⟩
theorem pe_lc {X:Cx}{elt tg iter:Expr}{ifs:List Expr}{scope:Scope}{pos:Pos}{wi:TI}{g:TG}{tt:TT}{te:TE}{N':List Str}{n:Nat}{ix:List Nat}(hc:X.calm=true)(hk:CompScope X scope N' n ix)(hi:PI X tg iter wi)
  (hb:∀(s₂:Shared) (H₂:Hp) (cl:List (Str×Addr)) (C:Addr) (fp:List Addr),PG (Cx.comp X s₂ H₂ N' scope cl C fp) tg g/\PTs (Cx.comp X s₂ H₂ N' scope cl C fp) ifs tt/\PEw (Cx.comp X s₂ H₂ N' scope cl C fp) elt te)
  (hs:∀x,foldedSetIterable iter X.env x=pure x:=by intro _;rfl):PEw X (.ListComp elt [⟨tg,iter,ifs,0⟩] scope pos) (tLc wi g tt te n ix):=
 ⟨L2.pe_lc hc hk hi (fun a b c d e=>⟨(hb a b c d e).1,(hb a b c d e).2.1,(hb a b c d e).2.2.h⟩) hs⟩
end Wr
namespace L2
open PySem PySem.Spec PyProof.Rows
structure TopY (mg:Str->Option Value):Prop where
 n_any:mg "any" =none
structure TopYK (K:PySem.W.Frag):Prop where
 k_any:PySem.W.nsIn K mainGlobals "any" =some none
noncomputable def NoS:Addr->Prop:=fun _=>False
noncomputable def shD (p:Sh):PyData:=.tuple [.int p.1,.int p.2]
theorem Shr.isY {S:Addr->Prop}{H:Hp}{z:Addr}{p:Sh}(h:Shr H z p):IsY S H (.ref z) (shD p):=.tup h (.cons (.int _) (.cons (.int _) .nil))
theorem zbg {S:Addr->Prop}{H:Hp}{x:V}{p:Sh}(h:IsY S H x (shD p)):∃z,x=.ref z/\Shr H z p:=by
 cases h with
 | tup e al=>
  cases al with
  | cons h1 t1=>
   cases t1 with
   |cons h2 t2=>
    cases t2
    cases h1
    cases h2
    exact⟨_,rfl,e⟩
end L2
namespace L2
open PySem PySem.Spec PyProof.Rows PySem.SeqAt
open AutoSeq1 (wpAny_loadPart')
noncomputable abbrev dObj (dd:Option Addr)(es:Array DictEntry)(k:Nat)(sl:Array (Option Value)):Obj:={cls:=.type "dict",dict:=dd,data:=.dict es k,slots:=sl}
theorem zgc (a:Addr)(es:Array DictEntry)(k:Nat)(dd:Option Addr)(sl:Array (Option Value))(x:Str)(t:Tok):
  Meets (Builtin.«dict.__eq__» ⟨[.ref a,.str x t],[]⟩) (fun _ R s=>s.heap.get? a=some (dObj dd es k sl)/\R (.ok (.ret .notImplemented)) s):=
 .of_wp fun pr w A R s q=>by
  obtain⟨h1,h2,h3,h4,h5⟩:=s
  obtain⟨ha,q⟩:=q
  have f1:=F.sub_str_dict
  wp_walk using wpAny_loadPart' ha,wpAny_load ha
  exact⟨_,rfl,q⟩
theorem zgd (a:Addr)(es:Array DictEntry)(k:Nat)(dd:Option Addr)(sl:Array (Option Value))(x:Str)(t:Tok):
  Meets (Builtin.«dict.__ne__» ⟨[.ref a,.str x t],[]⟩) (fun _ R s=>s.heap.get? a=some (dObj dd es k sl)/\R (.ok (.ret .notImplemented)) s):=
 .of_wp fun pr w A R s q=>by
  obtain⟨h1,h2,h3,h4,h5⟩:=s
  obtain⟨ha,q⟩:=q
  have f1:=F.sub_str_dict
  wp_walk using wpAny_loadPart' ha,wpAny_load ha
  exact⟨_,rfl,q⟩
theorem zge (a:Addr)(es:Array DictEntry)(k:Nat)(dd:Option Addr)(sl:Array (Option Value))(x:Str)(t:Tok):
  Meets (Builtin.«str.__eq__» ⟨[.str x t,.ref a],[]⟩) (fun _ R s=>s.heap.get? a=some (dObj dd es k sl)/\R (.ok (.ret .notImplemented)) s):=
 .of_wp fun pr w A R s q=>by
  obtain⟨h1,h2,h3,h4,h5⟩:=s
  obtain⟨ha,q⟩:=q
  wp_walk using wpAny_loadPart' ha,wpAny_load ha
  exact⟨_,rfl,q⟩
theorem zgf (a:Addr)(es:Array DictEntry)(k:Nat)(dd:Option Addr)(sl:Array (Option Value))(x:Str)(t:Tok):
  Meets (Builtin.«str.__ne__» ⟨[.str x t,.ref a],[]⟩) (fun _ R s=>s.heap.get? a=some (dObj dd es k sl)/\R (.ok (.ret .notImplemented)) s):=
 .of_wp fun pr w A R s q=>by
  obtain⟨h1,h2,h3,h4,h5⟩:=s
  obtain⟨ha,q⟩:=q
  wp_walk using wpAny_loadPart' ha,wpAny_load ha
  exact⟨_,rfl,q⟩
section
variable {A:Around}{s:Shared}
theorem zdk {a:Addr}{es:Array DictEntry}{k:Nat}{dd:Option Addr}{sl:Array (Option Value)}(x:Str)(t:Tok)(ha:s.heap.get? a=some (dObj dd es k sl))(hu:A.units<cLine):RcAt A s (.ref a) (.str x t) false:=fun pr w E Q q=>
 rc_eq_decline_or (k:=false) ⟨_,ha,rfl⟩ (typeIs_str s x t) (by decide) F.sub_str_dict F.slot_dict_eq F.slot_str_eq_refl
  (fun _ z=>call_meets F.slot_dict_eq ⟨_,ha,rfl⟩ F.entry_dict_eq (F.args_dict_eq_2 _ _) (zgc a es k dd sl x t) ⟨ha,z⟩)
  (fun _ z=>call_meets F.slot_str_eq_refl (typeIs_str s x t) F.entry_str_eq (F.args_str_eq_2 _ _) (zge a es k dd sl x t) ⟨ha,z⟩)
  (fun _ z=>wpAny_of_eq (rfl:isSame (.ref a) (.str x t)=pure false) z) (.inr hu) q
theorem zcv {a:Addr}{es:Array DictEntry}{k:Nat}{dd:Option Addr}{sl:Array (Option Value)}(x:Str)(t:Tok)(ha:s.heap.get? a=some (dObj dd es k sl))(hu:A.units<cLine):EqAt A s (.ref a) (.str x t) false:=fun pr w E Q q=>by
 unfold eqBool
 refine wpAny_holding (wpAny_ite_split (fun z=>absurd (eq_of_beq z) nofun) fun _=> ?_)
 exact wpAny_bind (zdk x t ha hu pr w E _ (wpAny_truthy_bool q))
theorem zbH {a:Addr}{es:Array DictEntry}{k:Nat}{dd:Option Addr}{sl:Array (Option Value)}(x:Str)(t:Tok)(ha:s.heap.get? a=some (dObj dd es k sl))(hu:A.units<cLine):RcNeAt A s (.ref a) (.str x t) true:=fun pr w E Q q=>
 rc_ne_decline_or (k:=false) ⟨_,ha,rfl⟩ (typeIs_str s x t) (by decide) F.sub_str_dict F.slot_dict_ne F.slot_str_ne_refl
  (fun _ z=>call_meets F.slot_dict_ne ⟨_,ha,rfl⟩ F.entry_dict_ne (F.args_dict_ne_2 _ _) (zgd a es k dd sl x t) ⟨ha,z⟩)
  (fun _ z=>call_meets F.slot_str_ne_refl (typeIs_str s x t) F.entry_str_ne (F.args_str_ne_2 _ _) (zgf a es k dd sl x t) ⟨ha,z⟩)
  (fun _ z=>wpAny_of_eq (rfl:isSame (.ref a) (.str x t)=pure false) z) (.inr hu) q
end
noncomputable def zbc (t:Str):PyData->Bool
 | .str y=>y==t
 |_=>false
noncomputable def zcO (t:Str):PyData->Bool
 | .tuple [d]=>zbc t d
 |_=>false
section
variable {X:Cx}{pins:List (Addr×Obj)}{σ:St}{H:Hp}{s:Shared}
theorem Inv.dictAt (I:Inv X pins σ H s){a:Addr}{kvs:List (Key×V)}(h:H a=some (.dK kvs)):∃dd es k sl,s.heap.get? a=some (dObj dd es k sl):=by
 obtain⟨_,_,vs,_,o,es,ep,ho,hx,hd,_⟩:=zji I.hok h
 obtain⟨c,dd,da,sl⟩:=o
 have hc:c=.type "dict" :=hx.1
 have hd:da=.dict es ep:=hd
 subst hc hd
 exact⟨dd,es,ep,sl,ho⟩
theorem Inv.tupAt (I:Inv X pins σ H s){a:Addr}{xs:List V}(h:SqT X.K H a xs):∃its:List Value,Vals xs its/\s.heap.IsTuple a its.toArray:=by
 obtain⟨its,rv,⟨o,ho,hc,n,hd⟩,_⟩:=I.tuple h
 exact⟨its,rv,⟨o,ho,hc,n,hd⟩⟩
theorem Inv.lstAt (I:Inv X pins σ H s){a:Addr}{xs:List V}(h:H a=some (.lst xs)):∃its:List Value,s.heap.IsList a its.toArray:=by
 obtain⟨_,its,n,rv,ho⟩:=(show ObjOk X.prog X.w H s.heap a (.lst xs) from I.hok a _ h)
 exact⟨its,⟨_,ho,rfl,n,rfl⟩⟩
theorem Inv.eqTx (I:Inv X pins σ H s){S:Addr->Prop}{v:V}{d:PyData}{u:Value}{A:Around}(hd:IsY S H v d)(r:RelV v u)(t:Str)(tk:Tok)(hu:A.units<cLine):EqAt A s u (.str t tk) (zbc t d):=by
 cases hd with
 |non=>cases (show u=Value.none from r);exact EqAt.none_str t tk
 |bl b=>cases (show u=Value.bool b from r);exact EqAt.bool_str b t tk
 |int i=>obtain⟨q,rfl⟩:=r;exact EqAt.int_str i q t tk
 |str x=>obtain⟨q,rfl⟩:=r;exact EqAt.str_str x q t tk
 |@tup a _ _ e _=>
  cases (show u=Value.ref a from r)
  obtain⟨its,_,h⟩:=I.tupAt (SqT.of e)
  exact EqAt.tuple_str t tk h hu
 |@lst a _ _ e _ _=>
  cases (show u=Value.ref a from r)
  obtain⟨its,h⟩:=I.lstAt e
  exact EqAt.list_str t tk h hu
 |@d0 a e=>
  cases (show u=Value.ref a from r)
  obtain⟨dd,es,k,sl,h⟩:=I.dictAt e
  exact zcv t tk h hu
 |@d1 a _ _ _ e _=>
  cases (show u=Value.ref a from r)
  obtain⟨dd,es,k,sl,h⟩:=I.dictAt e
  exact zcv t tk h hu
theorem Inv.neTx (I:Inv X pins σ H s){S:Addr->Prop}{v:V}{d:PyData}{u:Value}{A:Around}(hd:IsY S H v d)(r:RelV v u)(t:Str)(tk:Tok)(hu:A.units<cLine):RcNeAt A s u (.str t tk) (!zbc t d):=by
 cases hd with
 |non=>cases (show u=Value.none from r);exact RcNeAt.none_str t tk
 |bl b=>cases (show u=Value.bool b from r);exact RcNeAt.bool_str b t tk
 |int i=>obtain⟨q,rfl⟩:=r;exact RcNeAt.int_str i q t tk
 |str x=>obtain⟨q,rfl⟩:=r;exact RcNeAt.str_str x q t tk
 |@tup a _ _ e _=>
  cases (show u=Value.ref a from r)
  obtain⟨its,_,h⟩:=I.tupAt (SqT.of e)
  exact RcNeAt.tuple_str t tk h hu
 |@lst a _ _ e _ _=>
  cases (show u=Value.ref a from r)
  obtain⟨its,h⟩:=I.lstAt e
  exact RcNeAt.list_str t tk h hu
 |@d0 a e=>
  cases (show u=Value.ref a from r)
  obtain⟨dd,es,k,sl,h⟩:=I.dictAt e
  exact zbH t tk h hu
 |@d1 a _ _ _ e _=>
  cases (show u=Value.ref a from r)
  obtain⟨dd,es,k,sl,h⟩:=I.dictAt e
  exact zbH t tk h hu
theorem ziN {ds:List PyData}{n:Nat}(t:Str)(h:n=ds.length):(((List.range (min n 1)).all fun j=>zbc t (ds.getD j .none))&&n==1)=zcO t (.tuple ds):=by
 subst h
 match ds with
 |[]=>rfl
 |[d]=>simp[zcO,List.range_succ]
 |_::_::_=>simp[zcO]
end
noncomputable def zjj (K:PySem.W.Frag):R2:=fun x y H Q=>∃(S:Addr->Prop) (a b:Addr) (vs:List V) (ds:List PyData) (t:Str),x=.ref a/\y=.ref b/\H a=some (.tup vs)/\IsAllY S H vs ds/\SqT K H b [.str t]/\Q (.bl (zcO t (.tuple ds))) H
noncomputable def zjk:R2:=fun x y H Q=>∃(S:Addr->Prop) (d:PyData) (t:Str),y=.str t/\IsY S H x d/\Q (.bl (!zbc t d)) H
section
variable {X:Cx}
theorem zhP {pins:List (Addr×Obj)}{σ:St}{H:Hp}{s:Shared}(I:Inv X pins σ H s){S:Addr->Prop}{vs:List V}{ds:List PyData}{its its2:List Value}{t:Str}{A:Around}(al:IsAllY S H vs ds)(rv:Vals vs its)(r2:Vals [.str t] its2)(hu:A.units<cLine)(j:Nat)(h1:j<its.toArray.size)(h2:j<its2.toArray.size):EqAt A s its.toArray[j] its2.toArray[j] (zbc t (ds.getD j .none)):=by
 obtain⟨w,rfl,q,rfl⟩:=zfg r2
 have j0:j=0:=by simpa using h2
 subst j0
 have hl:=rv.length
 have h1':0<vs.length:=by rw[hl];simpa using h1
 obtain⟨u,hu1,ru⟩:=rv.get (i:=0) (x:=vs[0]) (List.getElem?_eq_getElem h1')
 obtain⟨d,hd,yd⟩:=al.at (i:=0) (x:=vs[0]) (List.getElem?_eq_getElem h1')
 have e1:its.toArray[0]=u:=by
  have:=List.getElem?_eq_some_iff.mp hu1
  simpa using this.2
 have e2:ds.getD 0 .none=d:=by rw[List.getD_eq_getElem?_getD,hd];rfl
 rw[e1,e2]
 exact I.eqTx yd ru t q hu
theorem zhQ (hu:X.A.units+64<cLine):OpR X (compareOp .Eq) (zjj X.K):=by
 intro pins s σ H x y v u Q I rx ry h
 obtain⟨S,a,b,vs,ds,t,rfl,rfl,ha,al,hb,q⟩:=h
 cases rx
 cases ry
 obtain⟨its,rv,h1⟩:=I.tupAt (SqT.of ha)
 obtain⟨its2,r2,h2⟩:=I.tupAt hb
 have n2:its2.toArray.size=1:=by have:=r2.length;simpa using this.symm
 have e:=ziN (ds:=ds) (n:=its.toArray.size) t (by have:=rv.length;have:=al.len;simp;(first|lia|omega))
 have:=RcAt.tuples (A:=X.A) h1 h2 (by (first|lia|omega)) (fun j j1 j2=>zhP I al rv r2 (by show X.A.in1.units<cLine;unfold Around.in1;simp;(first|lia|omega)) j j1 j2) X.prog X.w
 rw[n2,e] at this
 exact this _ _ ⟨.bl _,H,I,rfl,q⟩
theorem zhR (hu:X.A.units+64<cLine):OpR X (compareOp .NotEq) zjk:=by
 intro pins s σ H x y v u Q I rx ry h
 obtain⟨S,d,t,rfl,yd,q⟩:=h
 obtain⟨tk,rfl⟩:=ry
 exact I.neTx yd rx t tk (by (first|lia|omega)) X.prog X.w _ _ ⟨.bl _,H,I,rfl,q⟩
end
end L2
namespace L2
open PySem PySem.Spec PyProof.Rows
noncomputable def spE (a b:Sp):Sp:=fun vs H Q E=>a vs H Q E∨b vs H Q E
noncomputable def juD (ns:List Int):PyData->Bool
 | .tuple ds=>ds.all whD&&decide (ds.map asI=ns)
 |_=>false
theorem zgg:∀{ds:List PyData},ds.all whD=true->ds=(ds.map asI).map PyData.int
 |[],_=>rfl
 |d::r,h=>by
  rw[List.all_cons,Bool.and_eq_true] at h
  rw[List.map_cons,List.map_cons,<-zgg h.2]
  cases d with
  |int n=>rfl
  |_=>cases h.1
theorem zho {ns:List Int}{d:PyData}(h:juD ns d=true):d=.tuple (ns.map PyData.int):=by
 unfold juD at h
 split at h
 ·rw [Bool.and_eq_true,decide_eq_true_eq] at h
  rw[<-h.2,<-zgg h.1]
 ·cases h
noncomputable def ze3:Sp:=fun vs H Q _=>∃(S:Addr->Prop) (x:V) (d:PyData) (b:Addr) (ns:List Int),vs=[x,.ref b]/\IsY S H x d/\Sz 1000 d/\H b=some (.tup (ns.map V.int))/\∀H',Same H H'->Q (.bl (juD ns d)) H'
noncomputable def prN (a:Int):Nat->Int
 |0=>1
 |i+1=>prN a i*(a+i)
noncomputable def eaZ (kind:Str)(N k:Nat):Int×Int:=if 0<sZ N k then (1,if kind= "stays" then prN ((N:Int)-k+1) k else fcZ k) else (0,1)
noncomputable def zaG (kind:Str):Str:=if kind= "rounds" ∨kind= "highs" then "groups" else if kind= "stays" ∨kind= "longest" then "sets" else "spread"
noncomputable def paL (kind:Str)(N k:Nat):List PyData:=if kind= "rounds" ∨kind= "highs" then [.str "groups",.int (figZ N)] else if kind= "stays" ∨kind= "longest" then [.str "sets",.int (sZ N k),shD (eaZ kind N k)] else [.str "spread",shD (mnZ kind N),shD (sdZ kind N)]
noncomputable def PapT (kind:Str)(N k:Nat)(H:Hp)(z:Addr):Prop:=∃us,H z=some (.tup us)/\IsAllY NoS H us (paL kind N k)
theorem PapT.same {kind:Str}{N k:Nat}{H H':Hp}{z:Addr}(h:PapT kind N k H z)(s:Same H H'):PapT kind N k H' z:=by
 obtain⟨us,h1,h2⟩:=h
 exact⟨us,s _ _ h1,h2.same s⟩
structure LookAt (kind:Str) (N k:Nat) (H:Hp) (z bz a:Addr) (b:Int×Int) (S:Addr->Prop) (vs:List V) (ds:List PyData):Prop where
 pap:PapT kind N k H z
 hN:N<=60
 hk:k<=60
 bnd:Shr H bz b
 bsm:ShB b 8000
 bgr:kind= "rounds" ∨kind= "highs" ->ShB b 1000
 top:H a=some (.tup vs)
 all:IsAllY S H vs ds
 sz:Sz 1000 (.tuple ds)
 len:ds.length=(paL kind N k).length
 int:∀n,ds[1]? =some (.int n)->Sm n 200
theorem zdl {N k:Nat}(h:0<sZ N k):k<=N:=by
 refine Nat.le_of_not_lt fun z=> ?_
 have:=(zf6 (N:=(N:Int)) (by (first|lia|omega)) k).2 (by (first|lia|omega))
 (first|lia|omega)
theorem zgh {a b:Int}{n:Nat}(hb:0<b)(h1:Sm a n)(h2:Sm b n)(hn:1<=n):ShB (capZ a b) n:=by
 unfold capZ
 split
 ·exact⟨by decide,Sm.mono (Sm.of (by decide:(1:Int).natAbs<2^1)) hn,Sm.mono (Sm.of (by decide:(1:Int).natAbs<2^1)) hn⟩
 ·exact ShB.low hb h1 h2
theorem zeb {n:Nat}(hn:1<=n):ShB (1,1) n:=⟨by decide,Sm.mono (Sm.of (by decide:(1:Int).natAbs<2^1)) hn,Sm.mono (Sm.of (by decide:(1:Int).natAbs<2^1)) hn⟩
theorem zhS {b:Int×Int}{a c:Int}(hb:0<b.2)(hc:0<c):ltZ b (lowZ a c)=decide (b.1*c<a*b.2):=by
 have e:=zcs (a:=a) hc
 have p:=zbe (a:=a) hc
 unfold ltZ
 generalize lowZ a c=l at*
 have key:b.1*l.2<l.1*b.2↔b.1*c<a*b.2:=by
  constructor
  ·intro h
   have h1:=Int.mul_lt_mul_of_pos_right h hc
   have e1:l.1*b.2*c=a*b.2*l.2:=by
    rw[Int.mul_right_comm,e,Int.mul_right_comm]
   have e2:b.1*l.2*c=b.1*c*l.2:=Int.mul_right_comm _ _ _
   rw[e1,e2] at h1
   exact Int.lt_of_mul_lt_mul_right h1 (Int.le_of_lt p)
  ·intro h
   have h1:=Int.mul_lt_mul_of_pos_right h p
   have e1:a*b.2*l.2=l.1*b.2*c:=by
    rw[Int.mul_right_comm,<-e,Int.mul_right_comm]
   have e2:b.1*c*l.2=b.1*l.2*c:=Int.mul_right_comm _ _ _
   rw[e1,e2] at h1
   exact Int.lt_of_mul_lt_mul_right h1 (Int.le_of_lt hc)
 by_cases h:b.1*c<a*b.2
 ·rw[decide_eq_true h,decide_eq_true (key.mpr h)]
 ·rw[decide_eq_false h,decide_eq_false fun z=>h (key.mp z)]
theorem zbT {b:Int×Int}{a c:Int}(hb:0<b.2)(hc:0<c):(!ltZ b (lowZ a c))=decide (a*b.2<=b.1*c):=by
 rw[zhS hb hc]
 by_cases h:b.1*c<a*b.2
 ·rw[decide_eq_true h,decide_eq_false (by (first|lia|omega))];rfl
 ·rw[decide_eq_false h,decide_eq_true (by (first|lia|omega))];rfl
theorem zhT {N k:Nat}(h:0<sZ N k):k<=N:=zdl h
theorem zgi {N:Nat}(hN:(N:Int)<=10^30){a:Int}(ha:1<=a):∀i:Nat,i<=60->a+i<=(N:Int)+1->0<prN a i/\Sm (prN a i) (101*i+1)
 |0,_,_=>⟨show (0:Int)<1 by decide,Sm.of (show (1:Int).natAbs<2^1 by decide)⟩
 | i+1,hi,hs=>by
  obtain⟨h1,h2⟩:=zgi hN ha i (by (first|lia|omega)) (by (first|lia|omega))
  have hl:Sm (a+(i:Int)) 101:=by
   refine Sm.of (Nat.lt_of_le_of_lt (show (a+(i:Int)).natAbs<=10^30 by (first|lia|omega)) (by decide+kernel))
  exact⟨Int.mul_pos h1 (by (first|lia|omega)),(h2.mul hl).mono (by (first|lia|omega))⟩
theorem zc8 {kind:Str}{N k:Nat}(hN:(N:Int)<=10^30)(hk:k<=60):ShB (eaZ kind N k) 6100:=by
 unfold eaZ
 by_cases h:0<sZ N k
 ·rw [if_pos h]
  have kN:=zhT h
  by_cases c:kind= "stays"
  ·rw [if_pos c]
   obtain⟨p1,p2⟩:=zgi hN (a:=(N:Int)-k+1) (by (first|lia|omega)) k hk (by (first|lia|omega))
   exact⟨p1,sm1.mono (by decide),p2.mono (by (first|lia|omega))⟩
  ·rw [if_neg c]
   exact⟨zaj k,sm1.mono (by decide),(zau (by (first|lia|omega))).mono (by decide)⟩
 ·rw [if_neg h]
  exact⟨by decide,Sm.of (by decide+kernel),Sm.of (by decide+kernel)⟩
noncomputable def zhU:Sp:=fun vs H Q _=>∃(N:Nat) (a:Int) (k:Nat),vs=[.int a,.int (a+k-1)]/\1<=a/\a+k<=(N:Int)+1/\(N:Int)<=10^30/\k<=60/\Q (.int (prN a k)) H
noncomputable def zaB (kind:Str):Sp:=fun vs H Q _=>∃N k:Nat,vs=[.int N,.int k]/\(N:Int)<=10^30/\k<=60/\∀z H',Same H H'->PapT kind N k H' z->Q (.ref z) H'
noncomputable def zec:Sp:=fun vs H Q _=>∃(kind:Str) (N k:Nat),vs=[.str kind,.int N,.int k]/\kind∈zai/\(N:Int)<=10^30/\k<=60/\∀z H',Same H H'->PapT kind N k H' z->Q (.ref z) H'
noncomputable def lkZ (kind:Str)(N k:Nat)(b:Int×Int)(ds:List PyData):Bool:=
 if kind= "rounds" ∨kind= "highs" then whD (ds.getD 1 .none)&&decide (figZ N<=asI (ds.getD 1 .none))&&decide (asI (ds.getD 1 .none)^k*b.2<=b.1*fcZ k)
 else if kind= "stays" ∨kind= "longest" then juD [sZ N k] (.tuple [ds.getD 1 .none])&&juD [(eaZ kind N k).1,(eaZ kind N k).2] (ds.getD 2 .none)&&decide (sZ N k*(eaZ kind N k).1*b.2<=b.1*(eaZ kind N k).2)
 else juD [(mnZ kind N).1,(mnZ kind N).2] (ds.getD 1 .none)&&juD [(sdZ kind N).1,(sdZ kind N).2] (ds.getD 2 .none)&&decide (0<farZ kind N k)&&decide (ovZ kind N*b.2<=b.1*unZ kind N k)
structure LookX (kind:Str) (N k:Nat) (H:Hp) (z bz a:Addr) (b:Int×Int) (S:Addr->Prop) (vs:List V) (ds:List PyData):Prop where
 pap:PapT kind N k H z
 hN:(N:Int)<=10^30
 hk:k<=60
 hk1:1<=k
 bnd:Shr H bz b
 bsm:ShB b 8000
 bgr:kind= "rounds" ∨kind= "highs" ->ShB b 4000
 top:H a=some (.tup vs)
 all:IsAllY S H vs ds
 sz:Sz 1000 (.tuple ds)
 len:ds.length=(paL kind N k).length
 int:kind= "rounds" ∨kind= "highs" ->∀n,ds[1]? =some (.int n)->Sm n 200
noncomputable def zaH (ks:List Str):Sp:=fun vs H Q _=>∃(kind:Str) (N k:Nat) (z bz a:Addr) (b:Int×Int) (S:Addr->Prop) (us:List V) (ds:List PyData),vs=[.ref z,.int k,.ref bz,.ref a]/\kind∈ks/\LookX kind N k H z bz a b S us ds/\∀H',Same H H'->Q (.bl (lkZ kind N k b ds)) H'
noncomputable def swZ (kind:Str)(N k:Nat)(b:Int×Int):PyData->Bool
 | .tuple ds=>if zcO "all" (.tuple ds)=true then !ltZ b (1,1) else if k=0 then false else decide (ds.length=(paL kind N k).length)&&zbc (zaG kind) (ds.getD 0 .none)&&lkZ kind N k b ds
 |_=>false
noncomputable def za4:Sp:=fun vs H Q _=>∃(kind:Str) (N k:Nat) (bz:Addr) (b:Int×Int) (S:Addr->Prop) (x:V) (d:PyData),vs=[.str kind,.int N,.int k,.ref bz,x]/\kind∈zai/\(N:Int)<=10^30/\k<=60/\Shr H bz b/\ShB b 8000/\(kind= "rounds" ∨kind= "highs" ->ShB b 4000)/\IsY S H x d/\Sz 1000 d/\(kind= "rounds" ∨kind= "highs" ->∀d0 n,d=.tuple [d0,.int n]->Sm n 200)/\∀H',Same H H'->Q (.bl (swZ kind N k b d)) H'
noncomputable def zhV:Sp:=fun vs H Q _=>∃(x y:Addr) (p q:Int×Int),vs=[.ref x,.ref y]/\Shr H x p/\Shr H y q/\ShB p 8000/\ShB q 8000/\Sm (p.2*q.2) 8000/\∀z H',Same H H'->Shr H' z (tmZ p q)->Q (.ref z) H'
noncomputable def zdm (K:PySem.W.Frag):Sp:=fun vs H Q _=>∃(kind:Str) (N k:Nat),vs=[.str kind,.int N,.int k]/\kind∈zai/\(N:Int)<=10^30/\k<=60/\∀z H',Same H H'->((swZ kind N k (zaT kind N k) (.tuple (paL kind N k))=true/\PapT kind N k H' z)∨(swZ kind N k (zaT kind N k) (.tuple (paL kind N k))=false/\SqT K H' z [.str "all"]))->Q (.ref z) H'
noncomputable def zbI (K:PySem.W.Frag):Sp:=fun vs H Q _=>∃(kind:Str) (N k:Nat) (bz z:Addr) (b:Int×Int),vs=[.str kind,.int N,.int k,.ref bz,.ref z]/\Shr H bz b/\ShB b 8000/\SqT K H z [.str "all"]/\∀H',Same H H'->Q (.bl (!ltZ b (1,1))) H'
theorem zdn {kind:Str}{N k:Nat}(hN:(N:Int)<=10^30)(hk:k<=60):ShB (zaT kind N k) 8000/\(kind= "rounds" ∨kind= "highs" ->ShB (zaT kind N k) 4000):=by
 have n0:(0:Int)<=(N:Int):=by (first|lia|omega)
 have g:ShB (capZ (figZ N^k) (fcZ k)) 1000:=zgh (zaj k) ((zf8 n0 hN k).mono (by (first|lia|omega))) ((zau (by (first|lia|omega))).mono (by decide)) (by decide)
 unfold zaT
 by_cases h0:k=0
 ·rw [if_pos h0]
  exact⟨zeb (by decide),fun _=>zeb (by decide)⟩
 rw[if_neg h0]
 by_cases h1:kind= "stays"
 ·rw [if_pos h1]
  subst h1
  exact⟨ziL hk,fun z=>by rcases z with z|z<;>exact absurd z (by decide)⟩
 rw[if_neg h1]
 by_cases h2:kind= "longest"
 ·rw [if_pos h2]
  subst h2
  exact⟨zgh (zaj k) ((zey n0 hN k hk).mono (by (first|lia|omega))) ((zau (by (first|lia|omega))).mono (by decide)) (by decide),fun z=>by rcases z with z|z<;>exact absurd z (by decide)⟩
 rw[if_neg h2]
 by_cases h3:kind= "rounds" ∨kind= "highs"
 ·rw [if_pos h3]
  exact⟨g.mono (by decide),fun _=>g.mono (by decide)⟩
 ·rw [if_neg h3]
  refine⟨?_,fun z=>absurd z h3⟩
  split
  ·exact zeb (by decide)
  ·have m:=zdh (kind:=kind) n0 hN
   have d:=zdi (kind:=kind) n0 hN
   have f:=zc7 (kind:=kind) (k:=(k:Int)) n0 hN (by (first|lia|omega)) (by (first|lia|omega))
   refine zgh (zbF n0 hN (by (first|lia|omega))) ?_ ?_ (by decide)
   ·unfold ovZ
    exact ((d.s1.mul m.s2).mul m.s2).mono (by decide)
   ·unfold unZ
    exact ((d.s2.mul f).mul f).mono (by decide)
theorem ziO {n:Int}(h:1<=n):∀{i k:Nat},i<=k->n^i<=n^k:=by
 intro i k hk
 induction hk with
 |refl=>exact Int.le_refl _
 |@step m _ ih=>
  rw[Int.pow_succ]
  have p:0<=n^m:=Int.pow_nonneg (by (first|lia|omega))
  have:=Int.mul_le_mul_of_nonneg_left h p
  (first|lia|omega)
theorem zeA {P:Program}{w:World}{K:PySem.W.Frag}{tg:Expr}(it:Addr)(lo:Int)(n:Nat):Turn P w K tg (Itr lo n) [it] it (fun i h=>IsLongIter h it (lo+(i:Nat)*1) ((n:Int)-(i:Nat)) 1) where
 mem:=by simp
 obj:=fun i h st b hb=>by
  have e:b=it:=by simpa using hb
  subst e
  exact⟨_,st,fun v z=>by
   have z':Data.fields _=Data.cell v:=z
   cases z'⟩
 keep:=fun i h h' st k=>k it (by simp) _ st
 item:=by
  intro X hP hw hK hc i pins s σ H E I hf st hg
  subst hP hw hK
  obtain⟨f0,f1,f2,f3,f4,f5⟩:=hf it (by simp)
  have W:=Walks.longrange (prog:=X.prog) (w:=X.w) (I.ok.hd hc) it lo 1 n
  refine W.item i s _ _ hg st fun v h' tk hv st' kk=> ?_
  obtain⟨t,rfl⟩:=hv
  have I1:Inv X pins σ H {s with heap:=h',toks:=tk}:=I.turned (fun b o hb e=>kk b o (by simpa using hb) e) f0 f1 f3 f4 f5
  refine⟨_,rfl,zgJ (s:={s with heap:=h',toks:=tk}) (n:= "longrange_iterator") st' rfl rfl (by decide) ⟨.int (lo+i),H,I1,⟨t, ?_⟩,⟨rfl,rfl⟩,st',fun b hb=>(hf b hb).1⟩⟩
  rw[Int.mul_one]
 done:=by
  intro X hP hw hK hc i pins s σ H E I hf st hg
  subst hP hw hK
  obtain⟨f0,f1,f2,f3,f4,f5⟩:=hf it (by simp)
  exact wpAny_pyNext_long_end (I.ok.hd hc) st (by have:n<=i:=hg;(first|lia|omega)) fun h' eb=>⟨rfl,I.turned (t':=s.toks) (fun b o hb e=>eb b o hb e) f0 f1 f3 f4 f5⟩
 self:=fun _ _ _ _ _ st h=>wpAny_pyIter_longiter st h
section
variable {X:Cx}{tg:Expr}
theorem zgj {pins:List (Addr×Obj)}{σ:St}{H:Hp}{s:Shared}{R:It->Hp->Prop}{E:Value->Shared->Prop}{lo hi:Int}{t u v:Tok}{tk:Nat}(I:Inv X pins σ H s)
  (q:R (Itr lo (hi-lo).toNat) H):wpAny (model X.prog X.w) X.A (pyIter (.ref s.heap.objs.size)) (PIE X pins σ tg R) E {s with heap:=s.heap.push {cls:=.type "range",data:=.fields #[.int lo t,.int hi u,.int 1 v]},toks:=tk}:=by
 have e1:lo+((0:Nat):Int)*1=lo:=by simp
 have e2:(((hi-lo).toNat:Nat):Int)-((0:Nat):Int)=Builtin.Range.rangeSize lo hi 1:=by rw[rangeSize_one];split<;>(first|lia|omega)
 have I1:Inv X pins σ H {s with heap:=s.heap.push {cls:=.type "range",data:=.fields #[.int lo t,.int hi u,.int 1 v]},toks:=tk}:=I.kept fun b o e=>Heap.get?_push_of_some _ e
 by_cases hsm:Builtin.Range.small lo hi 1=true
 ·refine wpAny_pyIter_range (IsRange.new ..) hsm ?_
  refine⟨(s.heap.push {cls:=.type "range",data:=.fields #[.int lo t,.int hi u,.int 1 v]}).objs.size,[(s.heap.push {cls:=.type "range",data:=.fields #[.int lo t,.int hi u,.int 1 v]}).objs.size],_,_,H,rfl,
   I1.kept (t':=tk) fun b o e=>Heap.get?_push_of_some _ e,zc3 _ lo (hi-lo).toNat, ?_,fun b hb=> ?_,q⟩
  ·show IsRangeIter _ _ (lo+((0:Nat):Int)*1) ((((hi-lo).toNat:Nat):Int)-((0:Nat):Int)) 1
   rw[e1,e2]
   exact Heap.get?_push_size _ rfl
  ·have e:b=(s.heap.push {cls:=.type "range",data:=.fields #[.int lo t,.int hi u,.int 1 v]}).objs.size:=by simpa using hb
   subst e
   exact I1.fpOk (Nat.le_refl _) (I1.hok.fresh (Nat.le_refl _))
 ·refine wpAny_pyIter_longrange (IsRange.new ..) (by simpa using hsm) ?_
  refine⟨(s.heap.push {cls:=.type "range",data:=.fields #[.int lo t,.int hi u,.int 1 v]}).objs.size,[(s.heap.push {cls:=.type "range",data:=.fields #[.int lo t,.int hi u,.int 1 v]}).objs.size],_,_,H,rfl,
   I1.kept (t':=tk) fun b o e=>Heap.get?_push_of_some _ e,zeA _ lo (hi-lo).toNat, ?_,fun b hb=> ?_,q⟩
  ·show IsLongIter _ _ (lo+((0:Nat):Int)*1) ((((hi-lo).toNat:Nat):Int)-((0:Nat):Int)) 1
   rw[e1,e2]
   exact Heap.get?_push_size _ rfl
  ·have e:b=(s.heap.push {cls:=.type "range",data:=.fields #[.int lo t,.int hi u,.int 1 v]}).objs.size:=by simpa using hb
   subst e
   exact I1.fpOk (Nat.le_refl _) (I1.hok.fresh (Nat.le_refl _))
noncomputable def ziP (ta:TA):TI:=fun σ H R=>ta σ H fun vs H1=>∃i j:Int,vs=[.int i,.int j]/\R (Itr i (j-i).toNat) H1
theorem zfn {a b:Expr}{ta:TA}{p pos:Pos}(hg:Gl X "range")(hm:X.mg "range" =none)(ha:PA X [a,b] ta)(hs:starEach [a,b] X.env=[(false,eval a X.env),(false,eval b X.env)]:=by rfl)(hs2:starEach [b] X.env=[(false,eval b X.env)]:=by rfl):
  PI X tg (.Call (.Name "range" p) [a,b] [] pos) (ziP ta):=by
 intro pins s σ H R I h
 refine Call_ (zck I hg hm boot_range (PyProof.Rows.callWith_type1 (thn (ha pos pins s σ H _ I h) fun us s1 zq=> ?_) (by rw[hs,hs2]) (by rw[hs2];rfl)))
 obtain⟨vs,H1,I1,r1,q1⟩:=zq
 obtain⟨i,j,e,q⟩:=q1
 subst e
 cases r1 with
 | cons r rr=>
  cases rr with
  |cons r' rr=>
   cases rr
   obtain⟨t,rfl⟩:=r
   obtain⟨t',rfl⟩:=r'
   exact call_range_2 (zgj I1 q)
end
section
variable {K:PySem.W.Frag}{x qual:Str}{st:Stmt}{f:Addr}{fd:FuncData}
theorem Fun.b1 {p0:Str}(F:Fun K x qual st f fd)(h:∀(kV doc pm:Value) (an:Option Addr) (cdv ct:Value) (a0:Value),bindArgs (PySem.W.fnOf x qual (zaF st) (zat st) (zac st) .none kV doc pm an cdv ct) ⟨[a0],[]⟩=pure (([p0]:List Str).zip [a0])):Binds K fd [p0] []:=
 F.binds fun kV doc pm an cdv ct us hl=>match us,hl with|[a0],_=>h kV doc pm an cdv ct a0
theorem Fun.b2 {p0 p1:Str}(F:Fun K x qual st f fd)(h:∀(kV doc pm:Value) (an:Option Addr) (cdv ct:Value) (a0 a1:Value),bindArgs (PySem.W.fnOf x qual (zaF st) (zat st) (zac st) .none kV doc pm an cdv ct) ⟨[a0,a1],[]⟩=pure (([p0,p1]:List Str).zip [a0,a1])):Binds K fd [p0,p1] []:=
 F.binds fun kV doc pm an cdv ct us hl=>match us,hl with|[a0,a1],_=>h kV doc pm an cdv ct a0 a1
theorem Fun.b3 {p0 p1 p2:Str}(F:Fun K x qual st f fd)(h:∀(kV doc pm:Value) (an:Option Addr) (cdv ct:Value) (a0 a1 a2:Value),bindArgs (PySem.W.fnOf x qual (zaF st) (zat st) (zac st) .none kV doc pm an cdv ct) ⟨[a0,a1,a2],[]⟩=pure (([p0,p1,p2]:List Str).zip [a0,a1,a2])):Binds K fd [p0,p1,p2] []:=
 F.binds fun kV doc pm an cdv ct us hl=>match us,hl with|[a0,a1,a2],_=>h kV doc pm an cdv ct a0 a1 a2
theorem Fun.b4 {p0 p1 p2 p3:Str}(F:Fun K x qual st f fd)(h:∀(kV doc pm:Value) (an:Option Addr) (cdv ct:Value) (a0 a1 a2 a3:Value),bindArgs (PySem.W.fnOf x qual (zaF st) (zat st) (zac st) .none kV doc pm an cdv ct) ⟨[a0,a1,a2,a3],[]⟩=pure (([p0,p1,p2,p3]:List Str).zip [a0,a1,a2,a3])):Binds K fd [p0,p1,p2,p3] []:=
 F.binds fun kV doc pm an cdv ct us hl=>match us,hl with|[a0,a1,a2,a3],_=>h kV doc pm an cdv ct a0 a1 a2 a3
theorem Fun.b5 {p0 p1 p2 p3 p4:Str}(F:Fun K x qual st f fd)(h:∀(kV doc pm:Value) (an:Option Addr) (cdv ct:Value) (a0 a1 a2 a3 a4:Value),bindArgs (PySem.W.fnOf x qual (zaF st) (zat st) (zac st) .none kV doc pm an cdv ct) ⟨[a0,a1,a2,a3,a4],[]⟩=pure (([p0,p1,p2,p3,p4]:List Str).zip [a0,a1,a2,a3,a4])):Binds K fd [p0,p1,p2,p3,p4] []:=
 F.binds fun kV doc pm an cdv ct us hl=>match us,hl with|[a0,a1,a2,a3,a4],_=>h kV doc pm an cdv ct a0 a1 a2 a3 a4
end
end L2
namespace K64
open PySem PySem.Spec PyProof.Rows L2
noncomputable def top (i:Nat):Stmt:=PySem.Challenge.pw_shuffletold_k64_bound_papers.main.body.getD i (.Pass ⟨0,0,0,0⟩)
noncomputable abbrev zbJ:Stmt:=top 4
noncomputable abbrev zaz:Stmt:=top 13
noncomputable abbrev zbU:Stmt:=top 6
noncomputable abbrev zgk:Stmt:=top 8
noncomputable abbrev zdo:Stmt:=top 9
noncomputable abbrev zdp:Stmt:=top 10
noncomputable abbrev zcw:Stmt:=top 11
noncomputable abbrev zdq:Stmt:=top 12
section
variable {P:Program}{w:World}{K:PySem.W.Frag}{mg:Str->Option Value}{base:Heap}
theorem sc_product:FnScope ["first", "last", "found", "number"] ["first", "last"] (zac zbJ):=⟨rfl,rfl,rfl,by decide+kernel,rfl,by decide+kernel,by decide+kernel⟩
theorem zeB {f:Addr}{fd:FuncData}(F:Fun K "product" "product" zbJ f fd)(T:Top mg):FnOk P w K mg base CX0 1 f fd ["first", "last"] spPr:=by
 refine F.ok sc_product (fun vs H Q E h=> ?_) (fun cdv A outer s H vs Q E hr h=> ?_)
 ·obtain ⟨n,rfl,_⟩:=h
  rfl
 ·obtain ⟨n,rfl,hn,k⟩:=h
  refine⟨_,(pss_cons (ps_set (i:=2) sc_product.nd rfl (Or.inl rfl) pe_int)
   (pss_cons (ps_for PassesOwn.never rfl (zdI rfl T.n_range (pa_cons (pv 0) (pa_cons (pe_op zar (pv 1) pe_int) pa_nil))) (zao (i:=3) sc_product.nd rfl (Or.inl rfl))
    (pss_one (ps_set (i:=2) sc_product.nd rfl (Or.inl rfl) (pe_op zaJ (pv 2) (pv 3)))))
   (pss_one (ps_ret (pv 2))))), ?_⟩
  refine⟨_,rfl,_,rfl,_,_,rfl,rfl,_,_,rfl,⟨by decide,by decide,by (first|lia|omega),by (first|lia|omega)⟩, ?_⟩
  rw[show ((n:Int)+1-1).toNat=n by (first|lia|omega)]
  refine zaq (fun i σ G=>G=H/\∃c:Option V,σ=[some (.int 1),some (.int n),some (.int (fcZ i)),c]) ⟨rfl,none,rfl⟩ ?_ ?_
  ·rintro i σ G hi ⟨rfl,c,rfl⟩
   refine⟨_,rfl,_,rfl,_,_,rfl,rfl,.inr ⟨by (first|lia|omega),by (first|lia|omega)⟩,rfl,some (.int (1+(i:Int))), ?_⟩
   rw[show fcZ (i+1)=fcZ i*(1+(i:Int)) from by rw[Int.add_comm];rfl]
   rfl
  ·rintro σ G ⟨rfl,c,rfl⟩
   exact⟨_,rfl,k⟩
theorem sc_greatest_divisor:FnScope ["over", "under", "one", "other"] ["over", "under"] (zac zaz):=⟨rfl,rfl,rfl,by decide+kernel,rfl,by decide+kernel,by decide+kernel⟩
theorem zbv {f:Addr}{fd:FuncData}(F:Fun K "greatest_divisor" "greatest_divisor" zaz f fd):FnOk P w K mg base CX0 1 f fd ["over", "under"] zhJ:=by
 refine F.ok sc_greatest_divisor (fun vs H Q E h=> ?_) (fun cdv A outer s H vs Q E hr h=> ?_)
 ·obtain ⟨a,b,rfl,_⟩:=h
  rfl
 ·obtain ⟨a,b,rfl,hb,k⟩:=h
  refine⟨_,(pss_cons (ps_par (i:=2) (j:=3) rfl sc_greatest_divisor.nd rfl rfl (by decide) rfl rfl (pa_cons (pv 0) (pa_cons (pv 1) pa_nil)) rfl)
   (pss_cons (zdb PassesOwn.never (pt_cmpR zfe (pv 3) pe_int (zag _))
    (pss_one (ps_par (i:=2) (j:=3) rfl sc_greatest_divisor.nd rfl rfl (by decide) rfl rfl (pa_cons (pv 3) (pa_cons (pe_op zbo (pv 2) (pv 3)) pa_nil)) rfl)))
   (pss_one (ps_ret (pv 2))))), ?_⟩
  refine⟨_,rfl,_,rfl,_,_,rfl, ?_⟩
  refine⟨fun m σ G=>∃x y:Int,m=y.toNat/\σ=[some (.int a),some (.int b),some (.int x),some (.int y)]/\G=H/\0<=y/\(y=0->0<x)/\gcdZ x y=gcdZ a b,⟨_,a,b,rfl,rfl,rfl,by (first|lia|omega),by (first|lia|omega),rfl⟩, ?_⟩
  rintro m σ G ⟨x,y,rfl,rfl,rfl,y0,x0,e⟩
  refine⟨_,rfl,rfl,_,rfl, ?_⟩
  by_cases hy:y=0
  ·subst hy
   refine iteF ⟨_,rfl, ?_⟩
   rw[zd1 (Int.le_of_lt (x0 rfl))] at e
   rw[e]
   exact k
  ·rw [show (!decide (V.int y=V.int 0))=true from by rw[decide_eq_false (fun z=>hy (V.int.inj z))];rfl]
   refine iteT ⟨fun σ' G'=>∃x' y':Int,y'<y/\σ'=[some (.int a),some (.int b),some (.int x'),some (.int y')]/\G'=G/\0<=y'/\(y'=0->0<x')/\gcdZ x' y'=gcdZ a b, ?_, ?_⟩
   ·rintro σ' G' ⟨x',y',h1,h2,h3,h4,h5⟩
    exact⟨_,by (first|lia|omega),x',y',rfl,h2,h3,h4,h5⟩
   ·refine ⟨_,rfl,_,rfl,_,rfl,_,_,rfl,rfl,by (first|lia|omega),_,_,rfl, ?_⟩
    exact⟨_,_,Int.emod_lt_of_pos _ (by (first|lia|omega)),rfl,rfl,Int.emod_nonneg _ hy,fun _=>by (first|lia|omega),by rw[zd0 (by (first|lia|omega))];exact e⟩
theorem sc_share_of:FnScope ["over", "under", "both"] ["over", "under"] (zac zbU):=⟨rfl,rfl,rfl,by decide+kernel,rfl,by decide+kernel,by decide+kernel⟩
theorem zeC {f:Addr}{fd:FuncData}(F:Fun K "share_of" "share_of" zbU f fd)(Cgreatest_divisor:Cal P w K mg base 1 "greatest_divisor" ["over", "under"] zhJ):FnOk P w K mg base CX0 2 f fd ["over", "under"] zbf:=by
 refine F.ok sc_share_of (fun vs H Q E h=> ?_) (fun cdv A outer s H vs Q E hr h=> ?_)
 ·obtain ⟨a,b,rfl,_⟩:=h
  rfl
 ·obtain ⟨a,b,rfl,hb,sb,k⟩:=h
  refine⟨_,(pss_cons (ps_set (i:=2) sc_share_of.nd rfl (Or.inl rfl) (pe_cal Cgreatest_divisor (hr.mono (by decide)) rfl (pa_cons (pv 0) (pa_cons (pv 1) pa_nil))))
   (pss_one (ps_ret (pe_tup (pa_cons (pe_op zbn (pv 0) (pv 2)) (pa_cons (pe_op zbn (pv 1) (pv 2)) pa_nil)))))), ?_⟩
  have g0:=zay (a:=a) hb
  have gs:Sm (gcdZ a b) 8000:=sb.le (by have:=zf5 (a:=a) hb;(first|lia|omega))
  refine⟨_,rfl,_,rfl,a,b,rfl,hb, ?_⟩
  refine⟨_,rfl,_,rfl,_,_,rfl,rfl,⟨g0,gs⟩,_,rfl,_,rfl,_,_,rfl,rfl,⟨g0,gs⟩,by show 2<=sizeLine;decide,fun z hz=> ?_⟩
  exact k z _ (zaa hz) zab
theorem zhW:FnScope ["one", "other"] ["one", "other"] (zac zgk):=⟨rfl,rfl,rfl,by decide+kernel,rfl,by decide+kernel,by decide+kernel⟩
theorem zhX {f:Addr}{fd:FuncData}(F:Fun K "less" "less" zgk f fd)(Cshare_of:Cal P w K mg base 2 "share_of" ["over", "under"] zbf):FnOk P w K mg base CX0 3 f fd ["one", "other"] (spSh leZ):=by
 refine F.ok zhW (fun vs H Q E h=> ?_) (fun cdv A outer s H vs Q E hr h=> ?_)
 ·obtain ⟨x,y,p,q,rfl,_⟩:=h
  rfl
 ·obtain ⟨x,y,p,q,rfl,hx,hy,bp,bq,k⟩:=h
  refine⟨_,(pss_one (ps_ret (pe_cal Cshare_of (hr.mono (by decide)) rfl (pa_cons (pe_op zax (pe_op zah (pe_ix zae (pv 0) pe_int (fun _ _=>rfl)) (pe_ix zae (pv 1) pe_int (fun _ _=>rfl))) (pe_op zah (pe_ix zae (pv 1) pe_int (fun _ _=>rfl)) (pe_ix zae (pv 0) pe_int (fun _ _=>rfl)))) (pa_cons (pe_op zah (pe_ix zae (pv 0) pe_int (fun _ _=>rfl)) (pe_ix zae (pv 1) pe_int (fun _ _=>rfl))) pa_nil))))), ?_⟩
  refine⟨_,rfl,x,_,0,_,rfl,rfl,SqT.of hx,zad (j:=0) rfl,_,rfl,y,_,1,_,rfl,rfl,SqT.of hy,zad (j:=1) rfl,_,_,rfl,rfl,⟨bp.s1.mono (by decide),bq.s2.mono (by decide)⟩,_,rfl,y,_,0,_,rfl,rfl,SqT.of hy,zad (j:=0) rfl,_,rfl,x,_,1,_,rfl,rfl,SqT.of hx,zad (j:=1) rfl,_,_,rfl,rfl,⟨bq.s1.mono (by decide),bp.s2.mono (by decide)⟩,_,_,rfl,rfl,_,rfl,x,_,1,_,rfl,rfl,SqT.of hx,zad (j:=1) rfl,_,rfl,y,_,1,_,rfl,rfl,SqT.of hy,zad (j:=1) rfl,_,_,rfl,rfl,⟨bp.s2.mono (by decide),bq.s2.mono (by decide)⟩,_,_,rfl,Int.mul_pos bp.pos bq.pos,(bp.s2.mul bq.s2).mono (by decide),fun z H2 s2 hz=>k z H2 s2 hz⟩
theorem ze4:FnScope ["one", "other"] ["one", "other"] (zac zdo):=⟨rfl,rfl,rfl,by decide+kernel,rfl,by decide+kernel,by decide+kernel⟩
theorem zg3 {f:Addr}{fd:FuncData}(F:Fun K "times" "times" zdo f fd)(Cshare_of:Cal P w K mg base 2 "share_of" ["over", "under"] zbf):FnOk P w K mg base CX0 3 f fd ["one", "other"] (spSh tmZ):=by
 refine F.ok ze4 (fun vs H Q E h=> ?_) (fun cdv A outer s H vs Q E hr h=> ?_)
 ·obtain ⟨x,y,p,q,rfl,_⟩:=h
  rfl
 ·obtain ⟨x,y,p,q,rfl,hx,hy,bp,bq,k⟩:=h
  refine⟨_,(pss_one (ps_ret (pe_cal Cshare_of (hr.mono (by decide)) rfl (pa_cons (pe_op zah (pe_ix zae (pv 0) pe_int (fun _ _=>rfl)) (pe_ix zae (pv 1) pe_int (fun _ _=>rfl))) (pa_cons (pe_op zah (pe_ix zae (pv 0) pe_int (fun _ _=>rfl)) (pe_ix zae (pv 1) pe_int (fun _ _=>rfl))) pa_nil))))), ?_⟩
  refine⟨_,rfl,x,_,0,_,rfl,rfl,SqT.of hx,zad (j:=0) rfl,_,rfl,y,_,0,_,rfl,rfl,SqT.of hy,zad (j:=0) rfl,_,_,rfl,rfl,⟨bp.s1.mono (by decide),bq.s1.mono (by decide)⟩,_,rfl,x,_,1,_,rfl,rfl,SqT.of hx,zad (j:=1) rfl,_,rfl,y,_,1,_,rfl,rfl,SqT.of hy,zad (j:=1) rfl,_,_,rfl,rfl,⟨bp.s2.mono (by decide),bq.s2.mono (by decide)⟩,_,_,rfl,Int.mul_pos bp.pos bq.pos,(bp.s2.mul bq.s2).mono (by decide),fun z H2 s2 hz=>k z H2 s2 hz⟩
theorem zgl {f:Addr}{fd:FuncData}(F:Fun K "times" "times" zdo f fd)(Cshare_of:Cal P w K mg base 2 "share_of" ["over", "under"] zbf):FnOk P w K mg base CX0 3 f fd ["one", "other"] zhV:=by
 refine F.ok ze4 (fun vs H Q E h=> ?_) (fun cdv A outer s H vs Q E hr h=> ?_)
 ·obtain ⟨x,y,p,q,rfl,_⟩:=h
  rfl
 ·obtain ⟨x,y,p,q,rfl,hx,hy,bp,bq,b2,k⟩:=h
  refine⟨_,(pss_one (ps_ret (pe_cal Cshare_of (hr.mono (by decide)) rfl (pa_cons (pe_op zah (pe_ix zae (pv 0) pe_int (fun _ _=>rfl)) (pe_ix zae (pv 1) pe_int (fun _ _=>rfl))) (pa_cons (pe_op zah (pe_ix zae (pv 0) pe_int (fun _ _=>rfl)) (pe_ix zae (pv 1) pe_int (fun _ _=>rfl))) pa_nil))))), ?_⟩
  refine⟨_,rfl,x,_,0,_,rfl,rfl,SqT.of hx,zad (j:=0) rfl,_,rfl,y,_,0,_,rfl,rfl,SqT.of hy,zad (j:=0) rfl,_,_,rfl,rfl,⟨bp.s1.mono (by decide),bq.s1.mono (by decide)⟩,_,rfl,x,_,1,_,rfl,rfl,SqT.of hx,zad (j:=1) rfl,_,rfl,y,_,1,_,rfl,rfl,SqT.of hy,zad (j:=1) rfl,_,_,rfl,rfl,⟨bp.s2.mono (by decide),bq.s2.mono (by decide)⟩,_,_,rfl,Int.mul_pos bp.pos bq.pos,b2,fun z H2 s2 hz=>k z H2 s2 hz⟩
theorem zgm:FnScope ["one", "other"] ["one", "other"] (zac zdp):=⟨rfl,rfl,rfl,by decide+kernel,rfl,by decide+kernel,by decide+kernel⟩
theorem zgn {f:Addr}{fd:FuncData}(F:Fun K "parted" "parted" zdp f fd)(Cshare_of:Cal P w K mg base 2 "share_of" ["over", "under"] zbf):FnOk P w K mg base CX0 3 f fd ["one", "other"] spPt:=by
 refine F.ok zgm (fun vs H Q E h=> ?_) (fun cdv A outer s H vs Q E hr h=> ?_)
 ·obtain ⟨x,y,p,q,rfl,_⟩:=h
  rfl
 ·obtain ⟨x,y,p,q,rfl,hx,hy,bp,bq,q0,k⟩:=h
  refine⟨_,(pss_one (ps_ret (pe_cal Cshare_of (hr.mono (by decide)) rfl (pa_cons (pe_op zah (pe_ix zae (pv 0) pe_int (fun _ _=>rfl)) (pe_ix zae (pv 1) pe_int (fun _ _=>rfl))) (pa_cons (pe_op zah (pe_ix zae (pv 0) pe_int (fun _ _=>rfl)) (pe_ix zae (pv 1) pe_int (fun _ _=>rfl))) pa_nil))))), ?_⟩
  refine⟨_,rfl,x,_,0,_,rfl,rfl,SqT.of hx,zad (j:=0) rfl,_,rfl,y,_,1,_,rfl,rfl,SqT.of hy,zad (j:=1) rfl,_,_,rfl,rfl,⟨bp.s1.mono (by decide),bq.s2.mono (by decide)⟩,_,rfl,x,_,1,_,rfl,rfl,SqT.of hx,zad (j:=1) rfl,_,rfl,y,_,0,_,rfl,rfl,SqT.of hy,zad (j:=0) rfl,_,_,rfl,rfl,⟨bp.s2.mono (by decide),bq.s1.mono (by decide)⟩,_,_,rfl,Int.mul_pos bp.pos q0,(bp.s2.mul bq.s1).mono (by decide),fun z H2 s2 hz=>k z H2 s2 hz⟩
theorem zfo:FnScope ["one", "other"] ["one", "other"] (zac zcw):=⟨rfl,rfl,rfl,by decide+kernel,rfl,by decide+kernel,by decide+kernel⟩
theorem zfp {f:Addr}{fd:FuncData}(F:Fun K "is_less" "is_less" zcw f fd):FnOk P w K mg base CX0 1 f fd ["one", "other"] zdj:=by
 refine F.ok zfo (fun vs H Q E h=> ?_) (fun cdv A outer s H vs Q E hr h=> ?_)
 ·obtain ⟨x,y,p,q,rfl,_⟩:=h
  rfl
 ·obtain ⟨x,y,p,q,rfl,hx,hy,bp,bq,k⟩:=h
  refine⟨_,(pss_one (ps_ret (pe_cmpR zfF (pe_op zah (pe_ix zae (pv 0) pe_int (fun _ _=>rfl)) (pe_ix zae (pv 1) pe_int (fun _ _=>rfl))) (pe_op zah (pe_ix zae (pv 1) pe_int (fun _ _=>rfl)) (pe_ix zae (pv 0) pe_int (fun _ _=>rfl))) (zag _)))), ?_⟩
  refine⟨_,rfl,x,_,0,_,rfl,rfl,SqT.of hx,zad (j:=0) rfl,_,rfl,y,_,1,_,rfl,rfl,SqT.of hy,zad (j:=1) rfl,_,_,rfl,rfl,⟨bp.s1.mono (by decide),bq.s2.mono (by decide)⟩,_,rfl,y,_,0,_,rfl,rfl,SqT.of hy,zad (j:=0) rfl,_,rfl,x,_,1,_,rfl,rfl,SqT.of hx,zad (j:=1) rfl,_,_,rfl,rfl,⟨bq.s1.mono (by decide),bp.s2.mono (by decide)⟩,_,_,rfl,rfl, ?_⟩
  exact k H (Same.refl H)
theorem zgo:FnScope ["one", "other"] ["one", "other"] (zac zdq):=⟨rfl,rfl,rfl,by decide+kernel,rfl,by decide+kernel,by decide+kernel⟩
theorem zgp {f:Addr}{fd:FuncData}(F:Fun K "lesser" "lesser" zdq f fd)(Cis_less:Cal P w K mg base 1 "is_less" ["one", "other"] zdj):FnOk P w K mg base CX0 2 f fd ["one", "other"] (zhM minZ):=by
 refine F.ok zgo (fun vs H Q E h=> ?_) (fun cdv A outer s H vs Q E hr h=> ?_)
 ·obtain ⟨x,y,p,q,rfl,_⟩:=h
  rfl
 ·obtain ⟨x,y,p,q,rfl,hx,hy,bp,bq,k⟩:=h
  refine⟨_,(pss_one (ps_ret (pe_ifExp (pt_val (pe_cal Cis_less (hr.mono (by decide)) rfl (pa_cons (pv 1) (pa_cons (pv 0) pa_nil)))) (pv 1) (pv 0)))), ?_⟩
  refine⟨_,rfl,_,rfl,y,x,q,p,rfl,hy,hx,bq,bp,fun H2 s2=>⟨_,rfl, ?_⟩⟩
  have e:minZ p q=if ltZ q p then q else p:=rfl
  refine ite2 (fun h=> ?_) (fun h=> ?_)
  ·refine ⟨_,rfl,k y H2 s2 ?_⟩
   rw[e,if_pos h]
   exact s2 _ _ hy
  ·refine ⟨_,rfl,k x H2 s2 ?_⟩
   rw[e,if_neg h]
   exact s2 _ _ hx
end
noncomputable abbrev zbV:Stmt:=top 66
noncomputable abbrev zbw:Stmt:=top 67
noncomputable abbrev zcx:Stmt:=top 68
noncomputable abbrev za5:Stmt:=top 69
section
variable {P:Program}{w:World}{K:PySem.W.Frag}{mg:Str->Option Value}{base:Heap}
theorem sc__law_pot:FnScope ["_law_script", "_law_k", "_law_cell", "_law_number_here", "_law_mixed"] ["_law_script", "_law_k"] (zac zbV):=⟨rfl,rfl,rfl,by decide+kernel,rfl,by decide+kernel,by decide+kernel⟩
theorem zeD {f:Addr}{fd:FuncData}(F:Fun K "_law_pot" "_law_pot" zbV f fd)(T:Top mg):FnOk P w K mg base CX0 1 f fd ["_law_script", "_law_k"] (zeZ K):=by
 refine F.ok sc__law_pot (fun vs H Q E h=> ?_) (fun cdv A outer s H vs Q E hr h=> ?_)
 ·obtain ⟨a,ns,k,rfl,_⟩:=h
  rfl
 ·obtain ⟨a,ns,j,rfl,hS,j0,j1,k⟩:=h
  refine⟨_,(pss_cons (ps_set (i:=2) sc__law_pot.nd rfl (Or.inl rfl) pe_int)
   (pss_cons (ps_if (pt_cmpR zfF (pv 1) (pe_callB zan (by rfl) T.n_len PySem.boot_len (pa_cons (pv 0) pa_nil)) (zag _))
    (pss_one (ps_set (i:=2) sc__law_pot.nd rfl (Or.inl rfl) (pe_ix za2 (pv 0) (pv 1) (fun _ _=>rfl))))
    pss_nil)
   (pss_cons (ps_set (i:=3) sc__law_pot.nd rfl (Or.inl rfl) (pe_op zar (pe_op zaJ pe_int (pe_op zbo (pe_callB zeS (by rfl) T.n_abs boot_abs (pa_cons (pv 2) pa_nil)) (pe_op zbS (pe_op zeQ pe_int pe_int) pe_int))) (zco zcn (by rfl) T.n_int boot_int (pa_cons (pe_cmpR zfF (pv 2) pe_int (zag _)) pa_nil))))
   (pss_cons (ps_set (i:=4) sc__law_pot.nd rfl (Or.inl rfl) (pe_op zbo (pe_op zbS (pe_op zar (pe_op zar (pv 3) (pe_op zaJ pe_int (pv 1))) pe_int) pe_int) pe_int))
   (pss_one (ps_ret (pe_lst (pa_cons (pe_op zaJ (pv 3) (zco zcn (by rfl) T.n_int boot_int (pa_cons (pe_cmpR zhx (pv 3) (pe_op zaJ pe_int (pe_op zeQ pe_int pe_int)) (zag _)) pa_nil))) (pa_cons (pv 4) pa_nil))))))))), ?_⟩
  have e64:∀b:Bool,(-(2^64):Int)<(if b then 1 else 0)/\(if b then 1 else 0:Int)<2^64:=fun b=>by cases b<;>decide
  have e01:∀b:Bool,(0:Int)<=(if b then 1 else 0)/\(if b then 1 else 0:Int)<=1:=fun b=>by cases b<;>decide
  refine⟨_,rfl,_,rfl,a,_,rfl,.inl hS,_,_,rfl,rfl,_,rfl, ?_⟩
  refine ite2 (fun h=> ?a) (fun h=> ?b)
  case' a=>
   have hj:=of_decide_eq_true h
   rw[zch] at hj
   refine⟨_,rfl,_,rfl,a,_,j,.int (ns.getD j.toNat 0),rfl,rfl,hS, ?hat, ?_⟩
   case hat=>
    have:=zad (xs:=ns.map V.int) (j:=j.toNat) (v:=.int (ns.getD j.toNat 0)) (by rw[List.getElem?_map,List.getD_eq_getElem?_getD,List.getElem?_eq_getElem (by (first|lia|omega))];rfl)
    rwa [show ((j.toNat:Nat):Int)=j by (first|lia|omega)] at this
  all_goals
   refine⟨_,rfl,_,rfl,_,_,rfl,rfl,⟨by decide,by decide,by decide⟩,_,_,rfl,rfl,⟨by decide,zgS⟩,_,_,rfl,rfl,zci,_,_,rfl,rfl,.inl ⟨by decide,by decide⟩,_,rfl,_,_,rfl,rfl,.inr ⟨_,rfl,_,_,rfl,rfl, ?_⟩⟩
   refine⟨_,rfl,_,rfl,_,_,rfl,rfl,.inl ⟨by decide,by decide⟩,_,_,rfl,rfl,_,_,rfl,rfl,_,_,rfl,rfl,⟨by decide,zf4 zf3 (Int.emod_nonneg _ (Int.ne_of_gt zci)) (Int.emod_lt_of_pos _ zci) j0 j1 (e01 _).1 (e01 _).2⟩,_,_,rfl,rfl,(by show (0:Int)<18446744073709551557;decide), ?_⟩
   refine⟨_,rfl,_,rfl,_,_,rfl,rfl,⟨by decide,by decide,by decide⟩,_,_,rfl,rfl,.inl ⟨by decide,by decide⟩,_,_,rfl,rfl,.inr ⟨_,rfl,_,_,rfl,rfl,.inr ?_,_,rfl,by show 2<=sizeLine;decide,fun p hp=> ?_⟩⟩
   ·exact e64 _
   ·refine k p _ (zaa hp) ⟨_,_,zab, ?_,Int.emod_nonneg _ (by decide),Int.emod_lt_of_pos _ (by decide)⟩ hp
    exact Int.mul_nonneg (Int.add_nonneg (Int.mul_nonneg (by decide) (Int.emod_nonneg _ (Int.ne_of_gt zci))) (e01 _).1) (e01 _).1
theorem sc__law_next:FnScope ["_law_pot_here", "_law_many", "_law_digit"] ["_law_pot_here", "_law_many"] (zac zbw):=⟨rfl,rfl,rfl,by decide+kernel,rfl,by decide+kernel,by decide+kernel⟩
theorem zed {f:Addr}{fd:FuncData}(F:Fun K "_law_next" "_law_next" zbw f fd):FnOk P w K mg base CX0 1 f fd ["_law_pot_here", "_law_many"] zaS:=by
 refine F.ok sc__law_next (fun vs H Q E h=> ?_) (fun cdv A outer s H vs Q E hr h=> ?_)
 ·obtain ⟨p,m,rfl,_⟩:=h
  rfl
 ·obtain ⟨p,m,rfl,hm0,hm1,⟨own,mixed,hp,o0,x0,x1⟩,k⟩:=h
  refine⟨_,(pss_cons (ps_if (pt_cmpR zcL (pe_ix za2 (pv 0) pe_int (fun _ _=>rfl)) pe_int (zag _))
    (pss_cons (ps_set (i:=2) sc__law_next.nd rfl (Or.inl rfl) (pe_op zbo (pe_ix za2 (pv 0) pe_int (fun _ _=>rfl)) (pv 1)))
    (pss_cons (ps_asg (pe_op zbs (pe_ix za2 (pv 0) pe_int (fun _ _=>rfl)) (pv 1)) (zhg (pv 0) pe_int zeU))
    (pss_one (ps_ret (pv 2)))))
    pss_nil)
   (pss_cons (ps_asg (pe_op zbo (pe_op zar (pe_op zaJ (pe_ix za2 (pv 0) pe_int (fun _ _=>rfl)) pe_int) pe_int) pe_int) (zhg (pv 0) pe_int zeU))
   (pss_one (ps_ret (pe_op zbo (pe_op zbs (pe_op zbo (pe_op zaJ (pe_ix za2 (pv 0) pe_int (fun _ _=>rfl)) (pe_ix za2 (pv 0) pe_int (fun _ _=>rfl))) pe_int) pe_int) (pv 1)))))), ?_⟩
  refine⟨_,rfl,p,_,0,_,rfl,rfl,SqL.of hp,zad (j:=0) rfl,_,_,rfl,rfl,_,rfl, ?_⟩
  refine ite2 (fun _=> ?_) (fun _=> ?_)
  ·refine ⟨_,rfl,p,_,0,_,rfl,rfl,SqL.of hp,zad (j:=0) rfl,_,rfl,_,_,rfl,rfl,hm0, ?_⟩
   refine⟨_,rfl,p,_,0,_,rfl,rfl,SqL.of hp,zad (j:=0) rfl,_,rfl,_,_,rfl,rfl,⟨hm0,hm1⟩,_,rfl,p,_,0,0,rfl,rfl,hp,rfl, ?_⟩
   refine⟨_,rfl, ?_⟩
   refine k _ _ (Int.emod_nonneg _ (by (first|lia|omega))) (Int.emod_lt_of_pos _ hm0) ⟨_,_,zab,Int.ediv_nonneg o0 (by (first|lia|omega)),x0,x1⟩ fun b o hb h1 _=> ?_
   rw[zak h1]
   exact hb
  ·refine ⟨_,rfl,p,_,1,_,rfl,rfl,SqL.of hp,zad (j:=1) rfl,_,_,rfl,rfl,.inr ⟨by decide,by decide⟩,_,_,rfl,rfl,_,_,rfl,rfl,(by show (0:Int)<18446744073709551557;decide),_,rfl,p,_,1,1,rfl,rfl,hp,rfl, ?_⟩
   have y0:=Int.emod_nonneg (mixed*6364136223846793005+1442695040888963407) (by decide:(18446744073709551557:Int)≠0)
   have y1:=Int.emod_lt_of_pos (mixed*6364136223846793005+1442695040888963407) (by decide:(0:Int)<18446744073709551557)
   refine⟨_,rfl,p,_,1,_,rfl,rfl,SqL.of zab,zad (j:=1) rfl,_,rfl,p,_,1,_,rfl,rfl,SqL.of zab,zad (j:=1) rfl,_,_,rfl,rfl,.inl ⟨by (first|lia|omega),by (first|lia|omega)⟩,_,_,rfl,rfl,(by show (0:Int)<2305843009213693951;decide),_,_,rfl,rfl,⟨by decide,by decide⟩,_,rfl,_,_,rfl,rfl,hm0, ?_⟩
   refine k _ _ (Int.emod_nonneg _ (by (first|lia|omega))) (Int.emod_lt_of_pos _ hm0) ⟨_,_,zab,o0,y0,y1⟩ fun b o hb h1 _=> ?_
   rw[zak h1]
   exact hb
theorem zfq:FnScope ["_law_pot_here", "_law_some"] ["_law_pot_here", "_law_some"] (zac zcx):=⟨rfl,rfl,rfl,by decide+kernel,rfl,by decide+kernel,by decide+kernel⟩
theorem zfr {f:Addr}{fd:FuncData}(F:Fun K "_law_of" "_law_of" zcx f fd)(T:Top mg)(C_law_next:Cal P w K mg base 1 "_law_next" ["_law_pot_here", "_law_many"] zaS):FnOk P w K mg base CX0 2 f fd ["_law_pot_here", "_law_some"] zex:=by
 refine F.ok zfq (fun vs H Q E h=> ?_) (fun cdv A outer s H vs Q E hr h=> ?_)
 ·obtain ⟨p,l,xs,rfl,_⟩:=h
  rfl
 ·obtain ⟨p,l,xs,rfl,hl,hne,l0,l1,hp,k⟩:=h
  refine⟨_,(pss_one (ps_ret (pe_ix za2 (pv 1) (pe_cal C_law_next (hr.mono (by decide)) rfl (pa_cons (pv 0) (pa_cons (pe_callB zan (by rfl) T.n_len PySem.boot_len (pa_cons (pv 1) pa_nil)) pa_nil))) (fun _ _=>rfl)))), ?_⟩
  refine⟨_,rfl,_,rfl,_,rfl,l,_,rfl,.inl (SqL.of hl),p,_,rfl,by (first|lia|omega),by (first|lia|omega),hp,fun d H' d0 d1 hp' kp=> ?_⟩
  have hd:d.toNat<xs.length:=by (first|lia|omega)
  refine⟨l,xs,d,xs[d.toNat],rfl,rfl,SqL.of (kp _ _ hl hne hne), ?_,k _ (List.getElem_mem _) _ hp' kp⟩
  have:=zad (xs:=xs) (j:=d.toNat) (v:=xs[d.toNat]) (List.getElem?_eq_getElem hd)
  rwa [show ((d.toNat:Nat):Int)=d by (first|lia|omega)] at this
theorem sc__law_number:FnScope ["_law_pot_here", "_law_some", "_law_most"] ["_law_pot_here", "_law_some"] (zac za5):=⟨rfl,rfl,rfl,by decide+kernel,rfl,by decide+kernel,by decide+kernel⟩
theorem zcP {f:Addr}{fd:FuncData}(F:Fun K "_law_number" "_law_number" za5 f fd)(C_law_next:Cal P w K mg base 1 "_law_next" ["_law_pot_here", "_law_many"] zaS)(C_law_of:Cal P w K mg base 2 "_law_of" ["_law_pot_here", "_law_some"] zex):FnOk P w K mg base CX0 3 f fd ["_law_pot_here", "_law_some"] zbD:=by
 refine F.ok sc__law_number (fun vs H Q E h=> ?_) (fun cdv A outer s H vs Q E hr h=> ?_)
 ·obtain ⟨p,l,xs,rfl,_⟩:=h
  rfl
 ·obtain ⟨p,l,xs,rfl,hl,hne,l0,l1,hx,hp,k⟩:=h
  refine⟨_,(pss_cons (ps_set (i:=2) sc__law_number.nd rfl (Or.inl rfl) (pe_cal C_law_of (hr.mono (by decide)) rfl (pa_cons (pv 0) (pa_cons (pv 1) pa_nil))))
   (pss_one (ps_ret (pe_ifExp (pt_cmpR zcL (pv 2) pe_int (zag _)) (pe_cal C_law_next (hr.mono (by decide)) rfl (pa_cons (pv 0) (pa_cons (pv 2) pa_nil))) (pe_un zb2 (pv 2)))))), ?_⟩
  refine⟨_,rfl,_,rfl,p,l,_,rfl,hl,hne,by rw[zch];exact l0,by rw[zch];exact l1,hp,fun x hx' H' hp' kp=> ?_⟩
  obtain⟨n,hn,rfl⟩:=List.mem_map.mp hx'
  refine⟨_,rfl,_,_,rfl,rfl,_,rfl, ?_⟩
  refine ite2 (fun h=> ?_) (fun h=> ?_)
  ·have h':=of_decide_eq_true h
   refine⟨_,rfl,_,rfl,p,n,rfl,by (first|lia|omega),hx n hn,hp',fun d H2 d0 d1 hp2 kp2=> ?_⟩
   exact k n hn d H2 (fun _=>⟨d0,d1⟩) (fun z=>absurd h' z) hp2 (kp.trans kp2)
  ·have h':¬0<n:=fun z=>h (decide_eq_true z)
   exact⟨_,rfl,_,rfl,k n hn _ H' (fun z=>absurd z h') (fun _=>rfl) hp' kp⟩
end
noncomputable abbrev zbh:Stmt:=top 31
noncomputable abbrev zaU:Stmt:=top 32
noncomputable abbrev zaV:Stmt:=top 33
noncomputable abbrev zaI:Stmt:=top 34
noncomputable abbrev zgq:Stmt:=top 37
noncomputable abbrev zdr:Stmt:=top 38
noncomputable abbrev za6:Stmt:=top 40
noncomputable abbrev zaL:Stmt:=top 41
noncomputable abbrev zaW:Stmt:=top 42
noncomputable abbrev za7:Stmt:=top 43
noncomputable abbrev zaM:Stmt:=top 44
noncomputable abbrev zaX:Stmt:=top 45
noncomputable abbrev zcy:Stmt:=top 46
noncomputable abbrev zeE:Stmt:=top 47
noncomputable abbrev zbi:Stmt:=top 49
section
variable {P:Program}{w:World}{K:PySem.W.Frag}{mg:Str->Option Value}{base:Heap}
theorem zds:FnScope ["many"] ["many"] (zac zbh):=⟨rfl,rfl,rfl,by decide+kernel,rfl,by decide+kernel,by decide+kernel⟩
theorem zdt {f:Addr}{fd:FuncData}(F:Fun K "rises_mean" "rises_mean" zbh f fd)(T:Top mg)(Cshare_of:Cal P w K mg base 2 "share_of" ["over", "under"] zbf):FnOk P w K mg base CX0 3 f fd ["many"] (spN1 (mnZ "rises")):=by
 refine F.ok zds (fun vs H Q E h=> ?_) (fun cdv A outer s H vs Q E hr h=> ?_)
 ·obtain ⟨N,rfl,_⟩:=h
  rfl
 ·obtain ⟨N,rfl,h0,h1,k⟩:=h
  refine⟨_,(pss_one (ps_ret (pe_cal Cshare_of (hr.mono (by decide)) rfl (pa_cons (pe_callB (zaK rfl) (by rfl) T.n_max boot_max (pa_cons (pe_op zax (pv 0) pe_int) (pa_cons pe_int pa_nil))) (pa_cons pe_int pa_nil))))), ?_⟩
  refine⟨_,rfl,_,_,rfl,rfl,_,_,rfl,_,2,rfl,by decide,Sm.of (by decide+kernel),fun z H1 s1 hz=>k z H1 s1 ?_⟩
  rw[ziH N h0] at hz
  exact hz
theorem sc_rises_spread:FnScope ["many", "themselves", "neighbours"] ["many"] (zac zaU):=⟨rfl,rfl,rfl,by decide+kernel,rfl,by decide+kernel,by decide+kernel⟩
theorem zcz {f:Addr}{fd:FuncData}(F:Fun K "rises_spread" "rises_spread" zaU f fd)(T:Top mg)(Cshare_of:Cal P w K mg base 2 "share_of" ["over", "under"] zbf):FnOk P w K mg base CX0 3 f fd ["many"] (spN1 (sdZ "rises")):=by
 refine F.ok sc_rises_spread (fun vs H Q E h=> ?_) (fun cdv A outer s H vs Q E hr h=> ?_)
 ·obtain ⟨N,rfl,_⟩:=h
  rfl
 ·obtain ⟨N,rfl,h0,h1,k⟩:=h
  refine⟨_,(pss_cons (ps_set (i:=1) sc_rises_spread.nd rfl (Or.inl rfl) (pe_callB (zaK rfl) (by rfl) T.n_max boot_max (pa_cons (pe_op zax (pv 0) pe_int) (pa_cons pe_int pa_nil))))
   (pss_cons (ps_set (i:=2) sc_rises_spread.nd rfl (Or.inl rfl) (pe_op zaJ pe_int (pe_callB (zaK rfl) (by rfl) T.n_max boot_max (pa_cons (pe_op zax (pv 0) pe_int) (pa_cons pe_int pa_nil)))))
   (pss_one (ps_ret (pe_cal Cshare_of (hr.mono (by decide)) rfl (pa_cons (pe_op zax (pe_op zaJ pe_int (pv 1)) (pv 2)) (pa_cons pe_int pa_nil))))))), ?_⟩
  refine⟨_,rfl,_,_,rfl,rfl,_,_,rfl, ?_⟩
  refine⟨_,rfl,_,_,rfl,rfl,_,_,rfl,_,_,rfl,rfl,.inl ⟨by decide,by decide⟩, ?_⟩
  refine⟨_,rfl,_,_,rfl,rfl,.inl ⟨by decide,by decide⟩,_,rfl,_,_,rfl,rfl,_,12,rfl,by decide,Sm.of (by decide+kernel),fun z H1 s1 hz=>k z H1 s1 ?_⟩
  rw[zgZ N h0] at hz
  exact hz
theorem zcA:FnScope ["many"] ["many"] (zac zaV):=⟨rfl,rfl,rfl,by decide+kernel,rfl,by decide+kernel,by decide+kernel⟩
theorem zcB {f:Addr}{fd:FuncData}(F:Fun K "crossed_mean" "crossed_mean" zaV f fd)(T:Top mg)(Cshare_of:Cal P w K mg base 2 "share_of" ["over", "under"] zbf):FnOk P w K mg base CX0 3 f fd ["many"] (spN1 (mnZ "crossed")):=by
 refine F.ok zcA (fun vs H Q E h=> ?_) (fun cdv A outer s H vs Q E hr h=> ?_)
 ·obtain ⟨N,rfl,_⟩:=h
  rfl
 ·obtain ⟨N,rfl,h0,h1,k⟩:=h
  refine⟨_,(pss_one (ps_ret (pe_cal Cshare_of (hr.mono (by decide)) rfl (pa_cons (pe_op zbs (pe_op zah (pv 0) (pe_op zax (pv 0) pe_int)) pe_int) (pa_cons pe_int pa_nil))))), ?_⟩
  refine⟨_,rfl,_,rfl,_,_,rfl,rfl,_,_,rfl,rfl,⟨(sm_N h0 h1).mono (by decide),(zd4 (i:=1) h0 h1 (by decide)).mono (by decide)⟩,_,_,rfl,rfl,⟨by decide,by decide⟩,_,2,rfl,by decide,Sm.of (by decide+kernel),fun z H1 s1 hz=>k z H1 s1 ?_⟩
  have e:lowZ (N*(N-1)/2) 2=mnZ "crossed" N:=ziG N
  rw[e] at hz
  exact hz
theorem sc_crossed_spread:FnScope ["many", "twos", "threes"] ["many"] (zac zaI):=⟨rfl,rfl,rfl,by decide+kernel,rfl,by decide+kernel,by decide+kernel⟩
theorem zbW {f:Addr}{fd:FuncData}(F:Fun K "crossed_spread" "crossed_spread" zaI f fd)(T:Top mg)(Cshare_of:Cal P w K mg base 2 "share_of" ["over", "under"] zbf):FnOk P w K mg base CX0 3 f fd ["many"] (spN1 (sdZ "crossed")):=by
 refine F.ok sc_crossed_spread (fun vs H Q E h=> ?_) (fun cdv A outer s H vs Q E hr h=> ?_)
 ·obtain ⟨N,rfl,_⟩:=h
  rfl
 ·obtain ⟨N,rfl,h0,h1,k⟩:=h
  refine⟨_,(pss_cons (ps_set (i:=1) sc_crossed_spread.nd rfl (Or.inl rfl) (pe_op zbs (pe_op zah (pv 0) (pe_op zax (pv 0) pe_int)) pe_int))
   (pss_cons (ps_set (i:=2) sc_crossed_spread.nd rfl (Or.inl rfl) (pe_op zbs (pe_op zah (pv 1) (pe_op zax (pv 0) pe_int)) pe_int))
   (pss_one (ps_ret (pe_cal Cshare_of (hr.mono (by decide)) rfl (pa_cons (pe_op zar (pe_op zaJ pe_int (pv 1)) (pe_op zaJ pe_int (pv 2))) (pa_cons pe_int pa_nil))))))), ?_⟩
  have a1:=sm_N h0 h1
  have a2:=zd4 (i:=1) h0 h1 (by decide)
  have a3:=zd4 (i:=2) h0 h1 (by decide)
  have t1:Sm (N*(N-1)/2) 210:=by
   refine Sm.le ((a1.mul a2).mono (show 100+100<=210 by decide)) ?_
   have e:=tw_even N
   show _<=(N*(N-1)).natAbs
   (first|lia|omega)
  refine⟨_,rfl,_,rfl,_,_,rfl,rfl,_,_,rfl,rfl,⟨(sm_N h0 h1).mono (by decide),(zd4 (i:=1) h0 h1 (by decide)).mono (by decide)⟩,_,_,rfl,rfl,⟨by decide,by decide⟩, ?_⟩
  refine⟨_,rfl,_,rfl,_,_,rfl,rfl,_,_,rfl,rfl,⟨t1.mono (by decide),a3.mono (by decide)⟩,_,_,rfl,rfl,⟨by decide,by decide⟩, ?_⟩
  refine⟨_,rfl,_,_,rfl,rfl,.inl ⟨by decide,by decide⟩,_,rfl,_,_,rfl,rfl,.inl ⟨by decide,by decide⟩,_,_,rfl,rfl,_,12,rfl,by decide,Sm.of (by decide+kernel),fun z H1 s1 hz=>k z H1 s1 ?_⟩
  have e:lowZ (3*(N*(N-1)/2)+2*(N*(N-1)/2*(N-2)/3)) 12=sdZ "crossed" N:=zgY N
  rw[e] at hz
  exact hz
theorem sc_mean:FnScope ["kind", "many", "reckoned"] ["kind", "many"] (zac zgq):=⟨rfl,rfl,rfl,by decide+kernel,rfl,by decide+kernel,by decide+kernel⟩
theorem zhY {f C f1 f2 f3 f4:Addr}{fd:FuncData}(F:Fun K "mean" "mean" zgq f fd)(hC:mg "MEANS" =some (.ref C))(GD:GDict K w.params C [("rounds",f1),("stays",f2),("rises",f3),("highs",f1),("crossed",f4)])
  (c3:CalF P w K mg base 3 f3 ["many"] (spN1 (mnZ "rises"))) (c4:CalF P w K mg base 3 f4 ["many"] (spN1 (mnZ "crossed"))):FnOk P w K mg base CX0 4 f fd ["kind", "many"] (spKN mnZ):=by
 refine F.ok sc_mean (fun vs H Q E h=> ?_) (fun cdv A outer s H vs Q E hr h=> ?_)
 ·obtain ⟨kd,N,rfl,_⟩:=h
  rfl
 ·obtain ⟨kd,N,rfl,hk,h0,h1,k⟩:=h
  refine⟨_,(pss_cons (ps_set (i:=2) sc_mean.nd rfl (Or.inl rfl) (pe_ix zf2 (zbd (v:=.ref C) rfl hC rfl) (pv 0) (fun _ _=>rfl)))
   (pss_one (ps_ret (zbC (k:=3) (pv 2) hr (pa_cons (pv 1) pa_nil))))), ?_⟩
  rcases hk with rfl|rfl
  ·exact⟨_,rfl,C,_,_,f3,rfl,rfl,GD,rfl,_,rfl,f3,_,_,rfl,c3,_,rfl,N,rfl,h0,h1,k⟩
  ·exact⟨_,rfl,C,_,_,f4,rfl,rfl,GD,rfl,_,rfl,f4,_,_,rfl,c4,_,rfl,N,rfl,h0,h1,k⟩
theorem sc_spread:FnScope ["kind", "many", "reckoned"] ["kind", "many"] (zac zdr):=⟨rfl,rfl,rfl,by decide+kernel,rfl,by decide+kernel,by decide+kernel⟩
theorem zgr {f C f1 f2 f3 f4:Addr}{fd:FuncData}(F:Fun K "spread" "spread" zdr f fd)(hC:mg "SPREADS" =some (.ref C))(GD:GDict K w.params C [("rounds",f1),("stays",f2),("rises",f3),("highs",f1),("crossed",f4)])
  (c3:CalF P w K mg base 3 f3 ["many"] (spN1 (sdZ "rises"))) (c4:CalF P w K mg base 3 f4 ["many"] (spN1 (sdZ "crossed"))):FnOk P w K mg base CX0 4 f fd ["kind", "many"] (spKN sdZ):=by
 refine F.ok sc_spread (fun vs H Q E h=> ?_) (fun cdv A outer s H vs Q E hr h=> ?_)
 ·obtain ⟨kd,N,rfl,_⟩:=h
  rfl
 ·obtain ⟨kd,N,rfl,hk,h0,h1,k⟩:=h
  refine⟨_,(pss_cons (ps_set (i:=2) sc_spread.nd rfl (Or.inl rfl) (pe_ix zf2 (zbd (v:=.ref C) rfl hC rfl) (pv 0) (fun _ _=>rfl)))
   (pss_one (ps_ret (zbC (k:=3) (pv 2) hr (pa_cons (pv 1) pa_nil))))), ?_⟩
  rcases hk with rfl|rfl
  ·exact⟨_,rfl,C,_,_,f3,rfl,rfl,GD,rfl,_,rfl,f3,_,_,rfl,c3,_,rfl,N,rfl,h0,h1,k⟩
  ·exact⟨_,rfl,C,_,_,f4,rfl,rfl,GD,rfl,_,rfl,f4,_,_,rfl,c4,_,rfl,N,rfl,h0,h1,k⟩
theorem zcQ:FnScope ["many", "number"] ["many", "number"] (zac za6):=⟨rfl,rfl,rfl,by decide+kernel,rfl,by decide+kernel,by decide+kernel⟩
theorem zcR {f:Addr}{fd:FuncData}(F:Fun K "stays_bound" "stays_bound" za6 f fd)(Cproduct:Cal P w K mg base 1 "product" ["first", "last"] spPr):FnOk P w K mg base CX0 2 f fd ["many", "number"] (spNK bSt):=by
 refine F.ok zcQ (fun vs H Q E h=> ?_) (fun cdv A outer s H vs Q E hr h=> ?_)
 ·obtain ⟨N,n,rfl,_⟩:=h
  rfl
 ·obtain ⟨N,n,rfl,h0,h1,hn,k⟩:=h
  refine⟨_,(pss_one (ps_ret (pe_ifExp (pt_cmpR zir (pv 1) (pv 0) (zag _)) (pe_tup (pa_cons pe_int (pa_cons (pe_cal Cproduct (hr.mono (by decide)) rfl (pa_cons pe_int (pa_cons (pv 1) pa_nil))) pa_nil))) (pe_tup (pa_cons pe_int (pa_cons pe_int pa_nil)))))), ?_⟩
  have e:bSt N n=if (n:Int)<=N then (1,fcZ n) else (0,1):=rfl
  refine⟨_,rfl,_,rfl,_,_,rfl,rfl,_,rfl, ?_⟩
  refine ite2 (fun h=> ?_) (fun h=> ?_)
  ·rw [if_pos (of_decide_eq_true h)] at e
   refine⟨_,rfl,n,rfl,by (first|lia|omega),by show 2<=sizeLine;decide,fun z hz=>k z _ (zaa hz) ?_⟩
   rw[e];exact zab
  ·rw [if_neg (fun z=>h (decide_eq_true z))] at e
   refine⟨by show 2<=sizeLine;decide,fun z hz=>k z _ (zaa hz) ?_⟩
   rw[e];exact zab
theorem sc_sets_of:FnScope ["many", "number", "found", "taken"] ["many", "number"] (zac zcy):=⟨rfl,rfl,rfl,by decide+kernel,rfl,by decide+kernel,by decide+kernel⟩
theorem zfs {f:Addr}{fd:FuncData}(F:Fun K "sets_of" "sets_of" zcy f fd)(T:Top mg):FnOk P w K mg base CX0 1 f fd ["many", "number"] zd8:=by
 refine F.ok sc_sets_of (fun vs H Q E h=> ?_) (fun cdv A outer s H vs Q E hr h=> ?_)
 ·obtain ⟨N,n,rfl,_⟩:=h
  rfl
 ·obtain ⟨N,n,rfl,h0,h1,hn,k⟩:=h
  refine⟨_,(pss_cons (ps_set (i:=2) sc_sets_of.nd rfl (Or.inl rfl) pe_int)
   (pss_cons (ps_for PassesOwn.never rfl (pi_range1 rfl T.n_range (pa_cons (pv 1) pa_nil)) (zao (i:=3) sc_sets_of.nd rfl (Or.inl rfl))
    (pss_one (ps_set (i:=2) sc_sets_of.nd rfl (Or.inl rfl) (pe_op zbs (pe_op zah (pv 2) (pe_op zax (pv 0) (pv 3))) (pe_op zar (pv 3) pe_int)))))
   (pss_one (ps_ret (pv 2))))), ?_⟩
  refine⟨_,rfl,_,rfl,by (first|lia|omega),by (first|lia|omega), ?_⟩
  rw[Int.toNat_natCast]
  refine zaq (fun i σ G=>G=H/\∃c:Option V,σ=[some (.int N),some (.int n),some (.int (sZ N i)),c]) ⟨rfl,none,rfl⟩ ?_ ?_
  ·rintro i σ G hi ⟨rfl,c,rfl⟩
   rw[Int.zero_add]
   refine⟨_,rfl,_,rfl,_,rfl,_,_,rfl,rfl,_,_,rfl,rfl,⟨(zey h0 h1 i (by (first|lia|omega))).mono (by (first|lia|omega)),(zd4 h0 h1 (by (first|lia|omega))).mono (by decide)⟩,_,rfl,_,_,rfl,rfl,_,_,rfl,rfl,⟨by (first|lia|omega),by (first|lia|omega)⟩,rfl,some (.int (i:Int)),rfl⟩
  ·rintro σ G ⟨rfl,c,rfl⟩
   exact⟨_,rfl,k⟩
theorem sc_power:FnScope ["base", "number", "found", "time"] ["base", "number"] (zac zeE):=⟨rfl,rfl,rfl,by decide+kernel,rfl,by decide+kernel,by decide+kernel⟩
theorem zg4 {f:Addr}{fd:FuncData}(F:Fun K "power" "power" zeE f fd)(T:Top mg):FnOk P w K mg base CX0 1 f fd ["base", "number"] zhN:=by
 refine F.ok sc_power (fun vs H Q E h=> ?_) (fun cdv A outer s H vs Q E hr h=> ?_)
 ·obtain ⟨b,n,rfl,_⟩:=h
  rfl
 ·obtain ⟨b,n,rfl,b0,b1,hn,k⟩:=h
  refine⟨_,(pss_cons (ps_set (i:=2) sc_power.nd rfl (Or.inl rfl) pe_int)
   (pss_cons (ps_for PassesOwn.never rfl (pi_range1 rfl T.n_range (pa_cons (pv 1) pa_nil)) (zao (i:=3) sc_power.nd rfl (Or.inl rfl))
    (pss_one (ps_set (i:=2) sc_power.nd rfl (Or.inl rfl) (pe_op zaJ (pv 2) (pv 0)))))
   (pss_one (ps_ret (pv 2))))), ?_⟩
  refine⟨_,rfl,_,rfl,by (first|lia|omega),by (first|lia|omega), ?_⟩
  rw[Int.toNat_natCast]
  refine zaq (fun i σ G=>G=H/\∃c:Option V,σ=[some (.int b),some (.int n),some (.int (b^i)),c]) ⟨rfl,none,by rw[Int.pow_zero];rfl⟩ ?_ ?_
  ·rintro i σ G hi ⟨rfl,c,rfl⟩
   refine⟨_,rfl,_,rfl,_,_,rfl,rfl,.inr ⟨by (first|lia|omega),by (first|lia|omega)⟩,rfl,some (.int (0+(i:Int))), ?_⟩
   rw[Int.pow_succ]
   rfl
  ·rintro σ G ⟨rfl,c,rfl⟩
   exact⟨_,rfl,k⟩
theorem zb6:FnScope ["many", "number"] ["many", "number"] (zac zaL):=⟨rfl,rfl,rfl,by decide+kernel,rfl,by decide+kernel,by decide+kernel⟩
theorem zb7 {f:Addr}{fd:FuncData}(F:Fun K "longest_bound" "longest_bound" zaL f fd)(Cshare_of:Cal P w K mg base 2 "share_of" ["over", "under"] zbf)(Cproduct:Cal P w K mg base 1 "product" ["first", "last"] spPr)(Csets_of:Cal P w K mg base 1 "sets_of" ["many", "number"] zd8):FnOk P w K mg base CX0 3 f fd ["many", "number"] (spNK bLg):=by
 refine F.ok zb6 (fun vs H Q E h=> ?_) (fun cdv A outer s H vs Q E hr h=> ?_)
 ·obtain ⟨N,n,rfl,_⟩:=h
  rfl
 ·obtain ⟨N,n,rfl,h0,h1,hn,k⟩:=h
  refine⟨_,(pss_one (ps_ret (pe_cal Cshare_of (hr.mono (by decide)) rfl (pa_cons (pe_cal Csets_of (hr.mono (by decide)) rfl (pa_cons (pv 0) (pa_cons (pv 1) pa_nil))) (pa_cons (pe_cal Cproduct (hr.mono (by decide)) rfl (pa_cons pe_int (pa_cons (pv 1) pa_nil))) pa_nil))))), ?_⟩
  refine⟨_,rfl,_,rfl,N,n,rfl,h0,h1,hn,_,rfl,n,rfl,by (first|lia|omega), ?_⟩
  exact⟨_,_,rfl,zaj n,(zau (by (first|lia|omega))).mono (by decide),fun z H1 s1 hz=>k z H1 s1 hz⟩
theorem zcC:FnScope ["many", "number"] ["many", "number"] (zac zaW):=⟨rfl,rfl,rfl,by decide+kernel,rfl,by decide+kernel,by decide+kernel⟩
theorem zcD {f:Addr}{fd:FuncData}(F:Fun K "groups_bound" "groups_bound" zaW f fd)(Cshare_of:Cal P w K mg base 2 "share_of" ["over", "under"] zbf)(Cproduct:Cal P w K mg base 1 "product" ["first", "last"] spPr)(Cpower:Cal P w K mg base 1 "power" ["base", "number"] zhN):FnOk P w K mg base CX0 3 f fd ["many", "number"] (spNK bGr):=by
 refine F.ok zcC (fun vs H Q E h=> ?_) (fun cdv A outer s H vs Q E hr h=> ?_)
 ·obtain ⟨N,n,rfl,_⟩:=h
  rfl
 ·obtain ⟨N,n,rfl,h0,h1,hn,k⟩:=h
  refine⟨_,(pss_one (ps_ret (pe_cal Cshare_of (hr.mono (by decide)) rfl (pa_cons (pe_cal Cpower (hr.mono (by decide)) rfl (pa_cons (zhk PySem.F.plainAttrs_int PySem.F.slot_int_bit_length PySem.F.type_int_bit_length zd2 (pv 0)) (pa_cons (pv 1) pa_nil))) (pa_cons (pe_cal Cproduct (hr.mono (by decide)) rfl (pa_cons pe_int (pa_cons (pv 1) pa_nil))) pa_nil))))), ?_⟩
  have fl:=ze2 h0 h1
  refine⟨_,rfl,rfl,_,rfl,rfl,_,rfl,figZ N,n,rfl,fl.1,by (first|lia|omega),hn,_,rfl,n,rfl,by (first|lia|omega), ?_⟩
  exact⟨_,_,rfl,zaj n,(zau (by (first|lia|omega))).mono (by decide),fun z H1 s1 hz=>k z H1 s1 hz⟩
theorem sc_spread_bound:FnScope ["kind", "many", "number", "beyond"] ["kind", "many", "number"] (zac zaX):=⟨rfl,rfl,rfl,by decide+kernel,rfl,by decide+kernel,by decide+kernel⟩
set_option maxHeartbeats 8000000 in
theorem zcE {f:Addr}{fd:FuncData}(F:Fun K "spread_bound" "spread_bound" zaX f fd)(Cless:Cal P w K mg base 3 "less" ["one", "other"] (spSh leZ))(Ctimes:Cal P w K mg base 3 "times" ["one", "other"] (spSh tmZ))(Cparted:Cal P w K mg base 3 "parted" ["one", "other"] spPt)(Cis_less:Cal P w K mg base 1 "is_less" ["one", "other"] zdj)(Cmean:Cal P w K mg base 4 "mean" ["kind", "many"] (spKN mnZ))(Cspread:Cal P w K mg base 4 "spread" ["kind", "many"] (spKN sdZ)):FnOk P w K mg base CX0 5 f fd ["kind", "many", "number"] zg0:=by
 refine F.ok sc_spread_bound (fun vs H Q E h=> ?_) (fun cdv A outer s H vs Q E hr h=> ?_)
 ·obtain ⟨kd,N,n,rfl,_⟩:=h
  rfl
 ·obtain ⟨kd,N,n,rfl,hk,h0,h1,hn,k⟩:=h
  refine⟨_,(pss_cons (ps_set (i:=3) sc_spread_bound.nd rfl (Or.inl rfl) (pe_cal Cless (hr.mono (by decide)) rfl (pa_cons (pe_tup (pa_cons (pv 2) (pa_cons pe_int pa_nil))) (pa_cons (pe_cal Cmean (hr.mono (by decide)) rfl (pa_cons (pv 0) (pa_cons (pv 1) pa_nil))) pa_nil))))
   (pss_cons (ps_if (pt_not (pt_val (pe_cal Cis_less (hr.mono (by decide)) rfl (pa_cons (pe_tup (pa_cons pe_int (pa_cons pe_int pa_nil))) (pa_cons (pv 3) pa_nil)))))
    (pss_one (ps_ret (pe_tup (pa_cons pe_int (pa_cons pe_int pa_nil)))))
    pss_nil)
   (pss_one (ps_ret (pe_cal Cparted (hr.mono (by decide)) rfl (pa_cons (pe_cal Cspread (hr.mono (by decide)) rfl (pa_cons (pv 0) (pa_cons (pv 1) pa_nil))) (pa_cons (pe_cal Ctimes (hr.mono (by decide)) rfl (pa_cons (pv 3) (pa_cons (pv 3) pa_nil))) pa_nil))))))), ?_⟩
  have mb:=zdh (kind:=kd) h0 h1
  have db:=zdi (kind:=kd) h0 h1
  have fb:=zc7 (kind:=kd) (k:=(n:Int)) h0 h1 (by (first|lia|omega)) (by (first|lia|omega))
  have nb:ShB ((n:Int),1) 3900:=⟨Int.one_pos,Sm.of (Nat.lt_of_le_of_lt (show ((n:Int)).natAbs<=60 by (first|lia|omega)) (by decide+kernel)),sm1⟩
  have e:sbZ kd N n=if farZ kd N n<=0 then (1,1) else lowZ (ovZ kd N) (unZ kd N n):=rfl
  refine⟨_,rfl,by show 2<=sizeLine;decide,fun t ht=> ?_⟩
  refine⟨_,rfl,_,rfl,kd,N,rfl,hk,h0,h1,fun m H1 s1 hm=> ?_⟩
  refine⟨t,m,_,_,rfl,s1 _ _ zab,hm,nb,mb.mono (by decide),fun b H2 s2 hb=> ?_⟩
  rw[zd5] at hb
  have S2:=((zaa (o:=.tup [.int (n:Int),.int 1]) ht).trans s1).trans s2
  refine⟨by show 2<=sizeLine;decide,fun o ho=> ?_⟩
  have so:=zaa (o:=.tup [.int 0,.int 1]) ho
  have bb:ShB (lowZ (farZ kd N n) (mnZ kd N).2) 3900:=ShB.low mb.pos (fb.mono (by decide)) (mb.s2.mono (by decide))
  refine⟨_,rfl,o,b,(0,1),_,rfl,zab,so _ _ hb,⟨by decide,Sm.of (by decide+kernel),Sm.of (by decide+kernel)⟩,bb.mono (by decide),fun H3 s3=> ?_⟩
  rw[zd6 mb.pos]
  have hb3:=(so.trans s3) _ _ hb
  have S3:=(S2.trans so).trans s3
  by_cases hf:0<farZ kd N n
  ·rw [decide_eq_true hf]
   refine⟨_,rfl,iteF ?_⟩
   rw[if_neg (by (first|lia|omega))] at e
   refine⟨_,rfl,_,rfl,kd,N,rfl,hk,h0,h1,fun d H4 s4 hd=> ?_⟩
   refine⟨_,rfl,_,rfl,b,b,_,_,rfl,s4 _ _ hb3,s4 _ _ hb3,bb,bb,fun q H5 s5 hq=> ?_⟩
   have tb:ShB (tmZ (lowZ (farZ kd N n) (mnZ kd N).2) (lowZ (farZ kd N n) (mnZ kd N).2)) 3900:=by
    rw[zd3 mb.pos mb.pos]
    exact ShB.low (Int.mul_pos mb.pos mb.pos) ((fb.mul fb).mono (by decide)) ((mb.s2.mul mb.s2).mono (by decide))
   have tp:0<(tmZ (lowZ (farZ kd N n) (mnZ kd N).2) (lowZ (farZ kd N n) (mnZ kd N).2)).1:=by
    rw[zd3 mb.pos mb.pos]
    exact zct (Int.mul_pos mb.pos mb.pos) (Int.mul_pos hf hf)
   refine⟨d,q,_,_,rfl,s5 _ _ hd,hq,db.mono (by decide),tb,tp,fun z H6 s6 hz=>k z H6 (((S3.trans s4).trans s5).trans s6) ?_⟩
   rw[ze1 h0 h1 hf] at hz
   rw[e];exact hz
  ·rw [decide_eq_false hf]
   refine⟨_,rfl,iteT ?_⟩
   rw[if_pos (by (first|lia|omega))] at e
   refine⟨by show 2<=sizeLine;decide,fun z hz=>k z _ (S3.trans (zaa hz)) ?_⟩
   rw[e];exact zab
theorem zcS:FnScope ["many", "number"] ["many", "number"] (zac za7):=⟨rfl,rfl,rfl,by decide+kernel,rfl,by decide+kernel,by decide+kernel⟩
theorem zcT {f:Addr}{fd:FuncData}(F:Fun K "rises_bound" "rises_bound" za7 f fd)(Cspread_bound:Cal P w K mg base 5 "spread_bound" ["kind", "many", "number"] zg0):FnOk P w K mg base CX0 6 f fd ["many", "number"] (spNK fun N k=>sbZ "rises" N k):=by
 refine F.ok zcS (fun vs H Q E h=> ?_) (fun cdv A outer s H vs Q E hr h=> ?_)
 ·obtain ⟨N,n,rfl,_⟩:=h
  rfl
 ·obtain ⟨N,n,rfl,h0,h1,hn,k⟩:=h
  refine⟨_,(pss_one (ps_ret (pe_cal Cspread_bound (hr.mono (by decide)) rfl (pa_cons pe_str (pa_cons (pv 0) (pa_cons (pv 1) pa_nil)))))), ?_⟩
  exact⟨_,rfl,_,rfl, "rises",N,n,rfl,.inl rfl,h0,h1,hn,k⟩
theorem zb8:FnScope ["many", "number"] ["many", "number"] (zac zaM):=⟨rfl,rfl,rfl,by decide+kernel,rfl,by decide+kernel,by decide+kernel⟩
theorem zb9 {f:Addr}{fd:FuncData}(F:Fun K "crossed_bound" "crossed_bound" zaM f fd)(Cspread_bound:Cal P w K mg base 5 "spread_bound" ["kind", "many", "number"] zg0):FnOk P w K mg base CX0 6 f fd ["many", "number"] (spNK fun N k=>sbZ "crossed" N k):=by
 refine F.ok zb8 (fun vs H Q E h=> ?_) (fun cdv A outer s H vs Q E hr h=> ?_)
 ·obtain ⟨N,n,rfl,_⟩:=h
  rfl
 ·obtain ⟨N,n,rfl,h0,h1,hn,k⟩:=h
  refine⟨_,(pss_one (ps_ret (pe_cal Cspread_bound (hr.mono (by decide)) rfl (pa_cons pe_str (pa_cons (pv 0) (pa_cons (pv 1) pa_nil)))))), ?_⟩
  exact⟨_,rfl,_,rfl, "crossed",N,n,rfl,.inr rfl,h0,h1,hn,k⟩
theorem sc_most_share:FnScope ["kind", "many", "number", "bound"] ["kind", "many", "number"] (zac zbi):=⟨rfl,rfl,rfl,by decide+kernel,rfl,by decide+kernel,by decide+kernel⟩
set_option maxHeartbeats 8000000 in
theorem zdu {f C f1 f2 f3 f4 f5:Addr}{fd:FuncData}(F:Fun K "most_share" "most_share" zbi f fd)(hC:mg "BOUNDS" =some (.ref C))(GD:GDict K w.params C [("rounds",f1),("stays",f2),("rises",f3),("highs",f1),("crossed",f4),("longest",f5)])
  (c1:CalF P w K mg base 6 f1 ["many", "number"] (spNK bGr)) (c2:CalF P w K mg base 6 f2 ["many", "number"] (spNK bSt)) (c3:CalF P w K mg base 6 f3 ["many", "number"] (spNK fun N k=>sbZ "rises" N k)) (c4:CalF P w K mg base 6 f4 ["many", "number"] (spNK fun N k=>sbZ "crossed" N k)) (c5:CalF P w K mg base 6 f5 ["many", "number"] (spNK bLg)) (Clesser:Cal P w K mg base 2 "lesser" ["one", "other"] (zhM minZ)):FnOk P w K mg base CX0 7 f fd ["kind", "many", "number"] zd7:=by
 refine F.ok sc_most_share (fun vs H Q E h=> ?_) (fun cdv A outer s H vs Q E hr h=> ?_)
 ·obtain ⟨kd,N,n,rfl,_⟩:=h
  rfl
 ·obtain ⟨kd,N,n,rfl,hk,h0,h1,hn,k⟩:=h
  refine⟨_,(pss_cons (ps_if (pt_cmpR za1 (pv 2) pe_int (zag _))
    (pss_one (ps_ret (pe_tup (pa_cons pe_int (pa_cons pe_int pa_nil)))))
    pss_nil)
   (pss_cons (ps_set (i:=3) sc_most_share.nd rfl (Or.inl rfl) (pe_ix zf2 (zbd (v:=.ref C) rfl hC rfl) (pv 0) (fun _ _=>rfl)))
   (pss_one (ps_ret (pe_cal Clesser (hr.mono (by decide)) rfl (pa_cons (pe_tup (pa_cons pe_int (pa_cons pe_int pa_nil))) (pa_cons (zbC (k:=6) (pv 3) hr (pa_cons (pv 1) (pa_cons (pv 2) pa_nil))) pa_nil))))))), ?_⟩
  refine⟨_,rfl,rfl,_,rfl, ?_⟩
  have one:ShB (1,1) 8000:=⟨by decide,Sm.of (by decide+kernel),Sm.of (by decide+kernel)⟩
  by_cases hz0:n=0
  ·subst hz0
   refine iteT ⟨by show 2<=sizeLine;decide,fun z hz=>k z _ (zaa hz) ?_⟩
   exact zab
  ·rw [decide_eq_false (fun e=>hz0 (by have:=V.int.inj e;(first|lia|omega)))]
   refine iteF ?_
   have e:zaT kd N n=if kd= "stays" then bSt N n else if kd= "longest" then capZ (sZ N n) (fcZ n) else if kd= "rounds" ∨kd= "highs" then capZ (figZ N^n) (fcZ n) else if farZ kd N n<=0 then (1,1) else capZ (ovZ kd N) (unZ kd N n):=by
    unfold zaT
    rw[if_neg hz0]
   have hk6:kd= "rounds" ∨kd= "stays" ∨kd= "rises" ∨kd= "highs" ∨kd= "crossed" ∨kd= "longest" :=by simpa [zai] using hk
   have two:(2:Nat)<=sizeLine:=by decide
   rcases hk6 with rfl|rfl|rfl|rfl|rfl|rfl
   ·refine ⟨_,rfl,C,_,_,f1,rfl,rfl,GD,rfl,two,fun t ht=>⟨_,rfl,f1,_,_,rfl,c1,_,rfl,_,rfl,N,n,rfl,h0,h1,hn,fun b H1 s1 hb=> ?_⟩⟩
    refine⟨t,b,(1,1),_,rfl,s1 _ _ zab,hb,one,ziM h0 h1 hn,fun z H2 s2 hz=>k z H2 (((zaa ht).trans s1).trans s2) ?_⟩
    rw[e]
    unfold bGr at hz
    rw[zdg (zaj n)] at hz
    exact hz
   ·refine ⟨_,rfl,C,_,_,f2,rfl,rfl,GD,rfl,two,fun t ht=>⟨_,rfl,f2,_,_,rfl,c2,_,rfl,_,rfl,N,n,rfl,h0,h1,hn,fun b H1 s1 hb=> ?_⟩⟩
    refine⟨t,b,(1,1),_,rfl,s1 _ _ zab,hb,one,ziL hn,fun z H2 s2 hz=>k z H2 (((zaa ht).trans s1).trans s2) ?_⟩
    rw[e]
    rw[ziK] at hz
    exact hz
   ·refine ⟨_,rfl,C,_,_,f3,rfl,rfl,GD,rfl,two,fun t ht=>⟨_,rfl,f3,_,_,rfl,c3,_,rfl,_,rfl,N,n,rfl,h0,h1,hn,fun b H1 s1 hb=> ?_⟩⟩
    refine⟨t,b,(1,1),_,rfl,s1 _ _ zab,hb,one,(ziJ h0 h1 (by (first|lia|omega)) (by (first|lia|omega))).mono (by decide),fun z H2 s2 hz=>k z H2 (((zaa ht).trans s1).trans s2) ?_⟩
    rw[e]
    rw[zhn h0 h1] at hz
    exact hz
   ·refine ⟨_,rfl,C,_,_,f1,rfl,rfl,GD,rfl,two,fun t ht=>⟨_,rfl,f1,_,_,rfl,c1,_,rfl,_,rfl,N,n,rfl,h0,h1,hn,fun b H1 s1 hb=> ?_⟩⟩
    refine⟨t,b,(1,1),_,rfl,s1 _ _ zab,hb,one,ziM h0 h1 hn,fun z H2 s2 hz=>k z H2 (((zaa ht).trans s1).trans s2) ?_⟩
    rw[e]
    unfold bGr at hz
    rw[zdg (zaj n)] at hz
    exact hz
   ·refine ⟨_,rfl,C,_,_,f4,rfl,rfl,GD,rfl,two,fun t ht=>⟨_,rfl,f4,_,_,rfl,c4,_,rfl,_,rfl,N,n,rfl,h0,h1,hn,fun b H1 s1 hb=> ?_⟩⟩
    refine⟨t,b,(1,1),_,rfl,s1 _ _ zab,hb,one,(ziJ h0 h1 (by (first|lia|omega)) (by (first|lia|omega))).mono (by decide),fun z H2 s2 hz=>k z H2 (((zaa ht).trans s1).trans s2) ?_⟩
    rw[e]
    rw[zhn h0 h1] at hz
    exact hz
   ·refine ⟨_,rfl,C,_,_,f5,rfl,rfl,GD,rfl,two,fun t ht=>⟨_,rfl,f5,_,_,rfl,c5,_,rfl,_,rfl,N,n,rfl,h0,h1,hn,fun b H1 s1 hb=> ?_⟩⟩
    refine⟨t,b,(1,1),_,rfl,s1 _ _ zab,hb,one,zjf h0 h1 hn,fun z H2 s2 hz=>k z H2 (((zaa ht).trans s1).trans s2) ?_⟩
    rw[e]
    unfold bLg at hz
    rw[zdg (zaj n)] at hz
    exact hz
end
end K64
namespace L2
open PySem PySem.Spec PyProof.Rows
theorem zhZ {S:Addr->Prop}{H:Hp}{x:V}{d:PyData}(h:IsY S H x d):isIv x=whD d:=by
 cases h<;>rfl
end L2
namespace K64
open PySem PySem.Spec PyProof.Rows L2
noncomputable abbrev zbX:Stmt:=top 1
noncomputable abbrev zaR:Stmt:=top 2
section
variable {P:Program}{w:World}{K:PySem.W.Frag}{mg:Str->Option Value}{base:Heap}
theorem zeF:FnScope ["thing"] ["thing"] (zac zbX):=⟨rfl,rfl,rfl,by decide+kernel,rfl,by decide+kernel,by decide+kernel⟩
set_option maxHeartbeats 8000000 in
theorem zeG {f:Addr}{fd:FuncData}(F:Fun K "is_whole" "is_whole" zbX f fd)(T:Top mg):FnOk P w K mg base CX0 1 f fd ["thing"] (zg1 K):=by
 refine F.ok zeF (fun vs H Q E h=> ?_) (fun cdv A outer s H vs Q E hr h=> ?_)
 ·obtain ⟨x,rfl,_⟩:=h
  rfl
 ·obtain ⟨x,rfl,⟨t,ht,hm⟩,k⟩:=h
  refine⟨_,(pss_one (ps_ret (pe_and (pe_callB za3 (by rfl) T.n_isinstance boot_isinstance (pa_cons (pv 0) (pa_cons (pe_bltn (v:=.ty "int") rfl T.n_int boot_int rfl) pa_nil))) (pe_one (zdH (pe_callB za3 (by rfl) T.n_isinstance boot_isinstance (pa_cons (pv 0) (pa_cons (pe_bltn (v:=.ty "bool") rfl T.n_bool boot_bool rfl) pa_nil)))))))), ?_⟩
  obtain⟨k1,k2,_⟩:=kit7 (K:=K) hm
  have hi:=(tyI ht).trans isIv_iff.symm
  refine⟨_,rfl,_,_,_,_,rfl,ht,k1,_,rfl, ?_⟩
  by_cases hb:t= "bool"
  ·subst hb
   refine iteT ⟨_,rfl,_,_,_,_,rfl,ht,k2,_,rfl, ?_⟩
   have:isIv x=false:=by
    cases e:isIv x with
    |false=>rfl
    |true=>exact absurd (hi.mpr e) (by decide)
   rw[this] at k
   exact k
  ·by_cases hI:t= "int"
   ·subst hI
    refine iteT ⟨_,rfl,_,_,_,_,rfl,ht,k2,_,rfl, ?_⟩
    rw[hi.mp rfl] at k
    exact k
   ·have e0:(t== "bool" ||t== "int")=false:=by
     rw[beq_eq_false_iff_ne.mpr hb,beq_eq_false_iff_ne.mpr hI]
     rfl
    have:isIv x=false:=by
     cases e:isIv x with
     |false=>rfl
     |true=>exact absurd (hi.mpr e) hI
    rw[this] at k
    rw[e0]
    exact iteF k
theorem zdv:FnScope ["thing"] ["thing"] (zac zaR):=⟨rfl,rfl,rfl,by decide+kernel,rfl,by decide+kernel,by decide+kernel⟩
set_option maxHeartbeats 8000000 in
theorem zdw {f:Addr}{fd:FuncData}(F:Fun K "are_wholes" "are_wholes" zaR f fd)(T:Top mg)(Cis_whole:Cal P w K mg base 1 "is_whole" ["thing"] (zg1 K)):FnOk P w K mg base CX0 2 f fd ["thing"] zgb:=by
 refine F.ok zdv (fun vs H Q E h=> ?_) (fun cdv A outer s H vs Q E hr h=> ?_)
 ·obtain ⟨S,x,d,rfl,_⟩:=h
  rfl
 ·obtain ⟨S,x,d,rfl,y,sz,k⟩:=h
  refine⟨_,(pss_one (ps_ret (pe_and (pe_callB za3 (by rfl) T.n_isinstance boot_isinstance (pa_cons (pv 0) (pa_cons (pe_bltn (v:=.ty "tuple") rfl T.n_tuple boot_tuple rfl) pa_nil))) (pe_one (pe_callB (zeW rfl) (by rfl) T.n_all boot_all (pa_cons (pe_lc (N':=["number"]) (n:=1) (ix:=[]) rfl (CompScope.of (sc:=zac zaR) (N:=["thing"]) (by decide+kernel) rfl rfl) (zio (pv 0)) (fun _ _ _ _ _=>⟨(zao (i:=0) (show (["number"]:List Str).Nodup by decide+kernel) rfl (Or.inl rfl)),zet,(pe_cal Cis_whole (hr.mono (by decide)) rfl (pa_cons (pv 0) pa_nil))⟩)) pa_nil)))))), ?_⟩
  obtain⟨_,_,k3⟩:=kit7 (K:=K) (zf9 d)
  refine⟨_,rfl,_,_,_,_,rfl,y.ty,k3,_,rfl, ?_⟩
  rcases y.isT with⟨a,vs,ds,rfl,rfl,ha,al⟩|⟨hne,hn⟩
  ·refine iteT ?_
   refine⟨_,rfl,a,rfl,⟨_,SqT.of ha⟩, ?_⟩
   have hl:vs.length<=1000:=by rw[al.len];exact sz.tup.1
   refine zg2 (zfl (K:=K) (a:=a) (xs:=vs)) (zf0 hl) (ds.map whD) (by rw[List.length_map,al.len]) (fun G sm=>SqT.of (sm _ _ ha)) (fun i v b G hv hb sm Q' q=> ?_) fun acc G hacc sm hG=> ?_
   ·obtain ⟨e,he,ye⟩:=al.at hv
    rw[List.getElem?_map,he] at hb
    cases hb
    refine⟨_,rfl,v,rfl,(ye.same sm).kn, ?_⟩
    rw[zhZ ye]
    exact q G (Same.refl G)
   ·refine ⟨acc,_,rfl,hG, ?_⟩
    have:=k G sm
    rw[show zcu (.tuple ds)=(ds.map whD).all id by rw[List.all_map];rfl] at this
    exact this
  ·rw [beq_eq_false_iff_ne.mpr hne]
   refine iteF ?_
   have:=k H (Same.refl H)
   rw[show zcu d=false by cases d<;>first|rfl|exact absurd rfl (hn _)] at this
   exact this
end
noncomputable abbrev zbY:Stmt:=top 3
noncomputable abbrev za8:Stmt:=top 52
noncomputable abbrev zaN:Stmt:=top 53
noncomputable abbrev zaY:Stmt:=top 54
noncomputable abbrev za9:Stmt:=top 55
noncomputable abbrev zaO:Stmt:=top 56
noncomputable abbrev zbx:Stmt:=top 58
section
variable {P:Program}{w:World}{K:PySem.W.Frag}{mg:Str->Option Value}{base:Heap}
theorem zeH:FnScope ["thing", "numbers"] ["thing", "numbers"] (zac zbY):=⟨rfl,rfl,rfl,by decide+kernel,rfl,by decide+kernel,by decide+kernel⟩
theorem zeI {f:Addr}{fd:FuncData}(F:Fun K "are_just" "are_just" zbY f fd)(Care_wholes:Cal P w K mg base 2 "are_wholes" ["thing"] zgb):FnOk P w K mg base CX0 3 f fd ["thing", "numbers"] ze3:=by
 refine F.ok zeH (fun vs H Q E h=> ?_) (fun cdv A outer s H vs Q E hr h=> ?_)
 ·obtain ⟨S,x,d,b,ns,rfl,_⟩:=h
  rfl
 ·obtain ⟨S,x,d,b,ns,rfl,yd,hz,hb,k⟩:=h
  have hu:_:=hr.units
  refine⟨_,(pss_one (ps_ret (pe_and (pe_cal Care_wholes (hr.mono (by decide)) rfl (pa_cons (pv 0) pa_nil)) (pe_one (pe_cmpR (zhl hu) (pv 0) (pv 1) (zag _)))))), ?_⟩
  refine⟨_,rfl,S,x,d,rfl,yd,hz,fun G s1=>⟨_,rfl, ?_⟩⟩
  by_cases c:zcu d=true
  ·rw [c]
   rcases yd.isT with⟨a,us,ds,rfl,rfl,ha,al⟩|⟨_,q⟩
   ·have e:=zga al c
    subst e
    refine iteT ⟨_,rfl,_,rfl,_,_,Is.ints (s1 _ _ ha),Is.ints (s1 _ _ hb),zb3 _,zb3 _, ?_⟩
    have e2:juD ns (.tuple ds)=PyData.eqv (.tuple ((ds.map asI).map PyData.int)) (.tuple (ns.map PyData.int)):=by
     show (ds.all whD&&decide (ds.map asI=ns))=PyData.eqvAll _ _
     rw[zeY,show ds.all whD=true from c];rfl
    rw[<-e2]
    exact k G s1
   ·cases d with
    |tuple ds=>exact absurd rfl (q ds)
    |_=>cases c
  ·have c':zcu d=false:=by simpa using c
   rw[c']
   refine iteF ?_
   have e:juD ns d=false:=by
    cases d with
    |tuple ds=>
     show (ds.all whD&&_)=false
     rw[show ds.all whD=false from c'];rfl
    |_=>rfl
   rw[<-e]
   exact k G s1
theorem sc_stays_paper:FnScope ["many", "number", "sets"] ["many", "number"] (zac za8):=⟨rfl,rfl,rfl,by decide+kernel,rfl,by decide+kernel,by decide+kernel⟩
theorem zcU {f:Addr}{fd:FuncData}(F:Fun K "stays_paper" "stays_paper" za8 f fd)(Csets_of:Cal P w K mg base 1 "sets_of" ["many", "number"] zd8)(Cproduct:Cal P w K mg base 1 "product" ["first", "last"] zhU):FnOk P w K mg base CX0 2 f fd ["many", "number"] (zaB "stays"):=by
 refine F.ok sc_stays_paper (fun vs H Q E h=> ?_) (fun cdv A outer s H vs Q E hr h=> ?_)
 ·obtain ⟨N,n,rfl,_⟩:=h
  rfl
 ·obtain ⟨N,n,rfl,hN,hn,k⟩:=h
  refine⟨_,(pss_cons (ps_set (i:=2) sc_stays_paper.nd rfl (Or.inl rfl) (pe_cal Csets_of (hr.mono (by decide)) rfl (pa_cons (pv 0) (pa_cons (pv 1) pa_nil))))
   (pss_one (ps_ret (pe_tup (pa_cons pe_str (pa_cons (pv 2) (pa_cons (pe_ifExp (pt_cmpR zcL (pv 2) pe_int (zag _)) (pe_tup (pa_cons pe_int (pa_cons (pe_cal Cproduct (hr.mono (by decide)) rfl (pa_cons (pe_op zar (pe_op zax (pv 0) (pv 1)) pe_int) (pa_cons (pv 0) pa_nil))) pa_nil))) (pe_tup (pa_cons pe_int (pa_cons pe_int pa_nil)))) pa_nil))))))), ?_⟩
  have n0:(0:Int)<=(N:Int):=by (first|lia|omega)
  have n1:=hN
  refine⟨_,rfl,_,rfl,N,n,rfl,n0,n1,hn, ?_⟩
  refine⟨_,rfl,_,rfl,_,_,rfl,rfl,_,rfl, ?_⟩
  have fin:∀(y:Addr) (G:Hp),Same H G->Shr G y (eaZ "stays" N n)->∀z,G z=none->PapT "stays" N n (upd G z (.tup [.str "sets",.int (sZ N n),.ref y])) z:=fun y G sG hy z hz=>⟨_,zab,.cons (.str _) (.cons (.int _) (.cons (Shr.isY (zaa hz _ _ hy)) .nil))⟩
  refine ite2 (fun h=> ?_) (fun h=> ?_)
  ·have hp:0<sZ N n:=of_decide_eq_true h
   have kN:=zdl hp
   refine⟨_,rfl,_,rfl,_,_,rfl,rfl,_,_,rfl,rfl,_,rfl,N,(N:Int)-n+1,n, ?_,by (first|lia|omega),by (first|lia|omega),hN,hn,by show 2<=sizeLine;decide,fun y hy=> ?_⟩
   ·congr 2
    congr 1
    (first|lia|omega)
   refine⟨by show 3<=sizeLine;decide,fun z hz=> ?_⟩
   refine k z _ ((zaa hy).trans (zaa hz)) (fin y _ (zaa hy) ?_ z hz)
   have e:eaZ "stays" N n=(1,prN ((N:Int)-n+1) n):=by unfold eaZ;rw[if_pos hp,if_pos rfl]
   rw[e]
   exact zab
  ·have hp:¬0<sZ N n:=fun z=>h (decide_eq_true z)
   refine⟨by show 2<=sizeLine;decide,fun y hy=>⟨by show 3<=sizeLine;decide,fun z hz=> ?_⟩⟩
   refine k z _ ((zaa hy).trans (zaa hz)) (fin y _ (zaa hy) ?_ z hz)
   have e:eaZ "stays" N n=(0,1):=by unfold eaZ;rw[if_neg hp]
   rw[e]
   exact zab
theorem sc_longest_paper:FnScope ["many", "number", "sets"] ["many", "number"] (zac zaN):=⟨rfl,rfl,rfl,by decide+kernel,rfl,by decide+kernel,by decide+kernel⟩
theorem zca {f:Addr}{fd:FuncData}(F:Fun K "longest_paper" "longest_paper" zaN f fd)(Csets_of:Cal P w K mg base 1 "sets_of" ["many", "number"] zd8)(Cproduct:Cal P w K mg base 1 "product" ["first", "last"] spPr):FnOk P w K mg base CX0 2 f fd ["many", "number"] (zaB "longest"):=by
 refine F.ok sc_longest_paper (fun vs H Q E h=> ?_) (fun cdv A outer s H vs Q E hr h=> ?_)
 ·obtain ⟨N,n,rfl,_⟩:=h
  rfl
 ·obtain ⟨N,n,rfl,hN,hn,k⟩:=h
  refine⟨_,(pss_cons (ps_set (i:=2) sc_longest_paper.nd rfl (Or.inl rfl) (pe_cal Csets_of (hr.mono (by decide)) rfl (pa_cons (pv 0) (pa_cons (pv 1) pa_nil))))
   (pss_one (ps_ret (pe_tup (pa_cons pe_str (pa_cons (pv 2) (pa_cons (pe_ifExp (pt_cmpR zcL (pv 2) pe_int (zag _)) (pe_tup (pa_cons pe_int (pa_cons (pe_cal Cproduct (hr.mono (by decide)) rfl (pa_cons pe_int (pa_cons (pv 1) pa_nil))) pa_nil))) (pe_tup (pa_cons pe_int (pa_cons pe_int pa_nil)))) pa_nil))))))), ?_⟩
  have n0:(0:Int)<=(N:Int):=by (first|lia|omega)
  have n1:=hN
  refine⟨_,rfl,_,rfl,N,n,rfl,n0,n1,hn, ?_⟩
  refine⟨_,rfl,_,rfl,_,_,rfl,rfl,_,rfl, ?_⟩
  have fin:∀(y:Addr) (G:Hp),Same H G->Shr G y (eaZ "longest" N n)->∀z,G z=none->PapT "longest" N n (upd G z (.tup [.str "sets",.int (sZ N n),.ref y])) z:=fun y G sG hy z hz=>⟨_,zab,.cons (.str _) (.cons (.int _) (.cons (Shr.isY (zaa hz _ _ hy)) .nil))⟩
  refine ite2 (fun h=> ?_) (fun h=> ?_)
  ·have hp:0<sZ N n:=of_decide_eq_true h
   refine⟨_,rfl,n,rfl,by (first|lia|omega),by show 2<=sizeLine;decide,fun y hy=> ?_⟩
   refine⟨by show 3<=sizeLine;decide,fun z hz=> ?_⟩
   refine k z _ ((zaa hy).trans (zaa hz)) (fin y _ (zaa hy) ?_ z hz)
   have e:eaZ "longest" N n=(1,fcZ n):=by unfold eaZ;rw[if_pos hp,if_neg (by decide)]
   rw[e]
   exact zab
  ·have hp:¬0<sZ N n:=fun z=>h (decide_eq_true z)
   refine⟨by show 2<=sizeLine;decide,fun y hy=>⟨by show 3<=sizeLine;decide,fun z hz=> ?_⟩⟩
   refine k z _ ((zaa hy).trans (zaa hz)) (fin y _ (zaa hy) ?_ z hz)
   have e:eaZ "longest" N n=(0,1):=by unfold eaZ;rw[if_neg hp]
   rw[e]
   exact zab
theorem zcF:FnScope ["many", "number"] ["many", "number"] (zac zaY):=⟨rfl,rfl,rfl,by decide+kernel,rfl,by decide+kernel,by decide+kernel⟩
theorem zcG {f:Addr}{fd:FuncData}(F:Fun K "groups_paper" "groups_paper" zaY f fd):FnOk P w K mg base CX0 1 f fd ["many", "number"] (spE (zaB "rounds") (zaB "highs")):=by
 refine F.ok zcF (fun vs H Q E h=> ?_) (fun cdv A outer s H vs Q E hr h=> ?_)
 ·rcases h with⟨N,n,rfl,_⟩|⟨N,n,rfl,_⟩<;>rfl
 ·refine ⟨_,(pss_one (ps_ret (pe_tup (pa_cons pe_str (pa_cons (zhk PySem.F.plainAttrs_int PySem.F.slot_int_bit_length PySem.F.type_int_bit_length zd2 (pv 0)) pa_nil))))), ?_⟩
  rcases h with⟨N,n,rfl,hN,hn,k⟩|⟨N,n,rfl,hN,hn,k⟩
  ·refine⟨_,rfl,rfl,_,rfl,rfl,by show 2<=sizeLine;decide,fun z hz=>k z _ (zaa hz) ⟨_,zab,.cons (.str _) (.cons (.int _) .nil)⟩⟩
  ·refine⟨_,rfl,rfl,_,rfl,rfl,by show 2<=sizeLine;decide,fun z hz=>k z _ (zaa hz) ⟨_,zab,.cons (.str _) (.cons (.int _) .nil)⟩⟩
theorem zcV:FnScope ["many", "number"] ["many", "number"] (zac za9):=⟨rfl,rfl,rfl,by decide+kernel,rfl,by decide+kernel,by decide+kernel⟩
theorem zcW {f:Addr}{fd:FuncData}(F:Fun K "rises_paper" "rises_paper" za9 f fd)(Cmean:Cal P w K mg base 4 "mean" ["kind", "many"] (spKN mnZ))(Cspread:Cal P w K mg base 4 "spread" ["kind", "many"] (spKN sdZ)):FnOk P w K mg base CX0 5 f fd ["many", "number"] (zaB "rises"):=by
 refine F.ok zcV (fun vs H Q E h=> ?_) (fun cdv A outer s H vs Q E hr h=> ?_)
 ·obtain ⟨N,n,rfl,_⟩:=h
  rfl
 ·obtain ⟨N,n,rfl,hN,hn,k⟩:=h
  refine⟨_,(pss_one (ps_ret (pe_tup (pa_cons pe_str (pa_cons (pe_cal Cmean (hr.mono (by decide)) rfl (pa_cons pe_str (pa_cons (pv 0) pa_nil))) (pa_cons (pe_cal Cspread (hr.mono (by decide)) rfl (pa_cons pe_str (pa_cons (pv 0) pa_nil))) pa_nil)))))), ?_⟩
  have n0:(0:Int)<=(N:Int):=by (first|lia|omega)
  have n1:=hN
  refine⟨_,rfl, "rises",N,rfl,.inl rfl,n0,n1,fun x G1 s1 hx=>⟨_,rfl, "rises",N,rfl,.inl rfl,n0,n1,fun y G2 s2 hy=>⟨by show 3<=sizeLine;decide,fun z hz=> ?_⟩⟩⟩
  exact k z _ ((s1.trans s2).trans (zaa hz)) ⟨_,zab,.cons (.str _) (.cons (Shr.isY (zaa hz _ _ (s2 _ _ hx))) (.cons (Shr.isY (zaa hz _ _ hy)) .nil))⟩
theorem zcb:FnScope ["many", "number"] ["many", "number"] (zac zaO):=⟨rfl,rfl,rfl,by decide+kernel,rfl,by decide+kernel,by decide+kernel⟩
theorem zcc {f:Addr}{fd:FuncData}(F:Fun K "crossed_paper" "crossed_paper" zaO f fd)(Cmean:Cal P w K mg base 4 "mean" ["kind", "many"] (spKN mnZ))(Cspread:Cal P w K mg base 4 "spread" ["kind", "many"] (spKN sdZ)):FnOk P w K mg base CX0 5 f fd ["many", "number"] (zaB "crossed"):=by
 refine F.ok zcb (fun vs H Q E h=> ?_) (fun cdv A outer s H vs Q E hr h=> ?_)
 ·obtain ⟨N,n,rfl,_⟩:=h
  rfl
 ·obtain ⟨N,n,rfl,hN,hn,k⟩:=h
  refine⟨_,(pss_one (ps_ret (pe_tup (pa_cons pe_str (pa_cons (pe_cal Cmean (hr.mono (by decide)) rfl (pa_cons pe_str (pa_cons (pv 0) pa_nil))) (pa_cons (pe_cal Cspread (hr.mono (by decide)) rfl (pa_cons pe_str (pa_cons (pv 0) pa_nil))) pa_nil)))))), ?_⟩
  have n0:(0:Int)<=(N:Int):=by (first|lia|omega)
  have n1:=hN
  refine⟨_,rfl, "crossed",N,rfl,.inr rfl,n0,n1,fun x G1 s1 hx=>⟨_,rfl, "crossed",N,rfl,.inr rfl,n0,n1,fun y G2 s2 hy=>⟨by show 3<=sizeLine;decide,fun z hz=> ?_⟩⟩⟩
  exact k z _ ((s1.trans s2).trans (zaa hz)) ⟨_,zab,.cons (.str _) (.cons (Shr.isY (zaa hz _ _ (s2 _ _ hx))) (.cons (Shr.isY (zaa hz _ _ hy)) .nil))⟩
theorem sc_own_paper:FnScope ["kind", "many", "number", "paper"] ["kind", "many", "number"] (zac zbx):=⟨rfl,rfl,rfl,by decide+kernel,rfl,by decide+kernel,by decide+kernel⟩
theorem zee {f C f1 f2 f3 f4 f5:Addr}{fd:FuncData}(F:Fun K "own_paper" "own_paper" zbx f fd)(hC:mg "PAPERS" =some (.ref C))(GD:GDict K w.params C [("rounds",f1),("stays",f2),("rises",f3),("highs",f1),("crossed",f4),("longest",f5)])
  (c1:CalF P w K mg base 5 f1 ["many", "number"] (spE (zaB "rounds") (zaB "highs"))) (c2:CalF P w K mg base 5 f2 ["many", "number"] (zaB "stays")) (c3:CalF P w K mg base 5 f3 ["many", "number"] (zaB "rises")) (c4:CalF P w K mg base 5 f4 ["many", "number"] (zaB "crossed")) (c5:CalF P w K mg base 5 f5 ["many", "number"] (zaB "longest")):FnOk P w K mg base CX0 6 f fd ["kind", "many", "number"] zec:=by
 refine F.ok sc_own_paper (fun vs H Q E h=> ?_) (fun cdv A outer s H vs Q E hr h=> ?_)
 ·obtain ⟨kd,N,n,rfl,_⟩:=h
  rfl
 ·obtain ⟨kd,N,n,rfl,hk,hN,hn,k⟩:=h
  refine⟨_,(pss_cons (ps_set (i:=3) sc_own_paper.nd rfl (Or.inl rfl) (pe_ix zf2 (zbd (v:=.ref C) rfl hC rfl) (pv 0) (fun _ _=>rfl)))
   (pss_one (ps_ret (zbC (k:=5) (pv 3) hr (pa_cons (pv 1) (pa_cons (pv 2) pa_nil)))))), ?_⟩
  have:kd= "rounds" ∨kd= "stays" ∨kd= "rises" ∨kd= "highs" ∨kd= "crossed" ∨kd= "longest" :=by simpa [zai] using hk
  rcases this with rfl|rfl|rfl|rfl|rfl|rfl
  ·exact⟨_,rfl,C,_,_,f1,rfl,rfl,GD,rfl,_,rfl,f1,_,_,rfl,c1,_,rfl,_,rfl,.inl ⟨N,n,rfl,hN,hn,k⟩⟩
  ·exact⟨_,rfl,C,_,_,f2,rfl,rfl,GD,rfl,_,rfl,f2,_,_,rfl,c2,_,rfl,_,rfl,N,n,rfl,hN,hn,k⟩
  ·exact⟨_,rfl,C,_,_,f3,rfl,rfl,GD,rfl,_,rfl,f3,_,_,rfl,c3,_,rfl,_,rfl,N,n,rfl,hN,hn,k⟩
  ·exact⟨_,rfl,C,_,_,f1,rfl,rfl,GD,rfl,_,rfl,f1,_,_,rfl,c1,_,rfl,_,rfl,.inr ⟨N,n,rfl,hN,hn,k⟩⟩
  ·exact⟨_,rfl,C,_,_,f4,rfl,rfl,GD,rfl,_,rfl,f4,_,_,rfl,c4,_,rfl,_,rfl,N,n,rfl,hN,hn,k⟩
  ·exact⟨_,rfl,C,_,_,f5,rfl,rfl,GD,rfl,_,rfl,f5,_,_,rfl,c5,_,rfl,_,rfl,N,n,rfl,hN,hn,k⟩
end
end K64
namespace L2
open PySem PySem.Spec PyProof.Rows
theorem FnOk.both {P:Program}{w:World}{K:PySem.W.Frag}{mg:Str->Option Value}{base:Heap}{CX:CXT}{k:Nat}{f:Addr}{fd:FuncData}{ps:List Str}{a b:Sp}(A:FnOk P w K mg base CX k f fd ps a)(B:FnOk P w K mg base CX k f fd ps b):FnOk P w K mg base CX k f fd ps (spE a b):=
 ⟨fun vs H Q E q=>q.elim (A.len vs H Q E) (B.len vs H Q E),fun A' outer s H args us vs Q E hr he hb hv hs=>hs.elim (A.run A' outer s H args us vs Q E hr he hb hv) (B.run A' outer s H args us vs Q E hr he hb hv)⟩
theorem zg5 {kind:Str}{N k:Nat}{H:Hp}{z:Addr}(h:PapT kind N k H z)(hk:kind= "stays" ∨kind= "longest"):∃y,H z=some (.tup [.str "sets",.int (sZ N k),.ref y])/\Shr H y (eaZ kind N k):=by
 obtain⟨us,h1,h2⟩:=h
 have e:paL kind N k=[.str "sets",.int (sZ N k),shD (eaZ kind N k)]:=by rcases hk with rfl|rfl<;>rfl
 rw[e] at h2
 cases h2 with
 | cons a t=>
  cases t with
  | cons b t=>
   cases t with
   |cons c t=>
    cases t
    cases a
    cases b
    obtain⟨y,rfl,hy⟩:=zbg c
    exact⟨y,h1,hy⟩
theorem zft {kind:Str}{N k:Nat}{H:Hp}{z:Addr}(h:PapT kind N k H z)(hk:kind= "rounds" ∨kind= "highs"):H z=some (.tup [.str "groups",.int (figZ N)]):=by
 obtain⟨us,h1,h2⟩:=h
 have e:paL kind N k=[.str "groups",.int (figZ N)]:=by rcases hk with rfl|rfl<;>rfl
 rw[e] at h2
 cases h2 with
 | cons a t=>
  cases t with
  |cons b t=>
   cases t
   cases a
   cases b
   exact h1
theorem zfu {kind:Str}{N k:Nat}{H:Hp}{z:Addr}(h:PapT kind N k H z)(hk:kind= "rises" ∨kind= "crossed"):∃x y,H z=some (.tup [.str "spread",.ref x,.ref y])/\Shr H x (mnZ kind N)/\Shr H y (sdZ kind N):=by
 obtain⟨us,h1,h2⟩:=h
 have e:paL kind N k=[.str "spread",shD (mnZ kind N),shD (sdZ kind N)]:=by rcases hk with rfl|rfl<;>rfl
 rw[e] at h2
 cases h2 with
 | cons a t=>
  cases t with
  | cons b t=>
   cases t with
   |cons c t=>
    cases t
    cases a
    obtain⟨x,rfl,hx⟩:=zbg b
    obtain⟨y,rfl,hy⟩:=zbg c
    exact⟨x,y,h1,hx,hy⟩
theorem all3 {S:Addr->Prop}{H:Hp}{vs:List V}{ds:List PyData}(h:IsAllY S H vs ds)(hl:ds.length=3):∃v0 v1 v2 d0 d1 d2,vs=[v0,v1,v2]/\ds=[d0,d1,d2]/\IsY S H v0 d0/\IsY S H v1 d1/\IsY S H v2 d2:=by
 cases h with
 |nil=>cases hl
 | cons a t=>
  cases t with
  |nil=>cases hl
  | cons b t=>
   cases t with
   |nil=>cases hl
   |cons c t=>
    cases t with
    |nil=>exact⟨_,_,_,_,_,_,rfl,rfl,a,b,c⟩
    |cons _ _=>simp at hl
theorem all2 {S:Addr->Prop}{H:Hp}{vs:List V}{ds:List PyData}(h:IsAllY S H vs ds)(hl:ds.length=2):∃v0 v1 d0 d1,vs=[v0,v1]/\ds=[d0,d1]/\IsY S H v0 d0/\IsY S H v1 d1:=by
 cases h with
 |nil=>cases hl
 | cons a t=>
  cases t with
  |nil=>cases hl
  |cons b t=>
   cases t with
   |nil=>exact⟨_,_,_,_,rfl,rfl,a,b⟩
   |cons _ _=>simp at hl
theorem ziQ (a b c:V):cutV [a,b,c] (some 1) (some 2)=[b]:=rfl
end L2
namespace K64
open PySem PySem.Spec PyProof.Rows L2
noncomputable abbrev zaP:Stmt:=top 59
noncomputable abbrev zaC:Stmt:=top 61
section
variable {P:Program}{w:World}{K:PySem.W.Frag}{mg:Str->Option Value}{base:Heap}
theorem zeJ {f:Addr}{fd:FuncData}(F:Fun K "product" "product" zbJ f fd)(T:Top mg):FnOk P w K mg base CX0 1 f fd ["first", "last"] zhU:=by
 refine F.ok sc_product (fun vs H Q E h=> ?_) (fun cdv A outer s H vs Q E hr h=> ?_)
 ·obtain ⟨N,a,n,rfl,_⟩:=h
  rfl
 ·obtain ⟨N,a,n,rfl,a0,a1,hN,hn,k⟩:=h
  refine⟨_,(pss_cons (ps_set (i:=2) sc_product.nd rfl (Or.inl rfl) pe_int)
   (pss_cons (ps_for PassesOwn.never rfl (zfn rfl T.n_range (pa_cons (pv 0) (pa_cons (pe_op zar (pv 1) pe_int) pa_nil))) (zao (i:=3) sc_product.nd rfl (Or.inl rfl))
    (pss_one (ps_set (i:=2) sc_product.nd rfl (Or.inl rfl) (pe_op zah (pv 2) (pv 3)))))
   (pss_one (ps_ret (pv 2))))), ?_⟩
  refine⟨_,rfl,_,rfl,_,_,rfl,rfl,_,_,rfl, ?_⟩
  rw[show (a+(n:Int)-1+1-a).toNat=n by (first|lia|omega)]
  refine zaq (fun i σ G=>G=H/\∃c:Option V,σ=[some (.int a),some (.int (a+n-1)),some (.int (prN a i)),c]) ⟨rfl,none,rfl⟩ ?_ ?_
  ·rintro i σ G hi ⟨rfl,c,rfl⟩
   have b:=(zgi hN a0 i (by (first|lia|omega)) (by (first|lia|omega))).2
   have b2:Sm (a+(i:Int)) 101:=Sm.of (Nat.lt_of_le_of_lt (show (a+(i:Int)).natAbs<=10^30 by (first|lia|omega)) (by decide+kernel))
   exact⟨_,rfl,_,rfl,_,_,rfl,rfl,⟨b.mono (by (first|lia|omega)),b2.mono (by decide)⟩,rfl,some (.int (a+(i:Int))),rfl⟩
  ·rintro σ G ⟨rfl,c,rfl⟩
   exact⟨_,rfl,k⟩
theorem zcd:FnScope ["paper", "number", "bound", "thing"] ["paper", "number", "bound", "thing"] (zac zaP):=⟨rfl,rfl,rfl,by decide+kernel,rfl,by decide+kernel,by decide+kernel⟩
theorem zce {f:Addr}{fd:FuncData}(F:Fun K "shows_by_sets" "shows_by_sets" zaP f fd)(Care_just:Cal P w K mg base 3 "are_just" ["thing", "numbers"] ze3)(Cis_less:Cal P w K mg base 1 "is_less" ["one", "other"] zdj)(Ctimes:Cal P w K mg base 3 "times" ["one", "other"] zhV):FnOk P w K mg base CX0 4 f fd ["paper", "number", "bound", "thing"] (zaH ["stays", "longest"]):=by
 refine F.ok zcd (fun vs H Q E h=> ?_) (fun cdv A outer s H vs Q E hr h=> ?_)
 ·obtain ⟨kd,N,n,z,bz,a,b,S,us,ds,rfl,_⟩:=h
  rfl
 ·obtain ⟨kd,N,n,z,bz,a,b,S,us,ds,rfl,hkd,L,k⟩:=h
  refine⟨_,(pss_cons (ps_if (PW.pt (pw_or (pt_not (pt_val (pe_cal Care_just (hr.mono (by decide)) rfl (pa_cons (pe_slice zbR (pv 3) (po_some pe_int) (po_some pe_int)) (pa_cons (pe_slice zbR (pv 0) (po_some pe_int) (po_some pe_int)) pa_nil))))) (pw_or1 (pt_not (pt_val (pe_cal Care_just (hr.mono (by decide)) rfl (pa_cons (pe_ix zae (pv 3) pe_int (fun _ _=>rfl)) (pa_cons (pe_ix zae (pv 0) pe_int (fun _ _=>rfl)) pa_nil))))))))
    (pss_one (ps_ret pe_bl))
    pss_nil)
   (pss_one (ps_ret (zdH (pe_cal Cis_less (hr.mono (by decide)) rfl (pa_cons (pv 2) (pa_cons (pe_cal Ctimes (hr.mono (by decide)) rfl (pa_cons (pe_tup (pa_cons (pe_ix zae (pv 0) pe_int (fun _ _=>rfl)) (pa_cons pe_int pa_nil))) (pa_cons (pe_ix zae (pv 0) pe_int (fun _ _=>rfl)) pa_nil))) pa_nil))))))), ?_⟩
  have hk2:kd= "stays" ∨kd= "longest" :=by simpa using hkd
  have e3:paL kd N n=[.str "sets",.int (sZ N n),shD (eaZ kd N n)]:=by rcases hk2 with rfl|rfl<;>rfl
  have hng:¬(kd= "rounds" ∨kd= "highs"):=by rcases hk2 with rfl|rfl<;>decide
  obtain⟨y,hz,hy⟩:=zg5 L.pap hk2
  obtain⟨v0,v1,v2,d0,d1,d2,rfl,rfl,y0,y1,y2⟩:=all3 L.all (by rw[L.len,e3];rfl)
  have ha:=L.top
  have hea:=zc8 (kind:=kd) L.hN L.hk
  have n0:(0:Int)<=(N:Int):=by (first|lia|omega)
  have hsz:=zey n0 L.hN n L.hk
  have hn60:=L.hk
  have hlk:lkZ kd N n b [d0,d1,d2]=(juD [sZ N n] (.tuple [d1])&&juD [(eaZ kd N n).1,(eaZ kd N n).2] d2&&decide (sZ N n*(eaZ kd N n).1*b.2<=b.1*(eaZ kd N n).2)):=by
   unfold lkZ
   rw[if_neg hng,if_pos hk2]
   rfl
  rw[hlk] at k
  refine⟨_,rfl,_,rfl,_,rfl,a,_,rfl,ha,fun p1 G1 s1 hp1=> ?_⟩
  rw[ziQ] at hp1
  refine⟨_,rfl,_,rfl,_,rfl,z,_,rfl,s1 _ _ hz,fun p2 G2 s2 hp2=> ?_⟩
  rw[ziQ] at hp2
  have S2:=s1.trans s2
  refine⟨S,.ref p1,.tuple [d1],p2,[sZ N n],rfl,.tup (s2 _ _ hp1) (.cons (y1.same S2) .nil), ?_,hp2,fun G3 s3=>⟨_,rfl, ?_⟩⟩
  ·have:=L.sz
   unfold Sz at this ⊢
   simp only[PyData.bulk,PyData.bulkAll] at this ⊢
   (first|lia|omega)
  have S3:=S2.trans s3
  by_cases c1:juD [sZ N n] (.tuple [d1])=true
  ·rw [c1]
   refine iteF ⟨_,rfl,a,_,2,v2,rfl,rfl,SqT.of (S3 _ _ ha),zad (j:=2) rfl,_,rfl,z,_,2,.ref y,rfl,rfl,SqT.of (S3 _ _ hz),zad (j:=2) rfl,S,v2,d2,y,[(eaZ kd N n).1,(eaZ kd N n).2],rfl,y2.same S3,L.sz.tup.2 d2 (by simp),S3 _ _ hy,fun G4 s4=>⟨_,rfl, ?_⟩⟩
   have S4:=S3.trans s4
   by_cases c2:juD [(eaZ kd N n).1,(eaZ kd N n).2] d2=true
   ·rw [c2]
    refine iteF ⟨_,rfl,_,rfl,z,_,1,_,rfl,rfl,SqT.of (S4 _ _ hz),zad (j:=1) rfl,by show 2<=sizeLine;decide,fun q hq=> ?_⟩
    have sq:=zaa (o:=.tup [.int (sZ N n),.int 1]) hq
    refine⟨_,rfl,z,_,2,.ref y,rfl,rfl,SqT.of (sq _ _ (S4 _ _ hz)),zad (j:=2) rfl,q,y,(sZ N n,1),eaZ kd N n,rfl,zab,sq _ _ (S4 _ _ hy),⟨Int.one_pos,hsz.mono (by (first|lia|omega)),sm1.mono (by decide)⟩,hea.mono (by decide), ?_,fun t G5 s5 ht=> ?_⟩
    ·show Sm (1*(eaZ kd N n).2) 8000
     rw[Int.one_mul]
     exact hea.s2.mono (by decide)
    have e0:tmZ (sZ N n,1) (eaZ kd N n)=lowZ (sZ N n*(eaZ kd N n).1) (eaZ kd N n).2:=by
     unfold tmZ
     rw[Int.one_mul]
    rw[e0] at ht
    have he1:((eaZ kd N n).1).natAbs<=1:=by
     unfold eaZ
     split
     ·show (1:Int).natAbs<=1
      decide
     ·show (0:Int).natAbs<=1
      decide
    refine⟨bz,t,b,_,rfl,(sq.trans s5) _ _ (S4 _ _ L.bnd),ht,L.bsm, ?_,fun G6 s6=> ?_⟩
    ·exact ShB.low hea.pos (((hsz.mul (Sm.of (n:=1) (by (first|lia|omega)))).mono (by (first|lia|omega)))) (hea.s2.mono (by decide))
    ·rw [c1,c2] at k
     rw[Bool.and_self,Bool.true_and] at k
     rw[<-zbT L.bsm.pos hea.pos] at k
     exact⟨_,rfl,k G6 ((((S4.trans sq).trans s5)).trans s6)⟩
   ·rw [show juD [(eaZ kd N n).1,(eaZ kd N n).2] d2=false by simpa using c2]
    rw[show juD [(eaZ kd N n).1,(eaZ kd N n).2] d2=false by simpa using c2,Bool.and_false,Bool.false_and] at k
    exact iteT (k G4 S4)
  ·rw [show juD [sZ N n] (.tuple [d1])=false by simpa using c1]
   rw[show juD [sZ N n] (.tuple [d1])=false by simpa using c1,Bool.false_and,Bool.false_and] at k
   exact iteT (k G3 S3)
theorem sc_shows_by_spread:FnScope ["paper", "number", "bound", "thing", "beyond"] ["paper", "number", "bound", "thing"] (zac zaC):=⟨rfl,rfl,rfl,by decide+kernel,rfl,by decide+kernel,by decide+kernel⟩
theorem zbK {f:Addr}{fd:FuncData}(F:Fun K "shows_by_spread" "shows_by_spread" zaC f fd)(Care_just:Cal P w K mg base 3 "are_just" ["thing", "numbers"] ze3)(Cis_less:Cal P w K mg base 1 "is_less" ["one", "other"] zdj)(Ctimes:Cal P w K mg base 3 "times" ["one", "other"] (spSh tmZ))(Cless:Cal P w K mg base 3 "less" ["one", "other"] (spSh leZ))(Cparted:Cal P w K mg base 3 "parted" ["one", "other"] spPt):FnOk P w K mg base CX0 4 f fd ["paper", "number", "bound", "thing"] (zaH ["rises", "crossed"]):=by
 refine F.ok sc_shows_by_spread (fun vs H Q E h=> ?_) (fun cdv A outer s H vs Q E hr h=> ?_)
 ·obtain ⟨kd,N,n,z,bz,a,b,S,us,ds,rfl,_⟩:=h
  rfl
 ·obtain ⟨kd,N,n,z,bz,a,b,S,us,ds,rfl,hkd,L,k⟩:=h
  refine⟨_,(pss_cons (ps_if (PW.pt (pw_or (pt_not (pt_val (pe_cal Care_just (hr.mono (by decide)) rfl (pa_cons (pe_ix zae (pv 3) pe_int (fun _ _=>rfl)) (pa_cons (pe_ix zae (pv 0) pe_int (fun _ _=>rfl)) pa_nil))))) (pw_or1 (pt_not (pt_val (pe_cal Care_just (hr.mono (by decide)) rfl (pa_cons (pe_ix zae (pv 3) pe_int (fun _ _=>rfl)) (pa_cons (pe_ix zae (pv 0) pe_int (fun _ _=>rfl)) pa_nil))))))))
    (pss_one (ps_ret pe_bl))
    pss_nil)
   (pss_cons (ps_set (i:=4) sc_shows_by_spread.nd rfl (Or.inl rfl) (pe_cal Cless (hr.mono (by decide)) rfl (pa_cons (pe_tup (pa_cons (pv 1) (pa_cons pe_int pa_nil))) (pa_cons (pe_ix zae (pv 0) pe_int (fun _ _=>rfl)) pa_nil))))
   (pss_one (ps_ret (pe_and (pe_cal Cis_less (hr.mono (by decide)) rfl (pa_cons (pe_tup (pa_cons pe_int (pa_cons pe_int pa_nil))) (pa_cons (pv 4) pa_nil))) (pe_one (zdH (pe_cal Cis_less (hr.mono (by decide)) rfl (pa_cons (pv 2) (pa_cons (pe_cal Cparted (hr.mono (by decide)) rfl (pa_cons (pe_ix zae (pv 0) pe_int (fun _ _=>rfl)) (pa_cons (pe_cal Ctimes (hr.mono (by decide)) rfl (pa_cons (pv 4) (pa_cons (pv 4) pa_nil))) pa_nil))) pa_nil)))))))))), ?_⟩
  have hk2:kd= "rises" ∨kd= "crossed" :=by simpa using hkd
  have e3:paL kd N n=[.str "spread",shD (mnZ kd N),shD (sdZ kd N)]:=by rcases hk2 with rfl|rfl<;>rfl
  have hng:¬(kd= "rounds" ∨kd= "highs"):=by rcases hk2 with rfl|rfl<;>decide
  obtain⟨x,y,hz,hx,hy⟩:=zfu L.pap hk2
  obtain⟨v0,v1,v2,d0,d1,d2,rfl,rfl,y0,y1,y2⟩:=all3 L.all (by rw[L.len,e3];rfl)
  have ha:=L.top
  have h0:(0:Int)<=(N:Int):=by (first|lia|omega)
  have h1:=L.hN
  have hn:=L.hk
  have hlk:lkZ kd N n b [d0,d1,d2]=(juD [(mnZ kd N).1,(mnZ kd N).2] d1&&juD [(sdZ kd N).1,(sdZ kd N).2] d2&&decide (0<farZ kd N n)&&decide (ovZ kd N*b.2<=b.1*unZ kd N n)):=by
   unfold lkZ
   rw[if_neg hng,if_neg (by rcases hk2 with rfl|rfl<;>decide)]
   rfl
  rw[hlk] at k
  refine⟨_,rfl,a,_,1,v1,rfl,rfl,SqT.of ha,zad (j:=1) rfl,_,rfl,z,_,1,.ref x,rfl,rfl,SqT.of hz,zad (j:=1) rfl,S,v1,d1,x,[(mnZ kd N).1,(mnZ kd N).2],rfl,y1,L.sz.tup.2 d1 (by simp),hx,fun G3 S3=>⟨_,rfl, ?_⟩⟩
  by_cases c1:juD [(mnZ kd N).1,(mnZ kd N).2] d1=true
  ·rw [c1]
   refine iteF ⟨_,rfl,a,_,2,v2,rfl,rfl,SqT.of (S3 _ _ ha),zad (j:=2) rfl,_,rfl,z,_,2,.ref y,rfl,rfl,SqT.of (S3 _ _ hz),zad (j:=2) rfl,S,v2,d2,y,[(sdZ kd N).1,(sdZ kd N).2],rfl,y2.same S3,L.sz.tup.2 d2 (by simp),S3 _ _ hy,fun G4 s4=>⟨_,rfl, ?_⟩⟩
   have S4:=S3.trans s4
   by_cases c2:juD [(sdZ kd N).1,(sdZ kd N).2] d2=true
   ·rw [c2]
    have mb:=zdh (kind:=kd) h0 h1
    have db:=zdi (kind:=kd) h0 h1
    have fb:=zc7 (kind:=kd) (k:=(n:Int)) h0 h1 (by (first|lia|omega)) (by (first|lia|omega))
    have nb:ShB ((n:Int),1) 3900:=⟨Int.one_pos,Sm.of (Nat.lt_of_le_of_lt (show ((n:Int)).natAbs<=60 by (first|lia|omega)) (by decide+kernel)),sm1⟩
    refine iteF ⟨_,rfl,by show 2<=sizeLine;decide,fun t ht=> ?_⟩
    have st:=zaa (o:=.tup [.int (n:Int),.int 1]) ht
    refine⟨_,rfl,z,_,1,.ref x,rfl,rfl,SqT.of (st _ _ (S4 _ _ hz)),zad (j:=1) rfl,t,x,_,_,rfl,zab,st _ _ (S4 _ _ hx),nb,mb.mono (by decide),fun bb' H2 s2 hb=> ?_⟩
    rw[zd5] at hb
    have S5:=(S4.trans st).trans s2
    refine⟨by show 2<=sizeLine;decide,fun o ho=> ?_⟩
    have so:=zaa (o:=.tup [.int 0,.int 1]) ho
    have bb:ShB (lowZ (farZ kd N n) (mnZ kd N).2) 3900:=ShB.low mb.pos (fb.mono (by decide)) (mb.s2.mono (by decide))
    refine⟨_,rfl,o,bb',(0,1),_,rfl,zab,so _ _ hb,⟨by decide,Sm.of (by decide+kernel),Sm.of (by decide+kernel)⟩,bb.mono (by decide),fun H3 s3=> ?_⟩
    rw[zd6 mb.pos]
    have hb3:=(so.trans s3) _ _ hb
    have S6:=(S5.trans so).trans s3
    by_cases hf:0<farZ kd N n
    ·rw [decide_eq_true hf]
     refine⟨_,rfl,iteT ⟨_,rfl,_,rfl,z,_,2,.ref y,rfl,rfl,SqT.of (S6 _ _ hz),zad (j:=2) rfl, ?_⟩⟩
     refine⟨_,rfl,_,rfl,bb',bb',_,_,rfl,hb3,hb3,bb,bb,fun q H5 s5 hq=> ?_⟩
     have tb:ShB (tmZ (lowZ (farZ kd N n) (mnZ kd N).2) (lowZ (farZ kd N n) (mnZ kd N).2)) 3900:=by
      rw[zd3 mb.pos mb.pos]
      exact ShB.low (Int.mul_pos mb.pos mb.pos) ((fb.mul fb).mono (by decide)) ((mb.s2.mul mb.s2).mono (by decide))
     have tp:0<(tmZ (lowZ (farZ kd N n) (mnZ kd N).2) (lowZ (farZ kd N n) (mnZ kd N).2)).1:=by
      rw[zd3 mb.pos mb.pos]
      exact zct (Int.mul_pos mb.pos mb.pos) (Int.mul_pos hf hf)
     refine⟨y,q,_,_,rfl,s5 _ _ (S6 _ _ hy),hq,db.mono (by decide),tb,tp,fun u H6 s6 hu'=> ?_⟩
     have kk:=k
     rw[c1,c2,decide_eq_true hf,Bool.and_self,Bool.true_and,Bool.true_and,<-zbT L.bsm.pos (zbF h0 h1 hf),<-ze1 h0 h1 hf] at kk
     refine⟨bz,u,b,_,rfl,s6 _ _ (s5 _ _ (S6 _ _ L.bnd)),hu',L.bsm, ?_,fun H7 s7=>⟨_,rfl,kk H7 (((S6.trans s5).trans s6).trans s7)⟩⟩
     unfold ptZ
     exact ShB.low (Int.mul_pos db.pos tp) ((db.s1.mul tb.s2).mono (by decide)) ((db.s2.mul tb.s1).mono (by decide))
    ·rw [decide_eq_false hf]
     rw[decide_eq_false hf,Bool.and_false,Bool.false_and] at k
     exact⟨_,rfl,iteF (k H3 S6)⟩
   ·rw [show juD [(sdZ kd N).1,(sdZ kd N).2] d2=false by simpa using c2]
    rw[show juD [(sdZ kd N).1,(sdZ kd N).2] d2=false by simpa using c2,Bool.and_false,Bool.false_and,Bool.false_and] at k
    exact iteT (k G4 S4)
  ·rw [show juD [(mnZ kd N).1,(mnZ kd N).2] d1=false by simpa using c1]
   rw[show juD [(mnZ kd N).1,(mnZ kd N).2] d1=false by simpa using c1,Bool.false_and,Bool.false_and,Bool.false_and] at k
   exact iteT (k G3 S3)
end
end K64
namespace L2
open PySem PySem.Spec PyProof.Rows
theorem ziR (kind:Str)(N k:Nat):0<(paL kind N k).length:=by
 unfold paL
 split
 ·show 0<2
  decide
 ·split<;>(show 0<3;decide)
theorem ziS {kind:Str}{N k:Nat}(h:kind= "rounds" ∨kind= "highs"):(paL kind N k).length=2:=by
 unfold paL
 rw[if_pos h]
 rfl
theorem zh0 {S:Addr->Prop}{H:Hp}{v:V}{d:PyData}(h:IsY S H v d)(c:isIv v=true):∃n:Int,v=.int n/\d=.int n:=by
 cases h with
 |int i=>exact⟨i,rfl,rfl⟩
 |_=>cases c
end L2
namespace K64
open PySem PySem.Spec PyProof.Rows L2
noncomputable abbrev zaD:Stmt:=top 60
noncomputable abbrev zaA:Stmt:=top 63
section
variable {P:Program}{w:World}{K:PySem.W.Frag}{mg:Str->Option Value}{base:Heap}
theorem sc_shows_by_groups:FnScope ["paper", "number", "bound", "thing", "most", "power", "time"] ["paper", "number", "bound", "thing"] (zac zaD):=⟨rfl,rfl,rfl,by decide+kernel,rfl,by decide+kernel,by decide+kernel⟩
theorem zbL {f:Addr}{fd:FuncData}(F:Fun K "shows_by_groups" "shows_by_groups" zaD f fd)(T:Top mg)(Cis_whole:Cal P w K mg base 1 "is_whole" ["thing"] (zg1 K))(Cproduct:Cal P w K mg base 1 "product" ["first", "last"] spPr):FnOk P w K mg base CX0 2 f fd ["paper", "number", "bound", "thing"] (zaH ["rounds", "highs"]):=by
 refine F.ok sc_shows_by_groups (fun vs H Q E h=> ?_) (fun cdv A outer s H vs Q E hr h=> ?_)
 ·obtain ⟨kd,N,n,z,bz,a,b,S,us,ds,rfl,_⟩:=h
  rfl
 ·obtain ⟨kd,N,n,z,bz,a,b,S,us,ds,rfl,hkd,L,k⟩:=h
  refine⟨_,(pss_cons (ps_if (PW.pt (pw_or (pt_not (pt_val (pe_cal Cis_whole (hr.mono (by decide)) rfl (pa_cons (pe_ix zae (pv 3) pe_int (fun _ _=>rfl)) pa_nil)))) (pw_or1 (pt_cmpR zfF (pe_ix zae (pv 3) pe_int (fun _ _=>rfl)) (pe_ix zae (pv 0) pe_int (fun _ _=>rfl)) (zag _)))))
    (pss_one (ps_ret pe_bl))
    pss_nil)
   (pss_cons (ps_set (i:=4) sc_shows_by_groups.nd rfl (Or.inl rfl) (pe_op zbn (pe_op zah (pe_ix zae (pv 2) pe_int (fun _ _=>rfl)) (pe_cal Cproduct (hr.mono (by decide)) rfl (pa_cons pe_int (pa_cons (pv 1) pa_nil)))) (pe_ix zae (pv 2) pe_int (fun _ _=>rfl))))
   (pss_cons (ps_set (i:=5) sc_shows_by_groups.nd rfl (Or.inl rfl) pe_int)
   (pss_cons (ps_for PassesOwn.never rfl (pi_range1 rfl T.n_range (pa_cons (pv 1) pa_nil)) (zao (i:=6) sc_shows_by_groups.nd rfl (Or.inl rfl))
    (pss_cons (ps_set (i:=5) sc_shows_by_groups.nd rfl (Or.inl rfl) (pe_op zah (pv 5) (pe_ix zae (pv 3) pe_int (fun _ _=>rfl))))
    (pss_one (ps_if (pt_cmpR zcL (pv 5) (pv 4) (zag _))
     (pss_one (ps_ret pe_bl))
     pss_nil))))
   (pss_one (ps_ret pe_bl)))))), ?_⟩
  have hk2:kd= "rounds" ∨kd= "highs" :=by simpa using hkd
  have e3:paL kd N n=[.str "groups",.int (figZ N)]:=by rcases hk2 with rfl|rfl<;>rfl
  have hz:=zft L.pap hk2
  obtain⟨v0,v1,d0,d1,rfl,rfl,y0,y1⟩:=all2 L.all (by rw[L.len,e3];rfl)
  have ha:=L.top
  have h0:(0:Int)<=(N:Int):=by (first|lia|omega)
  have h1:=L.hN
  have hn:=L.hk
  have hb:=L.bgr hk2
  have hlk:lkZ kd N n b [d0,d1]=(whD d1&&decide (figZ N<=asI d1)&&decide (asI d1^n*b.2<=b.1*fcZ n)):=by
   unfold lkZ
   rw[if_pos hk2]
   rfl
  rw[hlk] at k
  refine⟨_,rfl,a,_,1,v1,rfl,rfl,SqT.of ha,zad (j:=1) rfl,v1,rfl,y1.kn,_,rfl, ?_⟩
  by_cases c1:isIv v1=true
  ·obtain ⟨m,rfl,rfl⟩:=zh0 y1 c1
   have hm:=L.int hk2 m rfl
   rw[show whD (.int m)=true from rfl,show asI (.int m)=m from rfl,Bool.true_and] at k
   rw[c1]
   refine iteF ⟨_,rfl,a,_,1,_,rfl,rfl,SqT.of ha,zad (j:=1) rfl,_,rfl,z,_,1,_,rfl,rfl,SqT.of hz,zad (j:=1) rfl,_,_,rfl,rfl,_,rfl, ?_⟩
   by_cases c2:m<figZ N
   ·rw [decide_eq_true c2]
    rw[decide_eq_false (by (first|lia|omega)),Bool.false_and] at k
    exact iteT (k H (Same.refl H))
   ·rw [decide_eq_false c2]
    rw[decide_eq_true (show figZ N<=m by (first|lia|omega)),Bool.true_and] at k
    have fl:=ze2 h0 h1
    have f0:=zaj n
    refine iteF ⟨_,rfl,bz,_,0,_,rfl,rfl,SqT.of L.bnd,zad (j:=0) rfl,_,rfl,n,rfl,by (first|lia|omega),_,_,rfl,rfl,⟨hb.s1.mono (by decide),(zau (by (first|lia|omega))).mono (by decide)⟩,_,rfl,bz,_,1,_,rfl,rfl,SqT.of L.bnd,zad (j:=1) rfl,_,_,rfl,rfl,⟨hb.pos,hb.s2.mono (by decide)⟩, ?_⟩
    have hnum:Sm (b.1*fcZ n) 4340:=hb.s1.mul (zau (by (first|lia|omega)))
    have hsm:∀p:Int,0<=p->p<=b.1*fcZ n/b.2->Sm p 4340:=fun p p0 p1=>by
     refine hnum.le ?_
     have hb2:=hb.pos
     have nn:0<=b.1*fcZ n:=by
      refine Int.not_lt.mp fun q=> ?_
      have:=Int.ediv_neg_of_neg_of_pos q hb2
      (first|lia|omega)
     have:=Int.ediv_le_self b.2 nn
     (first|lia|omega)
    refine⟨_,rfl,_,rfl,by (first|lia|omega),by (first|lia|omega), ?_⟩
    rw[Int.toNat_natCast]
    have hb2:=hb.pos
    have hm0:0<=m:=by (first|lia|omega)
    have hk1:=L.hk1
    have top:∀x:Int,x*b.2<=b.1*fcZ n↔x<=b.1*fcZ n/b.2:=fun x=>(Int.le_ediv_iff_mul_le hb2).symm
    refine zaq (n:=n) (fun i σ G=>G=H/\∃(p:Int) (c:Option V),σ=[some (.ref z),some (.int n),some (.ref bz),some (.ref a),some (.int (b.1*fcZ n/b.2)),some (.int p),c]/\0<=p/\Sm p 4340/\p=m^i/\(1<=i->p<=b.1*fcZ n/b.2)) ⟨rfl,1,none,rfl,by decide,(Sm.of (by show 1<2^4340;decide+kernel)),(Int.pow_zero m).symm,fun z=>absurd z (by decide)⟩ ?_ ?_
    ·rintro i σ G hi ⟨rfl,p,c,rfl,p0,ps,pe,pl⟩
     refine⟨_,rfl,_,rfl,a,_,1,_,rfl,rfl,SqT.of ha,zad (j:=1) rfl,_,_,rfl,rfl,⟨ps.mono (by decide),hm.mono (by decide)⟩, ?_⟩
     refine⟨_,rfl,_,rfl,_,_,rfl,rfl,_,rfl, ?_⟩
     have q0:0<=p*m:=Int.mul_nonneg p0 hm0
     have qe:p*m=m^(i+1):=by rw[pe,Int.pow_succ]
     by_cases c3:p*m>b.1*fcZ n/b.2
     ·rw [decide_eq_true c3]
      have nf:¬(m^n*b.2<=b.1*fcZ n):=fun hc=>by
       have hx:=(top _).mp hc
       by_cases hm1:1<=m
       ·have:=ziO hm1 (show i+1<=n by (first|lia|omega))
        (first|lia|omega)
       ·have e0:m=0:=by (first|lia|omega)
        subst e0
        have e1:(0:Int)^n=0:=by
         obtain⟨j,rfl⟩:∃j,n=j+1:=⟨n-1,by (first|lia|omega)⟩
         rw[Int.pow_succ,Int.mul_zero]
        rw[Int.mul_zero] at c3
        (first|lia|omega)
      rw[decide_eq_false nf] at k
      exact iteT (k G (Same.refl G))
     ·rw [decide_eq_false c3]
      exact iteF ⟨rfl,_,_,rfl,q0,hsm _ q0 (by (first|lia|omega)),qe,fun _=>by (first|lia|omega)⟩
    ·rintro σ G ⟨rfl,p,c,rfl,p0,ps,pe,pl⟩
     have:=(top (m^n)).mpr (by rw[<-pe];exact pl hk1)
     rw[decide_eq_true this] at k
     exact k G (Same.refl G)
  ·rw [show isIv v1=false by simpa using c1]
   have hw:whD d1=false:=by
    cases y1 with
    |int i=>exact absurd rfl c1
    |_=>rfl
   rw[hw,Bool.false_and,Bool.false_and] at k
   exact iteT (k H (Same.refl H))
theorem sc_shows_bound:FnScope ["kind", "many", "number", "bound", "thing", "paper", "look"] ["kind", "many", "number", "bound", "thing"] (zac zaA):=⟨rfl,rfl,rfl,by decide+kernel,rfl,by decide+kernel,by decide+kernel⟩
theorem zbp {f C AL f1 f2 f3:Addr}{fd:FuncData}(F:Fun K "shows_bound" "shows_bound" zaA f fd)(T:Top mg)(hAL:mg "ALL" =some (.ref AL))(hA1:∀H,SqT K H AL [.str "all"])(hC:mg "LOOKS" =some (.ref C))(GD:GDict K w.params C [("sets",f1),("groups",f2),("spread",f3)])
  (c1:CalF P w K mg base 6 f1 ["paper", "number", "bound", "thing"] (zaH ["stays", "longest"])) (c2:CalF P w K mg base 6 f2 ["paper", "number", "bound", "thing"] (zaH ["rounds", "highs"])) (c3:CalF P w K mg base 6 f3 ["paper", "number", "bound", "thing"] (zaH ["rises", "crossed"]))
  (Cis_less:Cal P w K mg base 1 "is_less" ["one", "other"] zdj) (Cown_paper:Cal P w K mg base 6 "own_paper" ["kind", "many", "number"] zec):FnOk P w K mg base CX0 7 f fd ["kind", "many", "number", "bound", "thing"] za4:=by
 refine F.ok sc_shows_bound (fun vs H Q E h=> ?_) (fun cdv A outer s H vs Q E hr h=> ?_)
 ·obtain ⟨kd,N,n,bz,b,S,x,d,rfl,_⟩:=h
  rfl
 ·obtain ⟨kd,N,n,bz,b,S,x,d,rfl,hkd,hN,hn,hbz,hbs,hbg,yd,hsz,hint,k⟩:=h
  have hu:_:=hr.units
  refine⟨_,(pss_cons (ps_if (PW.pt (pw_or (pt_not (pt_val (pe_callB za3 (by rfl) T.n_isinstance boot_isinstance (pa_cons (pv 4) (pa_cons (pe_bltn (v:=.ty "tuple") rfl T.n_tuple boot_tuple rfl) pa_nil))))) (pw_or1 (pt_not (zeR (pv 4) (fun _=>rfl))))))
    (pss_one (ps_ret pe_bl))
    pss_nil)
   (pss_cons (ps_if (pt_cmpR (zhQ hu) (pv 4) (zbd (v:=.ref AL) rfl hAL rfl) (zag _))
    (pss_one (ps_ret (zdH (pe_cal Cis_less (hr.mono (by decide)) rfl (pa_cons (pv 3) (pa_cons (pe_tup (pa_cons pe_int (pa_cons pe_int pa_nil))) pa_nil))))))
    pss_nil)
   (pss_cons (ps_if (pt_cmpR za1 (pv 2) pe_int (zag _))
    (pss_one (ps_ret pe_bl))
    pss_nil)
   (pss_cons (ps_set (i:=5) sc_shows_bound.nd rfl (Or.inl rfl) (pe_cal Cown_paper (hr.mono (by decide)) rfl (pa_cons (pv 0) (pa_cons (pv 1) (pa_cons (pv 2) pa_nil)))))
   (pss_cons (ps_if (PW.pt (pw_or (pt_cmpR (zhR hu) (pe_ix zae (pv 4) pe_int (fun _ _=>rfl)) (pe_ix zae (pv 5) pe_int (fun _ _=>rfl)) (zag _)) (pw_or1 (pt_cmpR zfe (pe_callB zan (by rfl) T.n_len PySem.boot_len (pa_cons (pv 4) pa_nil)) (pe_callB zan (by rfl) T.n_len PySem.boot_len (pa_cons (pv 5) pa_nil)) (zag _)))))
    (pss_one (ps_ret pe_bl))
    pss_nil)
   (pss_cons (ps_set (i:=6) sc_shows_bound.nd rfl (Or.inl rfl) (pe_ix zf2 (zbd (v:=.ref C) rfl hC rfl) (pe_ix zae (pv 5) pe_int (fun _ _=>rfl)) (fun _ _=>rfl)))
   (pss_one (ps_ret (zbC (k:=6) (pv 6) hr (pa_cons (pv 5) (pa_cons (pv 2) (pa_cons (pv 3) (pa_cons (pv 4) pa_nil))))))))))))), ?_⟩
  obtain⟨_,_,kT⟩:=kit7 (K:=K) (zf9 d)
  refine⟨_,rfl,_,_,_,_,rfl,yd.ty,kT,_,rfl, ?_⟩
  rcases yd.isT with⟨a,us,ds,rfl,rfl,ha,al⟩|⟨q,_⟩
  ·refine iteF ⟨_,rfl, !us.isEmpty,.inr (.inl ⟨_,SqT.of ha,rfl⟩), ?_⟩
   have hul:=al.len
   cases us with
   | nil=>
    cases al
    have e:swZ kd N n b (.tuple [])=false:=by
     rw[show swZ kd N n b (.tuple [])=(if n=0 then false else decide (([]:List PyData).length=(paL kd N n).length)&&zbc (zaG kd) (([]:List PyData).getD 0 .none)&&lkZ kd N n b []) from rfl]
     by_cases cn:n=0
     ·rw[if_pos cn]
     ·rw [if_neg cn]
      have:=ziR kd N n
      have hne:¬([]:List PyData).length=(paL kd N n).length:=by simp only[List.length_nil];(first|lia|omega)
      rw[decide_eq_false hne]
      rfl
    rw[e] at k
    exact iteT (k H (Same.refl H))
   | cons v0 us=>
    refine iteF ⟨_,rfl,S,a,AL,_,ds, "all",rfl,rfl,ha,al,hA1 _,_,rfl, ?_⟩
    by_cases cA:zcO "all" (.tuple ds)=true
    ·have kA:=k
     rw[show swZ kd N n b (.tuple ds)= !ltZ b (1,1) from if_pos cA] at kA
     rw[cA]
     refine iteT ⟨_,rfl,by show 2<=sizeLine;decide,fun o ho=> ?_⟩
     refine⟨bz,o,b,(1,1),rfl,zaa ho _ _ hbz,zab,hbs,zeb (by decide),fun G s1=>⟨_,rfl,kA G ((zaa ho).trans s1)⟩⟩
    ·rw [show zcO "all" (.tuple ds)=false by simpa using cA]
     rw[show swZ kd N n b (.tuple ds)=if n=0 then false else decide (ds.length=(paL kd N n).length)&&zbc (zaG kd) (ds.getD 0 .none)&&lkZ kd N n b ds from if_neg cA] at k
     refine iteF ⟨_,rfl,rfl,_,rfl, ?_⟩
     by_cases cn:n=0
     ·subst cn
      rw[decide_eq_true (show V.int ((0:Nat):Int)=V.int 0 from rfl)]
      rw[if_pos rfl] at k
      exact iteT (k H (Same.refl H))
     ·rw [if_neg cn] at k
      rw[decide_eq_false (fun e=>cn (by have:=V.int.inj e;(first|lia|omega)))]
      refine iteF ⟨_,rfl,_,rfl,_,rfl,kd,N,n,rfl,hkd,hN,hn,fun z G s1 hP=> ?_⟩
      obtain⟨ps,hz,pa⟩:=id hP
      have hw0:∃pr,ps=.str (zaG kd)::pr:=by
       have e:∃t,paL kd N n=.str (zaG kd)::t:=by
        have:kd= "rounds" ∨kd= "stays" ∨kd= "rises" ∨kd= "highs" ∨kd= "crossed" ∨kd= "longest" :=by simpa [zai] using hkd
        rcases this with rfl|rfl|rfl|rfl|rfl|rfl<;>exact⟨_,rfl⟩
       obtain⟨t,e⟩:=e
       rw[e] at pa
       cases pa with
       |cons h _=>cases h;exact⟨_,rfl⟩
      obtain⟨pr,rfl⟩:=hw0
      have hpl:=pa.len
      obtain⟨d0,dr,hds,y0⟩:∃d0 dr,ds=d0::dr/\IsY S H v0 d0:=by
       cases al with
       |cons h t=>exact⟨_,_,rfl,h⟩
      refine⟨_,rfl,a,_,0,v0,rfl,rfl,SqT.of (s1 _ _ ha),zad (j:=0) rfl,_,rfl,z,_,0,.str (zaG kd),rfl,rfl,SqT.of hz,zad (j:=0) rfl,S,d0,zaG kd,rfl,y0.same s1,_,rfl, ?_⟩
      by_cases c0:zbc (zaG kd) d0=true
      ·rw [c0]
       refine iteF ⟨_,rfl,a,_,rfl,.inr (SqT.of (s1 _ _ ha)),_,rfl,z,_,rfl,.inr (SqT.of hz),rfl,_,rfl, ?_⟩
       by_cases cl:(v0::us).length=(V.str (zaG kd)::pr).length
       ·rw [cl,decide_eq_true rfl]
        have hd0:d0=.str (zaG kd):=by
         cases d0 with
         |str y=>rw[eq_of_beq (show (y==zaG kd)=true from c0)]
         |_=>cases c0
        have hlen:ds.length=(paL kd N n).length:=by rw[<-hul,cl,hpl]
        have LK:LookX kd N n G z bz a b S (v0::us) ds:=⟨hP,hN,hn,by (first|lia|omega),s1 _ _ hbz,hbs,hbg,s1 _ _ ha,al.same s1,hsz,hlen,fun hg m hm=>by
         have l2:ds.length=2:=by rw[hlen];exact ziS hg
         obtain⟨e0,e1,rfl⟩:∃e0 e1,ds=[e0,e1]:=by
          match ds,l2 with
          |[e0,e1],_=>exact⟨e0,e1,rfl⟩
         have e:e1=.int m:=by simpa using hm
         subst e
         exact hint hg e0 m rfl⟩
        have hw:zbc (zaG kd) (ds.getD 0 .none)=true:=by rw[hds];exact c0
        rw[decide_eq_true hlen,hw,Bool.and_self,Bool.true_and] at k
        have fin:∀H',Same G H'->Q (.bl (lkZ kd N n b ds)) H':=fun H' s'=>k H' (s1.trans s')
        have:kd= "rounds" ∨kd= "stays" ∨kd= "rises" ∨kd= "highs" ∨kd= "crossed" ∨kd= "longest" :=by simpa [zai] using hkd
        rcases this with rfl|rfl|rfl|rfl|rfl|rfl
        ·exact iteF ⟨_,rfl,z,_,0,_,rfl,rfl,SqT.of hz,zad (j:=0) rfl,C,_,_,f2,rfl,rfl,GD,rfl,_,rfl,f2,_,_,rfl,c2,_,rfl,_,rfl,_,rfl,_,rfl,_,N,n,z,bz,a,b,S,_,ds,rfl,by simp,LK,fin⟩
        ·exact iteF ⟨_,rfl,z,_,0,_,rfl,rfl,SqT.of hz,zad (j:=0) rfl,C,_,_,f1,rfl,rfl,GD,rfl,_,rfl,f1,_,_,rfl,c1,_,rfl,_,rfl,_,rfl,_,rfl,_,N,n,z,bz,a,b,S,_,ds,rfl,by simp,LK,fin⟩
        ·exact iteF ⟨_,rfl,z,_,0,_,rfl,rfl,SqT.of hz,zad (j:=0) rfl,C,_,_,f3,rfl,rfl,GD,rfl,_,rfl,f3,_,_,rfl,c3,_,rfl,_,rfl,_,rfl,_,rfl,_,N,n,z,bz,a,b,S,_,ds,rfl,by simp,LK,fin⟩
        ·exact iteF ⟨_,rfl,z,_,0,_,rfl,rfl,SqT.of hz,zad (j:=0) rfl,C,_,_,f2,rfl,rfl,GD,rfl,_,rfl,f2,_,_,rfl,c2,_,rfl,_,rfl,_,rfl,_,rfl,_,N,n,z,bz,a,b,S,_,ds,rfl,by simp,LK,fin⟩
        ·exact iteF ⟨_,rfl,z,_,0,_,rfl,rfl,SqT.of hz,zad (j:=0) rfl,C,_,_,f3,rfl,rfl,GD,rfl,_,rfl,f3,_,_,rfl,c3,_,rfl,_,rfl,_,rfl,_,rfl,_,N,n,z,bz,a,b,S,_,ds,rfl,by simp,LK,fin⟩
        ·exact iteF ⟨_,rfl,z,_,0,_,rfl,rfl,SqT.of hz,zad (j:=0) rfl,C,_,_,f1,rfl,rfl,GD,rfl,_,rfl,f1,_,_,rfl,c1,_,rfl,_,rfl,_,rfl,_,rfl,_,N,n,z,bz,a,b,S,_,ds,rfl,by simp,LK,fin⟩
       ·rw [decide_eq_false (fun e=>cl (by have:=V.int.inj e;(first|lia|omega)))]
        have hlen:¬ds.length=(paL kd N n).length:=fun e=>cl (by rw[hul,hpl,e])
        rw[decide_eq_false hlen,Bool.false_and,Bool.false_and] at k
        exact iteT (k G s1)
      ·rw [show zbc (zaG kd) d0=false by simpa using c0]
       have hw:zbc (zaG kd) (ds.getD 0 .none)=false:=by rw[hds];simpa using c0
       rw[hw,Bool.and_false,Bool.false_and] at k
       exact iteT (k G s1)
  ·rw [beq_eq_false_iff_ne.mpr q]
   have e:swZ kd N n b d=false:=by
    cases d with
    |tuple ds=>exact absurd rfl q
    |_=>rfl
   rw[e] at k
   exact iteT (k H (Same.refl H))
end
end K64
namespace L2
open PySem PySem.Spec PyProof.Rows
theorem zjl {kind:Str}{N k:Nat}:Sz 1000 (.tuple (paL kind N k)):=by
 have g1:(Str.ofString "groups").cps.size<=10:=by decide
 have g2:(Str.ofString "sets").cps.size<=10:=by decide
 have g3:(Str.ofString "spread").cps.size<=10:=by decide
 unfold Sz paL shD
 split
 ·simp only[PyData.bulk,PyData.bulkAll];(first|lia|omega)
 ·split<;>(simp only[PyData.bulk,PyData.bulkAll];(first|lia|omega))
theorem zh1 {kind:Str}{N k:Nat}(hN:(N:Int)<=10^30)(hg:kind= "rounds" ∨kind= "highs"){d0:PyData}{n:Int}(e:PyData.tuple (paL kind N k)=.tuple [d0,.int n]):Sm n 200:=by
 injection e with e
 unfold paL at e
 rw[if_pos hg] at e
 injection e with _ e
 injection e with e _
 injection e with e
 rw[<-e]
 have:=ze2 (N:=(N:Int)) (by (first|lia|omega)) hN
 exact Sm.mono (Sm.of (show (figZ N).natAbs<2^7 by (first|lia|omega))) (by decide)
end L2
namespace K64
open PySem PySem.Spec PyProof.Rows L2
noncomputable abbrev zba:Stmt:=top 64
section
variable {P:Program}{w:World}{K:PySem.W.Frag}{mg:Str->Option Value}{base:Heap}
theorem sc_bound_paper:FnScope ["kind", "many", "number", "paper"] ["kind", "many", "number"] (zac zba):=⟨rfl,rfl,rfl,by decide+kernel,rfl,by decide+kernel,by decide+kernel⟩
theorem zcX {f AL:Addr}{fd:FuncData}(F:Fun K "bound_paper" "bound_paper" zba f fd)(hAL:mg "ALL" =some (.ref AL))(hA1:∀H,SqT K H AL [.str "all"])(Cown_paper:Cal P w K mg base 6 "own_paper" ["kind", "many", "number"] zec)(Cmost_share:Cal P w K mg base 7 "most_share" ["kind", "many", "number"] zd7)(Cshows_bound:Cal P w K mg base 7 "shows_bound" ["kind", "many", "number", "bound", "thing"] za4):FnOk P w K mg base CX0 8 f fd ["kind", "many", "number"] (zdm K):=by
 refine F.ok sc_bound_paper (fun vs H Q E h=> ?_) (fun cdv A outer s H vs Q E hr h=> ?_)
 ·obtain ⟨kd,N,n,rfl,_⟩:=h
  rfl
 ·obtain ⟨kd,N,n,rfl,hkd,hN,hn,k⟩:=h
  refine⟨_,(pss_cons (ps_set (i:=3) sc_bound_paper.nd rfl (Or.inl rfl) (pe_cal Cown_paper (hr.mono (by decide)) rfl (pa_cons (pv 0) (pa_cons (pv 1) (pa_cons (pv 2) pa_nil)))))
   (pss_one (ps_ret (pe_ifExp (pt_val (pe_cal Cshows_bound (hr.mono (by decide)) rfl (pa_cons (pv 0) (pa_cons (pv 1) (pa_cons (pv 2) (pa_cons (pe_cal Cmost_share (hr.mono (by decide)) rfl (pa_cons (pv 0) (pa_cons (pv 1) (pa_cons (pv 2) pa_nil)))) (pa_cons (pv 3) pa_nil))))))) (pv 3) (zbd (v:=.ref AL) rfl hAL rfl))))), ?_⟩
  have n0:(0:Int)<=(N:Int):=by (first|lia|omega)
  refine⟨_,rfl,_,rfl,_,rfl,kd,N,n,rfl,hkd,hN,hn,fun z G s1 hP=> ?_⟩
  refine⟨_,rfl,_,rfl,_,rfl,_,rfl,_,rfl,_,rfl,kd,N,n,rfl,hkd,n0,hN,hn,fun y G2 s2 hy=> ?_⟩
  obtain⟨us,hz,al⟩:=hP.same s2
  obtain⟨m1,m2⟩:=zdn (kind:=kd) hN hn
  refine⟨_,rfl,kd,N,n,y,_,NoS,.ref z,.tuple (paL kd N n),rfl,hkd,hN,hn,hy,m1,m2,.tup hz al,zjl,fun hg d0 m e=>zh1 hN hg e,fun G3 s3=>⟨_,rfl, ?_⟩⟩
  refine ite2 (fun c=> ?_) (fun c=> ?_)
  ·exact⟨_,rfl,k z G3 ((s1.trans s2).trans s3) (.inl ⟨c,us,s3 _ _ hz,al.same s3⟩)⟩
  ·exact k AL G3 ((s1.trans s2).trans s3) (.inr ⟨by simpa using c,hA1 _⟩)
theorem zcH {f AL:Addr}{fd:FuncData}(F:Fun K "shows_bound" "shows_bound" zaA f fd)(T:Top mg)(hAL:mg "ALL" =some (.ref AL))(hA1:∀H,SqT K H AL [.str "all"])
  (Cis_less:Cal P w K mg base 1 "is_less" ["one", "other"] zdj):FnOk P w K mg base CX0 7 f fd ["kind", "many", "number", "bound", "thing"] (zbI K):=by
 refine F.ok sc_shows_bound (fun vs H Q E h=> ?_) (fun cdv A outer s H vs Q E hr h=> ?_)
 ·obtain ⟨kd,N,n,bz,z,b,rfl,_⟩:=h
  rfl
 ·obtain ⟨kd,N,n,bz,z,b,rfl,hbz,hbs,hz,k⟩:=h
  have hu:_:=hr.units
  refine⟨_,(pss_cons (ps_if (PW.pt (pw_or (pt_not (pt_val (pe_callB zal (by rfl) T.n_isinstance boot_isinstance (pa_cons (pv 4) (pa_cons (pe_bltn (v:=.ty "tuple") rfl T.n_tuple boot_tuple rfl) pa_nil))))) (pw_or1 (pt_not (zeR (pv 4) (fun _=>rfl))))))
    zcl
    pss_nil)
   (pss_cons (ps_if (pt_cmpR (ziC hu) (pv 4) (zbd (v:=.ref AL) rfl hAL rfl) (zag _))
    (pss_one (ps_ret (zdH (pe_cal Cis_less (hr.mono (by decide)) rfl (pa_cons (pv 3) (pa_cons (pe_tup (pa_cons pe_int (pa_cons pe_int pa_nil))) pa_nil))))))
    pss_nil)
   zcl)), ?_⟩
  have dAll:∀{H':Hp} {y:Addr},SqT K H' y [.str "all"]->IsK K H' (.ref y) (.tuple [.str "all"]):=fun h=>.tup h (.cons (.str _) .nil)
  refine⟨_,rfl,_,_,_,_,rfl,.inr ⟨z,_,rfl,hz,rfl⟩,(zaf (r:=true) (by decide+kernel)),_,rfl, ?_⟩
  refine iteF ⟨_,rfl,true,.inr (.inl ⟨_,hz,rfl⟩),iteF ?_⟩
  refine⟨_,rfl,_,_,dAll hz,dAll (hA1 _),by decide+kernel,by decide+kernel,_,rfl, ?_⟩
  rw[show PyData.eqv (.tuple [.str "all"]) (.tuple [.str "all"])=true by decide+kernel]
  refine iteT ⟨_,rfl,by show 2<=sizeLine;decide,fun o ho=> ?_⟩
  exact⟨bz,o,b,(1,1),rfl,zaa ho _ _ hbz,zab,hbs,zeb (by decide),fun G s1=>⟨_,rfl,k G ((zaa ho).trans s1)⟩⟩
theorem zcI {f C AL f1 f2 f3:Addr}{fd:FuncData}(F:Fun K "shows_bound" "shows_bound" zaA f fd)(T:Top mg)(hAL:mg "ALL" =some (.ref AL))(hA1:∀H,SqT K H AL [.str "all"])(hC:mg "LOOKS" =some (.ref C))(GD:GDict K w.params C [("sets",f1),("groups",f2),("spread",f3)])
  (c1:CalF P w K mg base 6 f1 ["paper", "number", "bound", "thing"] (zaH ["stays", "longest"])) (c2:CalF P w K mg base 6 f2 ["paper", "number", "bound", "thing"] (zaH ["rounds", "highs"])) (c3:CalF P w K mg base 6 f3 ["paper", "number", "bound", "thing"] (zaH ["rises", "crossed"]))
  (Cis_less:Cal P w K mg base 1 "is_less" ["one", "other"] zdj) (Cown_paper:Cal P w K mg base 6 "own_paper" ["kind", "many", "number"] zec):FnOk P w K mg base CX0 7 f fd ["kind", "many", "number", "bound", "thing"] (spE za4 (zbI K)):=FnOk.both (zbp F T hAL hA1 hC GD c1 c2 c3 Cis_less Cown_paper) (zcH F T hAL hA1 Cis_less)
end
noncomputable abbrev zbj:Stmt:=top 70
noncomputable abbrev zbZ:Stmt:=top 72
noncomputable abbrev zby:Stmt:=top 74
section
variable {P:Program}{w:World}{K:PySem.W.Frag}{mg:Str->Option Value}{base:Heap}
theorem sc__law_great:FnScope ["_law_pot_here", "_law_way", "_law_far", "_law_number_here", "_law_k"] ["_law_pot_here"] (zac zbj):=⟨rfl,rfl,rfl,by decide+kernel,rfl,by decide+kernel,by decide+kernel⟩
set_option maxHeartbeats 8000000 in
theorem zdx {f:Addr}{fd:FuncData}(F:Fun K "_law_great" "_law_great" zbj f fd)(T:Top mg)(C_law_next:Cal P w K mg base 1 "_law_next" ["_law_pot_here", "_law_many"] zaS):FnOk P w K mg base CX0 2 f fd ["_law_pot_here"] zbG:=by
 refine F.ok sc__law_great (fun vs H Q E h=> ?_) (fun cdv A outer s H vs Q E hr h=> ?_)
 ·obtain ⟨p,rfl,_⟩:=h
  rfl
 ·obtain ⟨p,rfl,hp,k⟩:=h
  refine⟨_,(pss_cons (zhK (i:=1) (j:=2) (l:=3) rfl sc__law_great.nd rfl rfl rfl (by decide) (by decide) (by decide) rfl rfl rfl (pa_cons (pe_cal C_law_next (hr.mono (by decide)) rfl (pa_cons (pv 0) (pa_cons pe_int pa_nil))) (pa_cons pe_int (pa_cons pe_int pa_nil))) rfl)
   (pss_cons (ps_for PassesOwn.never rfl (pi_range1 rfl T.n_range (pa_cons (pe_op zar pe_int (pe_cal C_law_next (hr.mono (by decide)) rfl (pa_cons (pv 0) (pa_cons pe_int pa_nil)))) pa_nil)) (zao (i:=4) sc__law_great.nd rfl (Or.inl rfl))
    (pss_one (ps_set (i:=2) sc__law_great.nd rfl (Or.inl rfl) (pe_op zaJ (pv 2) pe_int))))
   (pss_cons (ps_if (pt_cmpR zcL (pv 1) pe_int (zag _))
    (pss_one (ps_ret (pe_op zax (pv 2) (pe_op zax (pv 1) pe_int))))
    pss_nil)
   (pss_cons (ps_for PassesOwn.never rfl (pi_range1 rfl T.n_range (pa_cons pe_int pa_nil)) (zao (i:=4) sc__law_great.nd rfl (Or.inl rfl))
    (pss_one (ps_set (i:=3) sc__law_great.nd rfl (Or.inl rfl) (pe_op zar (pe_op zaJ (pv 3) (pe_op zeQ pe_int pe_int)) (pe_cal C_law_next (hr.mono (by decide)) rfl (pa_cons (pv 0) (pa_cons (pe_op zeQ pe_int pe_int) pa_nil)))))))
   (pss_one (ps_ret (pe_op zbo (pv 3) (pv 2)))))))), ?_⟩
  refine⟨_,rfl,p,4,rfl,by decide,by decide,hp,fun w1 H1 w0 w4 hp1 k1=>⟨_,_,_,rfl, ?_⟩⟩
  refine⟨_,rfl,p,30,rfl,by decide,by decide,hp1,fun d H2 d0 d1 hp2 k2=>⟨_,_,rfl,rfl,_,rfl,by (first|lia|omega),by (first|lia|omega), ?_⟩⟩
  have k02:=k1.trans k2
  refine zaq (fun i σ G=>Pot2 G p/\Keep p p H G/\∃(c:Option V),σ=[some (.ref p),some (.int w1),some (.int (10^i)),some (.int 0),c]) ⟨hp2,k02,none,by rw[Int.pow_zero];rfl⟩ ?_ ?_
  ·rintro i σ G hi ⟨gp,gk,c,rfl⟩
   refine⟨_,rfl,_,_,rfl,rfl,.inr ⟨by decide,by decide⟩,gp,gk,some (.int (0+(i:Int))), ?_⟩
   rw[Int.pow_succ]
   rfl
  ·rintro σ G ⟨gp,gk,c,rfl⟩
   have fb:=p10 (1+d).toNat (by (first|lia|omega))
   generalize (10:Int)^(1+d).toNat=far at*
   refine⟨_,rfl,_,_,rfl,rfl,_,rfl, ?_⟩
   refine ite2 (fun hw=> ?_) (fun _=> ?_)
   ·have hw':=of_decide_eq_true hw
    exact⟨_,rfl,_,rfl,_,_,rfl,rfl,_,_,rfl,rfl,k _ G (by (first|lia|omega)) (by (first|lia|omega)) gp gk⟩
   ·refine ⟨_,rfl,by decide,by decide, ?_⟩
    refine zaq (n:=4) (fun i σ G=>Pot2 G p/\Keep p p H G/\∃(x:Int) (c:Option V),σ=[some (.ref p),some (.int w1),some (.int far),some (.int x),c]) ⟨gp,gk,0,c,rfl⟩ ?_ ?_
    ·rintro i σ G hi ⟨gp,gk,x,c,rfl⟩
     refine⟨_,rfl,_,_,rfl,rfl,⟨by decide,by decide,by decide⟩,_,_,rfl,rfl,.inr ⟨by decide,by decide⟩,_,rfl,_,_,rfl,rfl,⟨by decide,by decide,by decide⟩,p,_,rfl,by decide,by decide,gp,fun d G1 d0 d1 gp1 g1=> ?_⟩
     exact⟨_,_,rfl,rfl,gp1,gk.trans g1,_,_,rfl⟩
    ·rintro σ G ⟨gp,gk,x,c,rfl⟩
     have f0:0<far:=by (first|lia|omega)
     have y1:=Int.emod_lt_of_pos x f0
     exact⟨_,rfl,_,rfl,_,_,rfl,rfl,f0,k _ G (Int.emod_nonneg _ (by (first|lia|omega))) (by (first|lia|omega)) gp gk⟩
theorem sc__law_low:FnScope ["_law_over", "_law_under", "_law_rest", "_law_by"] ["_law_over", "_law_under"] (zac zbZ):=⟨rfl,rfl,rfl,by decide+kernel,rfl,by decide+kernel,by decide+kernel⟩
theorem zeK {f:Addr}{fd:FuncData}(F:Fun K "_law_low" "_law_low" zbZ f fd)(T:Top mg):FnOk P w K mg base CX0 1 f fd ["_law_over", "_law_under"] zbf:=by
 refine F.ok sc__law_low (fun vs H Q E h=> ?_) (fun cdv A outer s H vs Q E hr h=> ?_)
 ·obtain ⟨a,b,rfl,_⟩:=h
  rfl
 ·obtain ⟨a,b,rfl,hb,sb,k⟩:=h
  refine⟨_,(pss_cons (ps_par (i:=2) (j:=3) rfl sc__law_low.nd rfl rfl (by decide) rfl rfl (pa_cons (pe_callB zeS (by rfl) T.n_abs boot_abs (pa_cons (pv 0) pa_nil)) (pa_cons (pv 1) pa_nil)) rfl)
   (pss_cons (zdb PassesOwn.never (pt_cmpR zcL (pv 2) pe_int (zag _))
    (pss_one (ps_par (i:=3) (j:=2) rfl sc__law_low.nd rfl rfl (by decide) rfl rfl (pa_cons (pv 2) (pa_cons (pe_op zbo (pv 3) (pv 2)) pa_nil)) rfl)))
   (pss_one (ps_ret (pe_tup (pa_cons (pe_op zbn (pv 0) (pv 3)) (pa_cons (pe_op zbn (pv 1) (pv 3)) pa_nil))))))), ?_⟩
  refine⟨_,rfl,_,rfl,_,rfl,_,_,rfl, ?_⟩
  refine⟨fun m σ G=>∃x y:Int,m=x.toNat/\σ=[some (.int a),some (.int b),some (.int x),some (.int y)]/\G=H/\0<=x/\0<y/\gcdZ x y=gcdZ a b,⟨_,_,b,rfl,rfl,rfl,by split<;>(first|lia|omega),hb,zgT a b⟩, ?_⟩
  rintro m σ G ⟨x,y,rfl,rfl,rfl,x0,y0,e⟩
  refine⟨_,rfl,_,_,rfl,rfl,_,rfl, ?_⟩
  refine ite2 (fun h=> ?_) (fun h=> ?_)
  ·have hx:=of_decide_eq_true h
   refine⟨fun σ' G'=>∃x' y':Int,x'<x/\σ'=[some (.int a),some (.int b),some (.int x'),some (.int y')]/\G'=G/\0<=x'/\0<y'/\gcdZ x' y'=gcdZ a b, ?_, ?_⟩
   ·rintro σ' G' ⟨x',y',h1,h2,h3,h4,h5⟩
    exact⟨_,by (first|lia|omega),x',y',rfl,h2,h3,h4,h5⟩
   ·refine ⟨_,rfl,_,rfl,_,rfl,_,_,rfl,rfl,hx,_,_,rfl, ?_⟩
    exact⟨_,_,Int.emod_lt_of_pos _ hx,rfl,rfl,Int.emod_nonneg _ (by (first|lia|omega)),hx,by rw[zcr,zd0 hx,zcr];exact e⟩
  ·have hx:x=0:=by
    have:¬0<x:=fun z=>h (decide_eq_true z)
    (first|lia|omega)
   subst hx
   rw[zcr,zd1 (Int.le_of_lt y0)] at e
   subst e
   have gs:Sm (gcdZ a b) 8000:=sb.le (by have:=zf5 (a:=a) hb;(first|lia|omega))
   refine⟨_,rfl,_,rfl,_,_,rfl,rfl,⟨y0,gs⟩,_,rfl,_,rfl,_,_,rfl,rfl,⟨y0,gs⟩,by show 2<=sizeLine;decide,fun z hz=> ?_⟩
   exact k z _ (zaa hz) zab
theorem sc__law_fall:FnScope ["_law_number_here", "_law_found", "_law_k"] ["_law_number_here"] (zac zby):=⟨rfl,rfl,rfl,by decide+kernel,rfl,by decide+kernel,by decide+kernel⟩
theorem zef {f:Addr}{fd:FuncData}(F:Fun K "_law_fall" "_law_fall" zby f fd)(T:Top mg):FnOk P w K mg base CX0 1 f fd ["_law_number_here"] (spFc 300):=by
 refine F.ok sc__law_fall (fun vs H Q E h=> ?_) (fun cdv A outer s H vs Q E hr h=> ?_)
 ·obtain ⟨n,rfl,_⟩:=h
  rfl
 ·obtain ⟨n,rfl,hn,k⟩:=h
  refine⟨_,(pss_cons (ps_set (i:=1) sc__law_fall.nd rfl (Or.inl rfl) pe_int)
   (pss_cons (ps_for PassesOwn.never rfl (zdI rfl T.n_range (pa_cons pe_int (pa_cons (pe_op zar (pv 0) pe_int) pa_nil))) (zao (i:=2) sc__law_fall.nd rfl (Or.inl rfl))
    (pss_one (ps_set (i:=1) sc__law_fall.nd rfl (Or.inl rfl) (pe_op zaJ (pv 1) (pv 2)))))
   (pss_one (ps_ret (pv 1))))), ?_⟩
  refine⟨_,rfl,_,_,rfl,rfl,_,_,rfl,⟨by decide,by decide,by (first|lia|omega),by (first|lia|omega)⟩, ?_⟩
  rw[show ((n:Int)+1-2).toNat=n-1 by (first|lia|omega)]
  refine zaq (fun i σ G=>G=H/\∃c:Option V,σ=[some (.int n),some (.int (fcZ (i+1))),c]) ⟨rfl,none,rfl⟩ ?_ ?_
  ·rintro i σ G hi ⟨rfl,c,rfl⟩
   refine⟨_,rfl,_,rfl,_,_,rfl,rfl,.inr ⟨by (first|lia|omega),by (first|lia|omega)⟩,rfl,some (.int (2+(i:Int))), ?_⟩
   rw[show fcZ (i+1+1)=fcZ (i+1)*(2+(i:Int)) from by
    show fcZ (i+1)*(((i+1:Nat):Int)+1)=_
    rw[show (((i+1:Nat):Int)+1)=2+(i:Int) by (first|lia|omega)]]
   rfl
  ·rintro σ G ⟨rfl,c,rfl⟩
   refine⟨_,rfl, ?_⟩
   have e:fcZ (n-1+1)=fcZ n:=by
    cases n with
    |zero=>rfl
    |succ n=>rfl
   rw[e]
   exact k
end
noncomputable abbrev zaZ:Stmt:=top 75
noncomputable abbrev zbb:Stmt:=top 77
section
variable {P:Program}{w:World}{K:PySem.W.Frag}{mg:Str->Option Value}{base:Heap}
theorem sc__law_figures:FnScope ["_law_many", "_law_found", "_law_far"] ["_law_many"] (zac zaZ):=⟨rfl,rfl,rfl,by decide+kernel,rfl,by decide+kernel,by decide+kernel⟩
theorem zcY:FnScope ["_law_kind", "_law_many"] ["_law_kind", "_law_many"] (zac zbb):=⟨rfl,rfl,rfl,by decide+kernel,rfl,by decide+kernel,by decide+kernel⟩
end
noncomputable abbrev zb0:Stmt:=top 73
section
variable {P:Program}{w:World}{K:PySem.W.Frag}{mg:Str->Option Value}{base:Heap}
theorem zeL:FnScope ["_law_one", "_law_two"] ["_law_one", "_law_two"] (zac zb0):=⟨rfl,rfl,rfl,by decide+kernel,rfl,by decide+kernel,by decide+kernel⟩
end
end K64
namespace L2
open PySem PySem.Spec PyProof.Rows
noncomputable def dnZ (N:Nat):Nat->Int
 |0=>1
 |i+1=>dnZ N i*((N:Int)-(i:Int))
noncomputable def bnN:Nat->Nat->Nat
 |_,0=>1
 |0,_+1=>0
 |N+1,k+1=>bnN N k+bnN N (k+1)
theorem ziT (N:Nat):∀k,dnZ (N+1) (k+1)=((N:Int)+1)*dnZ N k
 |0=>by
  show (1:Int)*(((N+1:Nat):Int)-((0:Nat):Int))=((N:Int)+1)*1
  push_cast
  (first|lia|omega)
 |k+1=>by
  show dnZ (N+1) (k+1)*(((N+1:Nat):Int)-((k+1:Nat):Int))=((N:Int)+1)*(dnZ N k*((N:Int)-(k:Int)))
  rw[ziT N k,Int.mul_assoc]
  congr 2
  push_cast
  (first|lia|omega)
theorem zgs (k:Nat):fcZ (k+1)=fcZ k*((k:Int)+1):=by
 rfl
theorem zgt:∀N k:Nat,(bnN N k:Int)*fcZ k=dnZ N k
 |N,0=>by
  cases N<;>rfl
 | 0,k+1=>by
  have:dnZ 0 (k+1)=0:=by
   induction k with
   |zero=>rfl
   |succ k ih=>
    show dnZ 0 (k+1)*_=0
    rw[ih,Int.zero_mul]
  rw[this]
  show ((0:Nat):Int)*_=0
  exact Int.zero_mul _
 |N+1,k+1=>by
  rw[ziT]
  show ((bnN N k+bnN N (k+1):Nat):Int)*fcZ (k+1)=_
  rw[Int.natCast_add,Int.add_mul,zgt N (k+1),zgs,<-Int.mul_assoc,zgt N k]
  show dnZ N k*((k:Int)+1)+dnZ N k*((N:Int)-(k:Int))=((N:Int)+1)*dnZ N k
  rw[<-Int.mul_add,Int.mul_comm]
  congr 1
  (first|lia|omega)
theorem zh2 (N k:Nat):(bnN N (k+1):Int)*((k:Int)+1)=(bnN N k:Int)*((N:Int)-(k:Int)):=by
 have h1:=zgt N (k+1)
 have h2:=zgt N k
 have f:=zaj k
 have e:dnZ N (k+1)=dnZ N k*((N:Int)-(k:Int)):=rfl
 rw[e,<-h2,zgs] at h1
 refine Int.eq_of_mul_eq_mul_right (Int.ne_of_gt f) ?_
 grind
theorem ziU (N:Nat):∀k,sZ (N:Int) k=(bnN N k:Int)
 |0=>by cases N<;>rfl
 |k+1=>by
  show sZ (N:Int) k*((N:Int)-(k:Int))/((k:Int)+1)=_
  rw[ziU N k,<-zh2,Int.mul_ediv_cancel _ (by (first|lia|omega))]
theorem zh3 (N k:Nat):sZ (N:Int) k*fcZ k=dnZ N k:=by rw[ziU,zgt]
theorem ze5 {N:Nat}:∀{k:Nat},k<=N->0<dnZ N k
 |0,_=>by show (0:Int)<1;decide
 |k+1,h=>Int.mul_pos (ze5 (by (first|lia|omega))) (by (first|lia|omega))
theorem zjm (N k:Nat):dnZ N k/fcZ k=sZ (N:Int) k:=by rw[<-zh3,Int.mul_ediv_cancel _ (Int.ne_of_gt (zaj k))]
theorem sZ_pos_iff {N k:Nat}:0<sZ (N:Int) k↔k<=N:=by
 refine⟨fun h=>zdl h,fun h=> ?_⟩
 have d:=ze5 h
 rw[<-zh3] at d
 exact Int.pos_of_mul_pos_left d (zaj k)
theorem ze6 (a:Int):∀i,prN a (i+1)=a*prN (a+1) i
 |0=>by show (1:Int)*(a+((0:Nat):Int))=a*1;simp
 |i+1=>by
  show prN a (i+1)*(a+((i+1:Nat):Int))=a*(prN (a+1) i*(a+1+(i:Int)))
  rw[ze6 a i,Int.mul_assoc]
  congr 2
  push_cast
  (first|lia|omega)
theorem zgu {N:Nat}:∀{k:Nat},k<=N->prN ((N:Int)-k+1) k=dnZ N k
 |0,_=>rfl
 |k+1,h=>by
  have e:(N:Int)-((k+1:Nat):Int)+1=(N:Int)-(k:Int):=by push_cast;(first|lia|omega)
  rw[e,ze6,zgu (by (first|lia|omega))]
  show _=dnZ N k*((N:Int)-(k:Int))
  exact Int.mul_comm _ _
noncomputable def lpZ (kind:Str)(N k:Nat)(more:Int):List PyData:=
 if kind= "rounds" ∨kind= "highs" then [.str "groups",.int (figZ N+more)]
 else if kind= "rises" ∨kind= "crossed" then [.str "spread",shD (mnZ kind N),shD (sdZ kind N)]
 else if N<k then [.str "sets",.int 0,shD (0,1)]
 else [.str "sets",.int (dnZ N k/fcZ k),shD (1,if kind= "stays" then dnZ N k else fcZ k)]
theorem zdy {kind:Str}(hk:kind∈zai)(h1:¬(kind= "rounds" ∨kind= "highs")):(kind= "rises" ∨kind= "crossed")↔¬(kind= "stays" ∨kind= "longest"):=by
 have:kind= "rounds" ∨kind= "stays" ∨kind= "rises" ∨kind= "highs" ∨kind= "crossed" ∨kind= "longest" :=by simpa [zai] using hk
 rcases this with rfl|rfl|rfl|rfl|rfl|rfl
 ·exact absurd (.inl rfl) h1
 ·exact⟨fun h=>by rcases h with h|h<;>exact absurd h (by decide),fun h=>absurd (.inl rfl) h⟩
 ·exact⟨fun _ h=>by rcases h with h|h<;>exact absurd h (by decide),fun _=>.inl rfl⟩
 ·exact absurd (.inr rfl) h1
 ·exact⟨fun _ h=>by rcases h with h|h<;>exact absurd h (by decide),fun _=>.inr rfl⟩
 ·exact⟨fun h=>by rcases h with h|h<;>exact absurd h (by decide),fun h=>absurd (.inr rfl) h⟩
theorem zh4 {kind:Str}(hk:kind∈zai)(N k:Nat):lpZ kind N k 0=paL kind N k:=by
 unfold lpZ paL
 by_cases h1:kind= "rounds" ∨kind= "highs"
 ·rw[if_pos h1,if_pos h1,Int.add_zero]
 ·rw [if_neg h1,if_neg h1]
  have hi:=zdy hk h1
  by_cases h2:kind= "stays" ∨kind= "longest"
  ·rw [if_neg (fun z=>hi.mp z h2),if_pos h2]
   unfold eaZ
   by_cases h3:N<k
   ·rw [if_pos h3,if_neg (fun z=>by have:=sZ_pos_iff.mp z;(first|lia|omega))]
    rw[(zf6 (N:=(N:Int)) (by (first|lia|omega)) k).2 (by (first|lia|omega))]
   ·rw[if_neg h3,if_pos (sZ_pos_iff.mpr (by (first|lia|omega))),zjm,zgu (by (first|lia|omega))]
  ·rw[if_pos (hi.mpr h2),if_neg h2]
noncomputable def ElD (d:PyData):Prop:=(∃t,d=.str t)∨(∃n,d=.int n)∨∃p:Int×Int,d=shD p/\0<p.2
structure Thg (ds:List PyData):Prop where
 hd:∃t r,ds=.str t::r
 el:∀d∈ds,ElD d
 two:∀d0 d1,ds=[d0,d1]->∃n,d1=.int n
open Classical in
noncomputable def lsZ (kind:Str)(N k:Nat)(ds:List PyData):Option (Int×Int):=
 if ds.getD 0 .none=.str "all" then (if ds=[.str "all"] then some (1,1) else none)
 else if ds.getD 0 .none≠(paL kind N k).getD 0 .none∨ds.length≠(paL kind N k).length∨k<1 then none
 else if kind= "rounds" ∨kind= "highs" then (if figZ N<=asI (ds.getD 1 .none) then some (lowZ (asI (ds.getD 1 .none)^k) (fcZ k)) else none)
 else if ds≠paL kind N k then none
 else if kind= "stays" ∨kind= "longest" then some (lowZ (sZ N k*(eaZ kind N k).1) (eaZ kind N k).2)
 else if 0<farZ kind N k then some (lowZ (ovZ kind N) (unZ kind N k)) else none
noncomputable def dueZ (b:Int×Int):Option (Int×Int)->Bool
 |none=>false
 |some l=>decide (b.1*l.2≥l.1*b.2)
theorem zb1 {b:Int×Int}{a c:Int}(hb:0<b.2)(hc:0<c):dueZ b (some (lowZ a c))=decide (a*b.2<=b.1*c):=by
 rw[<-zbT hb hc]
 show decide (b.1*(lowZ a c).2≥(lowZ a c).1*b.2)= !decide (b.1*(lowZ a c).2<(lowZ a c).1*b.2)
 by_cases h:b.1*(lowZ a c).2<(lowZ a c).1*b.2
 ·rw[decide_eq_true h,decide_eq_false (by (first|lia|omega))];rfl
 ·rw[decide_eq_false h,decide_eq_true (by (first|lia|omega))];rfl
theorem zcJ (kind:Str)(hk:kind∈zai)(N k:Nat):(paL kind N k).getD 0 .none=.str (zaG kind):=by
 have:kind= "rounds" ∨kind= "stays" ∨kind= "rises" ∨kind= "highs" ∨kind= "crossed" ∨kind= "longest" :=by simpa [zai] using hk
 rcases this with rfl|rfl|rfl|rfl|rfl|rfl<;>rfl
theorem isSt_eq {t:Str}{d:PyData}:zbc t d=true↔d=.str t:=by
 cases d with
 |str y=>
  show (y==t)=true↔_
  rw[beq_iff_eq]
  exact⟨fun h=>(by rw[h]),fun h=>(by injection h)⟩
 |_=>exact⟨fun h=>(by cases h),fun h=>(by cases h)⟩
theorem isTx_one {ds:List PyData}:zcO "all" (.tuple ds)=true↔ds=[.str "all"]:=by
 match ds with
 |[]=>exact⟨fun h=>absurd h (by decide),fun h=>(by cases h)⟩
 | [d]=>
  cases d with
  |str y=>
   show (y==(Str.ofString "all"))=true↔_
   rw[beq_iff_eq]
   exact⟨fun h=>(by rw[h]),fun h=>(by injection h with h;injection h)⟩
  |_=>exact⟨fun h=>(by cases h),fun h=>(by injection h with h;cases h)⟩
 |_::_::_=>exact⟨fun h=>(by cases h),fun h=>(by injection h with _ h;cases h)⟩
theorem ju_int {n:Int}{d:PyData}:juD [n] (.tuple [d])=true↔d=.int n:=by
 refine⟨fun h=> ?_,fun h=>by subst h;simp[juD,whD,asI]⟩
 have:=zho h
 injection this with this
 injection this
theorem ju_sh {p:Int×Int}{d:PyData}:juD [p.1,p.2] d=true↔d=shD p:=by
 refine⟨fun h=>zho h,fun h=>by subst h;simp[shD,juD,whD,asI]⟩
theorem zg6 {ds:List PyData}(h:ds.length=2):ds=[ds.getD 0 .none,ds.getD 1 .none]:=by
 match ds,h with
 |[a,b],_=>rfl
theorem ziV {ds:List PyData}(h:ds.length=3):ds=[ds.getD 0 .none,ds.getD 1 .none,ds.getD 2 .none]:=by
 match ds,h with
 |[a,b,c],_=>rfl
theorem ze7 {kind:Str}(hk:kind∈zai){N k:Nat}(hN:(N:Int)<=10^30)(hk60:k<=60){b:Int×Int}(hb:0<b.2){ds:List PyData}(hT:Thg ds):swZ kind N k b (.tuple ds)=dueZ b (lsZ kind N k ds):=by
 have n0:(0:Int)<=(N:Int):=by (first|lia|omega)
 unfold lsZ
 by_cases cA:ds=[.str "all"]
 ·have e1:zcO "all" (.tuple ds)=true:=isTx_one.mpr cA
  rw[show swZ kind N k b (.tuple ds)= !ltZ b (1,1) from if_pos e1]
  rw[cA]
  rw[if_pos rfl,if_pos (show ([PyData.str "all"]).getD 0 .none=.str "all" from rfl)]
  show (!decide (b.1*1<1*b.2))=decide (b.1*1≥1*b.2)
  by_cases h:b.1*1<1*b.2
  ·rw[decide_eq_true h,decide_eq_false (by (first|lia|omega))];rfl
  ·rw[decide_eq_false h,decide_eq_true (by (first|lia|omega))];rfl
 have e1:¬zcO "all" (.tuple ds)=true:=fun h=>cA (isTx_one.mp h)
 rw[show swZ kind N k b (.tuple ds)=if k=0 then false else decide (ds.length=(paL kind N k).length)&&zbc (zaG kind) (ds.getD 0 .none)&&lkZ kind N k b ds from if_neg e1]
 by_cases c0:ds.getD 0 .none=.str "all"
 ·rw [if_pos c0,if_neg cA]
  have hw:zbc (zaG kind) (ds.getD 0 .none)=false:=by
   rw[c0]
   have:kind= "rounds" ∨kind= "stays" ∨kind= "rises" ∨kind= "highs" ∨kind= "crossed" ∨kind= "longest" :=by simpa [zai] using hk
   rcases this with rfl|rfl|rfl|rfl|rfl|rfl<;>decide
  rw[hw,Bool.and_false,Bool.false_and]
  split<;>rfl
 rw[if_neg c0]
 by_cases ck:k=0
 ·rw [if_pos ck,if_pos (.inr (.inr (by (first|lia|omega))))]
  rfl
 rw[if_neg ck]
 by_cases cw:ds.getD 0 .none=(paL kind N k).getD 0 .none
 ·by_cases cl:ds.length=(paL kind N k).length
  ·rw [if_neg (by rintro (h|h|h);exact h cw;exact h cl;(first|lia|omega))]
   rw[decide_eq_true cl,isSt_eq.mpr (cw.trans (zcJ kind hk N k)),Bool.and_self,Bool.true_and]
   unfold lkZ
   by_cases h1:kind= "rounds" ∨kind= "highs"
   ·rw [if_pos h1,if_pos h1]
    have l2:ds.length=2:=by rw[cl];unfold paL;rw[if_pos h1];rfl
    obtain⟨n,hn⟩:=hT.two _ _ (zg6 l2)
    rw[hn,show whD (.int n)=true from rfl,show asI (.int n)=n from rfl,Bool.true_and]
    by_cases h2:figZ N<=n
    ·rw[decide_eq_true h2,Bool.true_and,if_pos h2,zb1 hb (zaj k)]
    ·rw[decide_eq_false h2,Bool.false_and,if_neg h2];rfl
   ·rw [if_neg h1,if_neg h1]
    have hi:=zdy hk h1
    by_cases h2:kind= "stays" ∨kind= "longest"
    ·rw [if_pos h2]
     have e3:paL kind N k=[.str "sets",.int (sZ N k),shD (eaZ kind N k)]:=by
      unfold paL
      rw[if_neg h1,if_pos h2]
     have l3:ds.length=3:=by rw[cl,e3];rfl
     by_cases c3:ds=paL kind N k
     ·rw [if_neg (fun z=>z c3),if_pos h2]
      have d1:ds.getD 1 .none=.int (sZ N k):=by rw[c3,e3];rfl
      have d2:ds.getD 2 .none=shD (eaZ kind N k):=by rw[c3,e3];rfl
      rw[d1,d2,ju_int.mpr rfl,ju_sh.mpr rfl,Bool.and_self,Bool.true_and,zb1 hb (zc8 hN hk60).pos]
     ·rw [if_pos c3]
      show _=false
      by_cases j1:juD [sZ N k] (.tuple [ds.getD 1 .none])=true
      ·by_cases j2:juD [(eaZ kind N k).1,(eaZ kind N k).2] (ds.getD 2 .none)=true
       ·refine absurd ?_ c3
        rw[ziV l3,cw,ju_int.mp j1,ju_sh.mp j2,e3]
        rfl
       ·rw[show juD [(eaZ kind N k).1,(eaZ kind N k).2] (ds.getD 2 .none)=false by simpa using j2,Bool.and_false,Bool.false_and]
      ·rw[show juD [sZ N k] (.tuple [ds.getD 1 .none])=false by simpa using j1,Bool.false_and,Bool.false_and]
    ·rw [if_neg h2]
     have e3:paL kind N k=[.str "spread",shD (mnZ kind N),shD (sdZ kind N)]:=by
      unfold paL
      rw[if_neg h1,if_neg h2]
     have l3:ds.length=3:=by rw[cl,e3];rfl
     by_cases c3:ds=paL kind N k
     ·rw [if_neg (fun z=>z c3),if_neg h2]
      have d1:ds.getD 1 .none=shD (mnZ kind N):=by rw[c3,e3];rfl
      have d2:ds.getD 2 .none=shD (sdZ kind N):=by rw[c3,e3];rfl
      rw[d1,d2,ju_sh.mpr rfl,ju_sh.mpr rfl,Bool.and_self,Bool.true_and]
      by_cases hf:0<farZ kind N k
      ·rw[if_pos hf,decide_eq_true hf,Bool.true_and,zb1 hb (zbF n0 hN hf)]
      ·rw[if_neg hf,decide_eq_false hf,Bool.false_and];rfl
     ·rw [if_pos c3]
      show _=false
      by_cases j1:juD [(mnZ kind N).1,(mnZ kind N).2] (ds.getD 1 .none)=true
      ·by_cases j2:juD [(sdZ kind N).1,(sdZ kind N).2] (ds.getD 2 .none)=true
       ·refine absurd ?_ c3
        rw[ziV l3,cw,ju_sh.mp j1,ju_sh.mp j2,e3]
        rfl
       ·rw[show juD [(sdZ kind N).1,(sdZ kind N).2] (ds.getD 2 .none)=false by simpa using j2,Bool.and_false,Bool.false_and,Bool.false_and]
      ·rw[show juD [(mnZ kind N).1,(mnZ kind N).2] (ds.getD 1 .none)=false by simpa using j1,Bool.false_and,Bool.false_and,Bool.false_and]
  ·rw [if_pos (.inr (.inl cl)),decide_eq_false cl,Bool.false_and,Bool.false_and]
   rfl
 ·rw [if_pos (.inl cw)]
  have hw:zbc (zaG kind) (ds.getD 0 .none)=false:=by
   cases c:zbc (zaG kind) (ds.getD 0 .none) with
   |false=>rfl
   |true=>exact absurd ((isSt_eq.mp c).trans (zcJ kind hk N k).symm) cw
  rw[hw,Bool.and_false,Bool.false_and]
  rfl
theorem zgv {a c:Int}(hc:0<c):(c<a/\capZ a c=(1,1))∨(a<=c/\a*(capZ a c).2<=(capZ a c).1*c/\0<(capZ a c).2):=by
 unfold capZ
 by_cases h:c<a
 ·rw [if_pos h]
  exact .inl ⟨h,rfl⟩
 ·rw [if_neg h]
  exact .inr ⟨by (first|lia|omega),Int.le_of_eq (zcs hc).symm,zbe hc⟩
theorem ziW {kind:Str}(hk:kind∈zai){N k:Nat}(hN:(N:Int)<=10^30)(hk60:k<=60):Thg (paL kind N k):=by
 have n0:(0:Int)<=(N:Int):=by (first|lia|omega)
 have m:=(zdh (kind:=kind) n0 hN).pos
 have d:=(zdi (kind:=kind) n0 hN).pos
 have e:=(zc8 (kind:=kind) hN hk60).pos
 unfold paL
 split
 ·refine ⟨⟨_,_,rfl⟩,fun x hx=> ?_,fun d0 d1 h=> ?_⟩
  ·simp only[List.mem_cons,List.not_mem_nil,or_false] at hx
   rcases hx with rfl|rfl
   ·exact .inl ⟨_,rfl⟩
   ·exact .inr (.inl ⟨_,rfl⟩)
  ·injection h with _ h
   injection h with h _
   exact⟨_,h.symm⟩
 ·split
  ·refine ⟨⟨_,_,rfl⟩,fun x hx=> ?_,fun d0 d1 h=> ?_⟩
   ·simp only[List.mem_cons,List.not_mem_nil,or_false] at hx
    rcases hx with rfl|rfl|rfl
    ·exact .inl ⟨_,rfl⟩
    ·exact .inr (.inl ⟨_,rfl⟩)
    ·exact .inr (.inr ⟨_,rfl,e⟩)
   ·injection h with _ h
    injection h with _ h
    cases h
  ·refine ⟨⟨_,_,rfl⟩,fun x hx=> ?_,fun d0 d1 h=> ?_⟩
   ·simp only[List.mem_cons,List.not_mem_nil,or_false] at hx
    rcases hx with rfl|rfl|rfl
    ·exact .inl ⟨_,rfl⟩
    ·exact .inr (.inr ⟨_,rfl,m⟩)
    ·exact .inr (.inr ⟨_,rfl,d⟩)
   ·injection h with _ h
    injection h with _ h
    cases h
theorem zgw {kind:Str}(hk:kind∈zai){N k:Nat}(hN:(N:Int)<=10^30)(hk60:k<=60):swZ kind N k (zaT kind N k) (.tuple (paL kind N k))=true∨zaT kind N k=(1,1):=by
 have n0:(0:Int)<=(N:Int):=by (first|lia|omega)
 by_cases ck:k=0
 ·exact .inr (by unfold zaT;rw[if_pos ck])
 have hp:=(zdn (kind:=kind) hN hk60).1.pos
 rw[ze7 hk hN hk60 hp (ziW hk hN hk60)]
 unfold lsZ
 have hw:=zcJ kind hk N k
 rw[hw,if_neg (by
  have:kind= "rounds" ∨kind= "stays" ∨kind= "rises" ∨kind= "highs" ∨kind= "crossed" ∨kind= "longest" :=by simpa [zai] using hk
  rcases this with rfl|rfl|rfl|rfl|rfl|rfl<;>(intro z;injection z with z;exact absurd z (by decide)))]
 rw[if_neg (by rintro (h|h|h);exact h rfl;exact h rfl;(first|lia|omega))]
 by_cases h1:kind= "rounds" ∨kind= "highs"
 ·rw [if_pos h1]
  have e:asI ((paL kind N k).getD 1 .none)=figZ N:=by unfold paL;rw[if_pos h1];rfl
  rw[e,if_pos (Int.le_refl _),zb1 hp (zaj k)]
  have em:zaT kind N k=capZ (figZ N^k) (fcZ k):=by
   unfold zaT
   rw[if_neg ck,if_neg (by rcases h1 with rfl|rfl<;>decide),if_neg (by rcases h1 with rfl|rfl<;>decide),if_pos h1]
  rw[em]
  rcases zgv (a:=figZ N^k) (zaj k) with⟨_,h⟩|⟨_,h,_⟩
  ·exact .inr h
  ·exact .inl (decide_eq_true h)
 ·rw [if_neg h1,if_neg (fun z=>z rfl)]
  have hi:=zdy hk h1
  by_cases h2:kind= "stays" ∨kind= "longest"
  ·rw [if_pos h2,zb1 hp (zc8 hN hk60).pos]
   by_cases h3:kind= "stays"
   ·have em:zaT kind N k=bSt N k:=by
     unfold zaT
     rw[if_neg ck,if_pos h3]
    rw[em]
    refine .inl (decide_eq_true ?_)
    unfold bSt eaZ
    by_cases h4:k<=N
    ·rw [if_pos (show (k:Int)<=(N:Int) by (first|lia|omega)),if_pos (sZ_pos_iff.mpr h4),if_pos h3,zgu h4,<-zh3]
     show sZ N k*1*fcZ k<=1*(sZ N k*fcZ k)
     rw[Int.mul_one,Int.one_mul]
     exact Int.le_refl _
    ·rw [if_neg (show ¬(k:Int)<=(N:Int) by (first|lia|omega)),if_neg (fun z=>h4 (sZ_pos_iff.mp z))]
     show sZ N k*0*1<=0*1
     rw[Int.mul_zero]
     decide
   ·have h4:kind= "longest" :=by rcases h2 with h|h;exact absurd h h3;exact h
    have em:zaT kind N k=capZ (sZ N k) (fcZ k):=by
     unfold zaT
     rw[if_neg ck,if_neg h3,if_pos h4]
    rw[em]
    rcases zgv (a:=sZ N k) (zaj k) with⟨_,h⟩|⟨_,h,_⟩
    ·exact .inr h
    ·refine .inl (decide_eq_true ?_)
     unfold eaZ
     by_cases h5:0<sZ (N:Int) k
     ·rw [if_pos h5,if_neg h3]
      show sZ N k*1*_<=_
      rw[Int.mul_one]
      exact h
     ·rw [if_neg h5]
      have e0:sZ (N:Int) k=0:=by have:=(zf6 (N:=(N:Int)) n0 k).1;(first|lia|omega)
      rw[e0]
      show (0:Int)*0*_<=(capZ 0 (fcZ k)).1*1
      rw[Int.zero_mul,Int.zero_mul,Int.mul_one]
      unfold capZ
      rw[if_neg (by have:=zaj k;(first|lia|omega))]
      show (0:Int)<=0/_
      rw[Int.zero_ediv]
      exact Int.le_refl _
  ·rw [if_neg h2]
   have h3:=hi.mpr h2
   have em:zaT kind N k=if farZ kind N k<=0 then (1,1) else capZ (ovZ kind N) (unZ kind N k):=by
    unfold zaT
    rw[if_neg ck,if_neg (by rcases h3 with rfl|rfl<;>decide),if_neg (by rcases h3 with rfl|rfl<;>decide),if_neg h1]
   by_cases hf:0<farZ kind N k
   ·rw [if_pos hf,zb1 hp (zbF n0 hN hf),em,if_neg (by (first|lia|omega))]
    rcases zgv (a:=ovZ kind N) (zbF n0 hN hf) with⟨_,h⟩|⟨_,h,_⟩
    ·exact .inr h
    ·exact .inl (decide_eq_true h)
   ·exact .inr (by rw[em,if_pos (by (first|lia|omega))])
noncomputable def bigN:Int:=3*10^30
theorem zgx {N:Int}(h0:0<=N)(h1:N<=bigN):Sm N 102:=Sm.of (by
 have:bigN<2^102:=by decide+kernel
 (first|lia|omega))
theorem zeg {N:Int}{i:Nat}(h0:0<=N)(h1:N<=bigN)(hi:i<=70):Sm (N-(i:Int)) 102:=Sm.of (by
 have:bigN+70<2^102:=by decide+kernel
 have:(70:Int)<2^102:=by decide+kernel
 (first|lia|omega))
theorem zhp {N:Int}(h0:0<=N)(h1:N<=bigN):Sm (2*N+5) 110:=Sm.of (by
 have:2*bigN+5<2^110:=by decide+kernel
 (first|lia|omega))
theorem zhq {N:Int}(h0:0<=N)(h1:N<=bigN):Sm (N+1) 110:=Sm.of (by
 have:bigN+1<2^110:=by decide+kernel
 (first|lia|omega))
theorem zh5 {m:Int}{f:Nat}(h:m<=bigN)(k:(2:Int)^f<=m):f<102:=by
 refine Nat.lt_of_not_le fun z=> ?_
 have h1:(2:Nat)^102<=2^f:=Nat.pow_le_pow_right (by decide) z
 have c:((2^f:Nat):Int)=(2:Int)^f:=by simp
 have h2:bigN<((2^102:Nat):Int):=by decide+kernel
 have h3:((2^102:Nat):Int)<=((2^f:Nat):Int):=by exact_mod_cast h1
 (first|lia|omega)
theorem zg7 {N:Nat}(hN:(N:Int)<=bigN):∀i:Nat,i<=64->Sm (dnZ N i) (102*i+1)
 |0,_=>Sm.of (show (1:Int).natAbs<2^1 by decide)
 |i+1,h=>((zg7 hN i (by (first|lia|omega))).mul (zeg (i:=i) (by (first|lia|omega)) hN (by (first|lia|omega)))).mono (by (first|lia|omega))
theorem zhr {kind:Str}{N:Int}(h0:0<=N)(h1:N<=bigN):ShB (mnZ kind N) 700:=by
 have a1:=zgx h0 h1
 have a2:=zeg (i:=1) h0 h1 (by decide)
 unfold mnZ
 split
 ·refine ShB.low (by decide) ?_ (Sm.of (by decide+kernel))
  unfold mxZ
  split
  ·exact a2.mono (by decide)
  ·exact Sm.of (by decide+kernel)
 ·exact ShB.low (by decide) ((a1.mul a2).mono (by decide)) (Sm.of (by decide+kernel))
theorem zhs {kind:Str}{N:Int}(h0:0<=N)(h1:N<=bigN):ShB (sdZ kind N) 700:=by
 have a1:=zgx h0 h1
 have a2:=zeg (i:=1) h0 h1 (by decide)
 unfold sdZ
 split
 ·exact ShB.low (by decide) (((zf7 _).mul (zhq h0 h1)).mono (by decide)) (Sm.of (by decide+kernel))
 ·exact ShB.low (by decide) (((a1.mul a2).mul (zhp h0 h1)).mono (by decide)) (Sm.of (by decide+kernel))
noncomputable def zgy:Sp:=fun vs H Q _=>∃(N:Int),vs=[.int N]/\0<=N/\N<=bigN/\∀H',Same H H'->Q (.int (figZ N)) H'
noncomputable def zgz:Sp:=fun vs H Q _=>∃(kind:Str) (N:Int),vs=[.str kind,.int N]/\(kind= "rises" ∨kind= "crossed")/\0<=N/\N<=bigN/\∀z x y H',Same H H'->H' z=some (.tup [.ref x,.ref y])->Shr H' x (mnZ kind N)->Shr H' y (sdZ kind N)->Q (.ref z) H'
noncomputable def zgA:Sp:=fun vs H Q _=>∃N k:Nat,vs=[.int N,.int k]/\(N:Int)<=bigN/\k<=62/\Q (.int (dnZ N k)) H
noncomputable def spLp:Sp:=fun vs H Q _=>∃(kind:Str) (N k:Nat) (more:Int),vs=[.str kind,.int N,.int k,.int more]/\kind∈zai/\(N:Int)<=bigN/\k<=62/\0<=more/\more<=1000000/\∀z us H',Same H H'->H' z=some (.tup us)->IsAllY NoS H' us (lpZ kind N k more)->Q (.ref z) H'
theorem zdz (k a b:Str):inV (.str k) [.str a,.str b]=decide (k=a∨k=b):=by
 show ((a==k)||((b==k)||false))=_
 rw[Bool.or_false]
 by_cases h1:k=a
 ·subst h1
  rw[beq_self_eq_true,Bool.true_or,decide_eq_true (.inl rfl)]
 ·rw [beq_eq_false_iff_ne.mpr (Ne.symm h1),Bool.false_or]
  by_cases h2:k=b
  ·subst h2
   rw[beq_self_eq_true,decide_eq_true (.inr rfl)]
  ·rw[beq_eq_false_iff_ne.mpr (Ne.symm h2),decide_eq_false (by rintro (h|h);exact h1 h;exact h2 h)]
theorem zeM (k a:Str):decide (V.str k=V.str a)=decide (k=a):=decide_eq_decide.mpr ⟨fun e=>by injection e,fun e=>by rw[e]⟩
end L2
namespace K64
open PySem PySem.Spec PyProof.Rows L2
noncomputable abbrev zbz:Stmt:=top 76
noncomputable abbrev zbk:Stmt:=top 78
section
variable {P:Program}{w:World}{K:PySem.W.Frag}{mg:Str->Option Value}{base:Heap}
set_option maxHeartbeats 8000000 in
theorem zcf {f:Addr}{fd:FuncData}(F:Fun K "_law_figures" "_law_figures" zaZ f fd):FnOk P w K mg base CX0 1 f fd ["_law_many"] zgy:=by
 refine F.ok sc__law_figures (fun vs H Q E h=> ?_) (fun cdv A outer s H vs Q E hr h=> ?_)
 ·obtain ⟨N,rfl,_⟩:=h
  rfl
 ·obtain ⟨N,rfl,h0,h1,k⟩:=h
  refine⟨_,(pss_cons (ps_asg (pe_tup (pa_cons pe_int (pa_cons pe_int pa_nil))) (zf1 (i:=1) (j:=2) rfl sc__law_figures.nd rfl rfl (Or.inl rfl) (Or.inl rfl) (Or.inl rfl) (Or.inl rfl)))
   (pss_cons (zdb PassesOwn.never (pt_cmpR zir (pv 2) (pv 0) (zag _))
    (pss_one (ps_par (i:=1) (j:=2) rfl sc__law_figures.nd rfl rfl (by decide) rfl rfl (pa_cons (pe_op zar (pv 1) pe_int) (pa_cons (pe_op zaJ pe_int (pv 2)) pa_nil)) rfl)))
   (pss_one (ps_ret (pv 1))))), ?_⟩
  refine⟨by show 2<=sizeLine;decide,fun t0 ht0=>⟨t0,_,rfl,SqT.of zab,rfl,_,_,rfl,_,_,rfl,rfl, ?_⟩⟩
  have s0:=zaa (o:=.tup [.int 0,.int 1]) ht0
  refine⟨fun q σ' G'=>∃f:Nat,q=103-f/\f<=102/\σ'=[some (.int N),some (.int f),some (.int (2^f))]/\Same H G'/\(f=0∨(2:Int)^(f-1)<=N),⟨_,0,rfl,by decide,by rw[Int.pow_zero];rfl,s0,.inl rfl⟩, ?_⟩
  rintro q σ' G' ⟨f,rfl,hf,rfl,sm,hfm⟩
  refine⟨_,rfl,_,rfl,_,_,rfl,rfl,_,rfl, ?_⟩
  refine ite2 (fun h=> ?_) (fun h=> ?_)
  ·have h':(2:Int)^f<=N:=of_decide_eq_true h
   have h9:=zh5 h1 h'
   refine⟨fun σ2 G2=>∃f2:Nat,f2=f+1/\σ2=[some (.int N),some (.int f2),some (.int (2^f2))]/\Same H G2/\(f2=0∨(2:Int)^(f2-1)<=N), ?_, ?_⟩
   ·rintro σ2 G2 ⟨f2,rfl,h2,h3,h4⟩
    exact⟨_,by (first|lia|omega),f+1,rfl,by (first|lia|omega),h2,h3,h4⟩
   ·refine ⟨_,rfl,_,_,rfl,rfl,_,rfl,_,_,rfl,rfl,.inl ⟨by decide,by decide⟩,_,_,rfl,f+1,rfl, ?_,sm,.inr h'⟩
    rw[Int.pow_succ,Int.mul_comm]
    rfl
  ·have h':N<2^f:=by
    have:¬(2:Int)^f<=N:=fun z=>h (decide_eq_true z)
    (first|lia|omega)
   have ef:figZ N=(f:Int):=by
    unfold figZ
    rw[zhO h0 h' hfm]
   refine⟨_,rfl, ?_⟩
   rw[<-ef]
   exact k _ sm
set_option maxHeartbeats 8000000 in
theorem zcK {f:Addr}{fd:FuncData}(F:Fun K "_law_middle" "_law_middle" zbb f fd)(T:Top mg)(C_law_low:Cal P w K mg base 1 "_law_low" ["_law_over", "_law_under"] zbf):FnOk P w K mg base CX0 2 f fd ["_law_kind", "_law_many"] zgz:=by
 refine F.ok zcY (fun vs H Q E h=> ?_) (fun cdv A outer s H vs Q E hr h=> ?_)
 ·obtain ⟨kd,N,rfl,_⟩:=h
  rfl
 ·obtain ⟨kd,N,rfl,hk,h0,h1,k⟩:=h
  refine⟨_,(pss_cons (ps_if (pt_cmpR za1 (pv 0) pe_str (zag _))
    (pss_one (ps_ret (pe_tup (pa_cons (pe_cal C_law_low (hr.mono (by decide)) rfl (pa_cons (pe_callB (zaK rfl) (by rfl) T.n_max boot_max (pa_cons pe_int (pa_cons (pe_op zax (pv 1) pe_int) pa_nil))) (pa_cons pe_int pa_nil))) (pa_cons (pe_cal C_law_low (hr.mono (by decide)) rfl (pa_cons (pe_op zah (zco zcn (by rfl) T.n_int boot_int (pa_cons (pe_cmpR zcL (pv 1) pe_int (zag _)) pa_nil)) (pe_op zar (pv 1) pe_int)) (pa_cons pe_int pa_nil))) pa_nil)))))
    pss_nil)
   (pss_one (ps_ret (pe_tup (pa_cons (pe_cal C_law_low (hr.mono (by decide)) rfl (pa_cons (pe_op zah (pv 1) (pe_op zax (pv 1) pe_int)) (pa_cons pe_int pa_nil))) (pa_cons (pe_cal C_law_low (hr.mono (by decide)) rfl (pa_cons (pe_op zah (pe_op zah (pv 1) (pe_op zax (pv 1) pe_int)) (pe_op zar (pe_op zah pe_int (pv 1)) pe_int)) (pa_cons pe_int pa_nil))) pa_nil)))))), ?_⟩
  have a1:=zgx h0 h1
  have a2:=zeg (i:=1) h0 h1 (by decide)
  have s12:Sm 12 8000:=Sm.of (by decide+kernel)
  have s2:Sm 2 8000:=Sm.of (by decide+kernel)
  have s4:Sm 4 8000:=Sm.of (by decide+kernel)
  have s72:Sm 72 8000:=Sm.of (by decide+kernel)
  refine⟨_,rfl,rfl,_,rfl, ?_⟩
  rcases hk with rfl|rfl
  ·refine iteT ?_
   refine⟨_,rfl,_,_,rfl,rfl,_,_,rfl,_,2,rfl,by decide,s2,fun x H1 g1 hx=> ?_⟩
   refine⟨_,rfl,_,_,rfl,rfl,.inr ⟨_,rfl,_,rfl,_,_,rfl,rfl,_,_,rfl,rfl,⟨(zf7 _).mono (by decide),(zhq h0 h1).mono (by decide)⟩,_,12,rfl,by decide,s12,fun y H2 g2 hy=> ?_⟩⟩
   refine⟨by show 2<=sizeLine;decide,fun z hz=> ?_⟩
   exact k z x y _ ((g1.trans g2).trans (zaa hz)) zab ((g2.trans (zaa hz)) _ _ hx) ((zaa hz) _ _ hy)
  ·refine iteF ?_
   refine⟨_,rfl,_,rfl,_,_,rfl,rfl,_,_,rfl,rfl,⟨a1.mono (by decide),a2.mono (by decide)⟩,_,4,rfl,by decide,s4,fun x H1 g1 hx=> ?_⟩
   refine⟨_,rfl,_,rfl,_,_,rfl,rfl,_,_,rfl,rfl,⟨a1.mono (by decide),a2.mono (by decide)⟩,_,rfl,_,_,rfl,rfl,⟨s2,a1.mono (by decide)⟩,_,_,rfl,rfl,_,_,rfl,rfl,⟨(a1.mul a2).mono (by decide),(zhp h0 h1).mono (by decide)⟩,_,72,rfl,by decide,s72,fun y H2 g2 hy=> ?_⟩
   refine⟨by show 2<=sizeLine;decide,fun z hz=> ?_⟩
   exact k z x y _ ((g1.trans g2).trans (zaa hz)) zab ((g2.trans (zaa hz)) _ _ hx) ((zaa hz) _ _ hy)
theorem sc__law_down:FnScope ["_law_many", "_law_number_here", "_law_found", "_law_k"] ["_law_many", "_law_number_here"] (zac zbz):=⟨rfl,rfl,rfl,by decide+kernel,rfl,by decide+kernel,by decide+kernel⟩
theorem zeh {f:Addr}{fd:FuncData}(F:Fun K "_law_down" "_law_down" zbz f fd)(T:Top mg):FnOk P w K mg base CX0 1 f fd ["_law_many", "_law_number_here"] zgA:=by
 refine F.ok sc__law_down (fun vs H Q E h=> ?_) (fun cdv A outer s H vs Q E hr h=> ?_)
 ·obtain ⟨N,n,rfl,_⟩:=h
  rfl
 ·obtain ⟨N,n,rfl,hN,hn,k⟩:=h
  refine⟨_,(pss_cons (ps_set (i:=2) sc__law_down.nd rfl (Or.inl rfl) pe_int)
   (pss_cons (ps_for PassesOwn.never rfl (pi_range1 rfl T.n_range (pa_cons (pv 1) pa_nil)) (zao (i:=3) sc__law_down.nd rfl (Or.inl rfl))
    (pss_one (ps_set (i:=2) sc__law_down.nd rfl (Or.inl rfl) (pe_op zah (pv 2) (pe_op zax (pv 0) (pv 3))))))
   (pss_one (ps_ret (pv 2))))), ?_⟩
  refine⟨_,rfl,_,rfl,by (first|lia|omega),by (first|lia|omega), ?_⟩
  rw[Int.toNat_natCast]
  refine zaq (n:=n) (fun i σ G=>G=H/\∃c:Option V,σ=[some (.int N),some (.int n),some (.int (dnZ N i)),c]) ⟨rfl,none,rfl⟩ ?_ ?_
  ·rintro i σ G hi ⟨rfl,c,rfl⟩
   rw[show (0:Int)+(i:Int)=(i:Int) from Int.zero_add _]
   exact⟨_,rfl,_,rfl,_,rfl,_,_,rfl,rfl,_,_,rfl,rfl,⟨(zg7 hN i (by (first|lia|omega))).mono (by (first|lia|omega)),(zeg (i:=i) (by (first|lia|omega)) hN (by (first|lia|omega))).mono (by decide)⟩,rfl,_,rfl⟩
  ·rintro σ G ⟨rfl,c,rfl⟩
   exact⟨_,rfl,k⟩
theorem sc__law_paper:FnScope ["_law_kind", "_law_many", "_law_number_here", "_law_more", "_law_each"] ["_law_kind", "_law_many", "_law_number_here", "_law_more"] (zac zbk):=⟨rfl,rfl,rfl,by decide+kernel,rfl,by decide+kernel,by decide+kernel⟩
set_option maxHeartbeats 4000000 in
theorem zdA {f:Addr}{fd:FuncData}(F:Fun K "_law_paper" "_law_paper" zbk f fd)(C_law_figures:Cal P w K mg base 1 "_law_figures" ["_law_many"] zgy)(C_law_middle:Cal P w K mg base 2 "_law_middle" ["_law_kind", "_law_many"] zgz)(C_law_down:Cal P w K mg base 1 "_law_down" ["_law_many", "_law_number_here"] zgA)(C_law_fall:Cal P w K mg base 1 "_law_fall" ["_law_number_here"] (spFc 300)):FnOk P w K mg base CX0 3 f fd ["_law_kind", "_law_many", "_law_number_here", "_law_more"] spLp:=by
 refine F.ok sc__law_paper (fun vs H Q E h=> ?_) (fun cdv A outer s H vs Q E hr h=> ?_)
 ·obtain ⟨kd,N,n,mo,rfl,_⟩:=h
  rfl
 ·obtain ⟨kd,N,n,mo,rfl,hk,hN,hn,m0,m1,k⟩:=h
  refine⟨_,(pss_cons (ps_if (pt_cmpR zbA (pv 0) (pe_tup (pa_cons pe_str (pa_cons pe_str pa_nil))) (by rfl))
    (pss_one (ps_ret (pe_tup (pa_cons pe_str (pa_cons (pe_op zar (pe_cal C_law_figures (hr.mono (by decide)) rfl (pa_cons (pv 1) pa_nil)) (pv 3)) pa_nil)))))
    pss_nil)
   (pss_cons (ps_if (pt_cmpR zbA (pv 0) (pe_tup (pa_cons pe_str (pa_cons pe_str pa_nil))) (by rfl))
    (pss_one (ps_ret (pe_op zcq (pe_tup (pa_cons pe_str pa_nil)) (pe_cal C_law_middle (hr.mono (by decide)) rfl (pa_cons (pv 0) (pa_cons (pv 1) pa_nil))))))
    pss_nil)
   (pss_cons (ps_if (pt_cmpR zcL (pv 2) (pv 1) (zag _))
    (pss_one (ps_ret (pe_tup (pa_cons pe_str (pa_cons pe_int (pa_cons (pe_tup (pa_cons pe_int (pa_cons pe_int pa_nil))) pa_nil))))))
    pss_nil)
   (pss_cons (ps_set (i:=4) sc__law_paper.nd rfl (Or.inl rfl) (pe_ifExp (pt_cmpR za1 (pv 0) pe_str (zag _)) (pe_tup (pa_cons pe_int (pa_cons (pe_cal C_law_down (hr.mono (by decide)) rfl (pa_cons (pv 1) (pa_cons (pv 2) pa_nil))) pa_nil))) (pe_tup (pa_cons pe_int (pa_cons (pe_cal C_law_fall (hr.mono (by decide)) rfl (pa_cons (pv 2) pa_nil)) pa_nil)))))
   (pss_one (ps_ret (pe_tup (pa_cons pe_str (pa_cons (pe_op zbn (pe_cal C_law_down (hr.mono (by decide)) rfl (pa_cons (pv 1) (pa_cons (pv 2) pa_nil))) (pe_cal C_law_fall (hr.mono (by decide)) rfl (pa_cons (pv 2) pa_nil))) (pa_cons (pv 4) pa_nil)))))))))), ?_⟩
  have n0:(0:Int)<=(N:Int):=by (first|lia|omega)
  refine⟨_,rfl,by show 2<=sizeLine;decide,fun t1 ht1=>⟨t1,_,rfl,.inr (SqT.of zab),rfl,rfl,_,rfl, ?_⟩⟩
  have s1:=zaa (o:=.tup [.str "rounds",.str "highs"]) ht1
  generalize upd H t1 (.tup [.str "rounds",.str "highs"])=G1 at*
  show (if inV (.str kd) [.str "rounds",.str "highs"]=true then _ else _)
  rw[zdz]
  by_cases c1:kd= "rounds" ∨kd= "highs"
  ·rw [decide_eq_true c1]
   have e3:lpZ kd N n mo=[.str "groups",.int (figZ N+mo)]:=by unfold lpZ;rw[if_pos c1]
   refine iteT ⟨_,rfl,N,rfl,n0,hN,fun G2 s2=>⟨_,rfl,_,_,rfl,rfl,by show 2<=sizeLine;decide,fun z hz=> ?_⟩⟩
   exact k z _ _ ((s1.trans s2).trans (zaa hz)) zab (by rw[e3];exact .cons (.str _) (.cons (.int _) .nil))
  rw[decide_eq_false c1]
  refine iteF ⟨_,rfl,by show 2<=sizeLine;decide,fun t2 ht2=>⟨t2,_,rfl,.inr (SqT.of zab),rfl,rfl,_,rfl, ?_⟩⟩
  have s2:=s1.trans (zaa (o:=.tup [.str "rises",.str "crossed"]) ht2)
  generalize upd G1 t2 (.tup [.str "rises",.str "crossed"])=G2 at*
  show (if inV (.str kd) [.str "rises",.str "crossed"]=true then _ else _)
  rw[zdz]
  by_cases c2:kd= "rises" ∨kd= "crossed"
  ·rw [decide_eq_true c2]
   have e3:lpZ kd N n mo=[.str "spread",shD (mnZ kd N),shD (sdZ kd N)]:=by unfold lpZ;rw[if_neg c1,if_pos c2]
   refine iteT ⟨by show 1<=sizeLine;decide,fun t3 ht3=> ?_⟩
   have s3:=zaa (o:=.tup [.str "spread"]) ht3
   refine⟨_,rfl,_,rfl,kd,N,rfl,c2,n0,hN,fun z x y G4 s4 hz hx hy=> ?_⟩
   refine⟨t3,z,_,_,rfl,rfl,s4 _ _ zab,hz,by show 3<=sizeLine;decide,fun p G5 s5 hp=> ?_⟩
   exact k p _ G5 (((s2.trans s3).trans s4).trans s5) hp (by rw[e3];exact .cons (.str _) (.cons (Shr.isY (s5 _ _ hx)) (.cons (Shr.isY (s5 _ _ hy)) .nil)))
  rw[decide_eq_false c2]
  refine iteF ⟨_,rfl,_,rfl,_,_,rfl,rfl,_,rfl, ?_⟩
  by_cases c3:N<n
  ·rw [decide_eq_true (show (N:Int)<(n:Int) by (first|lia|omega))]
   have e3:lpZ kd N n mo=[.str "sets",.int 0,shD (0,1)]:=by unfold lpZ;rw[if_neg c1,if_neg c2,if_pos c3]
   refine iteT ⟨by show 2<=sizeLine;decide,fun t3 ht3=>⟨by show 3<=sizeLine;decide,fun z hz=> ?_⟩⟩
   have s3:=zaa (o:=.tup [.int 0,.int 1]) ht3
   exact k z _ _ ((s2.trans s3).trans (zaa hz)) zab (by rw[e3];exact .cons (.str _) (.cons (.int _) (.cons (Shr.isY (p:=(0,1)) ((zaa hz) _ _ zab)) .nil)))
  rw[decide_eq_false (show ¬(N:Int)<(n:Int) by (first|lia|omega))]
  have e3:lpZ kd N n mo=[.str "sets",.int (dnZ N n/fcZ n),shD (1,if kd= "stays" then dnZ N n else fcZ n)]:=by unfold lpZ;rw[if_neg c1,if_neg c2,if_neg c3]
  have f0:=zaj n
  have fs:Sm (fcZ n) 8000:=(zau (by (first|lia|omega))).mono (by decide)
  have fin:∀(y:Addr) (G:Hp),Same H G->Shr G y (1,if kd= "stays" then dnZ N n else fcZ n)->∀z,G z=none->Q (.ref z) (upd G z (.tup [.str "sets",.int (dnZ N n/fcZ n),.ref y])):=fun y G sG hy z hz=>k z _ _ (sG.trans (zaa hz)) zab (by rw[e3];exact .cons (.str _) (.cons (.int _) (.cons (Shr.isY ((zaa hz) _ _ hy)) .nil)))
  refine iteF ⟨_,rfl,rfl,_,rfl, ?_⟩
  rw[zeM]
  by_cases c4:kd= "stays"
  ·rw [decide_eq_true c4]
   rw[if_pos c4] at fin
   refine iteT ⟨_,rfl,_,rfl,N,n,rfl,hN,hn,by show 2<=sizeLine;decide,fun y hy=> ?_⟩
   have sy:=zaa (o:=.tup [.int 1,.int (dnZ N n)]) hy
   exact⟨_,rfl,_,rfl,N,n,rfl,hN,hn,_,rfl,n,rfl,by (first|lia|omega),_,_,rfl,rfl,⟨f0,fs⟩,_,rfl,by show 3<=sizeLine;decide,fun z hz=>fin y _ (s2.trans sy) zab z hz⟩
  ·rw [decide_eq_false c4]
   rw[if_neg c4] at fin
   refine iteF ⟨_,rfl,n,rfl,by (first|lia|omega),by show 2<=sizeLine;decide,fun y hy=> ?_⟩
   have sy:=zaa (o:=.tup [.int 1,.int (fcZ n)]) hy
   exact⟨_,rfl,_,rfl,N,n,rfl,hN,hn,_,rfl,n,rfl,by (first|lia|omega),_,_,rfl,rfl,⟨f0,fs⟩,_,rfl,by show 3<=sizeLine;decide,fun z hz=>fin y _ (s2.trans sy) zab z hz⟩
end
end K64
namespace L2
open PySem PySem.Spec PyProof.Rows
theorem zg8 {K:PySem.W.Frag}{a b:Addr}{xs ys:List V}{te:TE}{ix:List Nat}{σ:L2.St}{H1:Hp}{Q:VK}(Fx:∀{H},Same H1 H->SqT K H a xs)(Fy:∀{H},Same H1 H->SqT K H b ys)(small:(xs.zip ys).length<=1000)(R:Nat->V->Hp->Prop)(hR:∀i v H H',SameT H H'->R i v H->R i v H')
  (he:∀(i:Nat) (x y:V),xs[i]? =some x->ys[i]? =some y->∀H,Same H1 H->∀Q':VK,(∀w H',Same H H'->R i w H'->Q' w H')->te (some x::some y::ix.map fun i=>σ.getD i none) H Q')
  (fin:∀acc vs H',H1 acc=none->Same H1 H'->H' acc=some (.lst vs)->vs.length=(xs.zip ys).length->(∀i v,vs[i]? =some v->R i v H')->Q (.ref acc) H'):
  LcW (Itz K a b) H1 (gTup K 2 (zep (zbr 0) (zep (zbr 1) gNil))) zbt te 2 ix σ Q:=by
 intro acc ha
 refine⟨fun i m H=>m=(xs.zip ys).length-i/\i<=(xs.zip ys).length/\Same H1 H/\∃vs,H acc=some (.lst vs)/\vs.length=i/\∀j v,vs[j]? =some v->R j v H,⟨(xs.zip ys).length,by simp,Nat.zero_le _,zaa ha,[],zab,rfl,fun _ _ h=>by simp at h⟩, ?_⟩
 rintro i m H ⟨rfl,hi,sm,vs,hacc,hl,hv0⟩
 by_cases hlt:i<(xs.zip ys).length
 ·have hl2:i<xs.length/\i<ys.length:=by rw[List.length_zip] at hlt;(first|lia|omega)
  refine .inr ⟨⟨xs,ys,xs[i],ys[i],Fx sm,Fy sm,List.getElem?_eq_getElem hl2.1,List.getElem?_eq_getElem hl2.2⟩,fun v H' y=> ?_⟩
  obtain⟨t,x,y,hn,rfl,rfl,hv⟩:=y
  obtain⟨e1,e2⟩:=hv xs ys (Fx sm) (Fy sm)
  refine⟨t,_,rfl,SqT.of zab,rfl,x,_,rfl,y,_,rfl,rfl,⟨rfl,fun j v e=> ?_⟩, ?_⟩
  ·match j,e with
   |0,e=>cases e
   |1,e=>cases e
   |j+2,e=>exact e
  ·have st:=zaa (o:=.tup [x,y]) hn
   have sm2:=sm.trans st
   have hacc2:=st _ _ hacc
   unfold zbt
   dsimp only
   rw[if_pos rfl]
   refine he i x y e1 e2 _ sm2 _ fun w H4 s4 r4=> ?_
   have h4:=s4 _ _ hacc2
   refine⟨vs,h4,zf0 (by (first|lia|omega)),(xs.zip ys).length-(i+1),by (first|lia|omega),rfl,hlt,zfT (sm2.trans s4) ha,vs++[w],zab,by simp;(first|lia|omega),fun j v hj=> ?_⟩
   have st2:SameT H4 (upd H4 acc (.lst (vs++[w]))):=zfU h4
   by_cases hj':j<vs.length
   ·rw [List.getElem?_append_left hj'] at hj
    exact hR _ _ _ _ ((st.trans s4).t.trans st2) (hv0 j v hj)
   ·rw [List.getElem?_append_right (by (first|lia|omega))] at hj
    have:j-vs.length=0:=by
     rcases Nat.eq_zero_or_pos (j-vs.length) with h|h
     ·exact h
     ·rw[List.getElem?_eq_none (by show 1<=_;(first|lia|omega))] at hj;cases hj
    rw[this] at hj
    cases hj
    rw[show j=i by (first|lia|omega)]
    exact hR _ _ _ _ st2 r4
 ·have e:i=(xs.zip ys).length:=by (first|lia|omega)
  subst e
  refine .inl ⟨⟨xs,ys,Fx sm,Fy sm, ?_⟩,fin acc vs H ha sm hacc hl hv0⟩
  rw[List.length_zip]
  rcases Nat.le_total xs.length ys.length with h|h
  ·exact .inl (List.getElem?_eq_none (by (first|lia|omega)))
  ·exact .inr (List.getElem?_eq_none (by (first|lia|omega)))
noncomputable def SmY (H:Hp):Nat->V->PyData->Prop
 |0,y,e=>(∃t,y=.str t/\e=.str t)∨∃m:Int,y=.int m/\e=.int m
 |n+1,y,e=>((∃t,y=.str t/\e=.str t)∨∃m:Int,y=.int m/\e=.int m)∨∃b us es,y=.ref b/\e=.tuple es/\H b=some (.tup us)/\us.length<=100/\us.length=es.length/\∀(i:Nat) u d,us[i]? =some u->es[i]? =some d->SmY H n u d
theorem SmY.same {H H':Hp}(s:Same H H'):∀{n:Nat} {y:V} {e:PyData},SmY H n y e->SmY H' n y e
 |0,_,_,h=>h
 |n+1,_,_,.inl h=>.inl h
 |n+1,_,_,.inr ⟨b,us,es,e1,e2,h1,h2,h3,h4⟩=>.inr ⟨b,us,es,e1,e2,s _ _ h1,h2,h3,fun i u d hu hd=>SmY.same s (h4 i u d hu hd)⟩
noncomputable def zei (n:Nat):Sp:=fun vs H Q _=>∃(x y:V) (d e:PyData),vs=[x,y]/\SmY H n x d/\SmY H n y e/\∀H',Same H H'->Q (.bl (PyData.eqv d e)) H'
theorem zej (s t:Str):decide (V.str s=V.str t)=PyData.eqv (.str s) (.str t):=by
 show _=(s==t)
 by_cases h:s=t
 ·subst h
  rw[beq_self_eq_true,decide_eq_true rfl]
 ·rw[beq_eq_false_iff_ne.mpr h,decide_eq_false (fun z=>h (by injection z))]
theorem zek (s t:Int):decide (V.int s=V.int t)=PyData.eqv (.int s) (.int t):=by
 show _=(s==t)
 by_cases h:s=t
 ·subst h
  rw[beq_self_eq_true,decide_eq_true rfl]
 ·rw[beq_eq_false_iff_ne.mpr h,decide_eq_false (fun z=>h (by injection z))]
noncomputable def allE:List PyData->List PyData->List Bool
 |d::ds,e::es=>PyData.eqv d e::allE ds es
 |_,_=>[]
theorem ze8:∀{ds es:List PyData},ds.length=es.length->(allE ds es).all id=PyData.eqv (.tuple ds) (.tuple es)
 |[],[],_=>by simp[allE,PyData.eqv,PyData.eqvAll]
 |d::ds,e::es,h=>by
  have ih:=ze8 (ds:=ds) (es:=es) (by simpa using h)
  show (PyData.eqv d e&&(allE ds es).all id)=PyData.eqvAll (d::ds) (e::es)
  rw[ih]
  simp only[PyData.eqvAll,PyData.eqv]
 |[],_::_,h=>by cases h
 |_::_,[],h=>by cases h
theorem ze9:∀{ds es:List PyData},ds.length=es.length->(allE ds es).length=ds.length
 |[],[],_=>rfl
 |d::ds,e::es,h=>by
  have:=ze9 (ds:=ds) (es:=es) (by simpa using h)
  simp[allE,this]
 |[],_::_,h=>by cases h
 |_::_,[],h=>by cases h
theorem zfa:∀{ds es:List PyData} (i:Nat),ds.length=es.length->i<ds.length->(allE ds es)[i]? =some (PyData.eqv (ds.getD i .none) (es.getD i .none))
 |d::ds,e::es,0,_,_=>rfl
 |d::ds,e::es,i+1,h,hi=>by
  have:=zfa (ds:=ds) (es:=es) i (by simpa using h) (by simpa using hi)
  simpa [allE] using this
 |[],_,_,_,hi=>by cases hi
 |_::_,[],_,h,_=>by cases h
theorem zh6 {vs:List V}{ds es:List PyData}(hl:vs.length=ds.length)(h:ds.length=es.length)(hR:∀(i:Nat) v,vs[i]? =some v->v=.bl (PyData.eqv (ds.getD i .none) (es.getD i .none))):vs=(allE ds es).map V.bl:=by
 apply List.ext_getElem?
 intro i
 rw[List.getElem?_map]
 by_cases hi:i<ds.length
 ·rw [zfa i h hi,List.getElem?_eq_getElem (by (first|lia|omega))]
  rw[hR i _ (List.getElem?_eq_getElem (by (first|lia|omega)))]
  rfl
 ·rw [List.getElem?_eq_none (by (first|lia|omega)),List.getElem?_eq_none (by rw[ze9 h];(first|lia|omega))]
  rfl
theorem zc9:∀{ds es:List PyData},ds.length≠es.length->PyData.eqvAll ds es=false
 |[],[],h=>absurd rfl h
 |[],_::_,_=>by simp[PyData.eqvAll]
 |_::_,[],_=>by simp[PyData.eqvAll]
 |d::ds,e::es,h=>by
  have:=zc9 (ds:=ds) (es:=es) (by simpa using h)
  simp[PyData.eqvAll,this]
theorem ziX (t:Str)(m:Int):PyData.eqv (.str t) (.int m)=false:=by simp[PyData.eqv]
theorem ziY (t:Str)(m:Int):PyData.eqv (.int m) (.str t)=false:=by simp[PyData.eqv]
theorem zjn (t:Str)(ds:List PyData):PyData.eqv (.str t) (.tuple ds)=false:=by simp[PyData.eqv]
theorem zjo (t:Str)(ds:List PyData):PyData.eqv (.tuple ds) (.str t)=false:=by simp[PyData.eqv]
theorem zjp (t:Int)(ds:List PyData):PyData.eqv (.int t) (.tuple ds)=false:=by simp[PyData.eqv]
theorem zjq (t:Int)(ds:List PyData):PyData.eqv (.tuple ds) (.int t)=false:=by simp[PyData.eqv]
end L2
namespace K64
open PySem PySem.Spec PyProof.Rows L2
noncomputable abbrev zaQ:Stmt:=top 71
section
variable {P:Program}{w:World}{K:PySem.W.Frag}{mg:Str->Option Value}{base:Heap}
theorem zb5:FnScope ["_law_one", "_law_two"] ["_law_one", "_law_two"] (zac zaQ):=⟨rfl,rfl,rfl,by decide+kernel,rfl,by decide+kernel,by decide+kernel⟩
set_option maxHeartbeats 8000000 in
theorem zbM {f:Addr}{fd:FuncData}(F:Fun K "_law_same" "_law_same" zaQ f fd)(T:Top mg)(TX:TopX mg)(hm:mg "_law_same" =some (.ref f))(hb:Binds K fd ["_law_one", "_law_two"] []):
  ∀n,FnOk P w K mg base CX0 (n+1) f fd ["_law_one", "_law_two"] (zei n)
 | 0 =>by
  refine F.ok zb5 (fun vs H Q E h=> ?_) (fun cdv A outer s H vs Q E hr h=> ?_)
  ·obtain ⟨x,y,d,e,rfl,_⟩:=h
   rfl
  ·obtain ⟨x,y,d,e,rfl,sx,sy,k⟩:=h
   refine⟨_,(pss_cons (ps_if (PW.pt (zc2 (pt_val (pe_callB zal (by rfl) T.n_isinstance boot_isinstance (pa_cons (pv 0) (pa_cons (pe_bltn (v:=.ty "tuple") rfl T.n_tuple boot_tuple rfl) pa_nil)))) (zbO (pt_val (pe_callB zal (by rfl) T.n_isinstance boot_isinstance (pa_cons (pv 1) (pa_cons (pe_bltn (v:=.ty "tuple") rfl T.n_tuple boot_tuple rfl) pa_nil)))))))
    zcl
    pss_nil)
   (pss_cons (ps_if (PW.pt (zc2 (pt_val (pe_callB zal (by rfl) T.n_isinstance boot_isinstance (pa_cons (pv 0) (pa_cons (pe_bltn (v:=.ty "str") rfl TX.n_str boot_str rfl) pa_nil)))) (zbO (pt_val (pe_callB zal (by rfl) T.n_isinstance boot_isinstance (pa_cons (pv 1) (pa_cons (pe_bltn (v:=.ty "str") rfl TX.n_str boot_str rfl) pa_nil)))))))
    (pss_one (ps_ret (pe_cmpR za1 (pv 0) (pv 1) (zag _))))
    pss_nil)
   (pss_cons (ps_if (PW.pt (zc2 (pt_val (pe_callB zal (by rfl) T.n_isinstance boot_isinstance (pa_cons (pv 0) (pa_cons (pe_bltn (v:=.ty "int") rfl T.n_int boot_int rfl) pa_nil)))) (zbO (pt_val (pe_callB zal (by rfl) T.n_isinstance boot_isinstance (pa_cons (pv 1) (pa_cons (pe_bltn (v:=.ty "int") rfl T.n_int boot_int rfl) pa_nil)))))))
    (pss_one (ps_ret (pe_and (pe_cmpR za1 (pe_callB zal (by rfl) T.n_isinstance boot_isinstance (pa_cons (pv 0) (pa_cons (pe_bltn (v:=.ty "bool") rfl T.n_bool boot_bool rfl) pa_nil))) (pe_callB zal (by rfl) T.n_isinstance boot_isinstance (pa_cons (pv 1) (pa_cons (pe_bltn (v:=.ty "bool") rfl T.n_bool boot_bool rfl) pa_nil))) (zag _)) (pe_one (pe_cmpR za1 (pv 0) (pv 1) (zag _))))))
    pss_nil)
   (pss_one (ps_ret (pe_and (pe_cmpR zdK (pv 0) pe_non (zag _)) (pe_one (pe_cmpR zdK (pv 1) pe_non (zag _))))))))), ?_⟩
   rcases sx with⟨t',rfl,rfl⟩|⟨m,rfl,rfl⟩
   ·rcases sy with⟨t2,rfl,rfl⟩|⟨m2,rfl,rfl⟩
    ·refine ⟨_,rfl,_,_,_,_,rfl,.inl (.str _),(zaf (r:=false) (by decide+kernel)),_,rfl, ?_⟩
     refine iteF (iteF ?_)
     refine⟨_,rfl,_,_,_,_,rfl,.inl (.str _),(zaf (r:=true) (by decide+kernel)),_,rfl, ?_⟩
     refine iteT ⟨_,rfl,_,_,_,_,rfl,.inl (.str _),(zaf (r:=true) (by decide+kernel)),_,rfl, ?_⟩
     refine iteT ?_
     refine⟨_,rfl,_,rfl,rfl, ?_⟩
     rw[zej]
     exact k H (Same.refl H)
    ·rw [ziX] at k
     refine⟨_,rfl,_,_,_,_,rfl,.inl (.str _),(zaf (r:=false) (by decide+kernel)),_,rfl, ?_⟩
     refine iteF (iteF ?_)
     refine⟨_,rfl,_,_,_,_,rfl,.inl (.str _),(zaf (r:=true) (by decide+kernel)),_,rfl, ?_⟩
     refine iteT ⟨_,rfl,_,_,_,_,rfl,.inl (.int _),(zaf (r:=false) (by decide+kernel)),_,rfl, ?_⟩
     refine iteF ?_
     refine⟨_,rfl,_,_,_,_,rfl,.inl (.str _),(zaf (r:=false) (by decide+kernel)),_,rfl, ?_⟩
     refine iteF (iteF ?_)
     refine⟨_,rfl,rfl,_,rfl, ?_⟩
     rw[decide_eq_false (fun z=>by cases z)]
     exact iteF (k H (Same.refl H))
   ·rcases sy with⟨t2,rfl,rfl⟩|⟨m2,rfl,rfl⟩
    ·rw [ziY] at k
     refine⟨_,rfl,_,_,_,_,rfl,.inl (.int _),(zaf (r:=false) (by decide+kernel)),_,rfl, ?_⟩
     refine iteF (iteF ?_)
     refine⟨_,rfl,_,_,_,_,rfl,.inl (.int _),(zaf (r:=false) (by decide+kernel)),_,rfl, ?_⟩
     refine iteF (iteF ?_)
     refine⟨_,rfl,_,_,_,_,rfl,.inl (.int _),(zaf (r:=true) (by decide+kernel)),_,rfl, ?_⟩
     refine iteT ⟨_,rfl,_,_,_,_,rfl,.inl (.str _),(zaf (r:=false) (by decide+kernel)),_,rfl, ?_⟩
     refine iteF ?_
     refine⟨_,rfl,rfl,_,rfl, ?_⟩
     rw[decide_eq_false (fun z=>by cases z)]
     exact iteF (k H (Same.refl H))
    ·refine ⟨_,rfl,_,_,_,_,rfl,.inl (.int _),(zaf (r:=false) (by decide+kernel)),_,rfl, ?_⟩
     refine iteF (iteF ?_)
     refine⟨_,rfl,_,_,_,_,rfl,.inl (.int _),(zaf (r:=false) (by decide+kernel)),_,rfl, ?_⟩
     refine iteF (iteF ?_)
     refine⟨_,rfl,_,_,_,_,rfl,.inl (.int _),(zaf (r:=true) (by decide+kernel)),_,rfl, ?_⟩
     refine iteT ⟨_,rfl,_,_,_,_,rfl,.inl (.int _),(zaf (r:=true) (by decide+kernel)),_,rfl, ?_⟩
     refine iteT ?_
     refine⟨_,rfl,_,_,_,_,rfl,.inl (.int _),(zaf (r:=false) (by decide+kernel)), ?_⟩
     refine⟨_,rfl,_,_,_,_,rfl,.inl (.int _),(zaf (r:=false) (by decide+kernel)),rfl, ?_⟩
     refine⟨_,rfl,iteT ⟨_,rfl,_,rfl,rfl, ?_⟩⟩
     rw[zek]
     exact k H (Same.refl H)
 | n +1=>by
  have ih:Cal P w K mg base (n+1) "_law_same" ["_law_one", "_law_two"] (zei n):=⟨f,fd,zbM F T TX hm hb n,hm,F.kp,hb⟩
  refine F.ok zb5 (fun vs H Q E h=> ?_) (fun cdv A outer s H vs Q E hr h=> ?_)
  ·obtain ⟨x,y,d,e,rfl,_⟩:=h
   rfl
  ·obtain ⟨x,y,d,e,rfl,sx,sy,k⟩:=h
   refine⟨_,(pss_cons (ps_if (PW.pt (zc2 (pt_val (pe_callB zal (by rfl) T.n_isinstance boot_isinstance (pa_cons (pv 0) (pa_cons (pe_bltn (v:=.ty "tuple") rfl T.n_tuple boot_tuple rfl) pa_nil)))) (zbO (pt_val (pe_callB zal (by rfl) T.n_isinstance boot_isinstance (pa_cons (pv 1) (pa_cons (pe_bltn (v:=.ty "tuple") rfl T.n_tuple boot_tuple rfl) pa_nil)))))))
    (pss_one (ps_ret (pe_and (pe_cmpR za1 (pe_callB zan (by rfl) T.n_len PySem.boot_len (pa_cons (pv 0) pa_nil)) (pe_callB zan (by rfl) T.n_len PySem.boot_len (pa_cons (pv 1) pa_nil)) (zag _)) (pe_one (pe_callB (zeW rfl) (by rfl) T.n_all boot_all (pa_cons (pe_lc (N':=["_law_a", "_law_b"]) (n:=2) (ix:=[]) rfl (CompScope.of (sc:=zac zaQ) (N:=["_law_one", "_law_two"]) (by decide+kernel) rfl rfl) (zhG rfl T.n_zip (pa_cons (pv 0) (pa_cons (pv 1) pa_nil))) (fun _ _ _ _ _=>⟨(zgR K (i:=0) (j:=1) rfl rfl (show (["_law_a", "_law_b"]:List Str).Nodup by decide+kernel) rfl rfl (Or.inl rfl) (Or.inl rfl) (Or.inr rfl) (Or.inr rfl)),zet,(pe_cal ih hr rfl (pa_cons (pv 0) (pa_cons (pv 1) pa_nil)))⟩)) pa_nil))))))
    pss_nil)
   (pss_cons (ps_if (PW.pt (zc2 (pt_val (pe_callB zal (by rfl) T.n_isinstance boot_isinstance (pa_cons (pv 0) (pa_cons (pe_bltn (v:=.ty "str") rfl TX.n_str boot_str rfl) pa_nil)))) (zbO (pt_val (pe_callB zal (by rfl) T.n_isinstance boot_isinstance (pa_cons (pv 1) (pa_cons (pe_bltn (v:=.ty "str") rfl TX.n_str boot_str rfl) pa_nil)))))))
    (pss_one (ps_ret (pe_cmpR za1 (pv 0) (pv 1) (zag _))))
    pss_nil)
   (pss_cons (ps_if (PW.pt (zc2 (pt_val (pe_callB zal (by rfl) T.n_isinstance boot_isinstance (pa_cons (pv 0) (pa_cons (pe_bltn (v:=.ty "int") rfl T.n_int boot_int rfl) pa_nil)))) (zbO (pt_val (pe_callB zal (by rfl) T.n_isinstance boot_isinstance (pa_cons (pv 1) (pa_cons (pe_bltn (v:=.ty "int") rfl T.n_int boot_int rfl) pa_nil)))))))
    (pss_one (ps_ret (pe_and (pe_cmpR za1 (pe_callB zal (by rfl) T.n_isinstance boot_isinstance (pa_cons (pv 0) (pa_cons (pe_bltn (v:=.ty "bool") rfl T.n_bool boot_bool rfl) pa_nil))) (pe_callB zal (by rfl) T.n_isinstance boot_isinstance (pa_cons (pv 1) (pa_cons (pe_bltn (v:=.ty "bool") rfl T.n_bool boot_bool rfl) pa_nil))) (zag _)) (pe_one (pe_cmpR za1 (pv 0) (pv 1) (zag _))))))
    pss_nil)
   (pss_one (ps_ret (pe_and (pe_cmpR zdK (pv 0) pe_non (zag _)) (pe_one (pe_cmpR zdK (pv 1) pe_non (zag _))))))))), ?_⟩
   rcases sx with (⟨t',rfl,rfl⟩|⟨m,rfl,rfl⟩)|⟨a,us,ds,rfl,rfl,h1,h2,h3,h4⟩
   ·rcases sy with (⟨t2,rfl,rfl⟩|⟨m2,rfl,rfl⟩)|⟨b,ws,es,rfl,rfl,g1,g2,g3,g4⟩
    ·refine ⟨_,rfl,_,_,_,_,rfl,.inl (.str _),(zaf (r:=false) (by decide+kernel)),_,rfl, ?_⟩
     refine iteF (iteF ?_)
     refine⟨_,rfl,_,_,_,_,rfl,.inl (.str _),(zaf (r:=true) (by decide+kernel)),_,rfl, ?_⟩
     refine iteT ⟨_,rfl,_,_,_,_,rfl,.inl (.str _),(zaf (r:=true) (by decide+kernel)),_,rfl, ?_⟩
     refine iteT ?_
     refine⟨_,rfl,_,rfl,rfl, ?_⟩
     rw[zej]
     exact k H (Same.refl H)
    ·rw [ziX] at k
     refine⟨_,rfl,_,_,_,_,rfl,.inl (.str _),(zaf (r:=false) (by decide+kernel)),_,rfl, ?_⟩
     refine iteF (iteF ?_)
     refine⟨_,rfl,_,_,_,_,rfl,.inl (.str _),(zaf (r:=true) (by decide+kernel)),_,rfl, ?_⟩
     refine iteT ⟨_,rfl,_,_,_,_,rfl,.inl (.int _),(zaf (r:=false) (by decide+kernel)),_,rfl, ?_⟩
     refine iteF ?_
     refine⟨_,rfl,_,_,_,_,rfl,.inl (.str _),(zaf (r:=false) (by decide+kernel)),_,rfl, ?_⟩
     refine iteF (iteF ?_)
     refine⟨_,rfl,rfl,_,rfl, ?_⟩
     rw[decide_eq_false (fun z=>by cases z)]
     exact iteF (k H (Same.refl H))
    ·rw [zjn] at k
     refine⟨_,rfl,_,_,_,_,rfl,.inl (.str _),(zaf (r:=false) (by decide+kernel)),_,rfl, ?_⟩
     refine iteF (iteF ?_)
     refine⟨_,rfl,_,_,_,_,rfl,.inl (.str _),(zaf (r:=true) (by decide+kernel)),_,rfl, ?_⟩
     refine iteT ⟨_,rfl,_,_,_,_,rfl,.inl (.tup g1),(zaf (r:=false) (by decide+kernel)),_,rfl, ?_⟩
     refine iteF ?_
     refine⟨_,rfl,_,_,_,_,rfl,.inl (.str _),(zaf (r:=false) (by decide+kernel)),_,rfl, ?_⟩
     refine iteF (iteF ?_)
     refine⟨_,rfl,rfl,_,rfl, ?_⟩
     rw[decide_eq_false (fun z=>by cases z)]
     exact iteF (k H (Same.refl H))
   ·rcases sy with (⟨t2,rfl,rfl⟩|⟨m2,rfl,rfl⟩)|⟨b,ws,es,rfl,rfl,g1,g2,g3,g4⟩
    ·rw [ziY] at k
     refine⟨_,rfl,_,_,_,_,rfl,.inl (.int _),(zaf (r:=false) (by decide+kernel)),_,rfl, ?_⟩
     refine iteF (iteF ?_)
     refine⟨_,rfl,_,_,_,_,rfl,.inl (.int _),(zaf (r:=false) (by decide+kernel)),_,rfl, ?_⟩
     refine iteF (iteF ?_)
     refine⟨_,rfl,_,_,_,_,rfl,.inl (.int _),(zaf (r:=true) (by decide+kernel)),_,rfl, ?_⟩
     refine iteT ⟨_,rfl,_,_,_,_,rfl,.inl (.str _),(zaf (r:=false) (by decide+kernel)),_,rfl, ?_⟩
     refine iteF ?_
     refine⟨_,rfl,rfl,_,rfl, ?_⟩
     rw[decide_eq_false (fun z=>by cases z)]
     exact iteF (k H (Same.refl H))
    ·refine ⟨_,rfl,_,_,_,_,rfl,.inl (.int _),(zaf (r:=false) (by decide+kernel)),_,rfl, ?_⟩
     refine iteF (iteF ?_)
     refine⟨_,rfl,_,_,_,_,rfl,.inl (.int _),(zaf (r:=false) (by decide+kernel)),_,rfl, ?_⟩
     refine iteF (iteF ?_)
     refine⟨_,rfl,_,_,_,_,rfl,.inl (.int _),(zaf (r:=true) (by decide+kernel)),_,rfl, ?_⟩
     refine iteT ⟨_,rfl,_,_,_,_,rfl,.inl (.int _),(zaf (r:=true) (by decide+kernel)),_,rfl, ?_⟩
     refine iteT ?_
     refine⟨_,rfl,_,_,_,_,rfl,.inl (.int _),(zaf (r:=false) (by decide+kernel)), ?_⟩
     refine⟨_,rfl,_,_,_,_,rfl,.inl (.int _),(zaf (r:=false) (by decide+kernel)),rfl, ?_⟩
     refine⟨_,rfl,iteT ⟨_,rfl,_,rfl,rfl, ?_⟩⟩
     rw[zek]
     exact k H (Same.refl H)
    ·rw [zjp] at k
     refine⟨_,rfl,_,_,_,_,rfl,.inl (.int _),(zaf (r:=false) (by decide+kernel)),_,rfl, ?_⟩
     refine iteF (iteF ?_)
     refine⟨_,rfl,_,_,_,_,rfl,.inl (.int _),(zaf (r:=false) (by decide+kernel)),_,rfl, ?_⟩
     refine iteF (iteF ?_)
     refine⟨_,rfl,_,_,_,_,rfl,.inl (.int _),(zaf (r:=true) (by decide+kernel)),_,rfl, ?_⟩
     refine iteT ⟨_,rfl,_,_,_,_,rfl,.inl (.tup g1),(zaf (r:=false) (by decide+kernel)),_,rfl, ?_⟩
     refine iteF ?_
     refine⟨_,rfl,rfl,_,rfl, ?_⟩
     rw[decide_eq_false (fun z=>by cases z)]
     exact iteF (k H (Same.refl H))
   ·rcases sy with (⟨t2,rfl,rfl⟩|⟨m2,rfl,rfl⟩)|⟨b,ws,es,rfl,rfl,g1,g2,g3,g4⟩
    ·rw [zjo] at k
     refine⟨_,rfl,_,_,_,_,rfl,.inl (.tup h1),(zaf (r:=true) (by decide+kernel)),_,rfl, ?_⟩
     refine iteT ⟨_,rfl,_,_,_,_,rfl,.inl (.str _),(zaf (r:=false) (by decide+kernel)),_,rfl, ?_⟩
     refine iteF ?_
     refine⟨_,rfl,_,_,_,_,rfl,.inl (.tup h1),(zaf (r:=false) (by decide+kernel)),_,rfl, ?_⟩
     refine iteF (iteF ?_)
     refine⟨_,rfl,_,_,_,_,rfl,.inl (.tup h1),(zaf (r:=false) (by decide+kernel)),_,rfl, ?_⟩
     refine iteF (iteF ?_)
     refine⟨_,rfl,rfl,_,rfl, ?_⟩
     rw[decide_eq_false (fun z=>by cases z)]
     exact iteF (k H (Same.refl H))
    ·rw [zjq] at k
     refine⟨_,rfl,_,_,_,_,rfl,.inl (.tup h1),(zaf (r:=true) (by decide+kernel)),_,rfl, ?_⟩
     refine iteT ⟨_,rfl,_,_,_,_,rfl,.inl (.int _),(zaf (r:=false) (by decide+kernel)),_,rfl, ?_⟩
     refine iteF ?_
     refine⟨_,rfl,_,_,_,_,rfl,.inl (.tup h1),(zaf (r:=false) (by decide+kernel)),_,rfl, ?_⟩
     refine iteF (iteF ?_)
     refine⟨_,rfl,_,_,_,_,rfl,.inl (.tup h1),(zaf (r:=false) (by decide+kernel)),_,rfl, ?_⟩
     refine iteF (iteF ?_)
     refine⟨_,rfl,rfl,_,rfl, ?_⟩
     rw[decide_eq_false (fun z=>by cases z)]
     exact iteF (k H (Same.refl H))
    ·refine ⟨_,rfl,_,_,_,_,rfl,.inl (.tup h1),(zaf (r:=true) (by decide+kernel)),_,rfl, ?_⟩
     refine iteT ⟨_,rfl,_,_,_,_,rfl,.inl (.tup g1),(zaf (r:=true) (by decide+kernel)),_,rfl, ?_⟩
     refine iteT ?_
     refine⟨_,rfl,_,_,rfl,.inr (SqT.of h1),_,rfl,_,_,rfl,.inr (SqT.of g1),rfl, ?_⟩
     by_cases cl:us.length=ws.length
     ·rw [cl,decide_eq_true rfl]
      refine⟨_,rfl,iteT ⟨_,rfl,_,rfl,a,b,rfl,⟨_,SqT.of h1⟩,⟨_,SqT.of g1⟩, ?_⟩⟩
      refine zg8 (fun s'=>SqT.of (s' _ _ h1)) (fun s'=>SqT.of (s' _ _ g1)) (by rw[List.length_zip];(first|lia|omega)) (fun i v _=>v=.bl (PyData.eqv (ds.getD i .none) (es.getD i .none))) (fun _ _ _ _ _ h=>h) (fun i u v hu hv G s' Q' q=> ?_) fun acc vs G hacc s1 hvs hvl hR=> ?_
      ·have il:=(List.getElem?_eq_some_iff.mp hu).1
       have jl:=(List.getElem?_eq_some_iff.mp hv).1
       obtain⟨d,hd⟩:∃d,ds[i]? =some d:=⟨_,List.getElem?_eq_getElem (by (first|lia|omega))⟩
       obtain⟨e,he⟩:∃e,es[i]? =some e:=⟨_,List.getElem?_eq_getElem (by (first|lia|omega))⟩
       refine⟨_,rfl,_,rfl,u,v,d,e,rfl,(h4 i u d hu hd).same s',(g4 i v e hv he).same s',fun G2 s2=>q _ G2 s2 ?_⟩
       rw[List.getD_eq_getElem?_getD,List.getD_eq_getElem?_getD,hd,he]
       rfl
      ·have hb:vs=(allE ds es).map V.bl:=by
        refine zh6 (by rw[hvl,List.length_zip];(first|lia|omega)) (by (first|lia|omega)) fun i v e=>hR i v e
       rw[hb] at hvs
       refine⟨acc,_,rfl,hvs, ?_⟩
       rw[ze8 (by (first|lia|omega))]
       exact k G s1
     ·rw [decide_eq_false (fun z=>cl (by have:=V.int.inj z;(first|lia|omega)))]
      refine⟨_,rfl,iteF ?_⟩
      have e:PyData.eqv (.tuple ds) (.tuple es)=false:=by
       show PyData.eqvAll ds es=false
       exact zc9 (by (first|lia|omega))
      rw[e] at k
      exact k H (Same.refl H)
theorem zdB {f:Addr}{fd:FuncData}(F:Fun K "_law_same" "_law_same" zaQ f fd)(T:Top mg)(TX:TopX mg)(hm:mg "_law_same" =some (.ref f))(hb:Binds K fd ["_law_one", "_law_two"] []):FnOk P w K mg base CX0 3 f fd ["_law_one", "_law_two"] (zei 2):=zbM F T TX hm hb 2
end
end K64
namespace L2
open PySem PySem.Spec PyProof.Rows
noncomputable def zbq:List Str:=["groups", "sets", "spread", "all", "none"]
noncomputable def El2 (d:PyData):Prop:=(∃n,d=.int n/\Sm n 6500)∨∃p:Int×Int,d=shD p/\ShB p 6500
structure ThE (ds:List PyData):Prop where
 w:∃t r,ds=.str t::r/\t∈zbq/\∀d∈r,El2 d
 len:ds.length<=4
 two:∀d0 d1,ds=[d0,d1]->∃n,d1=.int n/\Sm n 40
theorem ThE.thg {ds:List PyData}(h:ThE ds):Thg ds:=by
 obtain⟨t,r,rfl,ht,hr⟩:=h.w
 refine⟨⟨t,r,rfl⟩,fun d hd=> ?_,fun d0 d1 e=>by obtain⟨n,h1,_⟩:=h.two d0 d1 e;exact⟨n,h1⟩⟩
 rcases List.mem_cons.mp hd with rfl|hd
 ·exact .inl ⟨t,rfl⟩
 ·rcases hr d hd with⟨n,rfl,_⟩|⟨p,rfl,hp⟩
  ·exact .inr (.inl ⟨n,rfl⟩)
  ·exact .inr (.inr ⟨p,rfl,hp.pos⟩)
theorem ziZ {H:Hp}{v:V}{d:PyData}(h:IsY NoS H v d)(e:El2 d):Is H v d/\SmY H 1 v d:=by
 rcases e with⟨n,rfl,_⟩|⟨p,rfl,_⟩
 ·cases h
  exact⟨.int n,.inl (.inr ⟨n,rfl,rfl⟩)⟩
 ·obtain ⟨q,rfl,hq⟩:=zbg h
  refine⟨.tup hq (.cons (.int _) (.cons (.int _) .nil)),.inr ⟨q,_,_,rfl,rfl,hq,by show 2<=100;decide,rfl,fun i u d hu hd=> ?_⟩⟩
  match i,hu,hd with
  |0,hu,hd=>cases hu;cases hd;exact .inr ⟨_,rfl,rfl⟩
  |1,hu,hd=>cases hu;cases hd;exact .inr ⟨_,rfl,rfl⟩
  |_+2,hu,_=>simp at hu
theorem zht {H:Hp}:∀{us:List V} {ds:List PyData},IsAllY NoS H us ds->(∀d∈ds,El2 d)->IsAll H us ds
 |_,_,.nil,_=>.nil
 |_,_,.cons h t,e=>.cons (ziZ h (e _ List.mem_cons_self)).1 (zht t fun d hd=>e d (List.mem_cons_of_mem _ hd))
theorem ThE.is {H:Hp}{z:Addr}{us:List V}{ds:List PyData}(h:ThE ds)(hz:H z=some (.tup us))(al:IsAllY NoS H us ds):Is H (.ref z) (.tuple ds):=by
 obtain⟨t,r,rfl,ht,hr⟩:=h.w
 cases al with
 |cons h1 h2=>
  cases h1
  exact .tup hz (.cons (.str t) (zht h2 hr))
theorem ThE.smy {H:Hp}{z:Addr}{us:List V}{ds:List PyData}(h:ThE ds)(hz:H z=some (.tup us))(al:IsAllY NoS H us ds):SmY H 2 (.ref z) (.tuple ds):=by
 have hl:=h.len
 have ul:=al.len
 refine .inr ⟨z,us,ds,rfl,rfl,hz,by (first|lia|omega),ul,fun i u d hu hd=> ?_⟩
 obtain⟨e,he,ye⟩:=al.at hu
 rw[hd] at he
 cases he
 obtain⟨t,r,rfl,ht,hr⟩:=h.w
 match i,hd with
 |0,hd=>
  cases hd
  cases ye
  exact .inl (.inl ⟨t,rfl,rfl⟩)
 |i+1,hd=>exact (ziZ ye (hr d (List.mem_of_getElem? (i:=i) (by simpa using hd)))).2
theorem zg9 {t:Str}(h:t∈zbq):PyData.canLay0 (.str t)=true:=by
 have:t= "groups" ∨t= "sets" ∨t= "spread" ∨t= "all" ∨t= "none" :=by simpa [zbq] using h
 rcases this with rfl|rfl|rfl|rfl|rfl<;>decide+kernel
theorem zi0 {d:PyData}(h:El2 d):PyData.canLay0 d=true/\d.depth<=1:=by
 rcases h with⟨n,rfl,_⟩|⟨p,rfl,_⟩
 ·exact⟨by simp[PyData.canLay0],by simp[PyData.depth]⟩
 ·exact⟨by simp[shD,PyData.canLay0,PyData.canLayAll0],by simp[shD,PyData.depth,PyData.depthAll]⟩
theorem zgB:∀{ds:List PyData},(∀d∈ds,El2 d)->PyData.canLayAll0 ds=true/\PyData.depthAll ds<=1
 |[],_=>⟨by simp[PyData.canLayAll0],by simp[PyData.depthAll]⟩
 |d::r,h=>by
  obtain⟨a1,a2⟩:=zi0 (h d List.mem_cons_self)
  obtain⟨b1,b2⟩:=zgB (ds:=r) fun d hd=>h d (List.mem_cons_of_mem _ hd)
  refine⟨by simp[PyData.canLayAll0,a1,b1], ?_⟩
  simp only[PyData.depthAll]
  (first|lia|omega)
theorem ThE.shaped {ds:List PyData}(h:ThE ds):SeqAt.shaped (.tuple ds)=true:=by
 obtain⟨t,r,rfl,ht,hr⟩:=h.w
 obtain⟨b1,b2⟩:=zgB hr
 unfold SeqAt.shaped
 rw[Bool.and_eq_true,decide_eq_true_eq]
 refine⟨by rw[PyData.canLay0,PyData.canLayAll0,zg9 ht,b1];rfl, ?_⟩
 simp only[PyData.depth,PyData.depthAll]
 (first|lia|omega)
theorem zi1 {d e:PyData}(h1:El2 d)(h2:El2 e):PyData.eqv d e=true↔d=e:=by
 rcases h1 with⟨n,rfl,_⟩|⟨p,rfl,_⟩<;>rcases h2 with⟨m,rfl,_⟩|⟨q,rfl,_⟩
 ·simp[PyData.eqv]
 ·simp[PyData.eqv,shD]
 ·simp[PyData.eqv,shD]
 ·simp[PyData.eqv,PyData.eqvAll,shD]
theorem zgC:∀{ds es:List PyData},(∀d∈ds,El2 d)->(∀d∈es,El2 d)->(PyData.eqvAll ds es=true↔ds=es)
 |[],[],_,_=>by simp[PyData.eqvAll]
 |[],_::_,_,_=>by simp[PyData.eqvAll]
 |_::_,[],_,_=>by simp[PyData.eqvAll]
 |d::ds,e::es,h1,h2=>by
  have a:=zi1 (h1 d List.mem_cons_self) (h2 e List.mem_cons_self)
  have b:=zgC (ds:=ds) (es:=es) (fun d hd=>h1 d (List.mem_cons_of_mem _ hd)) (fun d hd=>h2 d (List.mem_cons_of_mem _ hd))
  simp only[PyData.eqvAll,Bool.and_eq_true,a,b,List.cons.injEq]
theorem ThE.eqv {ds es:List PyData}(h1:ThE ds)(h2:ThE es):PyData.eqv (.tuple ds) (.tuple es)=true↔ds=es:=by
 obtain⟨t,r,rfl,ht,hr⟩:=h1.w
 obtain⟨t',r',rfl,ht',hr'⟩:=h2.w
 have b:=zgC hr hr'
 simp only[PyData.eqv,PyData.eqvAll,Bool.and_eq_true,b,beq_iff_eq,List.cons.injEq,PyData.str.injEq]
theorem all_thE:ThE [.str "all"]:=⟨⟨_,[],rfl,by decide,fun d hd=>by cases hd⟩,by decide,fun d0 d1 e=>by cases e⟩
theorem zgD {kind:Str}(hk:kind∈zai){N k:Nat}(hN:(N:Int)<=bigN)(hk62:k<=62){more:Int}(m0:0<=more)(m1:more<=1000000):ThE (lpZ kind N k more):=by
 have n0:(0:Int)<=(N:Int):=by (first|lia|omega)
 have fl:0<=figZ N/\figZ N<=102:=by
  have:=zgx n0 hN
  unfold figZ
  unfold Sm at this
  (first|lia|omega)
 unfold lpZ
 split
 ·refine ⟨⟨_,_,rfl,by decide,fun d hd=> ?_⟩,by show 2<=4;decide,fun d0 d1 e=> ?_⟩
  ·rw [List.mem_singleton.mp hd]
   exact .inl ⟨_,rfl,Sm.mono (Sm.of (show (figZ N+more).natAbs<2^21 by (first|lia|omega))) (by decide)⟩
  ·injection e with _ e
   injection e with e _
   exact⟨_,e.symm,Sm.mono (Sm.of (show (figZ N+more).natAbs<2^21 by (first|lia|omega))) (by decide)⟩
 ·split
  ·refine ⟨⟨_,_,rfl,by decide,fun d hd=> ?_⟩,by show 3<=4;decide,fun d0 d1 e=>by injection e with _ e;injection e with _ e;cases e⟩
   simp only[List.mem_cons,List.not_mem_nil,or_false] at hd
   rcases hd with rfl|rfl
   ·exact .inr ⟨_,rfl,(zhr n0 hN).mono (by decide)⟩
   ·exact .inr ⟨_,rfl,(zhs n0 hN).mono (by decide)⟩
  ·split
   ·refine ⟨⟨_,_,rfl,by decide,fun d hd=> ?_⟩,by show 3<=4;decide,fun d0 d1 e=>by injection e with _ e;injection e with _ e;cases e⟩
    simp only[List.mem_cons,List.not_mem_nil,or_false] at hd
    rcases hd with rfl|rfl
    ·exact .inl ⟨_,rfl,Sm.of (by decide+kernel)⟩
    ·exact .inr ⟨(0,1),rfl,⟨by decide,Sm.of (by decide+kernel),Sm.of (by decide+kernel)⟩⟩
   ·next _ _ h3=>
    have ds:=zg7 hN k (by (first|lia|omega))
    have dp:=ze5 (N:=N) (k:=k) (by (first|lia|omega))
    have f0:=zaj k
    have fs:Sm (fcZ k) 340:=zau (by (first|lia|omega))
    refine⟨⟨_,_,rfl,by decide,fun d hd=> ?_⟩,by show 3<=4;decide,fun d0 d1 e=>by injection e with _ e;injection e with _ e;cases e⟩
    simp only[List.mem_cons,List.not_mem_nil,or_false] at hd
    rcases hd with rfl|rfl
    ·refine .inl ⟨_,rfl,Sm.mono (Sm.le ds ?_) (by (first|lia|omega))⟩
     have q:=Int.ediv_le_self (fcZ k) (Int.le_of_lt dp)
     have r:=Int.ediv_nonneg (Int.le_of_lt dp) (Int.le_of_lt f0)
     (first|lia|omega)
    ·refine .inr ⟨_,rfl, ?_⟩
     split
     ·exact⟨dp,sm1.mono (by decide),ds.mono (by (first|lia|omega))⟩
     ·exact⟨f0,sm1.mono (by decide),fs.mono (by decide)⟩
noncomputable def zfv:Sp:=fun vs H Q _=>∃(x y:Addr) (p q:Int×Int),vs=[.ref x,.ref y]/\Shr H x p/\Shr H y q/\ShB p 7000/\ShB q 900/\∀z H',Same H H'->Shr H' z (plZ p q)->Q (.ref z) H'
noncomputable def LsV (H:Hp)(v:V):Option (Int×Int)->Prop
 |none=>v=.non
 |some l=>∃y,v=.ref y/\Shr H y l
theorem LsV.same {H H':Hp}(s:Same H H'){v:V}:∀{o:Option (Int×Int)},LsV H v o->LsV H' v o
 |none,h=>h
 |some _,⟨y,e,h⟩=>⟨y,e,s _ _ h⟩
noncomputable def zha:Sp:=fun vs H Q _=>∃(kind:Str) (N k:Nat) (z:Addr) (us:List V) (ds:List PyData),vs=[.str kind,.int N,.int k,.ref z]/\kind∈zai/\(N:Int)<=10^30/\k<=60/\H z=some (.tup us)/\IsAllY NoS H us ds/\ThE ds/\∀v H',Same H H'->LsV H' v (lsZ kind N k ds)->Q v H'
theorem zda {N:Nat}(h:(N:Int)<=10^30):(N:Int)<=bigN:=Int.le_trans h (by decide+kernel)
end L2
namespace K64
open PySem PySem.Spec PyProof.Rows L2
noncomputable abbrev zbl:Stmt:=top 79
section
variable {P:Program}{w:World}{K:PySem.W.Frag}{mg:Str->Option Value}{base:Heap}
theorem zel {f:Addr}{fd:FuncData}(F:Fun K "_law_sum" "_law_sum" zb0 f fd)(C_law_low:Cal P w K mg base 1 "_law_low" ["_law_over", "_law_under"] zbf):FnOk P w K mg base CX0 2 f fd ["_law_one", "_law_two"] zfv:=by
 refine F.ok zeL (fun vs H Q E h=> ?_) (fun cdv A outer s H vs Q E hr h=> ?_)
 ·obtain ⟨x,y,p,q,rfl,_⟩:=h
  rfl
 ·obtain ⟨x,y,p,q,rfl,hx,hy,bp,bq,k⟩:=h
  refine⟨_,(pss_one (ps_ret (pe_cal C_law_low (hr.mono (by decide)) rfl (pa_cons (pe_op zar (pe_op zah (pe_ix zae (pv 0) pe_int (fun _ _=>rfl)) (pe_ix zae (pv 1) pe_int (fun _ _=>rfl))) (pe_op zah (pe_ix zae (pv 1) pe_int (fun _ _=>rfl)) (pe_ix zae (pv 0) pe_int (fun _ _=>rfl)))) (pa_cons (pe_op zah (pe_ix zae (pv 0) pe_int (fun _ _=>rfl)) (pe_ix zae (pv 1) pe_int (fun _ _=>rfl))) pa_nil))))), ?_⟩
  refine⟨_,rfl,x,_,0,_,rfl,rfl,SqT.of hx,zad (j:=0) rfl,_,rfl,y,_,1,_,rfl,rfl,SqT.of hy,zad (j:=1) rfl,_,_,rfl,rfl,⟨bp.s1.mono (by decide),bq.s2.mono (by decide)⟩,_,rfl,y,_,0,_,rfl,rfl,SqT.of hy,zad (j:=0) rfl,_,rfl,x,_,1,_,rfl,rfl,SqT.of hx,zad (j:=1) rfl,_,_,rfl,rfl,⟨bq.s1.mono (by decide),bp.s2.mono (by decide)⟩,_,_,rfl,rfl,_,rfl,x,_,1,_,rfl,rfl,SqT.of hx,zad (j:=1) rfl,_,rfl,y,_,1,_,rfl,rfl,SqT.of hy,zad (j:=1) rfl,_,_,rfl,rfl,⟨bp.s2.mono (by decide),bq.s2.mono (by decide)⟩,_,_,rfl,Int.mul_pos bp.pos bq.pos,(bp.s2.mul bq.s2).mono (by decide),fun z H2 s2 hz=>k z H2 s2 hz⟩
theorem sc__law_least:FnScope ["_law_kind", "_law_many", "_law_number_here", "_law_thing", "_law_due", "_law_over", "_law_k", "_law_middle_here", "_law_wide", "_law_far"] ["_law_kind", "_law_many", "_law_number_here", "_law_thing"] (zac zbl):=⟨rfl,rfl,rfl,by decide+kernel,rfl,by decide+kernel,by decide+kernel⟩
set_option maxHeartbeats 8000000 in
theorem zdC {f:Addr}{fd:FuncData}(F:Fun K "_law_least" "_law_least" zbl f fd)(T:Top mg)(C_law_paper:Cal P w K mg base 3 "_law_paper" ["_law_kind", "_law_many", "_law_number_here", "_law_more"] spLp)(C_law_low:Cal P w K mg base 1 "_law_low" ["_law_over", "_law_under"] zbf)(C_law_fall:Cal P w K mg base 1 "_law_fall" ["_law_number_here"] (spFc 300))(C_law_same:Cal P w K mg base 3 "_law_same" ["_law_one", "_law_two"] (zei 2)):FnOk P w K mg base CX0 4 f fd ["_law_kind", "_law_many", "_law_number_here", "_law_thing"] zha:=by
 refine F.ok sc__law_least (fun vs H Q E h=> ?_) (fun cdv A outer s H vs Q E hr h=> ?_)
 ·obtain ⟨kd,N,n,z,us,ds,rfl,_⟩:=h
  rfl
 ·obtain ⟨kd,N,n,z,us,ds,rfl,hk,hN,hn,hz,al,hT,k⟩:=h
  have hu:_:=hr.units
  refine⟨_,(pss_cons (ps_if (pt_cmpR za1 (pe_ix zae (pv 3) pe_int (fun _ _=>rfl)) pe_str (zag _))
    (pss_one (ps_ret (pe_ifExp (pt_cmpR (zhl hu) (pv 3) (pe_tup (pa_cons pe_str pa_nil)) (zag _)) (pe_tup (pa_cons pe_int (pa_cons pe_int pa_nil))) pe_non)))
    pss_nil)
   (pss_cons (ps_set (i:=4) sc__law_least.nd rfl (Or.inl rfl) (pe_cal C_law_paper (hr.mono (by decide)) rfl (pa_cons (pv 0) (pa_cons (pv 1) (pa_cons (pv 2) (pa_cons pe_int pa_nil))))))
   (pss_cons (ps_if (PW.pt (pw_or (pt_cmpR zfe (pe_ix zae (pv 3) pe_int (fun _ _=>rfl)) (pe_ix zae (pv 4) pe_int (fun _ _=>rfl)) (zag _)) (pw_or (pt_cmpR zfe (pe_callB zan (by rfl) T.n_len PySem.boot_len (pa_cons (pv 3) pa_nil)) (pe_callB zan (by rfl) T.n_len PySem.boot_len (pa_cons (pv 4) pa_nil)) (zag _)) (pw_or1 (pt_cmpR zfF (pv 2) pe_int (zag _))))))
    (pss_one (ps_ret pe_non))
    pss_nil)
   (pss_cons (ps_if (pt_cmpR zbA (pv 0) (pe_tup (pa_cons pe_str (pa_cons pe_str pa_nil))) (by rfl))
    (pss_cons (ps_set (i:=5) sc__law_least.nd rfl (Or.inl rfl) pe_int)
    (pss_cons (ps_for PassesOwn.never rfl (pi_range1 rfl T.n_range (pa_cons (pv 2) pa_nil)) (zao (i:=6) sc__law_least.nd rfl (Or.inl rfl))
     (pss_one (ps_set (i:=5) sc__law_least.nd rfl (Or.inl rfl) (pe_op zah (pv 5) (pe_ix zae (pv 3) pe_int (fun _ _=>rfl))))))
    (pss_one (ps_ret (pe_ifExp (pt_cmpR zhx (pe_ix zae (pv 3) pe_int (fun _ _=>rfl)) (pe_ix zae (pv 4) pe_int (fun _ _=>rfl)) (zag _)) (pe_cal C_law_low (hr.mono (by decide)) rfl (pa_cons (pv 5) (pa_cons (pe_cal C_law_fall (hr.mono (by decide)) rfl (pa_cons (pv 2) pa_nil)) pa_nil))) pe_non)))))
    pss_nil)
   (pss_cons (ps_if (pt_not (pt_val (pe_cal C_law_same (hr.mono (by decide)) rfl (pa_cons (pv 3) (pa_cons (pv 4) pa_nil)))))
    (pss_one (ps_ret pe_non))
    pss_nil)
   (pss_cons (ps_if (pt_cmpR zbA (pv 0) (pe_tup (pa_cons pe_str (pa_cons pe_str pa_nil))) (by rfl))
    (pss_one (ps_ret (pe_cal C_law_low (hr.mono (by decide)) rfl (pa_cons (pe_op zah (pe_ix zae (pv 3) pe_int (fun _ _=>rfl)) (pe_ix zae (pe_ix zae (pv 3) pe_int (fun _ _=>rfl)) pe_int (fun _ _=>rfl))) (pa_cons (pe_ix zae (pe_ix zae (pv 3) pe_int (fun _ _=>rfl)) pe_int (fun _ _=>rfl)) pa_nil)))))
    pss_nil)
   (pss_cons (ps_par (i:=7) (j:=8) rfl sc__law_least.nd rfl rfl (by decide) rfl rfl (pa_cons (pe_ix zae (pv 3) pe_int (fun _ _=>rfl)) (pa_cons (pe_ix zae (pv 3) pe_int (fun _ _=>rfl)) pa_nil)) rfl)
   (pss_cons (ps_set (i:=9) sc__law_least.nd rfl (Or.inl rfl) (pe_op zax (pe_op zah (pv 2) (pe_ix zae (pv 7) pe_int (fun _ _=>rfl))) (pe_ix zae (pv 7) pe_int (fun _ _=>rfl))))
   (pss_one (ps_ret (pe_ifExp (pt_cmpR zcL (pv 9) pe_int (zag _)) (pe_cal C_law_low (hr.mono (by decide)) rfl (pa_cons (pe_op zah (pe_op zah (pe_ix zae (pv 8) pe_int (fun _ _=>rfl)) (pe_ix zae (pv 7) pe_int (fun _ _=>rfl))) (pe_ix zae (pv 7) pe_int (fun _ _=>rfl))) (pa_cons (pe_op zah (pe_op zah (pe_ix zae (pv 8) pe_int (fun _ _=>rfl)) (pv 9)) (pv 9)) pa_nil))) pe_non))))))))))), ?_⟩
  have hTs:=hT.shaped
  have hTi:=hT.is hz al
  obtain⟨t,r,hds,ht,hr'⟩:=hT.w
  obtain⟨ur,hus,alr⟩:∃ur,us=.str t::ur/\IsAllY NoS H ur r:=by
   rw[hds] at al
   cases al with
   |cons h1 h2=>cases h1;exact⟨_,rfl,h2⟩
  have hz0:H z=some (.tup (.str t::ur)):=by rw[hz,hus]
  have hd0:ds.getD 0 .none=.str t:=by rw[hds];rfl
  unfold lsZ at k
  rw[hd0] at k
  refine⟨_,rfl,z,_,0,_,rfl,rfl,SqT.of hz0,zad (j:=0) rfl,rfl,_,rfl, ?_⟩
  rw[zeM]
  by_cases c0:t= "all"
  ·rw [decide_eq_true c0]
   rw[if_pos (by rw[c0])] at k
   refine iteT ⟨_,rfl,by show 1<=sizeLine;decide,fun q hq=> ?_⟩
   have sq:=zaa (o:=.tup [.str "all"]) hq
   refine⟨_,_,hTi.same sq,.tup zab (.cons (.str _) .nil),hTs,all_thE.shaped,_,rfl, ?_⟩
   by_cases c1:ds=[.str "all"]
   ·rw [(hT.eqv all_thE).mpr c1]
    rw[if_pos c1] at k
    refine iteT ⟨by show 2<=sizeLine;decide,fun y hy=> ?_⟩
    exact k _ _ (sq.trans (zaa hy)) ⟨y,rfl,zab⟩
   ·rw [show PyData.eqv (.tuple ds) (.tuple [.str "all"])=false by
     cases e:PyData.eqv (.tuple ds) (.tuple [.str "all"]) with
     |false=>rfl
     |true=>exact absurd ((hT.eqv all_thE).mp e) c1]
    rw[if_neg c1] at k
    exact iteF (k _ _ sq rfl)
  rw[decide_eq_false c0]
  rw[if_neg (fun e=>c0 (by injection e))] at k
  refine iteF ⟨_,rfl,_,rfl,_,rfl,kd,N,n,0,rfl,hk,zda hN,by (first|lia|omega),by decide,by decide,fun dz du G s1 hdz dal=> ?_⟩
  rw[zh4 hk] at dal
  have hpT:ThE (paL kd N n):=by
   have:=zgD hk (zda hN) (show n<=62 by (first|lia|omega)) (show (0:Int)<=0 by decide) (by decide)
   rwa [zh4 hk] at this
  obtain⟨dr,hdu⟩:∃dr,du=.str (zaG kd)::dr:=by
   have hw:=zcJ kd hk N n
   cases e:paL kd N n with
   |nil=>rw[e] at hw;cases hw
   |cons d0 dd=>
    rw[e] at hw dal
    have hw:d0=.str (zaG kd):=hw
    subst hw
    cases dal with
    |cons h1 h2=>cases h1;exact⟨_,rfl⟩
  have hdz0:G dz=some (.tup (.str (zaG kd)::dr)):=by rw[hdz,hdu]
  have hzG:=s1 _ _ hz0
  rw[zcJ kd hk] at k
  have hul:=al.len
  have hdl:=dal.len
  refine⟨_,rfl,z,_,0,_,rfl,rfl,SqT.of hzG,zad (j:=0) rfl,_,rfl,dz,_,0,_,rfl,rfl,SqT.of hdz0,zad (j:=0) rfl,rfl,_,rfl, ?_⟩
  rw[zeM]
  by_cases c1:t=zaG kd
  rotate_left
  ·rw [decide_eq_false c1]
   rw[if_pos (.inl fun e=>c1 (by injection e))] at k
   exact iteT (k _ _ s1 rfl)
  rw[decide_eq_true c1]
  refine iteF ⟨_,rfl,z,_,rfl,.inr (SqT.of hzG),_,rfl,dz,_,rfl,.inr (SqT.of hdz0),rfl,_,rfl, ?_⟩
  by_cases c2:ds.length=(paL kd N n).length
  rotate_left
  ·rw [decide_eq_false (show ¬V.int ((V.str t::ur).length:Int)=V.int ((V.str (zaG kd)::dr).length:Int) from fun e=>c2 (by rw[<-hul,<-hdl,hus,hdu];have:=V.int.inj e;(first|lia|omega)))]
   rw[if_pos (.inr (.inl c2))] at k
   exact iteT (k _ _ s1 rfl)
  rw[decide_eq_true (show V.int ((V.str t::ur).length:Int)=V.int ((V.str (zaG kd)::dr).length:Int) by rw[<-hus,<-hdu,hul,hdl,c2])]
  refine iteF ⟨_,rfl,_,_,rfl,rfl,_,rfl, ?_⟩
  by_cases c3:n<1
  ·rw [decide_eq_true (show (n:Int)<1 by (first|lia|omega))]
   rw[if_pos (.inr (.inr c3))] at k
   exact iteT (k _ _ s1 rfl)
  rw[decide_eq_false (show ¬(n:Int)<1 by (first|lia|omega))]
  rw[if_neg (by rintro (e|e|e);exact e (by rw[c1]);exact e c2;exact c3 e)] at k
  refine iteF ⟨_,rfl,by show 2<=sizeLine;decide,fun t1 ht1=>⟨t1,_,rfl,.inr (SqT.of zab),rfl,rfl,_,rfl, ?_⟩⟩
  have u1:=zaa (o:=.tup [.str "rounds",.str "highs"]) ht1
  have s2:=s1.trans u1
  have hzG2:=u1 _ _ hzG
  have hdG2:=u1 _ _ hdz0
  have alG2:=al.same s2
  have dalG2:=dal.same u1
  have hzu:_:=s2 _ _ hz
  have hdu2:=u1 _ _ hdz
  generalize upd G t1 (.tup [.str "rounds",.str "highs"])=G2 at*
  show (if inV (.str kd) [.str "rounds",.str "highs"]=true then _ else _)
  rw[zdz]
  by_cases c4:kd= "rounds" ∨kd= "highs"
  ·rw [decide_eq_true c4]
   rw[if_pos c4] at k
   have e3:paL kd N n=[.str "groups",.int (figZ N)]:=by unfold paL;rw[if_pos c4]
   have l2:ds.length=2:=by rw[c2,e3];rfl
   obtain⟨m,hm,ms⟩:=hT.two _ _ (zg6 l2)
   rw[hm,show asI (.int m)=m from rfl] at k
   have hur:ur=[.int m]:=by
    have hr2:r=[.int m]:=by
     have:=zg6 l2
     rw[hds] at this
     injection this with _ this
     rw[hds] at hm
     rw[hm] at this
     exact this
    rw[hr2] at alr
    cases alr with
    |cons h1 h2=>cases h1;cases h2;rfl
   have hdr:dr=[.int (figZ N)]:=by
    rw[e3] at dalG2
    rw[hdu] at dalG2
    cases dalG2 with
    |cons h1 h2=>
     cases h2 with
     |cons h3 h4=>cases h3;cases h4;rfl
   subst hur hdr
   have ps:∀i:Nat,Sm (m^i) (40*i+1):=fun i=>by
    induction i with
    |zero=>exact Sm.of (show (m^0).natAbs<2^(40*0+1) by rw[Int.pow_zero];decide)
    |succ i ih=>rw[Int.pow_succ];exact (ih.mul ms).mono (by (first|lia|omega))
   refine iteT ⟨_,rfl,_,rfl,by (first|lia|omega),by (first|lia|omega), ?_⟩
   rw[Int.toNat_natCast]
   refine zaq (n:=n) (fun i σ G'=>G'=G2/\∃c6:Option V,σ=[some (.str kd),some (.int N),some (.int n),some (.ref z),some (.ref dz),some (.int (m^i)),c6,none,none,none]) ?_ ?_ ?_
   ·exact⟨rfl,none,by rw[Int.pow_zero];rfl⟩
   ·rintro i σ G' hi ⟨rfl,c6,rfl⟩
    refine⟨_,rfl,_,rfl,z,_,1,_,rfl,rfl,SqT.of hzG2,zad (j:=1) rfl,_,_,rfl,rfl,⟨(ps i).mono (by (first|lia|omega)),ms.mono (by decide)⟩, ?_⟩
    rw[Int.pow_succ]
    exact⟨rfl,_,rfl⟩
   ·rintro σ G' ⟨rfl,c6,rfl⟩
    refine⟨_,rfl,z,_,1,_,rfl,rfl,SqT.of hzG2,zad (j:=1) rfl,_,rfl,dz,_,1,_,rfl,rfl,SqT.of hdG2,zad (j:=1) rfl,_,_,rfl,rfl,_,rfl, ?_⟩
    by_cases c5:figZ N<=m
    ·rw [decide_eq_true c5]
     rw[if_pos c5] at k
     refine iteT ⟨_,rfl,_,rfl,n,rfl,by (first|lia|omega),_,_,rfl,zaj n,(zau (by (first|lia|omega))).mono (by decide),fun y G3 s3 hy=> ?_⟩
     exact k _ G3 (s2.trans s3) ⟨y,rfl,hy⟩
    ·rw [decide_eq_false c5]
     rw[if_neg c5] at k
     exact iteF (k _ _ s2 rfl)
  rw[decide_eq_false c4]
  rw[if_neg c4] at k
  refine iteF ⟨_,rfl,_,rfl,.ref z,.ref dz,_,_,rfl,hT.smy hzu alG2,hpT.smy hdu2 dalG2,fun G3 s3=>⟨_,rfl, ?_⟩⟩
  have S3:=s2.trans s3
  by_cases c5:ds=paL kd N n
  rotate_left
  ·rw [show PyData.eqv (.tuple ds) (.tuple (paL kd N n))=false by
    cases e:PyData.eqv (.tuple ds) (.tuple (paL kd N n)) with
    |false=>rfl
    |true=>exact absurd ((hT.eqv hpT).mp e) c5]
   rw[if_pos c5] at k
   exact iteT (k _ _ S3 rfl)
  rw[(hT.eqv hpT).mpr c5]
  rw[if_neg (fun z=>z c5)] at k
  refine iteF ⟨_,rfl,by show 2<=sizeLine;decide,fun t3 ht3=>⟨t3,_,rfl,.inr (SqT.of zab),rfl,rfl,_,rfl, ?_⟩⟩
  have u3:=zaa (o:=.tup [.str "stays",.str "longest"]) ht3
  have S4:=S3.trans u3
  have hzG4:=u3 _ _ (s3 _ _ hzu)
  have alG4:=(alG2.same s3).same u3
  generalize upd G3 t3 (.tup [.str "stays",.str "longest"])=G4 at*
  show (if inV (.str kd) [.str "stays",.str "longest"]=true then _ else _)
  rw[zdz]
  have n0:(0:Int)<=(N:Int):=by (first|lia|omega)
  by_cases c6:kd= "stays" ∨kd= "longest"
  ·rw [decide_eq_true c6]
   rw[if_pos c6] at k
   have e3:paL kd N n=[.str "sets",.int (sZ N n),shD (eaZ kd N n)]:=by unfold paL;rw[if_neg c4,if_pos c6]
   rw[c5,e3] at alG4
   obtain⟨y,hus3,hy⟩:∃y,us=[.str "sets",.int (sZ N n),.ref y]/\Shr G4 y (eaZ kd N n):=by
    cases alG4 with
    | cons h1 h2=>
     cases h1
     cases h2 with
     | cons h3 h4=>
      cases h3
      cases h4 with
      |cons h5 h6=>
       cases h6
       obtain⟨y,rfl,hy⟩:=zbg h5
       exact⟨y,rfl,hy⟩
   rw[hus3] at hzG4
   have eb:=zc8 (kind:=kd) hN hn
   have sb:=zey n0 hN n hn
   refine iteT ⟨_,rfl,z,_,1,_,rfl,rfl,SqT.of hzG4,zad (j:=1) rfl, ?_⟩
   refine⟨_,rfl,z,_,2,_,rfl,rfl,SqT.of hzG4,zad (j:=2) rfl,y,_,0,_,rfl,rfl,SqT.of hy,zad (j:=0) rfl,_,_,rfl,rfl,⟨sb.mono (by (first|lia|omega)),eb.s1.mono (by decide)⟩, ?_⟩
   refine⟨_,rfl,z,_,2,_,rfl,rfl,SqT.of hzG4,zad (j:=2) rfl,y,_,1,_,rfl,rfl,SqT.of hy,zad (j:=1) rfl,_,_,rfl,eb.pos,eb.s2.mono (by decide),fun q G5 s5 hq=> ?_⟩
   exact k _ G5 (S4.trans s5) ⟨q,rfl,hq⟩
  rw[decide_eq_false c6]
  rw[if_neg c6] at k
  have e3:paL kd N n=[.str "spread",shD (mnZ kd N),shD (sdZ kd N)]:=by unfold paL;rw[if_neg c4,if_neg c6]
  rw[c5,e3] at alG4
  obtain⟨x,y,hus3,hx,hy⟩:∃x y,us=[.str "spread",.ref x,.ref y]/\Shr G4 x (mnZ kd N)/\Shr G4 y (sdZ kd N):=by
   cases alG4 with
   | cons h1 h2=>
    cases h1
    cases h2 with
    | cons h3 h4=>
     cases h4 with
     |cons h5 h6=>
      cases h6
      obtain⟨x,rfl,hx⟩:=zbg h3
      obtain⟨y,rfl,hy⟩:=zbg h5
      exact⟨x,y,rfl,hx,hy⟩
  rw[hus3] at hzG4
  have mb:=zdh (kind:=kd) n0 hN
  have db:=zdi (kind:=kd) n0 hN
  have fb:=zc7 (kind:=kd) (k:=(n:Int)) n0 hN (by (first|lia|omega)) (by (first|lia|omega))
  refine iteF ⟨_,rfl,z,_,1,_,rfl,rfl,SqT.of hzG4,zad (j:=1) rfl,_,rfl,z,_,2,_,rfl,rfl,SqT.of hzG4,zad (j:=2) rfl,_,_,rfl, ?_⟩
  refine⟨_,rfl,_,rfl,x,_,1,_,rfl,rfl,SqT.of hx,zad (j:=1) rfl,_,_,rfl,rfl,⟨Sm.of (Nat.lt_of_le_of_lt (show ((n:Int)).natAbs<=60 by (first|lia|omega)) (by decide+kernel)),mb.s2.mono (by decide)⟩,_,rfl,x,_,0,_,rfl,rfl,SqT.of hx,zad (j:=0) rfl,_,_,rfl,rfl, ?_⟩
  refine⟨_,rfl,_,_,rfl,rfl,_,rfl, ?_⟩
  by_cases c7:0<farZ kd N n
  ·rw [decide_eq_true (show (0:Int)<(n:Int)*(mnZ kd N).2-(mnZ kd N).1 from c7)]
   rw[if_pos c7] at k
   refine iteT ?_
   refine⟨_,rfl,y,_,0,_,rfl,rfl,SqT.of hy,zad (j:=0) rfl,_,rfl,x,_,1,_,rfl,rfl,SqT.of hx,zad (j:=1) rfl,_,_,rfl,rfl,⟨db.s1.mono (by decide),mb.s2.mono (by decide)⟩,_,rfl,x,_,1,_,rfl,rfl,SqT.of hx,zad (j:=1) rfl,_,_,rfl,rfl,⟨(db.s1.mul mb.s2).mono (by decide),mb.s2.mono (by decide)⟩, ?_⟩
   refine⟨_,rfl,y,_,1,_,rfl,rfl,SqT.of hy,zad (j:=1) rfl,_,rfl,_,_,rfl,rfl,⟨db.s2.mono (by decide),fb.mono (by decide)⟩,_,rfl,_,_,rfl,rfl,⟨(db.s2.mul fb).mono (by decide),fb.mono (by decide)⟩, ?_⟩
   refine⟨_,_,rfl,zbF n0 hN c7, ?_,fun q G5 s5 hq=>k _ G5 (S4.trans s5) ⟨q,rfl,hq⟩⟩
   show Sm ((sdZ kd N).2*farZ kd N n*farZ kd N n) 8000
   exact ((db.s2.mul fb).mul fb).mono (by decide)
  ·rw [decide_eq_false (show ¬(0:Int)<(n:Int)*(mnZ kd N).2-(mnZ kd N).1 from c7)]
   rw[if_neg c7] at k
   exact iteF (k _ _ S4 rfl)
end
end K64
namespace L2
open PySem PySem.Spec PyProof.Rows
theorem pw40 (n:Nat)(h:n<=40):(0:Int)<=(n:Int)/\(Builtin.Int.intBits (10:Int):Int)*(n:Int)<=2^27:=by
 have h10:Builtin.Int.intBits (10:Int)<=4:=intBits_le_iff.mpr (by decide)
 refine⟨by (first|lia|omega), ?_⟩
 have:(Builtin.Int.intBits (10:Int):Int)*(n:Int)<=4*40:=Int.mul_le_mul (by (first|lia|omega)) (by (first|lia|omega)) (by (first|lia|omega)) (by (first|lia|omega))
 (first|lia|omega)
noncomputable def sh40 (s:Int):Int×Int:=(s,10^40)
theorem sh40_b:ShB (sh40 1) 134/\ShB (sh40 (-1)) 134:=⟨⟨by decide+kernel,Sm.of (by decide+kernel),Sm.of (by decide+kernel)⟩,⟨by decide+kernel,Sm.of (by decide+kernel),Sm.of (by decide+kernel)⟩⟩
theorem zh7 {p q:Int×Int}{m n:Nat}(h:ShB p m)(k:ShB q n):ShB (plZ p q) (m+n+1):=
 ShB.low (Int.mul_pos h.pos k.pos) (Sm.add (h.s1.mul k.s2) ((k.s1.mul h.s2).mono (by (first|lia|omega)))) ((h.s2.mul k.s2).mono (by (first|lia|omega)))
theorem zjr (a b:Int)(h:0<b)(n:Nat)(h1:Sm a n)(h2:Sm b n):ShB (a,b) n:=⟨h,h1,h2⟩
noncomputable def zjs (H:Hp)(n:Nat)(ys:List V):Prop:=∀y∈ys,∃a b,y=.ref a/\Shr H a b/\ShB b n
noncomputable def spAr:Sp:=fun vs H Q _=>∃(v:V) (o:Option (Int×Int)) (n:Nat),vs=[v]/\LsV H v o/\(∀l,o=some l->ShB l n)/\n<=7000/\∀L ys H',Same H H'->H' L=some (.lst ys)->ys.length<=6->zjs H' (n+140) ys->Q (.ref L) H'
theorem zi2 {kind:Str}{N k:Nat}(hN:(N:Int)<=10^30)(hk:k<=60){ds:List PyData}(hT:ThE ds){l:Int×Int}(h:lsZ kind N k ds=some l):ShB l 6900/\(kind= "rounds" ∨kind= "highs" ->ShB l 2500):=by
 have n0:(0:Int)<=(N:Int):=by (first|lia|omega)
 have one:ShB ((1:Int),(1:Int)) 10:=zjr _ _ (by decide) _ (Sm.of (by decide)) (Sm.of (by decide))
 unfold lsZ at h
 split at h
 ·split at h
  ·cases h
   exact⟨one.mono (by decide),fun _=>one.mono (by decide)⟩
  ·cases h
 ·split at h
  ·cases h
  ·next c1=>
   split at h
   ·next c2=>
    split at h
    ·cases h
     have l2:ds.length=2:=by
      have e:paL kind N k=[.str "groups",.int (figZ N)]:=by unfold paL;rw[if_pos c2]
      have:ds.length=(paL kind N k).length:=Classical.not_not.mp fun z=>c1 (.inr (.inl z))
      rw[this,e]
      rfl
     obtain⟨m,hm,ms⟩:=hT.two _ _ (zg6 l2)
     rw[hm]
     have ps:∀i:Nat,Sm (m^i) (40*i+1):=fun i=>by
      induction i with
      |zero=>exact Sm.of (show (m^0).natAbs<2^(40*0+1) by rw[Int.pow_zero];decide)
      |succ i ih=>rw[Int.pow_succ];exact (ih.mul ms).mono (by (first|lia|omega))
     have:ShB (lowZ (m^k) (fcZ k)) 2500:=ShB.low (zaj k) ((ps k).mono (by (first|lia|omega))) ((zau (by (first|lia|omega))).mono (by decide))
     exact⟨this.mono (by decide),fun _=>this⟩
    ·cases h
   ·next c2=>
    refine⟨?_,fun z=>absurd z c2⟩
    split at h
    ·cases h
    ·split at h
     ·cases h
      have eb:=zc8 (kind:=kind) hN hk
      have sb:=zey n0 hN k hk
      have e1:Sm (eaZ kind N k).1 1:=by
       unfold eaZ
       split
       ·exact Sm.of (show (1:Int).natAbs<2^1 by decide)
       ·exact Sm.of (show (0:Int).natAbs<2^1 by decide)
      exact ShB.low eb.pos ((sb.mul e1).mono (by (first|lia|omega))) (eb.s2.mono (by decide))
     ·split at h
      ·next c3=>
       cases h
       have mb:=zdh (kind:=kind) n0 hN
       have db:=zdi (kind:=kind) n0 hN
       have fb:=zc7 (kind:=kind) (k:=(k:Int)) n0 hN (by (first|lia|omega)) (by (first|lia|omega))
       refine ShB.low (zbF n0 hN c3) ?_ ?_
       ·show Sm ((sdZ kind N).1*(mnZ kind N).2*(mnZ kind N).2) 6900
        exact ((db.s1.mul mb.s2).mul mb.s2).mono (by decide)
       ·show Sm ((sdZ kind N).2*farZ kind N k*farZ kind N k) 6900
        exact ((db.s2.mul fb).mul fb).mono (by decide)
      ·cases h
end L2
namespace K64
open PySem PySem.Spec PyProof.Rows L2
noncomputable abbrev zas:Stmt:=top 81
section
variable {P:Program}{w:World}{K:PySem.W.Frag}{mg:Str->Option Value}{base:Heap}
theorem zcZ:FnScope ["_law_least_here"] ["_law_least_here"] (zac zas):=⟨rfl,rfl,rfl,by decide+kernel,rfl,by decide+kernel,by decide+kernel⟩
set_option maxHeartbeats 8000000 in
noncomputable def zh8 {f:Addr}{cdv:Value}{A:Around}{outer:List Env}{s:Shared}{H:Hp}{E:XK}(hr:Room 2 (A.deeper (envOfC "_law_around" (zac zas) s.heap.objs.size f cdv)))(C_law_sum:Cal P w K mg base 2 "_law_sum" ["_law_one", "_law_two"] zfv):{t:TS//PSsw (cxOf CX0 P w K mg base ["_law_least_here"] "_law_around" (zac zas) f cdv A outer s H E).nox (zat zas) t}:=⟨_,
   (Wr.pss_cons (Wr.ps_if (Wr.pt_cmpR zdK (Wr.pv 0) Wr.pe_non (zag _))
    (Wr.pss_one (Wr.ps_ret (Wr.pe_lst (Wr.pa_cons (Wr.pe_tup (Wr.pa_cons Wr.pe_int (Wr.pa_cons Wr.pe_int Wr.pa_nil))) (Wr.pa_cons (Wr.pe_tup (Wr.pa_cons Wr.pe_int (Wr.pa_cons Wr.pe_int Wr.pa_nil))) (Wr.pa_cons (Wr.pe_tup (Wr.pa_cons (Wr.pe_op zbS Wr.pe_int Wr.pe_int) (Wr.pa_cons Wr.pe_int Wr.pa_nil))) (Wr.pa_cons (Wr.pe_tup (Wr.pa_cons Wr.pe_int (Wr.pa_cons Wr.pe_int Wr.pa_nil))) (Wr.pa_cons (Wr.pe_tup (Wr.pa_cons (Wr.pe_un zb2 Wr.pe_int) (Wr.pa_cons Wr.pe_int Wr.pa_nil))) Wr.pa_nil))))))))
    Wr.pss_nil)
   (Wr.pss_one (Wr.ps_ret (Wr.pe_lst (Wr.pa_cons (Wr.pv 0) (Wr.pa_cons (Wr.pe_cal C_law_sum (hr.mono (by decide)) rfl (Wr.pa_cons (Wr.pv 0) (Wr.pa_cons (Wr.pe_tup (Wr.pa_cons (Wr.pe_un zb2 Wr.pe_int) (Wr.pa_cons (Wr.pe_op zbS Wr.pe_int Wr.pe_int) Wr.pa_nil))) Wr.pa_nil))) (Wr.pa_cons (Wr.pe_cal C_law_sum (hr.mono (by decide)) rfl (Wr.pa_cons (Wr.pv 0) (Wr.pa_cons (Wr.pe_tup (Wr.pa_cons Wr.pe_int (Wr.pa_cons (Wr.pe_op zbS Wr.pe_int Wr.pe_int) Wr.pa_nil))) Wr.pa_nil))) (Wr.pa_cons (Wr.pe_tup (Wr.pa_cons Wr.pe_int (Wr.pa_cons Wr.pe_int Wr.pa_nil))) (Wr.pa_cons (Wr.pe_tup (Wr.pa_cons Wr.pe_int (Wr.pa_cons Wr.pe_int Wr.pa_nil))) (Wr.pa_cons (Wr.pe_tup (Wr.pa_cons (Wr.pe_un zb2 Wr.pe_int) (Wr.pa_cons Wr.pe_int Wr.pa_nil))) Wr.pa_nil))))))))))⟩
set_option maxHeartbeats 8000000 in
theorem zc0 {f:Addr}{fd:FuncData}(F:Fun K "_law_around" "_law_around" zas f fd)(C_law_sum:Cal P w K mg base 2 "_law_sum" ["_law_one", "_law_two"] zfv):FnOk P w K mg base CX0 3 f fd ["_law_least_here"] spAr:=by
 refine F.ok zcZ (fun vs H Q E h=> ?_) (fun cdv A outer s H vs Q E hr h=> ?_)
 ·obtain ⟨v,o,n,rfl,_⟩:=h
  rfl
 ·obtain ⟨v,o,n,rfl,hv,hb,hn,k⟩:=h
  refine⟨_,(zh8 (P:=P) (w:=w) (base:=base) (E:=E) (outer:=outer) (s:=s) (H:=H) (f:=f) (cdv:=cdv) (A:=A) hr C_law_sum).2.h, ?_⟩
  have p9:(0:Int)<=9/\(Builtin.Int.intBits (10:Int):Int)*9<=2^27:=pw40 9 (by decide)
  have p4:(0:Int)<=40/\(Builtin.Int.intBits (10:Int):Int)*40<=2^27:=pw40 40 (by decide)
  have bi:∀a b:Int,0<b->a.natAbs<2^40->b.natAbs<2^40->ShB (a,b) (n+140):=fun a b h0 h1 h2=>ShB.mono (m:=40) ⟨h0,Sm.of h1,Sm.of h2⟩ (by (first|lia|omega))
  have b1:=bi 1 1 (by decide) (by decide) (by decide)
  have b2:=bi 0 1 (by decide) (by decide) (by decide)
  have b3:=bi (-1) 2 (by decide) (by decide) (by decide)
  have b4:=bi 3 2 (by decide) (by decide) (by decide)
  have b5:=bi (10^9) 1 (by decide) (by decide) (by decide)
  cases o with
  |none=>
   cases hv
   refine⟨_,rfl,rfl, ?_⟩
   rw[decide_eq_true (show V.non=V.non from rfl)]
   refine⟨_,rfl,iteT ?_⟩
   refine⟨by show 2<=sizeLine;decide,fun y1 h1=> ?_⟩
   have s1:=zaa (o:=.tup [.int (1),.int (1)]) h1
   have e1:Shr (upd H y1 (.tup [.int (1),.int (1)])) y1 (1,1):=zab
   generalize upd H y1 (.tup [.int (1),.int (1)])=G1 at*
   refine⟨by show 2<=sizeLine;decide,fun y2 h2=> ?_⟩
   have s2:=zaa (o:=.tup [.int (3),.int (2)]) h2
   have e2:Shr (upd G1 y2 (.tup [.int (3),.int (2)])) y2 (3,2):=zab
   generalize upd G1 y2 (.tup [.int (3),.int (2)])=G2 at*
   refine⟨_,_,rfl,rfl,p9,by show 2<=sizeLine;decide,fun y3 h3=> ?_⟩
   have s3:=zaa (o:=.tup [.int (10^(9:Int).toNat),.int (1)]) h3
   have e3:Shr (upd G2 y3 (.tup [.int (10^(9:Int).toNat),.int (1)])) y3 (10^(9:Int).toNat,1):=zab
   refine⟨by show 2<=sizeLine;decide,fun y4 h4=> ?_⟩
   have s4:=zaa (o:=.tup [.int (0),.int (1)]) h4
   have e4:Shr (upd (upd G2 y3 (.tup [.int (10^(9:Int).toNat),.int (1)])) y4 (.tup [.int (0),.int (1)])) y4 (0,1):=zab
   generalize upd (upd G2 y3 (.tup [.int (10^(9:Int).toNat),.int (1)])) y4 (.tup [.int (0),.int (1)])=G4 at*
   refine⟨_,rfl,by show 2<=sizeLine;decide,fun y5 h5=> ?_⟩
   have s5:=zaa (o:=.tup [.int (-1),.int (2)]) h5
   have e5:Shr (upd G4 y5 (.tup [.int (-1),.int (2)])) y5 (-1,2):=zab
   refine⟨by show 5<=sizeLine;decide,fun L hL=> ?_⟩
   have sL:=zaa (o:=.lst [.ref y1,.ref y2,.ref y3,.ref y4,.ref y5]) hL
   refine k L _ _ (s1.trans (s2.trans (s3.trans (s4.trans (s5.trans sL))))) zab (by show 5<=6;decide) fun y hy=> ?_
   simp only[List.mem_cons,List.not_mem_nil,or_false] at hy
   rcases hy with rfl|rfl|rfl|rfl|rfl
   ·exact⟨_,_,rfl,sL _ _ (s5 _ _ (s4 _ _ (s3 _ _ (s2 _ _ e1)))),b1⟩
   ·exact⟨_,_,rfl,sL _ _ (s5 _ _ (s4 _ _ (s3 _ _ e2))),b4⟩
   ·exact⟨_,_,rfl,sL _ _ (s5 _ _ (s4 _ _ e3)),b5⟩
   ·exact⟨_,_,rfl,sL _ _ (s5 _ _ e4),b2⟩
   ·exact⟨_,_,rfl,sL _ _ e5,b3⟩
  |some l=>
   obtain⟨y0,rfl,hl⟩:=hv
   have bl:=hb l rfl
   refine⟨_,rfl,rfl, ?_⟩
   rw[decide_eq_false (show ¬V.ref y0=V.non from fun e=>by cases e)]
   refine⟨_,rfl,iteF ?_⟩
   refine⟨_,rfl,_,rfl, ?_⟩
   refine⟨_,rfl,_,_,rfl,rfl,p4,by show 2<=sizeLine;decide,fun y1 h1=> ?_⟩
   have s1:=zaa (o:=.tup [.int (-1),.int (10^(40:Int).toNat)]) h1
   have e1:Shr (upd H y1 (.tup [.int (-1),.int (10^(40:Int).toNat)])) y1 (-1,10^(40:Int).toNat):=zab
   refine⟨y0,y1,l,sh40 (-1),rfl,s1 _ _ hl,e1,bl.mono hn,sh40_b.2.mono (by decide),fun z1 G2 s2 hz1=> ?_⟩
   refine⟨_,rfl, ?_⟩
   refine⟨_,_,rfl,rfl,p4,by show 2<=sizeLine;decide,fun y3 h3=> ?_⟩
   have s3:=zaa (o:=.tup [.int (1),.int (10^(40:Int).toNat)]) h3
   have e3:Shr (upd G2 y3 (.tup [.int (1),.int (10^(40:Int).toNat)])) y3 (1,10^(40:Int).toNat):=zab
   refine⟨y0,y3,l,sh40 1,rfl,s3 _ _ (s2 _ _ (s1 _ _ hl)),e3,bl.mono hn,sh40_b.1.mono (by decide),fun z2 G4 s4 hz2=> ?_⟩
   refine⟨by show 2<=sizeLine;decide,fun y5 h5=> ?_⟩
   have s5:=zaa (o:=.tup [.int (1),.int (1)]) h5
   have e5:Shr (upd G4 y5 (.tup [.int (1),.int (1)])) y5 (1,1):=zab
   generalize upd G4 y5 (.tup [.int (1),.int (1)])=G5 at*
   refine⟨by show 2<=sizeLine;decide,fun y6 h6=> ?_⟩
   have s6:=zaa (o:=.tup [.int (0),.int (1)]) h6
   have e6:Shr (upd G5 y6 (.tup [.int (0),.int (1)])) y6 (0,1):=zab
   generalize upd G5 y6 (.tup [.int (0),.int (1)])=G6 at*
   refine⟨_,rfl,by show 2<=sizeLine;decide,fun y7 h7=> ?_⟩
   have s7:=zaa (o:=.tup [.int (-1),.int (2)]) h7
   have e7:Shr (upd G6 y7 (.tup [.int (-1),.int (2)])) y7 (-1,2):=zab
   refine⟨by show 6<=sizeLine;decide,fun L hL=> ?_⟩
   have sL:=zaa (o:=.lst [.ref y0,.ref z1,.ref z2,.ref y5,.ref y6,.ref y7]) hL
   have S4:=(s1.trans (s2.trans (s3.trans s4)))
   have S7:=s5.trans (s6.trans (s7.trans sL))
   refine k L _ _ (S4.trans S7) zab (by show 6<=6;decide) fun y hy=> ?_
   simp only[List.mem_cons,List.not_mem_nil,or_false] at hy
   rcases hy with rfl|rfl|rfl|rfl|rfl|rfl
   ·exact⟨_,_,rfl,S7 _ _ (S4 _ _ hl),bl.mono (by (first|lia|omega))⟩
   ·exact⟨_,_,rfl,S7 _ _ (s4 _ _ (s3 _ _ hz1)),(zh7 bl sh40_b.2).mono (by (first|lia|omega))⟩
   ·exact⟨_,_,rfl,S7 _ _ hz2,(zh7 bl sh40_b.1).mono (by (first|lia|omega))⟩
   ·exact⟨_,_,rfl,sL _ _ (s7 _ _ (s6 _ _ e5)),b1⟩
   ·exact⟨_,_,rfl,sL _ _ (s7 _ _ e6),b2⟩
   ·exact⟨_,_,rfl,sL _ _ e7,b3⟩
end
end K64
namespace L2
open PySem PySem.Spec PyProof.Rows
theorem zh9 {xs:List V}{i:Nat}(h:i<=xs.length):cutV xs none (some (i:Int))=xs.take i:=by
 unfold cutV
 have e1:HT.sIx xs.length 0 none=0:=rfl
 have e2:HT.sIx xs.length xs.length (some (i:Int))=i:=by
  simp only[HT.sIx]
  split<;>(first|lia|omega)
 rw[e1,e2,List.drop_zero,Nat.sub_zero]
theorem zem {xs:List V}{i:Nat}(h:i<=xs.length):cutV xs (some (i:Int)) none=xs.drop i:=by
 unfold cutV
 have e2:HT.sIx xs.length 0 (some (i:Int))=i:=by
  simp only[HT.sIx]
  split<;>(first|lia|omega)
 have e1:HT.sIx xs.length xs.length none=xs.length:=rfl
 rw[e1,e2,List.take_of_length_le]
 rw[List.length_drop]
 exact Nat.le_refl _
theorem zgE {xs:List V}(h:0<xs.length):cutV xs (some (-1)) none=xs.drop (xs.length-1):=by
 unfold cutV
 have e2:HT.sIx xs.length 0 (some (-1))=xs.length-1:=by
  simp only[HT.sIx]
  split<;>(first|lia|omega)
 have e1:HT.sIx xs.length xs.length none=xs.length:=rfl
 rw[e1,e2,List.take_of_length_le]
 rw[List.length_drop]
 exact Nat.le_refl _
theorem zgF {H:Hp}:∀{v:List V} {d:List PyData} (k:Nat),IsAllY NoS H v d->IsAllY NoS H (v.take k) (d.take k)
 |_,_,0,_=>.nil
 |_,_,_+1,.nil=>.nil
 |_,_,k+1,.cons h t=>.cons h (zgF k t)
theorem zdD {H:Hp}:∀{v:List V} {d:List PyData} (k:Nat),IsAllY NoS H v d->IsAllY NoS H (v.drop k) (d.drop k)
 |_,_,0,h=>h
 |_,_,_+1,.nil=>.nil
 |_,_,k+1,.cons _ t=>zdD k t
theorem zdE {p:Addr}{H H':Hp}(h:Pot2 H p)(k:Keep p p H H'){v:List V}{d:List PyData}(a:IsAllY NoS H v d):IsAllY NoS H' v d:=by
 refine IsAllY.map (fun _ z=>z) (fun b xs e=>h.keepT k e) (fun _ _ z=>z.elim) (fun b xs e=> ?_) a
 obtain⟨o,m,h1,_⟩:=h
 have:b≠p:=fun z=>by rw[z,h1] at e;cases e
 exact k b _ e this this
noncomputable def PpF (ds:List PyData):Prop:=(∃t n,ds=[.str t,.int n]/\t∈zbq/\Sm n 39)∨(∃t n p,ds=[.str t,.int n,shD p]/\t∈zbq/\Sm n 6400/\ShB p 6400)∨∃t p q,ds=[.str t,shD p,shD q]/\t∈zbq/\ShB p 6400/\ShB q 6400
theorem zhb {kind:Str}{N k:Nat}(hN:(N:Int)<=10^30)(hk:k<=60){more:Int}(m0:0<=more)(m1:more<=1000000):PpF (lpZ kind N k more):=by
 have n0:(0:Int)<=(N:Int):=by (first|lia|omega)
 have hB:=zda hN
 have fl:0<=figZ N/\figZ N<=102:=by
  have:=zgx n0 hB
  unfold figZ
  unfold Sm at this
  (first|lia|omega)
 unfold lpZ
 split
 ·exact .inl ⟨_,_,rfl,by decide,Sm.mono (Sm.of (show (figZ N+more).natAbs<2^21 by (first|lia|omega))) (by decide)⟩
 ·split
  ·exact .inr (.inr ⟨_,_,_,rfl,by decide,(zhr n0 hB).mono (by decide),(zhs n0 hB).mono (by decide)⟩)
  ·split
   ·exact .inr (.inl ⟨_,0,(0,1),rfl,by decide,Sm.of (by decide+kernel),⟨by decide,Sm.of (by decide+kernel),Sm.of (by decide+kernel)⟩⟩)
   ·have ds:=zg7 hB k (by (first|lia|omega))
    have dp:=ze5 (N:=N) (k:=k) (by (first|lia|omega))
    have f0:=zaj k
    have fs:Sm (fcZ k) 340:=zau (by (first|lia|omega))
    refine .inr (.inl ⟨_,_,_,rfl,by decide,Sm.mono (Sm.le ds ?_) (by (first|lia|omega)), ?_⟩)
    ·have q:=Int.ediv_le_self (fcZ k) (Int.le_of_lt dp)
     have r:=Int.ediv_nonneg (Int.le_of_lt dp) (Int.le_of_lt f0)
     (first|lia|omega)
    ·split
     ·exact⟨dp,sm1.mono (by decide),ds.mono (by (first|lia|omega))⟩
     ·exact⟨f0,sm1.mono (by decide),fs.mono (by decide)⟩
theorem zen {n:Int}{m:Nat}(h:Sm n m)(hm:m<=6500):El2 (.int n):=.inl ⟨n,rfl,h.mono hm⟩
theorem zdF {p:Int×Int}{m:Nat}(h:ShB p m)(hm:m<=6500):El2 (shD p):=.inr ⟨p,rfl,h.mono hm⟩
theorem PpF.len {ds:List PyData}(h:PpF ds):ds.length=2∨ds.length=3:=by
 rcases h with⟨t,n,rfl,_⟩|⟨t,n,p,rfl,_⟩|⟨t,p,q,rfl,_⟩
 ·exact .inl rfl
 ·exact .inr rfl
 ·exact .inr rfl
theorem PpF.els {ds:List PyData}(h:PpF ds):∃t r,ds=.str t::r/\t∈zbq/\∀d∈r,El2 d:=by
 rcases h with⟨t,n,rfl,ht,hn⟩|⟨t,n,p,rfl,ht,hn,hp⟩|⟨t,p,q,rfl,ht,hp,hq⟩
 ·refine ⟨_,_,rfl,ht,fun d hd=> ?_⟩
  rw[List.mem_singleton.mp hd]
  exact zen hn (by decide)
 ·refine ⟨_,_,rfl,ht,fun d hd=> ?_⟩
  simp only[List.mem_cons,List.not_mem_nil,or_false] at hd
  rcases hd with rfl|rfl
  ·exact zen hn (by decide)
  ·exact zdF hp (by decide)
 ·refine ⟨_,_,rfl,ht,fun d hd=> ?_⟩
  simp only[List.mem_cons,List.not_mem_nil,or_false] at hd
  rcases hd with rfl|rfl
  ·exact zdF hp (by decide)
  ·exact zdF hq (by decide)
theorem PpF.thE {ds:List PyData}(h:PpF ds):ThE ds:=by
 refine⟨h.els,by have:=h.len;(first|lia|omega),fun d0 d1 e=> ?_⟩
 rcases h with⟨t,n,rfl,ht,hn⟩|⟨t,n,p,rfl,ht,hn,hp⟩|⟨t,p,q,rfl,ht,hp,hq⟩
 ·cases e
  exact⟨_,rfl,hn.mono (by decide)⟩
 ·cases e
 ·cases e
theorem PpF.word {ds:List PyData}(h:PpF ds){t:Str}(ht:t∈zbq):ThE (.str t::ds.drop 1):=by
 refine PpF.thE ?_
 rcases h with⟨t',n,rfl,_,hn⟩|⟨t',n,p,rfl,_,hn,hp⟩|⟨t',p,q,rfl,_,hp,hq⟩
 ·exact .inl ⟨t,n,rfl,ht,hn⟩
 ·exact .inr (.inl ⟨t,n,p,rfl,ht,hn,hp⟩)
 ·exact .inr (.inr ⟨t,p,q,rfl,ht,hp,hq⟩)
theorem PpF.twice {ds:List PyData}(h:PpF ds):ThE (ds++ds.drop (ds.length-1)):=by
 obtain⟨t,r,e,ht,hr⟩:=h.els
 have hl:=h.len
 refine⟨⟨t,r++ds.drop (ds.length-1),by rw[e];rfl,ht,fun d hd=> ?_⟩, ?_,fun d0 d1 z=> ?_⟩
 ·rcases List.mem_append.mp hd with hd|hd
  ·exact hr d hd
  ·rw [e] at hd
   cases r with
   |nil=>rw[e] at hl;simp at hl
   |cons a s=>
    have:List.drop ((PyData.str t::a::s).length-1) (PyData.str t::a::s)=List.drop s.length (a::s):=by simp
    rw[this] at hd
    exact hr d (List.mem_of_mem_drop hd)
 ·rw [List.length_append,List.length_drop]
  (first|lia|omega)
 ·have:=congrArg List.length z
  rw[List.length_append,List.length_drop] at this
  simp only[List.length_cons,List.length_nil] at this
  (first|lia|omega)
noncomputable def Alt (d e:PyData):Prop:=(∃n m,d=.int n/\e=.int m/\m.natAbs<=n.natAbs+1)∨∃p q,d=shD p/\e=shD q/\(ShB p 6400->ShB q 6450)
theorem zia {n m:Int}{f:Nat}(h:Sm n f)(k:m.natAbs<=n.natAbs+1):Sm m (f+1):=by
 have:=h.lt
 have e:2^(f+1)=2^f*2:=Nat.pow_succ ..
 have p:0<2^f:=Nat.pow_pos (by decide)
 exact Sm.of (by (first|lia|omega))
theorem PpF.alt {ds:List PyData}(h:PpF ds){j:Nat}{d e:PyData}(h1:1<=j)(hd:ds[j]? =some d)(a:Alt d e):ThE (ds.take j++e::ds.drop (j+1)):=by
 have fInt:∀{n:Int} {f:Nat},Alt (.int n) e->Sm n f->∃m,e=.int m/\Sm m (f+1):=fun {n} {f} a s=>by
  rcases a with⟨n',m,q,rfl,hm⟩|⟨p,q,z,_⟩
  ·cases q
   exact⟨m,rfl,zia s hm⟩
  ·cases z
 have fSh:∀{p:Int×Int},Alt (shD p) e->ShB p 6400->∃q,e=shD q/\ShB q 6450:=fun {p} a s=>by
  rcases a with⟨n',m,q,_⟩|⟨p',q,z,rfl,hq⟩
  ·cases q
  ·obtain ⟨a,b⟩:=p
   obtain⟨a',b'⟩:=p'
   cases z
   exact⟨q,rfl,hq s⟩
 rcases h with⟨t,n,rfl,ht,hn⟩|⟨t,n,p,rfl,ht,hn,hp⟩|⟨t,p,q,rfl,ht,hp,hq⟩
 ·match j,h1,hd with
  | 1,_,hd=>
   cases hd
   obtain⟨m,rfl,hm⟩:=fInt a hn
   refine⟨⟨t,[.int m],rfl,ht,fun d hd=> ?_⟩,by show 2<=4;decide,fun d0 d1 z=> ?_⟩
   ·rw [List.mem_singleton.mp hd]
    exact zen hm (by decide)
   ·cases z
    exact⟨_,rfl,hm⟩
  |j+2,_,hd=>simp at hd
 ·match j,h1,hd with
  |1,_,hd=>
   cases hd
   obtain⟨m,rfl,hm⟩:=fInt a hn
   refine⟨⟨t,[.int m,shD p],rfl,ht,fun d hd=> ?_⟩,by show 3<=4;decide,fun d0 d1 z=>by cases z⟩
   simp only[List.mem_cons,List.not_mem_nil,or_false] at hd
   rcases hd with rfl|rfl
   ·exact zen hm (by decide)
   ·exact zdF hp (by decide)
  |2,_,hd=>
   cases hd
   obtain⟨q,rfl,hq⟩:=fSh a hp
   refine⟨⟨t,[.int n,shD q],rfl,ht,fun d hd=> ?_⟩,by show 3<=4;decide,fun d0 d1 z=>by cases z⟩
   simp only[List.mem_cons,List.not_mem_nil,or_false] at hd
   rcases hd with rfl|rfl
   ·exact zen hn (by decide)
   ·exact zdF hq (by decide)
  |j+3,_,hd=>simp at hd
 ·match j,h1,hd with
  |1,_,hd=>
   cases hd
   obtain⟨q',rfl,hq'⟩:=fSh a hp
   refine⟨⟨t,[shD q',shD q],rfl,ht,fun d hd=> ?_⟩,by show 3<=4;decide,fun d0 d1 z=>by cases z⟩
   simp only[List.mem_cons,List.not_mem_nil,or_false] at hd
   rcases hd with rfl|rfl
   ·exact zdF hq' (by decide)
   ·exact zdF hq (by decide)
  |2,_,hd=>
   cases hd
   obtain⟨q',rfl,hq'⟩:=fSh a hq
   refine⟨⟨t,[shD p,shD q'],rfl,ht,fun d hd=> ?_⟩,by show 3<=4;decide,fun d0 d1 z=>by cases z⟩
   simp only[List.mem_cons,List.not_mem_nil,or_false] at hd
   rcases hd with rfl|rfl
   ·exact zdF hp (by decide)
   ·exact zdF hq' (by decide)
  |j+3,_,hd=>simp at hd
theorem PpF.part {ds:List PyData}(h:PpF ds){j:Nat}{d:PyData}(h1:1<=j)(hd:ds[j]? =some d):(∃n,d=.int n/\Sm n 6400)∨∃p,d=shD p/\ShB p 6400:=by
 rcases h with⟨t,n,rfl,ht,hn⟩|⟨t,n,p,rfl,ht,hn,hp⟩|⟨t,p,q,rfl,ht,hp,hq⟩
 ·match j,h1,hd with
  |1,_,hd=>cases hd;exact .inl ⟨_,rfl,hn.mono (by decide)⟩
  |j+2,_,hd=>simp at hd
 ·match j,h1,hd with
  |1,_,hd=>cases hd;exact .inl ⟨_,rfl,hn⟩
  |2,_,hd=>cases hd;exact .inr ⟨_,rfl,hp⟩
  |j+3,_,hd=>simp at hd
 ·match j,h1,hd with
  |1,_,hd=>cases hd;exact .inr ⟨_,rfl,hp⟩
  |2,_,hd=>cases hd;exact .inr ⟨_,rfl,hq⟩
  |j+3,_,hd=>simp at hd
noncomputable def PpA (H:Hp)(z:Addr):Prop:=∃us ds,H z=some (.tup us)/\IsAllY NoS H us ds/\PpF ds
noncomputable def ThA (H:Hp)(z:Addr):Prop:=∃us ds,H z=some (.tup us)/\IsAllY NoS H us ds/\ThE ds
theorem PpA.thA {H:Hp}{z:Addr}(h:PpA H z):ThA H z:=by
 obtain⟨us,ds,h1,h2,h3⟩:=h
 exact⟨us,ds,h1,h2,h3.thE⟩
theorem PpA.same {H H':Hp}(s:Same H H'){z:Addr}(h:PpA H z):PpA H' z:=by
 obtain⟨us,ds,h1,h2,h3⟩:=h
 exact⟨us,ds,s _ _ h1,h2.same s,h3⟩
theorem ThA.same {H H':Hp}(s:Same H H'){z:Addr}(h:ThA H z):ThA H' z:=by
 obtain⟨us,ds,h1,h2,h3⟩:=h
 exact⟨us,ds,s _ _ h1,h2.same s,h3⟩
theorem PpA.keep {p:Addr}{H H':Hp}(hp:Pot2 H p)(k:Keep p p H H'){z:Addr}(h:PpA H z):PpA H' z:=by
 obtain⟨us,ds,h1,h2,h3⟩:=h
 exact⟨us,ds,hp.keepT k h1,zdE hp k h2,h3⟩
theorem ThA.keep {p:Addr}{H H':Hp}(hp:Pot2 H p)(k:Keep p p H H'){z:Addr}(h:ThA H z):ThA H' z:=by
 obtain⟨us,ds,h1,h2,h3⟩:=h
 exact⟨us,ds,hp.keepT k h1,zdE hp k h2,h3⟩
noncomputable def zdG:Sp:=fun vs H Q _=>∃(p:Addr) (kind:Str) (N k:Nat) (z:Addr),vs=[.ref p,.str kind,.int N,.int k,.ref z]/\kind∈zai/\(N:Int)<=10^30/\k<=60/\Pot2 H p/\PpA H z/\∀y H',Pot2 H' p->Keep p p H H'->ThA H' y->Q (.ref y) H'
end L2
namespace K64
open PySem PySem.Spec PyProof.Rows L2
noncomputable abbrev zav:Stmt:=top 80
section
variable {P:Program}{w:World}{K:PySem.W.Frag}{mg:Str->Option Value}{base:Heap}
theorem sc__law_bent:FnScope ["_law_pot_here", "_law_kind", "_law_many", "_law_number_here", "_law_paper_here", "_law_way", "_law_at", "_law_others", "_law_part"] ["_law_pot_here", "_law_kind", "_law_many", "_law_number_here", "_law_paper_here"] (zac zav):=⟨rfl,rfl,rfl,by decide+kernel,rfl,by decide+kernel,by decide+kernel⟩
set_option maxHeartbeats 8000000 in
noncomputable def zjt {f:Addr}{cdv:Value}{A:Around}{outer:List Env}{s:Shared}{H:Hp}{E:XK}(hr:Room 3 (A.deeper (envOfC "_law_bent" (zac zav) s.heap.objs.size f cdv)))(T:Top mg)(C_law_next:Cal P w K mg base 1 "_law_next" ["_law_pot_here", "_law_many"] zaS)(C_law_of:Cal P w K mg base 2 "_law_of" ["_law_pot_here", "_law_some"] zex)(C_law_sum:Cal P w K mg base 2 "_law_sum" ["_law_one", "_law_two"] zfv)(C_law_paper:Cal P w K mg base 3 "_law_paper" ["_law_kind", "_law_many", "_law_number_here", "_law_more"] spLp):{t:TS//PSsw (cxOf CX0 P w K mg base ["_law_pot_here", "_law_kind", "_law_many", "_law_number_here", "_law_paper_here", "_law_way", "_law_at", "_law_others", "_law_part"] "_law_bent" (zac zav) f cdv A outer s H E).nox (zat zav) t}:=⟨_,
   (Wr.pss_cons (Wr.ps_par (i:=5) (j:=6) rfl sc__law_bent.nd rfl rfl (by decide) rfl rfl (Wr.pa_cons (Wr.pe_cal C_law_next (hr.mono (by decide)) rfl (Wr.pa_cons (Wr.pv 0) (Wr.pa_cons Wr.pe_int Wr.pa_nil))) (Wr.pa_cons (Wr.pe_cal C_law_next (hr.mono (by decide)) rfl (Wr.pa_cons (Wr.pv 0) (Wr.pa_cons Wr.pe_int Wr.pa_nil))) Wr.pa_nil)) rfl)
   (Wr.pss_cons ⟨zgO (i:=7) rfl sc__law_bent.nd rfl rfl (N':=["_law_one", "_law_kind"]) (n:=1) (ix:=[1]) rfl (CompScope.of (sc:=zac zav) (N:=["_law_pot_here", "_law_kind", "_law_many", "_law_number_here", "_law_paper_here", "_law_way", "_law_at", "_law_others", "_law_part"]) (by decide+kernel) rfl rfl) (pi_list (pe_lst (pa_cons pe_str (pa_cons pe_str (pa_cons pe_str (pa_cons pe_str (pa_cons pe_str (pa_cons pe_str pa_nil)))))))) (fun _ _ _ _ _=>⟨(zao (i:=0) (show (["_law_one", "_law_kind"]:List Str).Nodup by decide+kernel) rfl (Or.inl rfl)),(zhE (pt_cmpR zfe (pv 0) (pv 1) (zag _))),(pv 0)⟩)⟩
   (Wr.pss_cons (Wr.ps_if (Wr.pt_cmpR za1 (Wr.pv 5) Wr.pe_int (zag _))
    (Wr.pss_one (Wr.ps_ret (Wr.pe_cal C_law_paper (hr.mono (by decide)) rfl (Wr.pa_cons (Wr.pe_cal C_law_of (hr.mono (by decide)) rfl (Wr.pa_cons (Wr.pv 0) (Wr.pa_cons (Wr.pv 7) Wr.pa_nil))) (Wr.pa_cons (Wr.pv 2) (Wr.pa_cons (Wr.pv 3) (Wr.pa_cons Wr.pe_int Wr.pa_nil)))))))
    Wr.pss_nil)
   (Wr.pss_cons (Wr.ps_if (Wr.pt_cmpR za1 (Wr.pv 5) Wr.pe_int (zag _))
    (Wr.pss_one (Wr.ps_ret (Wr.pe_cal C_law_paper (hr.mono (by decide)) rfl (Wr.pa_cons (Wr.pv 1) (Wr.pa_cons (Wr.pv 2) (Wr.pa_cons (Wr.pe_cal C_law_of (hr.mono (by decide)) rfl (Wr.pa_cons (Wr.pv 0) (Wr.pa_cons (Wr.pe_lst (Wr.pa_cons (Wr.pe_op zar (Wr.pv 3) Wr.pe_int) (Wr.pa_cons (Wr.pe_callB (zaK rfl) (by rfl) T.n_max boot_max (Wr.pa_cons Wr.pe_int (Wr.pa_cons (Wr.pe_op zax (Wr.pv 3) Wr.pe_int) Wr.pa_nil))) Wr.pa_nil))) Wr.pa_nil))) (Wr.pa_cons Wr.pe_int Wr.pa_nil)))))))
    Wr.pss_nil)
   (Wr.pss_cons (Wr.ps_if (Wr.pt_cmpR za1 (Wr.pv 5) Wr.pe_int (zag _))
    (Wr.pss_one (Wr.ps_ret (Wr.pe_cal C_law_paper (hr.mono (by decide)) rfl (Wr.pa_cons (Wr.pv 1) (Wr.pa_cons (Wr.pe_callB (zaK rfl) (by rfl) T.n_max boot_max (Wr.pa_cons Wr.pe_int (Wr.pa_cons (Wr.pe_op zar (Wr.pv 2) (Wr.pe_cal C_law_of (hr.mono (by decide)) rfl (Wr.pa_cons (Wr.pv 0) (Wr.pa_cons (Wr.pe_lst (Wr.pa_cons Wr.pe_int (Wr.pa_cons (Wr.pe_un zb2 Wr.pe_int) (Wr.pa_cons (Wr.pv 2) Wr.pa_nil)))) Wr.pa_nil)))) Wr.pa_nil))) (Wr.pa_cons (Wr.pv 3) (Wr.pa_cons Wr.pe_int Wr.pa_nil)))))))
    Wr.pss_nil)
   (Wr.pss_cons (Wr.ps_if (Wr.pt_cmpR za1 (Wr.pv 5) Wr.pe_int (zag _))
    (Wr.pss_one (Wr.ps_ret (Wr.pe_op zcq (Wr.pe_tup (Wr.pa_cons (Wr.pe_cal C_law_of (hr.mono (by decide)) rfl (Wr.pa_cons (Wr.pv 0) (Wr.pa_cons (Wr.pe_lst (Wr.pa_cons Wr.pe_str (Wr.pa_cons Wr.pe_str (Wr.pa_cons Wr.pe_str (Wr.pa_cons Wr.pe_str (Wr.pa_cons Wr.pe_str Wr.pa_nil)))))) Wr.pa_nil))) Wr.pa_nil)) (Wr.pe_slice zbR (Wr.pv 4) (Wr.po_some Wr.pe_int) zdd))))
    Wr.pss_nil)
   (Wr.pss_cons (Wr.ps_if (Wr.pt_cmpR za1 (Wr.pv 5) Wr.pe_int (zag _))
    (Wr.pss_one (Wr.ps_ret (Wr.pe_op zcq (Wr.pv 4) (Wr.pe_slice zbR (Wr.pv 4) (Wr.po_some (Wr.pe_un zb2 Wr.pe_int)) zdd))))
    Wr.pss_nil)
   (Wr.pss_cons (Wr.ps_if (Wr.pt_cmpR za1 (Wr.pv 5) Wr.pe_int (zag _))
    (Wr.pss_one (Wr.ps_ret (Wr.pe_tup (Wr.pa_cons Wr.pe_str Wr.pa_nil))))
    Wr.pss_nil)
   (Wr.pss_cons (Wr.ps_set (i:=6) sc__law_bent.nd rfl (Or.inl rfl) (Wr.pe_op zar Wr.pe_int (Wr.pe_op zbo (Wr.pv 6) (Wr.pe_op zax (Wr.pe_callB zan (by rfl) T.n_len PySem.boot_len (Wr.pa_cons (Wr.pv 4) Wr.pa_nil)) Wr.pe_int))))
   (Wr.pss_cons (Wr.ps_set (i:=8) sc__law_bent.nd rfl (Or.inl rfl) (Wr.pe_ix zae (Wr.pv 4) (Wr.pv 6) (fun _ _=>rfl)))
   (Wr.pss_cons (Wr.ps_if (Wr.pt_val (Wr.pe_callB za3 (by rfl) T.n_isinstance boot_isinstance (Wr.pa_cons (Wr.pv 8) (Wr.pa_cons (Wr.pe_bltn (v:=.ty "int") rfl T.n_int boot_int rfl) Wr.pa_nil))))
    (Wr.pss_one (Wr.ps_set (i:=8) sc__law_bent.nd rfl (Or.inl rfl) (Wr.pe_op zar (Wr.pv 8) (Wr.pe_cal C_law_of (hr.mono (by decide)) rfl (Wr.pa_cons (Wr.pv 0) (Wr.pa_cons (Wr.pe_lst (Wr.pa_cons Wr.pe_int (Wr.pa_cons (Wr.pe_un zb2 Wr.pe_int) Wr.pa_nil))) Wr.pa_nil))))))
    (Wr.pss_one (Wr.ps_set (i:=8) sc__law_bent.nd rfl (Or.inl rfl) (Wr.pe_cal C_law_of (hr.mono (by decide)) rfl (Wr.pa_cons (Wr.pv 0) (Wr.pa_cons (Wr.pe_lst (Wr.pa_cons (Wr.pe_cal C_law_sum (hr.mono (by decide)) rfl (Wr.pa_cons (Wr.pv 8) (Wr.pa_cons (Wr.pe_tup (Wr.pa_cons Wr.pe_int (Wr.pa_cons Wr.pe_int Wr.pa_nil))) Wr.pa_nil))) (Wr.pa_cons (Wr.pe_tup (Wr.pa_cons (Wr.pe_op zar (Wr.pe_ix zae (Wr.pv 8) Wr.pe_int (fun _ _=>rfl)) (Wr.pe_ix zae (Wr.pv 8) Wr.pe_int (fun _ _=>rfl))) (Wr.pa_cons (Wr.pe_ix zae (Wr.pv 8) Wr.pe_int (fun _ _=>rfl)) Wr.pa_nil))) (Wr.pa_cons (Wr.pe_tup (Wr.pa_cons Wr.pe_int (Wr.pa_cons Wr.pe_int Wr.pa_nil))) Wr.pa_nil)))) Wr.pa_nil))))))
   (Wr.pss_one (Wr.ps_ret (Wr.pe_op zcq (Wr.pe_op zcq (Wr.pe_slice zbR (Wr.pv 4) zdd (Wr.po_some (Wr.pv 6))) (Wr.pe_tup (Wr.pa_cons (Wr.pv 8) Wr.pa_nil))) (Wr.pe_slice zbR (Wr.pv 4) (Wr.po_some (Wr.pe_op zar (Wr.pv 6) Wr.pe_int)) zdd)))))))))))))))⟩
theorem zfb {p z:Addr}{c0 c1 c2 c3 c5 c7:Option V}{j:Nat}{x':V}{d d':PyData}{us:List V}{ds:List PyData}{H3 H4:Hp}{D:Ends}(hp4:Pot2 H4 p)(k4:Keep p p H3 H4)(hz:H4 z=some (.tup us))(al:IsAllY NoS H4 us ds)(pf:PpF ds)(j1:1<=j)(hd:ds[j]? =some d)(hx:IsY NoS H4 x' d')(a:Alt d d')(k:∀y H',Pot2 H' p->Keep p p H3 H'->ThA H' y->D.rt (.ref y) H'):tRet (tOp zhH (tOp zhH (tSl rSlA (tVar 4) zeq (zgL (tVar 6))) (tTup (zcM (tVar 8) tNil))) (tSl rSlA (tVar 4) (zgL (tOp (rI0 fun i j=>V.int (i+j)) (tVar 6) (tC (V.int 1)))) zeq)) D [c0,c1,c2,c3,some (.ref z),c5,some (.int j),c7,some x'] H4:=by
 have hdl:=pf.len
 have hul:=al.len
 have hsz:10<=sizeLine:=by decide
 have hj:j<ds.length:=by
  refine Nat.lt_of_not_le fun z=> ?_
  rw[List.getElem?_eq_none z] at hd
  cases hd
 refine⟨_,rfl,_,rfl,_,rfl,z,us,rfl,hz,fun q H5 s5 hq=> ?_⟩
 rw[zh9 (by (first|lia|omega))] at hq
 refine⟨_,rfl,by show 1<=sizeLine;decide,fun r hr=> ?_⟩
 have s6:=zaa (o:=.tup [x']) hr
 have hr6:upd H5 r (.tup [x']) r=some (.tup [x']):=zab
 generalize upd H5 r (.tup [x'])=H6 at*
 refine⟨q,r,_,_,rfl,rfl,s6 _ _ hq,hr6, ?_,fun u H7 s7 hu=> ?_⟩
 ·rw [List.length_take,List.length_singleton]
  (first|lia|omega)
 refine⟨_,rfl,_,rfl,_,_,rfl,rfl,_,rfl,z,us,rfl,s7 _ _ (s6 _ _ (s5 _ _ hz)),fun v H8 s8 hv=> ?_⟩
 rw[show (j:Int)+1=((j+1:Nat):Int) from by push_cast;rfl,zem (by (first|lia|omega))] at hv
 refine⟨u,v,_,_,rfl,rfl,s8 _ _ hu,hv, ?_,fun y H9 s9 hy=> ?_⟩
 ·rw [List.length_append,List.length_take,List.length_singleton,List.length_drop]
  (first|lia|omega)
 ·have S:Same H4 H9:=s5.trans (s6.trans (s7.trans (s8.trans s9)))
  refine k y H9 (hp4.same S) (k4.trans fun x o h _ _=>S x o h) ⟨_,_,hy, ?_,pf.alt j1 hd a⟩
  rw[List.append_assoc]
  have a9:=al.same S
  exact (zgF j a9).append (.cons (hx.same S) (zdD (j+1) a9))
set_option maxHeartbeats 8000000 in
theorem zeo {f:Addr}{fd:FuncData}(F:Fun K "_law_bent" "_law_bent" zav f fd)(T:Top mg)(C_law_next:Cal P w K mg base 1 "_law_next" ["_law_pot_here", "_law_many"] zaS)(C_law_of:Cal P w K mg base 2 "_law_of" ["_law_pot_here", "_law_some"] zex)(C_law_sum:Cal P w K mg base 2 "_law_sum" ["_law_one", "_law_two"] zfv)(C_law_paper:Cal P w K mg base 3 "_law_paper" ["_law_kind", "_law_many", "_law_number_here", "_law_more"] spLp):FnOk P w K mg base CX0 4 f fd ["_law_pot_here", "_law_kind", "_law_many", "_law_number_here", "_law_paper_here"] zdG:=by
 refine F.ok sc__law_bent (fun vs H Q E h=> ?_) (fun cdv A outer s H vs Q E hr h=> ?_)
 ·obtain ⟨p,kd,N,n,z,rfl,_⟩:=h
  rfl
 ·obtain ⟨p,kd,N,n,z,rfl,hk,hN,hn,hp,hZ,k⟩:=h
  refine⟨_,(zjt (P:=P) (w:=w) (base:=base) (E:=E) (outer:=outer) (s:=s) (H:=H) (f:=f) (cdv:=cdv) (A:=A) hr T C_law_next C_law_of C_law_sum C_law_paper).2.h, ?_⟩
  refine⟨_,rfl,p,8,rfl,by decide,by decide,hp,fun way H1 w0 w1 hp1 k1=> ?_⟩
  refine⟨_,rfl,p,3,rfl,by decide,by decide,hp1,fun at' H2 a0 a1 hp2 k2=> ?_⟩
  have hZ2:=(hZ.keep hp k1).keep hp1 k2
  have k12:=k1.trans k2
  replace k:∀y H',Pot2 H' p->Keep p p H2 H'->ThA H' y->_:=fun y H' a b c=>k y H' a (k12.trans b) c
  clear hZ k1 k2 k12
  refine⟨_,_,rfl, ?_⟩
  refine⟨by show 6<=sizeLine;decide,fun L hL=>⟨L,rfl,⟨_,SqL.of zab⟩, ?_⟩⟩
  have sL:=zaa (o:=.lst [.str "rounds",.str "stays",.str "rises",.str "highs",.str "crossed",.str "longest"]) hL
  refine zhF (zeu (xs:=[.str "rounds",.str "stays",.str "rises",.str "highs",.str "crossed",.str "longest"])) (by show 6<sizeLine;decide) (fun v=> !decide (v=V.str kd)) id (fun H' s'=>SqL.of (s' _ _ zab)) (fun x hx H' s' Q' q=> ?_) (fun x hx _ H' s' Q' q=> ?_) fun acc hacc=> ?_
  ·obtain ⟨t,rfl⟩:∃t,x=V.str t:=by
    simp only[List.mem_cons,List.not_mem_nil,or_false] at hx
    rcases hx with rfl|rfl|rfl|rfl|rfl|rfl<;>exact⟨_,rfl⟩
   exact⟨_,rfl,_,rfl,rfl,_,rfl,q⟩
  ·exact⟨_,rfl,q⟩
  ·have hoth:∃os:List V,(List.map id (List.filter (fun v=> !decide (v=V.str kd)) [V.str "rounds",V.str "stays",V.str "rises",V.str "highs",V.str "crossed",V.str "longest"]))=os/\0<os.length/\os.length<=6/\∀x∈os,∃t,x=V.str t/\t∈zai:=by
    refine⟨_,rfl, ?_, ?_,fun x hx=> ?_⟩
    ·rw [List.map_id]
     by_cases hr1:kd= "rounds"
     ·exact List.length_pos_of_mem (a:=V.str "stays") (List.mem_filter.mpr ⟨by simp,by rw[hr1];decide⟩)
     ·exact List.length_pos_of_mem (a:=V.str "rounds") (List.mem_filter.mpr ⟨by simp,by rw[Bool.not_eq_true',decide_eq_false_iff_not];intro z;injection z with z;exact hr1 z.symm⟩)
    ·rw [List.map_id]
     exact List.length_filter_le _ _
    ·rw [List.map_id] at hx
     have hx:=(List.mem_filter.mp hx).1
     simp only[List.mem_cons,List.not_mem_nil,or_false] at hx
     rcases hx with rfl|rfl|rfl|rfl|rfl|rfl
     ·exact⟨_,rfl,by simp[zai]⟩
     ·exact⟨_,rfl,by simp[zai]⟩
     ·exact⟨_,rfl,by simp[zai]⟩
     ·exact⟨_,rfl,by simp[zai]⟩
     ·exact⟨_,rfl,by simp[zai]⟩
     ·exact⟨_,rfl,by simp[zai]⟩
   obtain⟨os,eos,ol0,ol6,hos⟩:=hoth
   rw[eos]
   have sA:=zaa (o:=.lst os) hacc
   have hA:upd (upd H2 L (.lst [.str "rounds",.str "stays",.str "rises",.str "highs",.str "crossed",.str "longest"])) acc (.lst os) acc=some (.lst os):=zab
   have S3:=sL.trans sA
   generalize upd (upd H2 L (.lst [.str "rounds",.str "stays",.str "rises",.str "highs",.str "crossed",.str "longest"])) acc (.lst os)=H3 at*
   have hp3:=hp2.same S3
   have hZ3:=hZ2.same S3
   have accp:acc≠p:=by
    intro e
    obtain⟨o,m,q1,_⟩:=hp2.same sL
    rw[e,q1] at hacc
    cases hacc
   replace k:∀y H',Pot2 H' p->Keep p p H3 H'->ThA H' y->_:=fun y H' a b c=>k y H' a (Keep.trans (fun x o h _ _=>S3 x o h) b) c
   have hB:=zda hN
   have hlp:∀{kd':Str} {N' n':Nat} {y:Addr} {us:List V} {H4 H5:Hp},kd'∈zai->(N':Int)<=bigN->n'<=62->Pot2 H4 p->Keep p p H3 H4->Same H4 H5->H5 y=some (.tup us)->IsAllY NoS H5 us (lpZ kd' N' n' 0)->Pot2 H5 p/\Keep p p H3 H5/\ThA H5 y:=fun a b c d e s h g=>⟨d.same s,e.trans (fun x o h _ _=>s x o h),_,_,h,g,zgD a b c (by decide) (by decide)⟩
   clear hacc hL sL eos
   refine⟨_,rfl,rfl,_,rfl, ?_⟩
   by_cases c0:way=0
   ·rw [decide_eq_true (show V.int way=V.int 0 by rw[c0])]
    refine iteT ⟨_,rfl,_,rfl,p,acc,os,rfl,hA,accp,ol0,by (first|lia|omega),hp3,fun x hx H4 hp4 k4=> ?_⟩
    obtain⟨t,rfl,ht⟩:=hos x hx
    refine⟨_,rfl,_,rfl,t,N,n,0,rfl,ht,hB,by (first|lia|omega),by decide,by decide,fun y us H5 s5 hy al=> ?_⟩
    obtain⟨g1,g2,g3⟩:=hlp ht hB (by (first|lia|omega)) hp4 k4 s5 hy al
    exact k y H5 g1 g2 g3
   rw[decide_eq_false (show ¬V.int way=V.int 0 from fun e=>c0 (by injection e))]
   refine iteF ⟨_,rfl,rfl,_,rfl, ?_⟩
   by_cases c1:way=1
   ·rw [decide_eq_true (show V.int way=V.int 1 by rw[c1])]
    refine iteT ⟨_,rfl,_,rfl,_,rfl, ?_⟩
    refine⟨_,rfl,_,_,rfl,rfl,_,rfl,_,_,rfl,rfl,_,_,rfl, ?_⟩
    refine⟨by show 2<=sizeLine;decide,fun l hl=> ?_⟩
    have sl:=zaa (o:=.lst [.int ((n:Int)+1),.int (if (n:Int)-1>1 then (n:Int)-1 else 1)]) hl
    refine⟨p,l,_,rfl,zab,hp3.ne_new hl,by show 0<2;decide,by show 2<=1000;decide,hp3.same sl,fun x hx H4 hp4 k4=> ?_⟩
    obtain⟨n',rfl,hn'⟩:∃n':Nat,x=.int (n':Int)/\n'<=62:=by
     simp only[List.mem_cons,List.not_mem_nil,or_false] at hx
     rcases hx with rfl|rfl
     ·exact⟨n+1,rfl,by (first|lia|omega)⟩
     ·refine ⟨if (n:Int)-1>1 then n-1 else 1, ?_, ?_⟩
      ·split
       ·congr 1
        (first|lia|omega)
       ·rfl
      ·split<;>(first|lia|omega)
    refine⟨kd,N,n',0,rfl,hk,hB,hn',by decide,by decide,fun y us H5 s5 hy al=> ?_⟩
    obtain⟨g1,g2,g3⟩:=hlp hk hB hn' hp4 (Keep.trans (fun x o h _ _=>sl x o h) k4) s5 hy al
    exact k y H5 g1 g2 g3
   rw[decide_eq_false (show ¬V.int way=V.int 1 from fun e=>c1 (by injection e))]
   refine iteF ⟨_,rfl,rfl,_,rfl, ?_⟩
   by_cases c2:way=2
   ·rw [decide_eq_true (show V.int way=V.int 2 by rw[c2])]
    refine iteT ⟨_,rfl,_,rfl,_,rfl,_,rfl,_,rfl, ?_⟩
    refine⟨by show 3<=sizeLine;decide,fun l hl=> ?_⟩
    have sl:=zaa (o:=.lst [.int 1,.int (-1),.int N]) hl
    refine⟨p,l,_,rfl,zab,hp3.ne_new hl,by show 0<3;decide,by show 3<=1000;decide,hp3.same sl,fun x hx H4 hp4 k4=> ?_⟩
    obtain⟨a,rfl,ha⟩:∃a:Int,x=.int a/\(N:Int)+a<=bigN/\-1<=a:=by
     have hBB:(10:Int)^30*2<=bigN:=by decide+kernel
     have h10:(1:Int)<=10^30:=by decide+kernel
     simp only[List.mem_cons,List.not_mem_nil,or_false] at hx
     rcases hx with rfl|rfl|rfl
     ·exact⟨1,rfl,by (first|lia|omega),by decide⟩
     ·exact⟨-1,rfl,by (first|lia|omega),by decide⟩
     ·exact⟨(N:Int),rfl,by (first|lia|omega),by (first|lia|omega)⟩
    refine⟨_,_,rfl,rfl,_,_,rfl, ?_⟩
    obtain⟨N',eN,hN'⟩:∃N':Nat,(if (N:Int)+a>0 then (N:Int)+a else 0)=(N':Int)/\(N':Int)<=bigN:=by
     have b0:(0:Int)<=bigN:=by decide+kernel
     refine⟨(if (N:Int)+a>0 then (N:Int)+a else 0).toNat, ?_, ?_⟩
     ·split<;>(first|lia|omega)
     ·split<;>(first|lia|omega)
    rw[eN]
    refine⟨_,rfl,kd,N',n,0,rfl,hk,hN',by (first|lia|omega),by decide,by decide,fun y us H5 s5 hy al=> ?_⟩
    obtain⟨g1,g2,g3⟩:=hlp hk hN' (by (first|lia|omega)) hp4 (Keep.trans (fun x o h _ _=>sl x o h) k4) s5 hy al
    exact k y H5 g1 g2 g3
   rw[decide_eq_false (show ¬V.int way=V.int 2 from fun e=>c2 (by injection e))]
   clear hlp hA hos
   refine iteF ⟨_,rfl,rfl,_,rfl, ?_⟩
   by_cases c3:way=3
   ·rw [decide_eq_true (show V.int way=V.int 3 by rw[c3])]
    refine iteT ⟨_,rfl, ?_⟩
    refine⟨by show 5<=sizeLine;decide,fun l hl=> ?_⟩
    have sl:=zaa (o:=.lst [.str "all",.str "sets",.str "groups",.str "spread",.str "none"]) hl
    refine⟨p,l,_,rfl,zab,hp3.ne_new hl,by show 0<5;decide,by show 5<=1000;decide,hp3.same sl,fun x hx H4 hp4 k4=> ?_⟩
    obtain⟨t,rfl,ht⟩:∃t,x=V.str t/\t∈zbq:=by
     simp only[List.mem_cons,List.not_mem_nil,or_false] at hx
     rcases hx with rfl|rfl|rfl|rfl|rfl
     ·exact⟨_,rfl,by decide⟩
     ·exact⟨_,rfl,by decide⟩
     ·exact⟨_,rfl,by decide⟩
     ·exact⟨_,rfl,by decide⟩
     ·exact⟨_,rfl,by decide⟩
    have k34:Keep p p H3 H4:=Keep.trans (fun x o h _ _=>sl x o h) k4
    obtain⟨us,ds,hz,al,pf⟩:=(hZ3.same sl).keep (hp3.same sl) k4
    refine⟨by show 1<=sizeLine;decide,fun q hq=> ?_⟩
    have sq:=zaa (o:=.tup [.str t]) hq
    have eq:upd H4 q (.tup [.str t]) q=some (.tup [.str t]):=zab
    refine⟨_,rfl,1,rfl,z,us,rfl,sq _ _ hz,fun y H5 s5 hy=> ?_⟩
    have hdl:=pf.len
    have hul:=al.len
    rw[show (1:Int)=((1:Nat):Int) from rfl,zem (by (first|lia|omega))] at hy
    refine⟨q,y,_,_,rfl,rfl,s5 _ _ eq,hy, ?_,fun r H6 s6 hr=> ?_⟩
    ·show [V.str t].length+(us.drop 1).length<=sizeLine
     have hsz:10<=sizeLine:=by decide
     rw[List.length_drop,List.length_singleton]
     (first|lia|omega)
    ·refine k r H6 (((hp4.same sq).same s5).same s6) (k34.trans fun x o h _ _=>s6 x o (s5 x o (sq x o h))) ⟨_,_,hr, ?_,pf.word ht⟩
     exact .cons (.str t) (zdD 1 (((al.same sq).same s5).same s6))
   rw[decide_eq_false (show ¬V.int way=V.int 3 from fun e=>c3 (by injection e))]
   obtain⟨us,ds,hz,al,pf⟩:=hZ3
   have hdl:=pf.len
   have hul:=al.len
   have hsz:10<=sizeLine:=by decide
   refine iteF ⟨_,rfl,rfl,_,rfl, ?_⟩
   by_cases c4:way=4
   ·rw [decide_eq_true (show V.int way=V.int 4 by rw[c4])]
    refine iteT ⟨_,rfl,_,rfl,1,rfl,-1,rfl,z,us,rfl,hz,fun y H4 s4 hy=> ?_⟩
    rw[zgE (by (first|lia|omega))] at hy
    refine⟨z,y,_,_,rfl,rfl,s4 _ _ hz,hy, ?_,fun r H5 s5 hr=> ?_⟩
    ·rw [List.length_drop]
     (first|lia|omega)
    ·refine k r H5 ((hp3.same s4).same s5) (fun x o h _ _=>s5 x o (s4 x o h)) ⟨_,_,hr, ?_,pf.twice⟩
     have a2:=(al.same s4).same s5
     rw[hul]
     exact a2.append (zdD _ a2)
   rw[decide_eq_false (show ¬V.int way=V.int 4 from fun e=>c4 (by injection e))]
   refine iteF ⟨_,rfl,rfl,_,rfl, ?_⟩
   by_cases c5:way=5
   ·rw [decide_eq_true (show V.int way=V.int 5 by rw[c5])]
    refine iteT ⟨by show 1<=sizeLine;decide,fun q hq=> ?_⟩
    have sq:=zaa (o:=.tup [.str "all"]) hq
    exact k q _ (hp3.same sq) (fun x o h _ _=>sq x o h) ⟨_,_,zab,.cons (.str _) .nil,all_thE⟩
   rw[decide_eq_false (show ¬V.int way=V.int 5 from fun e=>c5 (by injection e))]
   refine iteF ⟨_,rfl,_,rfl,z,us,rfl,.inr (SqT.of hz),_,_,rfl,rfl,_,_,rfl,rfl,by (first|lia|omega),_,_,rfl,rfl, ?_⟩
   obtain⟨j,ej,j1,j2⟩:∃j:Nat,1+at'%((us.length:Int)-1)=(j:Int)/\1<=j/\j<us.length:=by
    rcases hdl with h|h
    ·rw [hul,h]
     exact⟨1,by (first|lia|omega),by decide,by decide⟩
    ·rw [hul,h]
     refine⟨(1+at'%2).toNat, ?_, ?_, ?_⟩
     ·show 1+at'%2=_
      (first|lia|omega)
     ·(first|lia|omega)
     ·(first|lia|omega)
   show zbr 6 (V.int (1+at'%((us.length:Int)-1))) _ _ _
   rw[ej]
   obtain⟨x,hx⟩:∃x,us[j]? =some x:=⟨_,List.getElem?_eq_getElem j2⟩
   obtain⟨d,hd,hxd⟩:=al.at hx
   refine⟨_,rfl,_,rfl,z,us,j,x,rfl,rfl,SqT.of hz,zad hx, ?_⟩
   rcases pf.part j1 hd with⟨m,rfl,hm⟩|⟨b,rfl,hb⟩
   ·cases hxd
    refine⟨_,rfl,_,_,_,_,rfl,.int _,zew,_,rfl,iteT ?_⟩
    refine⟨_,rfl,_,rfl,_,rfl, ?_⟩
    refine⟨by show 2<=sizeLine;decide,fun l hl=> ?_⟩
    have sl:=zaa (o:=.lst [.int 1,.int (-1)]) hl
    refine⟨p,l,_,rfl,zab,hp3.ne_new hl,by show 0<2;decide,by show 2<=1000;decide,hp3.same sl,fun x' hx' H4 hp4 k4=> ?_⟩
    obtain⟨a,rfl,ha⟩:∃a:Int,x'=.int a/\a.natAbs<=1:=by
     simp only[List.mem_cons,List.not_mem_nil,or_false] at hx'
     rcases hx' with rfl|rfl
     ·exact⟨1,rfl,by decide⟩
     ·exact⟨-1,rfl,by decide⟩
    refine⟨_,_,rfl,rfl, ?_⟩
    have k34:Keep p p H3 H4:=Keep.trans (fun x o h _ _=>sl x o h) k4
    exact zfb hp4 k34 ((hp3.same sl).keepT k4 (sl _ _ hz)) (zdE (hp3.same sl) k4 (al.same sl)) pf j1 hd (.int (m+a)) (.inl ⟨m,m+a,rfl,rfl,by (first|lia|omega)⟩) k
   ·obtain ⟨y,rfl,hy⟩:=zbg hxd
    refine⟨_,rfl,_,_,_,_,rfl,.tup hy,zaf (by decide+kernel),_,rfl,iteF ?_⟩
    refine⟨_,rfl,_,rfl, ?_⟩
    refine⟨by show 2<=sizeLine;decide,fun q hq=> ?_⟩
    have sq:=zaa (o:=.tup [.int 1,.int 60]) hq
    have eq:Shr (upd H3 q (.tup [.int 1,.int 60])) q (1,60):=zab
    generalize upd H3 q (.tup [.int 1,.int 60])=G1 at*
    have b60:ShB ((1:Int),(60:Int)) 7:=⟨by decide,Sm.of (by decide),Sm.of (by decide)⟩
    have b01:ShB ((0:Int),(1:Int)) 7:=⟨by decide,Sm.of (by decide),Sm.of (by decide)⟩
    refine⟨y,q,b,(1,60),rfl,sq _ _ hy,eq,hb.mono (by decide),b60.mono (by decide),fun z1 G2 s2 hz1=> ?_⟩
    have hy2:=s2 _ _ (sq _ _ hy)
    refine⟨_,rfl,y,_,0,_,rfl,rfl,SqT.of hy2,zad (j:=0) rfl,_,rfl,y,_,1,_,rfl,rfl,SqT.of hy2,zad (j:=1) rfl,_,_,rfl,rfl,_,rfl,y,_,1,_,rfl,rfl,SqT.of hy2,zad (j:=1) rfl, ?_⟩
    refine⟨by show 2<=sizeLine;decide,fun r hr=> ?_⟩
    have s3:=zaa (o:=.tup [.int (b.1+b.2),.int b.2]) hr
    have er:Shr (upd G2 r (.tup [.int (b.1+b.2),.int b.2])) r (b.1+b.2,b.2):=zab
    generalize upd G2 r (.tup [.int (b.1+b.2),.int b.2])=G3 at*
    refine⟨by show 2<=sizeLine;decide,fun u hu=> ?_⟩
    have s4:=zaa (o:=.tup [.int 0,.int 1]) hu
    have eu:Shr (upd G3 u (.tup [.int 0,.int 1])) u (0,1):=zab
    generalize upd G3 u (.tup [.int 0,.int 1])=G4 at*
    refine⟨by show 3<=sizeLine;decide,fun l hl=> ?_⟩
    have sl:=zaa (o:=.lst [.ref z1,.ref r,.ref u]) hl
    have S4:=sq.trans (s2.trans (s3.trans s4))
    have S5:=S4.trans sl
    refine⟨p,l,_,rfl,zab,(hp3.same S4).ne_new hl,by show 0<3;decide,by show 3<=1000;decide,hp3.same S5,fun x' hx' H4 hp4 k4=> ?_⟩
    have k34:Keep p p H3 H4:=Keep.trans (fun x o h _ _=>S5 x o h) k4
    have hp5:=hp3.same S5
    obtain⟨v,c,rfl,hv,hc⟩:∃v c,x'=.ref v/\Shr H4 v c/\(ShB b 6400->ShB c 6450):=by
     simp only[List.mem_cons,List.not_mem_nil,or_false] at hx'
     rcases hx' with rfl|rfl|rfl
     ·exact⟨z1,_,rfl,hp5.keepT k4 (sl _ _ (s4 _ _ (s3 _ _ hz1))),fun q=>(zh7 q b60).mono (by decide)⟩
     ·exact⟨r,_,rfl,hp5.keepT k4 (sl _ _ (s4 _ _ er)),fun q=>⟨q.pos,(Sm.add q.s1 q.s2).mono (by decide),q.s2.mono (by decide)⟩⟩
     ·exact⟨u,_,rfl,hp5.keepT k4 (sl _ _ eu),fun _=>b01.mono (by decide)⟩
    exact zfb hp4 k34 (hp5.keepT k4 (S5 _ _ hz)) (zdE hp5 k4 (al.same S5)) pf j1 hd (.tup hv (.cons (.int _) (.cons (.int _) .nil))) (.inr ⟨b,c,rfl,rfl,hc⟩) k
end
noncomputable abbrev zc1:Stmt:=top 82
section
variable {P:Program}{w:World}{K:PySem.W.Frag}{mg:Str->Option Value}{base:Heap}
theorem sc_law:FnScope ["_law_script", "_law_k", "_law_pot_here", "_law_way", "_law_many", "_law_kind", "_law_number_here", "_law_paper_here", "_law_thing", "_law_least_here", "_law_bound", "_law_due", "_law_found", "_law_most"] ["_law_script"] (zac zc1):=⟨rfl,rfl,rfl,by decide+kernel,rfl,by decide+kernel,by decide+kernel⟩
set_option maxHeartbeats 8000000 in
noncomputable def lawT {f:Addr}{cdv:Value}{A:Around}{outer:List Env}{s:Shared}{H:Hp}{E:XK}(hr:Room 9 (A.deeper (envOfC "law" (zac zc1) s.heap.objs.size f cdv)))(T:Top mg)(C_law_pot:Cal P w K mg base 1 "_law_pot" ["_law_script", "_law_k"] (zeZ K))(C_law_next:Cal P w K mg base 1 "_law_next" ["_law_pot_here", "_law_many"] zaS)(C_law_of:Cal P w K mg base 2 "_law_of" ["_law_pot_here", "_law_some"] zex)(C_law_number:Cal P w K mg base 3 "_law_number" ["_law_pot_here", "_law_some"] zbD)(C_law_great:Cal P w K mg base 2 "_law_great" ["_law_pot_here"] zbG)(C_law_paper:Cal P w K mg base 3 "_law_paper" ["_law_kind", "_law_many", "_law_number_here", "_law_more"] spLp)(C_law_bent:Cal P w K mg base 4 "_law_bent" ["_law_pot_here", "_law_kind", "_law_many", "_law_number_here", "_law_paper_here"] zdG)(C_law_least:Cal P w K mg base 4 "_law_least" ["_law_kind", "_law_many", "_law_number_here", "_law_thing"] zha)(C_law_around:Cal P w K mg base 3 "_law_around" ["_law_least_here"] spAr)(Cshows_bound:Cal P w K mg base 7 "shows_bound" ["kind", "many", "number", "bound", "thing"] (spE za4 (zbI K)))(Cmost_share:Cal P w K mg base 7 "most_share" ["kind", "many", "number"] zd7)(Cbound_paper:Cal P w K mg base 8 "bound_paper" ["kind", "many", "number"] (zdm K)):{t:TS//PSsw (cxOf CX0 P w K mg base ["_law_script", "_law_k", "_law_pot_here", "_law_way", "_law_many", "_law_kind", "_law_number_here", "_law_paper_here", "_law_thing", "_law_least_here", "_law_bound", "_law_due", "_law_found", "_law_most"] "law" (zac zc1) f cdv A outer s H E).nox (zat zc1) t}:=⟨_,
   (Wr.pss_cons (Wr.ps_for PassesOwn.never rfl (Wr.pi_range1 rfl T.n_range (Wr.pa_cons (Wr.pe_callB (zaK rfl) (by rfl) T.n_max boot_max (Wr.pa_cons Wr.pe_int (Wr.pa_cons (Wr.pe_callB (zdM rfl) (by rfl) T.n_min boot_min (Wr.pa_cons (Wr.pe_callB zan (by rfl) T.n_len PySem.boot_len (Wr.pa_cons (Wr.pv 0) Wr.pa_nil)) (Wr.pa_cons Wr.pe_int Wr.pa_nil))) Wr.pa_nil))) Wr.pa_nil)) (zao (i:=1) sc_law.nd rfl (Or.inl rfl))
    (Wr.pss_cons (Wr.ps_set (i:=2) sc_law.nd rfl (Or.inr rfl) (Wr.pe_cal C_law_pot (hr.mono (by decide)) rfl (Wr.pa_cons (Wr.pv 0) (Wr.pa_cons (Wr.pv 1) Wr.pa_nil))))
    (Wr.pss_cons (Wr.ps_set (i:=3) sc_law.nd rfl (Or.inl rfl) (Wr.pe_cal C_law_next (hr.mono (by decide)) rfl (Wr.pa_cons (Wr.pv 2) (Wr.pa_cons Wr.pe_int Wr.pa_nil))))
    (Wr.pss_cons (Wr.ps_set (i:=4) sc_law.nd rfl (Or.inr rfl) (Wr.pe_ifExp (Wr.pt_cmpR za1 (Wr.pv 3) Wr.pe_int (zag _)) (Wr.pe_cal C_law_great (hr.mono (by decide)) rfl (Wr.pa_cons (Wr.pv 2) Wr.pa_nil)) (Wr.pe_cal C_law_next (hr.mono (by decide)) rfl (Wr.pa_cons (Wr.pv 2) (Wr.pa_cons (Wr.pe_ix za2 (Wr.pe_lst (Wr.pa_cons Wr.pe_int (Wr.pa_cons Wr.pe_int (Wr.pa_cons Wr.pe_int (Wr.pa_cons Wr.pe_int Wr.pa_nil))))) (Wr.pv 3) (fun _ _=>rfl)) Wr.pa_nil)))))
    (Wr.pss_one (Wr.ps_for PassesOwn.never rfl (Wr.pi_list (Wr.pe_lst (Wr.pa_cons Wr.pe_str (Wr.pa_cons Wr.pe_str (Wr.pa_cons Wr.pe_str (Wr.pa_cons Wr.pe_str (Wr.pa_cons Wr.pe_str (Wr.pa_cons Wr.pe_str Wr.pa_nil)))))))) (zao (i:=5) sc_law.nd rfl (Or.inr rfl))
     (Wr.pss_cons (Wr.ps_set (i:=6) sc_law.nd rfl (Or.inr rfl) (Wr.pe_cal C_law_number (hr.mono (by decide)) rfl (Wr.pa_cons (Wr.pv 2) (Wr.pa_cons (Wr.pe_lst (Wr.pa_cons Wr.pe_int (Wr.pa_cons Wr.pe_int (Wr.pa_cons (Wr.pe_un zb2 (Wr.pe_callB (zdM rfl) (by rfl) T.n_min boot_min (Wr.pa_cons Wr.pe_int (Wr.pa_cons (Wr.pe_op zbs (Wr.pv 4) Wr.pe_int) Wr.pa_nil)))) (Wr.pa_cons Wr.pe_int Wr.pa_nil))))) Wr.pa_nil))))
     (Wr.pss_cons (Wr.ps_set (i:=7) sc_law.nd rfl (Or.inr rfl) (Wr.pe_cal C_law_paper (hr.mono (by decide)) rfl (Wr.pa_cons (Wr.pv 5) (Wr.pa_cons (Wr.pv 4) (Wr.pa_cons (Wr.pv 6) (Wr.pa_cons (Wr.pe_cal C_law_of (hr.mono (by decide)) rfl (Wr.pa_cons (Wr.pv 2) (Wr.pa_cons (Wr.pe_lst (Wr.pa_cons Wr.pe_int (Wr.pa_cons Wr.pe_int (Wr.pa_cons Wr.pe_int (Wr.pa_cons (Wr.pe_op zbS Wr.pe_int Wr.pe_int) Wr.pa_nil))))) Wr.pa_nil))) Wr.pa_nil))))))
     (Wr.pss_cons (Wr.ps_for PassesOwn.never rfl (Wr.pi_list (Wr.pe_op ziy (Wr.pe_lst (Wr.pa_cons (Wr.pv 7) (Wr.pa_cons (Wr.pe_tup (Wr.pa_cons Wr.pe_str Wr.pa_nil)) Wr.pa_nil))) (Wr.pe_lc (N':=["_law_turn", "_law_pot_here", "_law_kind", "_law_many", "_law_number_here", "_law_paper_here"]) (n:=1) (ix:=[2,5,4,6,7]) rfl (CompScope.of (sc:=zac zc1) (N:=["_law_script", "_law_k", "_law_pot_here", "_law_way", "_law_many", "_law_kind", "_law_number_here", "_law_paper_here", "_law_thing", "_law_least_here", "_law_bound", "_law_due", "_law_found", "_law_most"]) (by decide+kernel) rfl rfl) (Wr.pi_range1 rfl T.n_range (Wr.pa_cons Wr.pe_int Wr.pa_nil)) (fun _ _ _ _ _=>⟨(zao (i:=0) (show (["_law_turn", "_law_pot_here", "_law_kind", "_law_many", "_law_number_here", "_law_paper_here"]:List Str).Nodup by decide+kernel) rfl (Or.inl rfl)),zet,(Wr.pe_cal C_law_bent (hr.mono (by decide)) rfl (Wr.pa_cons (Wr.pv 1) (Wr.pa_cons (Wr.pv 2) (Wr.pa_cons (Wr.pv 3) (Wr.pa_cons (Wr.pv 4) (Wr.pa_cons (Wr.pv 5) Wr.pa_nil))))))⟩)))) (zao (i:=8) sc_law.nd rfl (Or.inl rfl))
      (Wr.pss_cons (Wr.ps_set (i:=9) sc_law.nd rfl (Or.inl rfl) (Wr.pe_cal C_law_least (hr.mono (by decide)) rfl (Wr.pa_cons (Wr.pv 5) (Wr.pa_cons (Wr.pv 4) (Wr.pa_cons (Wr.pv 6) (Wr.pa_cons (Wr.pv 8) Wr.pa_nil))))))
      (Wr.pss_one (Wr.ps_for PassesOwn.never rfl (Wr.pi_list (Wr.pe_cal C_law_around (hr.mono (by decide)) rfl (Wr.pa_cons (Wr.pv 9) Wr.pa_nil))) (zao (i:=10) sc_law.nd rfl (Or.inl rfl))
       (Wr.pss_cons (Wr.ps_set (i:=11) sc_law.nd rfl (Or.inl rfl) (Wr.pe_and (Wr.pe_cmpR zhy (Wr.pv 9) Wr.pe_non (zag _)) (Wr.pe_one (Wr.pe_cmpR zhx (Wr.pe_op zah (Wr.pe_ix zae (Wr.pv 10) Wr.pe_int (fun _ _=>rfl)) (Wr.pe_ix zae (Wr.pv 9) Wr.pe_int (fun _ _=>rfl))) (Wr.pe_op zah (Wr.pe_ix zae (Wr.pv 9) Wr.pe_int (fun _ _=>rfl)) (Wr.pe_ix zae (Wr.pv 10) Wr.pe_int (fun _ _=>rfl))) (zag _)))))
       (Wr.pss_cons (Wr.ps_set (i:=12) sc_law.nd rfl (Or.inl rfl) (Wr.pe_cal Cshows_bound (hr.mono (by decide)) rfl (Wr.pa_cons (Wr.pv 5) (Wr.pa_cons (Wr.pv 4) (Wr.pa_cons (Wr.pv 6) (Wr.pa_cons (Wr.pv 10) (Wr.pa_cons (Wr.pv 8) Wr.pa_nil)))))))
       (Wr.pss_one (Wr.ps_if (Wr.PWpt (Wr.pw_or (Wr.pt_not (Wr.pt_val (Wr.pe_callB za3 (by rfl) T.n_isinstance boot_isinstance (Wr.pa_cons (Wr.pv 12) (Wr.pa_cons (Wr.pe_bltn (v:=.ty "bool") rfl T.n_bool boot_bool rfl) Wr.pa_nil))))) (Wr.pw_or1 (Wr.pt_cmpR zfe (Wr.pv 12) (Wr.pv 11) (zag _)))))
        (Wr.pss_one (Wr.ps_ret Wr.pe_bl))
        Wr.pss_nil))))))))
     (Wr.pss_cons (Wr.ps_asg (Wr.pe_tup (Wr.pa_cons (Wr.pe_cal Cmost_share (hr.mono (by decide)) rfl (Wr.pa_cons (Wr.pv 5) (Wr.pa_cons (Wr.pv 4) (Wr.pa_cons (Wr.pv 6) Wr.pa_nil)))) (Wr.pa_cons (Wr.pe_cal Cbound_paper (hr.mono (by decide)) rfl (Wr.pa_cons (Wr.pv 5) (Wr.pa_cons (Wr.pv 4) (Wr.pa_cons (Wr.pv 6) Wr.pa_nil)))) Wr.pa_nil))) (zf1 (i:=13) (j:=7) rfl sc_law.nd rfl rfl (Or.inl rfl) (Or.inr rfl) (Or.inl rfl) (Or.inl rfl)))
     (Wr.pss_one (Wr.ps_if (Wr.pt_cmpR zez (Wr.pe_cal Cshows_bound (hr.mono (by decide)) rfl (Wr.pa_cons (Wr.pv 5) (Wr.pa_cons (Wr.pv 4) (Wr.pa_cons (Wr.pv 6) (Wr.pa_cons (Wr.pv 13) (Wr.pa_cons (Wr.pv 7) Wr.pa_nil)))))) Wr.pe_bl (zag _))
      (Wr.pss_one (Wr.ps_ret Wr.pe_bl))
      Wr.pss_nil))))))))))))
   (Wr.pss_one (Wr.ps_ret Wr.pe_bl)))⟩
end
end K64
namespace L2
open PySem PySem.Spec PyProof.Rows
theorem zib {d:PyData}(h:El2 d):d.bulk<=10:=by
 rcases h with⟨n,rfl,_⟩|⟨p,rfl,_⟩
 ·simp[PyData.bulk]
 ·simp[shD,PyData.bulk,PyData.bulkAll]
theorem zfc:∀{ds:List PyData},(∀d∈ds,El2 d)->PyData.bulkAll ds<=11*ds.length
 |[],_=>by simp[PyData.bulkAll]
 |d::r,h=>by
  have a:=zib (h d List.mem_cons_self)
  have b:=zfc (ds:=r) fun d hd=>h d (List.mem_cons_of_mem _ hd)
  simp only[PyData.bulkAll,List.length_cons]
  (first|lia|omega)
theorem ThE.sz {ds:List PyData}(h:ThE ds):Sz 1000 (.tuple ds):=by
 obtain⟨t,r,rfl,ht,hr⟩:=h.w
 have hl:=h.len
 have b:=zfc hr
 have g:t.cps.size<=10:=by
  have:t= "groups" ∨t= "sets" ∨t= "spread" ∨t= "all" ∨t= "none" :=by simpa [zbq] using ht
  rcases this with rfl|rfl|rfl|rfl|rfl<;>decide
 simp only[List.length_cons] at hl
 unfold Sz
 simp only[PyData.bulk,PyData.bulkAll]
 (first|lia|omega)
theorem zbN {H H':Hp}(s:Same H H')(p:Addr):Keep p p H H':=fun b o h _ _=>s b o h
theorem zhc {J:It}{Ok:Hp->Prop}{xs:List V}{te:TE}{ix:List Nat}{σ:L2.St}{H1:Hp}{Q:VK}(Y:Yields J Ok xs)(small:xs.length<sizeLine){p:Addr}(hp:Pot2 H1 p)(hok:∀H,Keep p p H1 H->Ok H)
  (he:∀(i:Nat) (x:V) (H:Hp),xs[i]? =some x->Keep p p H1 H->Pot2 H p->∀(QT:VK),(∀(a:Addr) H',ThA H' a->Keep p p H H'->Pot2 H' p->QT (.ref a) H')->te (some x::ix.map fun i=>σ.getD i none) H QT)
  (fin:∀acc (zs:List Addr) H',H1 acc=none->acc≠p->Keep p p H1 H'->Pot2 H' p->H' acc=some (.lst (zs.map V.ref))->zs.length=xs.length->(∀z∈zs,ThA H' z)->Q (.ref acc) H'):
  LcW J H1 (zbr 0) zbt te 1 ix σ Q:=by
 intro acc ha
 have hap:=hp.ne_new ha
 have ku:∀{H:Hp} {o o':HO},(∀ys,o=.lst ys->True)->H acc=some o->(∃ys,o=.lst ys)->∀z,ThA H z->ThA (upd H acc o') z:=fun {H} {o} {o'} _ e hy z h=>by
  obtain⟨us,ds,h1,h2,h3⟩:=h
  obtain⟨ys,rfl⟩:=hy
  have ne:∀{b:Addr} {q:HO},H b=some q->(∀ys,q≠.lst ys)->upd H acc o' b=some q:=fun {b} {q} hb hn=>by
   rw[zak (fun z=>by rw[z,e] at hb;cases hb;exact hn _ rfl)]
   exact hb
  exact⟨us,ds,ne h1 (fun _ z=>by cases z),IsAllY.map (fun _ z=>z) (fun b xs q=>ne q (fun _ z=>by cases z)) (fun _ _ z=>z.elim) (fun b xs q=>ne q (fun _ z=>by cases z)) h2,h3⟩
 refine⟨fun i m H=>m=xs.length-i/\i<=xs.length/\Keep p p H1 H/\Pot2 H p/\∃(zs:List Addr),H acc=some (.lst (zs.map V.ref))/\zs.length=i/\∀z∈zs,ThA H z,⟨xs.length,by simp,Nat.zero_le _,zbN (zaa ha) p,hp.same (zaa ha),[],zab,rfl,fun _ h=>by cases h⟩, ?_⟩
 rintro i m H ⟨rfl,hi,kp,hpot,zs,hacc,hl,hz⟩
 have o:=hok _ kp
 by_cases hlt:i<xs.length
 ·refine .inr ⟨Y.go i _ o hlt,fun x H' y=> ?_⟩
  obtain⟨rfl,hx⟩:=Y.yld i _ x H' o hlt y
  refine⟨⟨rfl,fun j v e=> ?_⟩, ?_⟩
  ·cases j with
   |zero=>cases e
   |succ j=>exact e
  ·unfold zbt
   dsimp only
   rw[if_pos rfl]
   refine he i x H' hx kp hpot _ (fun a H4 a4 k4 p4=> ?_)
   have h4:=k4 _ _ hacc hap hap
   have p5:Pot2 (upd H4 acc (.lst (zs.map V.ref++[.ref a]))) p:=by
    obtain⟨u,v,q1,q2⟩:=p4
    exact⟨u,v,by rw[zak (Ne.symm hap)];exact q1,q2⟩
   refine⟨_,h4,by rw[List.length_map];(first|lia|omega),xs.length-(i+1),by (first|lia|omega),rfl,hlt,fun b o h n1 n2=>by rw[zak (fun z=>by rw[z,ha] at h;cases h)];exact (kp.trans k4) b o h n1 n2,p5,zs++[a],by rw[zab,List.map_append];rfl,by simp;(first|lia|omega),fun z h=> ?_⟩
   rcases List.mem_append.mp h with h|h
   ·exact ku (fun _ _=>trivial) h4 ⟨_,rfl⟩ z ((hz z h).keep hpot k4)
   ·rw [List.mem_singleton.mp h]
    exact ku (fun _ _=>trivial) h4 ⟨_,rfl⟩ a a4
 ·have e:i=xs.length:=by (first|lia|omega)
  subst e
  exact .inl ⟨Y.stop _ o,fin acc zs H ha hap kp hpot hacc hl hz⟩
theorem zhd {c:Bool}{ta tb:TE}{σ:L2.St}{H:Hp}{Q:VK}(ok:Nat->Hp->Prop)(h:∀Q':VK,(∀N H',ok N H'->Q' (.int (N:Int)) H')->if c=true then ta σ H Q' else tb σ H Q')(q:∀N H',ok N H'->Q (.int (N:Int)) H'):if c=true then ta σ H Q else tb σ H Q:=h Q q
theorem zgG {ta tb:TE}{σ:L2.St}{H:Hp}{Q:VK}{x:V}(h:∀Q':VK,Q' x H->zgI ta tb σ H Q')(q:Q x H):zgI ta tb σ H Q:=h Q q
noncomputable def zeN:List V:=[.str "rounds",.str "stays",.str "rises",.str "highs",.str "crossed",.str "longest"]
noncomputable def zic (K:PySem.W.Frag):Sp:=fun vs H Q _=>∃(a:Addr) (ns:List Int),vs=[.ref a]/\SqL K H a (ns.map V.int)/\ns.length<=63/\∀H',Q (.bl true) H'
end L2
namespace K64
open PySem PySem.Spec PyProof.Rows L2
noncomputable def zhe (K:PySem.W.Frag):Sp:=zic K
section
variable {P:Program}{w:World}{K:PySem.W.Frag}{mg:Str->Option Value}{base:Heap}
set_option maxHeartbeats 8000000 in
theorem zi3 {f:Addr}{fd:FuncData}(F:Fun K "law" "law" zc1 f fd)(T:Top mg)(C_law_pot:Cal P w K mg base 1 "_law_pot" ["_law_script", "_law_k"] (zeZ K))(C_law_next:Cal P w K mg base 1 "_law_next" ["_law_pot_here", "_law_many"] zaS)(C_law_of:Cal P w K mg base 2 "_law_of" ["_law_pot_here", "_law_some"] zex)(C_law_number:Cal P w K mg base 3 "_law_number" ["_law_pot_here", "_law_some"] zbD)(C_law_great:Cal P w K mg base 2 "_law_great" ["_law_pot_here"] zbG)(C_law_paper:Cal P w K mg base 3 "_law_paper" ["_law_kind", "_law_many", "_law_number_here", "_law_more"] spLp)(C_law_bent:Cal P w K mg base 4 "_law_bent" ["_law_pot_here", "_law_kind", "_law_many", "_law_number_here", "_law_paper_here"] zdG)(C_law_least:Cal P w K mg base 4 "_law_least" ["_law_kind", "_law_many", "_law_number_here", "_law_thing"] zha)(C_law_around:Cal P w K mg base 3 "_law_around" ["_law_least_here"] spAr)(Cshows_bound:Cal P w K mg base 7 "shows_bound" ["kind", "many", "number", "bound", "thing"] (spE za4 (zbI K)))(Cmost_share:Cal P w K mg base 7 "most_share" ["kind", "many", "number"] zd7)(Cbound_paper:Cal P w K mg base 8 "bound_paper" ["kind", "many", "number"] (zdm K)):FnOk P w K mg base CX0 10 f fd ["_law_script"] (zhe K):=by
 refine F.ok sc_law (fun vs H Q E h=> ?_) (fun cdv A outer s H vs Q E hr h=> ?_)
 ·obtain ⟨a,ns,rfl,_⟩:=h
  rfl
 ·obtain ⟨a,ns,rfl,hS,hl,k⟩:=h
  refine⟨_,(lawT (P:=P) (w:=w) (base:=base) (E:=E) (outer:=outer) (s:=s) (H:=H) (f:=f) (cdv:=cdv) (A:=A) hr T C_law_pot C_law_next C_law_of C_law_number C_law_great C_law_paper C_law_bent C_law_least C_law_around Cshows_bound Cmost_share Cbound_paper).2.h, ?_⟩
  refine⟨_,rfl,a,_,rfl,.inl hS,_,_,rfl,_,_,rfl,_,rfl, ?_⟩
  rw[zch]
  have hj:∃n:Nat,n<=64/\(if (if (6:Int)<(ns.length:Int) then (6:Int) else (ns.length:Int))>1 then (if (6:Int)<(ns.length:Int) then (6:Int) else (ns.length:Int)) else 1)=(n:Int):=by
   refine⟨(if (if (6:Int)<(ns.length:Int) then (6:Int) else (ns.length:Int))>1 then (if (6:Int)<(ns.length:Int) then (6:Int) else (ns.length:Int)) else 1).toNat, ?_, ?_⟩
   ·split<;>split at*<;>(first|lia|omega)
   ·split<;>split at*<;>(first|lia|omega)
  obtain⟨n,hn,en⟩:=hj
  rw[en]
  refine⟨by (first|lia|omega),by (first|lia|omega), ?_⟩
  rw[Int.toNat_natCast]
  refine zaq (fun i σ H2=>∃(c1 c2 c3 c4 c5 c6 c7 c8 c9 c10 c11 c12 c13:Option V),σ=[some (.ref a),c1,c2,c3,c4,c5,c6,c7,c8,c9,c10,c11,c12,c13]/\Same H H2) ⟨none,none,none,none,none,none,none,none,none,none,none,none,none,rfl,Same.refl H⟩ ?_ ?_
  ·rintro i σ H2 hi ⟨c1,c2,c3,c4,c5,c6,c7,c8,c9,c10,c11,c12,c13,rfl,sm⟩
   refine⟨_,rfl,_,rfl,a,ns,_,rfl,sm.seq hS,by (first|lia|omega),by (first|lia|omega),fun p H3 s3 hp hp0=> ?_⟩
   have hnp:∀{b:Addr} {o:HO},H b=some o->b≠p:=fun {b} {o} hb e=>by
    rw[e] at hb
    rw[sm _ _ hb] at hp0
    cases hp0
   have KS:∀{G G':Hp},Same H G->Keep p p G G'->Same H G':=fun s' k' b o hb=>k' b o (s' _ _ hb) (hnp hb) (hnp hb)
   have SH:=sm.trans s3
   refine⟨_,rfl,p,4,rfl,by decide,by decide,hp,fun way H4 w0 w1 hp4 k4=> ?_⟩
   have SH4:=KS SH k4
   refine⟨_,rfl,rfl,_,rfl, ?_⟩
   show (if decide (V.int way=V.int 0)=true then _ else _)
   refine zhd (ta:=fun σ H Q=>zcM (tVar 2) tNil σ H fun vs H1=>zbG vs H1 Q E0) (tb:=fun σ H Q=>zcM (tVar 2) (zcM (tOp (rIxL K) (tLst (zcM (tC (.int 0)) (zcM (tC (.int 8)) (zcM (tC (.int 61)) (zcM (tC (.int 8)) tNil))))) (tVar 3)) tNil) σ H fun vs H1=>zaS vs H1 Q E0) (ok:=fun N G=>(N:Int)<=10^30/\Pot2 G p/\Keep p p H4 G) (fun Q' q'=> ?_) (fun N H5 ⟨hN,hp5,k5⟩=> ?_)
   ·have h8:(61:Int)<=10^30:=by decide+kernel
    by_cases c0:way=0
    ·rw [decide_eq_true (show V.int way=V.int 0 by rw[c0])]
     refine iteT ⟨_,rfl,p,rfl,hp4,fun x G x0 x1 pG kG=> ?_⟩
     obtain⟨N,rfl⟩:∃N:Nat,x=(N:Int):=⟨x.toNat,by (first|lia|omega)⟩
     exact q' N G ⟨x1,pG,kG⟩
    ·rw [decide_eq_false (show ¬V.int way=V.int 0 from fun e=>c0 (by injection e))]
     refine iteF ⟨_,rfl,by show 4<=sizeLine;decide,fun l hl=> ?_⟩
     have sl:=zaa (o:=.lst [.int 0,.int 8,.int 61,.int 8]) hl
     obtain⟨m,hm,m0,m1⟩:∃m:Int,atI [V.int 0,V.int 8,V.int 61,V.int 8] way=some (.int m)/\0<m/\m<=61:=by
      have:way=1∨way=2∨way=3:=by (first|lia|omega)
      rcases this with rfl|rfl|rfl
      ·exact⟨8,rfl,by decide,by decide⟩
      ·exact⟨61,rfl,by decide,by decide⟩
      ·exact⟨8,rfl,by decide,by decide⟩
     refine⟨_,rfl,l,_,way,_,rfl,rfl,SqL.of zab,hm,p,m,rfl,m0,by (first|lia|omega),hp4.same sl,fun x G x0 x1 pG kG=> ?_⟩
     obtain⟨N,rfl⟩:∃N:Nat,x=(N:Int):=⟨x.toNat,by (first|lia|omega)⟩
     exact q' N G ⟨by (first|lia|omega),pG,(zbN sl p).trans kG⟩
   have SH5:=KS SH4 k5
   clear hp4 k4 k5 SH4 SH s3 hp
   refine⟨by show 6<=sizeLine;decide,fun L hL=>⟨L,rfl,⟨_,SqL.of zab⟩, ?_⟩⟩
   have sL:=zaa (o:=.lst zeN) hL
   have hLp:=hp5.ne_new hL
   have hLG:=@zab H5 L (.lst zeN)
   have S6:=SH5.trans sL
   have hp6:=hp5.same sL
   have hg:([.str "rounds",.str "stays",.str "rises",.str "highs",.str "crossed",.str "longest"]:List V)=zeN:=rfl
   rw[hg]
   generalize upd H5 L (.lst zeN)=H6 at*
   clear hL sL SH5 hp5 hp0
   refine zdc (K:=K) (a:=L) (xs:=zeN) (fun j σ G=>∃(c5 c6 c7 c8 c9 c10 c11 c12 c13:Option V),σ=[some (.ref a),some (.int (0+(i:Int))),some (.ref p),some (.int way),some (.int (N:Int)),c5,c6,c7,c8,c9,c10,c11,c12,c13]/\Same H G/\G L=some (.lst zeN)/\Pot2 G p) ⟨_,_,_,_,_,_,_,_,_,rfl,S6,hLG,hp6⟩ (fun j σ G _ ⟨_,_,_,_,_,_,_,_,_,_,_,q,_⟩=>SqL.of q) ?_ ?_
   ·rintro j x σ G hx ⟨c5',c6',c7',c8',c9',c10',c11',c12',c13',rfl,SG,hLG',pG⟩
    obtain⟨kd,rfl,hk⟩:∃kd:Str,x=.str kd/\kd∈zai:=by
     have hx:=List.mem_of_getElem? hx
     simp only[zeN,List.mem_cons,List.not_mem_nil,or_false] at hx
     rcases hx with rfl|rfl|rfl|rfl|rfl|rfl<;>exact⟨_,rfl,by decide⟩
    clear hx S6 hLG hp6
    refine⟨_,rfl,_,rfl,_,_,rfl,rfl,⟨by decide,by decide⟩,_,_,rfl,_,rfl, ?_⟩
    obtain⟨mn,emn,mn0,mn1⟩:∃mn:Int,(if (N:Int)/2<60 then (N:Int)/2 else 60)=mn/\0<=mn/\mn<=60:=by
     refine⟨_,rfl, ?_, ?_⟩
     ·split<;>(first|lia|omega)
     ·split<;>(first|lia|omega)
    rw[emn]
    refine⟨by show 4<=sizeLine;decide,fun l hl=> ?_⟩
    have sl:=zaa (o:=.lst [.int 61,.int 5,.int (-mn),.int 0]) hl
    refine⟨p,l,[61,5,-mn,0],rfl,zab,pG.ne_new hl,by show 0<4;decide,by show 4<=1000;decide,fun n hn=> ?_,pG.same sl,fun n hn d G2 d1 d2 pG2 kG2=> ?_⟩
    ·simp only[List.mem_cons,List.not_mem_nil,or_false] at hn
     rcases hn with rfl|rfl|rfl|rfl<;>(first|lia|omega)
    obtain⟨m,rfl,hm⟩:∃m:Nat,d=(m:Int)/\m<=60:=by
     refine⟨d.toNat, ?_, ?_⟩
     ·simp only[List.mem_cons,List.not_mem_nil,or_false] at hn
      rcases hn with rfl|rfl|rfl|rfl<;>(first|lia|omega)
     ·simp only[List.mem_cons,List.not_mem_nil,or_false] at hn
      rcases hn with rfl|rfl|rfl|rfl<;>(first|lia|omega)
    have kG02:=(zbN sl p).trans kG2
    clear hn d1 d2 emn mn0 mn1 kG2 sl hl
    have p6:(0:Int)<=6/\(Builtin.Int.intBits (10:Int):Int)*6<=2^27:=pw40 6 (by decide)
    refine⟨_,rfl,_,rfl,_,rfl,_,rfl,_,_,rfl,rfl,p6, ?_⟩
    refine⟨by show 4<=sizeLine;decide,fun l hl=> ?_⟩
    have sl:=zaa (o:=.lst [.int 0,.int 1,.int 7,.int (10^(6:Int).toNat)]) hl
    refine⟨p,l,_,rfl,zab,pG2.ne_new hl,by show 0<4;decide,by show 4<=1000;decide,pG2.same sl,fun x hx G3 pG3 kG3=> ?_⟩
    obtain⟨mo,rfl,mo0,mo1⟩:∃mo:Int,x=.int mo/\0<=mo/\mo<=1000000:=by
     simp only[List.mem_cons,List.not_mem_nil,or_false] at hx
     rcases hx with rfl|rfl|rfl|rfl
     ·exact⟨0,rfl,by decide,by decide⟩
     ·exact⟨1,rfl,by decide,by decide⟩
     ·exact⟨7,rfl,by decide,by decide⟩
     ·exact⟨_,rfl,by decide+kernel,by decide+kernel⟩
    have kG03:=(kG02.trans (zbN sl p)).trans kG3
    refine⟨kd,N,m,mo,rfl,hk,zda hN,by (first|lia|omega),mo0,mo1,fun pz pus G4 s4 hpz pal=> ?_⟩
    have SG4:=(KS SG kG03).trans s4
    have hL4:=s4 _ _ (kG03 _ _ hLG' hLp hLp)
    have pG4:=pG3.same s4
    have PP:PpA G4 pz:=⟨pus,_,hpz,pal,zhb hN hm mo0 mo1⟩
    clear kG02 kG03 kG3 sl hl hx pG2 pG3 s4 hpz pal pG SG hLG' mo0 mo1
    refine⟨_,rfl,by show 1<=sizeLine;decide,fun qa hqa=> ?_⟩
    have s5:=zaa (o:=.tup [.str "all"]) hqa
    have eqa:upd G4 qa (.tup [.str "all"]) qa=some (.tup [.str "all"]):=zab
    have pG5:=pG4.same s5
    have PP5:=PP.same s5
    have TA:ThA (upd G4 qa (.tup [.str "all"])) qa:=⟨_,_,eqa,.cons (.str _) .nil,all_thE⟩
    have SG5:=SG4.trans s5
    have hL5:=s5 _ _ hL4
    generalize upd G4 qa (.tup [.str "all"])=G5 at*
    refine⟨by show 2<=sizeLine;decide,fun L1 hL1=> ?_⟩
    have s6:=zaa (o:=.lst [.ref pz,.ref qa]) hL1
    have hL1p:=pG5.ne_new hL1
    have eL1:upd G5 L1 (.lst [.ref pz,.ref qa]) L1=some (.lst [.ref pz,.ref qa]):=zab
    have pG6:=pG5.same s6
    have PP6:=PP5.same s6
    have TA6:=TA.same s6
    have SG6:=SG5.trans s6
    have hL6:=s6 _ _ hL5
    generalize upd G5 L1 (.lst [.ref pz,.ref qa])=G6 at*
    clear SG4 SG5 hL4 hL5 pG4 pG5 PP PP5 s5 s6 eqa TA hL1 hqa
    refine⟨_,rfl,by decide,by decide, ?_⟩
    refine zhc (zdX (lo:=0) (n:=4)) (zf0 (by decide)) pG6 (fun _ _=>trivial) (fun t x Ga hx kGa pGa QT q=> ?_) fun L2 zs G7 hL20 hL2p k7 pG7 hL2 hzl hzA=> ?_
    ·exact⟨_,rfl,_,rfl,_,rfl,_,rfl,_,rfl,p,kd,N,m,pz,rfl,hk,hN,hm,pGa,PP6.keep pG6 kGa,fun y G' a b c=>q y G' c b a⟩
    have hzl:zs.length=4:=hzl
    have hL7:=k7 _ _ hL6 hLp hLp
    have SG7:=KS SG6 k7
    refine⟨L1,L2,_,_,rfl,rfl,k7 _ _ eL1 hL1p hL1p,hL2,by rw[List.length_map,hzl];show 2+4<=sizeLine;decide,fun L3 hL3=>⟨L3,rfl,⟨_,SqL.of zab⟩, ?_⟩⟩
    have hall:∀z'∈pz::qa::zs,ThA G7 z':=fun z' hz'=>by
     rcases List.mem_cons.mp hz' with rfl|hz'
     ·exact (PP6.keep pG6 k7).thA
     ·rcases List.mem_cons.mp hz' with rfl|hz'
      ·exact TA6.keep pG6 k7
      ·exact hzA z' hz'
    have hxs:([V.ref pz,V.ref qa]++zs.map V.ref)=(pz::qa::zs).map V.ref:=rfl
    rw[hxs]
    generalize pz::qa::zs=zs' at*
    have s8:=zaa (o:=.lst (zs'.map V.ref)) hL3
    have eL3:=@zab G7 L3 (.lst (zs'.map V.ref))
    have SG8:=SG7.trans s8
    have hL8:=s8 _ _ hL7
    have pG8:=pG7.same s8
    replace hall:∀z'∈zs',ThA (upd G7 L3 (.lst (zs'.map V.ref))) z':=fun z' h=>(hall z' h).same s8
    generalize upd G7 L3 (.lst (zs'.map V.ref))=G8 at*
    clear hzA hzl hL2 hL2p hL20 k7 pG7 SG7 hL7 SG6 hL6 pG6 PP6 TA6 eL1 hL1p s8 hL3 hxs
    refine zdc (K:=K) (a:=L3) (xs:=zs'.map V.ref) (fun t σ G=>∃(c8 c9 c10 c11 c12 c13:Option V),σ=[some (.ref a),some (.int (0+(i:Int))),some (.ref p),some (.int way),some (.int (N:Int)),some (.str kd),some (.int (m:Int)),some (.ref pz),c8,c9,c10,c11,c12,c13]/\Same G8 G) ⟨_,_,_,_,_,_,rfl,Same.refl G8⟩ (fun t σ G _ ⟨_,_,_,_,_,_,_,q⟩=>SqL.of (q _ _ eL3)) ?_ ?_
    ·rintro t x σ G hx ⟨c8,c9,c10,c11,c12,c13,rfl,sG⟩
     obtain⟨z,hz,rfl⟩:=List.mem_map.mp (List.mem_of_getElem? hx)
     obtain⟨us,ds,hzG,al,hT⟩:=(hall z hz).same sG
     clear hx hz
     refine⟨_,rfl,_,rfl,_,rfl,_,rfl,kd,N,m,z,us,ds,rfl,hk,hN,hm,hzG,al,hT,fun v G9 s9 hv=> ?_⟩
     refine⟨_,rfl,v,_,if kd= "rounds" ∨kd= "highs" then 2500 else 6900,rfl,hv,fun l hl=> ?_,by split<;>decide,fun L4 ys G10 s10 hL4 hyl hys=>⟨L4,rfl,⟨_,SqL.of hL4⟩, ?_⟩⟩
     ·have:=zi2 hN hm hT hl
      split
      ·next c=>exact this.2 c
      ·exact this.1
     have sG10:=sG.trans (s9.trans s10)
     have hv10:LsV G10 v (lsZ kd N m ds):=hv.same s10
     have hz10:=s10 _ _ (s9 _ _ hzG)
     have al10:=(al.same s9).same s10
     clear s9 s10 hv hzG al
     refine zdc (K:=K) (a:=L4) (xs:=ys) (fun t σ G=>∃(c10 c11 c12:Option V),σ=[some (.ref a),some (.int (0+(i:Int))),some (.ref p),some (.int way),some (.int (N:Int)),some (.str kd),some (.int (m:Int)),some (.ref pz),some (.ref z),some v,c10,c11,c12,c13]/\Same G10 G) ⟨_,_,_,rfl,Same.refl G10⟩ (fun t σ G _ ⟨_,_,_,_,q⟩=>SqL.of (q _ _ hL4)) ?_ ?_
     ·rintro t y σ G' hy ⟨c10,c11,c12,rfl,sG'⟩
      obtain⟨yb,b,rfl,hyb,hb⟩:=hys y (List.mem_of_getElem? hy)
      have hyb':=sG' _ _ hyb
      have hv':=hv10.same sG'
      have hz':=sG' _ _ hz10
      have al':=al10.same sG'
      have bb:ShB b 7040:=hb.mono (by split<;>decide)
      refine zgG (x:=V.bl (dueZ b (lsZ kd N m ds))) (fun Q' q'=> ?_) ?_
      ·cases ho:lsZ kd N m ds with
       |none=>
        rw[ho] at hv' q'
        cases hv'
        refine⟨_,rfl,rfl,_,rfl, ?_⟩
        rw[decide_eq_true (show V.non=V.non from rfl)]
        exact iteF q'
       |some l=>
        have bl:=(zi2 hN hm hT ho).1
        rw[ho] at hv' q'
        obtain⟨yl,rfl,hyl'⟩:=hv'
        refine⟨_,rfl,rfl,_,rfl, ?_⟩
        rw[decide_eq_false (show ¬V.ref yl=V.non from fun e=>by cases e)]
        refine iteT ⟨_,rfl,yb,_,0,_,rfl,rfl,SqT.of hyb',zad (j:=0) rfl,_,rfl,yl,_,1,_,rfl,rfl,SqT.of hyl',zad (j:=1) rfl,_,_,rfl,rfl,⟨bb.s1.mono (by decide),bl.s2.mono (by decide)⟩, ?_⟩
        exact⟨_,rfl,yl,_,0,_,rfl,rfl,SqT.of hyl',zad (j:=0) rfl,_,rfl,yb,_,1,_,rfl,rfl,SqT.of hyb',zad (j:=1) rfl,_,_,rfl,rfl,⟨bl.s1.mono (by decide),bb.s2.mono (by decide)⟩,_,_,rfl,rfl,q'⟩
      refine⟨_,rfl,_,rfl,_,rfl,_,rfl,_,rfl,.inl ⟨kd,N,m,yb,b,NoS,.ref z,.tuple ds,rfl,hk,hN,hm,hyb',bb.mono (by decide),fun c=> ?_,.tup hz' al',hT.sz,fun _ d0 n' e=> ?_,fun G11 s11=> ?_⟩⟩
      ·rw [if_pos c] at hb
       exact hb.mono (by decide)
      ·injection e with e
       obtain⟨n2,e2,s2⟩:=hT.two _ _ e
       injection e2 with e2
       rw[e2]
       exact s2.mono (by decide)
      rw[ze7 hk hN hm bb.pos hT.thg]
      refine⟨_,rfl,_,_,_,_,rfl,.bl _,zdf,_,rfl,iteF ⟨_,rfl,_,rfl,rfl,_,rfl, ?_⟩⟩
      rw[decide_eq_true (show V.bl (dueZ b (lsZ kd N m ds))=V.bl (dueZ b (lsZ kd N m ds)) from rfl)]
      refine iteF ?_
      exact⟨_,_,_,rfl,sG'.trans s11⟩
     ·rintro σ G' ⟨c10,c11,c12,rfl,sG'⟩
      exact⟨_,_,_,_,_,_,rfl,sG10.trans sG'⟩
    ·rintro σ G ⟨c8,c9,c10,c11,c12,c13,rfl,sG⟩
     refine⟨_,rfl,_,rfl,_,rfl,kd,(N:Int),m,rfl,hk,by (first|lia|omega),hN,hm,fun zm G9 s9 hzm=> ?_⟩
     refine⟨_,rfl,_,rfl,_,rfl,kd,N,m,rfl,hk,hN,hm,fun zp G10 s10 hcase=> ?_⟩
     refine⟨by show 2<=sizeLine;decide,fun tq htq=> ?_⟩
     have s11:=zaa (o:=.tup [.ref zm,.ref zp]) htq
     refine⟨tq,_,rfl,SqT.of zab,rfl,_,_,rfl,_,_,rfl,rfl, ?_⟩
     have hpT:ThE (paL kd N m):=by
      have:=zgD hk (zda hN) (show m<=62 by (first|lia|omega)) (show (0:Int)<=0 by decide) (by decide)
      rwa [zh4 hk] at this
     have mb:=zdn (kind:=kd) hN hm
     have hzm':=s11 _ _ (s10 _ _ hzm)
     have S0:=((SG8.trans sG).trans s9).trans (s10.trans s11)
     have hL':=s11 _ _ (s10 _ _ (s9 _ _ (sG _ _ hL8)))
     have pG':=(((pG8.same sG).same s9).same s10).same s11
     rcases hcase with⟨hsw,us,hzp,alp⟩|⟨hsw,hsq⟩
     ·refine ⟨_,rfl,_,rfl,_,rfl,_,rfl,_,rfl,.inl ⟨kd,N,m,zm,zaT kd N m,NoS,.ref zp,.tuple (paL kd N m),rfl,hk,hN,hm,hzm',mb.1,mb.2,.tup (s11 _ _ hzp) (alp.same s11),hpT.sz,fun _ d0 n' e=> ?_,fun G12 s12=> ?_⟩⟩
      ·injection e with e
       obtain⟨n2,e2,s2⟩:=hpT.two _ _ e
       injection e2 with e2
       rw[e2]
       exact s2.mono (by decide)
      rw[hsw]
      refine⟨true,true,rfl,rfl,_,rfl,iteF ?_⟩
      exact⟨_,_,_,_,_,_,_,_,_,rfl,S0.trans s12,s12 _ _ hL',pG'.same s12⟩
     ·have hm1:zaT kd N m=(1,1):=by
       rcases zgw hk hN hm with h|h
       ·rw [hsw] at h
        cases h
       ·exact h
      rw[hm1] at hzm' mb
      refine⟨_,rfl,_,rfl,_,rfl,_,rfl,_,rfl,.inr ⟨kd,N,m,zm,zp,(1,1),rfl,hzm',mb.1,s11.seqT hsq,fun G12 s12=> ?_⟩⟩
      refine⟨true,true,rfl,rfl,_,rfl,iteF ?_⟩
      exact⟨_,_,_,_,_,_,_,_,_,rfl,S0.trans s12,s12 _ _ hL',pG'.same s12⟩
   ·rintro σ G ⟨c5,c6,c7,c8,c9,c10,c11,c12,c13,rfl,SG,_,_⟩
    exact⟨_,_,_,_,_,_,_,_,_,_,_,_,_,rfl,SG⟩
  ·rintro σ G ⟨c1,c2,c3,c4,c5,c6,c7,c8,c9,c10,c11,c12,c13,rfl,_⟩
   exact k _
end
set_option maxHeartbeats 8000000 in
theorem all_mk {l:PySem.W.OpenLaw}{w:World}{K:PySem.W.Frag}{h:Heap}{mg:Str->Option Value}{fa C_LOOKS C_PAPERS C_MEANS C_SPREADS C_BOUNDS T_ALL g_shows_by_sets g_shows_by_groups g_shows_by_spread g_groups_paper g_stays_paper g_rises_paper g_crossed_paper g_longest_paper g_highs_mean g_stays_mean g_rises_mean g_crossed_mean g_highs_spread g_stays_spread g_rises_spread g_crossed_spread g_groups_bound g_stays_bound g_rises_bound g_crossed_bound g_longest_bound:Addr}(X:K.In h)(G:h.Ns mainGlobals mg)(hfa:mg "law" =some (.ref fa))(TK:TopK K)(TXK:TopXK K)(a_LOOKS:PySem.W.nsIn K mainGlobals "LOOKS" =some (some (.ref C_LOOKS)))(GD_LOOKS:GDict K w.params C_LOOKS [("sets",g_shows_by_sets),("groups",g_shows_by_groups),("spread",g_shows_by_spread)])(a_PAPERS:PySem.W.nsIn K mainGlobals "PAPERS" =some (some (.ref C_PAPERS)))(GD_PAPERS:GDict K w.params C_PAPERS [("rounds",g_groups_paper),("stays",g_stays_paper),("rises",g_rises_paper),("highs",g_groups_paper),("crossed",g_crossed_paper),("longest",g_longest_paper)])(a_MEANS:PySem.W.nsIn K mainGlobals "MEANS" =some (some (.ref C_MEANS)))(GD_MEANS:GDict K w.params C_MEANS [("rounds",g_highs_mean),("stays",g_stays_mean),("rises",g_rises_mean),("highs",g_highs_mean),("crossed",g_crossed_mean)])(a_SPREADS:PySem.W.nsIn K mainGlobals "SPREADS" =some (some (.ref C_SPREADS)))(GD_SPREADS:GDict K w.params C_SPREADS [("rounds",g_highs_spread),("stays",g_stays_spread),("rises",g_rises_spread),("highs",g_highs_spread),("crossed",g_crossed_spread)])(a_BOUNDS:PySem.W.nsIn K mainGlobals "BOUNDS" =some (some (.ref C_BOUNDS)))(GD_BOUNDS:GDict K w.params C_BOUNDS [("rounds",g_groups_bound),("stays",g_stays_bound),("rises",g_rises_bound),("highs",g_groups_bound),("crossed",g_crossed_bound),("longest",g_longest_bound)])(a_ALL:PySem.W.nsIn K mainGlobals "ALL" =some (some (.ref T_ALL)))(h_ALL:∀H,SqT K H T_ALL [.str "all"])(n_shows_by_sets:PySem.W.nsIn K mainGlobals "shows_by_sets" =some (some (.ref g_shows_by_sets)))(n_shows_by_groups:PySem.W.nsIn K mainGlobals "shows_by_groups" =some (some (.ref g_shows_by_groups)))(n_shows_by_spread:PySem.W.nsIn K mainGlobals "shows_by_spread" =some (some (.ref g_shows_by_spread)))(n_groups_paper:PySem.W.nsIn K mainGlobals "groups_paper" =some (some (.ref g_groups_paper)))(n_stays_paper:PySem.W.nsIn K mainGlobals "stays_paper" =some (some (.ref g_stays_paper)))(n_rises_paper:PySem.W.nsIn K mainGlobals "rises_paper" =some (some (.ref g_rises_paper)))(n_crossed_paper:PySem.W.nsIn K mainGlobals "crossed_paper" =some (some (.ref g_crossed_paper)))(n_longest_paper:PySem.W.nsIn K mainGlobals "longest_paper" =some (some (.ref g_longest_paper)))(n_highs_mean:PySem.W.nsIn K mainGlobals "highs_mean" =some (some (.ref g_highs_mean)))(n_stays_mean:PySem.W.nsIn K mainGlobals "stays_mean" =some (some (.ref g_stays_mean)))(n_rises_mean:PySem.W.nsIn K mainGlobals "rises_mean" =some (some (.ref g_rises_mean)))(n_crossed_mean:PySem.W.nsIn K mainGlobals "crossed_mean" =some (some (.ref g_crossed_mean)))(n_highs_spread:PySem.W.nsIn K mainGlobals "highs_spread" =some (some (.ref g_highs_spread)))(n_stays_spread:PySem.W.nsIn K mainGlobals "stays_spread" =some (some (.ref g_stays_spread)))(n_rises_spread:PySem.W.nsIn K mainGlobals "rises_spread" =some (some (.ref g_rises_spread)))(n_crossed_spread:PySem.W.nsIn K mainGlobals "crossed_spread" =some (some (.ref g_crossed_spread)))(n_groups_bound:PySem.W.nsIn K mainGlobals "groups_bound" =some (some (.ref g_groups_bound)))(n_stays_bound:PySem.W.nsIn K mainGlobals "stays_bound" =some (some (.ref g_stays_bound)))(n_rises_bound:PySem.W.nsIn K mainGlobals "rises_bound" =some (some (.ref g_rises_bound)))(n_crossed_bound:PySem.W.nsIn K mainGlobals "crossed_bound" =some (some (.ref g_crossed_bound)))(n_longest_bound:PySem.W.nsIn K mainGlobals "longest_bound" =some (some (.ref g_longest_bound)))
  (d__law_pot:Def K "_law_pot" zbV) (d__law_next:Def K "_law_next" zbw) (d__law_of:Def K "_law_of" zcx) (d__law_number:Def K "_law_number" za5) (d__law_great:Def K "_law_great" zbj) (d__law_figures:Def K "_law_figures" zaZ) (d__law_low:Def K "_law_low" zbZ) (d__law_middle:Def K "_law_middle" zbb) (d__law_down:Def K "_law_down" zbz) (d__law_fall:Def K "_law_fall" zby) (d__law_paper:Def K "_law_paper" zbk) (d__law_sum:Def K "_law_sum" zb0) (d__law_bent:Def K "_law_bent" zav) (d__law_same:Def K "_law_same" zaQ) (d__law_least:Def K "_law_least" zbl) (d__law_around:Def K "_law_around" zas) (d_is_whole:Def K "is_whole" zbX) (d_are_wholes:Def K "are_wholes" zaR) (d_are_just:Def K "are_just" zbY) (d_is_less:Def K "is_less" zcw) (d_greatest_divisor:Def K "greatest_divisor" zaz) (d_share_of:Def K "share_of" zbU) (d_times:Def K "times" zdo) (d_shows_by_sets:Def K "shows_by_sets" zaP) (d_product:Def K "product" zbJ) (d_shows_by_groups:Def K "shows_by_groups" zaD) (d_less:Def K "less" zgk) (d_parted:Def K "parted" zdp) (d_shows_by_spread:Def K "shows_by_spread" zaC) (d_groups_paper:Def K "groups_paper" zaY) (d_sets_of:Def K "sets_of" zcy) (d_stays_paper:Def K "stays_paper" za8) (d_rises_mean:Def K "rises_mean" zbh) (d_crossed_mean:Def K "crossed_mean" zaV) (d_mean:Def K "mean" zgq) (d_rises_spread:Def K "rises_spread" zaU) (d_crossed_spread:Def K "crossed_spread" zaI) (d_spread:Def K "spread" zdr) (d_rises_paper:Def K "rises_paper" za9) (d_crossed_paper:Def K "crossed_paper" zaO) (d_longest_paper:Def K "longest_paper" zaN) (d_own_paper:Def K "own_paper" zbx) (d_shows_bound:Def K "shows_bound" zaA) (d_power:Def K "power" zeE) (d_groups_bound:Def K "groups_bound" zaW) (d_stays_bound:Def K "stays_bound" za6) (d_spread_bound:Def K "spread_bound" zaX) (d_rises_bound:Def K "rises_bound" za7) (d_crossed_bound:Def K "crossed_bound" zaM) (d_longest_bound:Def K "longest_bound" zaL) (d_lesser:Def K "lesser" zdq) (d_most_share:Def K "most_share" zbi) (d_bound_paper:Def K "bound_paper" zba) (d_law:Def K "law" zc1):
  ∃fd:FuncData,(∀(s:Shared) (v:Value),BindsTo s fd ⟨[v],[]⟩ [("_law_script",v)])/\∀base:Heap,K.In base->base.Ns mainGlobals mg->FnOk l.prog w K mg base CX0 10 fa fd ["_law_script"] (zhe K):=by
 have T:Top mg:=TK.top X G
 have TX:TopX mg:=TXK.top X G
 obtain⟨f__law_pot,e__law_pot,F__law_pot,m__law_pot⟩:=d__law_pot.fn X G
 obtain⟨f__law_next,e__law_next,F__law_next,m__law_next⟩:=d__law_next.fn X G
 obtain⟨f__law_of,e__law_of,F__law_of,m__law_of⟩:=d__law_of.fn X G
 obtain⟨f__law_number,e__law_number,F__law_number,m__law_number⟩:=d__law_number.fn X G
 obtain⟨f__law_great,e__law_great,F__law_great,m__law_great⟩:=d__law_great.fn X G
 obtain⟨f__law_figures,e__law_figures,F__law_figures,m__law_figures⟩:=d__law_figures.fn X G
 obtain⟨f__law_low,e__law_low,F__law_low,m__law_low⟩:=d__law_low.fn X G
 obtain⟨f__law_middle,e__law_middle,F__law_middle,m__law_middle⟩:=d__law_middle.fn X G
 obtain⟨f__law_down,e__law_down,F__law_down,m__law_down⟩:=d__law_down.fn X G
 obtain⟨f__law_fall,e__law_fall,F__law_fall,m__law_fall⟩:=d__law_fall.fn X G
 obtain⟨f__law_paper,e__law_paper,F__law_paper,m__law_paper⟩:=d__law_paper.fn X G
 obtain⟨f__law_sum,e__law_sum,F__law_sum,m__law_sum⟩:=d__law_sum.fn X G
 obtain⟨f__law_bent,e__law_bent,F__law_bent,m__law_bent⟩:=d__law_bent.fn X G
 obtain⟨f__law_same,e__law_same,F__law_same,m__law_same⟩:=d__law_same.fn X G
 obtain⟨f__law_least,e__law_least,F__law_least,m__law_least⟩:=d__law_least.fn X G
 obtain⟨f__law_around,e__law_around,F__law_around,m__law_around⟩:=d__law_around.fn X G
 obtain⟨f_is_whole,e_is_whole,F_is_whole,m_is_whole⟩:=d_is_whole.fn X G
 obtain⟨f_are_wholes,e_are_wholes,F_are_wholes,m_are_wholes⟩:=d_are_wholes.fn X G
 obtain⟨f_are_just,e_are_just,F_are_just,m_are_just⟩:=d_are_just.fn X G
 obtain⟨f_is_less,e_is_less,F_is_less,m_is_less⟩:=d_is_less.fn X G
 obtain⟨f_greatest_divisor,e_greatest_divisor,F_greatest_divisor,m_greatest_divisor⟩:=d_greatest_divisor.fn X G
 obtain⟨f_share_of,e_share_of,F_share_of,m_share_of⟩:=d_share_of.fn X G
 obtain⟨f_times,e_times,F_times,m_times⟩:=d_times.fn X G
 obtain⟨f_shows_by_sets,e_shows_by_sets,F_shows_by_sets,m_shows_by_sets⟩:=d_shows_by_sets.fn X G
 obtain⟨f_product,e_product,F_product,m_product⟩:=d_product.fn X G
 obtain⟨f_shows_by_groups,e_shows_by_groups,F_shows_by_groups,m_shows_by_groups⟩:=d_shows_by_groups.fn X G
 obtain⟨f_less,e_less,F_less,m_less⟩:=d_less.fn X G
 obtain⟨f_parted,e_parted,F_parted,m_parted⟩:=d_parted.fn X G
 obtain⟨f_shows_by_spread,e_shows_by_spread,F_shows_by_spread,m_shows_by_spread⟩:=d_shows_by_spread.fn X G
 obtain⟨f_groups_paper,e_groups_paper,F_groups_paper,m_groups_paper⟩:=d_groups_paper.fn X G
 obtain⟨f_sets_of,e_sets_of,F_sets_of,m_sets_of⟩:=d_sets_of.fn X G
 obtain⟨f_stays_paper,e_stays_paper,F_stays_paper,m_stays_paper⟩:=d_stays_paper.fn X G
 obtain⟨f_rises_mean,e_rises_mean,F_rises_mean,m_rises_mean⟩:=d_rises_mean.fn X G
 obtain⟨f_crossed_mean,e_crossed_mean,F_crossed_mean,m_crossed_mean⟩:=d_crossed_mean.fn X G
 obtain⟨f_mean,e_mean,F_mean,m_mean⟩:=d_mean.fn X G
 obtain⟨f_rises_spread,e_rises_spread,F_rises_spread,m_rises_spread⟩:=d_rises_spread.fn X G
 obtain⟨f_crossed_spread,e_crossed_spread,F_crossed_spread,m_crossed_spread⟩:=d_crossed_spread.fn X G
 obtain⟨f_spread,e_spread,F_spread,m_spread⟩:=d_spread.fn X G
 obtain⟨f_rises_paper,e_rises_paper,F_rises_paper,m_rises_paper⟩:=d_rises_paper.fn X G
 obtain⟨f_crossed_paper,e_crossed_paper,F_crossed_paper,m_crossed_paper⟩:=d_crossed_paper.fn X G
 obtain⟨f_longest_paper,e_longest_paper,F_longest_paper,m_longest_paper⟩:=d_longest_paper.fn X G
 obtain⟨f_own_paper,e_own_paper,F_own_paper,m_own_paper⟩:=d_own_paper.fn X G
 obtain⟨f_shows_bound,e_shows_bound,F_shows_bound,m_shows_bound⟩:=d_shows_bound.fn X G
 obtain⟨f_power,e_power,F_power,m_power⟩:=d_power.fn X G
 obtain⟨f_groups_bound,e_groups_bound,F_groups_bound,m_groups_bound⟩:=d_groups_bound.fn X G
 obtain⟨f_stays_bound,e_stays_bound,F_stays_bound,m_stays_bound⟩:=d_stays_bound.fn X G
 obtain⟨f_spread_bound,e_spread_bound,F_spread_bound,m_spread_bound⟩:=d_spread_bound.fn X G
 obtain⟨f_rises_bound,e_rises_bound,F_rises_bound,m_rises_bound⟩:=d_rises_bound.fn X G
 obtain⟨f_crossed_bound,e_crossed_bound,F_crossed_bound,m_crossed_bound⟩:=d_crossed_bound.fn X G
 obtain⟨f_longest_bound,e_longest_bound,F_longest_bound,m_longest_bound⟩:=d_longest_bound.fn X G
 obtain⟨f_lesser,e_lesser,F_lesser,m_lesser⟩:=d_lesser.fn X G
 obtain⟨f_most_share,e_most_share,F_most_share,m_most_share⟩:=d_most_share.fn X G
 obtain⟨f_bound_paper,e_bound_paper,F_bound_paper,m_bound_paper⟩:=d_bound_paper.fn X G
 obtain⟨f_law,e_law,F_law,m_law⟩:=d_law.fn X G
 have b__law_pot:Binds K _ ["_law_script", "_law_k"] []:=F__law_pot.b2 fun _ _ _ _ _ _ _ _=>rfl
 have b__law_next:Binds K _ ["_law_pot_here", "_law_many"] []:=F__law_next.b2 fun _ _ _ _ _ _ _ _=>rfl
 have b__law_of:Binds K _ ["_law_pot_here", "_law_some"] []:=F__law_of.b2 fun _ _ _ _ _ _ _ _=>rfl
 have b__law_number:Binds K _ ["_law_pot_here", "_law_some"] []:=F__law_number.b2 fun _ _ _ _ _ _ _ _=>rfl
 have b__law_great:Binds K _ ["_law_pot_here"] []:=F__law_great.b1 fun _ _ _ _ _ _ _=>rfl
 have b__law_figures:Binds K _ ["_law_many"] []:=F__law_figures.b1 fun _ _ _ _ _ _ _=>rfl
 have b__law_low:Binds K _ ["_law_over", "_law_under"] []:=F__law_low.b2 fun _ _ _ _ _ _ _ _=>rfl
 have b__law_middle:Binds K _ ["_law_kind", "_law_many"] []:=F__law_middle.b2 fun _ _ _ _ _ _ _ _=>rfl
 have b__law_down:Binds K _ ["_law_many", "_law_number_here"] []:=F__law_down.b2 fun _ _ _ _ _ _ _ _=>rfl
 have b__law_fall:Binds K _ ["_law_number_here"] []:=F__law_fall.b1 fun _ _ _ _ _ _ _=>rfl
 have b__law_paper:Binds K _ ["_law_kind", "_law_many", "_law_number_here", "_law_more"] []:=F__law_paper.b4 fun _ _ _ _ _ _ _ _ _ _=>rfl
 have b__law_sum:Binds K _ ["_law_one", "_law_two"] []:=F__law_sum.b2 fun _ _ _ _ _ _ _ _=>rfl
 have b__law_bent:Binds K _ ["_law_pot_here", "_law_kind", "_law_many", "_law_number_here", "_law_paper_here"] []:=F__law_bent.b5 fun _ _ _ _ _ _ _ _ _ _ _=>rfl
 have b__law_same:Binds K _ ["_law_one", "_law_two"] []:=F__law_same.b2 fun _ _ _ _ _ _ _ _=>rfl
 have b__law_least:Binds K _ ["_law_kind", "_law_many", "_law_number_here", "_law_thing"] []:=F__law_least.b4 fun _ _ _ _ _ _ _ _ _ _=>rfl
 have b__law_around:Binds K _ ["_law_least_here"] []:=F__law_around.b1 fun _ _ _ _ _ _ _=>rfl
 have b_is_whole:Binds K _ ["thing"] []:=F_is_whole.b1 fun _ _ _ _ _ _ _=>rfl
 have b_are_wholes:Binds K _ ["thing"] []:=F_are_wholes.b1 fun _ _ _ _ _ _ _=>rfl
 have b_are_just:Binds K _ ["thing", "numbers"] []:=F_are_just.b2 fun _ _ _ _ _ _ _ _=>rfl
 have b_is_less:Binds K _ ["one", "other"] []:=F_is_less.b2 fun _ _ _ _ _ _ _ _=>rfl
 have b_greatest_divisor:Binds K _ ["over", "under"] []:=F_greatest_divisor.b2 fun _ _ _ _ _ _ _ _=>rfl
 have b_share_of:Binds K _ ["over", "under"] []:=F_share_of.b2 fun _ _ _ _ _ _ _ _=>rfl
 have b_times:Binds K _ ["one", "other"] []:=F_times.b2 fun _ _ _ _ _ _ _ _=>rfl
 have b_shows_by_sets:Binds K _ ["paper", "number", "bound", "thing"] []:=F_shows_by_sets.b4 fun _ _ _ _ _ _ _ _ _ _=>rfl
 have b_product:Binds K _ ["first", "last"] []:=F_product.b2 fun _ _ _ _ _ _ _ _=>rfl
 have b_shows_by_groups:Binds K _ ["paper", "number", "bound", "thing"] []:=F_shows_by_groups.b4 fun _ _ _ _ _ _ _ _ _ _=>rfl
 have b_less:Binds K _ ["one", "other"] []:=F_less.b2 fun _ _ _ _ _ _ _ _=>rfl
 have b_parted:Binds K _ ["one", "other"] []:=F_parted.b2 fun _ _ _ _ _ _ _ _=>rfl
 have b_shows_by_spread:Binds K _ ["paper", "number", "bound", "thing"] []:=F_shows_by_spread.b4 fun _ _ _ _ _ _ _ _ _ _=>rfl
 have b_groups_paper:Binds K _ ["many", "number"] []:=F_groups_paper.b2 fun _ _ _ _ _ _ _ _=>rfl
 have b_sets_of:Binds K _ ["many", "number"] []:=F_sets_of.b2 fun _ _ _ _ _ _ _ _=>rfl
 have b_stays_paper:Binds K _ ["many", "number"] []:=F_stays_paper.b2 fun _ _ _ _ _ _ _ _=>rfl
 have b_rises_mean:Binds K _ ["many"] []:=F_rises_mean.b1 fun _ _ _ _ _ _ _=>rfl
 have b_crossed_mean:Binds K _ ["many"] []:=F_crossed_mean.b1 fun _ _ _ _ _ _ _=>rfl
 have b_mean:Binds K _ ["kind", "many"] []:=F_mean.b2 fun _ _ _ _ _ _ _ _=>rfl
 have b_rises_spread:Binds K _ ["many"] []:=F_rises_spread.b1 fun _ _ _ _ _ _ _=>rfl
 have b_crossed_spread:Binds K _ ["many"] []:=F_crossed_spread.b1 fun _ _ _ _ _ _ _=>rfl
 have b_spread:Binds K _ ["kind", "many"] []:=F_spread.b2 fun _ _ _ _ _ _ _ _=>rfl
 have b_rises_paper:Binds K _ ["many", "number"] []:=F_rises_paper.b2 fun _ _ _ _ _ _ _ _=>rfl
 have b_crossed_paper:Binds K _ ["many", "number"] []:=F_crossed_paper.b2 fun _ _ _ _ _ _ _ _=>rfl
 have b_longest_paper:Binds K _ ["many", "number"] []:=F_longest_paper.b2 fun _ _ _ _ _ _ _ _=>rfl
 have b_own_paper:Binds K _ ["kind", "many", "number"] []:=F_own_paper.b3 fun _ _ _ _ _ _ _ _ _=>rfl
 have b_shows_bound:Binds K _ ["kind", "many", "number", "bound", "thing"] []:=F_shows_bound.b5 fun _ _ _ _ _ _ _ _ _ _ _=>rfl
 have b_power:Binds K _ ["base", "number"] []:=F_power.b2 fun _ _ _ _ _ _ _ _=>rfl
 have b_groups_bound:Binds K _ ["many", "number"] []:=F_groups_bound.b2 fun _ _ _ _ _ _ _ _=>rfl
 have b_stays_bound:Binds K _ ["many", "number"] []:=F_stays_bound.b2 fun _ _ _ _ _ _ _ _=>rfl
 have b_spread_bound:Binds K _ ["kind", "many", "number"] []:=F_spread_bound.b3 fun _ _ _ _ _ _ _ _ _=>rfl
 have b_rises_bound:Binds K _ ["many", "number"] []:=F_rises_bound.b2 fun _ _ _ _ _ _ _ _=>rfl
 have b_crossed_bound:Binds K _ ["many", "number"] []:=F_crossed_bound.b2 fun _ _ _ _ _ _ _ _=>rfl
 have b_longest_bound:Binds K _ ["many", "number"] []:=F_longest_bound.b2 fun _ _ _ _ _ _ _ _=>rfl
 have b_lesser:Binds K _ ["one", "other"] []:=F_lesser.b2 fun _ _ _ _ _ _ _ _=>rfl
 have b_most_share:Binds K _ ["kind", "many", "number"] []:=F_most_share.b3 fun _ _ _ _ _ _ _ _ _=>rfl
 have b_bound_paper:Binds K _ ["kind", "many", "number"] []:=F_bound_paper.b3 fun _ _ _ _ _ _ _ _ _=>rfl
 have e:fa=f_law:=by
  have q:=hfa.symm.trans m_law
  cases q
  rfl
 subst e
 obtain⟨oc,od,kV,doc,pm,an,cdv,ct,osl,rfl,lk,hcd⟩:=F_law.ex
 refine⟨PySem.W.fnOf "law" "law" (zaF zc1) (zat zc1) (zac zc1) .none kV doc pm an cdv ct,fun s v=>.of_eq rfl,fun base _ _=> ?_⟩
 have C_law_pot:Cal l.prog w K mg base 1 "_law_pot" ["_law_script", "_law_k"] (zeZ K):=⟨f__law_pot,e__law_pot,zeD F__law_pot T,m__law_pot,F__law_pot.kp,b__law_pot⟩
 have C_law_next:Cal l.prog w K mg base 1 "_law_next" ["_law_pot_here", "_law_many"] (zaS):=⟨f__law_next,e__law_next,zed F__law_next,m__law_next,F__law_next.kp,b__law_next⟩
 have C_law_of:Cal l.prog w K mg base 2 "_law_of" ["_law_pot_here", "_law_some"] (zex):=⟨f__law_of,e__law_of,zfr F__law_of T C_law_next,m__law_of,F__law_of.kp,b__law_of⟩
 have C_law_number:Cal l.prog w K mg base 3 "_law_number" ["_law_pot_here", "_law_some"] (zbD):=⟨f__law_number,e__law_number,zcP F__law_number C_law_next C_law_of,m__law_number,F__law_number.kp,b__law_number⟩
 have C_law_great:Cal l.prog w K mg base 2 "_law_great" ["_law_pot_here"] (zbG):=⟨f__law_great,e__law_great,zdx F__law_great T C_law_next,m__law_great,F__law_great.kp,b__law_great⟩
 have C_law_figuresW:Cal l.prog w K mg base 1 "_law_figures" ["_law_many"] (zgy):=⟨f__law_figures,e__law_figures,zcf F__law_figures,m__law_figures,F__law_figures.kp,b__law_figures⟩
 have C_law_low:Cal l.prog w K mg base 1 "_law_low" ["_law_over", "_law_under"] (zbf):=⟨f__law_low,e__law_low,zeK F__law_low T,m__law_low,F__law_low.kp,b__law_low⟩
 have C_law_middleW:Cal l.prog w K mg base 2 "_law_middle" ["_law_kind", "_law_many"] (zgz):=⟨f__law_middle,e__law_middle,zcK F__law_middle T C_law_low,m__law_middle,F__law_middle.kp,b__law_middle⟩
 have C_law_down:Cal l.prog w K mg base 1 "_law_down" ["_law_many", "_law_number_here"] (zgA):=⟨f__law_down,e__law_down,zeh F__law_down T,m__law_down,F__law_down.kp,b__law_down⟩
 have C_law_fall:Cal l.prog w K mg base 1 "_law_fall" ["_law_number_here"] (spFc 300):=⟨f__law_fall,e__law_fall,zef F__law_fall T,m__law_fall,F__law_fall.kp,b__law_fall⟩
 have C_law_paper:Cal l.prog w K mg base 3 "_law_paper" ["_law_kind", "_law_many", "_law_number_here", "_law_more"] (spLp):=⟨f__law_paper,e__law_paper,zdA F__law_paper C_law_figuresW C_law_middleW C_law_down C_law_fall,m__law_paper,F__law_paper.kp,b__law_paper⟩
 have C_law_sumX:Cal l.prog w K mg base 2 "_law_sum" ["_law_one", "_law_two"] (zfv):=⟨f__law_sum,e__law_sum,zel F__law_sum C_law_low,m__law_sum,F__law_sum.kp,b__law_sum⟩
 have C_law_bent:Cal l.prog w K mg base 4 "_law_bent" ["_law_pot_here", "_law_kind", "_law_many", "_law_number_here", "_law_paper_here"] (zdG):=⟨f__law_bent,e__law_bent,zeo F__law_bent T C_law_next C_law_of C_law_sumX C_law_paper,m__law_bent,F__law_bent.kp,b__law_bent⟩
 have C_law_sameE:Cal l.prog w K mg base 3 "_law_same" ["_law_one", "_law_two"] (zei 2):=⟨f__law_same,e__law_same,zdB F__law_same T TX m__law_same b__law_same,m__law_same,F__law_same.kp,b__law_same⟩
 have C_law_least:Cal l.prog w K mg base 4 "_law_least" ["_law_kind", "_law_many", "_law_number_here", "_law_thing"] (zha):=⟨f__law_least,e__law_least,zdC F__law_least T C_law_paper C_law_low C_law_fall C_law_sameE,m__law_least,F__law_least.kp,b__law_least⟩
 have C_law_around:Cal l.prog w K mg base 3 "_law_around" ["_law_least_here"] (spAr):=⟨f__law_around,e__law_around,zc0 F__law_around C_law_sumX,m__law_around,F__law_around.kp,b__law_around⟩
 have Cis_whole:Cal l.prog w K mg base 1 "is_whole" ["thing"] (zg1 K):=⟨f_is_whole,e_is_whole,zeG F_is_whole T,m_is_whole,F_is_whole.kp,b_is_whole⟩
 have Care_wholes:Cal l.prog w K mg base 2 "are_wholes" ["thing"] (zgb):=⟨f_are_wholes,e_are_wholes,zdw F_are_wholes T Cis_whole,m_are_wholes,F_are_wholes.kp,b_are_wholes⟩
 have Care_just:Cal l.prog w K mg base 3 "are_just" ["thing", "numbers"] (ze3):=⟨f_are_just,e_are_just,zeI F_are_just Care_wholes,m_are_just,F_are_just.kp,b_are_just⟩
 have Cis_less:Cal l.prog w K mg base 1 "is_less" ["one", "other"] (zdj):=⟨f_is_less,e_is_less,zfp F_is_less,m_is_less,F_is_less.kp,b_is_less⟩
 have Cgreatest_divisor:Cal l.prog w K mg base 1 "greatest_divisor" ["over", "under"] (zhJ):=⟨f_greatest_divisor,e_greatest_divisor,zbv F_greatest_divisor,m_greatest_divisor,F_greatest_divisor.kp,b_greatest_divisor⟩
 have Cshare_of:Cal l.prog w K mg base 2 "share_of" ["over", "under"] (zbf):=⟨f_share_of,e_share_of,zeC F_share_of Cgreatest_divisor,m_share_of,F_share_of.kp,b_share_of⟩
 have CtimesX:Cal l.prog w K mg base 3 "times" ["one", "other"] (zhV):=⟨f_times,e_times,zgl F_times Cshare_of,m_times,F_times.kp,b_times⟩
 have Cshows_by_sets:Cal l.prog w K mg base 4 "shows_by_sets" ["paper", "number", "bound", "thing"] (zaH ["stays", "longest"]):=⟨f_shows_by_sets,e_shows_by_sets,zce F_shows_by_sets Care_just Cis_less CtimesX,m_shows_by_sets,F_shows_by_sets.kp,b_shows_by_sets⟩
 have Cproduct1:Cal l.prog w K mg base 1 "product" ["first", "last"] (spPr):=⟨f_product,e_product,zeB F_product T,m_product,F_product.kp,b_product⟩
 have Cshows_by_groups:Cal l.prog w K mg base 2 "shows_by_groups" ["paper", "number", "bound", "thing"] (zaH ["rounds", "highs"]):=⟨f_shows_by_groups,e_shows_by_groups,zbL F_shows_by_groups T Cis_whole Cproduct1,m_shows_by_groups,F_shows_by_groups.kp,b_shows_by_groups⟩
 have Ctimes:Cal l.prog w K mg base 3 "times" ["one", "other"] (spSh tmZ):=⟨f_times,e_times,zg3 F_times Cshare_of,m_times,F_times.kp,b_times⟩
 have Cless:Cal l.prog w K mg base 3 "less" ["one", "other"] (spSh leZ):=⟨f_less,e_less,zhX F_less Cshare_of,m_less,F_less.kp,b_less⟩
 have Cparted:Cal l.prog w K mg base 3 "parted" ["one", "other"] (spPt):=⟨f_parted,e_parted,zgn F_parted Cshare_of,m_parted,F_parted.kp,b_parted⟩
 have Cshows_by_spread:Cal l.prog w K mg base 4 "shows_by_spread" ["paper", "number", "bound", "thing"] (zaH ["rises", "crossed"]):=⟨f_shows_by_spread,e_shows_by_spread,zbK F_shows_by_spread Care_just Cis_less Ctimes Cless Cparted,m_shows_by_spread,F_shows_by_spread.kp,b_shows_by_spread⟩
 have Cgroups_paper:Cal l.prog w K mg base 1 "groups_paper" ["many", "number"] (spE (zaB "rounds") (zaB "highs")):=⟨f_groups_paper,e_groups_paper,zcG F_groups_paper,m_groups_paper,F_groups_paper.kp,b_groups_paper⟩
 have Csets_of:Cal l.prog w K mg base 1 "sets_of" ["many", "number"] (zd8):=⟨f_sets_of,e_sets_of,zfs F_sets_of T,m_sets_of,F_sets_of.kp,b_sets_of⟩
 have CproductX:Cal l.prog w K mg base 1 "product" ["first", "last"] (zhU):=⟨f_product,e_product,zeJ F_product T,m_product,F_product.kp,b_product⟩
 have Cstays_paper:Cal l.prog w K mg base 2 "stays_paper" ["many", "number"] (zaB "stays"):=⟨f_stays_paper,e_stays_paper,zcU F_stays_paper Csets_of CproductX,m_stays_paper,F_stays_paper.kp,b_stays_paper⟩
 have Crises_mean:Cal l.prog w K mg base 3 "rises_mean" ["many"] (spN1 (mnZ "rises")):=⟨f_rises_mean,e_rises_mean,zdt F_rises_mean T Cshare_of,m_rises_mean,F_rises_mean.kp,b_rises_mean⟩
 have Ccrossed_mean:Cal l.prog w K mg base 3 "crossed_mean" ["many"] (spN1 (mnZ "crossed")):=⟨f_crossed_mean,e_crossed_mean,zcB F_crossed_mean T Cshare_of,m_crossed_mean,F_crossed_mean.kp,b_crossed_mean⟩
 have Cmean:Cal l.prog w K mg base 4 "mean" ["kind", "many"] (spKN mnZ):=⟨f_mean,e_mean,zhY F_mean (PySem.W.mg_of X G a_MEANS) GD_MEANS (CalF.of Crises_mean (PySem.W.mg_of X G n_rises_mean) (by decide)) (CalF.of Ccrossed_mean (PySem.W.mg_of X G n_crossed_mean) (by decide)),m_mean,F_mean.kp,b_mean⟩
 have Crises_spread:Cal l.prog w K mg base 3 "rises_spread" ["many"] (spN1 (sdZ "rises")):=⟨f_rises_spread,e_rises_spread,zcz F_rises_spread T Cshare_of,m_rises_spread,F_rises_spread.kp,b_rises_spread⟩
 have Ccrossed_spread:Cal l.prog w K mg base 3 "crossed_spread" ["many"] (spN1 (sdZ "crossed")):=⟨f_crossed_spread,e_crossed_spread,zbW F_crossed_spread T Cshare_of,m_crossed_spread,F_crossed_spread.kp,b_crossed_spread⟩
 have Cspread:Cal l.prog w K mg base 4 "spread" ["kind", "many"] (spKN sdZ):=⟨f_spread,e_spread,zgr F_spread (PySem.W.mg_of X G a_SPREADS) GD_SPREADS (CalF.of Crises_spread (PySem.W.mg_of X G n_rises_spread) (by decide)) (CalF.of Ccrossed_spread (PySem.W.mg_of X G n_crossed_spread) (by decide)),m_spread,F_spread.kp,b_spread⟩
 have Crises_paper:Cal l.prog w K mg base 5 "rises_paper" ["many", "number"] (zaB "rises"):=⟨f_rises_paper,e_rises_paper,zcW F_rises_paper Cmean Cspread,m_rises_paper,F_rises_paper.kp,b_rises_paper⟩
 have Ccrossed_paper:Cal l.prog w K mg base 5 "crossed_paper" ["many", "number"] (zaB "crossed"):=⟨f_crossed_paper,e_crossed_paper,zcc F_crossed_paper Cmean Cspread,m_crossed_paper,F_crossed_paper.kp,b_crossed_paper⟩
 have Clongest_paper:Cal l.prog w K mg base 2 "longest_paper" ["many", "number"] (zaB "longest"):=⟨f_longest_paper,e_longest_paper,zca F_longest_paper Csets_of Cproduct1,m_longest_paper,F_longest_paper.kp,b_longest_paper⟩
 have Cown_paper:Cal l.prog w K mg base 6 "own_paper" ["kind", "many", "number"] (zec):=⟨f_own_paper,e_own_paper,zee F_own_paper (PySem.W.mg_of X G a_PAPERS) GD_PAPERS (CalF.of Cgroups_paper (PySem.W.mg_of X G n_groups_paper) (by decide)) (CalF.of Cstays_paper (PySem.W.mg_of X G n_stays_paper) (by decide)) (CalF.of Crises_paper (PySem.W.mg_of X G n_rises_paper) (by decide)) (CalF.of Ccrossed_paper (PySem.W.mg_of X G n_crossed_paper) (by decide)) (CalF.of Clongest_paper (PySem.W.mg_of X G n_longest_paper) (by decide)),m_own_paper,F_own_paper.kp,b_own_paper⟩
 have Cshows_boundE:Cal l.prog w K mg base 7 "shows_bound" ["kind", "many", "number", "bound", "thing"] (spE za4 (zbI K)):=⟨f_shows_bound,e_shows_bound,zcI F_shows_bound T (PySem.W.mg_of X G a_ALL) h_ALL (PySem.W.mg_of X G a_LOOKS) GD_LOOKS (CalF.of Cshows_by_sets (PySem.W.mg_of X G n_shows_by_sets) (by decide)) (CalF.of Cshows_by_groups (PySem.W.mg_of X G n_shows_by_groups) (by decide)) (CalF.of Cshows_by_spread (PySem.W.mg_of X G n_shows_by_spread) (by decide)) Cis_less Cown_paper,m_shows_bound,F_shows_bound.kp,b_shows_bound⟩
 have Cpower:Cal l.prog w K mg base 1 "power" ["base", "number"] (zhN):=⟨f_power,e_power,zg4 F_power T,m_power,F_power.kp,b_power⟩
 have Cgroups_bound:Cal l.prog w K mg base 3 "groups_bound" ["many", "number"] (spNK bGr):=⟨f_groups_bound,e_groups_bound,zcD F_groups_bound Cshare_of Cproduct1 Cpower,m_groups_bound,F_groups_bound.kp,b_groups_bound⟩
 have Cstays_bound:Cal l.prog w K mg base 2 "stays_bound" ["many", "number"] (spNK bSt):=⟨f_stays_bound,e_stays_bound,zcR F_stays_bound Cproduct1,m_stays_bound,F_stays_bound.kp,b_stays_bound⟩
 have Cspread_bound:Cal l.prog w K mg base 5 "spread_bound" ["kind", "many", "number"] (zg0):=⟨f_spread_bound,e_spread_bound,zcE F_spread_bound Cless Ctimes Cparted Cis_less Cmean Cspread,m_spread_bound,F_spread_bound.kp,b_spread_bound⟩
 have Crises_bound:Cal l.prog w K mg base 6 "rises_bound" ["many", "number"] (spNK fun N k=>sbZ "rises" N k):=⟨f_rises_bound,e_rises_bound,zcT F_rises_bound Cspread_bound,m_rises_bound,F_rises_bound.kp,b_rises_bound⟩
 have Ccrossed_bound:Cal l.prog w K mg base 6 "crossed_bound" ["many", "number"] (spNK fun N k=>sbZ "crossed" N k):=⟨f_crossed_bound,e_crossed_bound,zb9 F_crossed_bound Cspread_bound,m_crossed_bound,F_crossed_bound.kp,b_crossed_bound⟩
 have Clongest_bound:Cal l.prog w K mg base 3 "longest_bound" ["many", "number"] (spNK bLg):=⟨f_longest_bound,e_longest_bound,zb7 F_longest_bound Cshare_of Cproduct1 Csets_of,m_longest_bound,F_longest_bound.kp,b_longest_bound⟩
 have Clesser:Cal l.prog w K mg base 2 "lesser" ["one", "other"] (zhM minZ):=⟨f_lesser,e_lesser,zgp F_lesser Cis_less,m_lesser,F_lesser.kp,b_lesser⟩
 have Cmost_share:Cal l.prog w K mg base 7 "most_share" ["kind", "many", "number"] (zd7):=⟨f_most_share,e_most_share,zdu F_most_share (PySem.W.mg_of X G a_BOUNDS) GD_BOUNDS (CalF.of Cgroups_bound (PySem.W.mg_of X G n_groups_bound) (by decide)) (CalF.of Cstays_bound (PySem.W.mg_of X G n_stays_bound) (by decide)) (CalF.of Crises_bound (PySem.W.mg_of X G n_rises_bound) (by decide)) (CalF.of Ccrossed_bound (PySem.W.mg_of X G n_crossed_bound) (by decide)) (CalF.of Clongest_bound (PySem.W.mg_of X G n_longest_bound) (by decide)) Clesser,m_most_share,F_most_share.kp,b_most_share⟩
 have Cshows_bound:Cal l.prog w K mg base 7 "shows_bound" ["kind", "many", "number", "bound", "thing"] (za4):=⟨f_shows_bound,e_shows_bound,zbp F_shows_bound T (PySem.W.mg_of X G a_ALL) h_ALL (PySem.W.mg_of X G a_LOOKS) GD_LOOKS (CalF.of Cshows_by_sets (PySem.W.mg_of X G n_shows_by_sets) (by decide)) (CalF.of Cshows_by_groups (PySem.W.mg_of X G n_shows_by_groups) (by decide)) (CalF.of Cshows_by_spread (PySem.W.mg_of X G n_shows_by_spread) (by decide)) Cis_less Cown_paper,m_shows_bound,F_shows_bound.kp,b_shows_bound⟩
 have Cbound_paper:Cal l.prog w K mg base 8 "bound_paper" ["kind", "many", "number"] (zdm K):=⟨f_bound_paper,e_bound_paper,zcX F_bound_paper (PySem.W.mg_of X G a_ALL) h_ALL Cown_paper Cmost_share Cshows_bound,m_bound_paper,F_bound_paper.kp,b_bound_paper⟩
 exact zi3 F_law T C_law_pot C_law_next C_law_of C_law_number C_law_great C_law_paper C_law_bent C_law_least C_law_around Cshows_boundE Cmost_share Cbound_paper
theorem walk {l:PySem.W.OpenLaw}{q:Program}{loose:List Str}{XP:(Str->Option Value)->Heap->Prop}{YP:World->Heap->Prop}{d:DefRec}{K:Params->PySem.W.Frag}(hn:l.most=some 63)(hdf:d.params.defaults=[])
  (hY:∀(w:World) (h:Heap),YP w h->(K w.params).In h)
  (F:∀(w:World) (mg:Str->Option Value) (fa:Addr) (h:Heap),(K w.params).In h->h.Ns mainGlobals mg->mg d.name=some (.ref fa)->
   ∃fd:FuncData,(∀(s:Shared) (u:Value),BindsTo s fd ⟨[u],[]⟩ [("_law_script",u)])/\∀base:Heap,(K w.params).In base->base.Ns mainGlobals mg->FnOk l.prog w (K w.params) mg base CX0 10 fa fd ["_law_script"] (zhe (K w.params))):
  PySem.W.WalkO q loose XP YP l.row.toRowW d [] (fun f vs=>PySem.call f vs):=
 L2.zhD (n:=63) (k:=10) (x:= "_law_script") (CX:=fun _=>CX0) (sp:=fun w=>zhe (K w.params)) hn (by decide) hdf ⟨rfl,by decide,by decide,rfl⟩ hY F (fun _ _ a ns hl _ hS=>⟨a,ns,rfl,hS,hl,fun _=>rfl⟩) fun _ _ _ _ _ z=>z
end K64
end
namespace PySem.W.Fast
theorem tw10533696619817783808:True:=trivial
theorem tw8761531254148979126:True:=trivial
theorem tw10159375716706219287:True:=trivial
theorem tw8310475326509229257:True:=trivial
theorem tw18063410857962979498:True:=trivial
theorem tw6935361680340512497:True:=trivial
theorem tw13697116602054713243:True:=trivial
theorem tw6786085686649054286:True:=trivial
theorem tw11066492403650068484:True:=trivial
theorem tw13869978581003375333:True:=trivial
theorem tw13828064563612865353:True:=trivial
theorem tw6108280736432894805:True:=trivial
theorem tw3570063318853846108:True:=trivial
theorem tw14675178235664067352:True:=trivial
theorem tw16290606496917285501:True:=trivial
theorem tw11324339414471542479:True:=trivial
theorem tw18415309264030148393:True:=trivial
theorem tw12726653632848792107:True:=trivial
theorem tw8355324548175919102:True:=trivial
theorem tw8734523902794499951:True:=trivial
theorem tw6629647164552527925:True:=trivial
theorem tw16355675924381760681:True:=trivial
theorem tw11667818012585556185:True:=trivial
theorem tw15024801515815797335:True:=trivial
theorem tw7482134510400383256:True:=trivial
theorem tw12094802627442549297:True:=trivial
theorem tw3193680992795520786:True:=trivial
theorem tw17254009192573928842:True:=trivial
theorem tw876864846516419518:True:=trivial
theorem tw14072817441110833952:True:=trivial
theorem tw15804632132344618403:True:=trivial
theorem tw3552900080594512958:True:=trivial
theorem tw3396020853606148275:True:=trivial
theorem tw13065210711588288700:True:=trivial
theorem tw6715795716437930629:True:=trivial
theorem tw14510125954483619986:True:=trivial
theorem tw3340880508313226081:True:=trivial
theorem tw17963747182239807406:True:=trivial
theorem tw10820182305734743837:True:=trivial
theorem tw3465594278884164069:True:=trivial
theorem tw418436893268242670:True:=trivial
theorem tw7330171484816181317:True:=trivial
theorem tw11602764338159782170:True:=trivial
theorem tw15071804541774771837:True:=trivial
theorem tw14379723129258521468:True:=trivial
theorem tw326286197395519684:True:=trivial
theorem tw4007671384714616043:True:=trivial
theorem tw15337403667548308363:True:=trivial
theorem tw12989812766642387292:True:=trivial
theorem tw1037846332102812638:True:=trivial
theorem tw10838378206901556676:True:=trivial
theorem tw9951816827328136186:True:=trivial
theorem tw1167121029163206438:True:=trivial
theorem tw11112348255530921373:True:=trivial
theorem tw277566255343282056:True:=trivial
theorem tw17762334584453904674:True:=trivial
theorem tw9887726276651794636:True:=trivial
theorem tw11189935917661155539:True:=trivial
theorem tw6191296827104555396:True:=trivial
theorem tw9488301145621384734:True:=trivial
theorem tw2495097580234681068:True:=trivial
theorem tw3802115746084365092:True:=trivial
theorem tw41951226471915186:True:=trivial
theorem tw8089578424006132289:True:=trivial
theorem tw8275473888938814509:True:=trivial
theorem tw5932363145721153277:True:=trivial
theorem tw3057739288896938260:True:=trivial
theorem tw14889316753465508247:True:=trivial
theorem tw9090184295038734412:True:=trivial
theorem tw768487712907315228:True:=trivial
theorem tw5172052048633723811:True:=trivial
theorem tw9921233161483322363:True:=trivial
theorem tw16911811124341598983:True:=trivial
theorem tw5249935519962614847:True:=trivial
theorem tw12474570652470029638:True:=trivial
theorem tw18173793875880386216:True:=trivial
theorem tw536913436931750586:True:=trivial
theorem tw5266091806530869580:True:=trivial
theorem tw5683915703272984908:True:=trivial
theorem tw2967735679494938879:True:=trivial
theorem tw10020026949786365974:True:=trivial
theorem tw6044411264242877621:True:=trivial
theorem tw17385556270004111735:True:=trivial
theorem tw10341218446193602770:True:=trivial
theorem tw3890277153060329092:True:=trivial
theorem tw15142692363208179267:True:=trivial
theorem tw7174979857137524435:True:=trivial
theorem tw745988947028842592:True:=trivial
theorem tw17778384289187968925:True:=trivial
theorem tw5888041029082198262:True:=trivial
theorem tw15917311514794106675:True:=trivial
theorem tw18296240046732261860:True:=trivial
theorem tw13546656741515217405:True:=trivial
theorem tw9267751599849417013:True:=trivial
theorem tw1440549570112188641:True:=trivial
theorem tw1106202908715232276:True:=trivial
theorem tw18042620364189434320:True:=trivial
theorem tw15260414341703117686:True:=trivial
theorem tw17307341788449268535:True:=trivial
theorem tw3719379148212080109:True:=trivial
theorem tw18427811270110747688:True:=trivial
theorem tw13580269291483229385:True:=trivial
theorem tw6531383836647208919:True:=trivial
theorem tw12556907954531978712:True:=trivial
theorem tw12554368997862922758:True:=trivial
theorem tw17212978959057002800:True:=trivial
theorem tw4358506795495896469:True:=trivial
theorem tw10939459147028292979:True:=trivial
theorem tw3059358676590037519:True:=trivial
theorem tw4015360191154998623:True:=trivial
theorem tw17706520817832697607:True:=trivial
theorem tw12378370155683275737:True:=trivial
theorem tw1145720816670900829:True:=trivial
theorem tw17561800632938580812:True:=trivial
theorem tw2879772068927679427:True:=trivial
theorem tw16538262217734084788:True:=trivial
theorem tw2065010195708281856:True:=trivial
theorem tw12009570692298099874:True:=trivial
theorem tw5282534894299564478:True:=trivial
theorem tw402012803445517331:True:=trivial
theorem tw2631376746254176987:True:=trivial
theorem tw1417194893364683424:True:=trivial
theorem tw1913387127116169505:True:=trivial
theorem tw4152157968958254045:True:=trivial
theorem tw7164714223676498761:True:=trivial
theorem tw13694621175987610388:True:=trivial
theorem tw964910140508406547:True:=trivial
theorem tw3794929196147587762:True:=trivial
theorem tw2059248364390996762:True:=trivial
theorem tw18133918631036908784:True:=trivial
theorem tw4946433556998298615:True:=trivial
theorem tw14673174799285422738:True:=trivial
theorem tw3827970257479829707:True:=trivial
theorem tw9235924906596999229:True:=trivial
theorem tw6477081878721633157:True:=trivial
theorem tw12811023233788207765:True:=trivial
theorem tw17202924556314498628:True:=trivial
theorem tw14953390187099480329:True:=trivial
theorem tw11291194148012130566:True:=trivial
theorem tw10163117680244858371:True:=trivial
theorem tw6245304136026791641:True:=trivial
theorem tw17920828070627611659:True:=trivial
theorem tw6579303266316243168:True:=trivial
theorem tw13028478185869322237:True:=trivial
theorem tw11026870083925352892:True:=trivial
theorem tw10074875362284439642:True:=trivial
theorem tw584820224633221101:True:=trivial
theorem tw1103646505909997495:True:=trivial
theorem tw4122202431548331315:True:=trivial
theorem tw5580589684379321497:True:=trivial
theorem tw11933913403864789254:True:=trivial
theorem tw3780708412948281050:True:=trivial
theorem tw12332944155955147433:True:=trivial
theorem tw2976089760639758985:True:=trivial
theorem tw7493491919674879202:True:=trivial
theorem tw7894601232869244712:True:=trivial
theorem tw17089186711240635365:True:=trivial
theorem tw16269468878882118995:True:=trivial
theorem tw15458644126000180929:True:=trivial
theorem tw9302501285329657300:True:=trivial
theorem tw1522930767947107628:True:=trivial
theorem tw6569821294123271757:True:=trivial
theorem tw9092221155165805114:True:=trivial
theorem tw2974077236447175487:True:=trivial
theorem tw18104709433201788331:True:=trivial
theorem tw9925464995563972007:True:=trivial
theorem tw11017269735134156168:True:=trivial
theorem tw5586588467886738729:True:=trivial
theorem tw13163633240637274147:True:=trivial
theorem tw1398675670191079054:True:=trivial
theorem tw2087685531882511552:True:=trivial
theorem tw4217110596406458796:True:=trivial
theorem tw2845541487108128280:True:=trivial
theorem tw8438892792549095898:True:=trivial
theorem tw10886167330548549358:True:=trivial
theorem tw10682224571671309535:True:=trivial
theorem tw13590508856703702829:True:=trivial
theorem tw186869739533460169:True:=trivial
theorem tw7230145206700443816:True:=trivial
theorem tw2858758829014741989:True:=trivial
theorem tw351292796555572304:True:=trivial
theorem tw17971421034022399098:True:=trivial
theorem tw2410668256563089150:True:=trivial
theorem tw15059171710984819514:True:=trivial
theorem tw10176003936026319920:True:=trivial
theorem tw89596236575814764:True:=trivial
theorem tw6310093667754052495:True:=trivial
theorem tw16772935238192989888:True:=trivial
theorem tw3907167177262407456:True:=trivial
theorem tw9599003599392133805:True:=trivial
theorem tw3538090540973683469:True:=trivial
theorem tw4944689552764136062:True:=trivial
theorem tw2540498566582959088:True:=trivial
theorem tw15378139678127992065:True:=trivial
theorem tw3844651403166997043:True:=trivial
theorem tw14830384314537023085:True:=trivial
theorem tw15068857817058766942:True:=trivial
theorem tw5010742875718792573:True:=trivial
theorem tw12250168548212640522:True:=trivial
theorem tw7146277870948287520:True:=trivial
theorem tw4893048535837661300:True:=trivial
theorem tw15355744467063378719:True:=trivial
theorem tw11495367457079520469:True:=trivial
theorem tw6384934916278205837:True:=trivial
theorem tw14314669527571862843:True:=trivial
theorem tw12364176573710610515:True:=trivial
theorem tw9753510278739149441:True:=trivial
theorem tw8710772841030912762:True:=trivial
theorem tw427299517385379702:True:=trivial
theorem tw14273489534416455699:True:=trivial
theorem tw7900452923091327604:True:=trivial
theorem tw2657243361839924981:True:=trivial
theorem tw1608791683369648251:True:=trivial
theorem tw5748029491580872261:True:=trivial
theorem tw6343516550264389932:True:=trivial
theorem tw6443463233985835953:True:=trivial
theorem tw14347200146508558856:True:=trivial
theorem tw13946606814081198300:True:=trivial
theorem tw16616259724624532658:True:=trivial
theorem tw7604068276194457604:True:=trivial
theorem tw12405051212408376888:True:=trivial
theorem tw15872588704006219436:True:=trivial
theorem tw6591854872531617744:True:=trivial
theorem tw18347565027869743018:True:=trivial
theorem tw1912841690088624885:True:=trivial
theorem tw9746971385159542783:True:=trivial
theorem tw8544848922389129748:True:=trivial
theorem tw2679761678920951963:True:=trivial
theorem tw8805207271937140896:True:=trivial
theorem tw11890015854604155666:True:=trivial
theorem tw4347722549548451153:True:=trivial
theorem tw247194217322360644:True:=trivial
theorem tw9610537804248339715:True:=trivial
theorem tw6779496413733261941:True:=trivial
theorem tw12317006811847543861:True:=trivial
theorem tw4885947322536353795:True:=trivial
theorem tw14086002976715259812:True:=trivial
theorem tw11767097715880671299:True:=trivial
theorem tw3179090112189056546:True:=trivial
theorem tw15661309247516673622:True:=trivial
theorem tw16047580272318507980:True:=trivial
theorem tw14317893964653545824:True:=trivial
theorem tw1413830799594247632:True:=trivial
theorem tw11814736332891333081:True:=trivial
theorem tw2084887695714068956:True:=trivial
theorem tw11391459459799259529:True:=trivial
theorem tw12955767286349161038:True:=trivial
theorem tw16833771934644651276:True:=trivial
theorem tw7478206770382426505:True:=trivial
theorem tw12885967891519931185:True:=trivial
theorem tw2769934055071439367:True:=trivial
theorem tw7066236150205764743:True:=trivial
theorem tw12608092061348130537:True:=trivial
theorem tw705233982715046644:True:=trivial
theorem tw449232953813754597:True:=trivial
theorem tw13375543144187733456:True:=trivial
theorem tw494076799373228567:True:=trivial
theorem tw17178327389139501769:True:=trivial
theorem tw9033998075883318830:True:=trivial
theorem tw17763073771351184302:True:=trivial
theorem tw5225687742825904435:True:=trivial
theorem tw5088789129824292511:True:=trivial
theorem tw10774493102877706053:True:=trivial
theorem tw6261682505549869697:True:=trivial
theorem tw15191928637921444587:True:=trivial
theorem tw1481407618097541511:True:=trivial
theorem tw13264176033067137152:True:=trivial
theorem tw13772554873220438128:True:=trivial
theorem tw2292253619274008443:True:=trivial
theorem tw13115946541347511799:True:=trivial
theorem tw13521509597105158093:True:=trivial
theorem tw4170106224029658152:True:=trivial
theorem tw9742577407505031932:True:=trivial
theorem tw17470641641178394713:True:=trivial
theorem tw5853614753709172380:True:=trivial
theorem tw3102332164330054222:True:=trivial
theorem tw6847495165315205033:True:=trivial
theorem tw1930716776233585684:True:=trivial
theorem tw10137874516303498283:True:=trivial
theorem tw1244060379885703853:True:=trivial
theorem tw3202341051554145694:True:=trivial
theorem tw13799571167471568450:True:=trivial
theorem tw6742807706242948821:True:=trivial
theorem tw17885394158488086818:True:=trivial
theorem tw17917982070826679580:True:=trivial
theorem tw14698166440724953976:True:=trivial
theorem tw10839923711556748469:True:=trivial
theorem tw4772744745083935588:True:=trivial
theorem tw5944515554033226077:True:=trivial
theorem tw10755094913480114649:True:=trivial
theorem tw4511290003809765462:True:=trivial
theorem tw16742375116618357598:True:=trivial
theorem tw5985249897571131938:True:=trivial
theorem tw15089623092234868047:True:=trivial
theorem tw10603302188471109250:True:=trivial
theorem tw16580742533250685465:True:=trivial
theorem tw2241008166472338552:True:=trivial
theorem tw15831053472786230455:True:=trivial
theorem tw16742716118498037056:True:=trivial
theorem tw4717255250179556158:True:=trivial
theorem tw17650573560245824166:True:=trivial
theorem tw7018761885770361944:True:=trivial
theorem tw13854126634116805202:True:=trivial
theorem tw1041545919161385255:True:=trivial
theorem tw14211167240977673803:True:=trivial
theorem tw5538827449329245037:True:=trivial
theorem tw2291863975242057795:True:=trivial
theorem tw1141434320340997088:True:=trivial
theorem tw391669870801971777:True:=trivial
theorem tw3642227428177781678:True:=trivial
theorem tw13804374794196759350:True:=trivial
theorem tw12506135134911179513:True:=trivial
theorem tw17465954602592079121:True:=trivial
theorem tw11607272445941980884:True:=trivial
theorem tw2590700698246008406:True:=trivial
theorem tw13896594808117561:True:=trivial
theorem tw8125248839668448863:True:=trivial
theorem tw13671929274053485955:True:=trivial
theorem tw15291987249733755826:True:=trivial
theorem tw3223830357857125103:True:=trivial
theorem tw6933111675838702198:True:=trivial
theorem tw18021362717326547123:True:=trivial
theorem tw10397619128974864357:True:=trivial
theorem tw12891010065545402002:True:=trivial
theorem tw430707476487593328:True:=trivial
theorem tw4470413049319406403:True:=trivial
theorem tw709341359042361259:True:=trivial
theorem tw9568697099279267028:True:=trivial
theorem tw8777508054135758346:True:=trivial
theorem tw12643737407039042794:True:=trivial
theorem tw10391067161523732027:True:=trivial
theorem tw10399161658004776311:True:=trivial
theorem tw14980445519760282731:True:=trivial
theorem tw7324180303802085652:True:=trivial
theorem tw17501002061475765969:True:=trivial
theorem tw7582131554009096213:True:=trivial
theorem tw9881827876338505307:True:=trivial
theorem tw11986840317476923125:True:=trivial
theorem tw8364230493182476858:True:=trivial
theorem tw7259331897602123079:True:=trivial
theorem tw1271596096215264592:True:=trivial
theorem tw14368634999162513976:True:=trivial
theorem tw14160049722420797334:True:=trivial
theorem tw6183575345169997613:True:=trivial
theorem tw14925528000991073652:True:=trivial
theorem tw9695593199334246554:True:=trivial
theorem tw1462858512159265484:True:=trivial
theorem tw7422035260833515668:True:=trivial
theorem tw9201201014885714978:True:=trivial
theorem tw14826578543183638787:True:=trivial
theorem tw5904094307869670998:True:=trivial
theorem tw1581507516959185126:True:=trivial
theorem tw4949375769263171354:True:=trivial
theorem tw3119607150663955885:True:=trivial
theorem tw2171542229255020562:True:=trivial
theorem tw14942846200727239650:True:=trivial
theorem tw3529240249564287134:True:=trivial
theorem tw3934186095774343689:True:=trivial
theorem tw5970108763348018493:True:=trivial
theorem tw5980189935929219849:True:=trivial
theorem tw13654335414058306990:True:=trivial
theorem tw11683126970658216978:True:=trivial
theorem tw18193157146132306398:True:=trivial
theorem tw7153439467043131760:True:=trivial
theorem tw6999921386612826644:True:=trivial
theorem tw2843508896787379804:True:=trivial
theorem tw14243893495492825124:True:=trivial
theorem tw6539999780325201687:True:=trivial
theorem tw4691553171675030468:True:=trivial
theorem tw7435466302720100610:True:=trivial
theorem tw17692870742514749861:True:=trivial
theorem tw17043595147071510332:True:=trivial
theorem tw9171504850704822082:True:=trivial
theorem tw7388427300510233995:True:=trivial
theorem tw115210790574097261:True:=trivial
theorem tw10210626320392062963:True:=trivial
theorem tw13722556658862818136:True:=trivial
theorem tw15902739353683792546:True:=trivial
theorem tw16726106609065692035:True:=trivial
theorem tw6020315140094496399:True:=trivial
theorem tw7546321668667404469:True:=trivial
theorem tw14833247831837273964:True:=trivial
theorem tw14815448000473479586:True:=trivial
theorem tw4694488354085722887:True:=trivial
theorem tw3603577184196644097:True:=trivial
theorem tw39846546034329096:True:=trivial
theorem tw4249956934525979903:True:=trivial
theorem tw7941983232991624939:True:=trivial
theorem tw775097146446103748:True:=trivial
theorem tw2866234185125727875:True:=trivial
theorem tw12349287654139597877:True:=trivial
theorem tw15825452569003873692:True:=trivial
theorem tw3334498590266207003:True:=trivial
theorem tw4939701020242911427:True:=trivial
theorem tw14254983377370180411:True:=trivial
theorem tw3317609949982750575:True:=trivial
theorem tw11519801998073341894:True:=trivial
theorem tw10788770115868452663:True:=trivial
theorem tw763952244221393955:True:=trivial
theorem tw13232572890736179008:True:=trivial
theorem tw2642572337795778547:True:=trivial
theorem tw12898883490949801698:True:=trivial
theorem tw8666423213503912082:True:=trivial
theorem tw1242029835875976483:True:=trivial
theorem tw9432564615945049813:True:=trivial
theorem tw11623111303860881059:True:=trivial
theorem tw17421457012761555776:True:=trivial
theorem tw2703012239225658957:True:=trivial
theorem tw3870574286482396945:True:=trivial
theorem tw11485720188571396019:True:=trivial
theorem tw1126698114636952527:True:=trivial
theorem tw11084761089032599463:True:=trivial
theorem tw13313421338511702709:True:=trivial
theorem tw17620476212769554796:True:=trivial
theorem tw8244430909459214228:True:=trivial
theorem tw14577131487248097352:True:=trivial
theorem tw6164618436781568030:True:=trivial
theorem tw738935068429227002:True:=trivial
theorem tw15531134975541528133:True:=trivial
theorem tw17228473801734810286:True:=trivial
theorem tw11042979113133275392:True:=trivial
theorem tw16551113591371200166:True:=trivial
theorem tw9325256550675488064:True:=trivial
theorem tw15175894400018869792:True:=trivial
theorem tw4639822180493784612:True:=trivial
theorem tw3311468772994608478:True:=trivial
theorem tw13680487701328723607:True:=trivial
theorem tw1780241876699200274:True:=trivial
theorem tw13260544347862296990:True:=trivial
theorem tw9766465113302913934:True:=trivial
theorem tw18347391235795005793:True:=trivial
theorem tw6875846543561654197:True:=trivial
theorem tw11255255522298155876:True:=trivial
theorem tw4866903368697255799:True:=trivial
theorem tw6884527272546294874:True:=trivial
theorem tw2172047329349487422:True:=trivial
theorem tw11213440831447403974:True:=trivial
end PySem.W.Fast
open PySem PySem.W PyProof.Rows
set_option maxRecDepth 100000 in
set_option maxHeartbeats 0 in
theorem PySem.Challenge.cw_shuffletold_k64_bound_papers_holds : PySem.Challenge.rw_shuffletold_k64_bound_papers.Holds := by
 w_on;o_law;k_head;(case hw=>w_witness2)
 k_fill
 refine K64.walk (l:=PySem.Challenge.rw_shuffletold_k64_bound_papers) rfl rfl (fun w h Y=>PySem.W.kIn_of Y) ?F
 case F=>
  intro w mg fa h KX G hmg
  refine' K64.all_mk KX G hmg ⟨?_, ?_, ?_, ?_, ?_, ?_, ?_, ?_, ?_, ?_, ?_, ?_, ?_, ?_, ?_⟩ ⟨?_, ?_, ?_⟩ ?dA0 (L2.GDict.of ?dL0 ?dE0 ?dN0) ?dA1 (L2.GDict.of ?dL1 ?dE1 ?dN1) ?dA2 (L2.GDict.of ?dL2 ?dE2 ?dN2) ?dA3 (L2.GDict.of ?dL3 ?dE3 ?dN3) ?dA4 (L2.GDict.of ?dL4 ?dE4 ?dN4) ?tA0 (L2.sqT_ofK ?tL0 ?tZ0 ?tR0) ?nF0 ?nF1 ?nF2 ?nF3 ?nF4 ?nF5 ?nF6 ?nF7 ?nF8 ?nF9 ?nF10 ?nF11 ?nF12 ?nF13 ?nF14 ?nF15 ?nF16 ?nF17 ?nF18 ?nF19 ?nF20 (L2.Def.of ?a0 ?l0 ?c0 ?k0) (L2.Def.of ?a1 ?l1 ?c1 ?k1) (L2.Def.of ?a2 ?l2 ?c2 ?k2) (L2.Def.of ?a3 ?l3 ?c3 ?k3) (L2.Def.of ?a4 ?l4 ?c4 ?k4) (L2.Def.of ?a5 ?l5 ?c5 ?k5) (L2.Def.of ?a6 ?l6 ?c6 ?k6) (L2.Def.of ?a7 ?l7 ?c7 ?k7) (L2.Def.of ?a8 ?l8 ?c8 ?k8) (L2.Def.of ?a9 ?l9 ?c9 ?k9) (L2.Def.of ?a10 ?l10 ?c10 ?k10) (L2.Def.of ?a11 ?l11 ?c11 ?k11) (L2.Def.of ?a12 ?l12 ?c12 ?k12) (L2.Def.of ?a13 ?l13 ?c13 ?k13) (L2.Def.of ?a14 ?l14 ?c14 ?k14) (L2.Def.of ?a15 ?l15 ?c15 ?k15) (L2.Def.of ?a16 ?l16 ?c16 ?k16) (L2.Def.of ?a17 ?l17 ?c17 ?k17) (L2.Def.of ?a18 ?l18 ?c18 ?k18) (L2.Def.of ?a19 ?l19 ?c19 ?k19) (L2.Def.of ?a20 ?l20 ?c20 ?k20) (L2.Def.of ?a21 ?l21 ?c21 ?k21) (L2.Def.of ?a22 ?l22 ?c22 ?k22) (L2.Def.of ?a23 ?l23 ?c23 ?k23) (L2.Def.of ?a24 ?l24 ?c24 ?k24) (L2.Def.of ?a25 ?l25 ?c25 ?k25) (L2.Def.of ?a26 ?l26 ?c26 ?k26) (L2.Def.of ?a27 ?l27 ?c27 ?k27) (L2.Def.of ?a28 ?l28 ?c28 ?k28) (L2.Def.of ?a29 ?l29 ?c29 ?k29) (L2.Def.of ?a30 ?l30 ?c30 ?k30) (L2.Def.of ?a31 ?l31 ?c31 ?k31) (L2.Def.of ?a32 ?l32 ?c32 ?k32) (L2.Def.of ?a33 ?l33 ?c33 ?k33) (L2.Def.of ?a34 ?l34 ?c34 ?k34) (L2.Def.of ?a35 ?l35 ?c35 ?k35) (L2.Def.of ?a36 ?l36 ?c36 ?k36) (L2.Def.of ?a37 ?l37 ?c37 ?k37) (L2.Def.of ?a38 ?l38 ?c38 ?k38) (L2.Def.of ?a39 ?l39 ?c39 ?k39) (L2.Def.of ?a40 ?l40 ?c40 ?k40) (L2.Def.of ?a41 ?l41 ?c41 ?k41) (L2.Def.of ?a42 ?l42 ?c42 ?k42) (L2.Def.of ?a43 ?l43 ?c43 ?k43) (L2.Def.of ?a44 ?l44 ?c44 ?k44) (L2.Def.of ?a45 ?l45 ?c45 ?k45) (L2.Def.of ?a46 ?l46 ?c46 ?k46) (L2.Def.of ?a47 ?l47 ?c47 ?k47) (L2.Def.of ?a48 ?l48 ?c48 ?k48) (L2.Def.of ?a49 ?l49 ?c49 ?k49) (L2.Def.of ?a50 ?l50 ?c50 ?k50) (L2.Def.of ?a51 ?l51 ?c51 ?k51) (L2.Def.of ?a52 ?l52 ?c52 ?k52) (L2.Def.of ?a53 ?l53 ?c53 ?k53)
  (case dA0=>k_is);(case dL0=>k_is);(case dE0=>exact (.cons (.cons (.cons .nil))));(case dN0=>decide+kernel)
  (case dA1=>k_is);(case dL1=>k_is);(case dE1=>exact (.cons (.cons (.cons (.cons (.cons (.cons .nil)))))));(case dN1=>decide+kernel)
  (case dA2=>k_is);(case dL2=>k_is);(case dE2=>exact (.cons (.cons (.cons (.cons (.cons .nil))))));(case dN2=>decide+kernel)
  (case dA3=>k_is);(case dL3=>k_is);(case dE3=>exact (.cons (.cons (.cons (.cons (.cons .nil))))));(case dN3=>decide+kernel)
  (case dA4=>k_is);(case dL4=>k_is);(case dE4=>exact (.cons (.cons (.cons (.cons (.cons (.cons .nil)))))));(case dN4=>decide+kernel)
  (case tA0=>k_is);(case tL0=>k_is);(case tZ0=>exact (by decide));(case tR0=>exact (.cons ⟨_,rfl⟩ .nil))
  (case nF0=>k_is)
  (case nF1=>k_is)
  (case nF2=>k_is)
  (case nF3=>k_is)
  (case nF4=>k_is)
  (case nF5=>k_is)
  (case nF6=>k_is)
  (case nF7=>k_is)
  (case nF8=>k_is)
  (case nF9=>k_is)
  (case nF10=>k_is)
  (case nF11=>k_is)
  (case nF12=>k_is)
  (case nF13=>k_is)
  (case nF14=>k_is)
  (case nF15=>k_is)
  (case nF16=>k_is)
  (case nF17=>k_is)
  (case nF18=>k_is)
  (case nF19=>k_is)
  (case nF20=>k_is)
  (case a0=>k_is);(case l0=>k_is);(case c0=>k_is);(case k0=>k_is)
  (case a1=>k_is);(case l1=>k_is);(case c1=>k_is);(case k1=>k_is)
  (case a2=>k_is);(case l2=>k_is);(case c2=>k_is);(case k2=>k_is)
  (case a3=>k_is);(case l3=>k_is);(case c3=>k_is);(case k3=>k_is)
  (case a4=>k_is);(case l4=>k_is);(case c4=>k_is);(case k4=>k_is)
  (case a5=>k_is);(case l5=>k_is);(case c5=>k_is);(case k5=>k_is)
  (case a6=>k_is);(case l6=>k_is);(case c6=>k_is);(case k6=>k_is)
  (case a7=>k_is);(case l7=>k_is);(case c7=>k_is);(case k7=>k_is)
  (case a8=>k_is);(case l8=>k_is);(case c8=>k_is);(case k8=>k_is)
  (case a9=>k_is);(case l9=>k_is);(case c9=>k_is);(case k9=>k_is)
  (case a10=>k_is);(case l10=>k_is);(case c10=>k_is);(case k10=>k_is)
  (case a11=>k_is);(case l11=>k_is);(case c11=>k_is);(case k11=>k_is)
  (case a12=>k_is);(case l12=>k_is);(case c12=>k_is);(case k12=>k_is)
  (case a13=>k_is);(case l13=>k_is);(case c13=>k_is);(case k13=>k_is)
  (case a14=>k_is);(case l14=>k_is);(case c14=>k_is);(case k14=>k_is)
  (case a15=>k_is);(case l15=>k_is);(case c15=>k_is);(case k15=>k_is)
  (case a16=>k_is);(case l16=>k_is);(case c16=>k_is);(case k16=>k_is)
  (case a17=>k_is);(case l17=>k_is);(case c17=>k_is);(case k17=>k_is)
  (case a18=>k_is);(case l18=>k_is);(case c18=>k_is);(case k18=>k_is)
  (case a19=>k_is);(case l19=>k_is);(case c19=>k_is);(case k19=>k_is)
  (case a20=>k_is);(case l20=>k_is);(case c20=>k_is);(case k20=>k_is)
  (case a21=>k_is);(case l21=>k_is);(case c21=>k_is);(case k21=>k_is)
  (case a22=>k_is);(case l22=>k_is);(case c22=>k_is);(case k22=>k_is)
  (case a23=>k_is);(case l23=>k_is);(case c23=>k_is);(case k23=>k_is)
  (case a24=>k_is);(case l24=>k_is);(case c24=>k_is);(case k24=>k_is)
  (case a25=>k_is);(case l25=>k_is);(case c25=>k_is);(case k25=>k_is)
  (case a26=>k_is);(case l26=>k_is);(case c26=>k_is);(case k26=>k_is)
  (case a27=>k_is);(case l27=>k_is);(case c27=>k_is);(case k27=>k_is)
  (case a28=>k_is);(case l28=>k_is);(case c28=>k_is);(case k28=>k_is)
  (case a29=>k_is);(case l29=>k_is);(case c29=>k_is);(case k29=>k_is)
  (case a30=>k_is);(case l30=>k_is);(case c30=>k_is);(case k30=>k_is)
  (case a31=>k_is);(case l31=>k_is);(case c31=>k_is);(case k31=>k_is)
  (case a32=>k_is);(case l32=>k_is);(case c32=>k_is);(case k32=>k_is)
  (case a33=>k_is);(case l33=>k_is);(case c33=>k_is);(case k33=>k_is)
  (case a34=>k_is);(case l34=>k_is);(case c34=>k_is);(case k34=>k_is)
  (case a35=>k_is);(case l35=>k_is);(case c35=>k_is);(case k35=>k_is)
  (case a36=>k_is);(case l36=>k_is);(case c36=>k_is);(case k36=>k_is)
  (case a37=>k_is);(case l37=>k_is);(case c37=>k_is);(case k37=>k_is)
  (case a38=>k_is);(case l38=>k_is);(case c38=>k_is);(case k38=>k_is)
  (case a39=>k_is);(case l39=>k_is);(case c39=>k_is);(case k39=>k_is)
  (case a40=>k_is);(case l40=>k_is);(case c40=>k_is);(case k40=>k_is)
  (case a41=>k_is);(case l41=>k_is);(case c41=>k_is);(case k41=>k_is)
  (case a42=>k_is);(case l42=>k_is);(case c42=>k_is);(case k42=>k_is)
  (case a43=>k_is);(case l43=>k_is);(case c43=>k_is);(case k43=>k_is)
  (case a44=>k_is);(case l44=>k_is);(case c44=>k_is);(case k44=>k_is)
  (case a45=>k_is);(case l45=>k_is);(case c45=>k_is);(case k45=>k_is)
  (case a46=>k_is);(case l46=>k_is);(case c46=>k_is);(case k46=>k_is)
  (case a47=>k_is);(case l47=>k_is);(case c47=>k_is);(case k47=>k_is)
  (case a48=>k_is);(case l48=>k_is);(case c48=>k_is);(case k48=>k_is)
  (case a49=>k_is);(case l49=>k_is);(case c49=>k_is);(case k49=>k_is)
  (case a50=>k_is);(case l50=>k_is);(case c50=>k_is);(case k50=>k_is)
  (case a51=>k_is);(case l51=>k_is);(case c51=>k_is);(case k51=>k_is)
  (case a52=>k_is);(case l52=>k_is);(case c52=>k_is);(case k52=>k_is)
  (case a53=>k_is);(case l53=>k_is);(case c53=>k_is);(case k53=>k_is)
  all_goals k_is
