import PyProof.Rows.All
import Wide.All
import OpenK.AllK
import Wide.FinOn
import Lean
import PyProof.EqAt
import PyProof.EqKinds
import PyProof.TupleCall
import Open.Tops
import PyProof.DictDisplay
import PySem.Challenge.RW_shuffletold_k19_together_by_other_ways
set_option Elab.async false
set_option linter.all false
set_option maxRecDepth 100000
set_option genSizeOfSpec false
noncomputable section
namespace L2
open PySem PySem.Spec PyProof.Rows
noncomputable abbrev Key:=Sum Int Str
noncomputable def zeG:Key->Value->Bool
 | .inl k,v=>Value.isInt k v
 | .inr x,v=>Value.isStrOf x v
noncomputable def keyH (w:World):Key->Int
 | .inl k=>hashInt k
 | .inr x=>hashStr w x
theorem zaM:∀{k:Key} {v:Value},zeG k v=true->(∃i t,k=Sum.inl i/\v=Value.int i t)∨(∃x t,k=Sum.inr x/\v=Value.str x t)
 | .inl i,v,h=>by
  obtain⟨t,e⟩:=Value.isInt_shape (k:=i) (v:=v) h
  exact .inl ⟨i,t,rfl,e⟩
 | .inr x,v,h=>by
  obtain⟨t,e⟩:=Value.isStrOf_shape (x:=x) (v:=v) h
  exact .inr ⟨x,t,rfl,e⟩
theorem zeS (i:Int)(t:Tok):zeG (.inl i) (.int i t)=true:=by simp[zeG,Value.isInt]
theorem zeT (x:Str)(t:Tok):zeG (.inr x) (.str x t)=true:=by simp[zeG,Value.isStrOf]
theorem zhr (a b:Int):decide ((Sum.inl a:Key)=Sum.inl b)=(a==b):=by
 by_cases e:a=b
 ·subst e;simp
 ·have h:¬(Sum.inl a:Key)=Sum.inl b:=fun q=>e (Sum.inl.inj q)
  rw[decide_eq_false h]
  exact (beq_eq_false_iff_ne.mpr e).symm
theorem zhs (a b:Str):decide ((Sum.inr a:Key)=Sum.inr b)=decide (a=b):=by
 by_cases e:a=b
 ·subst e;simp
 ·have h:¬(Sum.inr a:Key)=Sum.inr b:=fun q=>e (Sum.inr.inj q)
  rw[decide_eq_false h,decide_eq_false e]
theorem zht (a:Int)(b:Str):decide ((Sum.inl a:Key)=Sum.inr b)=false:=decide_eq_false (fun q=>nomatch q)
theorem zhu (a:Str)(b:Int):decide ((Sum.inr a:Key)=Sum.inl b)=false:=decide_eq_false (fun q=>nomatch q)
noncomputable def zaH (prog:Program)(w:World):PySem.KeyKind prog w Key where
 is:=zeG
 hash:=keyH w
 inj:=fun v a b ha hb=>by
  rcases zaM ha with⟨i,t,rfl,rfl⟩|⟨x,t,rfl,rfl⟩
  ·rcases zaM hb with⟨j,u,rfl,e⟩|⟨y,u,rfl,e⟩
   ·injection e with e1 _;rw[e1]
   ·exact nomatch e
  ·rcases zaM hb with⟨j,u,rfl,e⟩|⟨y,u,rfl,e⟩
   ·exact nomatch e
   ·injection e with e1 _;rw[e1]
 byValue:=fun k v h=>by
  rcases zaM h with⟨i,t,rfl,rfl⟩|⟨x,t,rfl,rfl⟩<;>rfl
 pyHash:=fun hv h=>by
  rcases zaM hv with⟨i,t,rfl,rfl⟩|⟨x,t,rfl,rfl⟩
  ·exact wpAny_pyHash_int h
  ·exact wpAny_pyHash_str h
 eqBool:=fun hu hv h=>by
  rcases zaM hu with⟨i,t,rfl,rfl⟩|⟨x,t,rfl,rfl⟩
  ·rcases zaM hv with⟨j,u,rfl,rfl⟩|⟨y,u,rfl,rfl⟩
   ·rw[zhr] at h;exact wpAny_eqBool_int h
   ·rw[zht] at h;exact SeqAt.EqAt.int_str i t y u _ _ _ _ h
  ·rcases zaM hv with⟨j,u,rfl,rfl⟩|⟨y,u,rfl,rfl⟩
   ·rw[zhu] at h;exact SeqAt.EqAt.str_int x t j u _ _ _ _ h
   ·rw[zhs] at h;exact wpAny_eqBool_str h
 «strs»:=fun k x t v h=>by
  rcases zaM h with⟨i,u,rfl,e⟩|⟨y,u,rfl,e⟩
  ·exact nomatch e
  ·injection e with e1 _
   subst e1
   cases v<;>rfl
theorem zdM (prog:Program)(w:World)(i:Int)(t:Tok):(zaH prog w).is (.inl i) (.int i t)=true:=zeS i t
theorem zdN (prog:Program)(w:World)(x:Str)(t:Tok):(zaH prog w).is (.inr x) (.str x t)=true:=zeT x t
inductive V where
 |non|bl (b:Bool)|int (i:Int)|str (x:Str)|byt (b:Array UInt8)|flt (b:UInt64)|ref (a:Addr)|ty (n:String)
 deriving DecidableEq
noncomputable def RelV:V->Value->Prop
 | .non,u=>u=Value.none
 | .bl b,u=>u=Value.bool b
 | .int i,u=>∃t,u=Value.int i t
 | .str x,u=>∃t,u=Value.str x t
 | .byt b,u=>∃t,u=Value.bytes b t
 | .flt b,u=>∃t,u=Value.float b t
 | .ref a,u=>u=Value.ref a
 | .ty n,u=>u=Value.type n
noncomputable abbrev Vals:List V->List Value->Prop:=Paired RelV
theorem Vals.length {xs:List V}{us:List Value}(r:Vals xs us):xs.length=us.length:=Paired.length r
theorem Vals.get:∀{xs:List V} {us:List Value} {i:Nat} {x:V},Vals xs us->xs[i]? =some x->∃u,us[i]? =some u/\RelV x u
 |_,_,_,_,.nil,e=>by simp at e
 |_,_,0,_,.cons r _,e=>by simp at e;subst e;exact⟨_,rfl,r⟩
 |_,_,i+1,x,.cons _ t,e=>by
  obtain⟨u,h1,h2⟩:=Vals.get (i:=i) (x:=x) t (by simpa using e)
  exact⟨u,by simpa using h1,h2⟩
theorem Vals.set {x:V}{u:Value}(r:RelV x u):∀{xs:List V} {us:List Value} (i:Nat),Vals xs us->Vals (xs.set i x) (us.set i u)
 |_,_,_,.nil=>.nil
 |_,_,0,.cons _ t=>.cons r t
 |_,_,i+1,.cons q t=>.cons q (Vals.set r i t)
theorem Vals.append:∀{xs ys:List V} {us ws:List Value},Vals xs us->Vals ys ws->Vals (xs++ys) (us++ws)
 |_,_,_,_,.nil,s=>s
 |_,_,_,_,.cons r t,s=>.cons r (Vals.append t s)
theorem Vals.take:∀{xs:List V} {us:List Value} (n:Nat),Vals xs us->Vals (xs.take n) (us.take n)
 |_,_,0,_=>.nil
 |_,_,_+1,.nil=>.nil
 |_,_,n+1,.cons r t=>.cons r (Vals.take n t)
theorem Vals.drop:∀{xs:List V} {us:List Value} (n:Nat),Vals xs us->Vals (xs.drop n) (us.drop n)
 |_,_,0,r=>r
 |_,_,_+1,.nil=>.nil
 |_,_,n+1,.cons _ t=>Vals.drop n t
theorem Vals.none_of:∀{xs:List V} {us:List Value} {i:Nat},Vals xs us->xs[i]? =none->us[i]? =none:=fun {xs us i} r e=>by
 have h1:=r.length
 have h2:xs.length<=i:=List.getElem?_eq_none_iff.mp e
 exact List.getElem?_eq_none_iff.mpr (by (first|lia|omega))
noncomputable def RelO:Option V->Option Value->Prop
 |some v,some u=>RelV v u
 |none,none=>True
 |_,_=>False
noncomputable def KV {κ:Type}:List (κ×V)->List (κ×Value)->Prop:=Paired fun (p:κ×V) (q:κ×Value)=>p.1=q.1/\RelV p.2 q.2
noncomputable def kV:Key->V
 | .inl i=>.int i
 | .inr x=>.str x
inductive HO where
  |lst (xs:List V)
  |tup (xs:List V)
  |dK (kvs:List (Key×V))|dT (kvs:List (List Key×V))
  |set (S:Int->Bool) (n:Nat)
  |ins (C dx:Addr) (fs:List (Str×V))
  |own (x:Addr)
  |xd (fs:List (Str×V))
  |met (f x:Addr)
  |rng (lo hi:Int)
  |frz (o:Obj) (u:HO)
  |tbl (ps:Array Value)
  |ext (φ:Heap->Prop)
noncomputable abbrev Hp:=Addr->Option HO
noncomputable def upd (H:Hp)(a:Addr)(o:HO):Hp:=fun b=>if b=a then some o else H b
theorem zab {H:Hp}{a:Addr}{o:HO}:upd H a o a=some o:=by unfold upd;rw[if_pos rfl]
theorem zah {H:Hp}{a b:Addr}{o:HO}(h:b≠a):upd H a o b=H b:=by unfold upd;rw[if_neg h]
theorem zgJ {H:Hp}{a:Addr}{o u:HO}:upd (upd H a o) a u=upd H a u:=by
 funext b;unfold upd;split<;>rfl
theorem zfV {H:Hp}{a b:Addr}{o u:HO}(h:H a=some o)(h':H b=some u)(d:o≠u):a≠b:=by
 intro e;subst e;rw[h] at h';exact d (Option.some.inj h')
theorem zap {H:Hp}{a b:Addr}{o:HO}(h:H a=some o)(h':H b=none):a≠b:=by
 intro e;subst e;rw[h] at h';cases h'
noncomputable def PTup (h:Heap)(a:Addr)(items:Array Value):Prop:=∃o,h.get? a=some o/\o.cls=.type "tuple" /\(∃n,o.data=.seq items n)/\o.dict=none/\o.slots=#[]
theorem PTup.tup {h:Heap}{a:Addr}{items:Array Value}(p:PTup h a items):IsTup h a items:=by
 obtain⟨o,e,c,d,_⟩:=p
 exact⟨o,e,c,d⟩
theorem PTup.new {h:Heap}{items:Array Value}{n:Nat}:PTup (h.push {cls:=.type "tuple",data:=.seq items n}) h.objs.size items:=⟨_,Heap.get?_push_size _ rfl,rfl,⟨_,rfl⟩,rfl,rfl⟩
section
variable (P:Program)(w:World)
noncomputable def ObjOk (H:Hp)(h:Heap)(a:Addr):HO->Prop
 | .lst xs=>xs.length<=sizeLine/\∃(its:List Value) (n:Nat),Vals xs its/\h.get? a=some {cls:=.type "list",data:=.seq its.toArray n}
 | .tup xs=>xs.length<=sizeLine/\∃its:List Value,Vals xs its/\PTup h a its.toArray
 | .dK kvs=>kvs.length<=sizeLine/\(a==sysModules)=false/\∃vs,KV kvs vs/\h.DictOf (zaH P w) a vs
 | .dT kvs=>kvs.length<=sizeLine/\(a==sysModules)=false/\∃xs:List (List Key×Addr×Value),
   Paired (fun (p:List Key×V) (q:List Key×Addr×Value)=>p.1=q.1/\H q.2.1=some (.tup (p.1.map kV))/\RelV p.2 q.2.2) kvs xs/\
   ∃o es ep,h.get? a=some o/\o.ExactDict/\o.data=.dict es ep/\es.toList=xs.map (entryOfKey (tupleKind (zaH P w)))/\(xs.map (·.1)).Nodup
 | .set S n=>h.SetOf (intKind P w) a S n
 | .ins C dx fs=>H dx=some (.own a)/\fs.length<=1000/\dx≠a/\h.get? a=some (PySem.W.instObj C dx)/\
   ∃mA,h.Ns1 dx mA/\(∀f,RelO (fs.lookup f) (mA f))/\PySem.Within mA (fs.map (·.1))
 | .own _=>∃o,h.get? a=some o
 | .xd fs=>∃mA,h.Ns1 a mA/\∀f,RelO (fs.lookup f) (mA f)
 | .rng lo hi=>∃t u v,h.get? a=some {cls:=.type "range",data:=.fields #[.int lo t,.int hi u,.int 1 v]}
 | .frz o u=>h.get? a=some o/\ObjOk H h a u
 | .tbl ps=>h.get? a=some {cls:=.none,data:=.fields ps}
 | .met f x=>h.get? a=some (PySem.W.methodObj (.ref f) (.ref x))
 | .ext φ=>φ h/\(∃o,h.get? a=some o)/\∀h1 h2:Heap,φ h1->(∀o,h1.get? a=some o->h2.get? a=some o)->φ h2
noncomputable def HOk (H:Hp)(h:Heap):Prop:=∀a o,H a=some o->ObjOk P w H h a o
end
section
variable {P:Program}{w:World}{H H':Hp}{h h':Heap}{a:Addr}{o:HO}
theorem ObjOk.lt (x:ObjOk P w H h a o):a<h.objs.size:=by
 cases o with
 |lst xs=>obtain⟨_,_,_,_,e⟩:=x;exact Heap.lt_size e
 |tup xs=>obtain⟨_,_,_,p⟩:=x;exact p.tup.lt
 |dK kvs=>obtain⟨_,_,_,_,o,_,_,e,_⟩:=x;exact Heap.lt_size e
 |dT kvs=>obtain⟨_,_,_,_,o,_,_,e,_⟩:=x;exact Heap.lt_size e
 |set S n=>obtain⟨o,_,_,_,e,_⟩:=x;exact Heap.lt_size e
 |ins C dx fs=>obtain⟨_,_,_,e,_⟩:=x;exact Heap.lt_size e
 |own y=>obtain⟨_,e⟩:=x;exact Heap.lt_size e
 |xd fs=>obtain⟨_,⟨_,_,_,e,_⟩,_⟩:=x;exact Heap.lt_size e
 |rng lo hi=>obtain⟨_,_,_,e⟩:=x;exact Heap.lt_size e
 |frz ob u=>obtain⟨e,_⟩:=x;exact Heap.lt_size e
 |tbl ps=>exact Heap.lt_size (show h.get? a=some _ from x)
 |met f y=>exact Heap.lt_size (show h.get? a=some _ from x)
 |ext φ=>obtain⟨_,⟨_,e⟩,_⟩:=x;exact Heap.lt_size e
theorem Paired.mapP {α β:Type}{F G:α->β->Prop}:∀{l₁:List α} {l₂:List β},Paired F l₁ l₂->(∀a b,F a b->G a b)->Paired G l₁ l₂
 |_,_,.nil,_=>.nil
 |_,_,.cons r t,f=>.cons (f _ _ r) (Paired.mapP t f)
theorem ObjOk.stay (x:ObjOk P w H h a o)(k:∀b u,(b=a∨H b=some (.own a))->h.get? b=some u->h'.get? b=some u)
  (ho:∀b,H b=some (.own a)->H' b=some (.own a)) (ht:∀b xs,H b=some (.tup xs)->H' b=some (.tup xs)):ObjOk P w H' h' a o:=by
 induction o with
 |lst xs=>obtain⟨z,its,n,r,e⟩:=x;exact⟨z,its,n,r,k _ _ (.inl rfl) e⟩
 |tup xs=>obtain⟨z,its,r,ob,e,c⟩:=x;exact⟨z,its,r,ob,k _ _ (.inl rfl) e,c⟩
 |dK kvs=>obtain⟨z,y,vs,r,ob,es,ep,e,c⟩:=x;exact⟨z,y,vs,r,ob,es,ep,k _ _ (.inl rfl) e,c⟩
 |dT kvs=>
  obtain⟨z,y,xs,r,ob,es,ep,e,c⟩:=x
  exact⟨z,y,xs,Paired.mapP r fun p q z=>⟨z.1,ht _ _ z.2.1,z.2.2⟩,ob,es,ep,k _ _ (.inl rfl) e,c⟩
 |set S n=>obtain⟨ob,es,ep,t,e,c⟩:=x;exact⟨ob,es,ep,t,k _ _ (.inl rfl) e,c⟩
 |ins C dx fs=>
  obtain⟨d,z,ne,e,mA,⟨od,es,ep,e2,c⟩,r⟩:=x
  exact⟨ho _ d,z,ne,k _ _ (.inl rfl) e,mA,⟨od,es,ep,k _ _ (.inr d) e2,c⟩,r⟩
 |own y=>obtain⟨ob,e⟩:=x;exact⟨ob,k _ _ (.inl rfl) e⟩
 |xd fs=>obtain⟨mA,⟨od,es,ep,e,c⟩,r⟩:=x;exact⟨mA,⟨od,es,ep,k _ _ (.inl rfl) e,c⟩,r⟩
 |rng lo hi=>obtain⟨t,u,v,e⟩:=x;exact⟨t,u,v,k _ _ (.inl rfl) e⟩
 |frz ob u ih=>obtain⟨e,q⟩:=x;exact⟨k _ _ (.inl rfl) e,ih q⟩
 |tbl ps=>
  have e:h.get? a=some {cls:=.none,data:=.fields ps}:=x
  show h'.get? a=some {cls:=.none,data:=.fields ps}
  exact k a _ (.inl rfl) e
 |met f y=>
  have e:h.get? a=some (PySem.W.methodObj (.ref f) (.ref y)):=x
  show h'.get? a=some (PySem.W.methodObj (.ref f) (.ref y))
  exact k a _ (.inl rfl) e
 |ext φ=>obtain⟨p,⟨o,e⟩,st⟩:=x;exact⟨st _ _ p fun o q=>k _ _ (.inl rfl) q,⟨o,k _ _ (.inl rfl) e⟩,st⟩
theorem HOk.lt (x:HOk P w H h)(e:H a=some o):a<h.objs.size:=(x a o e).lt
theorem HOk.fresh (x:HOk P w H h)(e:h.objs.size<=a):H a=none:=by
 cases q:H a with
 |none=>rfl
 |some u=>exact absurd (Nat.lt_of_lt_of_le (x.lt q) e) (Nat.lt_irrefl _)
theorem HOk.kept (x:HOk P w H h)(k:∀b u,h.get? b=some u->h'.get? b=some u):HOk P w H h':=fun a o e=>
 (x a o e).stay (fun b u _ q=>k b u q) (fun _ q=>q) fun _ _ q=>q
theorem HOk.laid (x:HOk P w H h)(k:∀b u,h.get? b=some u->h'.get? b=some u)(hp:h.objs.size<=a)(new:ObjOk P w (upd H a o) h' a o):HOk P w (upd H a o) h':=fun b u e=>by
 have hn:=x.fresh hp
 by_cases hb:b=a
 ·subst hb;rw[zab] at e;cases e;exact new
 ·rw [zah hb] at e
  exact (x b u e).stay (fun c v _ q=>k c v q) (fun c q=>by rw[zah (zap q hn)];exact q) fun c xs q=>by rw[zah (zap q hn)];exact q
end
noncomputable def Rd (H:Hp)(a:Addr)(u:HO):Prop:=H a=some u∨∃o,H a=some (.frz o u)
theorem Rd.ok {P:Program}{w:World}{H:Hp}{h:Heap}{a:Addr}{u:HO}(r:Rd H a u)(x:HOk P w H h):ObjOk P w H h a u:=by
 rcases r with r|⟨o,r⟩
 ·exact x a u r
 ·obtain ⟨_,q⟩:=x a _ r
  exact q
noncomputable def Mut:Option HO->Prop
 |some (.lst _)=>True
 |some (.dK _)=>True
 |some (.dT _)=>True
 |some (.set _ _)=>True
 |some (.ins _ _ _)=>True
 |some (.ext _)=>True
 |_=>False
section
variable {P:Program}{w:World}{H:Hp}{h h':Heap}{x e:Addr}{o':HO}
theorem HOk.write (ok:HOk P w H h)(mu:Mut (H x))(he:e=x∨H e=some (.own x))(k:∀b u,b≠e->h.get? b=some u->h'.get? b=some u)(heo:∃u,h'.get? e=some u)
  (new:ObjOk P w (upd H x o') h' x o'):HOk P w (upd H x o') h':=fun b u q=>by
 have nown:∀c y,H c=some (.own y)->c≠x:=fun c y r z=>by subst z;rw[r] at mu;exact mu
 have ntup:∀c xs,H c=some (.tup xs)->c≠x:=fun c xs r z=>by subst z;rw[r] at mu;exact mu
 by_cases hb:b=x
 ·subst hb;rw[zab] at q;cases q;exact new
 ·rw [zah hb] at q
  by_cases hbe:b=e
  ·have q':H b=some (.own x):=by
    rcases he with z|z
    ·exact absurd (hbe.trans z) hb
    ·rw[hbe];exact z
   rw[q] at q';cases q'
   obtain⟨v,hv⟩:=heo
   exact⟨v,by rw[hbe];exact hv⟩
  ·refine (ok b u q).stay (fun c v hc r=>k c v ?_ r) (fun c r=>by rw[zah (nown c b r)];exact r) fun c xs r=>by rw[zah (ntup c xs r)];exact r
   rcases hc with rfl|hc
   ·exact hbe
   ·rintro rfl
    rcases he with z|z
    ·exact nown c b hc z
    ·rw[hc] at z;cases z;exact hb rfl
end
structure Un (fs ex:List Addr) (H H':Hp) (h h':Heap):Prop where
 keep:∀b o,h.get? b=some o->H b=none->b∉fs->b∉ex->h'.get? b=some o
 slot:∀b o,h.get? b=some o->H b=none->b∈fs->b∉ex->∃sl,h'.get? b=some {o with slots:=sl}
 free:∀b o,h.get? b=some o->H b=none->b∉ex->H' b=none
 there:∀b o,h.get? b=some o->b∉ex->∃o',h'.get? b=some o'
 tups:∀b xs,H b=some (.tup xs)->H' b=some (.tup xs)
 frzs:∀b o u,H b=some (.frz o u)->H' b=some (.frz o u)
 tbls:∀b ps,H b=some (.tbl ps)->∃more,H' b=some (.tbl (ps++more))
section
variable {fs fs' ex ex':List Addr}{H H1 H2:Hp}{h h1 h2 h':Heap}{a x e:Addr}{o:HO}
theorem Un.any (u:Un fs ex H H1 h h1){b:Addr}{ob:Obj}(q:h.get? b=some ob)(n:H b=none)(hx:b∉ex):∃sl,h1.get? b=some {ob with slots:=sl}:=by
 by_cases hb:b∈fs
 ·exact u.slot b ob q n hb hx
 ·exact⟨ob.slots,u.keep b ob q n hb hx⟩
theorem Un.kept (k:∀b u,h.get? b=some u->h'.get? b=some u):Un fs ex H H h h':=
 ⟨fun b ob q _ _ _=>k b ob q,fun b ob q _ _ _=>⟨ob.slots,k b ob q⟩,fun _ _ _ n _=>n,fun b ob q _=>⟨ob,k b ob q⟩,fun _ _ q=>q,fun _ _ _ q=>q,fun _ ps q=>⟨#[],by rw[q];simp⟩⟩
theorem Un.refl:Un fs ex H H h h:=Un.kept fun _ _ q=>q
theorem Un.laid (k:∀b u,h.get? b=some u->h'.get? b=some u)(hp:h.objs.size<=a)(hn:H a=none):Un fs ex H (upd H a o) h h' where
 keep:=fun b u q _ _ _=>k b u q
 slot:=fun b u q _ _ _=>⟨u.slots,k b u q⟩
 free:=fun b u q n _=>by rw[zah (Nat.ne_of_lt (Nat.lt_of_lt_of_le (Heap.lt_size q) hp))];exact n
 there:=fun b u q _=>⟨u,k b u q⟩
 tups:=fun b xs q=>by rw[zah (zap q hn)];exact q
 frzs:=fun b u xs q=>by rw[zah (zap q hn)];exact q
 tbls:=fun b ps q=>⟨#[],by rw[zah (zap q hn),q];simp⟩
theorem Un.write (mu:Mut (H x))(he:e=x∨H e=some (.own x))(k:∀b u,b≠e->h.get? b=some u->h'.get? b=some u)(heo:∃u,h'.get? e=some u):Un fs ex H (upd H x o) h h':=by
 have hx:∀b,H b=none->b≠x:=fun b n z=>by subst z;rw[n] at mu;exact mu
 have hb:∀b,H b=none->b≠e:=fun b n z=>by
  subst z
  rcases he with r|r
  ·exact hx b n r
  ·rw[n] at r;cases r
 have hm:∀b u,H b=some u->¬Mut (some u)->b≠x:=fun b u q nm z=>by subst z;rw[q] at mu;exact nm mu
 refine⟨fun b u q n _ _=>k b u (hb b n) q,fun b u q n _ _=>⟨u.slots,k b u (hb b n) q⟩,fun b u q n _=>by rw[zah (hx b n)];exact n,fun b u q _=> ?_,
  fun b xs q=>by rw[zah (hm b _ q fun z=>z)];exact q,fun b u xs q=>by rw[zah (hm b _ q fun z=>z)];exact q,fun b ps q=>⟨#[],by rw[zah (hm b _ q fun z=>z),q];simp⟩⟩
 by_cases hbe:b=e
 ·subst hbe;exact heo
 ·exact⟨u,k b u hbe q⟩
end
noncomputable def trk (h:Heap)(H:Hp):List Addr:=(List.range h.objs.size).filter fun a=>(H a).isSome
noncomputable def hidT (h:Heap)(H:Hp):Heap:=PySem.W.hideAll h (trk h H)
theorem zeU (h:Heap)(H:Hp):(hidT h H).objs.size=h.objs.size:=PySem.W.hideAll_size _ _
theorem zfW {h:Heap}{H:Hp}{b:Addr}{o:Obj}(e:h.get? b=some o)(n:H b=none):(hidT h H).get? b=some o:=
 PySem.W.hideAll_get _ e fun hm=>by
  have q:(H b).isSome=true:=(List.mem_filter.mp hm).2
  rw[n] at q;simp at q
theorem zgK {h:Heap}{H:Hp}{b:Addr}{o:Obj}(e:(hidT h H).get? b=some o):h.get? b=some o/\H b=none:=by
 have e':h.get? b=some o:=PySem.W.of_hideAll (trk h H) e
 refine⟨e', ?_⟩
 cases q:H b with
 |none=>rfl
 |some x=>
  have hm:b∈trk h H:=List.mem_filter.mpr ⟨List.mem_range.mpr (Heap.lt_size e'),by simp[q]⟩
  have z:(hidT h H).get? b=none:=PySem.W.hideAll_none (trk h H) hm
  rw[z] at e;cases e
noncomputable def zgL (g h:Heap)(L:Addr):List (Addr×Obj):=(List.range h.objs.size).filterMap fun a=>if a=L∨(g.get? a).isSome=true then none else (h.get? a).map fun o=>(a,o)
noncomputable def rest (g h:Heap)(L d:Addr):List (Addr×Obj):=(zgL g h L).filter fun p=>decide (p.1≠d)
structure Mod (K:PySem.W.Frag) (mg:Str->Option Value) (base:Heap):Prop where
 kin:K.In base
 glob:base.Ns mainGlobals mg
 blt:∃mb,base.Ns builtinsNs mb/\∀x:Str,x≠ "__name__" ->mb x=bootBuiltins x
 nolimit:base.NoLimit
structure Cx where
 prog:Program
 w:World
 K:PySem.W.Frag
 mg:Str->Option Value
 base:Heap
 A:Around
 N:List Str
 s₀:Shared
 H₀:Hp
 env:Env
 outer:List Env
 stack:List Env
 ex:List Addr
 fn:Str->Bool
 calm:Bool
 pn:List (Addr×Obj)
 xe:Value->Shared->Prop
noncomputable def frs (l:List Env):List Addr:=l.filterMap (·.frame)
noncomputable abbrev Cx.fs (X:Cx):List Addr:=frs X.outer
noncomputable def Vis (sc:Scope)(x:Str):Prop:=sc.names.lookup x=some .local∨sc.names.lookup x=some .cell∨sc.names.lookup x=some .free
noncomputable def Loc (sc:Scope)(x:Str):Prop:=sc.names.lookup x=some .local∨sc.names.lookup x=some .cell
noncomputable def Look (env:Env)(h:Heap)(m:Str->Option Value)(x:Str)(u:Value):Prop:=
 (env.kindOf x=some .local/\m x=some u)∨((env.kindOf x=some .cell∨env.kindOf x=some .free)/\∃c,env.cells.lookup x=some c/\h.IsCell c (some u))
structure Cx.Ok (X:Cx):Prop where
 mod:Mod X.K X.mg X.base
 kind:X.env.scope.kind=.function
 glob:X.env.globals=mainGlobals
 blt:X.env.builtins=builtinsNs
 above:X.s₀.heap.objs.size<=X.env.locals
 inj:∀x y c,X.env.cells.lookup x=some c->X.env.cells.lookup y=some c->x=y
 has:∀x,(X.env.kindOf x=some .cell∨X.env.kindOf x=some .free)->∃c,X.env.cells.lookup x=some c
 cab:∀x c,X.fn x=true->X.env.cells.lookup x=some c->X.s₀.heap.objs.size<=c
 hd:X.calm=true->X.A.handled=none
 frames:X.A.frames=some X.stack
 stk:X.stack=X.outer∨(X.stack=X.env::X.outer/\X.env.frame=some X.env.locals)
 exf:∀b∈X.ex,b≠X.env.locals/\∀x c,X.env.cells.lookup x=some c->c≠b
 bs:∀b o,X.base.get? b=some o->X.s₀.heap.get? b=some o/\X.H₀ b=none
 bsz:X.base.objs.size<=X.s₀.heap.objs.size
 noex:∀b o,X.base.get? b=some o->b∉X.ex
 exfs:∀b∈X.ex,b∉X.fs
 funs:X.s₀.heap.FunFrames X.base X.outer
 frf:∀b∈X.fs,X.H₀ b=none
structure Inv (X:Cx) (pins:List (Addr×Obj)) (σ:List (Option V)) (H:Hp) (s:Shared):Prop where
 ok:X.Ok
 os:s.os=X.s₀.os
 bare:AllBare s.gens
 base:Un X.fs X.ex X.H₀ H X.s₀.heap s.heap
 loc:∃m,s.heap.Ns X.env.locals m/\∀(i:Nat) (x:Str) (v:V),X.N[i]? =some x->σ[i]? =some (some v)->Vis X.env.scope x->∃u,RelV v u/\Look X.env s.heap m x u
 cell:∀x c,X.env.cells.lookup x=some c->∃v,s.heap.IsCell c v
 free:H X.env.locals=none
 freeC:∀x c,X.env.cells.lookup x=some c->H c=none
 pin:∀p∈X.pn++pins,s.heap.get? p.1=some p.2/\H p.1=none/\p.1≠X.env.locals/\p.1∉X.fs/\∀v,p.2.data≠.cell v
 hok:HOk X.prog X.w H s.heap
 len:σ.length=X.N.length
section
variable {X:Cx}{pins:List (Addr×Obj)}{σ:List (Option V)}{H H':Hp}{s:Shared}{h':Heap}
theorem Cx.Ok.nofr (ok:X.Ok){b:Addr}{o:Obj}(e:X.base.get? b=some o):b∉X.fs:=fun hb=>by
 have:=(ok.funs.mem hb).1
 rw[e] at this;cases this
theorem Inv.bs (I:Inv X pins σ H s):∀b o,X.base.get? b=some o->s.heap.get? b=some o/\H b=none:=fun b o e=>
 ⟨I.base.keep b o (I.ok.bs b o e).1 (I.ok.bs b o e).2 (I.ok.nofr e) (I.ok.noex b o e),I.base.free b o (I.ok.bs b o e).1 (I.ok.bs b o e).2 (I.ok.noex b o e)⟩
theorem Inv.bk (I:Inv X pins σ H s):∀b o,X.base.get? b=some o->s.heap.get? b=some o:=fun b o e=>(I.bs b o e).1
theorem Inv.mod (I:Inv X pins σ H s):Mod X.K X.mg X.base:=I.ok.mod
theorem Inv.kIn (I:Inv X pins σ H s):X.K.In s.heap:=I.ok.mod.kin.keeps I.bk
theorem Inv.lt (I:Inv X pins σ H s):X.env.locals<s.heap.objs.size:=let ⟨_,hn,_⟩:=I.loc;hn.lt
theorem Inv.sz (I:Inv X pins σ H s):X.s₀.heap.objs.size<=s.heap.objs.size:=Nat.le_trans I.ok.above (Nat.le_of_lt I.lt)
theorem Inv.nofs (I:Inv X pins σ H s){a:Addr}(h:s.heap.objs.size<=a):a∉X.fs:=fun hb=>by
 obtain⟨_,o,ho,_⟩:=I.ok.funs.mem hb
 exact absurd (Nat.lt_of_lt_of_le (Heap.lt_size ho) (Nat.le_trans I.sz h)) (Nat.lt_irrefl _)
theorem Inv.cne (I:Inv X pins σ H s):∀x c,X.env.cells.lookup x=some c->c≠X.env.locals:=fun x c e z=>by
 obtain⟨v,o,ho,hd⟩:=I.cell x c e
 obtain⟨m,⟨o',es,ep,ho',hd',_⟩,_⟩:=I.loc
 rw[z,ho'] at ho;cases ho;rw[hd'] at hd;cases hd
theorem Inv.funs (I:Inv X pins σ H s):s.heap.FunFrames X.base X.outer:=by
 have all:∀(l:List Env),(∀b∈frs l,b∈X.fs)->X.s₀.heap.FunFrames X.base l->s.heap.FunFrames X.base l:=by
  intro l
  induction l with
  |nil=>intro _ _;trivial
  |cons env r ih=>
   intro hs hl
   obtain⟨hk,⟨L,o,hf,hn,ho,hd⟩,hr⟩:=hl
   have hL:L∈X.fs:=hs L (by unfold frs;rw[List.filterMap_cons,hf];exact List.mem_cons_self)
   obtain⟨sl,e⟩:=I.base.slot L o ho (I.ok.frf L hL) hL fun z=>I.ok.exfs L z hL
   exact⟨hk,⟨L,_,hf,hn,e,hd⟩,ih (fun b hb=>hs b (by unfold frs;rw[List.filterMap_cons,hf];exact List.mem_cons_of_mem _ hb)) hr⟩
 exact all X.outer (fun _ hb=>hb) I.ok.funs
theorem Inv.stack (I:Inv X pins σ H s):s.heap.FunFrames X.base X.stack:=by
 rcases I.ok.stk with e|⟨e,hf⟩
 ·rw[e];exact I.funs
 ·rw [e]
  obtain⟨m,hn,_⟩:=I.loc
  refine .cons (by rw[I.ok.kind];decide) hf hn ?_ I.funs
  exact Heap.get?_none_of_le (Nat.le_trans I.ok.bsz I.ok.above)
theorem Inv.stkSub (I:Inv X pins σ H s):∀b∈frs X.stack,b∈X.env.locals::X.fs:=fun b hb=>by
 rcases I.ok.stk with e|⟨e,hf⟩
 ·rw[e] at hb;exact List.mem_cons_of_mem _ hb
 ·rw [e] at hb
  unfold frs at hb
  rw[List.filterMap_cons,hf] at hb
  exact hb
theorem Inv.stkFree (I:Inv X pins σ H s):∀b∈frs X.stack,H b=none:=fun b hb=>by
 rcases List.mem_cons.mp (I.stkSub b hb) with e|hb
 ·rw[e];exact I.free
 ·obtain ⟨_,o,ho,_⟩:=I.ok.funs.mem hb
  exact I.base.free b o ho (I.ok.frf b hb) fun z=>I.ok.exfs b z hb
theorem Inv.step {g':Array GenState}{t':Nat}{d':Drawn}{ch:List Addr}(I:Inv X pins σ H s)
  (hch:∀b∈ch,(b∈X.ex∨X.s₀.heap.objs.size<=b)/\b≠X.env.locals/\(∀x c,X.env.cells.lookup x=some c->c≠b)/\∀p∈X.pn++pins,p.1≠b)
  (keep:∀b o,b≠X.env.locals->b∉X.fs->b∉ch->s.heap.get? b=some o->H b=none->h'.get? b=some o)
  (slot:∀b o,b≠X.env.locals->b∈X.fs->b∉ch->s.heap.get? b=some o->H b=none->∃sl,h'.get? b=some {o with slots:=sl}) (free:∀b o,b∉ch->s.heap.get? b=some o->H b=none->H' b=none)
  (there:∀b o,b∉ch->s.heap.get? b=some o->∃o',h'.get? b=some o')
  (tups:∀b xs,H b=some (.tup xs)->H' b=some (.tup xs)) (frzs:∀b o u,H b=some (.frz o u)->H' b=some (.frz o u)) (tbls:∀b ps,H b=some (.tbl ps)->∃more,H' b=some (.tbl (ps++more)))
  (ns:∀m,s.heap.Ns X.env.locals m->h'.Ns X.env.locals m) (hok:HOk X.prog X.w H' h') (hg:AllBare g'):
  Inv X pins σ H' {s with heap:=h',gens:=g',drawn:=d',toks:=t'}:=by
 have neL:∀b o,X.s₀.heap.get? b=some o->b≠X.env.locals:=fun b o e=>Nat.ne_of_lt (Nat.lt_of_lt_of_le (Heap.lt_size e) I.ok.above)
 have neC:∀b o,X.s₀.heap.get? b=some o->b∉X.ex->b∉ch:=fun b o e hx hb=>by
  rcases (hch b hb).1 with z|z
  ·exact hx z
  ·exact absurd (Nat.lt_of_lt_of_le (Heap.lt_size e) z) (Nat.lt_irrefl _)
 have cellK:∀x c,X.env.cells.lookup x=some c->∀v,s.heap.IsCell c v->h'.IsCell c v:=fun x c e v ⟨o,ho,hd⟩=>by
  have nch:c∉ch:=fun z=>(hch c z).2.2.1 x c e rfl
  by_cases hc:c∈X.fs
  ·obtain ⟨sl,q⟩:=slot c o (I.cne x c e) hc nch ho (I.freeC x c e)
   exact⟨_,q,hd⟩
  ·exact⟨o,keep c o (I.cne x c e) hc nch ho (I.freeC x c e),hd⟩
 refine⟨I.ok,I.os,hg,⟨fun b o e n hb hx=> ?_,fun b o e n hb hx=> ?_,fun b o e n hx=> ?_,fun b o e hx=> ?_,fun b xs e=>tups b xs (I.base.tups b xs e),fun b o xs e=>frzs b o xs (I.base.frzs b o xs e),fun b ps e=> ?_⟩, ?_,fun x c e=> ?_, ?_,fun x c e=> ?_,fun p hp=> ?_,hok,I.len⟩
 ·exact keep b o (neL b o e) hb (neC b o e hx) (I.base.keep b o e n hb hx) (I.base.free b o e n hx)
 ·obtain ⟨sl,e1⟩:=I.base.slot b o e n hb hx
  obtain⟨sl',e2⟩:=slot b _ (neL b o e) hb (neC b o e hx) e1 (I.base.free b o e n hx)
  exact⟨sl',e2⟩
 ·obtain ⟨o',e1⟩:=I.base.there b o e hx
  exact free b o' (neC b o e hx) e1 (I.base.free b o e n hx)
 ·obtain ⟨o',e1⟩:=I.base.there b o e hx
  exact there b o' (neC b o e hx) e1
 ·obtain ⟨m1,e1⟩:=I.base.tbls b ps e
  obtain⟨m2,e2⟩:=tbls b _ e1
  exact⟨m1++m2,by rw[e2,Array.append_assoc]⟩
 ·obtain ⟨m,hn,hl⟩:=I.loc
  refine⟨m,ns m hn,fun i x v e1 e2 e3=> ?_⟩
  obtain⟨u,r,l⟩:=hl i x v e1 e2 e3
  refine⟨u,r, ?_⟩
  rcases l with l|⟨k,c,e,z⟩
  ·exact .inl l
  ·exact .inr ⟨k,c,e,cellK x c e _ z⟩
 ·obtain ⟨v,z⟩:=I.cell x c e
  exact⟨v,cellK x c e v z⟩
 ·obtain ⟨m,⟨o,_,_,ho,_⟩,_⟩:=I.loc
  exact free _ o (fun z=>(hch _ z).2.1 rfl) ho I.free
 ·obtain ⟨v,o,ho,hd⟩:=I.cell x c e
  exact free c o (fun z=>(hch c z).2.2.1 x c e rfl) ho (I.freeC x c e)
 ·obtain ⟨e,n,ne,nf,d⟩:=I.pin p hp
  have nch:p.1∉ch:=fun z=>(hch p.1 z).2.2.2 p hp rfl
  exact⟨keep p.1 p.2 ne nf nch e n,free p.1 p.2 nch e n,ne,nf,d⟩
theorem Inv.un {t':Nat}(I:Inv X pins σ H s)(u:Un X.fs [] H H' s.heap h')(hok:HOk X.prog X.w H' h'):Inv X pins σ H' {s with heap:=h',toks:=t'}:=by
 obtain⟨m,⟨o,es,ep,ho,r⟩,_⟩:=id I.loc
 obtain⟨sl,hL⟩:=u.any ho I.free (by simp)
 exact I.step (g':=s.gens) (d':=s.drawn) (ch:=[]) (fun _ z=>nomatch z) (fun b o _ hb _ e n=>u.keep b o e n hb (by simp)) (fun b o _ hb _ e n=>u.slot b o e n hb (by simp)) (fun b o _ e n=>u.free b o e n (by simp)) (fun b o _ e=>u.there b o e (by simp)) u.tups u.frzs u.tbls (fun m' hm=>by
  obtain⟨o',es',ep',ho',r'⟩:=hm
  rw[ho] at ho';cases ho'
  exact⟨_,es',ep',hL,r'⟩) hok I.bare
theorem Inv.call {g':Array GenState}{t':Nat}{d':Drawn}{ch:List Addr}(I:Inv X pins σ H s)(u:Un (frs X.stack) ch H H' s.heap h')(hok:HOk X.prog X.w H' h')(hg:AllBare g')
  (hch:∀b∈ch,(b∈X.ex∨X.s₀.heap.objs.size<=b)/\b≠X.env.locals/\(∀x c,X.env.cells.lookup x=some c->c≠b)/\∀p∈X.pn++pins,p.1≠b):
  Inv X pins σ H' {s with heap:=h',gens:=g',drawn:=d',toks:=t'}:=by
 obtain⟨m,⟨o,es,ep,ho,r⟩,_⟩:=id I.loc
 obtain⟨sl,hL⟩:=u.any ho I.free fun z=>(hch _ z).2.1 rfl
 exact I.step (ch:=ch) hch (fun b o hL hb hc e n=>u.keep b o e n (fun z=>(List.mem_cons.mp (I.stkSub b z)).elim hL hb) hc) (fun b o _ _ hc e n=>u.any e n hc) (fun b o hc e n=>u.free b o e n hc) (fun b o hc e=>u.there b o e hc) u.tups u.frzs u.tbls (fun m' hm=>by
  obtain⟨o',es',ep',ho',r'⟩:=hm
  rw[ho] at ho';cases ho'
  exact⟨_,es',ep',hL,r'⟩) hok hg
theorem Inv.turned {t':Nat}{it:Addr}(I:Inv X pins σ H s)(k:∀b o,b≠it->s.heap.get? b=some o->h'.get? b=some o)(hn:H it=none)(hL:it≠X.env.locals)
  (h1:it∈X.ex∨X.s₀.heap.objs.size<=it) (h2:∀x c,X.env.cells.lookup x=some c->c≠it) (h3:∀p∈X.pn++pins,p.1≠it):Inv X pins σ H {s with heap:=h',toks:=t'}:=by
 have nit:∀b u,H b=some u->b≠it:=fun b u e z=>by rw[z,hn] at e;cases e
 refine I.step (g':=s.gens) (d':=s.drawn) (ch:=[it]) (fun b hb=> ?_) (fun b o _ _ hc e _=>k b o (fun z=>hc (by simp[z])) e) (fun b o _ _ hc e _=>⟨o.slots,k b o (fun z=>hc (by simp[z])) e⟩) (fun _ _ _ _ n=>n)
  (fun b o hc e=>⟨o,k b o (fun z=>hc (by simp[z])) e⟩) (fun _ _ e=>e) (fun _ _ _ e=>e) (fun b ps e=>⟨#[],by rw[e];simp⟩) (fun m hm=> ?_) (fun b u e=> ?_) I.bare
 ·have e:b=it:=by simpa using hb
  subst e
  exact⟨h1,hL,h2,h3⟩
 ·obtain ⟨o,es,ep,ho,r⟩:=hm
  exact⟨o,es,ep,k _ o (Ne.symm hL) ho,r⟩
 ·refine (I.hok b u e).stay (fun c v hc q=>k c v ?_ q) (fun _ q=>q) fun _ _ q=>q
  rcases hc with z|z
  ·rw[z];exact nit b u e
  ·exact nit c _ z
theorem Inv.tok (I:Inv X pins σ H s)(t:Nat):Inv X pins σ H {s with toks:=t}:=I.un (h':=s.heap) (t':=t) Un.refl I.hok
theorem Inv.kept {t':Nat}(I:Inv X pins σ H s)(k:∀b u,s.heap.get? b=some u->h'.get? b=some u):Inv X pins σ H {s with heap:=h',toks:=t'}:=I.un (Un.kept k) (I.hok.kept k)
theorem Inv.laid {a:Addr}{o:HO}{t':Nat}(I:Inv X pins σ H s)(k:∀b u,s.heap.get? b=some u->h'.get? b=some u)(hp:s.heap.objs.size<=a)(new:ObjOk X.prog X.w (upd H a o) h' a o):
  Inv X pins σ (upd H a o) {s with heap:=h',toks:=t'}:=I.un (Un.laid k hp (I.hok.fresh hp)) (I.hok.laid k hp new)
theorem Inv.write {x e:Addr}{o:HO}{t':Nat}(I:Inv X pins σ H s)(mu:Mut (H x))(he:e=x∨H e=some (.own x))(k:∀b u,b≠e->s.heap.get? b=some u->h'.get? b=some u)(heo:∃u,h'.get? e=some u)
  (new:ObjOk X.prog X.w (upd H x o) h' x o):Inv X pins σ (upd H x o) {s with heap:=h',toks:=t'}:=I.un (Un.write mu he k heo) (I.hok.write mu he k heo new)
theorem Inv.weak {σ':List (Option V)}(I:Inv X pins σ H s)(hl:σ'.length=σ.length)(w:∀(i:Nat) v,σ'[i]? =some (some v)->σ[i]? =some (some v)):Inv X pins σ' H s:=
 ⟨I.ok,I.os,I.bare,I.base,let ⟨m,hn,hl'⟩:=I.loc;⟨m,hn,fun i x v e1 e2 e3=>hl' i x v e1 (w i v e2) e3⟩,I.cell,I.free,I.freeC,I.pin,I.hok,hl.trans I.len⟩
theorem Inv.pins_of {pins':List (Addr×Obj)}(I:Inv X pins σ H s)(h:∀p∈pins',s.heap.get? p.1=some p.2/\H p.1=none/\p.1≠X.env.locals/\p.1∉X.fs/\∀v,p.2.data≠.cell v):Inv X pins' σ H s:=
 ⟨I.ok,I.os,I.bare,I.base,I.loc,I.cell,I.free,I.freeC,fun p hp=>(List.mem_append.mp hp).elim (fun z=>I.pin p (List.mem_append_left _ z)) (h p),I.hok,I.len⟩
theorem zd8 {N:List Str}(hN:N.Nodup){i j:Nat}{x:Str}(a:N[i]? =some x)(b:N[j]? =some x):i=j:=by
 obtain⟨h1,e1⟩:=List.getElem?_eq_some_iff.mp a
 obtain⟨h2,e2⟩:=List.getElem?_eq_some_iff.mp b
 exact (List.getElem_inj hN).mp (e1.trans e2.symm)
theorem zeV {M:Model}{A:Around}{E:Value->Shared->Prop}{i:Nat}{x:Str}{v:V}{u:Value}{Q:Unit->Shared->Prop}(I:Inv X pins σ H s)(hN:X.N.Nodup)(hi:X.N[i]? =some x)(hx:Loc X.env.scope x)(r:RelV v u)
  (h:∀s',Inv X pins (σ.set i (some v)) H s'->(∃a,Heap.SameBut a s.heap s'.heap/\(a=X.env.locals∨X.env.cells.lookup x=some a))->Q () s') (hf:X.fn x=true∨X.env.scope.names.lookup x=some .local:=by first|exact .inl rfl|exact .inr rfl|assumption):wpAny M A (storeName X.env x u) Q E s:=by
 obtain⟨m,hn,hl⟩:=id I.loc
 have hcls:(X.env.scope.kind==.class||(X.env.scope.kind==.module&&X.env.locals != X.env.globals))=false:=by rw[I.ok.kind];rfl
 have hiσ:i<σ.length:=by rw[I.len];exact (List.getElem?_eq_some_iff.mp hi).1
 have cne:=I.cne
 have tracked:∀{a:Addr} {h':Heap},(∃o,s.heap.get? a=some o/\H a=none)->Heap.SameBut a s.heap h'->HOk X.prog X.w H h':=fun {a h'} ha hs b ob e=>by
  obtain⟨_,_,hfree⟩:=ha
  refine (I.hok b ob e).stay (fun c w' hc q=>(hs.2 c ?_).trans q) (fun _ q=>q) fun _ _ q=>q
  rintro rfl
  rcases hc with rfl|hc
  ·rw[hfree] at e;cases e
  ·rw[hfree] at hc;cases hc
 rcases hx with hk|hk
 ·refine wpAny_storeName_local hk hn (fun h' hn' hs=> ?_) hcls
  obtain⟨oL,_,_,hoL,_⟩:=id hn
  refine h _ ⟨I.ok,I.os,I.bare,⟨fun b o e n hb hx=> ?_,fun b o e n hb hx=> ?_,I.base.free,fun b o e hx=> ?_,I.base.tups,I.base.frzs,I.base.tbls⟩,⟨_,hn',fun j y v' e1 e2 e3=> ?_⟩,fun y c e=> ?_,I.free,I.freeC,fun p hp=> ?_,tracked ⟨oL,hoL,I.free⟩ hs,by simpa using I.len⟩ ⟨_,hs,.inl rfl⟩
  ·exact (hs.2 b (Nat.ne_of_lt (Nat.lt_of_lt_of_le (Heap.lt_size e) I.ok.above))).trans (I.base.keep b o e n hb hx)
  ·obtain ⟨sl,e1⟩:=I.base.slot b o e n hb hx
   exact⟨sl,(hs.2 b (Nat.ne_of_lt (Nat.lt_of_lt_of_le (Heap.lt_size e) I.ok.above))).trans e1⟩
  ·obtain ⟨o',e1⟩:=I.base.there b o e hx
   exact⟨o',(hs.2 b (Nat.ne_of_lt (Nat.lt_of_lt_of_le (Heap.lt_size e) I.ok.above))).trans e1⟩
  ·by_cases hj:j=i
   ·subst hj
    rw[hi] at e1;cases e1
    rw[List.getElem?_set_self hiσ] at e2
    cases e2
    exact⟨u,r,.inl ⟨hk,by simp⟩⟩
   ·rw [List.getElem?_set_ne (Ne.symm hj)] at e2
    obtain⟨u',r',q⟩:=hl j y v' e1 e2 e3
    refine⟨u',r', ?_⟩
    rcases q with⟨k,e⟩|⟨k,c,e,z⟩
    ·refine .inl ⟨k, ?_⟩
     have:y≠x:=fun e=>hj (zd8 hN e1 (e▸hi))
     simp[this,e]
    ·exact .inr ⟨k,c,e,z.sameBut hs (cne y c e)⟩
  ·obtain ⟨w',z⟩:=I.cell y c e
   exact⟨w',z.sameBut hs (cne y c e)⟩
  ·obtain ⟨e,n,ne,nf,d⟩:=I.pin p hp
   exact⟨(hs.2 p.1 ne).trans e,n,ne,nf,d⟩
 ·have hfn:X.fn x=true:=by
   rcases hf with z|z
   ·exact z
   ·rw[z] at hk;cases hk
  obtain⟨c,hc⟩:=I.ok.has x (.inl hk)
  obtain⟨w',z⟩:=I.cell x c hc
  refine wpAny_storeName_cell I.ok.kind hk hc z (fun h' hc' hs=> ?_)
  obtain⟨oc,hoc,hocd⟩:=id z
  refine h {s with heap:=h'} ⟨I.ok,I.os,I.bare,⟨fun b o e n hb hx=> ?_,fun b o e n hb hx=> ?_,I.base.free,fun b o e hx=> ?_,I.base.tups,I.base.frzs,I.base.tbls⟩,⟨m,hn.sameBut hs (Ne.symm (cne x c hc)),fun j y v' e1 e2 e3=> ?_⟩,fun y c' e=> ?_,I.free,I.freeC,fun p hp=> ?_,tracked ⟨oc,hoc,I.freeC x c hc⟩ hs,by simpa using I.len⟩ ⟨c,hs,.inr hc⟩
  ·exact (hs.2 b (Nat.ne_of_lt (Nat.lt_of_lt_of_le (Heap.lt_size e) (I.ok.cab x c hfn hc)))).trans (I.base.keep b o e n hb hx)
  ·obtain ⟨sl,e1⟩:=I.base.slot b o e n hb hx
   exact⟨sl,(hs.2 b (Nat.ne_of_lt (Nat.lt_of_lt_of_le (Heap.lt_size e) (I.ok.cab x c hfn hc)))).trans e1⟩
  ·obtain ⟨o',e1⟩:=I.base.there b o e hx
   exact⟨o',(hs.2 b (Nat.ne_of_lt (Nat.lt_of_lt_of_le (Heap.lt_size e) (I.ok.cab x c hfn hc)))).trans e1⟩
  ·by_cases hj:j=i
   ·subst hj
    rw[hi] at e1;cases e1
    rw[List.getElem?_set_self hiσ] at e2
    cases e2
    exact⟨u,r,.inr ⟨.inl hk,c,hc,hc'⟩⟩
   ·rw [List.getElem?_set_ne (Ne.symm hj)] at e2
    obtain⟨u',r',q⟩:=hl j y v' e1 e2 e3
    refine⟨u',r', ?_⟩
    rcases q with q|⟨k,c',e,z'⟩
    ·exact .inl q
    ·refine .inr ⟨k,c',e,z'.sameBut hs ?_⟩
     rintro rfl
     exact hj (zd8 hN e1 (I.ok.inj _ _ _ e hc▸hi))
  ·by_cases hcc:c'=c
   ·subst hcc;exact⟨_,hc'⟩
   ·obtain ⟨w2,z2⟩:=I.cell y c' e
    exact⟨w2,z2.sameBut hs hcc⟩
  ·obtain ⟨e,n,ne,nf,d⟩:=I.pin p hp
   refine⟨(hs.2 p.1 ?_).trans e,n,ne,nf,d⟩
   intro q
   rw[q,hoc] at e
   have q':oc=p.2:=Option.some.inj e
   exact d w' (by rw[<-q'];exact hocd)
theorem zcn {M:Model}{A:Around}{E:Value->Shared->Prop}{i:Nat}{x:Str}{v:V}{u:Value}{Q:Unit->Shared->Prop}(I:Inv X pins σ H s)(hN:X.N.Nodup)(hi:X.N[i]? =some x)(hx:Loc X.env.scope x)(r:RelV v u)
  (h:∀s',Inv X pins (σ.set i (some v)) H s'->Q () s') (hf:X.fn x=true∨X.env.scope.names.lookup x=some .local:=by first|exact .inl rfl|exact .inr rfl|assumption):wpAny M A (storeName X.env x u) Q E s:=
 zeV I hN hi hx r (fun s' I' _=>h s' I') hf
theorem Inv.call' {s':Shared}{ch:List Addr}(I:Inv X pins σ H s)(ho:s'.os=s.os)(u:Un (frs X.stack) ch H H' s.heap s'.heap)(hok:HOk X.prog X.w H' s'.heap)(hg:AllBare s'.gens)
  (hch:∀b∈ch,(b∈X.ex∨X.s₀.heap.objs.size<=b)/\b≠X.env.locals/\(∀x c,X.env.cells.lookup x=some c->c≠b)/\∀p∈X.pn++pins,p.1≠b):Inv X pins σ H' s':=by
 obtain⟨h',g',d',t',o'⟩:=s'
 have e:o'=s.os:=ho
 subst e
 exact I.call (g':=g') (t':=t') (d':=d') u hok hg hch
end
noncomputable abbrev XK:=Value->Option Addr->Hp->Prop
noncomputable abbrev St:=List (Option V)
noncomputable abbrev VK:=V->Hp->Prop
noncomputable abbrev TE:=St->Hp->VK->Prop
noncomputable abbrev TT:=St->Hp->(Bool->Hp->Prop)->Prop
noncomputable abbrev TA:=St->Hp->(List V->Hp->Prop)->Prop
structure Ends where
 nx:St->Hp->Prop
 rt:VK
 bk:St->Hp->Prop:=fun _ _=>False
 ct:St->Hp->Prop:=fun _ _=>False
noncomputable abbrev TS:=Ends->St->Hp->Prop
noncomputable def EP (X:Cx)(pins:List (Addr×Obj))(σ:St)(Q:VK)(u:Value)(s':Shared):Prop:=∃v H',Inv X pins σ H' s'/\RelV v u/\Q v H'
noncomputable def TP (X:Cx)(pins:List (Addr×Obj))(σ:St)(Q:Bool->Hp->Prop)(b:Bool)(s':Shared):Prop:=∃H',Inv X pins σ H' s'/\Q b H'
noncomputable def AP (X:Cx)(pins:List (Addr×Obj))(σ:St)(Q:List V->Hp->Prop)(us:List Value)(s':Shared):Prop:=∃vs H',Inv X pins σ H' s'/\Vals vs us/\Q vs H'
noncomputable def SP (X:Cx)(pins:List (Addr×Obj))(D:Ends)(f:Flow)(s':Shared):Prop:=
 match f with
 | .next=>∃σ' H',Inv X pins σ' H' s'/\D.nx σ' H'
 | .brk=>∃σ' H',Inv X pins σ' H' s'/\D.bk σ' H'
 | .cont=>∃σ' H',Inv X pins σ' H' s'/\D.ct σ' H'
 | .ret u=>∃v σ' H',Inv X pins σ' H' s'/\RelV v u/\D.rt v H'
noncomputable def PE (X:Cx)(e:Expr)(t:TE):Prop:=
 ∀(pins:List (Addr×Obj)) (s:Shared) (σ:St) (H:Hp) (Q:VK),Inv X pins σ H s->t σ H Q->wpAny (model X.prog X.w) X.A (eval e X.env) (EP X pins σ Q) X.xe s
noncomputable def PT (X:Cx)(e:Expr)(t:TT):Prop:=
 ∀(pins:List (Addr×Obj)) (s:Shared) (σ:St) (H:Hp) (Q:Bool->Hp->Prop),Inv X pins σ H s->t σ H Q->wpAny (model X.prog X.w) X.A (isTrue e X.env (eval e X.env)) (TP X pins σ Q) X.xe s
noncomputable def PW (X:Cx)(e:Expr)(t:TT):Prop:=
 ∀(whole:Sem Value) (pins:List (Addr×Obj)) (s:Shared) (σ:St) (H:Hp) (Q:Bool->Hp->Prop),Inv X pins σ H s->t σ H Q->wpAny (model X.prog X.w) X.A (isTrue e X.env whole) (TP X pins σ Q) X.xe s
theorem PW.pt {X:Cx}{e:Expr}{t:TT}(h:PW X e t):PT X e t:=h _
noncomputable def PA (X:Cx)(es:List Expr)(t:TA):Prop:=
 ∀(pos:Pos) (pins:List (Addr×Obj)) (s:Shared) (σ:St) (H:Hp) (Q:List V->Hp->Prop),Inv X pins σ H s->t σ H Q->wpAny (model X.prog X.w) X.A (spliced (backTo pos (starEach es X.env))) (AP X pins σ Q) X.xe s
noncomputable def PS (X:Cx)(st:Stmt)(t:TS):Prop:=
 ∀(pins:List (Addr×Obj)) (s:Shared) (σ:St) (H:Hp) (D:Ends),Inv X pins σ H s->t D σ H->wpAny (model X.prog X.w) X.A (exec st X.env) (SP X pins D) X.xe s
noncomputable def PSs (X:Cx)(st:List Stmt)(t:TS):Prop:=
 ∀(pins:List (Addr×Obj)) (s:Shared) (σ:St) (H:Hp) (D:Ends),Inv X pins σ H s->t D σ H->wpAny (model X.prog X.w) X.A (execs st X.env) (SP X pins D) X.xe s
theorem thn {α:Type}{t:Sem α}{Q Q':α->Shared->Prop}{M:Model}{A:Around}{E:Value->Shared->Prop}{s:Shared}(h:wpAny M A t Q E s)(hQ:∀a s,Q a s->Q' a s):wpAny M A t Q' E s:=wpAny_mono h hQ fun _ _ x=>x
section
variable {X:Cx}
noncomputable def tVar (i:Nat):TE:=fun σ H Q=>∃v,σ[i]? =some (some v)/\Q v H
noncomputable def tC (v:V):TE:=fun _ H Q=>Q v H
theorem zhv {i:Nat}{x:Str}{pos:Pos}(hN:X.N[i]? =some x)(hv:Vis X.env.scope x)(hd:(x==("__debug__" :Str))=false:=by decide)(hcd:(x==("__classdict__" :Str))=false:=by decide):PE X (.Name x pos) (tVar i):=by
 intro pins s σ H Q I h
 obtain⟨v,e,h⟩:=h
 obtain⟨m,hn,hl⟩:=I.loc
 obtain⟨u,r,l⟩:=hl i x v hN e hv
 have fin:EP X pins σ Q u s:=⟨v,H,I,r,h⟩
 rcases l with⟨hk,hm⟩|⟨hk,c,hc,hcell⟩
 ·exact wpAny_Name (wpAny_loadName_local I.ok.kind hk hn hm fin) hd
 ·rcases hk with hk|hk
  ·exact wpAny_Name (wpAny_loadName_cell I.ok.kind hk hc hcell fin) hd
  ·exact wpAny_Name (wpAny_loadName_free I.ok.kind hk hc hcell fin hcd) hd
theorem zad {i j pos}:PE X (.Constant (.int i) j pos) (tC (.int i)):=fun _ _ _ H _ I h=>wpAny_Constant_int ⟨.int i,H,I.tok _,⟨_,rfl⟩,h⟩
theorem zgM {b j pos}:PE X (.Constant (.bool b) j pos) (tC (.bl b)):=fun _ _ _ H _ I h=>Constant_bool ⟨.bl b,H,I,rfl,h⟩
theorem zcq {x j pos}:PE X (.Constant (.str x) j pos) (tC (.str x)):=fun _ _ _ H _ I h=>Calls.Constant_str ⟨.str x,H,I.tok _,⟨_,rfl⟩,h⟩
noncomputable def Gl (X:Cx)(x:Str):Prop:=X.env.kindOf x=some .globalImplicit
theorem zeW {E:Value->Shared->Prop}{pins:List (Addr×Obj)}{s:Shared}{σ:St}{H:Hp}{x:Str}{u:Value}{pos:Pos}{Q:Value->Shared->Prop}(I:Inv X pins σ H s)(hg:Gl X x)(hm:X.mg x=some u)(h:Q u s)
  (hd:(x==("__debug__" :Str))=false:=by decide):wpAny (model X.prog X.w) X.A (eval (.Name x pos) X.env) Q E s:=
 Calls.Name_function_global I.ok.kind hg (Calls.loadGlobal_global (by rw[I.ok.glob];exact I.mod.glob.keeps I.bk) hm h) hd
theorem zcr {E:Value->Shared->Prop}{pins:List (Addr×Obj)}{s:Shared}{σ:St}{H:Hp}{x:Str}{u:Value}{pos:Pos}{Q:Value->Shared->Prop}(I:Inv X pins σ H s)(hg:Gl X x)(hm:X.mg x=none)(hv:bootBuiltins x=some u)(h:Q u s)
  (hn:x≠ "__name__" :=by decide) (hd:(x==("__debug__" :Str))=false:=by decide):wpAny (model X.prog X.w) X.A (eval (.Name x pos) X.env) Q E s:=by
 obtain⟨mb,h1,h2⟩:=I.mod.blt
 exact Calls.Name_function_global I.ok.kind hg (Calls.loadGlobal_builtin (by rw[I.ok.glob];exact I.mod.glob.keeps I.bk) hm (by rw[I.ok.blt];exact h1.keeps I.bk) ((h2 x hn).trans hv) h) hd
theorem zdO {x:Str}{v:V}{u:Value}{pos:Pos}(hg:Gl X x)(hm:X.mg x=some u)(r:RelV v u)(hd:(x==("__debug__" :Str))=false:=by decide):PE X (.Name x pos) (tC v):=
 fun _ _ _ H _ I h=>zeW I hg hm ⟨v,H,I,r,h⟩ hd
theorem zbF {x:Str}{v:V}{u:Value}{pos:Pos}(hg:Gl X x)(hm:X.mg x=none)(hv:bootBuiltins x=some u)(r:RelV v u)(hn:x≠ "__name__" :=by decide)(hd:(x==("__debug__" :Str))=false:=by decide):PE X (.Name x pos) (tC v):=
 fun _ _ _ H _ I h=>zcr I hg hm hv ⟨v,H,I,r,h⟩ hn hd
variable {a b:Expr}{ta tb:TE}{pos:Pos}
noncomputable def tB (t:TE):TT:=fun σ H Q=>t σ H fun x H1=>∃c,x=.bl c/\Q c H1
theorem zd9 {e:Expr}{t:TE}(h:PE X e t)(he:∀whole,isTrue e X.env whole=(do let v<-whole;standAt e.pos;holding [v] (truthy v)):=by intro _;rfl):PT X e (tB t):=by
 intro pins s σ H Q I hw
 refine isTrue_plain (thn (h pins s σ H _ I hw) fun v s1 zq=> ?_) (he _)
 obtain⟨x,H1,I1,r1,q1⟩:=zq
 obtain⟨d,rfl,q⟩:=q1
 cases r1
 exact wpAny_truthy_bool ⟨H1,I1,q⟩
variable {tA tB':TT}{rest:List Expr}
noncomputable def tAnd (t u:TT):TT:=fun σ H Q=>t σ H fun c H1=>if c=true then u σ H1 Q else Q false H1
noncomputable def tOr (t u:TT):TT:=fun σ H Q=>t σ H fun c H1=>if c=true then Q true H1 else u σ H1 Q
noncomputable def tNot (t:TT):TT:=fun σ H Q=>t σ H fun c H1=>Q (!c) H1
theorem zgN (ha:PT X a tA):PW X (.BoolOp .And [a] pos) tA:=by
 intro wh pins s σ H Q I h
 refine isTrue_and (thn (ha pins s σ H Q I h) fun c s1 e=> ?_)
 cases c with
 |true=>exact isTrue_and_nil e
 |false=>exact e
theorem zhw (ha:PT X a tA):PW X (.BoolOp .Or [a] pos) tA:=by
 intro wh pins s σ H Q I h
 refine isTrue_or (thn (ha pins s σ H Q I h) fun c s1 e=> ?_)
 cases c with
 |false=>exact isTrue_or_nil e
 |true=>exact e
theorem zhx (ha:PT X a tA)(hb:PW X (.BoolOp .And (b::rest) pos) tB'):PW X (.BoolOp .And (a::b::rest) pos) (tAnd tA tB'):=by
 intro wh pins s σ H Q I h
 refine isTrue_and (thn (ha pins s σ H _ I h) fun c s1 zq=> ?_)
 obtain⟨H1,I1,q1⟩:=zq
 cases c with
 |true=>exact hb wh pins s1 σ H1 Q I1 q1
 |false=>exact⟨H1,I1,q1⟩
theorem zib (ha:PT X a tA)(hb:PW X (.BoolOp .Or (b::rest) pos) tB'):PW X (.BoolOp .Or (a::b::rest) pos) (tOr tA tB'):=by
 intro wh pins s σ H Q I h
 refine isTrue_or (thn (ha pins s σ H _ I h) fun c s1 zq=> ?_)
 obtain⟨H1,I1,q1⟩:=zq
 cases c with
 |true=>exact⟨H1,I1,q1⟩
 |false=>exact hb wh pins s1 σ H1 Q I1 q1
theorem zeX (ha:PT X a tA):PT X (.UnaryOp .Not a pos) (tNot tA):=by
 intro pins s σ H Q I h
 exact isTrue_not (ha pins s σ H (fun c H1=>Q (!c) H1) I h)
noncomputable def zic (ta tb:TE):TE:=fun σ H Q=>ta σ H fun x H1=>∃c,x=.bl c/\if c=true then tb σ H1 Q else Q (.bl false) H1
noncomputable def zid (ta:TE):TE:=fun σ H Q=>ta σ H fun x H1=>∃c,x=.bl c/\Q (.bl (!c)) H1
theorem zgA {op}{t:TE}(h:PE X a t):PE X (.BoolOp op [a] pos) t:=fun pins s σ H Q I hw=>BoolOp_one (h pins s σ H Q I hw)
theorem zea (ha:PE X a ta)(hb:PE X (.BoolOp .And (b::rest) pos) tb):PE X (.BoolOp .And (a::b::rest) pos) (zic ta tb):=by
 intro pins s σ H Q I h
 refine BoolOp_and (thn (ha pins s σ H _ I h) fun v s1 zq=> ?_)
 obtain⟨x,H1,I1,r1,q1⟩:=zq
 obtain⟨c,rfl,q1⟩:=q1
 cases r1
 refine wpAny_truthy_bool ?_
 cases c with
 |true=>exact hb pins s1 σ H1 Q I1 q1
 |false=>exact⟨.bl false,H1,I1,rfl,q1⟩
theorem zgB (ha:PE X a ta):PE X (.UnaryOp .Not a pos) (zid ta):=by
 intro pins s σ H Q I h
 refine UnaryOp_ (thn (ha pins s σ H _ I h) fun v s1 zq=> ?_)
 obtain⟨x,H1,I1,r1,q1⟩:=zq
 obtain⟨c,rfl,q1⟩:=q1
 cases r1
 exact not_of (wpAny_truthy_bool ⟨.bl (!c),H1,I1,rfl,q1⟩)
noncomputable def tIf (t:TT)(ta tb:TE):TE:=fun σ H Q=>t σ H fun c H1=>if c=true then ta σ H1 Q else tb σ H1 Q
theorem zeb {c:Expr}(hc:PT X c tA)(ha:PE X a ta)(hb:PE X b tb):PE X (.IfExp c a b pos) (tIf tA ta tb):=by
 intro pins s σ H Q I h
 refine wpAny_IfExp (thn (hc pins s σ H _ I h) fun d s1 zq=> ?_)
 obtain⟨H1,I1,q1⟩:=zq
 cases d with
 |true=>exact ha pins s1 σ H1 Q I1 q1
 |false=>exact hb pins s1 σ H1 Q I1 q1
end
noncomputable def SqL (K:PySem.W.Frag)(H:Hp)(a:Addr)(xs:List V):Prop:=
 Rd H a (.lst xs)∨
  ∃(o:Obj) (its:Array Value) (n:Nat),K.lookup a=some o/\o.cls=.type "list" /\o.dict=none/\o.data=.seq its n/\its.size<=sizeLine/\Vals xs its.toList
noncomputable def SqT (K:PySem.W.Frag)(H:Hp)(a:Addr)(xs:List V):Prop:=
 Rd H a (.tup xs)∨
  ∃(o:Obj) (its:Array Value) (n:Nat),K.lookup a=some o/\o.cls=.type "tuple" /\o.data=.seq its n/\its.size<=sizeLine/\Vals xs its.toList
noncomputable def absV:Value->Option V
 | .none=>some .non
 | .bool b=>some (.bl b)
 | .int i _=>some (.int i)
 | .str x _=>some (.str x)
 | .bytes b _=>some (.byt b)
 | .float b _=>some (.flt b)
 | .ref a=>some (.ref a)
 | .type n=>some (.ty n)
 |_=>none
theorem RelV.abs {x:V}{u:Value}(r:RelV x u):absV u=some x:=by
 cases x with
 |non=>cases r;rfl
 |bl _=>cases r;rfl
 |int _=>obtain⟨t,rfl⟩:=r;rfl
 |str _=>obtain⟨t,rfl⟩:=r;rfl
 |byt _=>obtain⟨t,rfl⟩:=r;rfl
 |flt _=>obtain⟨t,rfl⟩:=r;rfl
 |ref _=>cases r;rfl
 |ty _=>cases r;rfl
theorem RelV.inj {x y:V}{u:Value}(r:RelV x u)(q:RelV y u):x=y:=Option.some.inj (r.abs.symm.trans q.abs)
theorem Vals.inj:∀{xs ys:List V} {us:List Value},Vals xs us->Vals ys us->xs=ys
 |_,_,_,.nil,.nil=>rfl
 |_,_,_,.cons r t,.cons r' t'=>by rw[r.inj r',Vals.inj t t']
section
variable {X:Cx}{pins:List (Addr×Obj)}{σ:St}{H:Hp}{s:Shared}{a:Addr}{xs ys:List V}
theorem SqL.of {K:PySem.W.Frag}(h:H a=some (.lst xs)):SqL K H a xs:=.inl (.inl h)
theorem SqT.of {K:PySem.W.Frag}(h:H a=some (.tup xs)):SqT K H a xs:=.inl (.inl h)
theorem Inv.list (I:Inv X pins σ H s)(h:SqL X.K H a xs):∃its:List Value,Vals xs its/\PlainL s.heap a its.toArray/\xs.length<=sizeLine:=by
 rcases h with h|⟨o,its,n,hk,hc,hd,hs,hz,r⟩
 ·obtain ⟨z,its,n,r,e⟩:=h.ok I.hok
  exact⟨its,r,⟨_,n,e,rfl,rfl,rfl⟩,z⟩
 ·refine ⟨its.toList,r,⟨o,n,I.kIn a o hk,hc,hd,by simpa using hs⟩, ?_⟩
  have e:=r.length
  simp only[Array.length_toList] at e
  (first|lia|omega)
theorem Inv.tuple (I:Inv X pins σ H s)(h:SqT X.K H a xs):∃its:List Value,Vals xs its/\IsTup s.heap a its.toArray/\xs.length<=sizeLine:=by
 rcases h with h|⟨o,its,n,hk,hc,hs,hz,r⟩
 ·obtain ⟨z,its,r,p⟩:=h.ok I.hok
  exact⟨its,r,p.tup,z⟩
 ·refine ⟨its.toList,r,⟨o,I.kIn a o hk,hc,n,by simpa using hs⟩, ?_⟩
  have e:=r.length
  simp only[Array.length_toList] at e
  (first|lia|omega)
theorem Inv.list_inj (I:Inv X pins σ H s)(h:SqL X.K H a xs)(h':SqL X.K H a ys):xs=ys:=by
 obtain⟨its,r,⟨o,n,e,_,_,d⟩,_⟩:=I.list h
 obtain⟨its',r',⟨o',n',e',_,_,d'⟩,_⟩:=I.list h'
 rw[e] at e';cases e'
 rw[d] at d'
 injection d' with d1 _
 have:its=its':=by simpa using congrArg Array.toList d1
 subst this
 exact r.inj r'
theorem Inv.tuple_inj (I:Inv X pins σ H s)(h:SqT X.K H a xs)(h':SqT X.K H a ys):xs=ys:=by
 obtain⟨its,r,⟨o,e,_,n,d⟩,_⟩:=I.tuple h
 obtain⟨its',r',⟨o',e',_,n',d'⟩,_⟩:=I.tuple h'
 rw[e] at e';cases e'
 rw[d] at d'
 injection d' with d1 _
 have:its=its':=by simpa using congrArg Array.toList d1
 subst this
 exact r.inj r'
end
noncomputable abbrev Cx.wish (X:Cx)(E:Value->Shared->Prop):Cx:={X with xe:=E}
noncomputable abbrev Cx.nox (X:Cx):Cx:=X.wish fun _ _=>False
theorem Cx.Ok.wish {X:Cx}(ok:X.Ok)(E:Value->Shared->Prop):(X.wish E).Ok:=
 ⟨ok.mod,ok.kind,ok.glob,ok.blt,ok.above,ok.inj,ok.has,ok.cab,ok.hd,ok.frames,ok.stk,ok.exf,ok.bs,ok.bsz,ok.noex,ok.exfs,ok.funs,ok.frf⟩
theorem Cx.Ok.unwish {X:Cx}{E:Value->Shared->Prop}(ok:(X.wish E).Ok):X.Ok:=
 ⟨ok.mod,ok.kind,ok.glob,ok.blt,ok.above,ok.inj,ok.has,ok.cab,ok.hd,ok.frames,ok.stk,ok.exf,ok.bs,ok.bsz,ok.noex,ok.exfs,ok.funs,ok.frf⟩
section
variable {X:Cx}{pins:List (Addr×Obj)}{σ:St}{H:Hp}{s:Shared}{E:Value->Shared->Prop}
theorem Inv.wish (I:Inv X pins σ H s)(E:Value->Shared->Prop):Inv (X.wish E) pins σ H s:=⟨I.ok.wish E,I.os,I.bare,I.base,I.loc,I.cell,I.free,I.freeC,I.pin,I.hok,I.len⟩
theorem Inv.unwish (I:Inv (X.wish E) pins σ H s):Inv X pins σ H s:=⟨I.ok.unwish,I.os,I.bare,I.base,I.loc,I.cell,I.free,I.freeC,I.pin,I.hok,I.len⟩
theorem SP.unwish {D:Ends}{f:Flow}{s':Shared}(h:SP (X.wish E) pins D f s'):SP X pins D f s':=by
 cases f with
 |next=>obtain⟨σ',H',I,q⟩:=h;exact⟨σ',H',I.unwish,q⟩
 |brk=>obtain⟨σ',H',I,q⟩:=h;exact⟨σ',H',I.unwish,q⟩
 |cont=>obtain⟨σ',H',I,q⟩:=h;exact⟨σ',H',I.unwish,q⟩
 |ret u=>obtain⟨v,σ',H',I,r,q⟩:=h;exact⟨v,σ',H',I.unwish,r,q⟩
theorem PSs.nox {st:List Stmt}{t:TS}(h:PSs X.nox st t):PSs X st t:=fun pins s σ H D I hw=>
 wpAny_mono (h pins s σ H D (I.wish _) hw) (fun _ _ q=>q.unwish) fun _ _ z=>False.elim z
end
section
variable {X:Cx}{st:Stmt}{rest:List Stmt}{t u:TS}{e:Expr}{te:TE}{pos:Pos}
noncomputable def zie:TS:=fun D σ H=>D.nx σ H
noncomputable def tSeq (t u:TS):TS:=fun D σ H=>t {D with nx:=u D} σ H
theorem zbd:PSs X [] zie:=fun _ _ σ H _ I h=>wpAny_execs_nil ⟨σ,H,I,h⟩
theorem zaf (h1:PS X st t)(h2:PSs X rest u):PSs X (st::rest) (tSeq t u):=by
 intro pins s σ H D I h
 refine wpAny_execs_cons (thn (h1 pins s σ H {D with nx:=u D} I h) fun f s1 q=> ?_)
 cases f with
 |next=>
  obtain⟨σ',H',I',q⟩:=q
  exact h2 pins s1 σ' H' D I' q
 |ret v=>exact q
 |brk=>exact q
 |cont=>exact q
theorem zaj (h1:PS X st t):PSs X [st] t:=by
 intro pins s σ H D I h
 refine wpAny_execs_cons (thn (h1 pins s σ H D I h) fun f s1 q=> ?_)
 cases f with
 |next=>exact wpAny_execs_nil q
 |ret v=>exact q
 |brk=>exact q
 |cont=>exact q
theorem Inv.quiet {pins:List (Addr×Obj)}{σ:St}{H:Hp}{s:Shared}(I:Inv X pins σ H s):interactive X.env=false:=by simp[interactive,I.ok.kind]
noncomputable def zif (te:TE):TS:=fun D σ H=>te σ H fun _ H1=>D.nx σ H1
theorem zbZ (he:PE X e te)(hs:swapsWith e none pos.line X.env=pure false:=by rfl):PS X (.Expr e pos) (zif te):=by
 intro pins s σ H D I h
 exact wpAny_Expr_any (thn (he pins s σ H _ I h) fun v s1 ⟨x,H1,I1,r1,q1⟩=>⟨σ,H1,I1,q1⟩) I.quiet hs
noncomputable def tRet (te:TE):TS:=fun D σ H=>te σ H D.rt
theorem zaC (he:PE X e te):PS X (.Return (some e) pos) (tRet te):=by
 intro pins s σ H D I h
 exact wpAny_Return_some (thn (he pins s σ H _ I h) fun v s1 ⟨x,H1,I1,r1,q1⟩=>⟨x,σ,H1,I1,r1,q1⟩)
noncomputable def tIfS (c:TT)(t u:TS):TS:=fun D σ H=>c σ H fun b H1=>if b=true then t D σ H1 else u D σ H1
theorem zcs {c:Expr}{a b:List Stmt}{tc:TT}(hc:PT X c tc)(ha:PSs X a t)(hb:PSs X b u):PS X (.If c a b pos) (tIfS tc t u):=by
 intro pins s σ H D I h
 refine wpAny_If (thn (hc pins s σ H _ I h) fun d s1 zq=> ?_)
 obtain⟨H1,I1,q1⟩:=zq
 cases d with
 |true=>exact ha pins s1 σ H1 D I1 q1
 |false=>exact hb pins s1 σ H1 D I1 q1
noncomputable def zhy:TS:=fun _ _ _=>False
theorem zdk {sts:List Stmt}:PSs X sts zhy:=fun _ _ _ _ _ _ h=>h.elim
end
noncomputable abbrev TG:=V->St->Hp->(St->Hp->Prop)->Prop
noncomputable abbrev TGs:=List V->St->Hp->(St->Hp->Prop)->Prop
noncomputable def PG (X:Cx)(target:Expr)(t:TG):Prop:=
 ∀(pins:List (Addr×Obj)) (s:Shared) (σ:St) (H:Hp) (v:V) (u:Value) (Q:St->Hp->Prop),Inv X pins σ H s->RelV v u->t v σ H Q->
  wpAny (model X.prog X.w) X.A (assign target X.env u) (fun _ s'=>∃σ' H',Inv X pins σ' H' s'/\Q σ' H') X.xe s
noncomputable def PGs (X:Cx)(ts:List Expr)(t:TGs):Prop:=
 ∀(pins:List (Addr×Obj)) (s:Shared) (σ:St) (H:Hp) (vs:List V) (us:List Value) (Q:St->Hp->Prop),Inv X pins σ H s->Vals vs us->t vs σ H Q->
  wpAny (model X.prog X.w) X.A (assignInOrder ((assignEach ts X.env).map (·.2)) us) (fun _ s'=>∃σ' H',Inv X pins σ' H' s'/\Q σ' H') X.xe s
noncomputable abbrev TSet:=V->V->V->Hp->(Hp->Prop)->Prop
noncomputable def PSet (X:Cx)(t:TSet):Prop:=
 ∀(pins:List (Addr×Obj)) (s:Shared) (σ:St) (H:Hp) (o i v:V) (ov iv u:Value) (Q:Hp->Prop),Inv X pins σ H s->RelV o ov->RelV i iv->RelV v u->t o i v H Q->
  wpAny (model X.prog X.w) X.A (setItem ov iv u) (fun _ s'=>∃H',Inv X pins σ H' s'/\Q H') X.xe s
section
variable {X:Cx}{pos:Pos}
noncomputable def zbr (i:Nat):TG:=fun v σ H Q=>Q (σ.set i (some v)) H
theorem zak {i:Nat}{x:Str}(hN:X.N.Nodup)(hi:X.N[i]? =some x)(hx:Loc X.env.scope x)(hf:X.fn x=true∨X.env.scope.names.lookup x=some .local:=by first|exact .inl rfl|exact .inr rfl|assumption):PG X (.Name x pos) (zbr i):=by
 intro pins s σ H v u Q I r h
 exact wpAny_assign_Name (zcn I hN hi hx r (fun s' I'=>⟨_,H,I',h⟩) hf)
noncomputable def gNil:TGs:=fun vs σ H Q=>vs=[]/\Q σ H
noncomputable def zdP (t:TG)(u:TGs):TGs:=fun vs σ H Q=>∃v r,vs=v::r/\t v σ H fun σ' H'=>u r σ' H' Q
theorem zbj:PGs X [] gNil:=by
 intro pins s σ H vs us Q I r h
 obtain⟨e,h⟩:=h
 subst e
 cases r
 exact assignInOrder_nil ⟨σ,H,I,h⟩
theorem zax {e:Expr}{es:List Expr}{t:TG}{u:TGs}(h1:PG X e t)(h2:PGs X es u)
  (hs:(assignEach (e::es) X.env).map (·.2)=assign e X.env::(assignEach es X.env).map (·.2):=by rfl):PGs X (e::es) (zdP t u):=by
 intro pins s σ H vs us Q I r h
 obtain⟨v,vr,e1,h⟩:=h
 subst e1
 cases r with
 |cons r rr=>
  rw[hs]
  refine assignInOrder_cons (thn (h1 pins s σ H _ _ _ I r h) fun _ s1 zq=> ?_)
  obtain⟨σ1,H1,I1,q1⟩:=zq
  exact h2 pins s1 σ1 H1 _ _ Q I1 rr q1
noncomputable def gTup (K:PySem.W.Frag)(n:Nat)(t:TGs):TG:=fun v σ H Q=>∃a xs,v=.ref a/\SqT K H a xs/\xs.length=n/\t xs σ H Q
theorem zbN {es:List Expr}{k:Nat}{t:TGs}{n:Nat}(hc:X.calm=true)(h:PGs X es t)
  (hn:(assignEach es X.env).length=n:=by rfl) (hst:(assignEach es X.env).findIdx? (·.1)=none:=by rfl):PG X (.Tuple es k pos) (gTup X.K n t):=by
 intro pins s σ H v u Q I r hw
 obtain⟨a,xs,e1,hq,hl,hw⟩:=hw
 subst e1
 cases r
 obtain⟨its,rv,ht,hz⟩:=I.tuple hq
 refine assign_Tuple_tuple (I.ok.hd hc) ht (by simp[hn,<-hl,rv.length]) hst fun h' hx=> ?_
 have I1:Inv X pins σ H {s with heap:=h'}:=I.kept (t':=s.toks) fun b o e=>hx b o (Nat.ne_of_lt (Heap.lt_size e)) e
 exact h pins _ σ H xs _ Q I1 (by simpa using rv) hw
noncomputable def gSub (to ti:TE)(t:TSet):TG:=fun v σ H Q=>to σ H fun o H1=>ti σ H1 fun i H2=>t o i v H2 fun H3=>Q σ H3
theorem zcO {o i:Expr}{to ti:TE}{t:TSet}(ho:PE X o to)(hi:PE X i ti)(hs:PSet X t)
  (ha:∀v,assign (.Subscript o i pos) X.env v=(do
   let ov<-holding [v] (eval o X.env)
   let iv<-holding [v,ov] (eval i X.env)
   standAt pos
   holding [v,ov,iv] (setItem ov iv v)
   release [v,ov,iv] []):=by intro _;rfl):PG X (.Subscript o i pos) (gSub to ti t):=by
 intro pins s σ H v u Q I r h
 rw[ha]
 refine wpAny_bind (wpAny_holding (thn (ho pins s σ H _ I h) fun ov s1 zq=> ?_))
 obtain⟨x,H1,I1,r1,q1⟩:=zq
 refine wpAny_bind (wpAny_holding (thn (hi pins s1 σ H1 _ I1 q1) fun iv s2 zq=> ?_))
 obtain⟨y,H2,I2,r2,q2⟩:=zq
 refine wpAny_bind (wpAny_standAt (wpAny_bind (wpAny_holding (thn (hs pins s2 σ H2 x y v ov iv u _ I2 r1 r2 r q2) fun _ s3 zq=> ?_))))
 obtain⟨H3,I3,q3⟩:=zq
 exact wpAny_release ⟨σ,H3,I3,q3⟩
noncomputable def tAsg (te:TE)(g:TG):TS:=fun D σ H=>te σ H fun x H1=>g x σ H1 D.nx
theorem zb9 {tg e:Expr}{te:TE}{g:TG}(he:PE X e te)(hg:PG X tg g)(hs:swapsWithSole [tg] e pos.line X.env=pure false:=by rfl)(hw:swappedStores [tg] e X.env=pure none:=by rfl)
  (h1:(assignEach [tg] X.env).map (·.2)=[assign tg X.env]:=by rfl):PS X (.Assign [tg] e pos) (tAsg te g):=by
 intro pins s σ H D I h
 refine wpAny_Assign_stores (thn (he pins s σ H _ I h) fun v s1 zq=> ?_) hs hw
 obtain⟨x,H1,I1,r1,q1⟩:=zq
 rw[h1]
 exact thn (hg pins s1 σ H1 x v _ I1 r1 q1) fun _ s2 q=>q
theorem zas {i:Nat}{x:Str}{e:Expr}{te:TE}{pos':Pos}(hN:X.N.Nodup)(hi:X.N[i]? =some x)(hx:Loc X.env.scope x)(he:PE X e te)(hs:swapsWith e (some (.Name x pos')) pos.line X.env=pure false:=by rfl)(hf:X.fn x=true∨X.env.scope.names.lookup x=some .local:=by first|exact .inl rfl|exact .inr rfl|assumption):
  PS X (.Assign [.Name x pos'] e pos) (tAsg te (zbr i)):=by
 intro pins s σ H D I h
 refine wpAny_Assign_Name (thn (he pins s σ H _ I h) fun v s1 zq=> ?_) hs
 obtain⟨y,H1,I1,r1,q1⟩:=zq
 exact zcn I1 hN hi hx r1 (fun s2 I2=>⟨_,H1,I2,q1⟩) hf
noncomputable def tPar (i j:Nat)(ta:TA):TS:=fun D σ H=>ta σ H fun vs H1=>∃v w,vs=[v,w]/\D.nx ((σ.set i (some v)).set j (some w)) H1
theorem zgC {i j:Nat}{x y:Str}{a b:Expr}{ta:TA}{px py pt:Pos}{kt k2 pt2}(hc:X.calm=true)(hN:X.N.Nodup)(hi:X.N[i]? =some x)(hj:X.N[j]? =some y)(hij:i≠j)
  (hx:X.env.scope.names.lookup x=some .local) (hy:X.env.scope.names.lookup y=some .local) (ha:PA X [a,b] ta)
  (hw:swappedStores [.Tuple [.Name x px,.Name y py] kt pt] (.Tuple [a,b] k2 pt2) X.env=pure (some [x,y]))
  (hs:swapsWithSole [.Tuple [.Name x px,.Name y py] kt pt] (.Tuple [a,b] k2 pt2) pos.line X.env=pure false:=by rfl):
  PS X (.Assign [.Tuple [.Name x px,.Name y py] kt pt] (.Tuple [a,b] k2 pt2) pos) (tPar i j ta):=by
 intro pins s σ H D I h
 rw[exec_Assign_arm]
 refine wpAny_bind (wpAny_standAt ?_)
 rw[hs]
 refine wpAny_bind (wpAny_pure ?_)
 rw[if_neg (by decide)]
 refine wpAny_bind (Tuple_ (thn (ha _ pins s σ H _ I h) fun us s1 zq=> ?_))
 obtain⟨vs,H1,I1,r1,q1⟩:=zq
 obtain⟨v,w,e1,q1⟩:=q1
 subst e1
 obtain⟨u1,u2,rfl,rv,rw'⟩:∃u1 u2,us=[u1,u2]/\RelV v u1/\RelV w u2:=by
  cases r1 with
  | cons p q=>
   cases q with
   |cons p' q'=>
    cases q'
    exact⟨_,_,rfl,p,p'⟩
 refine wpAny_newObj_type ?_ (by show 2<=sizeLine;decide)
 have I2:Inv X pins σ H1 {s1 with heap:=s1.heap.push {cls:=.type "tuple",data:=.seq [u1,u2].toArray}}:=I1.kept (t':=s1.toks) fun b o e=>Heap.get?_push_of_some _ e
 rw[hw]
 refine wpAny_bind (wpAny_pure ?_)
 show wpAny (model X.prog X.w) X.A (do rule "assign.swapped-stores";let items<-unpackItems (.ref s1.heap.objs.size) 2 none;assignInOrder [fun v=>bindName X.env y v,fun v=>bindName X.env x v] items.reverse;pure Flow.next) _ _ _
 refine wpAny_bind (wpAny_rule (wpAny_bind (unpackItems_tuple (items:=#[u1,u2]) (I.ok.hd hc) (IsTup.new s1.heap _) fun h' hx'=> ?_)))
 have I3:=I2.kept (h':=h') (t':=s1.toks) fun b o e=>hx' b o (Nat.ne_of_lt (Heap.lt_size e)) e
 show wpAny _ _ (assignInOrder [fun v=>bindName X.env y v,fun v=>bindName X.env x v] [u2,u1] >>= fun _=>pure Flow.next) _ _ _
 refine wpAny_bind (assignInOrder_cons (wpAny_bindName (zcn I3 hN hj (.inl hy) rw' (fun s2 I4=> ?_) (.inr hy))))
 refine assignInOrder_cons (wpAny_bindName (zcn I4 hN hi (.inl hx) rv (fun s3 I5=>assignInOrder_nil (wpAny_pure ?_)) (.inr hx)))
 rw[List.set_comm _ _ (Ne.symm hij)] at I5
 exact⟨_,H1,I5,q1⟩
noncomputable def zhz (c:TT)(tb:TS):TS:=fun D σ H=>∃W:Nat->St->Hp->Prop,(∃m,W m σ H)/\∀m σ H,W m σ H->
 c σ H fun b H1=>if b=true then ∃N:St->Hp->Prop,(∀σ' H',N σ' H'->∃m',m'<m/\W m' σ' H')/\tb {D with nx:=N,ct:=N,bk:=D.nx} σ H1 else D.nx σ H1
theorem zfX {c:Expr}{body:List Stmt}{tc:TT}{tb:TS}(hp:PassesOwn (model X.prog X.w) X.A X.env X.xe)(hc:PT X c tc)(hb:PSs X body tb):PS X (.While c body [] pos) (zhz tc tb):=by
 intro pins s σ H D I h
 obtain⟨W,⟨m0,w0⟩,turn⟩:=h
 refine wpAny_While (codeAny_whileLoop (fun n s'=>∃σ' H',Inv X pins σ' H' s'/\W n σ' H') ?_ m0 ⟨σ,H,I,w0⟩)
 rintro n s1 ⟨σ1,H1,I1,w1⟩
 refine wpAny_passesOwn hp (thn (hc pins s1 σ1 H1 _ I1 (turn n σ1 H1 w1)) fun b s2 zq=> ?_)
 obtain⟨H2,I2,q2⟩:=zq
 cases b with
 | true=>
  obtain⟨N,hN,q2⟩:=q2
  rw[if_pos rfl]
  refine wpAny_passesOwn hp (thn (hb pins s2 σ1 H2 _ I2 q2) fun f s3 q3=> ?_)
  cases f with
  |next=>
   obtain⟨σ3,H3,I3,n3⟩:=q3
   obtain⟨m',hm,w3⟩:=hN σ3 H3 n3
   exact⟨m',hm,σ3,H3,I3,w3⟩
  |cont=>
   obtain⟨σ3,H3,I3,n3⟩:=q3
   obtain⟨m',hm,w3⟩:=hN σ3 H3 n3
   exact⟨m',hm,σ3,H3,I3,w3⟩
  |brk=>exact q3
  |ret v=>exact q3
 |false=>
  rw[if_neg Bool.false_ne_true]
  exact wpAny_execs_nil ⟨σ1,H2,I2,q2⟩
end
structure It where
 go:Nat->Hp->Prop
 yld:Nat->Hp->V->Hp->Prop
 stop:Nat->Hp->Prop
noncomputable def FpOk (X:Cx)(pins:List (Addr×Obj))(H:Hp)(b:Addr):Prop:=
 H b=none/\b≠X.env.locals/\b∉X.fs/\(b∈X.ex∨X.s₀.heap.objs.size<=b)/\(∀x c,X.env.cells.lookup x=some c->c≠b)/\∀p∈X.pn++pins,p.1≠b
theorem Inv.fpOk {X:Cx}{pins:List (Addr×Obj)}{σ:St}{H H':Hp}{s:Shared}{b:Addr}(I:Inv X pins σ H s)(hb:s.heap.objs.size<=b)(hn:H' b=none):FpOk X pins H' b:=by
 refine⟨hn,Nat.ne_of_gt (Nat.lt_of_lt_of_le I.lt hb),I.nofs hb,.inr (Nat.le_trans I.sz hb),fun x c e z=> ?_,fun p hp z=> ?_⟩
 ·obtain ⟨v,q⟩:=I.cell x c e
  exact absurd (Nat.lt_of_lt_of_le q.lt (by rw[z];exact hb)) (Nat.lt_irrefl _)
 ·exact absurd (Nat.lt_of_lt_of_le (Heap.lt_size (I.pin p hp).1) (by rw[z];exact hb)) (Nat.lt_irrefl _)
structure Turn (P:Program) (w:World) (K:PySem.W.Frag) (tg:Expr) (J:It) (fp:List Addr) (it:Addr) (tn:Nat->Heap->Prop):Prop where
 mem:it∈fp
 obj:∀i h,tn i h->∀b∈fp,∃o,h.get? b=some o/\∀v,o.data≠.cell v
 keep:∀i h h',tn i h->(∀b∈fp,∀o,h.get? b=some o->h'.get? b=some o)->tn i h'
 item:∀(X:Cx),X.prog=P->X.w=w->X.K=K->X.calm=true->∀(i:Nat) (pins:List (Addr×Obj)) (s:Shared) (σ:St) (H:Hp) (E:Value->Shared->Prop),Inv X pins σ H s->(∀b∈fp,FpOk X pins H b)->tn i s.heap->J.go i H->
  wpAny (model P w) X.A (pyNext (.ref it)) (fun r s1=>∃u,r=some u/\
   wpAny (model P w) X.A (letOwnedTupleGo tg (.ref it) u) (fun _ s2=>∃x H',Inv X pins σ H' s2/\RelV x u/\J.yld i H x H'/\tn (i+1) s2.heap/\∀b∈fp,H' b=none) E s1) E s
 done:∀(X:Cx),X.prog=P->X.w=w->X.K=K->X.calm=true->∀(i:Nat) (pins:List (Addr×Obj)) (s:Shared) (σ:St) (H:Hp) (E:Value->Shared->Prop),Inv X pins σ H s->(∀b∈fp,FpOk X pins H b)->tn i s.heap->J.stop i H->
  wpAny (model P w) X.A (pyNext (.ref it)) (fun r s1=>r=none/\Inv X pins σ H s1) E s
 self:∀(A:Around) (i:Nat) (s:Shared) (Q:Value->Shared->Prop) (E:Value->Shared->Prop),tn i s.heap->Q (.ref it) s->wpAny (model P w) A (pyIter (.ref it)) Q E s
noncomputable abbrev TI:=St->Hp->(It->Hp->Prop)->Prop
noncomputable def PIE (X:Cx)(pins:List (Addr×Obj))(σ:St)(tg:Expr)(R:It->Hp->Prop)(itv:Value)(s2:Shared):Prop:=
 ∃(it:Addr) (fp:List Addr) (tn:Nat->Heap->Prop) (J:It) (H':Hp),itv=.ref it/\Inv X pins σ H' s2/\Turn X.prog X.w X.K tg J fp it tn/\tn 0 s2.heap/\(∀b∈fp,FpOk X pins H' b)/\R J H'
noncomputable def PI (X:Cx)(tg iter:Expr)(wi:TI):Prop:=
 ∀(pins:List (Addr×Obj)) (s:Shared) (σ:St) (H:Hp) (R:It->Hp->Prop),Inv X pins σ H s->wi σ H R->
  wpAny (model X.prog X.w) X.A (eval iter X.env) (fun v s1=>wpAny (model X.prog X.w) X.A (pyIter v) (PIE X pins σ tg R) X.xe s1) X.xe s
theorem zhA {M:Model}{A:Around}{E:Value->Shared->Prop}{s:Shared}{tg:Expr}{it:Addr}{u:Value}{o:Obj}{n:String}{vs:Array Value}{Q:Unit->Shared->Prop}(ho:s.heap.get? it=some o)(hc:o.cls=.type n)(hd:o.data=.fields vs)
    (hn:["enumerate", "zip", "dict_itemiterator", "dict_reverseitemiterator", "odict_iterator", "itertools.zip_longest", "itertools.pairwise"].contains n=false) (hQ:Q () s):wpAny M A (letOwnedTupleGo tg (.ref it) u) Q E s:=by
  unfold letOwnedTupleGo
  cases tg <;>first
    |exact wpAny_pure hQ
    |(cases u<;>first
        |exact wpAny_pure hQ
        | (refine wpAny_bind (wpAny_load ho ?_)
           rw[hc,hd]
           show wpAny M A (if (["enumerate", "zip", "dict_itemiterator", "dict_reverseitemiterator", "odict_iterator", "itertools.zip_longest", "itertools.pairwise"].contains n&&vs[0]? ==some (rawInt _))=true then _ else _) Q E s
           rw[if_neg (by intro h;rw[hn,Bool.false_and] at h;cases h)]
           exact wpAny_pure hQ))
noncomputable def Itl (K:PySem.W.Frag)(a:Addr):It:=
 ⟨fun i H=>∃xs x,SqL K H a xs/\xs[i]? =some x,fun i H x H'=>H'=H/\∀xs,SqL K H a xs->xs[i]? =some x,fun i H=>∃xs,SqL K H a xs/\xs.length<=i⟩
noncomputable def Itr (lo:Int)(n:Nat):It:=⟨fun i _=>i<n,fun i H x H'=>H'=H/\x=.int (lo+i),fun i _=>n<=i⟩
theorem zeY {P:Program}{w:World}{K:PySem.W.Frag}{tg:Expr}(a it:Addr):Turn P w K tg (Itl K a) [it] it (fun i h=>h.IsListIter it a i) where
 mem:=by simp
 obj:=fun i h st b hb=>by
  have e:b=it:=by simpa using hb
  subst e
  obtain⟨o,e,c,d⟩:=st
  exact⟨o,e,fun v z=>by rw[d] at z;cases z⟩
 keep:=fun i h h' st k=>st.at fun o e=>k it (by simp) o e
 item:=by
  intro X hP hw hK hc i pins s σ H E I hf st hg
  subst hP hw hK
  obtain⟨xs,x,hq,hx⟩:=hg
  obtain⟨its,rv,p,hz⟩:=I.list hq
  obtain⟨u,hu,ru⟩:=rv.get hx
  obtain⟨f0,f1,f2,f3,f4,f5⟩:=hf it (by simp)
  refine wpAny_pyNext_list_item st p.isList (x:=u) (by simpa using hu) fun h' st' sb=> ?_
  have I1:Inv X pins σ H {s with heap:=h'}:=I.turned (t':=s.toks) (fun b o hb e=>(sb.2 b hb).trans e) f0 f1 f3 f4 f5
  obtain⟨o,e,c,d⟩:=id st'
  exact⟨u,rfl,zhA (s:={s with heap:=h'}) e c d (by decide) ⟨x,H,I1,ru,⟨rfl,fun ys hy=>by rw[I.list_inj hy hq];exact hx⟩,st',fun b hb=>(hf b hb).1⟩⟩
 done:=by
  intro X hP hw hK hc i pins s σ H E I hf st hg
  subst hP hw hK
  obtain⟨xs,hq,hx⟩:=hg
  obtain⟨its,rv,p,hz⟩:=I.list hq
  obtain⟨f0,f1,f2,f3,f4,f5⟩:=hf it (by simp)
  have hl:=rv.length
  exact wpAny_pyNext_list_end (I.ok.hd hc) st p.isList (by simp;(first|lia|omega)) fun h' eb=>⟨rfl,I.turned (t':=s.toks) (fun b o hb e=>eb b o hb e) f0 f1 f3 f4 f5⟩
 self:=fun _ _ _ _ _ st h=>wpAny_pyIter_listiter st h
theorem zeH {P:Program}{w:World}{K:PySem.W.Frag}{tg:Expr}(it:Addr)(lo:Int)(n:Nat):Turn P w K tg (Itr lo n) [it] it (fun i h=>IsRangeIter h it (lo+(i:Nat)*1) ((n:Int)-(i:Nat)) 1) where
 mem:=by simp
 obj:=fun i h st b hb=>by
  have e:b=it:=by simpa using hb
  subst e
  exact⟨_,st,fun v z=>by
   have z':Data.fields _=Data.cell v:=z
   cases z'⟩
 keep:=fun i h h' st k=>k it (by simp) _ st
 item:=by
  intro X hP hw hK hc i pins s σ H E I hf st hg
  subst hP hw hK
  obtain⟨f0,f1,f2,f3,f4,f5⟩:=hf it (by simp)
  have W:=Walks.range (prog:=X.prog) (w:=X.w) (I.ok.hd hc) it lo 1 n
  refine W.item i s _ _ hg st fun v h' tk hv st' kk=> ?_
  obtain⟨t,rfl⟩:=hv
  have I1:Inv X pins σ H {s with heap:=h',toks:=tk}:=I.turned (fun b o hb e=>kk b o (by simpa using hb) e) f0 f1 f3 f4 f5
  refine⟨_,rfl,zhA (s:={s with heap:=h',toks:=tk}) (n:= "range_iterator") st' rfl rfl (by decide) ⟨.int (lo+i),H,I1,⟨t, ?_⟩,⟨rfl,rfl⟩,st',fun b hb=>(hf b hb).1⟩⟩
  rw[Int.mul_one]
 done:=by
  intro X hP hw hK hc i pins s σ H E I hf st hg
  subst hP hw hK
  obtain⟨f0,f1,f2,f3,f4,f5⟩:=hf it (by simp)
  exact wpAny_pyNext_range_end (I.ok.hd hc) st (by have:n<=i:=hg;(first|lia|omega)) fun h' eb=>⟨rfl,I.turned (t':=s.toks) (fun b o hb e=>eb b o hb e) f0 f1 f3 f4 f5⟩
 self:=fun _ _ _ _ _ st h=>wpAny_pyIter_rangeiter st h
section
variable {X:Cx}{tg:Expr}
noncomputable def zhB (K:PySem.W.Frag)(tl:TE):TI:=fun σ H R=>tl σ H fun x H1=>∃a,x=.ref a/\(∃xs,SqL K H1 a xs)/\R (Itl K a) H1
theorem zct {l:Expr}{tl:TE}(hl:PE X l tl):PI X tg l (zhB X.K tl):=by
 intro pins s σ H R I h
 refine thn (hl pins s σ H _ I h) fun v s1 zq=> ?_
 obtain⟨x,H1,I1,r1,q1⟩:=zq
 obtain⟨a,e,⟨xs,hq⟩,q⟩:=q1
 subst e
 cases r1
 obtain⟨its,rv,p,hz⟩:=I1.list hq
 refine wpAny_pyIter_list p.isList ?_
 refine⟨s1.heap.objs.size,[s1.heap.objs.size],_,_,H1,rfl,I1.kept (t':=s1.toks) fun b o e=>Heap.get?_push_of_some _ e,zeY a _,⟨_,Heap.get?_push_size _ rfl,rfl,rfl⟩,fun b hb=> ?_,q⟩
 have e:b=s1.heap.objs.size:=by simpa using hb
 subst e
 exact I1.fpOk (Nat.le_refl _) (I1.hok.fresh (Nat.le_refl _))
theorem zec {pins:List (Addr×Obj)}{σ:St}{H:Hp}{s:Shared}{R:It->Hp->Prop}{E:Value->Shared->Prop}{lo hi:Int}{t u v:Tok}{tk:Nat}(I:Inv X pins σ H s)(h1:-(2^62)<=lo)(h2:lo<2^62)(h3:-(2^62)<=hi)(h4:hi<2^62)
  (q:R (Itr lo (hi-lo).toNat) H):wpAny (model X.prog X.w) X.A (pyIter (.ref s.heap.objs.size)) (PIE X pins σ tg R) E {s with heap:=s.heap.push {cls:=.type "range",data:=.fields #[.int lo t,.int hi u,.int 1 v]},toks:=tk}:=by
 refine wpAny_pyIter_range (IsRange.new ..) (small_one h1 h2 h3 h4) ?_
 have I1:Inv X pins σ H {s with heap:=s.heap.push {cls:=.type "range",data:=.fields #[.int lo t,.int hi u,.int 1 v]},toks:=tk}:=I.kept fun b o e=>Heap.get?_push_of_some _ e
 refine⟨(s.heap.push {cls:=.type "range",data:=.fields #[.int lo t,.int hi u,.int 1 v]}).objs.size,[(s.heap.push {cls:=.type "range",data:=.fields #[.int lo t,.int hi u,.int 1 v]}).objs.size],_,_,H,rfl,
  I1.kept (t':=tk) fun b o e=>Heap.get?_push_of_some _ e,zeH _ lo (hi-lo).toNat, ?_,fun b hb=> ?_,q⟩
 ·have e1:lo+((0:Nat):Int)*1=lo:=by simp
  have e2:(((hi-lo).toNat:Nat):Int)-((0:Nat):Int)=Builtin.Range.rangeSize lo hi 1:=by rw[rangeSize_one];split<;>(first|lia|omega)
  show IsRangeIter _ _ (lo+((0:Nat):Int)*1) ((((hi-lo).toNat:Nat):Int)-((0:Nat):Int)) 1
  rw[e1,e2]
  exact Heap.get?_push_size _ rfl
 ·have e:b=(s.heap.push {cls:=.type "range",data:=.fields #[.int lo t,.int hi u,.int 1 v]}).objs.size:=by simpa using hb
  subst e
  exact I1.fpOk (Nat.le_refl _) (I1.hok.fresh (Nat.le_refl _))
noncomputable def zig (ta:TA):TI:=fun σ H R=>ta σ H fun vs H1=>∃j:Int,vs=[.int j]/\-(2^62)<=j/\j<2^62/\R (Itr 0 j.toNat) H1
noncomputable def zih (ta:TA):TI:=fun σ H R=>ta σ H fun vs H1=>∃i j:Int,vs=[.int i,.int j]/\(-(2^62)<=i/\i<2^62/\-(2^62)<=j/\j<2^62)/\R (Itr i (j-i).toNat) H1
theorem zat {a:Expr}{ta:TA}{p pos:Pos}(hg:Gl X "range")(hm:X.mg "range" =none)(ha:PA X [a] ta)(hs:starEach [a] X.env=[(false,eval a X.env)]:=by rfl):PI X tg (.Call (.Name "range" p) [a] [] pos) (zig ta):=by
 intro pins s σ H R I h
 refine Call_ (zcr I hg hm boot_range (PyProof.Rows.callWith_type1 (thn (ha pos pins s σ H _ I h) fun us s1 zq=> ?_) hs rfl))
 obtain⟨vs,H1,I1,r1,q1⟩:=zq
 obtain⟨j,e,q1,q2,q⟩:=q1
 subst e
 cases r1 with
 |cons r rr=>
  cases rr
  obtain⟨t,rfl⟩:=r
  exact call_range_1 (zec I1 (by (first|lia|omega)) (by (first|lia|omega)) q1 q2 (by simpa using q))
theorem zbg {a b:Expr}{ta:TA}{p pos:Pos}(hg:Gl X "range")(hm:X.mg "range" =none)(ha:PA X [a,b] ta)(hs:starEach [a,b] X.env=[(false,eval a X.env),(false,eval b X.env)]:=by rfl)(hs2:starEach [b] X.env=[(false,eval b X.env)]:=by rfl):
  PI X tg (.Call (.Name "range" p) [a,b] [] pos) (zih ta):=by
 intro pins s σ H R I h
 refine Call_ (zcr I hg hm boot_range (PyProof.Rows.callWith_type1 (thn (ha pos pins s σ H _ I h) fun us s1 zq=> ?_) (by rw[hs,hs2]) (by rw[hs2];rfl)))
 obtain⟨vs,H1,I1,r1,q1⟩:=zq
 obtain⟨i,j,e,⟨q1,q2,q3,q4⟩,q⟩:=q1
 subst e
 cases r1 with
 | cons r rr=>
  cases rr with
  |cons r' rr=>
   cases rr
   obtain⟨t,rfl⟩:=r
   obtain⟨t',rfl⟩:=r'
   exact call_range_2 (zec I1 q1 q2 q3 q4 q)
noncomputable def tFor (wi:TI)(g:TG)(tb:TS):TS:=fun D σ H=>wi σ H fun J H1=>∃W:Nat->Nat->St->Hp->Prop,(∃m,W 0 m σ H1)/\∀i m σ H,W i m σ H->
 (J.stop i H/\D.nx σ H)∨(J.go i H/\∃N:St->Hp->Prop,(∀σ' H',N σ' H'->∃m',m'<m/\W (i+1) m' σ' H')/\∀x H',J.yld i H x H'->g x σ H' fun σ2 H2=>tb {D with nx:=N,ct:=N,bk:=D.nx} σ2 H2)
noncomputable def zcP (fp:List Addr)(h:Heap):List (Addr×Obj):=fp.filterMap fun b=>(h.get? b).map fun o=>(b,o)
theorem za6 {fp:List Addr}{h:Heap}{b:Addr}{o:Obj}(hb:b∈fp)(e:h.get? b=some o):(b,o)∈zcP fp h:=List.mem_filterMap.mpr ⟨b,hb,by rw[e];rfl⟩
theorem zeZ {fp:List Addr}{h:Heap}{p:Addr×Obj}(hp:p∈zcP fp h):p.1∈fp/\h.get? p.1=some p.2:=by
 obtain⟨b,hb,e⟩:=List.mem_filterMap.mp hp
 cases q:h.get? b with
 |none=>rw[q] at e;cases e
 |some o=>
  rw[q] at e
  have e':(b,o)=p:=Option.some.inj e
  subst e'
  exact⟨hb,q⟩
theorem Inv.pinned {pins:List (Addr×Obj)}{σ:St}{H:Hp}{s:Shared}{fp:List Addr}(I:Inv X pins σ H s)(hf:∀b∈fp,FpOk X pins H b)(ho:∀b∈fp,∃o,s.heap.get? b=some o/\∀v,o.data≠.cell v):Inv X (pins++zcP fp s.heap) σ H s:=
 I.pins_of fun p hp=>(List.mem_append.mp hp).elim (fun z=>I.pin p (List.mem_append_right _ z)) fun z=>by
  obtain⟨hb,e⟩:=zeZ z
  obtain⟨f0,f1,f2,_⟩:=hf p.1 hb
  obtain⟨o,e',d⟩:=ho p.1 hb
  rw[e] at e';cases e'
  exact⟨e,f0,f1,f2,d⟩
theorem Inv.unpinned {pins pl:List (Addr×Obj)}{σ:St}{H:Hp}{s:Shared}(I:Inv X (pins++pl) σ H s):Inv X pins σ H s:=I.pins_of fun p hp=>I.pin p (List.mem_append_right _ (List.mem_append_left _ hp))
theorem zaS {iter:Expr}{body:List Stmt}{wi:TI}{g:TG}{tb:TS}{pos:Pos}(hp:PassesOwn (model X.prog X.w) X.A X.env X.xe)(hc:X.calm=true)(hi:PI X tg iter wi)(hg:PG X tg g)(hb:PSs X body tb)
  (hs:∀x,foldedSetIterable iter X.env x=pure x:=by intro _;rfl):PS X (.For tg iter body [] pos) (tFor wi g tb):=by
 intro pins s σ H D I h
 refine wpAny_For (thn (hi pins s σ H _ I h) fun v s1 h1=>thn h1 fun itv s2 h2=> ?_) hs
 obtain⟨it,fp,tn,J,H2,e,I2,T,st2,f2,W,⟨m0,w0⟩,turn⟩:=h2
 subst e
 have stat:∀{H':Hp},(∀b∈fp,H' b=none)->∀b∈fp,FpOk X pins H' b:=fun hn b hb=>⟨hn b hb,(f2 b hb).2⟩
 refine codeAny_forLoop_any (fun n s'=>∃i σ' H',Inv X pins σ' H' s'/\tn i s'.heap/\(∀b∈fp,H' b=none)/\W i n σ' H') ?_ m0 ⟨0,σ,H2,I2,st2,fun b hb=>(f2 b hb).1,w0⟩
 rintro n s3 ⟨i,σ3,H3,I3,st3,fr3,w3⟩
 rcases turn i n σ3 H3 w3 with⟨stop,qn⟩|⟨go,N,hN,step⟩
 ·refine wpAny_passesOwn hp (thn (T.done X rfl rfl rfl hc i pins s3 σ3 H3 X.xe I3 (stat fr3) st3 stop) fun r s4 zq=> ?_)
  obtain⟨hr,I4⟩:=zq
  subst hr
  exact wpAny_execs_nil ⟨σ3,H3,I4,qn⟩
 ·refine wpAny_passesOwn hp (thn (T.item X rfl rfl rfl hc i pins s3 σ3 H3 X.xe I3 (stat fr3) st3 go) fun r s4 zq=> ?_)
  obtain⟨u,hr,h4⟩:=zq
  subst hr
  refine wpAny_passesOwn hp (thn h4 fun _ s5 zq=> ?_)
  obtain⟨x,H5,I5,r5,y5,st5,fr5⟩:=zq
  have I5':=I5.pinned (stat fr5) (T.obj _ _ st5)
  refine wpAny_passesOwn hp (thn (hg _ s5 σ3 H5 x u _ I5' r5 (step x H5 y5)) fun _ s6 zq=> ?_)
  obtain⟨σ6,H6,I6,q6⟩:=zq
  refine wpAny_passesOwn hp (thn (hb _ s6 σ6 H6 _ I6 q6) fun f s7 q7=> ?_)
  have again:∀{σ7:St} {H7:Hp},Inv X (pins++zcP fp s5.heap) σ7 H7 s7->N σ7 H7->∃m,m<n/\∃i σ' H',Inv X pins σ' H' s7/\tn i s7.heap/\(∀b∈fp,H' b=none)/\W i m σ' H':=fun {σ7 H7} I7 n7=>by
   obtain⟨m',hm,w7⟩:=hN σ7 H7 n7
   refine⟨m',hm,i+1,σ7,H7,I7.unpinned,T.keep _ _ _ st5 fun b hb o e=>(I7.pin (b,o) (List.mem_append_right _ (List.mem_append_right _ (za6 hb e)))).1,fun b hb=> ?_,w7⟩
   obtain⟨o,e,d⟩:=T.obj _ _ st5 b hb
   exact (I7.pin (b,o) (List.mem_append_right _ (List.mem_append_right _ (za6 hb e)))).2.1
  cases f with
  |next=>obtain⟨σ7,H7,I7,n7⟩:=q7;exact again I7 n7
  |cont=>obtain⟨σ7,H7,I7,n7⟩:=q7;exact again I7 n7
  |brk=>obtain⟨σ7,H7,I7,q7⟩:=q7;exact⟨σ7,H7,I7.unpinned,q7⟩
  |ret v=>obtain⟨x7,σ7,H7,I7,r7,q7⟩:=q7;exact⟨x7,σ7,H7,I7.unpinned,r7,q7⟩
end
theorem zfY {K:PySem.W.Frag}{a:Addr}{xs:List V}{g:TG}{tb:TS}{D:Ends}{σ:St}{H:Hp}(Pv:Nat->St->Hp->Prop)(h0:Pv 0 σ H)(hl:∀i σ H,i<=xs.length->Pv i σ H->SqL K H a xs)
  (hs:∀i x σ H,xs[i]? =some x->Pv i σ H->g x σ H fun σ2 H2=>tb {D with nx:=Pv (i+1),ct:=Pv (i+1),bk:=D.nx} σ2 H2) (hd:∀σ H,Pv xs.length σ H->D.nx σ H):
  ∃W:Nat->Nat->St->Hp->Prop,(∃m,W 0 m σ H)/\∀i m σ H,W i m σ H->
   ((Itl K a).stop i H/\D.nx σ H)∨((Itl K a).go i H/\∃N:St->Hp->Prop,(∀σ' H',N σ' H'->∃m',m'<m/\W (i+1) m' σ' H')/\∀x H',(Itl K a).yld i H x H'->g x σ H' fun σ2 H2=>tb {D with nx:=N,ct:=N,bk:=D.nx} σ2 H2):=by
 refine⟨fun i m σ H=>m=xs.length-i/\i<=xs.length/\Pv i σ H,⟨xs.length,by simp,Nat.zero_le _,h0⟩, ?_⟩
 rintro i m σ H ⟨rfl,hi,p⟩
 have q:=hl i σ H hi p
 by_cases hlt:i<xs.length
 ·refine .inr ⟨⟨xs,xs[i],q,by simp[hlt]⟩,Pv (i+1),fun σ' H' p'=>⟨xs.length-(i+1),by (first|lia|omega),rfl,hlt,p'⟩,fun x H' y=> ?_⟩
  obtain⟨e,y⟩:=y
  subst e
  exact hs i x σ _ (y xs q) p
 ·have e:i=xs.length:=by (first|lia|omega)
  subst e
  exact .inl ⟨⟨xs,q,Nat.le_refl _⟩,hd σ H p⟩
theorem zaI {lo:Int}{n:Nat}{g:TG}{tb:TS}{D:Ends}{σ:St}{H:Hp}(Pv:Nat->St->Hp->Prop)(h0:Pv 0 σ H)
  (hs:∀i σ H,i<n->Pv i σ H->g (.int (lo+i)) σ H fun σ2 H2=>tb {D with nx:=Pv (i+1),ct:=Pv (i+1),bk:=D.nx} σ2 H2) (hd:∀σ H,Pv n σ H->D.nx σ H):
  ∃W:Nat->Nat->St->Hp->Prop,(∃m,W 0 m σ H)/\∀i m σ H,W i m σ H->
   ((Itr lo n).stop i H/\D.nx σ H)∨((Itr lo n).go i H/\∃N:St->Hp->Prop,(∀σ' H',N σ' H'->∃m',m'<m/\W (i+1) m' σ' H')/\∀x H',(Itr lo n).yld i H x H'->g x σ H' fun σ2 H2=>tb {D with nx:=N,ct:=N,bk:=D.nx} σ2 H2):=by
 refine⟨fun i m σ H=>m=n-i/\i<=n/\Pv i σ H,⟨n,by simp,Nat.zero_le _,h0⟩, ?_⟩
 rintro i m σ H ⟨rfl,hi,p⟩
 by_cases hlt:i<n
 ·refine .inr ⟨hlt,Pv (i+1),fun σ' H' p'=>⟨n-(i+1),by (first|lia|omega),rfl,hlt,p'⟩,fun x H' y=> ?_⟩
  obtain⟨e,y⟩:=y
  subst e y
  exact hs i σ _ hlt p
 ·have e:i=n:=by (first|lia|omega)
  subst e
  exact .inl ⟨Nat.le_refl _,hd σ H p⟩
noncomputable abbrev R2:=V->V->Hp->VK->Prop
noncomputable def OpR (X:Cx)(f:Value->Value->Sem Value)(r:R2):Prop:=
 ∀(pins:List (Addr×Obj)) (s:Shared) (σ:St) (H:Hp) (x y:V) (v u:Value) (Q:VK),Inv X pins σ H s->RelV x v->RelV y u->r x y H Q->
  wpAny (model X.prog X.w) X.A (f v u) (EP X pins σ Q) X.xe s
noncomputable def UnR (X:Cx)(f:Value->Sem Value)(r:V->Hp->VK->Prop):Prop:=
 ∀(pins:List (Addr×Obj)) (s:Shared) (σ:St) (H:Hp) (x:V) (v:Value) (Q:VK),Inv X pins σ H s->RelV x v->r x H Q->
  wpAny (model X.prog X.w) X.A (f v) (EP X pins σ Q) X.xe s
noncomputable def zbG (X:Cx)(f:Value)(r:List V->Hp->VK->Prop):Prop:=
 ∀(pins:List (Addr×Obj)) (s:Shared) (σ:St) (H:Hp) (xs:List V) (us:List Value) (Q:VK),Inv X pins σ H s->Vals xs us->r xs H Q->
  wpAny (model X.prog X.w) X.A (call f us) (EP X pins σ Q) X.xe s
noncomputable def tOp (r:R2)(ta tb:TE):TE:=fun σ H Q=>ta σ H fun x H1=>tb σ H1 fun y H2=>r x y H2 Q
noncomputable def tUn (r:V->Hp->VK->Prop)(ta:TE):TE:=fun σ H Q=>ta σ H fun x H1=>r x H1 Q
noncomputable def rI (C:Int->Int->Prop)(g:Int->Int->V):R2:=fun x y H Q=>∃i j,x=.int i/\y=.int j/\C i j/\Q (g i j) H
noncomputable def rI0 (g:Int->Int->V):R2:=fun x y H Q=>∃i j,x=.int i/\y=.int j/\Q (g i j) H
noncomputable def rU (g:Int->V):V->Hp->VK->Prop:=fun x H Q=>∃i,x=.int i/\Q (g i) H
section
variable {X:Cx}{a b c:Expr}{ta tb tc:TE}{pos:Pos}
theorem binT (ha:PE X a ta)(hb:PE X b tb){pins:List (Addr×Obj)}{s:Shared}{σ:St}{H:Hp}{R:V->V->Hp->Prop}(I:Inv X pins σ H s)
  (h:ta σ H fun x H1=>tb σ H1 fun y H2=>R x y H2) {Q:Value->Shared->Prop} {f:Value->Value->Sem Value}
  (hf:∀v u s2 x y H2,Inv X pins σ H2 s2->RelV x v->RelV y u->R x y H2->wpAny (model X.prog X.w) X.A (f v u) Q X.xe s2):
  wpAny (model X.prog X.w) X.A (eval a X.env) (fun v s₁=>wpAny (model X.prog X.w) X.A (eval b X.env) (fun u s₂=>wpAny (model X.prog X.w) X.A (f v u) Q X.xe s₂) X.xe s₁) X.xe s:=by
 refine thn (ha pins s σ H _ I h) fun v s1 zq=> ?_
 obtain⟨x,H1,I1,r1,q1⟩:=zq
 refine thn (hb pins s1 σ H1 _ I1 q1) fun u s2 zq=> ?_
 obtain⟨y,H2,I2,r2,q2⟩:=zq
 exact hf v u s2 x y H2 I2 r1 r2 q2
theorem zai {op:Operator}{r:R2}(ho:OpR X (binaryOp op) r)(ha:PE X a ta)(hb:PE X b tb):PE X (.BinOp a op b pos) (tOp r ta tb):=by
 intro pins s σ H Q I h
 exact wpAny_BinOp (binT ha hb I h fun v u s2 x y H2 I2 rx ry q=>ho pins s2 σ H2 x y v u Q I2 rx ry q)
theorem zii {op:UnaryOp}{r:V->Hp->VK->Prop}(ho:UnR X (unaryOp op) r)(ha:PE X a ta):PE X (.UnaryOp op a pos) (tUn r ta):=by
 intro pins s σ H Q I h
 exact UnaryOp_ (thn (ha pins s σ H _ I h) fun v s1 ⟨x,H1,I1,r1,q1⟩=>ho pins s1 σ H1 x v Q I1 r1 q1)
theorem opI {f:Value->Value->Sem Value}{C:Int->Int->Prop}{g:Int->Int->Int}
  (rule:∀(i j:Int) (t u:Tok) (s:Shared) (Q:Value->Shared->Prop) (E:Value->Shared->Prop),C i j->Q (.int (g i j) s.toks) {s with toks:=s.toks+1}->wpAny (model X.prog X.w) X.A (f (.int i t) (.int j u)) Q E s):
  OpR X f (rI C fun i j=>.int (g i j)):=by
 intro pins s σ H x y v u Q I rx ry h
 obtain⟨i,j,rfl,rfl,hc,q⟩:=h
 obtain⟨t,rfl⟩:=rx
 obtain⟨t',rfl⟩:=ry
 exact rule i j t t' s _ _ hc ⟨.int (g i j),H,I.tok _,⟨_,rfl⟩,q⟩
theorem opI0 {f:Value->Value->Sem Value}{g:Int->Int->Int}
  (rule:∀(i j:Int) (t u:Tok) (s:Shared) (Q:Value->Shared->Prop) (E:Value->Shared->Prop),Q (.int (g i j) s.toks) {s with toks:=s.toks+1}->wpAny (model X.prog X.w) X.A (f (.int i t) (.int j u)) Q E s):
  OpR X f (rI0 fun i j=>.int (g i j)):=by
 intro pins s σ H x y v u Q I rx ry h
 obtain⟨i,j,rfl,rfl,q⟩:=h
 obtain⟨t,rfl⟩:=rx
 obtain⟨t',rfl⟩:=ry
 exact rule i j t t' s _ _ ⟨.int (g i j),H,I.tok _,⟨_,rfl⟩,q⟩
theorem opB0 {f:Value->Value->Sem Value}{g:Int->Int->Bool}
  (rule:∀(i j:Int) (t u:Tok) (s:Shared) (Q:Value->Shared->Prop) (E:Value->Shared->Prop),Q (.bool (g i j)) s->wpAny (model X.prog X.w) X.A (f (.int i t) (.int j u)) Q E s):
  OpR X f (rI0 fun i j=>.bl (g i j)):=by
 intro pins s σ H x y v u Q I rx ry h
 obtain⟨i,j,rfl,rfl,q⟩:=h
 obtain⟨t,rfl⟩:=rx
 obtain⟨t',rfl⟩:=ry
 exact rule i j t t' s _ _ ⟨.bl (g i j),H,I,rfl,q⟩
noncomputable def CDiv (i j:Int):Prop:=0<j/\j<1073741824
noncomputable def CPow (i j:Int):Prop:=0<=j/\j<=1000000/\i.natAbs<2^64
noncomputable def CMul (i j:Int):Prop:=(-(2^64)<i/\i<2^64)∨(-(2^64)<j/\j<2^64)
theorem CMul.ok {i j:Int}(h:CMul i j):IntMulOk i j:=by
 rcases h with⟨h1,h2⟩|⟨h1,h2⟩
 ·exact .of_left (intBits_le_64 h1 h2)
 ·exact .of_right (intBits_le_64 h1 h2)
theorem zal:OpR X (binaryOp .Add) (rI0 fun i j=>.int (i+j)):=opI0 fun _ _ _ _ _ _ _ q=>add_int q
theorem zaJ:OpR X (binaryOp .Sub) (rI0 fun i j=>.int (i-j)):=opI0 fun _ _ _ _ _ _ _ q=>sub_int q
theorem zaV:OpR X (binaryOp .Mult) (rI CMul fun i j=>.int (i*j)):=opI fun _ _ _ _ _ _ _ hc q=>mul_int q hc.ok
theorem zb0:OpR X (binaryOp .FloorDiv) (rI CDiv fun i j=>.int (i/j)):=opI fun i j _ _ _ _ _ hc q=>by
 have h1:(0:Int)<j:=hc.1
 have h2:j<1073741824:=hc.2
 exact floordiv_int (by (first|lia|omega)) (by rw[Int.fdiv_eq_ediv_of_nonneg i (by (first|lia|omega))];exact q) (.inl (PyProof.noPylong_small (by (first|lia|omega))))
theorem zca:OpR X (binaryOp .Mod) (rI (fun _ j=>0<j) fun i j=>.int (i%j)):=opI fun i j _ _ _ _ _ hc q=>by
 have h1:(0:Int)<j:=hc
 exact mod_int' (by (first|lia|omega)) (by rw[Int.fmod_eq_emod_of_nonneg i (by (first|lia|omega))];exact q)
theorem ze0:OpR X (binaryOp .Pow) (rI CPow fun i j=>.int (i^j.toNat)):=opI fun _ _ _ _ _ _ _ hc q=>pow_int_small hc.1 hc.2.1 hc.2.2 q
theorem unI {f:Value->Sem Value}{g:Int->Int}
  (rule:∀(i:Int) (t:Tok) (s:Shared) (Q:Value->Shared->Prop) (E:Value->Shared->Prop),Q (.int (g i) s.toks) {s with toks:=s.toks+1}->wpAny (model X.prog X.w) X.A (f (.int i t)) Q E s):
  UnR X f (rU fun i=>.int (g i)):=by
 intro pins s σ H x v Q I rx h
 obtain⟨i,rfl,q⟩:=h
 obtain⟨t,rfl⟩:=rx
 exact rule i t s _ _ ⟨.int (g i),H,I.tok _,⟨_,rfl⟩,q⟩
theorem zhC:UnR X (unaryOp .USub) (rU fun i=>.int (-i)):=unI fun _ _ _ _ _ q=>neg_int q
end
noncomputable def scal:V->V->Bool
 | .non,.non=>true| .non,.int _=>true| .int _,.non=>true| .non,.bl _=>true| .bl _,.non=>true| .non,.str _=>true| .str _,.non=>true
 | .int _,.int _=>true| .bl _,.bl _=>true| .str _,.str _=>true| .byt _,.byt _=>true
 | .int _,.str _=>true| .str _,.int _=>true| .bl _,.str _=>true| .str _,.bl _=>true
 |_,_=>false
noncomputable def rEq:R2:=fun x y H Q=>scal x y=true/\Q (.bl (decide (x=y))) H
noncomputable def rNe:R2:=fun x y H Q=>scal x y=true/\Q (.bl (!decide (x=y))) H
theorem ze1 {i j:Int}:decide (V.int i=V.int j)=(i==j):=by
 rw[Bool.eq_iff_iff]
 simp
theorem zgD {i j:Bool}:decide (V.bl i=V.bl j)=(i==j):=by
 rw[Bool.eq_iff_iff]
 simp
theorem ze2 {i j:Str}:decide (V.str i=V.str j)=(i==j):=by
 rw[Bool.eq_iff_iff]
 simp
theorem ze3 {i j:Array UInt8}:decide (V.byt i=V.byt j)=(i.toList==j.toList):=by
 rw[Bool.eq_iff_iff]
 cases i
 cases j
 simp
section
variable {X:Cx}{a b c:Expr}{ta tb tc:TE}{pos:Pos}
theorem zaB {pins:List (Addr×Obj)}{σ:St}{H:Hp}{s:Shared}{Q:VK}{k k':Bool}(I:Inv X pins σ H s)(q:Q (.bl k) H)(e:k=k'):EP X pins σ Q (.bool k') s:=by
 subst e
 exact⟨.bl k,H,I,rfl,q⟩
theorem zcX:OpR X (compareOp .Eq) rEq:=by
 intro pins s σ H x y v u Q I rx ry h
 obtain⟨hs,q⟩:=h
 cases x with
 |non=>
  cases rx
  cases y with
  |non=>cases ry;exact PySem.EqNone.eq_none_none (zaB I q (by simp))
  |bl j=>cases ry;exact PySem.EqNone.eq_none_bool (zaB I q (by simp))
  |int j=>obtain⟨t',rfl⟩:=ry;exact PySem.EqNone.eq_none_int (zaB I q (by simp))
  |str j=>obtain⟨t',rfl⟩:=ry;exact PySem.EqNone.eq_none_str (zaB I q (by simp))
  |_=>exact absurd (show false=true from hs) Bool.false_ne_true
 |bl i=>
  cases rx
  cases y with
  |non=>cases ry;exact PySem.EqNone.eq_bool_none (zaB I q (by simp))
  |bl j=>cases ry;exact eq_bool (zaB I q zgD)
  |str j=>obtain⟨t',rfl⟩:=ry;exact PySem.EqMixed.eq_bool_str (zaB I q (by simp))
  |_=>exact absurd (show false=true from hs) Bool.false_ne_true
 |int i=>
  obtain⟨t,rfl⟩:=rx
  cases y with
  |non=>cases ry;exact PySem.EqNone.eq_int_none (zaB I q (by simp))
  |int j=>obtain⟨t',rfl⟩:=ry;exact eq_int (zaB I q ze1)
  |str j=>obtain⟨t',rfl⟩:=ry;exact PySem.EqMixed.eq_int_str (zaB I q (by simp))
  |_=>exact absurd (show false=true from hs) Bool.false_ne_true
 |str i=>
  obtain⟨t,rfl⟩:=rx
  cases y with
  |non=>cases ry;exact PySem.EqNone.eq_str_none (zaB I q (by simp))
  |bl j=>cases ry;exact PySem.EqMixed.eq_str_bool (zaB I q (by simp))
  |int j=>obtain⟨t',rfl⟩:=ry;exact PySem.EqMixed.eq_str_int (zaB I q (by simp))
  |str j=>obtain⟨t',rfl⟩:=ry;exact eq_str (zaB I q ze2)
  |_=>exact absurd (show false=true from hs) Bool.false_ne_true
 |byt i=>
  obtain⟨t,rfl⟩:=rx
  cases y with
  |byt j=>obtain⟨t',rfl⟩:=ry;exact PySem.W.eq_bytes (zaB I q ze3)
  |_=>exact absurd (show false=true from hs) Bool.false_ne_true
 |_=>cases y<;>exact absurd (show false=true from hs) Bool.false_ne_true
theorem zij:OpR X (compareOp .NotEq) rNe:=by
 intro pins s σ H x y v u Q I rx ry h
 obtain⟨hs,q⟩:=h
 cases x with
 |non=>
  cases rx
  cases y with
  |non=>cases ry;exact PySem.EqNone.ne_none_none (zaB I q (by simp))
  |bl j=>cases ry;exact PySem.EqNone.ne_none_bool (zaB I q (by simp))
  |int j=>obtain⟨t',rfl⟩:=ry;exact PySem.EqNone.ne_none_int (zaB I q (by simp))
  |str j=>obtain⟨t',rfl⟩:=ry;exact PySem.EqNone.ne_none_str (zaB I q (by simp))
  |_=>exact absurd (show false=true from hs) Bool.false_ne_true
 |bl i=>
  cases rx
  cases y with
  |non=>cases ry;exact PySem.EqNone.ne_bool_none (zaB I q (by simp))
  |bl j=>cases ry;exact ne_bool (zaB I q (congrArg not zgD))
  |str j=>obtain⟨t',rfl⟩:=ry;exact PySem.EqMixed.ne_bool_str (zaB I q (by simp))
  |_=>exact absurd (show false=true from hs) Bool.false_ne_true
 |int i=>
  obtain⟨t,rfl⟩:=rx
  cases y with
  |non=>cases ry;exact PySem.EqNone.ne_int_none (zaB I q (by simp))
  |int j=>obtain⟨t',rfl⟩:=ry;exact ne_int (zaB I q (congrArg not ze1))
  |str j=>obtain⟨t',rfl⟩:=ry;exact PySem.EqMixed.ne_int_str (zaB I q (by simp))
  |_=>exact absurd (show false=true from hs) Bool.false_ne_true
 |str i=>
  obtain⟨t,rfl⟩:=rx
  cases y with
  |non=>cases ry;exact PySem.EqNone.ne_str_none (zaB I q (by simp))
  |bl j=>cases ry;exact PySem.EqMixed.ne_str_bool (zaB I q (by simp))
  |int j=>obtain⟨t',rfl⟩:=ry;exact PySem.EqMixed.ne_str_int (zaB I q (by simp))
  |str j=>obtain⟨t',rfl⟩:=ry;exact ne_str (zaB I q (congrArg not ze2))
  |_=>exact absurd (show false=true from hs) Bool.false_ne_true
 |byt i=>
  obtain⟨t,rfl⟩:=rx
  cases y with
  |byt j=>obtain⟨t',rfl⟩:=ry;exact PySem.W.ne_bytes (zaB I q (congrArg not ze3))
  |_=>exact absurd (show false=true from hs) Bool.false_ne_true
 |_=>cases y<;>exact absurd (show false=true from hs) Bool.false_ne_true
theorem zik:OpR X (compareOp .Lt) (rI0 fun i j=>.bl (decide (i<j))):=opB0 fun _ _ _ _ _ _ _ q=>lt_int q
theorem zgO:OpR X (compareOp .LtE) (rI0 fun i j=>.bl (decide (i<=j))):=opB0 fun _ _ _ _ _ _ _ q=>le_int q
theorem zfZ:OpR X (compareOp .Gt) (rI0 fun i j=>.bl (decide (j<i))):=opB0 fun _ _ _ _ _ _ _ q=>gt_int q
theorem zil:OpR X (compareOp .GtE) (rI0 fun i j=>.bl (decide (j<=i))):=opB0 fun _ _ _ _ _ _ _ q=>ge_int q
theorem za1 (b:Expr){op:CmpOp}(h:op≠.In:=by decide)(h2:op≠.NotIn:=by decide):behindInMarks op b=false:=by
 have e1:(op==CmpOp.In)=false:=by cases op<;>first|rfl|exact absurd rfl h
 have e2:(op==CmpOp.NotIn)=false:=by cases op<;>first|rfl|exact absurd rfl h2
 cases b<;>simp[behindInMarks,e1,e2]
theorem zb1 {op:CmpOp}{r:R2}(ho:OpR X (compareOp op) r)(ha:PE X a ta)(hb:PE X b tb)(hm:behindInMarks op b=false):PE X (.Compare a [op] [b] pos) (tOp r ta tb):=by
 intro pins s σ H Q I h
 exact wpAny_Compare1 (binT ha hb I h fun v u s2 x y H2 I2 rx ry q=>ho pins s2 σ H2 x y v u Q I2 rx ry q) hm
noncomputable def zhD (t:TE):TT:=fun σ H Q=>t σ H fun x H'=>∃k,x=.bl k/\Q k H'
theorem za8 {op:CmpOp}{r:R2}(ho:OpR X (compareOp op) r)(ha:PE X a ta)(hb:PE X b tb)(hm:behindInMarks op b=false):PT X (.Compare a [op] [b] pos) (zhD (tOp r ta tb)):=by
 intro pins s σ H Q I h
 refine wpAny_isTrue_Compare1 (thn (ha pins s σ H _ I h) fun v s1 ⟨x,H1,I1,r1,q1⟩=>thn (hb pins s1 σ H1 _ I1 q1) fun u s2 ⟨y,H2,I2,r2,q2⟩=>
  thn (ho pins s2 σ H2 x y v u _ I2 r1 r2 q2) fun c s3 ⟨z,H3,I3,r3,k,e,q3⟩=> ?_) hm
 subst e
 cases r3
 exact wpAny_truthy_bool ⟨H3,I3,q3⟩
noncomputable def zhE (r r':R2)(ta tb tc:TE):TE:=fun σ H Q=>ta σ H fun x H1=>tb σ H1 fun y H2=>r x y H2 fun z H3=>∃k,z=.bl k/\
 (if k=true then tc σ H3 fun w' H4=>r' y w' H4 Q else Q (.bl false) H3)
theorem zed {op op':CmpOp}{r r':R2}(ho:OpR X (compareOp op) r)(ho':OpR X (compareOp op') r')(ha:PE X a ta)(hb:PE X b tb)(hc:PE X c tc)
  (hm:lastMarks [op,op'] [b,c]=false:=by with_unfolding_all rfl):PT X (.Compare a [op,op'] [b,c] pos) (zhD (zhE r r' ta tb tc)):=by
 intro pins s σ H Q I h
 refine isTrue_chain (thn (ha pins s σ H _ I h) fun v s1 ⟨x,H1,I1,r1,q1⟩=>test_link (thn (hb pins s1 σ H1 _ I1 q1) fun u s2 ⟨y,H2,I2,r2,q2⟩=>
  thn (ho pins s2 σ H2 x y v u _ I2 r1 r2 q2) fun d s3 ⟨z,H3,I3,r3,k,e,q3⟩=> ?_)) hm
 subst e
 cases r3
 refine wpAny_truthy_bool ?_
 cases k with
 |false=>
  obtain⟨k',e',q'⟩:=q3
  cases e'
  exact ite_ff ⟨H3,I3,q'⟩
 |true=>
  refine ite_tt (test_last (thn (hc pins s3 σ H3 _ I3 q3) fun w' s4 ⟨z',H4,I4,r4,q4⟩=>thn (ho' pins s4 σ H4 y z' u w' _ I4 r2 r4 q4) fun d' s5 ⟨z2,H5,I5,r5,k2,e2,q5⟩=> ?_))
  subst e2
  cases r5
  exact wpAny_truthy_bool ⟨H5,I5,q5⟩
theorem zee:(sizeLine:Nat)<2^63:=by rw[sizeLine_eq];decide
theorem zcI {x:V}{us:List Value}(r:Vals [x] us):∃u,us=[u]/\RelV x u:=by
 cases r with
 |cons r1 r2=>cases r2;exact⟨_,rfl,r1⟩
theorem zf0 {x y:V}{us:List Value}(r:Vals [x,y] us):∃u w',us=[u,w']/\RelV x u/\RelV y w':=by
 cases r with
 |cons r1 r2=>
  cases r2 with
  |cons r3 r4=>cases r4;exact⟨_,_,rfl,r1,r3⟩
theorem zef:zbG X (.builtin "abs") (fun xs H Q=>∃i,xs=[.int i]/\Q (.int (if i<0 then-i else i)) H):=by
 intro pins s σ H xs us Q I r h
 obtain⟨i,rfl,q⟩:=h
 obtain⟨u,rfl,t,rfl⟩:=zcI r
 exact call_abs_int fun u tk=>⟨.int (if i<0 then-i else i),H,I.tok _,⟨_,rfl⟩,q⟩
theorem zcu (hc:X.calm=true):zbG X (.builtin "max") (fun xs H Q=>∃i j,xs=[.int i,.int j]/\Q (.int (if j>i then j else i)) H):=by
 intro pins s σ H xs us Q I r h
 obtain⟨i,j,rfl,q⟩:=h
 obtain⟨u,w',rfl,⟨t,rfl⟩,⟨t',rfl⟩⟩:=zf0 r
 refine max_two_ints (I.ok.hd hc) fun h' tk k=>⟨_,H,I.kept k, ?_,q⟩
 by_cases hj:j>i
 ·rw[if_pos hj,if_pos hj];exact⟨_,rfl⟩
 ·rw[if_neg hj,if_neg hj];exact⟨_,rfl⟩
theorem zbO:zbG X (.type "int") (fun xs H Q=>(∃i,xs=[.int i]/\Q (.int i) H)∨∃k,xs=[.bl k]/\Q (.int (if k then 1 else 0)) H):=by
 intro pins s σ H xs us Q I r h
 rcases h with⟨i,rfl,q⟩|⟨k,rfl,q⟩
 ·obtain ⟨u,rfl,t,rfl⟩:=zcI r
  exact call_int_int ⟨.int i,H,I,⟨_,rfl⟩,q⟩
 ·obtain ⟨u,rfl,r1⟩:=zcI r
  cases r1
  exact call_int_bool ⟨.int (if k then 1 else 0),H,I.tok _,⟨_,rfl⟩,q⟩
end
structure ObjM (h:Heap) (x dx C:Addr) (mA:Str->Option Value):Prop where
 obj:h.get? x=some (PySem.W.instObj C dx)
 ns:h.Ns1 dx mA
 ne:dx≠x
theorem ze4 {h:Heap}{dx:Addr}{mA:Str->Option Value}(n:h.Ns1 dx mA):∃od,h.get? dx=some od/\∀name,PySem.W.lookIn name od=some (mA name):=by
 obtain⟨o,es,ep,ho,hd,hk,_,hm⟩:=n
 refine⟨o,ho,fun name=> ?_⟩
 have e:=hm name
 unfold nsFind findBy at e
 rw[<-Array.find?_toList] at e
 unfold PySem.W.lookIn
 rw[hd]
 dsimp only
 split
 ·rename_i y q
  rw[q] at e
  exact congrArg some e
 ·rename_i q
  rw[q] at e
  have a:es.toList.any (·.refKey)=false:=by
   rw[List.any_eq_false]
   intro y hy
   obtain⟨z,t,hkey⟩:=hk y (Array.mem_toList_iff.mp hy)
   simp[DictEntry.refKey,hkey]
  have a':¬es.toList.any (·.refKey)=true:=by rw[a];exact Bool.false_ne_true
  rw[if_neg a']
  exact congrArg some e
theorem ObjM.look {h:Heap}{x dx C:Addr}{mA:Str->Option Value}(I:ObjM h x dx C mA):∃od,PySem.W.InstAt h x (PySem.W.instObj C dx) C (some od)/\∀name,PySem.W.lookIn name od=some (mA name):=
 let ⟨od,ho,hl⟩:=ze4 I.ns
 ⟨od,⟨I.obj,rfl,rfl,ho⟩,hl⟩
section
variable {prog:Program}{w:World}{A:Around}{E:Value->Shared->Prop}{s:Shared}{K:PySem.W.Frag}{x dx C f:Addr}{mA:Str->Option Value}{name:Str}{v:Value}
end
section
variable {P:Program}{w:World}{H H':Hp}{h h':Heap}{a C dx:Addr}{fs fs':List (Str×V)}
theorem zgP (hok:HOk P w H h)(e:H a=some (.ins C dx fs)):∃mA,ObjM h a dx C mA/\(∀f,RelO (fs.lookup f) (mA f))/\PySem.Within mA (fs.map (·.1))/\fs.length<=1000/\H dx=some (.own a):=by
 obtain⟨d,z,ne,ob,mA,n,r,q⟩:=(show ObjOk P w H h a (.ins C dx fs) from hok a _ e)
 exact⟨mA,⟨ob,n,ne⟩,r,q,z,d⟩
end
structure Cls (K:PySem.W.Frag) (C:Addr):Prop where
 pg:PySem.W.plainGet K C Str.empty=true
 hd:PySem.W.hasDictIn K C=true
 po:PySem.W.plainOver K C=true
 sa:PySem.W.findIn K (.ref C) "__setattr__" =some (some (.builtin "object.__setattr__"))
theorem Cls.get {K:PySem.W.Frag}{C:Addr}(c:Cls K C)(f:Str):PySem.W.plainGet K C f=true:=c.pg
structure Con (K:PySem.W.Frag) (C:Addr) (f:Str) (v:V) (u:Value):Prop where
 at_:PySem.W.findIn K (.ref C) f=some (some u)
 rel:RelV v u
 get:PySem.W.specialIn K u "__get__" =some none
 cp:PySem.W.copiedNames.contains f=false
structure Meth (K:PySem.W.Frag) (C:Addr) (m:Str) (f:Addr):Prop where
 at_:PySem.W.findIn K (.ref C) m=some (some (.ref f))
 fn:PySem.W.isFn K (.ref f)=true
 kp:PySem.W.keepIn K (.ref f)=true
section
variable {X:Cx}{pins:List (Addr×Obj)}{σ:St}{H:Hp}{s:Shared}{a C dx:Addr}{fs:List (Str×V)}{f:Str}{v:V}{A:Around}{E:Value->Shared->Prop}
end
section
variable {X:Cx}{o e value:Expr}{f:Str}{pos pos' tpos:Pos}{ta tv:TE}
end
section
variable {X:Cx}{pins:List (Addr×Obj)}{σ:St}{H:Hp}{s:Shared}{A:Around}{E:Value->Shared->Prop}{Q:Value->Shared->Prop}{c:Value}{b:Bool}
inductive TyOf (K:PySem.W.Frag) (H:Hp):V->Value->Prop where
 |non:TyOf K H .non (.type "NoneType")
 |bl (x:Bool):TyOf K H (.bl x) (.type "bool")
 |int (i:Int):TyOf K H (.int i) (.type "int")
 |str (x:Str):TyOf K H (.str x) (.type "str")
 |flt (x:UInt64):TyOf K H (.flt x) (.type "float")
 |lst {a:Addr} {xs:List V} (e:H a=some (.lst xs)):TyOf K H (.ref a) (.type "list")
 |frz {a:Addr} {o:Obj} {xs:List V} (e:H a=some (.frz o (.lst xs))):TyOf K H (.ref a) (.type "list")
 |tup {a:Addr} {xs:List V} (e:H a=some (.tup xs)):TyOf K H (.ref a) (.type "tuple")
 |dK {a:Addr} {kvs:List (Key×V)} (e:H a=some (.dK kvs)):TyOf K H (.ref a) (.type "dict")
 |dT {a:Addr} {kvs:List (List Key×V)} (e:H a=some (.dT kvs)):TyOf K H (.ref a) (.type "dict")
 | ins {a C dx:Addr} {fs:List (Str×V)} (e:H a=some (.ins C dx fs)) (cl:Cls K C) (ha:PySem.W.findIn K (.ref C) "__class__" =some (some (.builtin "object.__class__")))
   (hn:PySem.W.specialIn K (.builtin "object.__class__") "__get__" =some (some (.builtin "getset_descriptor.__get__"))) (htk:PySem.W.takesIn K (.builtin "object.__class__")=some true)
   (hm:PySem.W.mroIn K C (.type "object")=some true):TyOf K H (.ref a) (.ref C)
theorem ze5 {x:V}{u t:Value}(I:Inv X pins σ H s)(rx:RelV x u)(ty:TyOf X.K H x t)(e:PySem.W.kitOne X.K t c=some b)(h:∀tk,Q (.bool b) {s with toks:=tk}):
  wpAny (model X.prog X.w) A (call (.builtin "isinstance") [u,c]) Q E s:=by
 cases ty with
 |non=>cases (show u=Value.none from rx);exact PySem.W.kia_one PySem.W.kitx_none I.kIn True.intro e (fun z=>nomatch z) h
 |bl y=>cases (show u=Value.bool y from rx);exact PySem.W.kia_one PySem.W.kitx_bool I.kIn True.intro e (fun z=>nomatch z) h
 |int i=>obtain⟨t,q⟩:=(show ∃t,u=Value.int i t from rx);cases q;exact PySem.W.kia_one PySem.W.kitx_int I.kIn True.intro e (fun z=>nomatch z) h
 |str y=>obtain⟨t,q⟩:=(show ∃t,u=Value.str y t from rx);cases q;exact PySem.W.kia_one PySem.W.kitx_str I.kIn True.intro e (fun z=>nomatch z) h
 |flt y=>obtain⟨t,q⟩:=(show ∃t,u=Value.float y t from rx);cases q;exact PySem.W.kia_one PySem.W.kitx_float I.kIn True.intro e (fun z=>nomatch z) h
 |@lst a xs ea=>
  cases (show u=Value.ref a from rx)
  obtain⟨_,_,n,_,h1⟩:=(show ObjOk X.prog X.w H s.heap a (.lst xs) from I.hok a _ ea)
  exact PySem.W.kia_one PySem.W.kitx_list I.kIn ⟨_,h1,rfl⟩ e (fun z=>nomatch z) h
 |@frz a ob xs ea=>
  cases (show u=Value.ref a from rx)
  obtain⟨_,_,_,n,_,h1⟩:=(show ObjOk X.prog X.w H s.heap a (.frz ob (.lst xs)) from I.hok a _ ea)
  exact PySem.W.kia_one PySem.W.kitx_list I.kIn ⟨_,h1,rfl⟩ e (fun z=>nomatch z) h
 |@tup a xs ea=>
  cases (show u=Value.ref a from rx)
  obtain⟨_,_,_,p⟩:=(show ObjOk X.prog X.w H s.heap a (.tup xs) from I.hok a _ ea)
  obtain⟨o,h1,h2,_⟩:=p
  exact PySem.W.kia_one PySem.W.kitx_tuple I.kIn ⟨o,h1,h2⟩ e (fun z=>nomatch z) h
 |@dK a kvs ea=>
  cases (show u=Value.ref a from rx)
  obtain⟨_,_,vs,_,p⟩:=(show ObjOk X.prog X.w H s.heap a (.dK kvs) from I.hok a _ ea)
  obtain⟨o,es,ep,h1,h2,_⟩:=p
  exact PySem.W.kia_one PySem.W.kitx_dict I.kIn ⟨o,h1,h2.1⟩ e (fun z=>nomatch z) h
 |@dT a kvs ea=>
  cases (show u=Value.ref a from rx)
  obtain⟨_,_,xs,_,o,es,ep,h1,h2,_⟩:=(show ObjOk X.prog X.w H s.heap a (.dT kvs) from I.hok a _ ea)
  exact PySem.W.kia_one PySem.W.kitx_dict I.kIn ⟨o,h1,h2.1⟩ e (fun z=>nomatch z) h
 |@ins a C dx fs ea cl ha hn htk hm=>
  cases (show u=Value.ref a from rx)
  obtain⟨mA,O,_⟩:=zgP I.hok ea
  obtain⟨od,J,_⟩:=O.look
  exact PySem.W.kia_one (PySem.W.kitx_own (cl.get _) cl.hd ha hn htk hm) I.kIn J e (fun z=>nomatch z) h
end
structure Room (k:Nat) (A:Around):Prop where
 hd:A.handled=none
 dp:A.depth+3*k+5<recursionLimit
 un:A.units+16*k+200<cLine
 gd:A.guards=some []
theorem Room.mono {j k:Nat}{A:Around}(r:Room k A)(h:j<=k):Room j A:=⟨r.hd,by have:=r.dp;(first|lia|omega),by have:=r.un;(first|lia|omega),r.gd⟩
theorem Room.deeper {k:Nat}{A:Around}(r:Room (k+1) A)(env:Env):Room k (A.deeper env):=
 ⟨r.hd,by have:=r.dp;show A.depth+1+3*k+5<_;(first|lia|omega),by have:=r.un;show A.units+3+16*k+200<_;(first|lia|omega),r.gd⟩
theorem Room.depth {k:Nat}{A:Around}(r:Room k A):A.depth<recursionLimit:=by have:=r.dp;(first|lia|omega)
theorem Room.units {k:Nat}{A:Around}(r:Room k A):A.units+64<cLine:=by have:=r.un;(first|lia|omega)
noncomputable def tNil:TA:=fun _ H Q=>Q [] H
noncomputable def zim (ta:TE)(tr:TA):TA:=fun σ H Q=>ta σ H fun x H1=>tr σ H1 fun xs H2=>Q (x::xs) H2
section
variable {X:Cx}{e:Expr}{es:List Expr}{te:TE}{t:TA}{pos:Pos}
theorem zae:PA X [] tNil:=fun _ _ _ _ H Q I h=>Calls.spliced_nil ⟨[],H,I,.nil,h⟩
theorem zaa (ha:PE X e te)(hr:PA X es t)(hs:starEach (e::es) X.env=(false,eval e X.env)::starEach es X.env:=by rfl):PA X (e::es) (zim te t):=by
 intro pos pins s σ H Q I h
 rw[hs]
 show wpAny _ _ (spliced ((false,eval e X.env)::backTo pos (starEach es X.env))) _ _ s
 refine Calls.spliced_cons (thn (ha pins s σ H _ I h) fun u s1 zq=> ?_)
 obtain⟨x,H1,I1,r1,q1⟩:=zq
 exact thn (hr pos pins s1 σ H1 _ I1 q1) fun us s2 ⟨xs,H2,I2,r2,q2⟩=>⟨x::xs,H2,I2,.cons r1 r2,q2⟩
noncomputable def tTup (t:TA):TE:=fun σ H Q=>t σ H fun xs H1=>xs.length<=sizeLine/\∀p,H1 p=none->Q (.ref p) (upd H1 p (.tup xs))
noncomputable def tLst (t:TA):TE:=fun σ H Q=>t σ H fun xs H1=>xs.length<=sizeLine/\∀p,H1 p=none->Q (.ref p) (upd H1 p (.lst xs))
theorem zaP {x1}(h:PA X es t):PE X (.Tuple es x1 pos) (tTup t):=by
 intro pins s σ H Q I hq
 refine wpAny_Tuple_spliced (thn (h pos pins s σ H _ I hq) fun us s1 ⟨xs,H1,I1,r,z,q⟩=>⟨by rw[<-r.length];exact z, ?_⟩)
 have hf:H1 s1.heap.objs.size=none:=I1.hok.fresh (Nat.le_refl _)
 refine⟨.ref s1.heap.objs.size,upd H1 s1.heap.objs.size (.tup xs),I1.laid (t':=s1.toks) (fun b u e=>Heap.get?_push_of_some _ e) (Nat.le_refl _) ?_,rfl,q _ hf⟩
 exact⟨z,us,r,PTup.new⟩
theorem zaW (h:PA X es t):PE X (.List es pos) (tLst t):=by
 intro pins s σ H Q I hq
 refine wpAny_List_spliced (thn (h pos pins s σ H _ I hq) fun us s1 ⟨xs,H1,I1,r,z,q⟩=>⟨by rw[<-r.length];exact z, ?_⟩)
 have hf:H1 s1.heap.objs.size=none:=I1.hok.fresh (Nat.le_refl _)
 refine⟨.ref s1.heap.objs.size,upd H1 s1.heap.objs.size (.lst xs),I1.laid (t':=s1.toks) (fun b u e=>Heap.get?_push_of_some _ e) (Nat.le_refl _) ?_,rfl,q _ hf⟩
 exact⟨z,us,0,r,Heap.get?_push_size _ rfl⟩
end
noncomputable abbrev Sp:=List V->Hp->VK->XK->Prop
noncomputable abbrev CXT:=List Env->Hp->Shared->XK->Value->Shared->Prop
structure Env0 (P:Program) (w:World) (K:PySem.W.Frag) (mg:Str->Option Value) (base:Heap) (A:Around) (outer:List Env) (s:Shared) (H:Hp):Prop where
 frames:A.frames=some outer
 mod:Mod K mg base
 bs:∀b o,base.get? b=some o->s.heap.get? b=some o/\H b=none
 bsz:base.objs.size<=s.heap.objs.size
 funs:s.heap.FunFrames base outer
 frf:∀b∈frs outer,H b=none
 hok:HOk P w H s.heap
 bare:AllBare s.gens
noncomputable def CE (outer:List Env)(P:Program)(w:World)(H:Hp)(s:Shared)(Q:VK)(u:Value)(s':Shared):Prop:=
 ∃v H',s'.os=s.os/\AllBare s'.gens/\Un (frs outer) [] H H' s.heap s'.heap/\HOk P w H' s'.heap/\RelV v u/\Q v H'
noncomputable def CR (CX:CXT)(outer:List Env)(P:Program)(w:World)(H:Hp)(s:Shared)(Q:VK)(E:XK)(r:Result)(s':Shared):Prop:=
 match r with
 | .ok (.ret u)=>CE outer P w H s Q u s'
 | .ok _=>False
 | .error e=>CX outer H s E e s'
structure FnOk (P:Program) (w:World) (K:PySem.W.Frag) (mg:Str->Option Value) (base:Heap) (CX:CXT) (k:Nat) (f:Addr) (fd:FuncData) (ps:List Str) (sp:Sp):Prop where
 len:∀vs H Q E,sp vs H Q E->vs.length=ps.length
 run:∀(A:Around) (outer:List Env) (s:Shared) (H:Hp) (args:Args) (us:List Value) (vs:List V) (Q:VK) (E:XK),Room k A->Env0 P w K mg base A outer s H->BindsTo s fd args (ps.zip us)->Vals vs us->sp vs H Q E->
  codeAny (model P w) A (.call (.ref f) args) (CR CX outer P w H s Q E) s
theorem FnOk.mono {P:Program}{w:World}{K:PySem.W.Frag}{mg:Str->Option Value}{base:Heap}{CX:CXT}{j k:Nat}{f:Addr}{fd:FuncData}{ps:List Str}{sp:Sp}(F:FnOk P w K mg base CX j f fd ps sp)(h:j<=k):
  FnOk P w K mg base CX k f fd ps sp:=⟨F.len,fun A outer s H args us vs Q E hr=>F.run A outer s H args us vs Q E (hr.mono h)⟩
section
variable {X:Cx}{pins:List (Addr×Obj)}{σ:St}{H:Hp}{s s':Shared}
theorem Inv.env0 (I:Inv X pins σ H s):Env0 X.prog X.w X.K X.mg X.base X.A X.stack s H:=
 ⟨I.ok.frames,I.ok.mod,I.bs,Nat.le_trans I.ok.bsz I.sz,I.stack,I.stkFree,I.hok,I.bare⟩
theorem Inv.after {Q:VK}{u:Value}(I:Inv X pins σ H s)(h:CE X.stack X.prog X.w H s Q u s'):EP X pins σ Q u s':=by
 obtain⟨v,H',os,bare,un,hok,r,q⟩:=h
 obtain⟨hh,g,d,t,os'⟩:=s'
 obtain rfl:os'=s.os:=os
 exact⟨v,H',I.call (h':=hh) (g':=g) (d':=d) (t':=t) (ch:=[]) un hok bare (fun b z=>absurd z (by simp)),r,q⟩
end
noncomputable def zin (sp:Sp)(dvs:List V)(E:XK)(t:TA):TE:=fun σ H Q=>t σ H fun vs H1=>sp (vs++dvs) H1 Q E
noncomputable def Binds (K:PySem.W.Frag)(fd:FuncData)(ps:List Str)(ds:List Value):Prop:=
 ∀(s:Shared) (us:List Value),K.In s.heap->(us++ds).length=ps.length->BindsTo s fd ⟨us,[]⟩ (ps.zip (us++ds))
theorem Binds.all {K:PySem.W.Frag}{fd:FuncData}{ps:List Str}(h:∀us:List Value,us.length=ps.length->bindArgs fd ⟨us,[]⟩=pure (ps.zip us)):Binds K fd ps []:=fun s us _ hl=>by
 rw[List.append_nil] at hl ⊢
 exact .of_eq (h us hl)
noncomputable def ze6 (CX:CXT)(X:Cx)(E:XK):Prop:=∀(pins:List (Addr×Obj)) (σ:St) (H:Hp) (s:Shared) (e:Value) (s':Shared),Inv X pins σ H s->CX X.stack H s E e s'->X.xe e s'
section
variable {X:Cx}{CX:CXT}{k:Nat}{f C:Addr}{fd:FuncData}{ps:List Str}{sp:Sp}{dvs:List V}{ds:List Value}{E:XK}{x m:Str}{p pos apos:Pos}{e o:Expr}{es:List Expr}{ta:TE}{t:TA}
theorem zgE {pins:List (Addr×Obj)}{σ:St}{H:Hp}{s:Shared}{Q:VK}{us:List Value}{vs:List V}(F:FnOk X.prog X.w X.K X.mg X.base CX k f fd ps sp)(hr:Room k X.A)(hb:Binds X.K fd ps ds)(hd:Vals dvs ds)(hx:ze6 CX X E)
  (I:Inv X pins σ H s) (r:Vals vs us) (h:sp (vs++dvs) H Q E):wpAny (model X.prog X.w) X.A (call (.ref f) us) (EP X pins σ Q) X.xe s:=by
 have r2:Vals (vs++dvs) (us++ds):=r.append hd
 have hl:(us++ds).length=ps.length:=by rw[<-r2.length];exact F.len _ _ _ _ h
 refine wpAny_call (codeAny_mono (F.run X.A X.stack s H ⟨us,[]⟩ (us++ds) (vs++dvs) Q E hr I.env0 (hb s us I.kIn hl) r2 h) fun r s' hq=> ?_)
 cases r with
 |error e=>exact hx pins σ H s e s' I hq
 |ok fl=>
  cases fl with
  |ret u=>exact I.after hq
  |next=>exact False.elim hq
  |brk=>exact False.elim hq
  |cont=>exact False.elim hq
theorem zgQ (F:FnOk X.prog X.w X.K X.mg X.base CX k f fd ps sp)(hr:Room k X.A)(hg:Gl X x)(hm:X.mg x=some (.ref f))(hk:PySem.W.keepIn X.K (.ref f)=true)(hb:Binds X.K fd ps ds)(hd:Vals dvs ds)(hx:ze6 CX X E)
  (ha:PA X (e::es) t) (hdb:(x==("__debug__" :Str))=false:=by decide) (he:starEach (e::es) X.env=(false,eval e X.env)::starEach es X.env:=by rfl) (hpl:(backTo pos (starEach es X.env)).any (·.1)=false:=by rfl):
  PE X (.Call (.Name x p) (e::es) [] pos) (zin sp dvs E t):=by
 intro pins s σ H Q I h
 refine wpAny_Call_Name_kw (zeW I hg hm ?_ hdb)
 refine PySem.W.callWith_K (h₀:=X.base) I.ok.mod.kin hk (thn (ha pos pins s σ H _ I h) fun us s1 ⟨vs,H1,I1,r,q⟩=>⟨I1.kIn, ?_⟩) he hpl
 exact zgE F hr hb hd hx I1 r q
structure Mk (K:PySem.W.Frag) (C f:Addr):Prop where
 makes:PySem.W.makesIn K C=true
 init:PySem.W.findIn K (.ref C) "__init__" =some (some (.ref f))
 fn:PySem.W.isFn K (.ref f)=true
 kp:PySem.W.keepIn K (.ref C)=true
end
section
variable {X:Cx}{CX:CXT}{k:Nat}{f C:Addr}{fd:FuncData}{ps ks:List Str}{sp:Sp}{E:XK}{x m:Str}{p pos apos kpos:Pos}{e o:Expr}{es:List Expr}{kws:List Keyword}{te ta:TE}{t tk:TA}{nm:Option Str}
structure KBinds (K:PySem.W.Frag) (fd:FuncData) (ps ks:List Str) (g:List Value->List Value->List Value) (gV:List V->List V->List V):Prop where
 to:∀(s:Shared) (us ws:List Value),K.In s.heap->(g us ws).length=ps.length->BindsTo s fd ⟨us,ks.zip ws⟩ (ps.zip (g us ws))
 rel:∀{vs:List V} {us:List Value} {zs:List V} {ws:List Value},Vals vs us->Vals zs ws->Vals (gV vs zs) (g us ws)
variable {g:List Value->List Value->List Value}{gV:List V->List V->List V}
end
structure FnScope (N P:List Str) (sc:Scope):Prop where
 kind:sc.kind=.function
 co:sc.isCoroutine=false
 gen:sc.isGenerator=false
 nd:N.Nodup
 pre:N.take P.length=P
 par:∀x∈P,sc.names.lookup x=some .local∨sc.names.lookup x=some .cell
 nofree:∀y∈sc.names,y.2≠.free
theorem zdl {kindOf:Str->Option NameKind}{x:Str}:∀{binds:List (Str×Value)} {m:Str->Option Value},(∀v,(x,v)∉binds)->bindL kindOf binds m x=m x
 |[],_,_=>rfl
 | (n,v)::r,m,h=>by
  unfold bindL
  rw[zdl fun w hw=>h w (List.mem_cons_of_mem _ hw)]
  split
  ·have:x≠n:=by rintro rfl;exact h v List.mem_cons_self
   simp[this]
  ·rfl
theorem zdm {kindOf:Str->Option NameKind}{x:Str}:∀{binds:List (Str×Value)} {m:Str->Option Value},(∀v,(x,v)∉binds)->bindC kindOf binds m x=m x
 |[],_,_=>rfl
 | (n,v)::r,m,h=>by
  unfold bindC
  rw[zdm fun w hw=>h w (List.mem_cons_of_mem _ hw)]
  split
  ·rfl
  ·have:x≠n:=by rintro rfl;exact h v List.mem_cons_self
   simp[this]
theorem zdn {kindOf:Str->Option NameKind}{x:Str}{v:Value}:∀{P:List Str} {vs:List Value} {i:Nat} {m:Str->Option Value},P.Nodup->P[i]? =some x->vs[i]? =some v->kindOf x=some .local->
  bindL kindOf (P.zip vs) m x=some v
 |[],_,_,_,_,h,_,_=>by simp at h
 |_::_,[],_,_,_,_,h,_=>by simp at h
 |p::P,w::vs,0,m,nd,h1,h2,hk=>by
  simp at h1 h2;subst h1;subst h2
  show bindL kindOf ((p,w)::P.zip vs) m p=_
  unfold bindL
  rw[zdl fun v hv=>(List.nodup_cons.mp nd).1 (List.of_mem_zip hv).1,if_pos hk]
  simp
 |p::P,w::vs,i+1,m,nd,h1,h2,hk=>by
  show bindL kindOf ((p,w)::P.zip vs) m x=_
  unfold bindL
  exact zdn (i:=i) (List.nodup_cons.mp nd).2 (by simpa using h1) (by simpa using h2) hk
theorem zdo {kindOf:Str->Option NameKind}{x:Str}{v:Value}:∀{P:List Str} {vs:List Value} {i:Nat} {m:Str->Option Value},P.Nodup->P[i]? =some x->vs[i]? =some v->kindOf x≠some .local->
  bindC kindOf (P.zip vs) m x=some v
 |[],_,_,_,_,h,_,_=>by simp at h
 |_::_,[],_,_,_,_,h,_=>by simp at h
 |p::P,w::vs,0,m,nd,h1,h2,hk=>by
  simp at h1 h2;subst h1;subst h2
  show bindC kindOf ((p,w)::P.zip vs) m p=_
  unfold bindC
  rw[zdm fun v hv=>(List.nodup_cons.mp nd).1 (List.of_mem_zip hv).1,if_neg hk]
  simp
 |p::P,w::vs,i+1,m,nd,h1,h2,hk=>by
  show bindC kindOf ((p,w)::P.zip vs) m x=_
  unfold bindC
  exact zdo (i:=i) (List.nodup_cons.mp nd).2 (by simpa using h1) (by simpa using h2) hk
noncomputable def zdp (N:List Str)(vs:List V):St:=vs.map some++List.replicate (N.length-vs.length) none
noncomputable def cxOf (CX:CXT)(P:Program)(w:World)(K:PySem.W.Frag)(mg:Str->Option Value)(base:Heap)(N:List Str)(qual:Str)(scope:Scope)(f:Addr)(cd:Value)(A:Around)(outer:List Env)(s:Shared)(H:Hp)(E:XK):Cx where
 prog:=P
 w:=w
 K:=K
 mg:=mg
 base:=base
 A:=A.deeper (envOfC qual scope s.heap.objs.size f cd)
 N:=N
 s₀:=s
 H₀:=H
 env:=envOfC qual scope s.heap.objs.size f cd
 outer:=outer
 stack:=envOfC qual scope s.heap.objs.size f cd::outer
 ex:=[]
 calm:=true
 fn:=fun _=>true
 pn:=[]
 xe:=fun e s'=>wpAny (model P w) (A.deeper (envOfC qual scope s.heap.objs.size f cd)) («leaving» (envOfC qual scope s.heap.objs.size f cd) e) (fun _ s''=>CX outer H s E e s'') (fun e' s''=>CX outer H s E e' s'') s'
theorem zeg {sc:Scope}{n:Nat}{x:Str}(h:sc.names.lookup x=some .cell):∃c,(cellsFrom n sc.names []).lookup x=some c:=by
 have q:=PySem.W.cellsFrom_some sc.names n [] (.inl h)
 exact Option.isSome_iff_exists.mp q
theorem ze7 {CX:CXT}{P:Program}{w:World}{K:PySem.W.Frag}{mg:Str->Option Value}{base:Heap}{N ps:List Str}{qual:Str}{scope:Scope}{f:Addr}{cd:Value}{A:Around}{outer:List Env}{s s1:Shared}{H:Hp}{E:XK}{us:List Value}{vs:List V}
  (S:FnScope N ps scope) (hd:A.handled=none) (e0:Env0 P w K mg base A outer s H) (hl:vs.length=ps.length) (r:Vals vs us)
  (x:InCallC s s.heap.objs.size (bindL (envOfC qual scope s.heap.objs.size f cd).kindOf (ps.zip us) fun _=>none) (cellsFrom (s.heap.objs.size+1) scope.names []) (bindC (envOfC qual scope s.heap.objs.size f cd).kindOf (ps.zip us) fun _=>none) s1):
  Inv (cxOf CX P w K mg base N qual scope f cd A outer s H E) [] (zdp N vs) H s1:=by
 have hpl:ps.length<=N.length:=by have:=congrArg List.length S.pre;rw[List.length_take] at this;(first|lia|omega)
 obtain⟨h1,tk,rfl,hk⟩:=x.done
 have noA:∀b:Addr,b∉(cxOf CX P w K mg base N qual scope f cd A outer s H E).ex:=fun b z=>absurd (show b∈([]:List Addr) from z) (by simp)
 refine⟨⟨e0.mod,S.kind,rfl,rfl,Nat.le_refl _,fun y z c h1 h2=> ?_,fun y hy=> ?_,fun y c _ h=> ?_,fun _=>hd,Around.frames_deeper e0.frames,.inr ⟨rfl,rfl⟩,fun b z=>absurd z (noA b),e0.bs,e0.bsz,fun b _ _=>noA b,fun b z=>absurd z (noA b),e0.funs,e0.frf⟩,
  rfl,e0.bare,Un.kept hk,⟨_,x.toInCall.ns,fun i y v h1 h2 h3=> ?_⟩,fun y c h=>⟨_,x.cell y c h⟩,e0.hok.fresh (Nat.le_refl _),fun y c h=> ?_,fun p hp=>absurd (show p∈([]:List (Addr×Obj)) from hp) (by simp),e0.hok.kept hk, ?_⟩
 ·exact name_of_addr x.apart (PySem.mem_of_lookup h1) (PySem.mem_of_lookup h2)
 ·have hy:scope.names.lookup y=some .cell∨scope.names.lookup y=some .free:=hy
  rcases hy with hy|hy
  ·exact zeg hy
  ·exact absurd rfl (S.nofree _ (PySem.mem_of_lookup hy))
 ·exact Nat.le_of_lt (x.above y c (PySem.mem_of_lookup h))
 ·have hi:i<vs.length:=by
   unfold zdp at h2
   by_cases hi:i<vs.length
   ·exact hi
   ·rw [List.getElem?_append_right (by simpa using hi)] at h2
    rw[List.getElem?_replicate] at h2
    split at h2<;>cases h2
  have ha:vs[i]? =some v:=by
   unfold zdp at h2
   rw[List.getElem?_append_left (by simpa using hi),List.getElem?_map] at h2
   cases e:vs[i]? with
   |none=>rw[e] at h2;cases h2
   |some a=>rw[e] at h2;cases h2;rfl
  obtain⟨u,hu,rv⟩:=r.get ha
  have hp:ps[i]? =some y:=by
   rw[<-S.pre,List.getElem?_take_of_lt (by (first|lia|omega))];exact h1
  have ndP:ps.Nodup:=by rw[<-S.pre];exact S.nd.sublist (List.take_sublist _ _)
  refine⟨u,rv, ?_⟩
  rcases S.par y (List.mem_of_getElem? hp) with k|k
  ·exact .inl ⟨k,zdn ndP hp hu k⟩
  ·obtain ⟨c,e⟩:=zeg (n:=s.heap.objs.size+1) k
   refine .inr ⟨.inl k,c,e, ?_⟩
   have q:=x.cell y c e
   rw[zdo ndP hp hu (by show scope.names.lookup y≠_;rw[k];decide)] at q
   exact q
 ·exact e0.hok.fresh (Nat.le_of_lt (x.above y c (PySem.mem_of_lookup h)))
 ·unfold zdp
  show _=N.length
  rw[List.length_append,List.length_map,List.length_replicate]
  (first|lia|omega)
theorem zio {CX:CXT}{P:Program}{w:World}{K:PySem.W.Frag}{mg:Str->Option Value}{base:Heap}{k:Nat}{f:Addr}{name qual:Str}{params:Arguments}{body:List Stmt}{scope:Scope}{dV kV doc pm cdv ct oc:Value}{an od:Option Addr}
  {osl:Array (Option Value)} {N ps:List Str} {sp:Sp} (lk:K.lookup f=some ⟨oc,od,.func (PySem.W.fnOf name qual params body scope dV kV doc pm an cdv ct),osl⟩) (hcd:PySem.W.codeIn K cdv qual=true) (S:FnScope N ps scope)
  (len:∀vs H Q E,sp vs H Q E->vs.length=ps.length)
  (hbody:∀(A:Around) (outer:List Env) (s:Shared) (H:Hp) (vs:List V) (Q:VK) (E:XK),Room k (A.deeper (envOfC qual scope s.heap.objs.size f cdv))->sp vs H Q E->
   ∃t,PSs (cxOf CX P w K mg base N qual scope f cdv A outer s H E) body t/\t {nx:=fun _ H'=>Q .non H',rt:=Q} (zdp N vs) H):
  FnOk P w K mg base CX (k+1) f (PySem.W.fnOf name qual params body scope dV kV doc pm an cdv ct) ps sp:=by
 refine⟨len,fun A outer s H args us vs Q E hr e0 hb r hsp=> ?_⟩
 have hl:=len _ _ _ _ hsp
 have KX:K.In s.heap:=e0.mod.kin.keeps fun b o e=>(e0.bs b o e).1
 have lim:s.heap.NoLimit:=e0.mod.nolimit.keeps fun b o e=>(e0.bs b o e).1
 have hkind:∀y∈ps.zip us,scope.names.lookup y.1=some .local∨(scope.names.lookup y.1=some .cell/\((cellsFrom (s.heap.objs.size+1) scope.names []).lookup y.1).isSome=true):=fun ⟨n,v⟩ hy=>by
  rcases S.par n (List.of_mem_zip hy).1 with q|q
  ·exact .inl q
  ·exact .inr ⟨q,PySem.W.cellsFrom_some _ _ _ (.inl q)⟩
 refine codeAny_call_function hr.depth (KX _ _ lk) rfl S.co S.gen rfl (PySem.W.codeRec_of KX hcd) (hb _ _ _ _ ?_)
 refine wpAny_newFunctionEnv_cells S.kind hkind fun env he s1 x=> ?_
 subst he
 refine⟨lim.keeps x.toInCall.keep,codeAny_func ?_⟩
 obtain⟨t,ht,hq⟩:=hbody A outer s H vs Q E (hr.deeper _) hsp
 have I:Inv (cxOf CX P w K mg base N qual scope f cdv A outer s H E) [] (zdp N vs) H s1:=ze7 S hr.hd e0 hl r x
 refine wpAny_mono (ht [] s1 (zdp N vs) H _ I hq) (fun fl s' hs=> ?_) fun e s' hs=>hs
 have fin:∀{σ':St} {H':Hp} {v:V} {u:Value},Inv (cxOf CX P w K mg base N qual scope f cdv A outer s H E) [] σ' H' s'->RelV v u->Q v H'->CE outer P w H s Q u s':=
  fun {σ' H' v u} J rv q=>⟨v,H',J.os,J.bare,J.base,J.hok,rv,q⟩
 cases fl with
 |ret u=>
  obtain⟨v,σ',H',J,rv,q⟩:=hs
  exact fin J rv q
 |next=>
  obtain⟨σ',H',J,q⟩:=hs
  exact fin (v:=V.non) (u:=Value.none) J rfl q
 |brk=>
  obtain⟨_,_,_,q⟩:=hs
  exact False.elim q
 |cont=>
  obtain⟨_,_,_,q⟩:=hs
  exact False.elim q
section
variable {X:Cx}{x:Str}{p pos:Pos}{e:Expr}{es:List Expr}{t:TA}{id T:String}{r:List V->Hp->VK->Prop}
noncomputable def tCB (r:List V->Hp->VK->Prop)(t:TA):TE:=fun σ H Q=>t σ H fun vs H1=>r vs H1 Q
theorem zao (hc:zbG X (.builtin id) r)(hg:Gl X x)(hm:X.mg x=none)(hv:bootBuiltins x=some (.builtin id))(ha:PA X (e::es) t)(hn:x≠ "__name__" :=by decide)(hdb:(x==("__debug__" :Str))=false:=by decide)
  (he:starEach (e::es) X.env=(false,eval e X.env)::starEach es X.env:=by rfl) (hpl:(backTo pos (starEach es X.env)).any (·.1)=false:=by rfl):PE X (.Call (.Name x p) (e::es) [] pos) (tCB r t):=by
 intro pins s σ H Q I h
 refine wpAny_Call_Name_kw (zcr I hg hm hv ?_ hn hdb)
 exact PyProof.Rows.callWith_builtin1 (thn (ha pos pins s σ H _ I h) fun us s1 ⟨vs,H1,I1,r1,q1⟩=>hc pins s1 σ H1 vs us Q I1 r1 q1) he hpl
theorem zaw (hc:zbG X (.type T) r)(hg:Gl X x)(hm:X.mg x=none)(hv:bootBuiltins x=some (.type T))(ha:PA X (e::es) t)(hn:x≠ "__name__" :=by decide)(hdb:(x==("__debug__" :Str))=false:=by decide)
  (he:starEach (e::es) X.env=(false,eval e X.env)::starEach es X.env:=by rfl) (hpl:(backTo pos (starEach es X.env)).any (·.1)=false:=by rfl):PE X (.Call (.Name x p) (e::es) [] pos) (tCB r t):=by
 intro pins s σ H Q I h
 refine wpAny_Call_Name_kw (zcr I hg hm hv ?_ hn hdb)
 exact PyProof.Rows.callWith_type1 (thn (ha pos pins s σ H _ I h) fun us s1 ⟨vs,H1,I1,r1,q1⟩=>hc pins s1 σ H1 vs us Q I1 r1 q1) he hpl
end
end L2
namespace HT
open PySem PyProof.Rows
section
open PySem.SeqAt
open PySem.AutoSeq1 (wpAny_loadPart')
open PySem.MeetsSeq PySem.MeetsSeq2 PySem.MeetsSeq3
end
section
variable {prog:Program}{w:World}{A:Around}{E:Value->Shared->Prop}{s:Shared}
noncomputable def sIx (n d:Nat):Option Int->Nat
 |none=>d
 |some v=>if v<0 then (v+(n:Int)).toNat else min v.toNat n
theorem sIx_nat (n d k:Nat):sIx n d (some (k:Int))=min k n:=by
 show (if (k:Int)<0 then ((k:Int)+(n:Int)).toNat else min (k:Int).toNat n)=min k n
 rw[if_neg (by (first|lia|omega)),Int.toNat_natCast]
theorem zhF (n d:Nat)(hd:d<=n)(o:Option Int):sIx n d o<=n:=by
 cases o with
 |none=>exact hd
 |some v=>
  show (if v<0 then (v+(n:Int)).toNat else min v.toNat n)<=n
  by_cases hv:v<0
  ·rw[if_pos hv];(first|lia|omega)
  ·rw[if_neg hv];exact Nat.min_le_right _ _
theorem ze8 (v:Int)(n d:Nat):(if v<0 then max (v+(n:Int)) 0 else min v (n:Int))=((sIx n d (some v):Nat):Int):=by
 show (if v<0 then max (v+(n:Int)) 0 else min v (n:Int))=(((if v<0 then (v+(n:Int)).toNat else min v.toNat n):Nat):Int)
 by_cases hv:v<0
 ·simp only[if_pos hv];(first|lia|omega)
 ·simp only[if_neg hv];(first|lia|omega)
theorem zeI (lo hi:Option Int)(n:Nat):Builtin.Slice.sliceAdjust lo hi 1 (n:Int)=(((sIx n 0 lo:Nat):Int),((sIx n n hi:Nat):Int)):=by
 have h1:¬((1:Int)<0):=by (first|lia|omega)
 unfold Builtin.Slice.sliceAdjust
 simp only[h1,if_false]
 refine Prod.ext ?_ ?_
 ·cases lo with
  |none=>rfl
  |some v=>exact ze8 v n 0
 ·cases hi with
  |none=>rfl
  |some v=>exact ze8 v n n
theorem zeJ (i j:Nat):Builtin.Slice.slicePlaces (i:Int) (j:Int) 1=j-i:=by
 unfold Builtin.Slice.slicePlaces
 have h1:(1:Int)>0:=by (first|lia|omega)
 simp only[h1,if_true,Int.ediv_one]
 split<;>(first|lia|omega)
theorem zcQ {v:Value}{o:Option Int}{Q:Option Int->Shared->Prop}(p:IsPart v o)(h:Q o s):wpAny (model prog w) A (Builtin.Slice.slicePartIndex v) Q E s:=by
 cases p with
 |none=>exact slicePart_none h
 |int i t=>exact slicePart_int h
theorem sliceApplied_gen {sl:Addr}{vl vu:Value}{lo hi:Option Int}{n:Nat}{Q:Int×Int×Nat->Shared->Prop}(hs:s.heap.IsSliceOf sl vl vu .none)(pl:IsPart vl lo)(pu:IsPart vu hi)
  (h:Q (((sIx n 0 lo:Nat):Int),1,sIx n n hi-sIx n 0 lo) s):wpAny (model prog w) A (Builtin.Slice.sliceApplied (.ref sl) (pure (n:Int))) Q E s:=by
 obtain⟨os,hos,hcs,hds⟩:=id hs
 unfold Builtin.Slice.sliceApplied Builtin.Slice.sliceFields
 refine wpAny_bind (wpAny_bind (wpAny_field hos hds (x:=vl) rfl (wpAny_bind (wpAny_field hos hds (x:=vu) rfl (wpAny_bind (wpAny_field hos hds (x:=.none) rfl (wpAny_pure ?_)))))))
 refine wpAny_bind (slicePart_none ?_)
 show wpAny _ _ (if ((1:Int)==0)=true then _ else _) _ _ s
 rw[if_neg (by decide)]
 refine wpAny_bind (zcQ pl (wpAny_bind (zcQ pu (wpAny_bind (wpAny_pure ?_)))))
 show wpAny _ _ (match Builtin.Slice.sliceAdjust lo hi 1 (n:Int) with|(lo,hi)=>pure (lo,(1:Int),Builtin.Slice.slicePlaces lo hi 1)) _ _ s
 rw[zeI lo hi n]
 show wpAny _ _ (pure (((sIx n 0 lo:Nat):Int),(1:Int),Builtin.Slice.slicePlaces ((sIx n 0 lo:Nat):Int) ((sIx n n hi:Nat):Int) 1)) _ _ s
 rw[zeJ]
 exact wpAny_pure h
theorem zf1 (xs:Array Value)(i k:Nat):((List.range k).filterMap fun (m:Nat)=>xs[((i:Int)+(m:Int)*1).toNat]?).toArray=((xs.toList.drop i).take k).toArray:=by
 have e:(fun (m:Nat)=>xs[((i:Int)+(m:Int)*1).toNat]?)=fun m=>xs[i+m]? :=by
  funext m
  have:((i:Int)+(m:Int)*1).toNat=i+m:=by (first|lia|omega)
  rw[this]
 rw[e]
 have:=pick_run xs i k
 rw[List.filterMap_map] at this
 have e2:((fun x=>xs[x]?)∘fun x=>i+x)=fun m=>xs[i+m]? :=rfl
 rw[e2] at this
 rw[this]
theorem getItem_tuple_cut {t sl:Addr}{items:Array Value}{vl vu:Value}{lo hi:Option Int}{Q:Value->Shared->Prop}(ht:IsTup s.heap t items)(hs:s.heap.IsSliceOf sl vl vu .none)(pl:IsPart vl lo)(pu:IsPart vu hi)
  (hw:¬(sIx items.size 0 lo=0/\sIx items.size items.size hi=items.size))
  (h:Q (.ref s.heap.objs.size) {s with heap:=s.heap.push {cls:=.type "tuple",data:=.seq ((items.toList.drop (sIx items.size 0 lo)).take (sIx items.size items.size hi-sIx items.size 0 lo)).toArray}})
  (hsz:items.size<=sizeLine):wpAny (model prog w) A (getItem (.ref t) (.ref sl)) Q E s:=by
 have htake:sizeOk (.seq ((items.toList.drop (sIx items.size 0 lo)).take (sIx items.size items.size hi-sIx items.size 0 lo)).toArray):=by
  show ((items.toList.drop (sIx items.size 0 lo)).take (sIx items.size items.size hi-sIx items.size 0 lo)).toArray.size<=sizeLine
  rw[List.size_toArray,List.length_take,List.length_drop,Array.length_toList]
  (first|lia|omega)
 have hj:sIx items.size items.size hi<=items.size:=zhF _ _ (Nat.le_refl _) hi
 obtain⟨os,hos,hcs,hds⟩:=id hs
 have hTs:s.TypeIs (.ref sl) "slice" :=⟨os,hos,hcs⟩
 unfold getItem
 try with_reducible refine wpAny_holding ?_
 first|refine wpAny_bind (wpAny_pure ?_)|skip
 refine wpAny_bind (wpAny_sequenceKey ht.typeIs (by decide) ?_)
 refine wpAny_bind (wpAny_callSpecial?_slot (name:=Str.ofString "__getitem__") ht.typeIs PyProof.Rows.slot_tuple_getitem
  (wpAny_call_entry PyProof.Rows.slot_tuple_getitem ht.typeIs entry_tuple_getitem ?_ (args_tuple_getitem _ _)))
 show wpAny _ _ (Builtin.Tuple.tupleItemsOf (.ref t) >>= _) _ _ s
 refine wpAny_bind (tupleItemsOf_ ht ?_)
 refine wpAny_bind (wpAny_typeOf hTs ?_)
 rw[if_pos (by decide)]
 refine wpAny_bind (sliceApplied_gen hs pl pu ?_)
 have hno:¬((((sIx items.size 0 lo:Nat):Int)==0&&(1:Int)==1&&(sIx items.size items.size hi-sIx items.size 0 lo)==items.size)=true):=by
  intro q
  rw[Bool.and_eq_true,Bool.and_eq_true] at q
  have q1:((sIx items.size 0 lo:Nat):Int)=0:=eq_of_beq q.1.1
  have q2:sIx items.size items.size hi-sIx items.size 0 lo=items.size:=eq_of_beq q.2
  exact hw ⟨by (first|lia|omega),by (first|lia|omega)⟩
 show wpAny _ _ (if (((sIx items.size 0 lo:Nat):Int)==0&&(1:Int)==1&&(sIx items.size items.size hi-sIx items.size 0 lo)==items.size)=true then _ else _) _ _ s
 rw[if_neg hno,zf1]
 first
  |exact wpAny_bind (m:=Builtin.Tuple.tupleExact _) (wpAny_newObj_type (wpAny_pure ⟨_,rfl,wpAny_pure h⟩) htake)
  |exact wpAny_bind (m:=Builtin.Tuple.tupleExact _) (wpAny_newObj_type (wpAny_bind (wpAny_pure (wpAny_pure ⟨_,rfl,wpAny_pure h⟩))) htake)
  |exact wpAny_bind (wpAny_bind (m:=Builtin.Tuple.tupleExact _) (wpAny_newObj_type (wpAny_pure (wpAny_pure ⟨_,rfl,wpAny_pure h⟩)) htake))
  |exact wpAny_bind (wpAny_bind (m:=Builtin.Tuple.tupleExact _) (wpAny_newObj_type (wpAny_pure ⟨_,rfl,wpAny_pure h⟩) htake))
end
end HT
namespace L2
open PySem PySem.Spec PyProof.Rows
noncomputable abbrev TO:=St->Hp->(Option Int->Hp->Prop)->Prop
noncomputable def PO (X:Cx)(e:Option Expr)(t:TO):Prop:=
 ∀(pins:List (Addr×Obj)) (s:Shared) (σ:St) (H:Hp) (Q:Option Int->Hp->Prop),Inv X pins σ H s->t σ H Q->
  wpAny (model X.prog X.w) X.A (evalPart e X.env) (fun u s'=>∃o H',Inv X pins σ H' s'/\IsPart u o/\Q o H') X.xe s
noncomputable def zgR:TO:=fun _ H Q=>Q none H
noncomputable def ziq (t:TE):TO:=fun σ H Q=>t σ H fun x H1=>∃i,x=.int i/\Q (some i) H1
theorem zeK {ns:List Int}:∀{us:List Value},Vals (ns.map V.int) us->IntsAre us ns:=by
 induction ns with
 |nil=>intro us r;rw[List.map_nil] at r;cases r;exact .nil
 | cons n ns ih=>
  intro us r
  rw[List.map_cons] at r
  cases r with
  |cons r1 r2=>
   obtain⟨t,e⟩:=r1
   subst e
   exact .cons n t (ih r2)
section
variable {X:Cx}{e:Expr}{te:TE}{lo hi:Option Expr}{tl th:TO}{pos p2:Pos}
theorem ze9:PO X none zgR:=by
 intro pins s σ H Q I h
 rw[evalPart_none]
 exact wpAny_pure ⟨none,H,I,.none,h⟩
theorem zcY (h:PE X e te):PO X (some e) (ziq te):=by
 intro pins s σ H Q I hw
 rw[evalPart_some]
 refine thn (h pins s σ H _ I hw) fun u s1 zq=> ?_
 obtain⟨x,H1,I1,r1,q1⟩:=zq
 obtain⟨i,rfl,q⟩:=q1
 obtain⟨t,rfl⟩:=r1
 exact⟨some i,H1,I1,.int i t,q⟩
noncomputable def SlR (X:Cx)(r:V->Option Int->Option Int->Hp->VK->Prop):Prop:=
 ∀(pins:List (Addr×Obj)) (s:Shared) (σ:St) (H:Hp) (x:V) (v vl vu:Value) (lo hi:Option Int) (sl:Addr) (Q:VK),Inv X pins σ H s->RelV x v->s.heap.IsSliceOf sl vl vu .none->IsPart vl lo->IsPart vu hi->r x lo hi H Q->
  ∃T id,typeLookup (.type T) "__getitem__" =pure (some (.builtin id))/\s.TypeIs v T/\wpAny (model X.prog X.w) X.A (getItem v (.ref sl)) (EP X pins σ Q) X.xe s
noncomputable def tSl (r:V->Option Int->Option Int->Hp->VK->Prop)(te:TE)(tl th:TO):TE:=fun σ H Q=>te σ H fun x H1=>tl σ H1 fun l H2=>th σ H2 fun u H3=>r x l u H3 Q
theorem zcZ {r:V->Option Int->Option Int->Hp->VK->Prop}(hr:SlR X r)(he:PE X e te)(hl:PO X lo tl)(hu:PO X hi th):PE X (.Subscript e (.Slice lo hi none p2) pos) (tSl r te tl th):=by
 intro pins s σ H Q I h
 refine Subscript_ (thn (he pins s σ H _ I h) fun v s1 zq=> ?_)
 obtain⟨x,H1,I1,r1,q1⟩:=zq
 refine wpAny_Slice (thn (hl pins s1 σ H1 _ I1 q1) fun vl s2 ⟨l,H2,I2,pl,q2⟩=>thn (hu pins s2 σ H2 _ I2 q2) fun vu s3 ⟨u,H3,I3,pu,q3⟩=> ?_)
 rw[evalPart_none]
 refine wpAny_pure ?_
 have I4:Inv X pins σ H3 {s3 with heap:=s3.heap.push {cls:=.type "slice",data:=.fields #[vl,vu,.none]}}:=I3.kept (t':=s3.toks) fun b ob q=>Heap.get?_push_of_some _ q
 obtain⟨T,id,hT,ht,hg⟩:=hr pins {s3 with heap:=s3.heap.push {cls:=.type "slice",data:=.fields #[vl,vu,.none]}} σ H3 x v vl vu l u s3.heap.objs.size Q I4 r1 (Heap.IsSliceOf.new ..) pl pu q3
 show wpAny (model X.prog X.w) X.A (subscriptTail e (.Slice lo hi none p2) v (.ref s3.heap.objs.size)) (EP X pins σ Q) X.xe {s3 with heap:=s3.heap.push {cls:=.type "slice",data:=.fields #[vl,vu,.none]}}
 exact tail_any (ops:=[.ref s3.heap.objs.size,v]) ht hT hg (by with_unfolding_all rfl)
noncomputable def cutV (xs:List V)(lo hi:Option Int):List V:=(xs.drop (HT.sIx xs.length 0 lo)).take (HT.sIx xs.length xs.length hi-HT.sIx xs.length 0 lo)
theorem zcv (xs:List V)(lo hi:Option Int):(cutV xs lo hi).length<=xs.length:=by
 unfold cutV
 rw[List.length_take,List.length_drop]
 (first|lia|omega)
noncomputable def rSlT (K:PySem.W.Frag):V->Option Int->Option Int->Hp->VK->Prop:=fun x lo hi H Q=>∃a xs,x=.ref a/\SqT K H a xs/\
 ¬(HT.sIx xs.length 0 lo=0/\HT.sIx xs.length xs.length hi=xs.length)/\∀p,H p=none->Q (.ref p) (upd H p (.tup (cutV xs lo hi)))
theorem zhG:SlR X (rSlT X.K):=by
 intro pins s σ H x v vl vu lo hi sl Q I rx hs pl pu h
 obtain⟨a,xs,rfl,hx,hw,q⟩:=h
 cases rx
 obtain⟨its,r,ht,hz⟩:=I.tuple hx
 have hlen:its.toArray.size=xs.length:=by rw[List.size_toArray];exact r.length.symm
 refine⟨"tuple",_,PyProof.Rows.slot_tuple_getitem.lookup,ht.typeIs, ?_⟩
 refine HT.getItem_tuple_cut ht hs pl pu (by rw[hlen];exact hw) ?_ (by rw[hlen];exact hz)
 rw[hlen]
 refine⟨.ref s.heap.objs.size,_,I.laid (t':=s.toks) (o:=.tup (cutV xs lo hi)) (fun b ob q=>Heap.get?_push_of_some _ q) (Nat.le_refl _) ?_,rfl,q _ (I.hok.fresh (Nat.le_refl _))⟩
 exact⟨Nat.le_trans (zcv xs lo hi) hz,_,(r.drop (HT.sIx xs.length 0 lo)).take (HT.sIx xs.length xs.length hi-HT.sIx xs.length 0 lo),PTup.new⟩
end
noncomputable def ixN (n:Nat)(i:Int):Option Nat:=if 0<=i then (if i<n then some i.toNat else none) else if-(n:Int)<=i then some (i+n).toNat else none
noncomputable def atI {α:Type}(xs:List α)(i:Int):Option α:=(ixN xs.length i).bind fun j=>xs[j]?
theorem zfa {n:Nat}{i:Int}{j:Nat}(h:ixN n i=some j):seqIndex? i n=some j/\j<n/\-(n:Int)<=i/\i<n:=by
 unfold ixN at h
 by_cases h0:0<=i
 ·rw [if_pos h0] at h
  by_cases h1:i<n
  ·rw [if_pos h1] at h
   have e:i.toNat=j:=Option.some.inj h
   exact⟨by rw[seqIndex_of h0 h1,e],by (first|lia|omega),by (first|lia|omega),h1⟩
  ·rw[if_neg h1] at h;cases h
 ·rw [if_neg h0] at h
  by_cases h1:-(n:Int)<=i
  ·rw [if_pos h1] at h
   have e:(i+n).toNat=j:=Option.some.inj h
   exact⟨by rw[seqIndex_neg (by (first|lia|omega)) h1,e],by (first|lia|omega),h1,by (first|lia|omega)⟩
  ·rw[if_neg h1] at h;cases h
theorem zfb {α:Type}{xs:List α}{i:Int}{v:α}(h:atI xs i=some v):∃j,seqIndex? i xs.length=some j/\xs[j]? =some v/\j<xs.length/\-(xs.length:Int)<=i/\i<xs.length:=by
 unfold atI at h
 cases e:ixN xs.length i with
 |none=>rw[e] at h;cases h
 |some j=>
  rw[e] at h
  obtain⟨h1,h2,h3,h4⟩:=zfa e
  exact⟨j,h1,h,h2,h3,h4⟩
theorem zaN {α:Type}{xs:List α}{j:Nat}{v:α}(h:xs[j]? =some v):atI xs (j:Int)=some v:=by
 have hj:j<xs.length:=(List.getElem?_eq_some_iff.mp h).1
 have e:ixN xs.length (j:Int)=some j:=by
  unfold ixN
  rw[if_pos (by (first|lia|omega)),if_pos (by (first|lia|omega))];simp
 unfold atI;rw[e];exact h
noncomputable def zgS (b:Expr):Prop:=∀o i,subscripted b false o i=operate [o,i] (getItem o i)
noncomputable def IxR (X:Cx)(r:R2):Prop:=
 ∀(value slice:Expr) (pins:List (Addr×Obj)) (s:Shared) (σ:St) (H:Hp) (x y:V) (v u:Value) (Q:VK),Inv X pins σ H s->RelV x v->RelV y u->r x y H Q->
  subscripted slice false v u=operate [v,u] (getItem v u)->wpAny (model X.prog X.w) X.A (subscriptTail value slice v u) (EP X pins σ Q) X.xe s
noncomputable def MtR (X:Cx)(id:String)(r:V->List V->Hp->VK->Prop):Prop:=
 ∀(pins:List (Addr×Obj)) (s:Shared) (σ:St) (H:Hp) (x:V) (xs:List V) (v:Value) (us:List Value) (Q:VK),Inv X pins σ H s->RelV x v->Vals xs us->r x xs H Q->
  wpAny (model X.prog X.w) X.A (call (.builtin id) (v::us)) (EP X pins σ Q) X.xe s
section
variable {X:Cx}{a b:Expr}{ta tb:TE}{pos:Pos}
theorem zaT {r:R2}(hr:IxR X r)(ha:PE X a ta)(hb:PE X b tb)(hs:zgS b):PE X (.Subscript a b pos) (tOp r ta tb):=by
 intro pins s σ H Q I h
 exact Subscript_ (binT ha hb I h fun v u s2 x y H2 I2 rx ry q=>hr a b pins s2 σ H2 x y v u Q I2 rx ry q (hs _ _))
noncomputable def rIxL (K:PySem.W.Frag):R2:=fun x y H Q=>∃p xs i v,x=.ref p/\y=.int i/\SqL K H p xs/\atI xs i=some v/\Q v H
noncomputable def rIxT (K:PySem.W.Frag):R2:=fun x y H Q=>∃p xs i v,x=.ref p/\y=.int i/\SqT K H p xs/\atI xs i=some v/\Q v H
theorem zau:IxR X (rIxL X.K):=by
 intro value slice pins s σ H x y v u Q I rx ry h hs
 obtain⟨p,xs,i,z,rfl,rfl,hq,he,q⟩:=h
 cases rx
 obtain⟨t,rfl⟩:=ry
 obtain⟨its,r,pl,hz⟩:=I.list hq
 obtain⟨j,h1,h2,h3,h4,h5⟩:=zfb he
 obtain⟨w,ew,rw'⟩:=r.get h2
 have hl:=r.length
 have hn:=zee
 have fin:EP X pins σ Q w s:=⟨z,H,I,rw',q⟩
 by_cases h0:0<=i
 ·have hj:i.toNat=j:=by
   rw[seqIndex_of h0 h5] at h1
   exact Option.some.inj h1
  exact item_listR pl.isList h0 (by (first|lia|omega)) (by rw[hj];simpa using ew) fin hs
 ·have hj:(i+(its.toArray.size:Int)).toNat=j:=by
   rw[seqIndex_neg (by (first|lia|omega)) h4] at h1
   rw[List.size_toArray,<-hl]
   exact Option.some.inj h1
  exact subscriptTail_builtinR (x:=w) pl.isList.typeIs slot_list_getitem.lookup
   (wpAny_getItem_list_neg (Q:=fun r s'=>r=w/\EP X pins σ Q r s') pl.isList (by (first|lia|omega)) (by rw[List.size_toArray]<;>(first|lia|omega)) (by (first|lia|omega)) (by rw[hj];simpa using ew) ⟨rfl,fin⟩) hs
theorem zfc:IxR X (rIxT X.K):=by
 intro value slice pins s σ H x y v u Q I rx ry h hs
 obtain⟨p,xs,i,z,rfl,rfl,hq,he,q⟩:=h
 cases rx
 obtain⟨t,rfl⟩:=ry
 obtain⟨its,r,pl,hz⟩:=I.tuple hq
 obtain⟨j,h1,h2,h3,h4,h5⟩:=zfb he
 obtain⟨w,ew,rw'⟩:=r.get h2
 have hl:=r.length
 have hn:=zee
 have fin:EP X pins σ Q w s:=⟨z,H,I,rw',q⟩
 exact subscriptTail_builtinR (x:=w) pl.typeIs slot_tuple_getitem.lookup
  (getItem_tuple (j:=j) (Q:=fun r s'=>r=w/\EP X pins σ Q r s') pl (by (first|lia|omega)) (by (first|lia|omega)) (by rw[List.size_toArray,<-hl];exact h1) (by simpa using ew) ⟨rfl,fin⟩) hs
theorem zeL (its:List Value)(n j:Nat)(u:Value):Obj.mapSeq (·.setIfInBounds j u) {cls:=.type "list",data:=.seq its.toArray n}={cls:=.type "list",data:=.seq (its.set j u).toArray n}:=by
 simp[Obj.mapSeq]
theorem Inv.lst {pins:List (Addr×Obj)}{σ:St}{H:Hp}{s:Shared}{p:Addr}{xs:List V}(I:Inv X pins σ H s)(h:H p=some (.lst xs)):
  ∃(its:List Value) (n:Nat),Vals xs its/\s.heap.get? p=some {cls:=.type "list",data:=.seq its.toArray n}/\xs.length<=sizeLine:=by
 obtain⟨z,its,n,r,e⟩:=I.hok p _ h
 exact⟨its,n,r,e,z⟩
theorem Inv.lstUpd {pins:List (Addr×Obj)}{σ:St}{H:Hp}{s:Shared}{p:Addr}{xs ys:List V}{its its':List Value}{n n':Nat}{f:Obj->Obj}(I:Inv X pins σ H s)(h:H p=some (.lst xs))
  (ho:s.heap.get? p=some {cls:=.type "list",data:=.seq its.toArray n}) (hf:f {cls:=.type "list",data:=.seq its.toArray n}={cls:=.type "list",data:=.seq its'.toArray n'}) (r:Vals ys its') (hz:ys.length<=sizeLine) (t:Nat):
  Inv X pins σ (upd H p (.lst ys)) {s with heap:=s.heap.update p f,toks:=t}:=by
 have e:(s.heap.update p f).get? p=some {cls:=.type "list",data:=.seq its'.toArray n'}:=by
  rw[Heap.get?_update_self f ho (by rw[hf]<;>rfl),hf]
 refine I.write (x:=p) (e:=p) (by rw[h];trivial) (.inl rfl) (fun b u hb q=>(Heap.get?_update_other _ _ (Ne.symm hb)).trans q) ⟨_,e⟩ ?_
 exact⟨hz,its',n',r,e⟩
noncomputable def zir:V->V->V->Hp->(Hp->Prop)->Prop:=fun o i v H Q=>∃p xs k j,o=.ref p/\i=.int k/\H p=some (.lst xs)/\ixN xs.length k=some j/\Q (upd H p (.lst (xs.set j v)))
theorem zbz:PSet X zir:=by
 intro pins s σ H o i v ov iv u Q I ro ri rv h
 obtain⟨p,xs,k,j,rfl,rfl,hp,hj,q⟩:=h
 cases ro
 obtain⟨t,rfl⟩:=ri
 obtain⟨its,n,r,ho,hz⟩:=I.lst hp
 obtain⟨h1,h2,h3,h4⟩:=zfa hj
 have hl:=r.length
 have hn:=zee
 have I':Inv X pins σ (upd H p (.lst (xs.set j v))) {s with heap:=s.heap.update p (Obj.mapSeq (·.setIfInBounds j u))}:=
  I.lstUpd hp ho (zeL its n j u) (r.set rv j) (by rw[List.length_set];exact hz) s.toks
 by_cases h0:0<=k
 ·have hk:k.toNat=j:=by
   rw[seqIndex_of h0 h4] at h1
   exact Option.some.inj h1
  exact PySem.W.ki_setAt ho h0 (by (first|lia|omega)) (by rw[List.size_toArray,<-hl];exact h4) (by rw[hk];exact⟨_,I',q⟩)
 ·have hk:(k+(its.toArray.size:Int)).toNat=j:=by
   rw[seqIndex_neg (by (first|lia|omega)) h3] at h1
   rw[List.size_toArray,<-hl]
   exact Option.some.inj h1
  exact PySem.W.ki_setBack ho (by (first|lia|omega)) (by rw[List.size_toArray,<-hl];exact h3) (by (first|lia|omega)) (by rw[hk];exact⟨_,I',q⟩)
theorem zdq (lo hi:Option Int)(n:Nat):(sliceBounds lo hi none n).1=((HT.sIx n 0 lo:Nat):Int)/\(sliceBounds lo hi none n).2.1=((HT.sIx n n hi:Nat):Int)/\(sliceBounds lo hi none n).2.2=1:=by
 refine⟨?_, ?_,rfl⟩
 ·cases lo with
  |none=>simp[sliceBounds,HT.sIx]
  |some i=>
   simp only[sliceBounds,HT.sIx,Option.getD_none,show (1:Int)>0 by decide,if_true]
   by_cases h:i<0
   ·simp only[h,if_true]<;>(first|lia|omega)
   ·simp only[h,if_false]<;>(first|lia|omega)
 ·cases hi with
  |none=>simp[sliceBounds,HT.sIx]
  |some i=>
   simp only[sliceBounds,HT.sIx,Option.getD_none,show (1:Int)>0 by decide,if_true]
   by_cases h:i<0
   ·simp only[h,if_true]<;>(first|lia|omega)
   ·simp only[h,if_false]<;>(first|lia|omega)
theorem zc0 (its:List Value)(lo hi:Option Int):slicePick its.toArray lo hi none=((its.drop (HT.sIx its.length 0 lo)).take (HT.sIx its.length its.length hi-HT.sIx its.length 0 lo)).toArray:=by
 obtain⟨h1,h2,h3⟩:=zdq lo hi its.toArray.size
 unfold slicePick
 rw[h1,h2,h3]
 simp only[sliceRange_one,pick_run,List.size_toArray]<;>rfl
noncomputable def rSlL (K:PySem.W.Frag):V->Option Int->Option Int->Hp->VK->Prop:=fun x lo hi H Q=>∃a xs,x=.ref a/\SqL K H a xs/\∀p,H p=none->Q (.ref p) (upd H p (.lst (cutV xs lo hi)))
theorem zfd:SlR X (rSlL X.K):=by
 intro pins s σ H x v vl vu lo hi sl Q I rx hs pl pu h
 obtain⟨a,xs,rfl,hx,q⟩:=h
 cases rx
 obtain⟨its,r,ht,hz⟩:=I.list hx
 have hlen:=r.length
 refine⟨"list",_,slot_list_getitem.lookup,ht.isList.typeIs, ?_⟩
 refine wpAny_getItem_list_slice ht.isList hs pl pu .none (by simp) ?_ (by rw[List.size_toArray]<;>(first|lia|omega))
 rw[zc0,<-hlen]
 refine⟨.ref s.heap.objs.size,_,I.laid (t':=s.toks) (o:=.lst (cutV xs lo hi)) (fun b ob q=>Heap.get?_push_of_some _ q) (Nat.le_refl _) ?_,rfl,q _ (I.hok.fresh (Nat.le_refl _))⟩
 exact⟨Nat.le_trans (zcv xs lo hi) hz,_,0,(r.drop (HT.sIx xs.length 0 lo)).take (HT.sIx xs.length xs.length hi-HT.sIx xs.length 0 lo),Heap.get?_push_size _ rfl⟩
theorem zaD:zbG X (.builtin "len") (fun xs H Q=>∃p ys,xs=[.ref p]/\(SqL X.K H p ys∨SqT X.K H p ys)/\Q (.int ys.length) H):=by
 intro pins s σ H xs us Q I r h
 obtain⟨p,ys,rfl,hq,q⟩:=h
 obtain⟨u,rfl,rx⟩:=zcI r
 cases rx
 have hn:=zee
 rcases hq with hq|hq
 ·obtain ⟨its,r',pl,hz⟩:=I.list hq
  have hlen:=r'.length
  exact Calls.call_len_list pl.isList (by simp only[List.size_toArray]<;>(first|lia|omega)) ⟨.int ys.length,H,I.tok _,⟨s.toks+1,by rw[List.size_toArray,hlen]⟩,q⟩
 ·obtain ⟨its,r',pl,hz⟩:=I.tuple hq
  have hlen:=r'.length
  exact len_tuple pl (by simp only[List.size_toArray]<;>(first|lia|omega)) ⟨.int ys.length,H,I.tok _,⟨s.toks+1,by rw[List.size_toArray,hlen]⟩,q⟩
theorem zaE:zbG X (.type "tuple") (fun xs H Q=>∃p ys,xs=[.ref p]/\((SqL X.K H p ys/\∀l,H l=none->Q (.ref l) (upd H l (.tup ys)))∨(SqT X.K H p ys/\Q (.ref p) H))):=by
 intro pins s σ H xs us Q I r h
 obtain⟨p,ys,rfl,h⟩:=h
 obtain⟨u,rfl,rx⟩:=zcI r
 cases rx
 rcases h with⟨hq,q⟩|⟨hq,q⟩
 ·obtain ⟨its,r',pl,hz⟩:=I.list hq
  have hlen:=r'.length
  refine call_tuple_list pl.isList (fun h' kp=> ?_) (by simp only[List.size_toArray]<;>(first|lia|omega))
  have I1:Inv X pins σ H {s with heap:=h'}:=I.kept (t':=s.toks) kp
  have I2:Inv X pins σ (upd H h'.objs.size (.tup ys)) {s with heap:=h'.push {cls:=.type "tuple",data:=.seq its.toArray}}:=
   I1.laid (t':=s.toks) (fun b o e=>Heap.get?_push_of_some _ e) (Nat.le_refl _) (show ObjOk X.prog X.w _ _ _ (.tup ys) from ⟨hz,its,r',PTup.new⟩)
  exact⟨.ref h'.objs.size,_,I2,rfl,q _ (I1.hok.fresh (Nat.le_refl _))⟩
 ·obtain ⟨its,r',pl,hz⟩:=I.tuple hq
  exact call_tuple_same pl ⟨.ref p,H,I,rfl,q⟩
noncomputable def tyV (K:PySem.W.Frag)(T:String)(x:V)(H:Hp):Prop:=match x with
 | .str _=>T= "str"
 | .int _=>T= "int"
 | .ref p=>(T= "list" /\∃xs,SqL K H p xs)∨(T= "tuple" /\∃o,K.lookup p=some o/\o.cls=.type "tuple" /\o.dict=none)∨
   (T= "dict" /\((∃kvs,H p=some (.dK kvs))∨∃kvs,H p=some (.dT kvs)))∨(T= "set" /\∃S n,H p=some (.set S n))
 |_=>False
theorem zhH {pins:List (Addr×Obj)}{σ:St}{H:Hp}{s:Shared}{T:String}{x:V}{v:Value}(I:Inv X pins σ H s)(r:RelV x v)(ty:tyV X.K T x H):
  s.TypeIs v T/\∀a,v=.ref a->∃ob,s.heap.get? a=some ob/\ob.dict=none:=by
 cases x with
 |str z=>
  obtain⟨t,rfl⟩:=r
  cases (show T= "str" from ty)
  exact⟨typeIs_str s z t,fun _ e=>nomatch e⟩
 |int i=>
  obtain⟨t,rfl⟩:=r
  cases (show T= "int" from ty)
  exact⟨typeIs_int s i t,fun _ e=>nomatch e⟩
 | ref p=>
  cases r
  rcases ty with⟨rfl,xs,hq⟩|⟨rfl,o,hk,hc,hd⟩|⟨rfl,hk⟩|⟨rfl,S,n,hk⟩
  ·obtain ⟨its,_,pl,_⟩:=I.list hq
   refine⟨pl.isList.typeIs,fun a e=> ?_⟩
   cases e
   obtain⟨o,n,e,c,hd,_⟩:=pl
   exact⟨o,e,hd⟩
  ·refine ⟨⟨o,I.kIn p o hk,hc⟩,fun a e=> ?_⟩
   cases e
   exact⟨o,I.kIn _ o hk,hd⟩
  ·have z:∃o,s.heap.get? p=some o/\o.ExactDict:=by
    rcases hk with⟨kvs,hk⟩|⟨kvs,hk⟩
    ·obtain ⟨_,_,_,_,o,_,_,e,ex,_⟩:=I.hok p _ hk
     exact⟨o,e,ex⟩
    ·obtain ⟨_,_,_,_,o,_,_,e,ex,_⟩:=I.hok p _ hk
     exact⟨o,e,ex⟩
   obtain⟨o,e,ex⟩:=z
   refine⟨⟨o,e,ex.1⟩,fun a e2=> ?_⟩
   cases e2
   exact⟨o,e,ex.2.1⟩
  ·obtain ⟨o,_,_,_,e,ex,_⟩:=I.hok p _ hk
   refine⟨⟨o,e,ex.1⟩,fun a e2=> ?_⟩
   cases e2
   exact⟨o,e,ex.2.1⟩
 |_=>exact False.elim ty
noncomputable def tBM (K:PySem.W.Frag)(T:String)(r:V->List V->Hp->VK->Prop)(to:TE)(t:TA):TE:=fun σ H Q=>to σ H fun x H1=>tyV K T x H1/\t σ H1 fun xs H2=>r x xs H2 Q
variable {o e:Expr}{es:List Expr}{to:TE}{t:TA}{name:Str}{apos cpos:Pos}{T id:String}{r:V->List V->Hp->VK->Prop}
theorem zeM (pa:PlainAttrs T)(slot:Slot T name id)(hty:typeOf (.builtin id)=pure (.type "method_descriptor"))(hm:MtR X id r)(ho:PE X o to)(ha:PA X (e::es) t)
  (hbase:attributeBase o name X.env (eval o X.env)=eval o X.env:=by rfl)
  (hfew:((backTo cpos (starEach (e::es) X.env)).all (fun x=> !x.1)&&(backToKw cpos (keywordEach [] X.env)).all (fun x=>x.1.isSome)
   &&decide ((e::es).length+([]:List Keyword).length+(if ([]:List Keyword).isEmpty then 0 else 1)<30))=true:=by rfl)
  (hline:(apos.endLine==cpos.line)=true:=by rfl) (hs:starEach (e::es) X.env=(false,eval e X.env)::starEach es X.env:=by rfl) (hplain:(backTo cpos (starEach es X.env)).any (·.1)=false:=by rfl):
  PE X (.Call (.Attribute o name apos) (e::es) [] cpos) (tBM X.K T r to t):=by
 intro pins s σ H Q I h
 refine wpAny_Call_method_late hbase hfew hline rfl (thn (ho pins s σ H _ I h) fun v s1 zq=> ?_)
 obtain⟨x,H1,I1,r1,ty,q1⟩:=zq
 obtain⟨h1,h2⟩:=zhH I1 r1 ty
 refine⟨T,id,pa,slot,hty,h1,h2, ?_⟩
 have hA:=ha cpos pins s1 σ H1 _ I1 q1
 rw[hs] at hA ⊢
 refine Calls.callWith_builtin (by show (false||(backTo cpos (starEach es X.env)).any (·.1))=false;rw[hplain]<;>rfl) (Calls.evalArgs_plain ?_)
 exact thn hA fun us s2 ⟨vs,H2,I2,r2,q2⟩=>hm pins s2 σ H2 x vs v us Q I2 r1 r2 q2
end
noncomputable def MtM (X:Cx)(id:String)(r:V->List V->Hp->VK->Prop):Prop:=
 ∀(pins:List (Addr×Obj)) (s:Shared) (σ:St) (H:Hp) (x:V) (xs:List V) (v:Value) (us:List Value) (Q:VK),Inv X pins σ H s->RelV x v->Vals xs us->r x xs H Q->
  wpAny (model X.prog X.w) X.A (call (.builtin id) (v::us)) (EP X pins σ Q) X.xe s
theorem Vals.one:∀{x:V} {us:List Value},Vals [x] us->∃u,us=[u]/\RelV x u
 |_,_,.cons r .nil=>⟨_,rfl,r⟩
theorem Vals.eraseIdx:∀{xs:List V} {us:List Value} (i:Nat),Vals xs us->Vals (xs.eraseIdx i) (us.eraseIdx i)
 |_,_,_,.nil=>.nil
 |_,_,0,.cons _ t=>t
 |_,_,i+1,.cons r t=>.cons r (Vals.eraseIdx i t)
theorem Vals.rep {xs:List V}{us:List Value}(h:Vals xs us):∀k:Nat,Vals (List.replicate k xs).flatten (List.replicate k us).flatten
 |0=>.nil
 |k+1=>by
  rw[List.replicate_succ,List.replicate_succ,List.flatten_cons,List.flatten_cons]
  exact Vals.append h (Vals.rep h k)
theorem zdr {α:Type}:∀(l:List α) (i:Nat),(l.eraseIdx i).length<=l.length
 |[],_=>Nat.le_refl _
 |_::_,0=>Nat.le_succ _
 |_::r,i+1=>Nat.succ_le_succ (zdr r i)
theorem zds (its:List Value):∀(k:Nat) (acc:List Value),
  List.foldl (fun x1 x2=>x1++x2) acc.toArray (List.replicate k its.toArray)=(acc++(List.replicate k its).flatten).toArray
 |0,acc=>by simp
 | k+1,acc=>by
  have e:acc.toArray++its.toArray=(acc++its).toArray:=by simp
  have e2:(acc++its)++(List.replicate k its).flatten=acc++(List.replicate (k+1) its).flatten:=by
   rw[List.replicate_succ,List.flatten_cons,List.append_assoc]
  rw[<-e2,<-zds its k (acc++its),<-e,List.replicate_succ,List.foldl_cons]
section
variable {X:Cx}{pins:List (Addr×Obj)}{σ:St}{H:Hp}{s:Shared}{l b:Addr}{xs ys zs:List V}
theorem Inv.lset {its its':List Value}{n:Nat}{f:Array Value->Array Value}{t':Nat}(I:Inv X pins σ H s)(hH:H l=some (.lst xs))
  (e:s.heap.get? l=some {cls:=.type "list",data:=.seq its.toArray n}) (hf:f its.toArray=its'.toArray) (hv:Vals ys its') (hz:ys.length<=sizeLine):
  Inv X pins σ (upd H l (.lst ys)) {s with heap:=s.heap.update l (Obj.mapSeq f),toks:=t'}:=by
 have q:=PySem.IsL.update e f
 rw[hf] at q
 refine I.write (x:=l) (e:=l) (by rw[hH];exact trivial) (.inl rfl) (fun b' u hb hu=>(Heap.get?_update_other s.heap (Obj.mapSeq f) (Ne.symm hb)).trans hu) ⟨_,q⟩ ?_
 exact⟨hz,its',_,hv,q⟩
theorem Inv.lnew {its:List Value}{t':Nat}(I:Inv X pins σ H s)(hv:Vals ys its)(hz:ys.length<=sizeLine):
  Inv X pins σ (upd H s.heap.objs.size (.lst ys)) {s with heap:=s.heap.push {cls:=.type "list",data:=.seq its.toArray},toks:=t'}:=
 I.laid (fun _ _ q=>Heap.get?_push_of_some _ q) (Nat.le_refl _) ⟨hz,its,0,hv,Heap.get?_push_size _ rfl⟩
theorem Inv.fresh (I:Inv X pins σ H s):H s.heap.objs.size=none:=I.hok.fresh (Nat.le_refl _)
theorem Inv.lstM (I:Inv X pins σ H s)(hH:H l=some (.lst xs)):xs.length<=sizeLine/\∃(its:List Value) (n:Nat),Vals xs its/\xs.length=its.length/\s.heap.get? l=some {cls:=.type "list",data:=.seq its.toArray n}:=by
 obtain⟨z,its,n,r,e⟩:=I.hok l _ hH
 exact⟨z,its,n,r,r.length,e⟩
theorem zeh {n:Nat}(h:n<=sizeLine):Builtin.List.listTooLong n=false:=by
 unfold Builtin.List.listTooLong
 exact decide_eq_false (by (first|lia|omega))
end
section
variable {X:Cx}
noncomputable def zgT:V->List V->Hp->VK->Prop:=fun x vs H Q=>∃l xs y,x=.ref l/\vs=[y]/\H l=some (.lst xs)/\xs.length<sizeLine/\Q .non (upd H l (.lst (xs++[y])))
theorem zbh:MtM X "list.append" zgT:=by
 intro pins s σ H x vs v us Q I rx rv h
 obtain⟨l,xs,y,rfl,rfl,hH,hz,q⟩:=h
 cases rx
 obtain⟨u,rfl,ru⟩:=rv.one
 obtain⟨z,its,n,r,hl,e⟩:=I.lstM hH
 refine call_meets F.slot_list_append ⟨_,e,rfl⟩ F.entry_list_append (F.args_list_append_2 _ _) (PySem.list_append l its.toArray n u (by rw[List.size_toArray];(first|lia|omega))) ⟨e, ?_⟩
 refine⟨.non,_,I.lset (its':=its++[u]) hH e (by simp) (r.append (.cons ru .nil)) ?_,rfl,q⟩
 rw[List.length_append,List.length_singleton]
 (first|lia|omega)
noncomputable def zgU:V->List V->Hp->VK->Prop:=fun x vs H Q=>∃l b xs zs,x=.ref l/\vs=[.ref b]/\H l=some (.lst xs)/\H b=some (.lst zs)/\xs.length+zs.length<=sizeLine/\Q .non (upd H l (.lst (xs++zs)))
theorem zfe:MtM X "list.extend" zgU:=by
 intro pins s σ H x vs v us Q I rx rv h
 obtain⟨l,b,xs,zs,rfl,rfl,hH,hB,hz,q⟩:=h
 cases rx
 obtain⟨u,rfl,ru⟩:=rv.one
 cases ru
 obtain⟨z,its,n,r,hl,e⟩:=I.lstM hH
 obtain⟨z2,its2,n2,r2,hl2,e2⟩:=I.lstM hB
 have hsz:its.toArray.size+its2.toArray.size<=sizeLine:=by rw[List.size_toArray,List.size_toArray];(first|lia|omega)
 have hlong:¬(!its.toArray.isEmpty&&Builtin.List.listTooLong (its.toArray.size+its2.toArray.size))=true:=by
  rw[zeh hsz,Bool.and_false]
  exact Bool.false_ne_true
 refine call_meets F.slot_list_extend ⟨_,e,rfl⟩ F.entry_list_extend (F.args_list_extend_2 _ _)
  (AutoSeq1.list_extend_list_list_0 l its.toArray n b its2.toArray n2 hlong (by rw[List.size_toArray];(first|lia|omega)) (by (first|lia|omega))) ⟨e,e2, ?_⟩
 refine⟨.non,_,I.lset (its':=its++its2) hH e (by simp) (r.append r2) ?_,rfl,q⟩
 rw[List.length_append]
 (first|lia|omega)
noncomputable def zhI:V->List V->Hp->VK->Prop:=fun x vs H Q=>∃l xs i k y,x=.ref l/\vs=[.int i]/\H l=some (.lst xs)/\-(2^63)<=i/\i<2^63/\seqIndex? i xs.length=some k/\xs[k]? =some y/\Q y (upd H l (.lst (xs.eraseIdx k)))
theorem zf2:MtM X "list.pop" zhI:=by
 intro pins s σ H x vs v us Q I rx rv h
 obtain⟨l,xs,i,k,y,rfl,rfl,hH,h1,h2,hk,hy,q⟩:=h
 cases rx
 obtain⟨u,rfl,ru⟩:=rv.one
 obtain⟨t,rfl⟩:=ru
 obtain⟨z,its,n,r,hl,e⟩:=I.lstM hH
 obtain⟨w,hw,rw'⟩:=r.get hy
 refine call_meets F.slot_list_pop ⟨_,e,rfl⟩ F.entry_list_pop (F.args_list_pop_2 _ _)
  (MeetsSeq.list_pop_at l its.toArray n i t k w (fitsIndex_both h1 h2) (by rw[List.size_toArray,<-hl];exact hk) (by rw[<-Array.getElem?_toList];exact hw) (by rw[List.size_toArray];(first|lia|omega))) ⟨e, ?_⟩
 refine⟨y,_,I.lset (its':=its.eraseIdx k) hH e ?_ (r.eraseIdx k) ?_,rw',q⟩
 ·show its.toArray.eraseIdxIfInBounds k=(its.eraseIdx k).toArray
  rw[List.eraseIdxIfInBounds_toArray]
 ·have:=zdr xs k
  (first|lia|omega)
noncomputable def rCat:R2:=fun x y H Q=>∃l b xs zs,x=.ref l/\y=.ref b/\H l=some (.lst xs)/\H b=some (.lst zs)/\xs.length+zs.length<=sizeLine/\∀p,H p=none->Q (.ref p) (upd H p (.lst (xs++zs)))
theorem zff:OpR X (binaryOp .Add) rCat:=by
 intro pins s σ H x y v u Q I rx ry h
 obtain⟨l,b,xs,zs,rfl,rfl,hH,hB,hz,q⟩:=h
 cases rx
 cases ry
 obtain⟨z,its,n,r,hl,e⟩:=I.lstM hH
 obtain⟨z2,its2,n2,r2,hl2,e2⟩:=I.lstM hB
 refine PySem.P.add_list e e2 ?_ (by rw[List.size_toArray,List.size_toArray];(first|lia|omega))
 have ea:its.toArray++its2.toArray=(its++its2).toArray:=by simp
 rw[ea]
 exact⟨.ref _,_,I.lnew (t':=s.toks) (r.append r2) (by rw[List.length_append];(first|lia|omega)),rfl,q _ I.fresh⟩
noncomputable def rRep:R2:=fun x y H Q=>∃l k xs,x=.ref l/\y=.int k/\H l=some (.lst xs)/\-(2^63)<=k/\k<2^63/\xs.length*k.toNat<=sizeLine/\
 ∀p,H p=none->Q (.ref p) (upd H p (.lst (List.replicate k.toNat xs).flatten))
theorem zgV {α:Type}(xs:List α)(k:Nat):(List.replicate k xs).flatten.length=k*xs.length:=by
 induction k with
 |zero=>simp
 |succ k ih=>rw[List.replicate_succ,List.flatten_cons,List.length_append,ih,Nat.succ_mul,Nat.add_comm]
theorem zei:OpR X (binaryOp .Mult) rRep:=by
 intro pins s σ H x y v u Q I rx ry h
 obtain⟨l,k,xs,rfl,rfl,hH,h1,h2,hz,q⟩:=h
 cases rx
 obtain⟨t,rfl⟩:=ry
 obtain⟨z,its,n,r,hl,e⟩:=I.lstM hH
 have hlen:its.toArray.size*k.toNat<=sizeLine:=by rw[List.size_toArray,<-hl];exact hz
 have hcap:¬its.toArray.size*k.toNat>(2^63-1)/8:=by
  have:(sizeLine:Nat)<=(2^63-1)/8:=by decide
  (first|lia|omega)
 have hfit:¬(!Builtin.List.listFitsIndex k)=true:=by
  rw[fitsIndex_both h1 h2]
  exact Bool.false_ne_true
 have hlong:¬Builtin.List.listTooLong (its.toArray.size*k.toNat)=true:=by
  rw[zeh hlen]
  exact Bool.false_ne_true
 have hnew:List.foldl (fun x1 x2=>x1++x2) #[] (List.replicate (if its.toArray.isEmpty=true then 0 else k.toNat) its.toArray)=(List.replicate k.toNat its).flatten.toArray:=by
  have f0:∀m:Nat,List.foldl (fun x1 x2=>x1++x2) #[] (List.replicate m its.toArray)=(List.replicate m its).flatten.toArray:=fun m=>by
   have:=zds its m []
   rw[List.nil_append] at this
   exact this
  rw[f0]
  cases its with
  |nil=>simp
  |cons a r'=>rw[if_neg (by simp)]
 refine wpAny_binaryOp_repeat_ref (T:= "list") (U:= "int") (by decide) ⟨_,e,rfl⟩ (fun s'=>typeIs_int s' k t) noFill_list_mul F.fills_int_mul F.slot_int_rmul repeat_list F.slot_int_index.lookup
  (call_meets F.slot_int_rmul (typeIs_int s k t) F.entry_int_rmul (F.args_int_rmul_2 _ _) (int___rmul___int_list k t l its.toArray n)
   ⟨e,rfl,⟨_,e,rfl⟩,call_meets F.slot_list_mul ⟨_,e,rfl⟩ F.entry_list_mul (F.args_list_mul_2 _ _) (AutoListH.list___mul___list_int_3 l its.toArray n k t hfit hcap hlong) ⟨e, ?_⟩⟩)
 rw[hnew]
 exact⟨.ref _,_,I.lnew (t':=s.toks) (r.rep k.toNat) (by rw[zgV,Nat.mul_comm];exact hz),rfl,q _ I.fresh⟩
end
section
variable {prog:Program}{w:World}{A:Around}{E:Value->Shared->Prop}{s:Shared}
end
section
variable {X:Cx}
end
end L2
namespace Att
open PySem PySem.W PySem.Calls PyProof.Rows
theorem zcw {P:Params}{h:Heap}:∀(ns:List Int) (vs:List Value),WellAll P h vs (ns.map WData.int)->IntsAre vs ns:=by
 intro ns
 induction ns with
 |nil=>
  intro vs w
  rw[List.map_nil] at w
  cases w
  exact .nil
 | cons n ns ih=>
  intro vs w
  rw[List.map_cons] at w
  cases w with
  |cons a b=>
   cases a
   exact .cons _ _ (ih _ b)
theorem zfg {l:OpenLaw}{n:Nat}(hn:l.most=some n){P:Params}{h:Heap}{args:List WData}{vals:List Value}
  (hpre:l.row.toRowW.claim.pre args=true) (hwl:WellAll P h vals args):
  ∃a vs ns,vals=[Value.ref a]/\args=[WData.list (ns.map WData.int)]/\h.get? a=some {cls:=.type "list",data:=.seq vs.toArray}/\IntsAre vs ns/\ns.length<=n:=by
 have hsh:WShape.hasAll [] args [.list .int]=true:=(pre_splitW hpre).1
 have hc:l.pre.holds [] {args:=args}=true:=(pre_splitW hpre).2
 obtain⟨d,r,rfl,h1,h2⟩:=hasAllW_cons hsh
 obtain rfl:=hasAllW_nil h2
 obtain⟨xs,rfl,h3⟩:=hasW_list h1
 obtain⟨ns,rfl⟩:=items_int h3
 have hlen:ns.length<=n:=by
  unfold OpenLaw.pre at hc
  have h4:(WTm.not (.lt (.lit (.int (n:Int))) (.len (.arg 0)))).holds [] {args:=[.list (ns.map .int)]}=true:=by
   have h4:=(holds_andW hc).1
   rw[hn] at h4
   exact h4
  have h5:=condW_of h4 (w_not (w_lt w_lit (w_len_list (w_arg rfl))))
  rw[List.length_map] at h5
  refine Nat.le_of_not_lt fun q=> ?_
  have q':(n:Int)<((ns.length:Nat):Int):=by (first|lia|omega)
  first
   |(rw[decide_eq_true q'] at h5;exact absurd h5 (by decide))
   |(simp at h5;(first|lia|omega))
 cases hwl with
 |cons w1 w2=>
  cases w2
  cases w1 with
  |list ho hall=>exact⟨_,_,ns,rfl,rfl,ho,zcw ns _ hall,hlen⟩
theorem zfh (l:OpenLaw)(args:List WData):l.row.toRowW.claim.post args (.bool true) args=true:=
 postW_of (r:=l.row.toRowW) (X:=(true==true))
  (show WShape.has [] (.bool true) .bool=true by first|rfl|decide|simp[WShape.has,WShape.arms,WShape.armsAll])
  (show (WTm.eq .res (.lit (.bool true))).value [] {args:=args,res:=some (.bool true),after:=args}=some (.bool (true==true)) from w_eq_bool (w_res rfl) w_lit) rfl
theorem attach_call {l:OpenLaw}{n:Nat}{q:Program}{loose:List Str}{XP:(Str->Option Value)->Heap->Prop}{YP:World->Heap->Prop}{d:DefRec}
  (hn:l.most=some n) (hdf:d.params.defaults=[])
  (call:∀(w:World) (s₀ s₁:Shared) (mg mb:Str->Option Value) (fa:Addr) (o:Obj) (pm cd doc:Value) (a:Addr) (vs:List Value) (ns:List Int),
   Ground q loose [] XP w s₀ mg mb s₁.heap->YP w s₁.heap->
   s₁.heap.get? fa=some o->o.data=.func (docDef d.name d.params d.body d.scope pm cd doc)->s₁.heap.CodeRec cd d.name->mg d.name=some (.ref fa)->
   s₁.heap.get? a=some {cls:=.type "list",data:=.seq vs.toArray}->IntsAre vs ns->ns.length<=n->s₁.gens=#[]->
   codeAny (model l.prog w) callerA (.call (.ref fa) ⟨[.ref a],[]⟩) (fun r s'=>r=.ok (.ret (.bool true))/\OldK s₁.heap s'.heap/\s'.os=s₁.os/\AllBare s'.gens) s₁):
  WalkO q loose XP YP l.row.toRowW d [] (fun f vs=>PySem.call f vs):=by
 intro w s₀ s₁ mg mb G Y fa o pm cd doc dV kV ho hd hcd hD hmg hg args vals as hpre hlay hrd hwl hlo
 obtain rfl:dV=.none:=Dflts.none hD hdf
 obtain rfl:kV=.none:=Dflts.noKw hD
 obtain⟨a,vs,ns,rfl,rfl,hobj,hints,hlen⟩:=zfg hn hpre hwl
 refine enter_call (codeAny_mono (call w s₀ s₁ mg mb fa o pm cd doc a vs ns G Y ho (fd_plain hd) hcd hmg hobj hints hlen hg) fun r s' hq=> ?_)
 obtain⟨rfl,h2,h3,h4⟩:=hq
 exact⟨.inl ⟨.bool true,.bool true,[],rfl,fun _=>rfl,.bool true,zfh l _,fun _=>⟨List.Pairwise.nil,fun _ hm=>(nomatch hm)⟩⟩,h2,h3,h4⟩
section
variable {prog:Program}{w:World}{A:Around}{E:Value->Shared->Prop}{s:Shared}{K:Frag}
end
end Att
namespace L2
open PySem PySem.Spec PyProof.Rows
theorem zdt:∀{vs:List Value} {ns:List Int},IntsAre vs ns->Vals (ns.map V.int) vs
 |_,_,.nil=>.nil
 |_,_,.cons n t h=>.cons ⟨t,rfl⟩ (zdt h)
noncomputable def Only (H:Hp):Prop:=∀b,H b=none∨∃o xs,H b=some (.frz o (.lst xs))
theorem zf3 {P:Program}{w:World}{K:PySem.W.Frag}{mg mb:Str->Option Value}{CX:CXT}{k:Nat}{fa a:Addr}{fd:FuncData}{x:Str}{sp:Sp}{s₁:Shared}{vs:List Value}{ns:List Int}
  (KX:K.In s₁.heap) (hns:s₁.heap.Ns mainGlobals mg) (hb:s₁.heap.Ns builtinsNs mb) (hbb:∀x:Str,x≠ "__name__" ->mb x=bootBuiltins x) (hlim:s₁.heap.NoLimit) (hg:s₁.gens=#[])
  (ha:s₁.heap.get? a=some {cls:=.type "list",data:=.seq vs.toArray}) (hi:IntsAre vs ns) (hl:ns.length<=sizeLine) (hr:Room k callerA)
  (F:∀base:Heap,K.In base->base.Ns mainGlobals mg->FnOk P w K mg base CX k fa fd [x] sp) (hbind:∀(s:Shared) (u:Value),BindsTo s fd ⟨[u],[]⟩ [(x,u)])
  (hsp:∀H:Hp,Only H->SqL K H a (ns.map V.int)->sp [.ref a] H (fun v _=>v=.bl true) fun _ _ _=>False)
  (hCX:∀H e s',CX [] H s₁ (fun _ _ _=>False) e s'->False):
  codeAny (model P w) callerA (.call (.ref fa) ⟨[.ref a],[]⟩) (fun r s'=>r=.ok (.ret (.bool true))/\OldK s₁.heap s'.heap/\s'.os=s₁.os/\AllBare s'.gens) s₁:=by
 have rv:=zdt hi
 have lenV:=hi.length
 have core:∀H:Hp,Only H->SqL K H a (ns.map V.int)->HOk P w H s₁.heap->(∀b,H b≠none->b=a)->(H a≠none->K.lookup a=none)->
   codeAny (model P w) callerA (.call (.ref fa) ⟨[.ref a],[]⟩) (fun r s'=>r=.ok (.ret (.bool true))/\OldK s₁.heap s'.heap/\s'.os=s₁.os/\AllBare s'.gens) s₁:=by
  intro H hO hS hok hA hK
  have base_of:∀{b:Addr} {o:Obj},s₁.heap.get? b=some o->H b=none->(hidT s₁.heap H).get? b=some o:=fun e n=>zfW e n
  have noA:∀{b:Addr} {o:Obj} {es:Array DictEntry} {ep:Nat},s₁.heap.get? b=some o->o.data=.dict es ep->H b=none:=fun {b o es ep} e d=>by
   cases q:H b with
   |none=>rfl
   |some u=>
    have e':b=a:=hA b (by rw[q];simp)
    subst e'
    rw[ha] at e;cases e
    have d':Data.seq vs.toArray _=Data.dict es ep:=d
    cases d'
  have nsK:∀{b:Addr} {m:Str->Option Value},s₁.heap.Ns b m->(hidT s₁.heap H).Ns b m:=fun {b m} ⟨o,es,ep,e,d,r⟩=>⟨o,es,ep,base_of e (noA e d),d,r⟩
  have hKb:K.In (hidT s₁.heap H):=fun b o e=>base_of (KX b o e) (by
   cases q:H b with
   |none=>rfl
   |some u=>
    have e':b=a:=hA b (by rw[q];simp)
    subst e'
    rw[hK (by rw[q];simp)] at e;cases e)
  have hM:Mod K mg (hidT s₁.heap H):=⟨hKb,nsK hns,⟨mb,nsK hb,hbb⟩,let ⟨mc,h1,h2⟩:=hlim;⟨mc,nsK h1,h2⟩⟩
  have e0:Env0 P w K mg (hidT s₁.heap H) callerA [] s₁ H:=⟨rfl,hM,fun b o e=>zgK e,Nat.le_of_eq (zeU _ _),trivial,fun b hb=>absurd (show b∈([]:List Addr) from hb) (by simp),hok,.of_eq hg⟩
  refine codeAny_mono ((F _ hKb (nsK hns)).run callerA [] s₁ H ⟨[.ref a],[]⟩ [.ref a] [.ref a] _ _ hr e0 (hbind s₁ (.ref a)) (.cons rfl .nil) (hsp H hO hS)) fun r s' h=> ?_
  cases r with
  |error e=>exact (hCX H e s' h).elim
  | ok fl=>
   cases fl with
   |next=>exact False.elim h
   |brk=>exact False.elim h
   |cont=>exact False.elim h
   | ret u=>
    obtain⟨v,H',os,bare,un,hok',r',q⟩:=h
    have q':v=.bl true:=q
    subst q'
    obtain rfl:u=Value.bool true:=r'
    refine⟨rfl,OldK.of_keep fun b o e=> ?_,os,bare⟩
    cases q:H b with
    |none=>exact un.keep b o e q (by intro z;exact absurd (show b∈([]:List Addr) from z) (by simp)) (by simp)
    | some u=>
     rcases hO b with z|⟨ob,xs,z⟩
     ·rw[q] at z;cases z
     ·have z2:=un.frzs b ob _ z
      obtain⟨e1,_⟩:=hok b _ z
      obtain⟨e2,_⟩:=hok' b _ z2
      rw[e] at e1;cases e1
      exact e2
 cases hk:K.lookup a with
 |some o=>
  have e:=KX a o hk
  rw[ha] at e
  cases e
  refine core (fun _=>none) (fun _=>.inl rfl) (.inr ⟨_,vs.toArray,_,hk,rfl,rfl,rfl,by rw[List.size_toArray,lenV];exact hl,by simpa using rv⟩) (fun b u z=>by have z':(none:Option HO)=some u:=z;cases z') (fun b z=>absurd rfl z) fun z=>absurd rfl z
 | none=>
  refine core (fun b=>if b=a then some (.frz {cls:=.type "list",data:=.seq vs.toArray} (.lst (ns.map V.int))) else none) (fun b=> ?_) (.inl (.inr ⟨{cls:=.type "list",data:=.seq vs.toArray},if_pos rfl⟩)) (fun b u z=> ?_) (fun b z=> ?_) fun _=>hk
  ·by_cases hb:b=a
   ·exact .inr ⟨_,_,if_pos hb⟩
   ·exact .inl (if_neg hb)
  ·by_cases hb:b=a
   ·have z':=(if_pos hb).symm.trans z
    cases z'
    subst hb
    exact⟨ha,by rw[List.length_map];exact hl,vs,_,rv,ha⟩
   ·have z':=(if_neg hb).symm.trans z
    cases z'
  ·by_cases hb:b=a
   ·exact hb
   ·exact absurd (if_neg hb) z
theorem zgW {l:PySem.W.OpenLaw}{n k:Nat}{q:Program}{loose:List Str}{XP:(Str->Option Value)->Heap->Prop}{YP:World->Heap->Prop}{d:DefRec}{K:Params->PySem.W.Frag}{CX:World->CXT}{sp:World->Sp}{x:Str}
  (hn:l.most=some n) (hn2:n<=sizeLine) (hdf:d.params.defaults=[]) (hr:Room k callerA)
  (hY:∀(w:World) (h:Heap),YP w h->(K w.params).In h)
  (F:∀(w:World) (mg:Str->Option Value) (fa:Addr) (h:Heap),(K w.params).In h->h.Ns mainGlobals mg->mg d.name=some (.ref fa)->
   ∃fd:FuncData,(∀(s:Shared) (u:Value),BindsTo s fd ⟨[u],[]⟩ [(x,u)])/\
    ∀base:Heap,(K w.params).In base->base.Ns mainGlobals mg->FnOk l.prog w (K w.params) mg base (CX w) k fa fd [x] (sp w))
  (hsp:∀(w:World) (H:Hp) (a:Addr) (ns:List Int),ns.length<=n->Only H->SqL (K w.params) H a (ns.map V.int)->sp w [.ref a] H (fun v _=>v=.bl true) fun _ _ _=>False)
  (hCX:∀(w:World) (H:Hp) (s:Shared) (e:Value) (s':Shared),CX w [] H s (fun _ _ _=>False) e s'->False):
  PySem.W.WalkO q loose XP YP l.row.toRowW d [] (fun f vs=>PySem.call f vs):=by
 refine Att.attach_call hn hdf fun w s₀ s₁ mg mb fa o pm cd doc a vs ns G Y ho hd hcd hmg hobj hints hlen hg=> ?_
 have KX:=hY w _ Y
 obtain⟨fd,hb,hF⟩:=F w mg fa _ KX G.T.g hmg
 exact zf3 KX G.T.g G.T.b G.T.builtins G.T.nolimit hg hobj hints (Nat.le_trans hlen hn2) hr hF hb (fun H hO hS=>hsp w H a ns hlen hO hS) fun H e s'=>hCX w H s₁ e s'
noncomputable def zbe (s:Stmt):Arguments:=match s with
 | .FunctionDef _ a _ _ _ _ _ _ _ _=>a
 |_=>{posonlyargs:=[],args:=[],vararg:=none,kwonlyargs:=[],kw_defaults:=[],kwarg:=none,defaults:=[]}
noncomputable def zaO (s:Stmt):List Stmt:=match s with
 | .FunctionDef _ _ b _ _ _ _ _ _ _=>b
 |_=>[]
noncomputable def zag (s:Stmt):Scope:=match s with
 | .FunctionDef _ _ _ _ _ _ sc _ _ _=>sc
 |_=>{kind:=.function,names:=[],isGenerator:=false,isCoroutine:=false}
noncomputable abbrev CX0:CXT:=fun _ _ _ _ _ _=>False
noncomputable abbrev E0:XK:=fun _ _ _=>False
theorem zhJ {X:Cx}:ze6 CX0 X E0:=fun _ _ _ _ _ _ _ h=>h.elim
structure Fun (K:PySem.W.Frag) (x qual:Str) (st:Stmt) (f:Addr) (fd:FuncData):Prop where
 ex:∃(oc:Value) (od:Option Addr) (kV doc pm:Value) (an:Option Addr) (cdv ct:Value) (osl:Array (Option Value)),
  fd=PySem.W.fnOf x qual (zbe st) (zaO st) (zag st) .none kV doc pm an cdv ct/\K.lookup f=some ⟨oc,od,.func fd,osl⟩/\PySem.W.codeIn K cdv qual=true
 kp:PySem.W.keepIn K (.ref f)=true
section
variable {P:Program}{w:World}{K:PySem.W.Frag}{mg:Str->Option Value}{base:Heap}
theorem Fun.ok {x qual:Str}{st:Stmt}{f:Addr}{fd:FuncData}{N ps:List Str}{k:Nat}{sp:Sp}(F:Fun K x qual st f fd)(S:FnScope N ps (zag st))(len:∀vs H Q E,sp vs H Q E->vs.length=ps.length)
  (hbody:∀(cdv:Value) (A:Around) (outer:List Env) (s:Shared) (H:Hp) (vs:List V) (Q:VK) (E:XK),Room k (A.deeper (envOfC qual (zag st) s.heap.objs.size f cdv))->sp vs H Q E->
   ∃t,PSs (cxOf CX0 P w K mg base N qual (zag st) f cdv A outer s H E).nox (zaO st) t/\t {nx:=fun _ H'=>Q .non H',rt:=Q} (zdp N vs) H):FnOk P w K mg base CX0 (k+1) f fd ps sp:=by
 obtain⟨oc,od,kV,doc,pm,an,cdv,ct,osl,rfl,lk,hcd⟩:=F.ex
 refine zio lk hcd S len fun A outer s H vs Q E hr hsp=> ?_
 obtain⟨t,h,q⟩:=hbody cdv A outer s H vs Q E hr hsp
 exact⟨t,h.nox,q⟩
theorem Fun.binds {x qual:Str}{st:Stmt}{f:Addr}{fd:FuncData}{ps:List Str}(F:Fun K x qual st f fd)
  (h:∀(kV doc pm:Value) (an:Option Addr) (cdv ct:Value) (us:List Value),us.length=ps.length->bindArgs (PySem.W.fnOf x qual (zbe st) (zaO st) (zag st) .none kV doc pm an cdv ct) ⟨us,[]⟩=pure (ps.zip us)):Binds K fd ps []:=by
 obtain⟨oc,od,kV,doc,pm,an,cdv,ct,osl,rfl,lk,hcd⟩:=F.ex
 exact .all (h kV doc pm an cdv ct)
theorem zhK {x qual:Str}{st:Stmt}{f:Addr}{oc:Value}{od an:Option Addr}{osl:Array (Option Value)}{kV doc pm cdv ct:Value}(l:K.lookup f=some ⟨oc,od,.func (PySem.W.fnOf x qual (zbe st) (zaO st) (zag st) .none kV doc pm an cdv ct),osl⟩)
  (c:PySem.W.codeIn K cdv qual=true) (k:PySem.W.keepIn K (.ref f)=true):Fun K x qual st f (PySem.W.fnOf x qual (zbe st) (zaO st) (zag st) .none kV doc pm an cdv ct):=⟨⟨oc,od,kV,doc,pm,an,cdv,ct,osl,rfl,l,c⟩,k⟩
end
theorem zf4 {A:Around}{k:Nat}(hr:Room k A):A.units+1<cLine:=Nat.lt_of_le_of_lt (Nat.add_le_add_left (by decide:1<=64) _) hr.units
section
variable {X:Cx}
theorem pv (i:Nat){x:Str}{pos:Pos}(hN:X.N[i]? =some x:=by rfl)(hv:Vis X.env.scope x:=by first|exact Or.inl rfl|exact Or.inr (Or.inl rfl)|exact Or.inr (Or.inr rfl))(hd:(x==("__debug__" :Str))=false:=by decide)
  (hcd:(x==("__classdict__" :Str))=false:=by decide):PE X (.Name x pos) (tVar i):=zhv hN hv hd hcd
end
theorem iteF {A B:Prop}(h:B):if false=true then A else B:=by
 rw[if_neg Bool.false_ne_true]
 exact h
theorem iteT {A B:Prop}(h:A):if true=true then A else B:=by
 rw[if_pos rfl]
 exact h
theorem ite2 {c A B:Prop}[Decidable c](h1:c->A)(h2:¬c->B):if c then A else B:=by
 by_cases h:c
 ·rw [if_pos h]
  exact h1 h
 ·rw [if_neg h]
  exact h2 h
theorem zis {c A B:Prop}[Decidable c](hc:c)(h:B):if (!decide c)=true then A else B:=by
 rw[decide_eq_true hc]
 exact iteF h
noncomputable def Same (H H':Hp):Prop:=∀b o,H b=some o->H' b=some o
theorem Same.refl (H:Hp):Same H H:=fun _ _ h=>h
theorem Same.trans {H H1 H2:Hp}(a:Same H H1)(b:Same H1 H2):Same H H2:=fun c o h=>b c o (a c o h)
theorem Same.free {H H':Hp}(e:Same H H'){l:Addr}(h:H' l=Option.none):H l=Option.none:=by
 cases q:H l with
 |none=>rfl
 |some o=>
  rw[e l o q] at h
  cases h
theorem Same.seq {K:PySem.W.Frag}{H H':Hp}{a:Addr}{xs:List V}(e:Same H H')(h:SqL K H a xs):SqL K H' a xs:=by
 rcases h with (h|⟨o,h⟩)|h
 ·exact .inl (.inl (e _ _ h))
 ·exact .inl (.inr ⟨o,e _ _ h⟩)
 ·exact .inr h
theorem zb2 {env:Env}{scope:Scope}(h:∀y∈scope.names,y.2=.free->∃c,env.cells.lookup y.1=some c):
  ∃cl,closureFor scope env=pure cl/\(∀x c,cl.lookup x=some c->env.cells.lookup x=some c)/\∀y∈scope.names,y.2=.free->cl.lookup y.1=env.cells.lookup y.1:=by
 have go:∀(names:List (Str×NameKind)) (acc:List (Str×Addr)),(∀y∈names,y.2=.free->∃c,env.cells.lookup y.1=some c)->
   (∀x c,acc.lookup x=some c->env.cells.lookup x=some c)->
   ∃cl,(forIn names acc (fun (y:Str×NameKind) (cs:List (Str×Addr))=>if (y.2==.free)=true then (do let c<-cellOf env y.1;pure (ForInStep.yield ((y.1,c)::cs))) else pure (ForInStep.yield cs)):Sem (List (Str×Addr)))=pure cl/\
    (∀x c,cl.lookup x=some c->env.cells.lookup x=some c)/\(∀x c,acc.lookup x=some c->cl.lookup x=some c)/\∀y∈names,y.2=.free->cl.lookup y.1=env.cells.lookup y.1:=by
  intro names
  induction names with
  |nil=>intro acc _ ha;exact⟨acc,rfl,ha,fun _ _ h=>h,fun y hy=>nomatch hy⟩
  | cons y r ih=>
   intro acc hn ha
   obtain⟨n,k⟩:=y
   by_cases hk:k=.free
   ·subst hk
    obtain⟨c,hc⟩:=hn (n,.free) List.mem_cons_self rfl
    have ha':∀x d,(((n,c)::acc:List (Str×Addr))).lookup x=some d->env.cells.lookup x=some d:=fun x d e=>by
     rw[List.lookup_cons] at e
     cases hx:x==n with
     |true=>
      rw[hx] at e
      have e1:x=n:=eq_of_beq hx
      subst e1
      cases e
      exact hc
     |false=>rw[hx] at e;exact ha x d e
    obtain⟨cl,e,h1,h2,h3⟩:=ih ((n,c)::acc) (fun y hy=>hn y (List.mem_cons_of_mem _ hy)) ha'
    refine⟨cl, ?_,h1,fun x d e=> ?_,fun y hy hf=> ?_⟩
    ·rw [List.forIn_cons]
     have ec:cellOf env n=pure c:=by unfold cellOf;rw[hc]
     simp only[beq_self_eq_true,if_true]
     rw[ec]
     exact e
    ·have e':=ha x d e
     by_cases hx:x=n
     ·subst hx
      rw[hc] at e';cases e'
      exact h2 x c (by rw[List.lookup_cons];simp)
     ·exact h2 x d (by rw[List.lookup_cons,beq_eq_false_iff_ne.mpr hx];exact e)
    ·rcases List.mem_cons.mp hy with rfl|hy
     ·show cl.lookup n=env.cells.lookup n
      rw[hc]
      exact h2 n c (by rw[List.lookup_cons];simp)
     ·exact h3 y hy hf
   ·obtain ⟨cl,e,h1,h2,h3⟩:=ih acc (fun y hy=>hn y (List.mem_cons_of_mem _ hy)) ha
    refine⟨cl, ?_,h1,h2,fun y hy hf=> ?_⟩
    ·rw [List.forIn_cons]
     have:(k==NameKind.free)=false:=by simpa using hk
     simp only[this,Bool.false_eq_true,if_false]
     exact e
    ·rcases List.mem_cons.mp hy with rfl|hy
     ·exact absurd hf hk
     ·exact h3 y hy hf
 obtain⟨cl,e,h1,_,h3⟩:=go scope.names [] h (fun x c e=>by simp at e)
 refine⟨cl, ?_,h1,h3⟩
 unfold closureFor
 exact (congrArg (fun m=>m >>= fun r=>pure r) e).trans rfl
noncomputable def za2 (n:Nat)(ix:List Nat)(σ:St):St:=List.replicate n none++ix.map fun i=>σ.getD i none
noncomputable def Cx.comp (X:Cx)(s₂:Shared)(H₂:Hp)(N':List Str)(scope:Scope)(cl:List (Str×Addr))(C:Addr)(fp:List Addr):Cx:=
 {X with N:=N',s₀:=s₂,H₀:=H₂,env:=compEnvC scope cl C X.env,outer:=X.stack,stack:=X.stack,ex:=fp,fn:=fun _=>false,pn:=[],xe:=fun _ _=>False}
structure CompScope (X:Cx) (scope:Scope) (N':List Str) (n:Nat) (ix:List Nat):Prop where
 kind:scope.kind=.function
 nocell:∀y∈scope.names,y.2≠.cell
 names:∀y∈scope.names,y.2=.local->scope.names.lookup y.1=some .local
 free:∀y∈scope.names,y.2=.free->X.env.scope.names.lookup y.1=some .cell∨X.env.scope.names.lookup y.1=some .free
 nodup:∀y:Str,(y,NameKind.free)∈scope.names->scope.names.lookup y=some .local->False
 len:N'.length=n+ix.length
 at_:∀(j i:Nat),ix[j]? =some i->∃x,N'[n+j]? =some x/\X.N[i]? =some x/\(x,NameKind.free)∈scope.names
theorem zaG {env:Env}{scope:Scope}(x:Str):(relabel scope env).names.lookup x=(scope.names.lookup x).map fun k=>if (k==.free&&env.scope.kind==.function&&env.kindOf x==some .cell) then .cell else k:=by
 show (scope.names.map fun (n,k)=>if (k==NameKind.free&&env.scope.kind==.function&&env.kindOf n==some .cell) then (n,NameKind.cell) else (n,k)).lookup x=_
 generalize scope.names=l
 induction l with
 |nil=>rfl
 | cons y r ih=>
  obtain⟨n,k⟩:=y
  rw[List.map_cons,List.lookup_cons]
  cases hx:x==n with
  | true=>
   have e:x=n:=eq_of_beq hx
   subst e
   by_cases hc:(k==NameKind.free&&env.scope.kind==.function&&env.kindOf x==some .cell)=true
   ·rw [if_pos hc,List.lookup_cons]
    simp only[beq_self_eq_true]
    show some NameKind.cell=some (ite _ _ _)
    rw[if_pos hc]
   ·rw [if_neg hc,List.lookup_cons]
    simp only[beq_self_eq_true]
    show some k=some (ite _ _ _)
    rw[if_neg hc]
  |false=>
   by_cases hc:(k==NameKind.free&&env.scope.kind==.function&&env.kindOf n==some .cell)=true
   ·rw[if_pos hc,List.lookup_cons,hx];exact ih
   ·rw[if_neg hc,List.lookup_cons,hx];exact ih
section
variable {X:Cx}{pins:List (Addr×Obj)}{σ:St}{H:Hp}{s:Shared}
theorem zcb {env:Env}{scope:Scope}{x:Str}(h:scope.names.lookup x=some .free):(relabel scope env).names.lookup x=some .cell∨(relabel scope env).names.lookup x=some .free:=by
 rw[zaG,h]
 by_cases hc:(NameKind.free==NameKind.free&&env.scope.kind==.function&&env.kindOf x==some .cell)=true
 ·exact .inl (by show some (ite _ _ _)=_;rw[if_pos hc])
 ·exact .inr (by show some (ite _ _ _)=_;rw[if_neg hc])
theorem zeN {env:Env}{scope:Scope}{x:Str}(hn:∀y∈scope.names,y.2≠.cell)(h:(relabel scope env).names.lookup x=some .cell∨(relabel scope env).names.lookup x=some .free):scope.names.lookup x=some .free:=by
 rw[zaG] at h
 cases e:scope.names.lookup x with
 |none=>rw[e] at h;rcases h with h|h<;>cases h
 | some k=>
  rw[e] at h
  have hk:=hn _ (PySem.mem_of_lookup e)
  by_cases hf:k=.free
  ·rw[hf]
  ·have hb:(k==NameKind.free)=false:=by simpa using hf
   have hr:Option.map (fun k=>if (k==NameKind.free&&env.scope.kind==.function&&env.kindOf x==some .cell)=true then NameKind.cell else k) (some k)=some k:=by
    show some (ite _ _ _)=_
    rw[if_neg (by rw[hb];simp)]
   rw[hr] at h
   rcases h with h|h
   ·cases h;exact absurd rfl hk
   ·exact h
theorem zf5 {scope:Scope}{N':List Str}{n:Nat}{ix:List Nat}{cl:List (Str×Addr)}{fp:List Addr}{h₁:Heap}{acc C:Addr}{na:Nat}{m:Str->Option Value}{tk:Nat}
  (I:Inv X pins σ H s) (S:CompScope X scope N' n ix) (hcl1:∀x c,cl.lookup x=some c->X.env.cells.lookup x=some c) (hcl2:∀y∈scope.names,y.2=.free->cl.lookup y.1=X.env.cells.lookup y.1)
  (hf:∀b∈fp,FpOk X pins H b) (hlt:∀b∈fp,b<s.heap.objs.size) (ha:s.heap.objs.size<=acc) (hC:s.heap.objs.size<=C) (hne:C≠acc)
  (k:∀b u,s.heap.get? b=some u->h₁.get? b=some u) (hacc:h₁.get? acc=some {cls:=.type "list",data:=.seq ([]:List Value).toArray na}) (hns:h₁.Ns C m):
  Inv (X.comp s H N' scope cl C fp) [] (za2 n ix σ) (upd H acc (.lst [])) {s with heap:=h₁,toks:=tk}:=by
 have fr:∀b:Addr,s.heap.objs.size<=b->H b=none:=fun b hb=>I.hok.fresh hb
 have cellLt:∀x c,cl.lookup x=some c->c<s.heap.objs.size:=fun x c e=>by
  obtain⟨v,q⟩:=I.cell x c (hcl1 x c e)
  exact q.lt
 refine⟨⟨I.ok.mod,S.kind,I.ok.glob,I.ok.blt,hC,fun x y c e1 e2=>I.ok.inj x y c (hcl1 x c e1) (hcl1 y c e2),fun x hx=> ?_,fun x c e _=>absurd e Bool.false_ne_true,I.ok.hd,I.ok.frames,.inl rfl,fun b hb=>⟨Nat.ne_of_lt (Nat.lt_of_lt_of_le (hlt b hb) hC),fun x c e=>(hf b hb).2.2.2.2.1 x c (hcl1 x c e)⟩,
   I.bs,Nat.le_trans I.ok.bsz I.sz,fun b o e hb=> ?_,fun b hb hs=> ?_,I.stack,I.stkFree⟩,
  rfl,I.bare,Un.laid k ha (fr acc ha),⟨m,hns,fun i x v e1 e2 e3=> ?_⟩,fun x c e=> ?_, ?_,fun x c e=> ?_,fun p hp=>absurd (show p∈([]:List (Addr×Obj)) from hp) (by simp),I.hok.laid k ha ⟨Nat.zero_le _,[],na,.nil,hacc⟩, ?_⟩
 ·have hx':scope.names.lookup x=some .free:=zeN (env:=X.env) S.nocell hx
  have hm:=PySem.mem_of_lookup hx'
  obtain⟨c,e⟩:=I.ok.has x (S.free _ hm rfl)
  exact⟨c,(hcl2 _ hm rfl).trans e⟩
 ·rcases (hf b hb).2.2.2.1 with z|z
  ·exact I.ok.noex b o e z
  ·exact absurd (Nat.lt_of_lt_of_le (Heap.lt_size e) (Nat.le_trans I.ok.bsz z)) (Nat.lt_irrefl _)
 ·rcases List.mem_cons.mp (I.stkSub b hs) with z|z
  ·exact (hf b hb).2.1 z
  ·exact (hf b hb).2.2.1 z
 ·-- a name of the frame,seen through its cell
  have hi:n<=i:=by
   by_cases hi:n<=i
   ·exact hi
   ·unfold za2 at e2
    rw[List.getElem?_append_left (by simp;(first|lia|omega)),List.getElem?_replicate] at e2
    split at e2<;>cases e2
  obtain⟨j,rfl⟩:∃j,i=n+j:=⟨i-n,by (first|lia|omega)⟩
  unfold za2 at e2
  rw[List.getElem?_append_right (by simp),List.length_replicate,Nat.add_sub_cancel_left,List.getElem?_map] at e2
  cases ej:ix[j]? with
  |none=>rw[ej] at e2;cases e2
  | some q=>
   rw[ej] at e2
   have e2':σ.getD q none=some v:=Option.some.inj e2
   have e2'':σ[q]? =some (some v):=by
    rw[List.getD_eq_getElem?_getD] at e2'
    cases eq:σ[q]? with
    |none=>rw[eq] at e2';cases e2'
    |some z=>rw[eq] at e2';exact congrArg some e2'
   obtain⟨y,h1,h2,h3⟩:=S.at_ j q ej
   have ey:y=x:=Option.some.inj (h1.symm.trans e1)
   subst ey
   have hk:=S.free _ h3 rfl
   obtain⟨mX,_,hl⟩:=I.loc
   obtain⟨u,r,l⟩:=hl q y v h2 e2'' (.inr hk)
   refine⟨u,r,.inr ?_⟩
   have hkc:X.env.kindOf y=some .cell∨X.env.kindOf y=some .free:=hk
   have l':∃c,X.env.cells.lookup y=some c/\s.heap.IsCell c (some u):=by
    rcases l with⟨z,_⟩|⟨_,c,ec,hc⟩
    ·rcases hkc with q|q<;>(rw[q] at z;cases z)
    ·exact⟨c,ec,hc⟩
   obtain⟨c,ec,o,ho,hd⟩:=l'
   have e3':Vis (relabel scope X.env) y:=e3
   refine⟨?_,c,(hcl2 _ h3 rfl).trans ec,o,k _ _ ho,hd⟩
   have nl:scope.names.lookup y≠some .local:=fun z=> ?_
   ·cases el:scope.names.lookup y with
    |none=>
     have:(relabel scope X.env).names.lookup y=none:=by rw[zaG,el];rfl
     rcases e3' with z|z|z<;>(rw[this] at z;cases z)
    | some kk=>
     have hmem:=PySem.mem_of_lookup el
     have ncell:=S.nocell _ hmem
     have hr:(relabel scope X.env).names.lookup y=some (if (kk==NameKind.free&&X.env.scope.kind==.function&&X.env.kindOf y==some .cell)=true then .cell else kk):=by rw[zaG,el];rfl
     by_cases hkf:kk=.free
     ·subst hkf
      exact zcb (env:=X.env) el
     ·have hb:(kk==NameKind.free)=false:=by simpa using hkf
      have hr':(relabel scope X.env).names.lookup y=some kk:=by rw[hr,hb];rfl
      rcases e3' with z|z|z
      ·rw[hr'] at z;cases z;exact absurd el nl
      ·rw[hr'] at z;cases z;exact absurd rfl ncell
      ·rw[hr'] at z;cases z;exact absurd rfl hkf
   ·exact S.nodup _ h3 z
 ·obtain ⟨v,o,ho,hd⟩:=I.cell x c (hcl1 x c e)
  exact⟨v,o,k _ _ ho,hd⟩
 ·show upd H acc (.lst []) C=none
  rw[zah hne];exact fr C hC
 ·show upd H acc (.lst []) c=none
  have:=cellLt x c e
  rw[zah (Nat.ne_of_lt (Nat.lt_of_lt_of_le this ha))]
  exact I.freeC x c (hcl1 x c e)
 ·show (za2 n ix σ).length=N'.length
  unfold za2
  rw[List.length_append,List.length_replicate,List.length_map,S.len]
end
noncomputable def Wk (σ σ':St):Prop:=σ.length=σ'.length/\∀(i:Nat) v,σ[i]? =some (some v)->σ'[i]? =some (some v)
noncomputable def PTs (Y:Cx)(ifs:List Expr)(t:TT):Prop:=
 ∀(pins:List (Addr×Obj)) (s:Shared) (σ:St) (H:Hp) (Q:Bool->Hp->Prop),Inv Y pins σ H s->t σ H Q->
  wpAny (model Y.prog Y.w) Y.A (forIn ifs true fun c r=>if r=true then do let ok<-isTrue c Y.env (eval c Y.env);pure (ForInStep.yield ok) else pure (ForInStep.yield r)) (TP Y pins σ Q) Y.xe s
noncomputable def zaZ:TT:=fun _ H Q=>Q true H
theorem zaX {Y:Cx}:PTs Y [] zaZ:=fun _ _ _ H _ I h=>wpAny_tests_nil ⟨H,I,h⟩
theorem zgX {Y:Cx}{c:Expr}{t:TT}(h:PT Y c t):PTs Y [c] t:=fun pins s σ H Q I q=>wpAny_tests_one (h pins s σ H Q I q)
theorem zcc {prog:Program}{w:World}{A:Around}{R:Result->Shared->Prop}{s:Shared}{elt target iter:Expr}{ifs:List Expr}{scope:Scope}{pos:Pos}{it acc:Value}{env:Env}(I:Nat->Shared->Prop)
  (turn:∀n s,I n s->wpAny (model prog w) A (pyNext it) (fun r s₁=>match r with
   |none=>R (.ok .next) s₁
   | some v=>wpAny (model prog w) A (letOwnedTupleGo target it v) (fun _ s₂=>wpAny (model prog w) A (assign target env v) (fun _ s₃=>
     wpAny (model prog w) A (forIn ifs true fun c r=>if r=true then do let ok<-isTrue c env (eval c env);pure (ForInStep.yield ok) else pure (ForInStep.yield r)) (fun ok s₄=>
      if ok=true then wpAny (model prog w) A (eval elt env) (fun x s₅=>
       wpAny (model prog w) A (call (.builtin "list.append") [acc,x]) (fun _ s₆=>∃m,m<n/\I m s₆) (fun _ _=>False) s₅) (fun _ _=>False) s₄
      else ∃m,m<n/\I m s₄) (fun _ _=>False) s₃) (fun _ _=>False) s₂) (fun _ _=>False) s₁) (fun _ _=>False) s)
  (n:Nat) (h:I n s):
  codeAny (model prog w) A (.compLoop (.ListComp elt [⟨target,iter,ifs,0⟩] scope pos) 0 it acc env) R s:=by
 refine codeAny_loop rfl I (fun n s hI=> ?_) n h
 show wpAny _ A ((compTurn (.ListComp elt [⟨target,iter,ifs,0⟩] scope pos) 0 it acc env).onRaise (fun x=>do noteFrame x env;theTreesLotGoes x)) _ _ s
 refine wpAny_noted (wpAny_noRaise ?_)
 rw[compTurn_list]
 refine wpAny_bind (wpAny_standAt (wpAny_bind (thn (turn n s hI) fun r s₁ h₁=> ?_)))
 cases r with
 |none=>exact wpAny_pure h₁
 |some v=>
  refine wpAny_bind (thn h₁ fun _ s₂ h₂=>wpAny_bind (thn h₂ fun _ s₃ h₃=>wpAny_bind (thn h₃ fun ok s₄ h₄=> ?_)))
  cases ok with
  |false=>exact wpAny_pure ⟨rfl,h₄⟩
  |true=>exact wpAny_bind (wpAny_bind (thn h₄ fun x s₅ h₅=>wpAny_bind (thn h₅ fun _ s₆ h₆=>wpAny_pure (wpAny_pure ⟨rfl,h₆⟩))))
noncomputable def LcW (J:It)(H1:Hp)(g:TG)(tt:TT)(te:TE)(n:Nat)(ix:List Nat)(σ:St)(Q:VK):Prop:=∀acc,H1 acc=none->
 ∃ W:Nat->Nat->Hp->Prop,(∃m,W 0 m (upd H1 acc (.lst [])))/\∀i m H,W i m H->
  (J.stop i H/\Q (.ref acc) H)∨(J.go i H/\∀x H',J.yld i H x H'->g x (za2 n ix σ) H' fun σ2 H2=>Wk (za2 n ix σ) σ2/\tt σ2 H2 fun b H3=>
   if b=true then te σ2 H3 fun v H4=>∃ys,H4 acc=some (.lst ys)/\ys.length<sizeLine/\∃m',m'<m/\W (i+1) m' (upd H4 acc (.lst (ys++[v])))
   else ∃m',m'<m/\W (i+1) m' H3)
noncomputable def tLc (wi:TI)(g:TG)(tt:TT)(te:TE)(n:Nat)(ix:List Nat):TE:=fun σ H Q=>wi σ H fun J H1=>LcW J H1 g tt te n ix σ Q
section
variable {X:Cx}{elt tg iter:Expr}{ifs:List Expr}{scope:Scope}{pos:Pos}{wi:TI}{g:TG}{tt:TT}{te:TE}{N':List Str}{n:Nat}{ix:List Nat}
theorem zfi {pins:List (Addr×Obj)}{σ:St}{H2:Hp}{s2:Shared}{cl:List (Str×Addr)}{it:Addr}{fp:List Addr}{tn:Nat->Heap->Prop}{J:It}{Q:VK}{R:Value->Addr->Result->Shared->Prop}
  (hc:X.calm=true) (S:CompScope X scope N' n ix)
  (hY:∀s₂ H₂ cl C fp,PG (X.comp s₂ H₂ N' scope cl C fp) tg g/\PTs (X.comp s₂ H₂ N' scope cl C fp) ifs tt/\PE (X.comp s₂ H₂ N' scope cl C fp) elt te)
  (I2:Inv X pins σ H2 s2) (hcl1:∀x c,cl.lookup x=some c->X.env.cells.lookup x=some c) (hcl2:∀y∈scope.names,y.2=.free->cl.lookup y.1=X.env.cells.lookup y.1)
  (T:Turn X.prog X.w X.K tg J fp it tn) (st2:tn 0 s2.heap) (f2:∀b∈fp,FpOk X pins H2 b)
  (hW:LcW J H2 g tt te n ix σ Q)
  (hR:∀acc C s' H' m,s'.heap.Ns C m->Inv X pins σ H' s'->H' C=none->C≠X.env.locals->(C∈X.ex∨X.s₀.heap.objs.size<=C)->(∀x c,X.env.cells.lookup x=some c->c≠C)->(∀p∈X.pn++pins,p.1≠C)->C∉X.fs->Q (.ref acc) H'->R (.ref acc) C (.ok .next) s'):
  wpAny (model X.prog X.w) X.A (newList []) (fun acc s₃=>wpAny (model X.prog X.w) X.A (newFunctionEnv scope X.env.globals cl [] X.env.qual none .none (some X.env)) (fun cenv s₄=>
   codeAny (model X.prog X.w) X.A (.compStart (.ListComp elt [⟨tg,iter,ifs,0⟩] scope pos) 0 (.ref it) acc {cenv with scope:=relabel scope X.env}) (R acc cenv.locals) s₄) X.xe s₃) X.xe s2:=by
 refine wpAny_newObj_type (wpAny_newFunctionEnv S.nocell (by intro y hy;simp at hy) (fun h₁ hns₁ hsb₁=> ?_) S.kind)
 dsimp only at hns₁ hsb₁ ⊢
 generalize hH2:s2.heap.push {cls:=.type "list",dict:=none,data:=.seq ([]:List Value).toArray}=G at hns₁ hsb₁ ⊢
 have hC:G.objs.size=s2.heap.objs.size+1:=by rw[<-hH2,Heap.size_push]
 have hlt:∀b∈fp,b<s2.heap.objs.size:=fun b hb=>by
  obtain⟨o,e,_⟩:=T.obj _ _ st2 b hb
  exact Heap.lt_size e
 have old:∀b o,s2.heap.get? b=some o->h₁.get? b=some o:=fun b o e=>hsb₁.extBut b o (by rw[hC];exact Nat.ne_of_lt (Nat.lt_succ_of_lt (Heap.lt_size e))) (Heap.get?_push_of_some _ (hH2▸Heap.get?_push_of_some _ e))
 have hacc:h₁.get? s2.heap.objs.size=some {cls:=.type "list",dict:=none,data:=.seq ([]:List Value).toArray}:=hsb₁.extBut _ _ (by rw[hC];exact Nat.ne_of_lt (Nat.lt_succ_self _)) (Heap.get?_push_of_some _ (hH2▸Heap.get?_push_size _ rfl))
 obtain⟨W,⟨m0,w0⟩,turn⟩:=hW s2.heap.objs.size (I2.hok.fresh (Nat.le_refl _))
 obtain⟨hYg,hYt,hYe⟩:=hY s2 H2 cl G.objs.size fp
 have fpY:∀{H':Hp},(∀b∈fp,H' b=none)->∀b∈fp,FpOk (X.comp s2 H2 N' scope cl G.objs.size fp) [] H' b:=fun {H'} hn b hb=>by
  obtain⟨_,q1,q2,q3,q4,q5⟩:=f2 b hb
  refine⟨hn b hb, ?_,fun z=> ?_,.inl hb,fun x c e=>q4 x c (hcl1 x c e),fun p hp=>absurd (show p∈([]:List (Addr×Obj)) from hp) (by simp)⟩
  ·show b≠G.objs.size
   rw[hC]
   exact Nat.ne_of_lt (Nat.lt_succ_of_lt (hlt b hb))
  ·rcases List.mem_cons.mp (I2.stkSub b z) with y|y
   ·exact q1 y
   ·exact q2 y
 have loop:∀s₃:Shared,s₃={s2 with heap:=h₁,toks:=s2.toks+([]:List (Str×Value)).length}->
   codeAny (model X.prog X.w) X.A (.compLoop (.ListComp elt [⟨tg,iter,ifs,0⟩] scope pos) 0 (.ref it) (.ref s2.heap.objs.size) (compEnvC scope cl G.objs.size X.env)) (R (.ref s2.heap.objs.size) G.objs.size) s₃:=by
  rintro s₃ rfl
  have I4:=zf5 (tk:=s2.toks+([]:List (Str×Value)).length) I2 S hcl1 hcl2 f2 hlt (Nat.le_refl _) (by rw[hC];exact Nat.le_succ _) (by rw[hC];exact Nat.ne_of_gt (Nat.lt_succ_self _)) old hacc hns₁
  refine zcc (fun n' s'=>∃i H',Inv (X.comp s2 H2 N' scope cl G.objs.size fp) [] (za2 n ix σ) H' s'/\tn i s'.heap/\(∀b∈fp,H' b=none)/\W i n' H') ?_ m0
   ⟨0,_,I4,T.keep _ _ _ st2 fun b hb o e=>old b o e,fun b hb=> ?_,w0⟩
  ·rintro n' s3 ⟨i,H3,I3,st3,fr3,w3⟩
   rcases turn i n' H3 w3 with⟨stop,q⟩|⟨go,step⟩
   ·refine thn (T.done (X.comp s2 H2 N' scope cl G.objs.size fp) rfl rfl rfl hc i [] s3 _ H3 _ I3 (fpY fr3) st3 stop) fun r s4 zq=> ?_
    obtain⟨hr,I5⟩:=zq
    subst hr
    obtain⟨mC,hnC,_⟩:=I5.loc
    have IX:Inv X pins σ H3 s4:=I2.call' I5.os I5.base I5.hok I5.bare fun b hb=>by
     obtain⟨_,q1,q2,q3,q4,q5⟩:=f2 b hb
     exact⟨q3,q1,q4,q5⟩
    refine hR _ _ s4 H3 mC hnC IX I5.free ?_ (.inr ?_) (fun x c e z=> ?_) (fun p hp z=> ?_) (I2.nofs (by rw[hC];exact Nat.le_succ _)) q
    ·rw [hC]
     exact Nat.ne_of_gt (Nat.lt_succ_of_lt I2.lt)
    ·rw [hC]
     exact Nat.le_succ_of_le I2.sz
    ·obtain ⟨v,q⟩:=I2.cell x c e
     rw[hC] at z
     exact absurd z (Nat.ne_of_lt (Nat.lt_succ_of_lt q.lt))
    ·rw [hC] at z
     exact absurd z (Nat.ne_of_lt (Nat.lt_succ_of_lt (Heap.lt_size (I2.pin p hp).1)))
   ·refine thn (T.item (X.comp s2 H2 N' scope cl G.objs.size fp) rfl rfl rfl hc i [] s3 _ H3 _ I3 (fpY fr3) st3 go) fun r s4 zq=> ?_
    obtain⟨u,hr,h4⟩:=zq
    subst hr
    refine thn h4 fun _ s5 zq=> ?_
    obtain⟨x,H5,I5,r5,y5,st5,fr5⟩:=zq
    have I5':=I5.pinned (fpY fr5) (T.obj _ _ st5)
    refine thn (hYg _ s5 _ H5 x u _ I5' r5 (step x H5 y5)) fun _ s6 zq=> ?_
    obtain⟨σ6,H6,I6,wk,q6⟩:=zq
    have back:∀{H':Hp} {s':Shared},Inv (X.comp s2 H2 N' scope cl G.objs.size fp) ([]++zcP fp s5.heap) σ6 H' s'->
      Inv (X.comp s2 H2 N' scope cl G.objs.size fp) [] (za2 n ix σ) H' s'/\tn (i+1) s'.heap/\∀b∈fp,H' b=none:=fun {H' s'} I7=>by
     refine⟨I7.unpinned.weak wk.1 wk.2,T.keep _ _ _ st5 fun b hb o e=>(I7.pin (b,o) (List.mem_append_right _ (List.mem_append_right _ (za6 hb e)))).1,fun b hb=> ?_⟩
     obtain⟨o,e,d⟩:=T.obj _ _ st5 b hb
     exact (I7.pin (b,o) (List.mem_append_right _ (List.mem_append_right _ (za6 hb e)))).2.1
    refine thn (hYt _ s6 σ6 H6 _ I6 q6) fun ok s7 zq=> ?_
    obtain⟨H7,I7,q7⟩:=zq
    cases ok with
    |false=>
     rw[if_neg Bool.false_ne_true] at q7 ⊢
     obtain⟨m',hm,w7⟩:=q7
     obtain⟨b1,b2,b3⟩:=back I7
     exact⟨m',hm,i+1,H7,b1,b2,b3,w7⟩
    |true=>
     rw[if_pos rfl] at q7 ⊢
     refine thn (hYe _ s7 σ6 H7 _ I7 q7) fun xv s8 zq=> ?_
     obtain⟨v8,H8,I8,r8,ys,ha,hz,m',hm,w8⟩:=zq
     refine thn (zbh _ s8 σ6 H8 (.ref s2.heap.objs.size) [v8] (.ref s2.heap.objs.size) [xv] (fun _ H'=>H'=upd H8 s2.heap.objs.size (.lst (ys++[v8]))) I8 rfl (.cons r8 .nil) ⟨_,ys,v8,rfl,rfl,ha,hz,rfl⟩) fun _ s9 zq=> ?_
     obtain⟨_,H9,I9,_,e9⟩:=zq
     subst e9
     obtain⟨b1,b2,b3⟩:=back I9
     exact⟨m',hm,i+1,_,b1,b2,b3,w8⟩
  ·rw [zah (Nat.ne_of_lt (hlt b hb))]
   exact (f2 b hb).1
 exact codeAny_compStart_list (loop _ rfl) (T.self _ 0 _ _ _ (T.keep _ _ _ st2 fun b hb o e=>old b o e) (loop _ rfl))
theorem zcx (hc:X.calm=true)(S:CompScope X scope N' n ix)(hi:PI X tg iter wi)
  (hY:∀s₂ H₂ cl C fp,PG (X.comp s₂ H₂ N' scope cl C fp) tg g/\PTs (X.comp s₂ H₂ N' scope cl C fp) ifs tt/\PE (X.comp s₂ H₂ N' scope cl C fp) elt te)
  (hs:∀x,foldedSetIterable iter X.env x=pure x:=by intro _;rfl):PE X (.ListComp elt [⟨tg,iter,ifs,0⟩] scope pos) (tLc wi g tt te n ix):=by
 intro pins s σ H Q I h
 obtain⟨cl,hcl,hcl1,hcl2⟩:=zb2 (env:=X.env) (scope:=scope) fun y hy hf=>I.ok.has _ (S.free y hy hf)
 rw[eval_ListComp]
 refine wpAny_comprehension_free (use:=none) rfl hs hcl S.kind S.names (thn (hi pins s σ H _ I h) fun v s1 h1=>thn h1 fun itv s2 h2=> ?_)
 obtain⟨it,fp,tn,J,H2,rfl,I2,T,st2,f2,hW⟩:=h2
 refine zfi (R:=fun acc C=>compPost (model X.prog X.w) X.A X.xe none (EP X pins σ Q) acc C) hc S hY I2 hcl1 hcl2 T st2 f2 hW ?_
 intro acc C s' H' m hn IX hf hL h1 h2 h3 h4 q
 exact⟨m,hn,fun h' sb=>⟨.ref acc,H',IX.turned (t':=s'.toks) (fun b o hb e=>sb.extBut b o hb e) hf hL h1 h2 h3,rfl,q⟩⟩
theorem zej {x:Str}{i:Nat}{pos' spos:Pos}(hsw:swapsWith (.ListComp elt [⟨tg,iter,ifs,0⟩] scope pos) (some (.Name x pos')) spos.line X.env=pure true)(hN:X.N.Nodup)(hi':X.N[i]? =some x)(hx:X.env.scope.names.lookup x=some .local)
  (hc:X.calm=true) (S:CompScope X scope N' n ix) (hi:PI X tg iter wi)
  (hY:∀s₂ H₂ cl C fp,PG (X.comp s₂ H₂ N' scope cl C fp) tg g/\PTs (X.comp s₂ H₂ N' scope cl C fp) ifs tt/\PE (X.comp s₂ H₂ N' scope cl C fp) elt te)
  (hs:∀x,foldedSetIterable iter X.env x=pure x:=by intro _;rfl):PS X (.Assign [.Name x pos'] (.ListComp elt [⟨tg,iter,ifs,0⟩] scope pos) spos) (tAsg (tLc wi g tt te n ix) (zbr i)):=by
 intro pins s σ H D I h
 obtain⟨cl,hcl,hcl1,hcl2⟩:=zb2 (env:=X.env) (scope:=scope) fun y hy hf=>I.ok.has _ (S.free y hy hf)
 rw[exec_Assign_Name_used _ _ _ _ hsw]
 refine wpAny_bind (wpAny_standAt (wpAny_bind ?_))
 show wpAny _ _ (do let _<-comprehension (.ListComp elt [⟨tg,iter,ifs,0⟩] scope pos) scope X.env _ (newList []) false (eval iter X.env) (some (assign (.Name x pos') X.env))) _ _ s
 refine wpAny_bind (thn (wpAny_comprehension_free (use:=some (assign (.Name x pos') X.env)) (Q:=fun _ s'=>SP X pins D .next s') rfl hs hcl S.kind S.names (thn (hi pins s σ H _ I h) fun v s1 h1=>thn h1 fun itv s2 h2=> ?_)) fun _ s' hq=>wpAny_pure (wpAny_pure hq))
 obtain⟨it,fp,tn,J,H2,rfl,I2,T,st2,f2,hW⟩:=h2
 refine zfi (Q:=fun x H1=>zbr i x σ H1 D.nx) (R:=fun acc C=>compPost (model X.prog X.w) X.A X.xe (some (assign (.Name x pos') X.env)) (fun _ s'=>SP X pins D .next s') acc C) hc S hY I2 hcl1 hcl2 T st2 f2 hW ?_
 intro acc C s' H' m hn IX hf hL h1 h2 h3 h4 q
 show wpAny _ _ (assign (.Name x pos') X.env (.ref acc)) _ _ _
 obtain⟨oC,esC,epC,hoC,hdC,rC⟩:=id hn
 have IP:Inv X (pins++[(C,oC)]) σ H' s':=IX.pins_of fun p hp=>by
  rcases List.mem_append.mp hp with z|z
  ·exact IX.pin p (List.mem_append_right _ z)
  ·have e:p=(C,oC):=by simpa using z
   subst e
   exact⟨hoC,hf,hL,h4,fun v z=>by rw[hdC] at z;cases z⟩
 refine thn (zak hN hi' (.inl hx) (.inr hx) _ s' σ H' (.ref acc) (.ref acc) D.nx IP rfl q) fun _ s'' zq=> ?_
 obtain⟨σ',H'',I'',q''⟩:=zq
 obtain⟨e1,e2,_⟩:=I''.pin (C,oC) (List.mem_append_right _ (List.mem_append_right _ (by simp)))
 refine⟨m,⟨oC,esC,epC,e1,hdC,rC⟩,fun h' sb=>⟨σ',H'', ?_,q''⟩⟩
 exact I''.unpinned.turned (t':=s''.toks) (fun b o hb e=>sb.extBut b o hb e) e2 hL h1 h2 h3
end
theorem PE.mono {X:Cx}{e:Expr}{t t':TE}(h:PE X e t)(m:∀σ H Q,t' σ H Q->t σ H Q):PE X e t':=fun pins s σ H Q I q=>h pins s σ H Q I (m σ H Q q)
theorem zac {H:Hp}{a:Addr}{o:HO}(h:H a=none):Same H (upd H a o):=fun b u e=>by
 rw[zah (zap e h)];exact e
theorem zan {H H':Hp}{a:Addr}{o:HO}(s:Same H H')(h:H a=none):Same H (upd H' a o):=fun b u e=>by
 rw[zah (zap e h)];exact s b u e
noncomputable def SameT (H H':Hp):Prop:=∀b xs,H b=some (.tup xs)->H' b=some (.tup xs)
theorem Same.t {H H':Hp}(h:Same H H'):SameT H H':=fun b xs e=>h b _ e
theorem SameT.trans {H H1 H2:Hp}(a:SameT H H1)(b:SameT H1 H2):SameT H H2:=fun c o h=>b c o (a c o h)
theorem zfj {H:Hp}{a:Addr}{xs ys:List V}(h:H a=some (.lst xs)):SameT H (upd H a (.lst ys)):=fun b zs e=>by
 rw[zah (zfV e h (by intro z;cases z))];exact e
structure Yields (J:It) (Ok:Hp->Prop) (xs:List V):Prop where
 go:∀i H,Ok H->i<xs.length->J.go i H
 yld:∀i H x H',Ok H->i<xs.length->J.yld i H x H'->H'=H/\xs[i]? =some x
 stop:∀H,Ok H->J.stop xs.length H
theorem zbk {K:PySem.W.Frag}{a:Addr}{xs:List V}:Yields (Itl K a) (fun H=>SqL K H a xs) xs:=
 ⟨fun i H q h=>⟨xs,xs[i],q,by simp[h]⟩,fun i H x H' q _ y=>⟨y.1,y.2 xs q⟩,fun H q=>⟨xs,q,Nat.le_refl _⟩⟩
noncomputable def zaQ (lo:Int)(n:Nat):List V:=(List.range n).map fun (i:Nat)=>V.int (lo+(i:Int))
theorem zaq (lo:Int)(n:Nat):(zaQ lo n).length=n:=by simp[zaQ]
theorem zeO {lo:Int}{n i:Nat}(h:i<n):(zaQ lo n)[i]? =some (V.int (lo+(i:Int))):=by
 simp[zaQ,h]
theorem zaF {lo:Int}{n:Nat}:Yields (Itr lo n) (fun _=>True) (zaQ lo n):=by
 refine⟨fun i H _ h=> ?_,fun i H x H' _ h y=> ?_,fun H _=> ?_⟩
 ·rw[zaq] at h;exact h
 ·obtain ⟨y1,y2⟩:=y
  rw[zaq] at h
  exact⟨y1,by rw[zeO h,y2]⟩
 ·rw[zaq];exact Nat.le_refl _
section
variable {J:It}{Ok:Hp->Prop}{xs:List V}{tt:TT}{te:TE}{ix:List Nat}{σ:St}{H1:Hp}{Q:VK}
theorem zfk (Y:Yields J Ok xs)(small:xs.length<sizeLine)(p:V->Bool)(f:V->V)(hok:∀H,Same H1 H->Ok H)
  (ht:∀x∈xs,∀H,Same H1 H->∀Q':Bool->Hp->Prop,Q' (p x) H->tt (some x::ix.map fun i=>σ.getD i none) H Q')
  (he:∀x∈xs,p x=true->∀H,Same H1 H->∀Q':VK,Q' (f x) H->te (some x::ix.map fun i=>σ.getD i none) H Q')
  (fin:∀acc,H1 acc=none->Q (.ref acc) (upd H1 acc (.lst ((xs.filter p).map f)))):
  LcW J H1 (zbr 0) tt te 1 ix σ Q:=by
 intro acc ha
 refine⟨fun i m H=>m=xs.length-i/\i<=xs.length/\H=upd H1 acc (.lst (((xs.take i).filter p).map f)),⟨xs.length,by simp,Nat.zero_le _,rfl⟩, ?_⟩
 rintro i m H ⟨rfl,hi,rfl⟩
 have sm:Same H1 (upd H1 acc (.lst (((xs.take i).filter p).map f))):=zac ha
 have o:=hok _ sm
 by_cases hlt:i<xs.length
 ·refine .inr ⟨Y.go i _ o hlt,fun x H' y=> ?_⟩
  obtain⟨rfl,hx⟩:=Y.yld i _ x H' o hlt y
  have hmem:x∈xs:=List.mem_of_getElem? hx
  have htk:xs.take (i+1)=xs.take i++[x]:=by
   rw[List.take_succ,hx];rfl
  refine⟨⟨rfl,fun j v e=> ?_⟩, ?_⟩
  ·cases j with
   |zero=>cases e
   |succ j=>exact e
  ·refine ht x hmem _ sm _ ?_
   cases hp:p x with
   |false=>
    rw[if_neg Bool.false_ne_true]
    refine⟨xs.length-(i+1),by (first|lia|omega),rfl,hlt, ?_⟩
    rw[htk,List.filter_append]
    simp[hp]
   | true=>
    rw[if_pos rfl]
    refine he x hmem hp _ sm _ ?_
    refine⟨_,zab, ?_,xs.length-(i+1),by (first|lia|omega),rfl,hlt, ?_⟩
    ·rw [List.length_map]
     refine Nat.lt_of_le_of_lt (List.length_filter_le _ _) ?_
     rw[List.length_take];(first|lia|omega)
    ·rw [zgJ,htk,List.filter_append,List.map_append]
     simp[hp]
 ·have e:i=xs.length:=by (first|lia|omega)
  subst e
  refine .inl ⟨Y.stop _ o, ?_⟩
  rw[List.take_length]
  exact fin acc ha
theorem zdQ (Y:Yields J Ok xs)(small:xs.length<sizeLine)(R:V->V->Hp->Prop)(hR:∀x v H H',SameT H H'->R x v H->R x v H')(hok:∀H,Same H1 H->Ok H)
  (he:∀x∈xs,∀H,Same H1 H->∀Q':VK,(∀v H',Same H H'->R x v H'->Q' v H')->te (some x::ix.map fun i=>σ.getD i none) H Q')
  (fin:∀acc ys H',H1 acc=none->Same H1 H'->H' acc=some (.lst ys)->Paired (fun x v=>R x v H') xs ys->Q (.ref acc) H'):
  LcW J H1 (zbr 0) zaZ te 1 ix σ Q:=by
 intro acc ha
 refine⟨fun i m H=>m=xs.length-i/\i<=xs.length/\Same H1 H/\∃ys,H acc=some (.lst ys)/\Paired (fun x v=>R x v H) (xs.take i) ys,⟨xs.length,by simp,Nat.zero_le _,zac ha,[],zab,.nil⟩, ?_⟩
 rintro i m H ⟨rfl,hi,sm,ys,hacc,pr⟩
 have o:=hok _ sm
 have hlen:ys.length=i:=by rw[<-Paired.length pr,List.length_take];(first|lia|omega)
 by_cases hlt:i<xs.length
 ·refine .inr ⟨Y.go i _ o hlt,fun x H' y=> ?_⟩
  obtain⟨rfl,hx⟩:=Y.yld i _ x H' o hlt y
  have hmem:x∈xs:=List.mem_of_getElem? hx
  have htk:xs.take (i+1)=xs.take i++[x]:=by
   rw[List.take_succ,hx];rfl
  refine⟨⟨rfl,fun j v e=> ?_⟩, ?_⟩
  ·cases j with
   |zero=>cases e
   |succ j=>exact e
  ·unfold zaZ
   dsimp only
   rw[if_pos rfl]
   refine he x hmem _ sm _ fun v H4 s4 r4=> ?_
   have h4:H4 acc=some (.lst ys):=s4 _ _ hacc
   refine⟨ys,h4,by (first|lia|omega),xs.length-(i+1),by (first|lia|omega),rfl,hlt,zan (sm.trans s4) ha,ys++[v],zab, ?_⟩
   rw[htk]
   have st:SameT H4 (upd H4 acc (.lst (ys++[v]))):=zfj h4
   exact Paired.snoc (Paired.mapP pr fun x' v' r'=>hR _ _ _ _ (s4.t.trans st) r') (hR _ _ _ _ st r4)
 ·have e:i=xs.length:=by (first|lia|omega)
  subst e
  refine .inl ⟨Y.stop _ o, ?_⟩
  rw[List.take_length] at pr
  exact fin acc ys H ha sm hacc pr
end
section
variable {prog:Program}{w:World}{A:Around}{E:Value->Shared->Prop}{s:Shared}
theorem zb3 {it t:Addr}{i:Nat}{its:Array Value}{x:Value}{Q:Value->Shared->Prop}(hi:s.heap.IsTupleIter it t i)(ht:s.heap.IsTuple t its)(hx:its[i]? =some x)
  (q:∀h',h'.IsTupleIter it t (i+1)->Heap.SameBut it s.heap h'->Q x {s with heap:=h'}):wpAny (model prog w) A (Builtin.SmallTypes.nextOf (.ref it)) Q E s:=by
 obtain⟨o,e1,e2,e3⟩:=id hi
 obtain⟨u,f1,f2,nu,f3⟩:=ht
 unfold Builtin.SmallTypes.nextOf
 refine wpAny_bind (wpAny_callSpecial?_slot (name:=Str.ofString "__next__") hi.typeIs F.slot_tuple_iterator_next (wpAny_call_entry F.slot_tuple_iterator_next hi.typeIs F.entry_tuple_iterator_next ?_ (F.args_tuple_iterator_next_1 _)))
 show wpAny _ _ (field (.ref it) 0 >>= _) _ _ s
 refine wpAny_bind (wpAny_field e1 e3 (x:=.ref t) rfl ?_)
 show wpAny _ _ (if (Value.ref t==Value.none)=true then _ else _) _ _ s
 rw[if_neg (show ¬((Value.ref t==Value.none)=true) from Bool.false_ne_true)]
 show wpAny _ _ (field (.ref it) 1 >>= _) _ _ s
 refine wpAny_bind (wpAny_field e1 e3 (x:=.int i 0) rfl ?_)
 show wpAny _ _ (seqItems? (.ref t) >>= _) _ _ s
 refine wpAny_bind (wpAny_seqItems f1 f3 ?_)
 simp only[Int.toNat_natCast,hx]
 refine wpAny_bind (wpAny_setField e1 e3 (by simp) (wpAny_pure ⟨x,rfl,wpAny_pure (q _ ⟨_,Heap.get?_update_self _ e1 (Obj.isFreed_of_fields (Obj.data_mapFields e3 _)),(Obj.cls_mapFields ..).trans e2, ?_⟩ (Heap.SameBut.update ..))⟩))
 rw[Obj.data_mapFields e3]
 simp[rawInt]
theorem zdu {it t:Addr}{i:Nat}{its:Array Value}{Q:Value->Shared->Prop}(hh:A.handled=none)(hi:s.heap.IsTupleIter it t i)(ht:s.heap.IsTuple t its)(hx:its[i]? =none)
  (q:∀h' e,Heap.ExtBut it s.heap h'->(∃o,h'.get? e=some o/\o.cls=.type "StopIteration")->E (.ref e) {s with heap:=h'}):wpAny (model prog w) A (Builtin.SmallTypes.nextOf (.ref it)) Q E s:=by
 obtain⟨o,e1,e2,e3⟩:=id hi
 obtain⟨u,f1,f2,nu,f3⟩:=ht
 unfold Builtin.SmallTypes.nextOf
 refine wpAny_bind (wpAny_callSpecial?_slot (name:=Str.ofString "__next__") hi.typeIs F.slot_tuple_iterator_next (wpAny_call_entry F.slot_tuple_iterator_next hi.typeIs F.entry_tuple_iterator_next ?_ (F.args_tuple_iterator_next_1 _)))
 show wpAny _ _ (field (.ref it) 0 >>= _) _ _ s
 refine wpAny_bind (wpAny_field e1 e3 (x:=.ref t) rfl ?_)
 show wpAny _ _ (if (Value.ref t==Value.none)=true then _ else _) _ _ s
 rw[if_neg (show ¬((Value.ref t==Value.none)=true) from Bool.false_ne_true)]
 show wpAny _ _ (field (.ref it) 1 >>= _) _ _ s
 refine wpAny_bind (wpAny_field e1 e3 (x:=.int i 0) rfl ?_)
 show wpAny _ _ (seqItems? (.ref t) >>= _) _ _ s
 refine wpAny_bind (wpAny_seqItems f1 f3 ?_)
 simp only[Int.toNat_natCast,hx]
 refine wpAny_bind (wpAny_rule (wpAny_bind (wpAny_setField e1 e3 (by simp) ?_)))
 show wpAny _ _ (newExc (.type "StopIteration") [] >>= _) _ _ _
 refine wpAny_bind ?_
 simp only[newExc,newTuple]
 refine wpAny_bind (wpAny_newObj_type ?_ (by size_fits))
 refine wpAny_bind (m:=firstArgMember _ _) (wpAny_of_eq (a:=Value.none) (by first|rfl|(simp only[firstArgMember];rfl)) ?_)
 refine wpAny_newObj_type ?_ (by size_fits)
 simp only[raiseNew]
 refine wpAny_bind (wpAny_handled ?_)
 first|rw[show A.in1.handled=none from hh]|rw[hh]
 refine wpAny_bind (wpAny_pure (wpAny_throw ?_))
 exact q _ _ (((Heap.SameBut.update ..).extBut.push _).push _) ⟨_,Heap.get?_push_size _ rfl,rfl⟩
end
section
variable {X:Cx}{pins:List (Addr×Obj)}{σ:St}{H:Hp}{s:Shared}{h':Heap}
theorem Inv.turnedN {t':Nat}{fp:List Addr}(I:Inv X pins σ H s)(hf:∀b∈fp,FpOk X pins H b)(k:∀b o,b∉fp->s.heap.get? b=some o->h'.get? b=some o):Inv X pins σ H {s with heap:=h',toks:=t'}:=by
 have nit:∀b u,H b=some u->b∉fp:=fun b u e z=>by rw[(hf b z).1] at e;cases e
 refine I.step (g':=s.gens) (d':=s.drawn) (ch:=fp) (fun b hb=> ?_) (fun b o _ _ hc e _=>k b o hc e) (fun b o _ _ hc e _=>⟨o.slots,k b o hc e⟩) (fun _ _ _ _ n=>n)
  (fun b o hc e=>⟨o,k b o hc e⟩) (fun _ _ e=>e) (fun _ _ _ e=>e) (fun b ps e=>⟨#[],by rw[e];simp⟩) (fun m hm=> ?_) (fun b u e=> ?_) I.bare
 ·obtain ⟨_,q1,q2,q3,q4,q5⟩:=hf b hb
  exact⟨q3,q1,q4,q5⟩
 ·obtain ⟨o,es,ep,ho,r⟩:=hm
  exact⟨o,es,ep,k _ o (fun z=>(hf _ z).2.1 rfl) ho,r⟩
 ·refine (I.hok b u e).stay (fun c v hc q=>k c v ?_ q) (fun _ q=>q) fun _ _ q=>q
  rcases hc with z|z
  ·rw[z];exact nit b u e
  ·exact nit c _ z
theorem Inv.trackT {a:Addr}{xs:List V}{its:List Value}(I:Inv X pins σ H s)(hn:H a=none)(hs:X.s₀.heap.objs.size<=a)(hL:a≠X.env.locals)(hc:∀x c,X.env.cells.lookup x=some c->c≠a)(hp:∀p∈X.pn++pins,p.1≠a)
  (rv:Vals xs its) (ht:PTup s.heap a its.toArray) (hz:xs.length<=sizeLine):Inv X pins σ (upd H a (.tup xs)) s:=by
 have ne:∀{b u},H b=some u->b≠a:=fun e=>zap e hn
 refine⟨I.ok,I.os,I.bare,⟨I.base.keep,I.base.slot,fun b o e n hx=> ?_,I.base.there,fun b ys e=> ?_,fun b o u e=> ?_,fun b ps e=> ?_⟩,I.loc,I.cell, ?_,fun x c e=> ?_,fun p hp'=> ?_,fun b u e=> ?_,I.len⟩
 ·rw [zah (Nat.ne_of_lt (Nat.lt_of_lt_of_le (Heap.lt_size e) hs))]
  exact I.base.free b o e n hx
 ·have q:=I.base.tups b ys e
  rw[zah (ne q)];exact q
 ·have q:=I.base.frzs b o u e
  rw[zah (ne q)];exact q
 ·obtain ⟨m,q⟩:=I.base.tbls b ps e
  exact⟨m,by rw[zah (ne q)];exact q⟩
 ·rw[zah (Ne.symm hL)];exact I.free
 ·rw[zah (hc x c e)];exact I.freeC x c e
 ·obtain ⟨q1,q2,q3⟩:=I.pin p hp'
  exact⟨q1,by rw[zah (hp p hp')];exact q2,q3⟩
 ·by_cases hb:b=a
  ·subst hb
   rw[zab] at e;cases e
   exact⟨hz,its,rv,ht⟩
  ·rw [zah hb] at e
   exact (I.hok b u e).stay (fun _ _ _ q=>q) (fun c q=>by rw[zah (ne q)];exact q) fun c ys q=>by rw[zah (ne q)];exact q
theorem Inv.turnedT {t':Nat}{fp:List Addr}{xs:List V}{its:List Value}(I:Inv X pins σ H s)(hf:∀b∈fp,FpOk X pins H b)(k:∀b o,b∉fp->s.heap.get? b=some o->h'.get? b=some o)
  (rv:Vals xs its) (ht:PTup h' s.heap.objs.size its.toArray) (hz:xs.length<=sizeLine):Inv X pins σ (upd H s.heap.objs.size (.tup xs)) {s with heap:=h',toks:=t'}:=by
 refine (I.turnedN (t':=t') hf k).trackT (I.hok.fresh (Nat.le_refl _)) I.sz (Nat.ne_of_gt I.lt) (fun x c e=> ?_) (fun p hp=> ?_) rv ht hz
 ·obtain ⟨v,q⟩:=I.cell x c e
  exact Nat.ne_of_lt q.lt
 ·exact Nat.ne_of_lt (Heap.lt_size (I.pin p hp).1)
end
section
variable {X:Cx}
end
structure ZipT (h:Heap) (z TI TO i1 i2 a b:Addr) (i:Nat):Prop where
 z:IsZip h z TI TO .none
 ti:IsPair h TI (.ref i1) (.ref i2)
 to:∃x y,IsPair h TO x y
 one:h.IsTupleIter i1 a i
 two:h.IsTupleIter i2 b i
structure ZipNe (z TI TO i1 i2:Addr):Prop where
 az:TI≠z
 bz:TO≠z
 cz:i1≠z
 dz:i2≠z
 ab:TI≠TO
 ac:TI≠i1
 ad:TI≠i2
 bc:TO≠i1
 bd:TO≠i2
 cd:i1≠i2
section
variable {prog:Program}{w:World}{A:Around}{E:Value->Shared->Prop}{s:Shared}{z TI TO i1 i2 a b:Addr}{i:Nat}{xs ys:Array Value}
theorem zdR {T:Addr}{p q x:Value}{k:Nat}{Q:Unit->Shared->Prop}(hT:IsPair s.heap T p q)(h:∀h',h'.get? T=some {cls:=.type "tuple",data:=.seq ((#[p,q]:Array Value).setIfInBounds k x)}->Heap.SameBut T s.heap h'->Q () {s with heap:=h'}):
  wpAny (model prog w) A (updateSeq T (·.setIfInBounds k x)) Q E s:=wpAny_updateSeq_pair hT h
theorem zfl {h:Heap}{t j:Addr}{k:Nat}{its:Array Value}{u:Addr}(ht:h.IsTuple t its)(hj:h.IsTupleIter j u k):t≠j:=fun e=>by
 obtain⟨o,e1,e2,_⟩:=ht
 obtain⟨o',f1,f2,_⟩:=hj
 rw[e,f1] at e1;cases e1;rw[f2] at e2;injection e2 with z2;revert z2;decide
theorem zfm {x y:Value}{Q:Option Value->Shared->Prop}(D:ZipNe z TI TO i1 i2)(S:ZipT s.heap z TI TO i1 i2 a b i)(ha:s.heap.IsTuple a xs)(hb:s.heap.IsTuple b ys)(haz:a≠z/\a≠TO)(hbz:b≠z/\b≠TO)(hx:xs[i]? =some x)(hy:ys[i]? =some y)
  (q:∀h',IsZip h' z TI TO (rawInt s.heap.objs.size)->IsPair h' TI (.ref i1) (.ref i2)->IsPair h' TO x y->h'.IsTupleIter i1 a (i+1)->h'.IsTupleIter i2 b (i+1)->IsPair h' s.heap.objs.size x y->
   (∀c o,c≠z->c≠TO->c≠i1->c≠i2->s.heap.get? c=some o->h'.get? c=some o)->Q (some (.ref s.heap.objs.size)) {s with heap:=h'}):
  wpAny (model prog w) A (pyNext (.ref z)) Q E s:=by
 obtain⟨hz,hti,⟨p0,p1,hto⟩,h1,h2⟩:=S
 have ai1:=zfl ha h1
 have ai2:=zfl ha h2
 have bi1:=zfl hb h1
 have bi2:=zfl hb h2
 have hT:s.TypeIs (.ref z) "zip" :=⟨_,hz,rfl⟩
 unfold pyNext
 refine wpAny_bind (wpAny_attempt (wpAny_callSpecial?_slot (name:=Str.ofString "__next__") hT F.slot_zip_next (wpAny_call_entry F.slot_zip_next hT F.entry_zip_next ?_ (F.args_zip_next_1 _))))
 show wpAny _ _ (field (.ref z) 2 >>= _) _ _ _
 refine wpAny_bind (wpAny_field hz rfl (x:=.bool false) rfl ?_);show wpAny _ _ (field (.ref z) 3 >>= _) _ _ _
 refine wpAny_bind (wpAny_field hz rfl (x:=.ref TI) rfl (wpAny_bind (wpAny_seqItems hti rfl ?_)))
 show wpAny _ _ (Builtin.SmallTypes.ownedTupleIsFree (.ref z) >>= _) _ _ _
 refine wpAny_bind ?_
 unfold Builtin.SmallTypes.ownedTupleIsFree
 refine wpAny_bind (wpAny_field hz rfl (x:=.none) rfl (wpAny_pure ?_));simp only[if_true]
 refine wpAny_bind (wpAny_rule (wpAny_bind (wpAny_field hz rfl (x:=.ref TO) rfl (wpAny_bind (wpAny_setField_rec hz (by simp) fun g1 k1 s1=> ?_)))))
 replace k1:IsZip g1 z TI TO .ellipsis:=k1
 refine wpAny_bind ?_
 simp only[List.zipIdx_cons,List.zipIdx_nil,List.forIn_cons,List.forIn_nil]
 refine wpAny_bind (wpAny_bind (wpAny_onRaise ?_));show wpAny _ _ (Builtin.SmallTypes.nextOf (.ref i1) >>= _) _ _ _
 refine wpAny_bind (zb3 (h1.extBut s1.extBut D.cz) (ha.extBut s1.extBut haz.1) hx fun g2 j2 s2=>wpAny_pure ?_)
 have t2:IsPair g2 TO p0 p1:=s2.extBut _ _ D.bc (s1.extBut _ _ D.bz hto)
 refine wpAny_bind (wpAny_seqItems t2 rfl (wpAny_bind (zdR t2 fun g3 t3 s3=> ?_)))
 replace t3:IsPair g3 TO x p1:=t3
 refine wpAny_bind (wpAny_letGo (wpAny_pure ?_))
 refine wpAny_bind (wpAny_bind (wpAny_onRaise ?_));show wpAny _ _ (Builtin.SmallTypes.nextOf (.ref i2) >>= _) _ _ _
 have e3:∀c o,c≠z->c≠i1->c≠TO->s.heap.get? c=some o->g3.get? c=some o:=fun c o c1 c2 c3 e=>s3.extBut _ _ c3 (s2.extBut _ _ c2 (s1.extBut _ _ c1 e))
 have h23:g3.IsTupleIter i2 b i:=let ⟨o,ho,r⟩:=h2;⟨o,e3 _ _ D.dz D.cd.symm D.bd.symm ho,r⟩
 have hb3:g3.IsTuple b ys:=let ⟨o,ho,r⟩:=hb;⟨o,e3 _ _ hbz.1 bi1 hbz.2 ho,r⟩
 refine wpAny_bind (zb3 h23 hb3 hy fun g4 j4 s4=>wpAny_pure ?_)
 have t4:IsPair g4 TO x p1:=s4.extBut _ _ D.bd t3
 refine wpAny_bind (wpAny_seqItems t4 rfl (wpAny_bind (zdR t4 fun g5 t5 s5=> ?_)))
 replace t5:IsPair g5 TO x y:=t5
 refine wpAny_bind (wpAny_letGo (wpAny_pure (wpAny_pure ?_)))
 refine wpAny_bind (wpAny_seqItems t5 rfl (wpAny_bind (wpAny_newTuple ?_)))
 have z5:g5.objs.size=s.heap.objs.size:=by rw[s5.1,s4.1,s3.1,s2.1,s1.1]
 have e5:∀c o,c≠z->c≠TO->c≠i1->c≠i2->s.heap.get? c=some o->g5.get? c=some o:=fun c o c1 c2 c3 c4 e=>s5.extBut _ _ c2 (s4.extBut _ _ c4 (e3 c o c1 c3 c2 e))
 have k5:IsZip g5 z TI TO .ellipsis:=s5.extBut _ _ D.bz.symm (s4.extBut _ _ D.dz.symm (s3.extBut _ _ D.bz.symm (s2.extBut _ _ D.cz.symm k1)))
 have m1:g5.IsTupleIter i1 a (i+1):=((j2.extBut s3.extBut D.bc.symm).extBut s4.extBut D.cd).extBut s5.extBut D.bc.symm
 have m2:g5.IsTupleIter i2 b (i+1):=j4.extBut s5.extBut D.bd.symm
 have zlt:z<g5.objs.size:=Heap.lt_size k5
 show wpAny _ _ (Builtin.SmallTypes.ownedTupleHandOut (.ref z) (.ref g5.objs.size) >>= _) _ _ _
 refine wpAny_bind ?_
 unfold Builtin.SmallTypes.ownedTupleHandOut
 have k6:IsZip (g5.push {cls:=.type "tuple",data:=.seq #[x,y]}) z TI TO .ellipsis:=Heap.get?_push_of_some _ k5
 refine wpAny_bind (wpAny_setField_rec k6 (by simp) fun g7 k7 s7=> ?_)
 replace k7:IsZip g7 z TI TO (rawInt g5.objs.size):=k7
 refine wpAny_setField_rec k7 (by simp) fun g8 k8 s8=> ?_
 replace k8:IsZip g8 z TI TO (rawInt g5.objs.size):=k8
 have up:∀c o,c≠z->g5.get? c=some o->g8.get? c=some o:=fun c o c1 e=>s8.extBut _ _ c1 (s7.extBut _ _ c1 (Heap.get?_push_of_some _ e))
 have t8:IsPair g8 g5.objs.size x y:=s8.extBut _ _ (Nat.ne_of_gt zlt) (s7.extBut _ _ (Nat.ne_of_gt zlt) (Heap.get?_push_size _ rfl))
 rw[z5] at k8 t8
 refine wpAny_pure ⟨_,rfl,wpAny_pure ?_⟩
 show Q (some (.ref g5.objs.size)) _
 rw[z5]
 exact q g8 k8 (up _ _ D.az (e5 _ _ D.az D.ab D.ac D.ad hti)) (up _ _ D.bz t5) (let ⟨o,ho,r⟩:=m1;⟨o,up _ _ D.cz ho,r⟩) (let ⟨o,ho,r⟩:=m2;⟨o,up _ _ D.dz ho,r⟩) t8 fun c o c1 c2 c3 c4 e=>up c o c1 (e5 c o c1 c2 c3 c4 e)
theorem zf6 {Q:Option Value->Shared->Prop}(hh:A.in1.handled=none)(D:ZipNe z TI TO i1 i2)(S:ZipT s.heap z TI TO i1 i2 a b i)(ha:s.heap.IsTuple a xs)(hb:s.heap.IsTuple b ys)(haz:a≠z/\a≠TO)(hbz:b≠z/\b≠TO)(hend:xs[i]? =none∨ys[i]? =none)
  (q:∀h',(∀c o,c≠z->c≠TO->c≠i1->c≠i2->s.heap.get? c=some o->h'.get? c=some o)->Q none {s with heap:=h'}):
  wpAny (model prog w) A (pyNext (.ref z)) Q E s:=by
 obtain⟨hz,hti,⟨p0,p1,hto⟩,h1,h2⟩:=S
 have bi1:=zfl hb h1
 have hT:s.TypeIs (.ref z) "zip" :=⟨_,hz,rfl⟩
 unfold pyNext
 refine wpAny_bind (wpAny_attempt (wpAny_callSpecial?_slot (name:=Str.ofString "__next__") hT F.slot_zip_next (wpAny_call_entry F.slot_zip_next hT F.entry_zip_next ?_ (F.args_zip_next_1 _))))
 show wpAny _ _ (field (.ref z) 2 >>= _) _ _ _
 refine wpAny_bind (wpAny_field hz rfl (x:=.bool false) rfl ?_);show wpAny _ _ (field (.ref z) 3 >>= _) _ _ _
 refine wpAny_bind (wpAny_field hz rfl (x:=.ref TI) rfl (wpAny_bind (wpAny_seqItems hti rfl ?_)))
 show wpAny _ _ (Builtin.SmallTypes.ownedTupleIsFree (.ref z) >>= _) _ _ _
 refine wpAny_bind ?_
 unfold Builtin.SmallTypes.ownedTupleIsFree
 refine wpAny_bind (wpAny_field hz rfl (x:=.none) rfl (wpAny_pure ?_));simp only[if_true]
 refine wpAny_bind (wpAny_rule (wpAny_bind (wpAny_field hz rfl (x:=.ref TO) rfl (wpAny_bind (wpAny_setField_rec hz (by simp) fun g1 k1 s1=> ?_)))))
 replace k1:IsZip g1 z TI TO .ellipsis:=k1
 refine wpAny_bind ?_
 simp only[List.zipIdx_cons,List.zipIdx_nil,List.forIn_cons,List.forIn_nil]
 have fin:∀(g:Heap) (e:Addr),IsZip g z TI TO .ellipsis->(∀c o,c≠z->c≠TO->c≠i1->c≠i2->s.heap.get? c=some o->g.get? c=some o)->(∃o,g.get? e=some o/\o.cls=.type "StopIteration")->
   wpAny (model prog w) A.in1 (setField (.ref z) 0 .none) (fun _ s'=>wpAny (model prog w) A (do if<-isInstance (.ref e) (.type "StopIteration") then pure none else throw (Value.ref e)) Q E s') (fun e' s'=>wpAny (model prog w) A (do if<-isInstance e' (.type "StopIteration") then pure none else throw e') Q E s') {s with heap:=g}:=by
  rintro g e kz kk ⟨oe,f1,f2⟩
  have ez:e≠z:=fun y=>by subst y;rw[kz] at f1;cases f1;injection f2 with z2;revert z2;decide
  refine wpAny_setField_rec kz (by simp) fun g' _ s'=> ?_
  refine wpAny_bind (wpAny_isInstance (T:= "StopIteration") (b:=true) ⟨oe,s'.extBut _ _ ez f1,f2⟩ isSubtype_stop ?_)
  exact wpAny_pure (q g' fun c o c1 c2 c3 c4 y=>s'.extBut _ _ c1 (kk c o c1 c2 c3 c4 y))
 refine wpAny_bind (wpAny_bind (wpAny_onRaise ?_));show wpAny _ _ (Builtin.SmallTypes.nextOf (.ref i1) >>= _) _ _ _
 cases hx:xs[i]? with
 |none=>
  refine wpAny_bind (zdu hh (h1.extBut s1.extBut D.cz) (ha.extBut s1.extBut haz.1) hx fun g2 e s2 he=> ?_)
  exact fin g2 e (s2 _ _ D.cz.symm k1) (fun c o c1 _ c3 _ y=>s2 _ _ c3 (s1.extBut _ _ c1 y)) he
 |some x=>
  have hy:ys[i]? =none:=by rcases hend with h|h;rw[hx] at h;cases h;exact h
  refine wpAny_bind (zb3 (h1.extBut s1.extBut D.cz) (ha.extBut s1.extBut haz.1) hx fun g2 j2 s2=>wpAny_pure ?_)
  have t2:IsPair g2 TO p0 p1:=s2.extBut _ _ D.bc (s1.extBut _ _ D.bz hto)
  refine wpAny_bind (wpAny_seqItems t2 rfl (wpAny_bind (zdR t2 fun g3 t3 s3=> ?_)))
  refine wpAny_bind (wpAny_letGo (wpAny_pure ?_))
  refine wpAny_bind (wpAny_bind (wpAny_onRaise ?_));show wpAny _ _ (Builtin.SmallTypes.nextOf (.ref i2) >>= _) _ _ _
  have e3:∀c o,c≠z->c≠i1->c≠TO->s.heap.get? c=some o->g3.get? c=some o:=fun c o c1 c2 c3 e=>s3.extBut _ _ c3 (s2.extBut _ _ c2 (s1.extBut _ _ c1 e))
  have h23:g3.IsTupleIter i2 b i:=let ⟨o,ho,r⟩:=h2;⟨o,e3 _ _ D.dz D.cd.symm D.bd.symm ho,r⟩
  have hb3:g3.IsTuple b ys:=let ⟨o,ho,r⟩:=hb;⟨o,e3 _ _ hbz.1 bi1 hbz.2 ho,r⟩
  refine wpAny_bind (zdu hh h23 hb3 hy fun g4 e s4 he=> ?_)
  exact fin g4 e (s4 _ _ D.dz.symm (s3.extBut _ _ D.bz.symm (s2.extBut _ _ D.cz.symm k1))) (fun c o c1 c2 c3 c4 y=>s4 _ _ c4 (e3 c o c1 c3 c2 y)) he
noncomputable abbrev zT1 (h:Heap)(l1:Addr):Heap:=h.push {cls:=.type "tuple_iterator",data:=.fields #[.ref l1,.int 0 0]}
noncomputable abbrev zT2 (h:Heap)(l1 l2:Addr):Heap:=(zT1 h l1).push {cls:=.type "tuple_iterator",data:=.fields #[.ref l2,.int 0 0]}
noncomputable abbrev zT3 (h:Heap)(l1 l2:Addr):Heap:=(zT2 h l1 l2).push {cls:=.type "tuple",data:=.seq #[.ref h.objs.size,.ref (zT1 h l1).objs.size]}
noncomputable abbrev zT4 (h:Heap)(l1 l2:Addr):Heap:=(zT3 h l1 l2).push {cls:=.type "tuple",data:=.seq #[.none,.none]}
noncomputable abbrev zT5 (h:Heap)(l1 l2:Addr):Heap:=(zT4 h l1 l2).push {cls:=.type "zip",data:=.fields #[.none,.bool false,.bool false,.ref (zT2 h l1 l2).objs.size,.ref (zT3 h l1 l2).objs.size]}
theorem zf7 (l1 l2:Addr)(xs ys:Array Value):
  Meets (Builtin.«zip.__new__» ⟨[.type "zip",.ref l1,.ref l2],[]⟩) (fun _ R s=>s.heap.IsTuple l1 xs/\s.heap.IsTuple l2 ys/\R (.ok (.ret (.ref (zT4 s.heap l1 l2).objs.size))) {s with heap:=zT5 s.heap l1 l2}):=
 .of_wp fun prog w A R s h=>by
  obtain⟨hp,g,d,tk,os⟩:=s;obtain⟨hl1,hl2,h⟩:=h
  have hsub:=sub_zip
  have hL1:Heap.IsTuple (Shared.heap ⟨hp,g,d,tk,os⟩) l1 xs:=hl1
  have hL2:Heap.IsTuple (Shared.heap ⟨hp.push {cls:=.type "tuple_iterator",data:=.fields #[.ref l1,.int 0 0]},g,d,tk,os⟩) l2 ys:=Heap.IsTuple.push hl2 _
  wp_walk using wpAny_pyIter_tuple hL1,wpAny_pyIter_tuple hL2
  exact⟨_,rfl,h⟩
theorem zfn {l1 l2:Addr}{Q:Value->Shared->Prop}(hl1:s.heap.IsTuple l1 xs)(hl2:s.heap.IsTuple l2 ys)
  (h:∀h',ZipT h' (s.heap.objs.size+4) (s.heap.objs.size+2) (s.heap.objs.size+3) s.heap.objs.size (s.heap.objs.size+1) l1 l2 0->(∀c o,s.heap.get? c=some o->h'.get? c=some o)->Q (.ref (s.heap.objs.size+4)) {s with heap:=h'}):
  wpAny (model prog w) A (call (.type "zip") [.ref l1,.ref l2]) Q E s:=by
 refine callType_new F.called_zip (by decide) (F.typeCall_zip_2 _ _) (F.newCall_zip_2 _ _) (fun obj=>F.args_object_init_3 obj _ _) F.entry_zip_new (zf7 l1 l2 xs ys) ⟨hl1,hl2, ?_⟩
 have z1:(zT1 s.heap l1).objs.size=s.heap.objs.size+1:=Heap.size_push ..
 have z2:(zT2 s.heap l1 l2).objs.size=s.heap.objs.size+2:=by rw[Heap.size_push,z1]
 have z3:(zT3 s.heap l1 l2).objs.size=s.heap.objs.size+3:=by rw[Heap.size_push,z2]
 have z4:(zT4 s.heap l1 l2).objs.size=s.heap.objs.size+4:=by rw[Heap.size_push,z3]
 have p1:∀{g:Heap} {c o u},g.get? c=some o->(g.push u).get? c=some o:=fun e=>Heap.get?_push_of_some _ e
 have g5:(zT5 s.heap l1 l2).get? (zT4 s.heap l1 l2).objs.size=some _:=Heap.get?_push_size _ rfl
 have g4:(zT5 s.heap l1 l2).get? (zT3 s.heap l1 l2).objs.size=some _:=p1 (Heap.get?_push_size _ rfl)
 have g3:(zT5 s.heap l1 l2).get? (zT2 s.heap l1 l2).objs.size=some _:=p1 (p1 (Heap.get?_push_size _ rfl))
 have g2:(zT5 s.heap l1 l2).get? (zT1 s.heap l1).objs.size=some _:=p1 (p1 (p1 (Heap.get?_push_size _ rfl)))
 have g1:(zT5 s.heap l1 l2).get? s.heap.objs.size=some _:=p1 (p1 (p1 (p1 (Heap.get?_push_size _ rfl))))
 show _/\_
 rw[z2,z3,z4] at g5
 rw[z1,z2] at g3
 rw[z3] at g4
 rw[z1] at g2
 rw[z4]
 exact⟨⟨_,g5,rfl⟩,h _ ⟨g5,g3,⟨_,_,g4⟩,⟨_,g1,rfl,rfl⟩,⟨_,g2,rfl,rfl⟩⟩ fun c o x=>p1 (p1 (p1 (p1 (p1 x))))⟩
end
noncomputable def Itz (K:PySem.W.Frag)(a b:Addr):It:=
 ⟨fun i H=>∃xs ys x y,SqT K H a xs/\SqT K H b ys/\xs[i]? =some x/\ys[i]? =some y,fun i H v H'=>∃t x y,H t=none/\v=.ref t/\H'=upd H t (.tup [x,y])/\∀xs ys,SqT K H a xs->SqT K H b ys->xs[i]? =some x/\ys[i]? =some y,
  fun i H=>∃xs ys,SqT K H a xs/\SqT K H b ys/\(xs[i]? =none∨ys[i]? =none)⟩
theorem zek {z TI TO i1 i2:Addr}{h:Heap}{a b:Addr}{i:Nat}(S:ZipT h z TI TO i1 i2 a b i)(h1:TI≠TO)(h2:i1≠i2):ZipNe z TI TO i1 i2:=by
 obtain⟨hz,hti,⟨p0,p1,hto⟩,⟨o1,e1,c1,d1⟩,⟨o2,e2,c2,d2⟩⟩:=S
 refine⟨fun e=> ?_,fun e=> ?_,fun e=> ?_,fun e=> ?_,h1,fun e=> ?_,fun e=> ?_,fun e=> ?_,fun e=> ?_,h2⟩
 ·have q:=(show h.get? TI=_ from hti);rw[e,show h.get? z=_ from hz] at q;injection q with q;injection q with q1;injection q1 with q2;revert q2;decide
 ·have q:=(show h.get? TO=_ from hto);rw[e,show h.get? z=_ from hz] at q;injection q with q;injection q with q1;injection q1 with q2;revert q2;decide
 ·rw[e,hz] at e1;cases e1;injection c1 with q2;revert q2;decide
 ·rw[e,hz] at e2;cases e2;injection c2 with q2;revert q2;decide
 ·rw[<-e,hti] at e1;cases e1;injection c1 with q2;revert q2;decide
 ·rw[<-e,hti] at e2;cases e2;injection c2 with q2;revert q2;decide
 ·rw[<-e,hto] at e1;cases e1;injection c1 with q2;revert q2;decide
 ·rw[<-e,hto] at e2;cases e2;injection c2 with q2;revert q2;decide
theorem SqT.fpNe {X:Cx}{pins:List (Addr×Obj)}{σ:St}{H:Hp}{s:Shared}{t c:Addr}{zs:List V}(I:Inv X pins σ H s)(hq:SqT X.K H t zs)(f:FpOk X pins H c):t≠c:=by
 rintro rfl
 rcases hq with (h|⟨o,h⟩)|h
 ·rw[f.1] at h;cases h
 ·rw[f.1] at h;cases h
 ·obtain ⟨o,_,_,hl,_⟩:=h
  have e:=I.ok.mod.kin _ _ hl
  rcases f.2.2.2.1 with z|z
  ·exact I.ok.noex _ _ e z
  ·exact absurd (Nat.lt_of_lt_of_le (Heap.lt_size e) (Nat.le_trans I.ok.bsz z)) (Nat.lt_irrefl _)
theorem zfo {P:Program}{w:World}{K:PySem.W.Frag}{els:List Expr}{kx}{tp:Pos}(a b z TI TO i1 i2:Addr)(h1:TI≠TO)(h2:i1≠i2):Turn P w K (.Tuple els kx tp) (Itz K a b) [z,TI,TO,i1,i2] z (fun i h=>ZipT h z TI TO i1 i2 a b i) where
 mem:=by simp
 obj:=fun i h st c hc=>by
  obtain⟨hz,hti,⟨p0,p1,hto⟩,⟨o1,e1,c1,d1⟩,⟨o2,e2,c2,d2⟩⟩:=st
  simp only[List.mem_cons,List.not_mem_nil,or_false] at hc
  rcases hc with rfl|rfl|rfl|rfl|rfl
  ·exact⟨_,hz,fun v q=>by cases q⟩
  ·exact⟨_,hti,fun v q=>by cases q⟩
  ·exact⟨_,hto,fun v q=>by cases q⟩
  ·exact⟨_,e1,fun v q=>by rw[d1] at q;cases q⟩
  ·exact⟨_,e2,fun v q=>by rw[d2] at q;cases q⟩
 keep:=fun i h h' st k=>by
  obtain⟨hz,hti,⟨p0,p1,hto⟩,⟨o1,e1,r1⟩,⟨o2,e2,r2⟩⟩:=st
  exact⟨k _ (by simp) _ hz,k _ (by simp) _ hti,⟨p0,p1,k _ (by simp) _ hto⟩,⟨o1,k _ (by simp) _ e1,r1⟩,⟨o2,k _ (by simp) _ e2,r2⟩⟩
 item:=by
  intro X hP hw hK hc i pins s σ H E I hf st hg
  subst hP hw hK
  obtain⟨xs,ys,x,y,hqa,hqb,hx,hy⟩:=hg
  obtain⟨its,rv,p,_⟩:=I.tuple hqa
  obtain⟨jts,rw',p',_⟩:=I.tuple hqb
  obtain⟨u,hu,ru⟩:=rv.get hx
  obtain⟨v,hv,rvv⟩:=rw'.get hy
  have D:=zek st h1 h2
  obtain⟨hz,hti,⟨p0,p1,hto⟩,hi1,hi2⟩:=id st
  have apart:∀{t:Addr} {zs:List V},SqT X.K H t zs->t≠z/\t≠TO:=fun hq=>⟨SqT.fpNe I hq (hf z (by simp)),SqT.fpNe I hq (hf TO (by simp))⟩
  refine zfm D st p p' (apart hqa) (apart hqb) (by simpa using hu) (by simpa using hv) fun g k1 k2 k3 k4 k5 k6 k7=> ?_
  refine⟨_,rfl,wpAny_letOwnedTupleGo_zip k1 fun g2 l1 s2=> ?_⟩
  have hne0:s.heap.objs.size≠z:=Nat.ne_of_gt (Heap.lt_size hz)
  have keep:∀c o,c∉[z,TI,TO,i1,i2]->s.heap.get? c=some o->g2.get? c=some o:=fun c o hc e=>s2.extBut _ _ (fun q=>hc (by simp[q])) (k7 c o (fun q=>hc (by simp[q])) (fun q=>hc (by simp[q])) (fun q=>hc (by simp[q])) (fun q=>hc (by simp[q])) e)
  refine⟨.ref s.heap.objs.size,_,I.turnedT (h':=g2) (t':=s.toks) (xs:=[x,y]) hf keep (.cons ru (.cons rvv .nil)) ⟨_,s2.extBut _ _ hne0 k6,rfl,⟨_,rfl⟩,rfl,rfl⟩ (by show 2<=sizeLine;decide),rfl,
   ⟨_,x,y,I.hok.fresh (Nat.le_refl _),rfl,rfl,fun as bs ha hb=>⟨by rw[I.tuple_inj ha hqa];exact hx,by rw[I.tuple_inj hb hqb];exact hy⟩⟩,⟨l1,s2.extBut _ _ D.az k2,⟨_,_,s2.extBut _ _ D.bz k3⟩,k4.extBut s2.extBut D.cz,k5.extBut s2.extBut D.dz⟩,fun c hc=> ?_⟩
  have:c<s.heap.objs.size:=by
   obtain⟨o1,e1,_⟩:=hi1
   obtain⟨o2,e2,_⟩:=hi2
   simp only[List.mem_cons,List.not_mem_nil,or_false] at hc
   rcases hc with rfl|rfl|rfl|rfl|rfl
   ·exact Heap.lt_size hz
   ·exact Heap.lt_size hti
   ·exact Heap.lt_size hto
   ·exact Heap.lt_size e1
   ·exact Heap.lt_size e2
  rw[zah (Nat.ne_of_lt this)]
  exact (hf c hc).1
 done:=by
  intro X hP hw hK hc i pins s σ H E I hf st hg
  subst hP hw hK
  obtain⟨xs,ys,hqa,hqb,hx⟩:=hg
  obtain⟨its,rv,p,_⟩:=I.tuple hqa
  obtain⟨jts,rw',p',_⟩:=I.tuple hqb
  have D:=zek st h1 h2
  have apart:∀{t:Addr} {zs:List V},SqT X.K H t zs->t≠z/\t≠TO:=fun hq=>⟨SqT.fpNe I hq (hf z (by simp)),SqT.fpNe I hq (hf TO (by simp))⟩
  refine zf6 (I.ok.hd hc) D st p p' (apart hqa) (apart hqb) (hx.elim (fun q=>.inl (by simpa using rv.none_of q)) fun q=>.inr (by simpa using rw'.none_of q)) fun g k=>⟨rfl, ?_⟩
  exact I.turnedN (t':=s.toks) hf fun c o hc e=>k c o (fun q=>hc (by simp[q])) (fun q=>hc (by simp[q])) (fun q=>hc (by simp[q])) (fun q=>hc (by simp[q])) e
 self:=fun _ _ _ _ _ st h=>wpAny_pyIter_zip st.z h
section
variable {X:Cx}
noncomputable def iZip (K:PySem.W.Frag)(ta:TA):TI:=fun σ H R=>ta σ H fun vs H1=>∃a b,vs=[.ref a,.ref b]/\(∃xs,SqT K H1 a xs)/\(∃ys,SqT K H1 b ys)/\R (Itz K a b) H1
theorem zgY {els:List Expr}{kx}{tp:Pos}{l l':Expr}{ta:TA}{p pos:Pos}(hg:Gl X "zip")(hm:X.mg "zip" =none)(ha:PA X [l,l'] ta)(hs:starEach [l,l'] X.env=[(false,eval l X.env),(false,eval l' X.env)]:=by rfl)(hs2:starEach [l'] X.env=[(false,eval l' X.env)]:=by rfl):
  PI X (.Tuple els kx tp) (.Call (.Name "zip" p) [l,l'] [] pos) (iZip X.K ta):=by
 intro pins s σ H R I h
 refine Call_ (zcr I hg hm boot_zip (PyProof.Rows.callWith_type1 (thn (ha pos pins s σ H _ I h) fun us s1 zq=> ?_) (by rw[hs,hs2]) (by rw[hs2];rfl)))
 obtain⟨vs,H1,I1,r1,q1⟩:=zq
 obtain⟨a,b,rfl,⟨xs,hqa⟩,⟨ys,hqb⟩,q⟩:=q1
 obtain⟨u,v,rfl,ru,rv⟩:=zf0 r1
 cases (show u=Value.ref a from ru)
 cases (show v=Value.ref b from rv)
 obtain⟨its,_,p1,_⟩:=I1.tuple hqa
 obtain⟨jts,_,p2,_⟩:=I1.tuple hqb
 refine zfn (show s1.heap.IsTuple a its.toArray from p1) (show s1.heap.IsTuple b jts.toArray from p2) fun h' S hk=>wpAny_pyIter_zip S.z ?_
 have I2:Inv X pins σ H1 {s1 with heap:=h'}:=I1.kept (t':=s1.toks) hk
 refine⟨_,_,_,_,H1,rfl,I2,zfo a b _ _ _ _ _ (Nat.ne_of_lt (Nat.lt_succ_self _)) (Nat.ne_of_lt (Nat.lt_succ_self _)),S,fun c hc=> ?_,q⟩
 have:s1.heap.objs.size<=c:=by
  simp only[List.mem_cons,List.not_mem_nil,or_false] at hc
  rcases hc with rfl|rfl|rfl|rfl|rfl<;>first|exact Nat.le_refl _|exact Nat.le_add_right _ _|exact Nat.le_succ _|exact Nat.le_succ_of_le (Nat.le_add_right _ _)
 exact I1.fpOk this (I1.hok.fresh this)
end
section
variable {X:Cx}{e:Expr}{te:TE}{p2 pos:Pos}
end
section
variable {X:Cx}
noncomputable def zgZ:List V->Hp->VK->Prop:=fun xs H Q=>∃j:Int,xs=[.int j]/\∀p,H p=none->Q (.ref p) (upd H p (.rng 0 j))
theorem zcy:zbG X (.type "range") zgZ:=by
 intro pins s σ H xs us Q I rs h
 obtain⟨j,rfl,q⟩:=h
 obtain⟨u,rfl,t,rfl⟩:=zcI rs
 refine call_range_1 ⟨.ref s.heap.objs.size,_,I.laid (o:=.rng 0 j) (fun b ob q=>Heap.get?_push_of_some _ q) (Nat.le_refl _) ?_,rfl,q _ (I.hok.fresh (Nat.le_refl _))⟩
 exact⟨_,_,_,Heap.get?_push_size _ rfl⟩
noncomputable def zf8:List V->Hp->VK->Prop:=fun xs H Q=>∃(a:Addr) (j:Int),xs=[.ref a]/\H a=some (.rng 0 j)/\0<=j/\j<=1000/\∀p,H p=none->Q (.ref p) (upd H p (.lst (zaQ 0 j.toNat)))
theorem zbP (hc:X.calm=true):zbG X (.type "list") zf8:=by
 intro pins s σ H xs us Q I rs h
 obtain⟨a,j,rfl,ha,h0,h1,q⟩:=h
 obtain⟨u,rfl,ru⟩:=zcI rs
 cases (show u=Value.ref a from ru)
 obtain⟨t,u,v,ho⟩:=(show ObjOk X.prog X.w H s.heap a (.rng 0 j) from I.hok a _ ha)
 have hh:X.A.handled=none:=I.ok.hd hc
 have hsz:Builtin.Range.rangeSize 0 j 1=((j.toNat:Nat):Int):=by rw[rangeSize_one];split<;>(first|lia|omega)
 refine call_list_range hh ho (small_one (by (first|lia|omega)) (by (first|lia|omega)) (by (first|lia|omega)) (by (first|lia|omega))) hsz (by (first|lia|omega)) fun h' tk acc c hk hS hi=> ?_
 obtain⟨i1,i2⟩:=hi
 refine⟨.ref s.heap.objs.size,_,I.laid (t':=tk) (o:=.lst (zaQ 0 j.toNat)) hk (Nat.le_refl _) ?_,rfl,q _ (I.hok.fresh (Nat.le_refl _))⟩
 refine⟨by rw[zaq];exact Nat.le_trans (by (first|lia|omega):j.toNat<=1000) (by decide),acc.toList,c, ?_,by simpa using hS⟩
 have key:∀(n:Nat) (l:List Value) (k:Int),l.length=n->(∀(i:Nat) v,l[i]? =some v->∃t,v=Value.int (k+(i:Int)) t)->Vals ((List.range n).map fun (i:Nat)=>V.int (k+(i:Int))) l:=by
  intro n
  induction n with
  |zero=>intro l k hl _;cases l with
   |nil=>exact .nil
   |cons _ _=>cases hl
  | succ n ih=>
   intro l k hl hv
   cases l with
   |nil=>cases hl
   | cons x r=>
    rw[List.range_succ_eq_map,List.map_cons,List.map_map]
    refine .cons ?_ ?_
    ·obtain ⟨t,e⟩:=hv 0 x rfl
     exact⟨t,e⟩
    ·have:=ih r (k+1) (by simpa using hl) (fun i v e=>by
      obtain⟨t,e'⟩:=hv (i+1) v (by simpa using e)
      exact⟨t,by rw[e'];congr 1;push_cast;(first|lia|omega)⟩)
     have e:((fun (i:Nat)=>V.int (k+(i:Int)))∘Nat.succ)=fun (i:Nat)=>V.int (k+1+(i:Int)):=by
      funext i
      show V.int (k+((i+1:Nat):Int))=_
      congr 1;push_cast;(first|lia|omega)
     rw[e]
     exact this
 refine key _ _ 0 (by simpa using i1) fun i v e=> ?_
 obtain⟨t,e'⟩:=i2 i v (by simpa using e)
 exact⟨t,by rw[e'];congr 1;(first|lia|omega)⟩
end
theorem zcJ (f:Nat->Bool):∀(bs:List Bool),(∀i,i<bs.length->f i=bs.getD i false)->(List.range bs.length).all f=bs.all id:=by
 intro bs h
 rw[Bool.eq_iff_iff,List.all_eq_true,List.all_eq_true]
 constructor
 ·intro q b hb
  obtain⟨i,hi,e⟩:=List.getElem_of_mem hb
  have:=q i (List.mem_range.mpr hi)
  rw[h i hi,List.getD_eq_getElem?_getD,List.getElem?_eq_getElem hi,e] at this
  exact this
 ·intro q i hi
  have hi':=List.mem_range.mp hi
  rw[h i hi',List.getD_eq_getElem?_getD,List.getElem?_eq_getElem hi']
  exact q _ (List.getElem_mem hi')
section
variable {X:Cx}
noncomputable def rIsi (K:PySem.W.Frag):List V->Hp->VK->Prop:=fun xs H Q=>∃x T t b,xs=[x,.ty T]/\TyOf K H x t/\PySem.W.kitOne K t (.type T)=some b/\Q (.bl b) H
theorem zf9:zbG X (.builtin "isinstance") (rIsi X.K):=by
 intro pins s σ H xs us Q I rs h
 obtain⟨x,T,t,b,rfl,ty,e,q⟩:=h
 obtain⟨u,c,rfl,ru,rc⟩:=zf0 rs
 cases (show c=Value.type T from rc)
 exact ze5 I ru ty e fun tk=>⟨.bl b,H,I.tok tk,rfl,q⟩
noncomputable def rAll:List V->Hp->VK->Prop:=fun xs H Q=>∃(a:Addr) (bs:List Bool),xs=[.ref a]/\H a=some (.lst (bs.map V.bl))/\Q (.bl (bs.all id)) H
theorem zga (hc:X.calm=true):zbG X (.builtin "all") rAll:=by
 intro pins s σ H xs us Q I rs h
 obtain⟨a,bs,rfl,ha,q⟩:=h
 obtain⟨u,rfl,ru⟩:=zcI rs
 cases (show u=Value.ref a from ru)
 obtain⟨hz,its,n,rv,ho⟩:=(show ObjOk X.prog X.w H s.heap a (.lst (bs.map V.bl)) from I.hok a _ ha)
 have hl:s.heap.IsList a its.toArray:=⟨_,ho,rfl,n,rfl⟩
 have hh:X.A.in1.handled=none:=I.ok.hd hc
 have hlen:its.length=bs.length:=by rw[<-rv.length,List.length_map]
 have hne:a≠s.heap.objs.size:=Nat.ne_of_lt (Heap.lt_size ho)
 have hit:∀(i:Nat) v,its.toArray[i]? =some v->v=Value.bool (bs.getD i false):=fun i v e=>by
  have e':its[i]? =some v:=by simpa using e
  have hi:i<bs.length:=by rw[<-hlen];exact (List.getElem?_eq_some_iff.mp e').1
  obtain⟨u,hu,ru⟩:=rv.get (i:=i) (x:=V.bl bs[i]) (by rw[List.getElem?_map,List.getElem?_eq_getElem hi];rfl)
  rw[e'] at hu;cases hu
  cases (show v=Value.bool bs[i] from ru)
  rw[List.getD_eq_getElem?_getD,List.getElem?_eq_getElem hi]
  rfl
 refine call_all_walk (wpAny_pyIter_list hl ⟨s.heap.objs.size,_,_,_,_,_,fun i=>bs.getD i false,rfl,Walks.list hh _ a hne its.toArray,⟨⟨_,Heap.get?_push_size _ rfl,rfl,rfl⟩,hl.push _⟩, ?_,fun h' tk hk=> ?_⟩)
 ·intro i v s' Q' E' hP hQ
  rw[hit i v hP]
  exact wpAny_truthy_bool hQ
 ·refine ⟨.bl (bs.all id),H,I.kept (t':=tk) fun b o e=>hk b o ?_ (Heap.get?_push_of_some _ e), ?_,q⟩
  ·exact fun hm=>absurd (List.mem_singleton.mp hm) (Nat.ne_of_lt (Heap.lt_size e))
  ·show Value.bool _=Value.bool _
   have hs:its.toArray.size=bs.length:=by simpa using hlen
   rw[hs,zcJ _ bs fun i _=>rfl]
end
mutual
inductive Is (H:Hp):V->PyData->Prop
 |non:Is H .non .none
 |bl (b:Bool):Is H (.bl b) (.bool b)
 |int (i:Int):Is H (.int i) (.int i)
 |str (x:Str):Is H (.str x) (.str x)
 |tup {a:Addr} {vs:List V} {ds:List PyData}:H a=some (.tup vs)->IsAll H vs ds->Is H (.ref a) (.tuple ds)
 |lst {a:Addr} {vs:List V} {ds:List PyData}:H a=some (.lst vs)->IsAll H vs ds->Is H (.ref a) (.list ds)
inductive IsAll (H:Hp):List V->List PyData->Prop
 |nil:IsAll H [] []
 |cons {v:V} {vs:List V} {d:PyData} {ds:List PyData}:Is H v d->IsAll H vs ds->IsAll H (v::vs) (d::ds)
end
theorem IsAll.ints {H:Hp}:∀ns:List Int,IsAll H (ns.map V.int) (ns.map PyData.int)
 |[]=>.nil
 |n::r=>.cons (.int n) (IsAll.ints r)
section
variable {X:Cx}{pins:List (Addr×Obj)}{σ:St}{H:Hp}{s:Shared}
mutual
theorem Inv.reads (I:Inv X pins σ H s):∀{v:V} {d:PyData} {u:Value},Is H v d->RelV v u->∃as,Reads s.heap u d as
 |_,_,_,.non,r=>by cases (show _=Value.none from r);exact⟨_,.none⟩
 |_,_,_,.bl b,r=>by cases (show _=Value.bool b from r);exact⟨_,.bool b⟩
 |_,_,_,.int i,r=>by obtain⟨t,rfl⟩:=r;exact⟨_,.int i t⟩
 |_,_,_,.str x,r=>by obtain⟨t,rfl⟩:=r;exact⟨_,.str x t⟩
 |_,_,_,.tup (a:=a) (vs:=vs) h al,r=>by
  cases (show _=Value.ref a from r)
  obtain⟨_,its,rv,o,ho,hc,⟨n,hd⟩,_⟩:=(show ObjOk X.prog X.w H s.heap a (.tup vs) from I.hok a _ h)
  obtain⟨as,q⟩:=Inv.readsAll I al rv
  exact⟨as,.tuple ho hc hd (by simpa using q)⟩
 |_,_,_,.lst (a:=a) (vs:=vs) h al,r=>by
  cases (show _=Value.ref a from r)
  obtain⟨_,its,n,rv,ho⟩:=(show ObjOk X.prog X.w H s.heap a (.lst vs) from I.hok a _ h)
  obtain⟨as,q⟩:=Inv.readsAll I al rv
  exact⟨_,.list ho rfl rfl (by simpa using q)⟩
theorem Inv.readsAll (I:Inv X pins σ H s):∀{vs:List V} {ds:List PyData} {us:List Value},IsAll H vs ds->Vals vs us->∃as,ReadsAll s.heap us ds as
 |_,_,_,.nil,.nil=>⟨_,.nil⟩
 |_,_,_,.cons h al,.cons r rs=>by
  obtain⟨as,q⟩:=Inv.reads I h r
  obtain⟨bs,q'⟩:=Inv.readsAll I al rs
  exact⟨_,.cons q q'⟩
end
noncomputable def rNeD:R2:=fun x y H Q=>∃d e,Is H x d/\Is H y e/\SeqAt.shaped d=true/\SeqAt.shaped e=true/\Q (.bl (!PyData.eqv d e)) H
theorem zgF (hu:X.A.units+64<cLine):OpR X (compareOp .NotEq) rNeD:=by
 intro pins s σ H x y v u Q I rx ry h
 obtain⟨d,e,hd,he,sd,se,q⟩:=h
 obtain⟨as,ra⟩:=I.reads hd rx
 obtain⟨bs,rb⟩:=I.reads he ry
 exact ne_dataH ra rb sd se hu ⟨.bl _,H,I,rfl,q⟩
end
theorem zel:∀ns:List Int,PyData.canLayAll0 (ns.map PyData.int)=true
 |[]=>rfl
 |_::r=>by simp[PyData.canLayAll0,PyData.canLay0,zel r]
theorem zdv:∀ns:List Int,PyData.depthAll (ns.map PyData.int)=0
 |[]=>rfl
 |_::r=>by simp[PyData.depthAll,PyData.depth,zdv r]
theorem zcd (ns:List Int):SeqAt.shaped (.list (ns.map PyData.int))=true:=by
 simp[SeqAt.shaped,PyData.canLay0,PyData.depth,zel,zdv]
noncomputable def zfp (sc:Scope)(N:List Str)(scope:Scope)(N':List Str)(n:Nat)(ix:List Nat):Bool:=
 scope.kind==.function&&scope.names.all (fun y=>y.2 != .cell)&&scope.names.all (fun y=>y.2 != .local||scope.names.lookup y.1==some .local)&&
 scope.names.all (fun y=>y.2 != .free||(sc.names.lookup y.1==some .cell||sc.names.lookup y.1==some .free))&&scope.names.all (fun y=>y.2 != .free||scope.names.lookup y.1 != some .local)&&
 N'.length==n+ix.length&&(List.range ix.length).all fun j=>match ix[j]?,N'[n+j]? with
  |some i,some x=>N[i]? ==some x&&scope.names.contains (x,.free)
  |_,_=>false
theorem CompScope.of {X:Cx}{sc:Scope}{N:List Str}{scope:Scope}{N':List Str}{n:Nat}{ix:List Nat}(h:zfp sc N scope N' n ix=true)(hs:X.env.scope=sc)(hN:X.N=N):CompScope X scope N' n ix:=by
 unfold zfp at h
 simp only[Bool.and_eq_true,List.all_eq_true] at h
 obtain⟨⟨⟨⟨⟨⟨h1,h2⟩,h3⟩,h4⟩,h5⟩,h6⟩,h7⟩:=h
 subst hs hN
 refine⟨eq_of_beq h1,fun y hy=>by simpa using h2 y hy,fun y hy hl=> ?_,fun y hy hf=> ?_,fun y hy hl=> ?_,eq_of_beq h6,fun j i e=> ?_⟩
 ·have:=h3 y hy
  rw[hl] at this
  simpa using this
 ·have:=h4 y hy
  rw[hf] at this
  simpa using this
 ·have:=h5 _ hy
  rw[hl] at this
  simp at this
 ·have hj:j<ix.length:=(List.getElem?_eq_some_iff.mp e).1
  have:=h7 j (List.mem_range.mpr hj)
  rw[e] at this
  cases hx:N'[n+j]? with
  |none=>rw[hx] at this;simp at this
  |some x=>
   rw[hx] at this
   simp only[Bool.and_eq_true] at this
   exact⟨x,rfl,eq_of_beq this.1,by simpa using this.2⟩
structure Cal (P:Program) (w:World) (K:PySem.W.Frag) (mg:Str->Option Value) (base:Heap) (k:Nat) (x:Str) (ps:List Str) (sp:Sp):Prop where
 ex:∃f fd,FnOk P w K mg base CX0 k f fd ps sp/\mg x=some (.ref f)/\PySem.W.keepIn K (.ref f)=true/\Binds K fd ps []
section
variable {X:Cx}{k:Nat}{ps:List Str}{sp:Sp}{x:Str}{p pos:Pos}{e:Expr}{es:List Expr}{t:TA}
theorem zaL (C:Cal X.prog X.w X.K X.mg X.base k x ps sp)(hr:Room k X.A)(hg:Gl X x)(ha:PA X (e::es) t)(hdb:(x==("__debug__" :Str))=false:=by decide)(he:starEach (e::es) X.env=(false,eval e X.env)::starEach es X.env:=by rfl)
  (hpl:(backTo pos (starEach es X.env)).any (·.1)=false:=by rfl):PE X (.Call (.Name x p) (e::es) [] pos) (fun σ H Q=>t σ H fun vs H1=>sp vs H1 Q E0):=by
 obtain⟨f,fd,F,hm,hk,hb⟩:=C.ex
 exact (zgQ F hr hg hm hk hb .nil zhJ ha hdb he hpl).mono fun σ H Q q=>by
  have e:(fun (vs:List V) (H1:Hp)=>sp (vs++[]) H1 Q E0)=fun vs H1=>sp vs H1 Q E0:=by funext vs H1;rw[List.append_nil]
  show t σ H fun vs H1=>sp (vs++[]) H1 Q E0
  rw[e]
  exact q
end
structure Top (mg:Str->Option Value):Prop where
 n_len:mg "len" =none
 n_tuple:mg "tuple" =none
 n_list:mg "list" =none
 n_range:mg "range" =none
 n_int:mg "int" =none
 n_bool:mg "bool" =none
 n_isinstance:mg "isinstance" =none
 n_all:mg "all" =none
 n_zip:mg "zip" =none
 n_enumerate:mg "enumerate" =none
 n_min:mg "min" =none
 n_sum:mg "sum" =none
 n_max:mg "max" =none
 n_abs:mg "abs" =none
 n_sorted:mg "sorted" =none
section
variable {X:Cx}
end
theorem zba {n:Nat}(h:n<=1000):n<sizeLine:=Nat.lt_of_le_of_lt h (by decide)
theorem zaz (ns:List Int):(ns.map V.int).length=ns.length:=List.length_map ..
theorem zdS {f:V->V}{g:Int->Int}(h:∀n,f (.int n)=.int (g n))(ns:List Int):(ns.map V.int).map f=(ns.map g).map V.int:=by
 rw[List.map_map,List.map_map]
 apply List.map_congr_left
 intro n _
 exact h n
theorem zdT {α:Type}(l:List α):l.filter (fun _=>true)=l:=by simp
noncomputable def Keep (p q:Addr)(H H':Hp):Prop:=∀b o,H b=some o->b≠p->b≠q->H' b=some o
theorem Keep.refl (p q:Addr)(H:Hp):Keep p q H H:=fun _ _ h _ _=>h
theorem Keep.trans {p q:Addr}{H H1 H2:Hp}(a:Keep p q H H1)(b:Keep p q H1 H2):Keep p q H H2:=fun c o h h1 h2=>b c o (a c o h h1 h2) h1 h2
theorem Same.keep {p q:Addr}{H H':Hp}(s:Same H H'):Keep p q H H':=fun b o h _ _=>s b o h
noncomputable def num0 (n:Nat):List Int:=(List.range n).map fun (i:Nat)=>(i:Int)
theorem PS.mono {X:Cx}{st:Stmt}{t t':TS}(h:PS X st t)(m:∀D σ H,t' D σ H->t D σ H):PS X st t':=fun pins s σ H D I q=>h pins s σ H D I (m D σ H q)
theorem zbl (n:Nat):zaQ 0 n=(num0 n).map V.int:=by
 unfold zaQ num0
 rw[List.map_map]
 apply List.map_congr_left
 intro i _
 show V.int (0+(i:Int))=V.int (i:Int)
 rw[Int.zero_add]
theorem zgb {n:Nat}{x:Int}(h:x∈num0 n):0<=x/\x<n:=by
 unfold num0 at h
 obtain⟨i,hi,rfl⟩:=List.mem_map.mp h
 have:=List.mem_range.mp hi
 (first|lia|omega)
theorem zem {K:PySem.W.Frag}{a b:String}{r:Bool}(h:(if (Value.type a==Value.type b)=true then some true else if PySem.W.kitMeta b=true then (fastBuiltinMro a).map (·.contains (Value.type b)) else none)=some r):PySem.W.kitOne K (.type a) (.type b)=some r:=h
theorem zbQ {K:PySem.W.Frag}:PySem.W.kitOne K (.type "int") (.type "tuple")=some false:=zem (by decide+kernel)
theorem zce {K:PySem.W.Frag}:PySem.W.kitOne K (.type "int") (.type "bool")=some false:=zem (by decide+kernel)
theorem zcz {K:PySem.W.Frag}:PySem.W.kitOne K (.type "int") (.type "int")=some true:=zem (by decide+kernel)
theorem zbu {K:PySem.W.Frag}:PySem.W.kitOne K (.type "tuple") (.type "tuple")=some true:=zem (by decide+kernel)
theorem zbH {X:Cx}{i j:Nat}{x y:Str}{px py pt:Pos}{kt:Nat}(hc:X.calm=true)(hN:X.N.Nodup)(hi:X.N[i]? =some x)(hj:X.N[j]? =some y)(hx:Loc X.env.scope x)(hy:Loc X.env.scope y)(fx:X.fn x=true∨X.env.scope.names.lookup x=some .local)(fy:X.fn y=true∨X.env.scope.names.lookup y=some .local):
  PG X (.Tuple [.Name x px,.Name y py] kt pt) (gTup X.K 2 (zdP (zbr i) (zdP (zbr j) gNil))):=zbN hc (zax (zak hN hi hx fx) (zax (zak hN hj hy fy) zbj))
theorem zgc {X:Cx}(K:PySem.W.Frag){i j:Nat}{x y:Str}{px py pt:Pos}{kt:Nat}(hK:X.K=K)(hc:X.calm=true)(hN:X.N.Nodup)(hi:X.N[i]? =some x)(hj:X.N[j]? =some y)(hx:Loc X.env.scope x)(hy:Loc X.env.scope y)(fx:X.fn x=true∨X.env.scope.names.lookup x=some .local)(fy:X.fn y=true∨X.env.scope.names.lookup y=some .local):
  PG X (.Tuple [.Name x px,.Name y py] kt pt) (gTup K 2 (zdP (zbr i) (zdP (zbr j) gNil))):=hK▸zbN hc (zax (zak hN hi hx fx) (zax (zak hN hj hy fy) zbj))
theorem zen {X:Cx}(K:PySem.W.Frag)(hK:X.K=K):IxR X (rIxL K):=hK▸zau
theorem zcR {F:V->V->Prop}:∀{xs ys:List V},Paired F xs ys->∀{i:Nat} {x y:V},xs[i]? =some x->ys[i]? =some y->F x y
 |_,_,.nil,_,_,_,h,_=>by simp at h
 |_,_,.cons r _,0,_,_,h,h'=>by simp at h h';subst h h';exact r
 |_,_,.cons _ t,i+1,_,_,h,h'=>zcR t (by simpa using h) (by simpa using h')
theorem zdU {K:PySem.W.Frag}{a b:Addr}{xs ys:List V}{te:TE}{σ:L2.St}{H1:Hp}{Q:VK}(hx:SqT K H1 a xs)(hy:SqT K H1 b ys)(hxy:xs.length=ys.length)(small:xs.length<=1000)(Fx:∀{H},Same H1 H->SqT K H a xs)(Fy:∀{H},Same H1 H->SqT K H b ys)
  (he:∀(i:Nat) x y,xs[i]? =some x->ys[i]? =some y->∀H,Same H1 H->∀Q':VK,(∀H',Same H H'->Q' (.bl true) H')->te [some x,some y] H Q')
  (fin:∀acc H',H1 acc=none->Same H1 H'->H' acc=some (.lst ((List.replicate xs.length true).map V.bl))->Q (.ref acc) H'):
  LcW (Itz K a b) H1 (gTup K 2 (zdP (zbr 0) (zdP (zbr 1) gNil))) zaZ te 2 [] σ Q:=by
 intro acc ha
 refine⟨fun i m H=>m=xs.length-i/\i<=xs.length/\Same H1 H/\H acc=some (.lst ((List.replicate i true).map V.bl)),⟨xs.length,by simp,Nat.zero_le _,zac ha,zab⟩, ?_⟩
 rintro i m H ⟨rfl,hi,sm,hacc⟩
 by_cases hlt:i<xs.length
 ·have hlt':i<ys.length:=by (first|lia|omega)
  refine .inr ⟨⟨xs,ys,xs[i],ys[i],Fx sm,Fy sm,List.getElem?_eq_getElem hlt,List.getElem?_eq_getElem hlt'⟩,fun v H' y=> ?_⟩
  obtain⟨t,x,y,ht,rfl,rfl,hv⟩:=y
  obtain⟨e1,e2⟩:=hv xs ys (Fx sm) (Fy sm)
  refine⟨t,_,rfl,SqT.of zab,rfl,x,_,rfl,y,_,rfl,rfl,⟨rfl,fun j v e=> ?_⟩, ?_⟩
  ·match j,e with
   |0,e=>cases e
   |1,e=>cases e
   |j+2,e=>cases e
  ·unfold zaZ
   dsimp only
   rw[if_pos rfl]
   refine he i x y e1 e2 _ (sm.trans (zac ht)) _ fun H4 s4=> ?_
   have h4:H4 acc=some (.lst ((List.replicate i true).map V.bl)):=s4 _ _ (by rw[zah (zap hacc ht)];exact hacc)
   refine⟨_,h4,zba (by simp;(first|lia|omega)),xs.length-(i+1),by (first|lia|omega),rfl,hlt, ?_, ?_⟩
   ·exact zan ((sm.trans (zac ht)).trans s4) ha
   ·rw [zab,List.replicate_succ',List.map_append]
    rfl
 ·have e:i=xs.length:=by (first|lia|omega)
  subst e
  exact .inl ⟨⟨xs,ys,Fx sm,Fy sm,.inl (List.getElem?_eq_none (Nat.le_refl _))⟩,fin acc H ha sm hacc⟩
theorem zc1 {ys:List Int}{i:Int}(h0:0<=i)(h1:i<ys.length):atI (ys.map V.int) i=some (.int (ys.getD i.toNat 0)):=by
 have hlt:i.toNat<ys.length:=by (first|lia|omega)
 have e:((i.toNat:Nat):Int)=i:=by (first|lia|omega)
 have:=zaN (xs:=ys.map V.int) (j:=i.toNat) (v:=.int (ys.getD i.toNat 0)) (by rw[List.getElem?_map,List.getD_eq_getElem?_getD,List.getElem?_eq_getElem hlt];rfl)
 rwa [e] at this
theorem zb4 {n:Nat}{x:V}(h:x∈zaQ 0 n):∃k:Int,x=.int k/\0<=k/\k<n:=by
 rw[zbl] at h
 obtain⟨k,hk,rfl⟩:=List.mem_map.mp h
 exact⟨k,rfl,zgb hk⟩
theorem zfq {n:Nat}{te:TE}{ix:List Nat}{σ:L2.St}{H1:Hp}{Q:VK}(g:Int->Int)(small:n<=1000)(he:∀k:Int,0<=k->k<n->∀H,Same H1 H->∀Q':VK,Q' (.int (g k)) H->te (some (.int k)::ix.map fun i=>σ.getD i none) H Q')
  (fin:∀acc,H1 acc=none->Q (.ref acc) (upd H1 acc (.lst (((num0 n).map g).map V.int)))):LcW (Itr 0 n) H1 (zbr 0) zaZ te 1 ix σ Q:=by
 refine zfk (zaF (lo:=0) (n:=n)) (zba (by rw[zaq];exact small)) (fun _=>true) (fun v=>match v with| .int k=>.int (g k)|v=>v) (fun _ _=>trivial) (fun _ _ _ _ _ q=>q) (fun x hx _ H' s' Q' q=> ?_) fun acc hacc=> ?_
 ·obtain ⟨k,rfl,h0,h1⟩:=zb4 hx
  exact he k h0 h1 H' s' Q' q
 ·rw [zdT,zbl,zdS (g:=g) fun n=>rfl]
  exact fin acc hacc
structure Def (K:PySem.W.Frag) (x:Str) (st:Stmt):Prop where
 ex:∃(f:Addr) (oc:Value) (od an:Option Addr) (kV doc pm cdv ct:Value) (osl:Array (Option Value)),PySem.W.nsIn K mainGlobals x=some (some (.ref f))/\
  K.lookup f=some ⟨oc,od,.func (PySem.W.fnOf x x (zbe st) (zaO st) (zag st) .none kV doc pm an cdv ct),osl⟩/\PySem.W.codeIn K cdv x=true/\PySem.W.keepIn K (.ref f)=true
section
variable {K:PySem.W.Frag}{h:Heap}{mg:Str->Option Value}{x:Str}{st:Stmt}
theorem Def.of {f:Addr}{oc:Value}{od an:Option Addr}{kV doc pm cdv ct:Value}{osl:Array (Option Value)}(a:PySem.W.nsIn K mainGlobals x=some (some (.ref f)))
  (l:K.lookup f=some ⟨oc,od,.func (PySem.W.fnOf x x (zbe st) (zaO st) (zag st) .none kV doc pm an cdv ct),osl⟩) (c:PySem.W.codeIn K cdv x=true) (k:PySem.W.keepIn K (.ref f)=true):Def K x st:=
 ⟨f,oc,od,an,kV,doc,pm,cdv,ct,osl,a,l,c,k⟩
theorem Def.fn (D:Def K x st)(X:K.In h)(G:h.Ns mainGlobals mg):∃f fd,Fun K x x st f fd/\mg x=some (.ref f):=by
 obtain⟨f,oc,od,an,kV,doc,pm,cdv,ct,osl,a,l,c,k⟩:=D.ex
 exact⟨f,_,zhK (st:=st) l c k,PySem.W.mg_of X G a⟩
end
structure TopK (K:PySem.W.Frag):Prop where
 k_len:PySem.W.nsIn K mainGlobals "len" =some none
 k_tuple:PySem.W.nsIn K mainGlobals "tuple" =some none
 k_list:PySem.W.nsIn K mainGlobals "list" =some none
 k_range:PySem.W.nsIn K mainGlobals "range" =some none
 k_int:PySem.W.nsIn K mainGlobals "int" =some none
 k_bool:PySem.W.nsIn K mainGlobals "bool" =some none
 k_isinstance:PySem.W.nsIn K mainGlobals "isinstance" =some none
 k_all:PySem.W.nsIn K mainGlobals "all" =some none
 k_zip:PySem.W.nsIn K mainGlobals "zip" =some none
 k_enumerate:PySem.W.nsIn K mainGlobals "enumerate" =some none
 k_min:PySem.W.nsIn K mainGlobals "min" =some none
 k_sum:PySem.W.nsIn K mainGlobals "sum" =some none
 k_max:PySem.W.nsIn K mainGlobals "max" =some none
 k_abs:PySem.W.nsIn K mainGlobals "abs" =some none
 k_sorted:PySem.W.nsIn K mainGlobals "sorted" =some none
theorem TopK.top {K:PySem.W.Frag}{h:Heap}{mg:Str->Option Value}(T:TopK K)(X:K.In h)(G:h.Ns mainGlobals mg):Top mg:=
  ⟨PySem.W.mg_none_of X G T.k_len,PySem.W.mg_none_of X G T.k_tuple,PySem.W.mg_none_of X G T.k_list,PySem.W.mg_none_of X G T.k_range,PySem.W.mg_none_of X G T.k_int,PySem.W.mg_none_of X G T.k_bool,PySem.W.mg_none_of X G T.k_isinstance,
   PySem.W.mg_none_of X G T.k_all,PySem.W.mg_none_of X G T.k_zip,PySem.W.mg_none_of X G T.k_enumerate,PySem.W.mg_none_of X G T.k_min,PySem.W.mg_none_of X G T.k_sum,PySem.W.mg_none_of X G T.k_max,PySem.W.mg_none_of X G T.k_abs,PySem.W.mg_none_of X G T.k_sorted⟩
open Sem (wp)
open AutoSeq1 (wpAny_loadPart')
section
variable {prog:Program}{w:World}{A:Around}{E:Value->Shared->Prop}{s:Shared}
end
section
variable {X:Cx}
end
open Sem (wp)
open AutoSeq1 (wpAny_loadPart')
section
variable {prog:Program}{w:World}{A:Around}{E:Value->Shared->Prop}{s:Shared}
end
section
variable {X:Cx}{pos:Pos}
end
section
variable {prog:Program}{w:World}{A:Around}{E:Value->Shared->Prop}{s:Shared}
end
section
variable {X:Cx}
end
noncomputable def atO (ns:List Int)(x:Int):Int:=ns.getD x.toNat 0
section
variable {m:Nat}{ns ms ks:List Int}{x:Int}
end
noncomputable def itO (ns:List Int)(x:Int):Nat->Int
 |0=>x
 |k+1=>atO ns (itO ns x k)
noncomputable def orbO (ns:List Int)(x:Int)(k:Nat):List Int:=(List.range k).map (itO ns x)
structure IsRound (ns:List Int) (x:Int) (row:List Int):Prop where
 ex:∃k,row=orbO ns x (k+1)/\itO ns x (k+1)=x
 nd:row.Nodup
theorem zfr {α:Type}[DecidableEq α]:∀{l L:List α},l.Nodup->(∀y∈l,y∈L)->l.length<=L.length
 |[],_,_,_=>Nat.zero_le _
 | a::t,L,h,s=>by
  have ha:=s a (by simp)
  have hn:=List.nodup_cons.mp h
  have h1:t.length<=(L.erase a).length:=zfr hn.2 fun y hy=>by
   have hne:y≠a:=fun e=>hn.1 (e▸hy)
   exact (List.mem_erase_of_ne hne).mpr (s y (by simp[hy]))
  have h2:=List.length_erase_of_mem ha
  have h3:0<L.length:=List.length_pos_of_mem ha
  simp only[List.length_cons]
  (first|lia|omega)
section
variable {m:Nat}{ns:List Int}{x y:Int}
open Classical in
noncomputable def rowO (ns:List Int)(x:Int):List Int:=if h:∃row,IsRound ns x row then choose h else []
structure MetO (ns:List Int) (m:Nat) (rows:List (List Int)):Prop where
 nd:rows.flatten.Nodup
 rng:∀y∈rows.flatten,0<=y/\y<m
 clo:∀y∈rows.flatten,atO ns y∈rows.flatten
 row:∀r∈rows,∃f:Int,0<=f/\f<m/\r=rowO ns f
end
section
variable {X:Cx}
end
section
variable {prog:Program}{w:World}{A:Around}{E:Value->Shared->Prop}{s:Shared}
theorem zbI {t sl:Addr}{items:Array Value}{vl vu:Value}{lo hi:Option Int}{Q:Value->Shared->Prop}(ht:IsTup s.heap t items)(hs:s.heap.IsSliceOf sl vl vu .none)(pl:IsPart vl lo)(pu:IsPart vu hi)
  (hw:HT.sIx items.size 0 lo=0/\HT.sIx items.size items.size hi=items.size) (h:Q (.ref t) s):wpAny (model prog w) A (getItem (.ref t) (.ref sl)) Q E s:=by
 obtain⟨os,hos,hcs,hds⟩:=id hs
 have hTs:s.TypeIs (.ref sl) "slice" :=⟨os,hos,hcs⟩
 unfold getItem
 try with_reducible refine wpAny_holding ?_
 first|refine wpAny_bind (wpAny_pure ?_)|skip
 refine wpAny_bind (wpAny_sequenceKey ht.typeIs (by decide) ?_)
 refine wpAny_bind (wpAny_callSpecial?_slot (name:=Str.ofString "__getitem__") ht.typeIs PyProof.Rows.slot_tuple_getitem
  (wpAny_call_entry PyProof.Rows.slot_tuple_getitem ht.typeIs entry_tuple_getitem ?_ (args_tuple_getitem _ _)))
 show wpAny _ _ (Builtin.Tuple.tupleItemsOf (.ref t) >>= _) _ _ s
 refine wpAny_bind (tupleItemsOf_ ht ?_)
 refine wpAny_bind (wpAny_typeOf hTs ?_)
 rw[if_pos (by decide)]
 refine wpAny_bind (HT.sliceApplied_gen hs pl pu ?_)
 show wpAny _ _ (if (((HT.sIx items.size 0 lo:Nat):Int)==0&&(1:Int)==1&&(HT.sIx items.size items.size hi-HT.sIx items.size 0 lo)==items.size)=true then _ else _) _ _ s
 rw[if_pos (by rw[hw.1,hw.2];simp)]
 unfold Builtin.Tuple.tupleIsExact
 refine wpAny_bind (wpAny_bind (wpAny_typeOf ht.typeIs (wpAny_pure ?_)))
 rw[if_pos (by decide)]
 refine wpAny_bind (wpAny_rule ?_)
 exact wpAny_pure ⟨_,rfl,wpAny_pure h⟩
end
section
variable {X:Cx}{e:Expr}{te:TE}{p2 pos:Pos}
end
noncomputable abbrev RowsAt (H:Hp)(zs:List Addr)(rows:List (List Int)):Prop:=Paired (fun (z:Addr) (r:List Int)=>H z=some (.tup (r.map V.int))) zs rows
theorem RowsAt.sameT {H H':Hp}{zs:List Addr}{rows:List (List Int)}(h:RowsAt H zs rows)(s:SameT H H'):RowsAt H' zs rows:=Paired.mapP h fun _ _ q=>s _ _ q
theorem RowsAt.same {H H':Hp}{zs:List Addr}{rows:List (List Int)}(h:RowsAt H zs rows)(s:Same H H'):RowsAt H' zs rows:=h.sameT s.t
structure Bits (bs:List Bool) (m:Nat) (S:List Int):Prop where
 len:bs.length=m
 bit:∀i,i<m->bs[i]? =some (decide ((i:Int)∈S))
theorem zbA (zs:List Addr):(zs.map V.ref).length=zs.length:=List.length_map ..
inductive Ents (P:Params):List DictEntry->List (Str×Addr)->Prop
 |nil:Ents P [] []
 |cons {x:Str} {t:Tok} {f:Addr} {es:List DictEntry} {kvs:List (Str×Addr)}:Ents P es kvs->Ents P (⟨PyData.keyHash P x,.str x t,.ref f⟩::es) ((x,f)::kvs)
structure GDict (K:PySem.W.Frag) (P:Params) (C:Addr) (kvs:List (Str×Addr)):Prop where
 ex:∃es n,K.lookup C=some {cls:=.type "dict",data:=.dict es n}/\Ents P es.toList kvs
 nd:(kvs.map (·.1)).Nodup
theorem Ents.keys {prog:Program}{w:World}:∀{es:List DictEntry} {kvs:List (Str×Addr)},Ents w.params es kvs->∀e∈es,∃k,(PySem.strKind prog w).is k e.key=true/\e.hash=(PySem.strKind prog w).hash k
 |_,_,.nil,_,h=>by cases h
 |_,_,.cons (x:=x) t,e,h=>by
  rcases List.mem_cons.mp h with rfl|h
  ·exact⟨x,by simp[PySem.strKind,Value.isStrOf],rfl⟩
  ·exact Ents.keys t e h
theorem Ents.pairs {prog:Program}{w:World}:∀{es:List DictEntry} {kvs:List (Str×Addr)},Ents w.params es kvs->Pairs (PySem.strKind prog w) es (kvs.map fun kv=>(kv.1,Value.ref kv.2))
 |_,_,.nil=>.nil
 |_,_,.cons t=>.cons (by simp[PySem.strKind,Value.isStrOf]) rfl (Ents.pairs t)
theorem zcf:∀(kvs:List (Str×Addr)) (x:Str),valueAt (kvs.map fun kv=>(kv.1,Value.ref kv.2)) x=(kvs.lookup x).map Value.ref
 |[],_=>rfl
 | (y,f)::t,x=>by
  have ih:=zcf t x
  unfold valueAt at ih ⊢
  rw[List.map_cons,List.find?_cons,List.lookup_cons]
  by_cases h:y=x
  ·subst h
   simp
  ·have h2:(x==y)=false:=beq_eq_false_iff_ne.mpr fun z=>h z.symm
   simp only[decide_eq_false h,h2]
   exact ih
section
variable {X:Cx}
noncomputable def rGd (K:PySem.W.Frag)(P:Params):R2:=fun x y H Q=>∃C kvs z f,x=.ref C/\y=.str z/\GDict K P C kvs/\kvs.lookup z=some f/\Q (.ref f) H
theorem zit:IxR X (rGd X.K X.w.params):=by
 intro value slice pins s σ H x y v u Q I rx ry h hs
 obtain⟨C,kvs,z,f,rfl,rfl,⟨⟨es,n,hk,en⟩,nd⟩,hl,q⟩:=h
 cases rx
 obtain⟨t,rfl⟩:=ry
 have hg:=I.kIn C _ hk
 have hD:s.heap.DictOf (PySem.strKind X.prog X.w) C (kvs.map fun kv=>(kv.1,Value.ref kv.2)):=
  ⟨_,es,n,hg,⟨rfl,rfl,rfl⟩,rfl,fun e he=>en.keys e (by simpa using he),en.pairs,by rw[List.map_map];exact nd⟩
 have fin:EP X pins σ Q (.ref f) {s with toks:=s.toks+1}:=⟨.ref f,H,I.tok _,rfl,q⟩
 exact subscriptTail_builtinR (x:=.ref f) hD.typeIs PySem.F.slot_dict_getitem.lookup
  (wpAny_getItem_of (k:=z) (knd:=PySem.strKind X.prog X.w) (Q:=fun r s'=>r=.ref f/\EP X pins σ Q r s') (by simp[PySem.strKind,Value.isStrOf]) hD.mapOf (by rw[zcf,hl];rfl) ⟨rfl,fin⟩) hs
end
structure CalF (P:Program) (w:World) (K:PySem.W.Frag) (mg:Str->Option Value) (base:Heap) (k:Nat) (f:Addr) (ps:List Str) (sp:Sp):Prop where
 ex:∃fd,FnOk P w K mg base CX0 k f fd ps sp/\PySem.W.keepIn K (.ref f)=true/\Binds K fd ps []
section
variable {X:Cx}{k:Nat}{x:Str}{p pos:Pos}{e:Expr}{es:List Expr}{t:TA}{tf:TE}
noncomputable def zhL (P:Program)(w:World)(K:PySem.W.Frag)(mg:Str->Option Value)(base:Heap)(k:Nat)(tf:TE)(t:TA):TE:=fun σ H Q=>tf σ H fun v H1=>∃f ps sp,v=.ref f/\CalF P w K mg base k f ps sp/\t σ H1 fun vs H2=>sp vs H2 Q E0
theorem zeo (hf:PE X (.Name x p) tf)(hr:Room k X.A)(ha:PA X (e::es) t)(he:starEach (e::es) X.env=(false,eval e X.env)::starEach es X.env:=by rfl)
  (hpl:(backTo pos (starEach es X.env)).any (·.1)=false:=by rfl):PE X (.Call (.Name x p) (e::es) [] pos) (zhL X.prog X.w X.K X.mg X.base k tf t):=by
 intro pins s σ H Q I h
 refine wpAny_Call_Name_kw (thn (hf pins s σ H _ I h) fun v s1 zq=> ?_)
 obtain⟨y,H1,I1,r1,f,ps,sp,ey,⟨fd,F,hk,hb⟩,q1⟩:=zq
 subst ey
 cases (show v=Value.ref f from r1)
 refine PySem.W.callWith_K (h₀:=X.base) I1.ok.mod.kin hk (thn (ha pos pins s1 σ H1 _ I1 q1) fun us s2 ⟨vs,H2,I2,r2,q2⟩=>⟨I2.kIn, ?_⟩) he hpl
 exact zgE F hr hb .nil zhJ I2 r2 (by rw[List.append_nil];exact q2)
end
section
variable {prog:Program}{w:World}{A:Around}{R:Result->Shared->Prop}{s:Shared}{elt tg iter tg2 iter2:Expr}{ifs ifs2:List Expr}{scope:Scope}{pos:Pos}{it acc:Value}{env:Env}
end
section
variable {X:Cx}{elt tg iter tg2 iter2:Expr}{ifs ifs2:List Expr}{scope:Scope}{pos:Pos}{wi wi2:TI}{g g2:TG}{tt tt2:TT}{te:TE}{N':List Str}{n:Nat}{ix:List Nat}
end
noncomputable def Itel (K:PySem.W.Frag)(a:Addr):It:=
 ⟨fun i H=>∃xs x,SqL K H a xs/\xs[i]? =some x,fun i H v H'=>∃t x,H t=none/\v=.ref t/\H'=upd H t (.tup [.int i,x])/\∀xs,SqL K H a xs->xs[i]? =some x,fun i H=>∃xs,SqL K H a xs/\xs.length=i⟩
theorem zeP {P:Program}{w:World}{K:PySem.W.Frag}{els:List Expr}{kx}{tp:Pos}(a e it:Addr)(hne:e≠it):Turn P w K (.Tuple els kx tp) (Itel K a) [e,it] e (fun i h=>(∃old,IsEnum h e it i old)/\h.IsListIter it a i) where
 mem:=by simp
 obj:=fun i h st b hb=>by
  obtain⟨⟨old,he⟩,o,ho,hc,hd⟩:=st
  rcases List.mem_cons.mp hb with rfl|hb
  ·exact⟨_,he,fun v z=>by cases z⟩
  ·rw [List.mem_singleton.mp hb]
   exact⟨o,ho,fun v z=>by rw[hd] at z;cases z⟩
 keep:=fun i h h' st k=>by
  obtain⟨⟨old,he⟩,o,ho,r⟩:=st
  exact⟨⟨old,k e (by simp) _ he⟩,o,k it (by simp) _ ho,r⟩
 item:=by
  intro X hP hw hK hc i pins s σ H E I hf st hg
  subst hP hw hK
  obtain⟨xs,x,hq,hx⟩:=hg
  obtain⟨its,rv,p,hz⟩:=I.list hq
  obtain⟨u,hu,ru⟩:=rv.get hx
  obtain⟨⟨old,he⟩,hi⟩:=st
  obtain⟨o,ho,hcl,hd⟩:=id hi
  have hT:s.heap.IsList a its.toArray:=p.isList
  have hai:a≠it:=fun z=>by
   obtain⟨o',e1,e2,_⟩:=p.isList
   rw[z,ho] at e1;cases e1;rw[hcl] at e2;injection e2 with z2;revert z2;decide
  have hae:e≠a:=fun z=>by
   obtain⟨o',e1,e2,_⟩:=p.isList
   rw[<-z,he] at e1;cases e1;injection e2 with z2;revert z2;decide
  have hlt:i<its.toArray.size:=by
   have:=(List.getElem?_eq_some_iff.mp hu).1
   simpa using this
  have hh:X.A.in1.handled=none:=I.ok.hd hc
  refine wpAny_pyNext_enum_itemD (Draws.list hh it a hai its.toArray) he ⟨hi,hT⟩ hlt hne (by simp[hne,hae]) fun x' h1 tk hP1 ho1 hs1 hT1 hz1 hk1=> ?_
  have ex:x'=u:=by
   have q:its[i]? =some x':=by simpa using hP1
   rw[hu] at q;exact (Option.some.inj q).symm
  subst ex
  refine⟨_,rfl,wpAny_letOwnedTupleGo_enum ho1 fun h2 he2 hs2=> ?_⟩
  have hne0:s.heap.objs.size≠e:=Nat.ne_of_gt (Heap.lt_size he)
  have keep:∀b o,b∉[e,it]->s.heap.get? b=some o->h2.get? b=some o:=fun b o hb e0=>(hs2.2 b fun z=>hb (by simp[z])).trans (hk1 b o (fun z=>hb (by simp[z])) (fun z=>hb (by simp[z])) e0)
  refine⟨.ref s.heap.objs.size,_,I.turnedT (h':=h2) (t':=tk+1) (xs:=[.int i,x]) hf keep (.cons ⟨tk,rfl⟩ (.cons ru .nil)) ⟨_,(hs2.2 _ hne0).trans hT1,rfl,⟨_,rfl⟩,rfl,rfl⟩ (by show 2<=sizeLine;decide),rfl,⟨_,x,I.hok.fresh (Nat.le_refl _),rfl,rfl,fun ys hy=>by rw[I.list_inj hy hq];exact hx⟩,⟨⟨_,by simpa using he2⟩, ?_⟩,fun b hb=> ?_⟩
  ·obtain ⟨⟨o1,e1,r1⟩,_⟩:=hs1
   exact⟨o1,(hs2.2 it (Ne.symm hne)).trans e1,r1⟩
  ·rcases List.mem_cons.mp hb with rfl|hb'
   ·rw[zah (Nat.ne_of_lt (Heap.lt_size he))];exact (hf _ hb).1
   ·have e9:=List.mem_singleton.mp hb'
    subst e9
    rw[zah (Nat.ne_of_lt (Heap.lt_size ho))];exact (hf _ hb).1
 done:=by
  intro X hP hw hK hc i pins s σ H E I hf st hg
  subst hP hw hK
  obtain⟨xs,hq,hx⟩:=hg
  obtain⟨its,rv,p,hz⟩:=I.list hq
  obtain⟨⟨old,he⟩,hi⟩:=st
  obtain⟨o,ho,hcl,hd⟩:=id hi
  have hT:s.heap.IsList a its.toArray:=p.isList
  have hai:a≠it:=fun z=>by
   obtain⟨o',e1,e2,_⟩:=p.isList
   rw[z,ho] at e1;cases e1;rw[hcl] at e2;injection e2 with z2;revert z2;decide
  have hh:X.A.in1.handled=none:=I.ok.hd hc
  have hl:its.toArray.size=i:=by rw[List.size_toArray,<-rv.length,hx]
  refine wpAny_pyNext_enum_endD (Draws.list hh it a hai its.toArray) he (by rw[hl];exact⟨hi,hT⟩) fun h1 hk=>⟨rfl, ?_⟩
  exact I.turnedN (t':=s.toks) hf fun b o hb e0=>hk b o (fun z=>hb (by simp[z])) e0
 self:=fun _ _ _ _ _ st h=>by
  obtain⟨⟨old,he⟩,_⟩:=st
  exact wpAny_pyIter_enum he h
section
variable {X:Cx}
noncomputable def zhM (K:PySem.W.Frag)(ta:TA):TI:=fun σ H R=>ta σ H fun vs H1=>∃a,vs=[.ref a]/\(∃xs,SqL K H1 a xs)/\R (Itel K a) H1
theorem zbR {els:List Expr}{kx}{tp:Pos}{l:Expr}{ta:TA}{p pos:Pos}(hg:Gl X "enumerate")(hm:X.mg "enumerate" =none)(ha:PA X [l] ta)(hs:starEach [l] X.env=[(false,eval l X.env)]:=by rfl):
  PI X (.Tuple els kx tp) (.Call (.Name "enumerate" p) [l] [] pos) (zhM X.K ta):=by
 intro pins s σ H R I h
 refine Call_ (zcr I hg hm boot_enumerate (PyProof.Rows.callWith_type1 (thn (ha pos pins s σ H _ I h) fun us s1 zq=> ?_) hs rfl))
 obtain⟨vs,H1,I1,r1,q1⟩:=zq
 obtain⟨a,rfl,⟨xs,hq⟩,q⟩:=q1
 obtain⟨u,rfl,ru⟩:=zcI r1
 cases (show u=Value.ref a from ru)
 obtain⟨its,rv,p',hz⟩:=I1.list hq
 refine call_enumerate_list p'.isList fun h' he hi hsz hk=>wpAny_pyIter_enum he ?_
 have I2:Inv X pins σ H1 {s1 with heap:=h'}:=I1.kept (t':=s1.toks) hk
 refine⟨s1.heap.objs.size+1,[s1.heap.objs.size+1,s1.heap.objs.size],_,_,H1,rfl,I2,zeP a _ _ (Nat.ne_of_gt (Nat.lt_succ_self _)),⟨⟨_,he⟩,hi⟩,fun b hb=> ?_,q⟩
 rcases List.mem_cons.mp hb with rfl|hb
 ·exact I1.fpOk (Nat.le_succ _) (I1.hok.fresh (Nat.le_succ _))
 ·rw [List.mem_singleton.mp hb]
  exact I1.fpOk (Nat.le_refl _) (I1.hok.fresh (Nat.le_refl _))
end
theorem zbv {K:PySem.W.Frag}{a:Addr}{xs:List V}{g:TG}{tb:TS}{D:Ends}{σ:L2.St}{H:Hp}(Pv:Nat->L2.St->Hp->Prop)(h0:Pv 0 σ H)(hl:∀i σ H,i<=xs.length->Pv i σ H->SqL K H a xs)
  (hs:∀i x t σ H,xs[i]? =some x->Pv i σ H->H t=none->g (.ref t) σ (upd H t (.tup [.int i,x])) fun σ2 H2=>tb {D with nx:=Pv (i+1),ct:=Pv (i+1),bk:=D.nx} σ2 H2) (hd:∀σ H,Pv xs.length σ H->D.nx σ H):
  ∃W:Nat->Nat->L2.St->Hp->Prop,(∃m,W 0 m σ H)/\∀i m σ H,W i m σ H->
   ((Itel K a).stop i H/\D.nx σ H)∨((Itel K a).go i H/\∃N:L2.St->Hp->Prop,(∀σ' H',N σ' H'->∃m',m'<m/\W (i+1) m' σ' H')/\∀x H',(Itel K a).yld i H x H'->g x σ H' fun σ2 H2=>tb {D with nx:=N,ct:=N,bk:=D.nx} σ2 H2):=by
 refine⟨fun i m σ H=>m=xs.length-i/\i<=xs.length/\Pv i σ H,⟨xs.length,by simp,Nat.zero_le _,h0⟩, ?_⟩
 rintro i m σ H ⟨rfl,hi,p⟩
 have q:=hl i σ H hi p
 by_cases hlt:i<xs.length
 ·refine .inr ⟨⟨xs,xs[i],q,by simp[hlt]⟩,Pv (i+1),fun σ' H' p'=>⟨xs.length-(i+1),by (first|lia|omega),rfl,hlt,p'⟩,fun x H' y=> ?_⟩
  obtain⟨t,x',ht,rfl,rfl,y⟩:=y
  exact hs i x' t σ _ (y xs q) p ht
 ·have e:i=xs.length:=by (first|lia|omega)
  subst e
  exact .inl ⟨⟨xs,q,rfl⟩,hd σ H p⟩
section
variable {X:Cx}{elt tg iter tg2 iter2:Expr}{ifs ifs2:List Expr}{scope:Scope}{pos:Pos}{wi wi2:TI}{g g2:TG}{tt tt2:TT}{te:TE}{N':List Str}{n:Nat}{ix:List Nat}
end
noncomputable def ziu (m:Nat)(b:List Int):List Int:=(num0 m).filter fun x=>decide (x∉b)
structure Beg (m k:Nat) (b:List Int):Prop where
 len:b.length=k
 nd:b.Nodup
 rng:∀y∈b,0<=y/\y<m
 free:(ziu m b).length+k=m
theorem RowsAt.get {H:Hp}:∀{zs:List Addr} {rows:List (List Int)},RowsAt H zs rows->∀{i:Nat} {z:Addr},zs[i]? =some z->∃r,rows[i]? =some r/\H z=some (.tup (r.map V.int))
 |_,_,.nil,_,_,h=>by simp at h
 |_,_,.cons r _,0,_,h=>by simp at h;subst h;exact⟨_,rfl,r⟩
 |_,_,.cons _ t,i+1,_,h=>RowsAt.get t (i:=i) (by simpa using h)
section
variable {X:Cx}
end
structure Heaps (ns:List Int) (L:List Int) (es:List Int):Prop where
 inc:L.Pairwise (·<·)
 len:es.length=ns.length
 up:∀(j:Nat) a,L[j]? =some a->∃k:Nat,ns[k]? =some a/\es[k]? =some ((j:Int)+1)
 dn:∀(k:Nat) e,es[k]? =some e->∃(j:Nat) (a b:Int),e=(j:Int)+1/\L[j]? =some a/\ns[k]? =some b/\a<=b
noncomputable def Cx.compZ (X:Cx)(s₂:Shared)(H₂:Hp)(N':List Str)(scope:Scope)(cl:List (Str×Addr))(C:Addr)(fp:List Addr)(z:Str)(Z:Addr):Cx:=
 {X with N:=N',s₀:=s₂,H₀:=H₂,env:=compEnvC scope ((z,Z)::cl) C X.env,outer:=X.stack,stack:=X.stack,ex:=fp,fn:=fun x=>x==z,pn:=[],xe:=fun _ _=>False}
structure CompScopeZ (X:Cx) (scope:Scope) (N':List Str) (n:Nat) (ix:List Nat) (z:Str):Prop where
 kind:scope.kind=.function
 onecell:∀y∈scope.names,y.2=.cell->y.1=z
 nz:∀y:Str,(y,NameKind.free)∈scope.names->y≠z
 cf:∀(a:Addr) (cl:List (Str×Addr)),cellsFrom a scope.names cl=(z,a)::cl
 pc:∀h:Heap,pushCells h scope.names=h.push {cls:=.type "cell",data:=.cell none}
 names:∀y∈scope.names,y.2=.local->scope.names.lookup y.1=some .local
 free:∀y∈scope.names,y.2=.free->X.env.scope.names.lookup y.1=some .cell∨X.env.scope.names.lookup y.1=some .free
 nodup:∀y:Str,(y,NameKind.free)∈scope.names->scope.names.lookup y=some .local->False
 len:N'.length=n+ix.length
 at_:∀(j i:Nat),ix[j]? =some i->∃x,N'[n+j]? =some x/\X.N[i]? =some x/\(x,NameKind.free)∈scope.names
theorem zg0 {M:Model}{A:Around}{E:Value->Shared->Prop}{s:Shared}{z:Str}{scope:Scope}{globals:Addr}{cl:List (Str×Addr)}{qual:Str}{env:Env}{Q:Env->Shared->Prop}(hcf:∀a,cellsFrom a scope.names cl=(z,a)::cl)
  (hpc:∀h:Heap,pushCells h scope.names=h.push {cls:=.type "cell",data:=.cell none})
  (hQ:∀env':Env,env'={scope,locals:=s.heap.objs.size,globals,cells:=(z,s.heap.objs.size+1)::cl,qual,func:=none,code:=env.code,frame:=env.frame,builtins:=env.builtins}->
   Q env' {s with heap:=(s.heap.push {cls:=.type "dict",data:=.dict #[]}).push {cls:=.type "cell",data:=.cell none}}):
  wpAny M A (newFunctionEnv scope globals cl [] qual none .none (some env)) Q E s:=by
 simp only[newFunctionEnv,Option.isSome_some,if_true]
 refine wpAny_bind (wpAny_alloc ?_)
 refine wpAny_bind (wpAny_layCells _ (fun name kind cells=>by cases hkc:kind==NameKind.cell<;>simp[hkc]) _ _ _ _ ?_)
 rw[hcf,hpc]
 simp only[List.forIn_nil]
 have hz:(s.heap.push {cls:=.type "dict",data:=.dict #[]}).objs.size=s.heap.objs.size+1:=Heap.size_push ..
 refine wpAny_bind (wpAny_pure (wpAny_pure ?_))
 exact hQ _ (by simp only[hz])
section
variable {X:Cx}{pins:List (Addr×Obj)}{σ:St}{H:Hp}{s:Shared}
theorem zdV {env:Env}{scope:Scope}{x z:Str}(hn:∀y∈scope.names,y.2=.cell->y.1=z)(hxz:x≠z)(h:(relabel scope env).names.lookup x=some .cell∨(relabel scope env).names.lookup x=some .free):scope.names.lookup x=some .free:=by
 rw[zaG] at h
 cases e:scope.names.lookup x with
 |none=>rw[e] at h;rcases h with h|h<;>cases h
 | some k=>
  rw[e] at h
  have hk:k≠.cell:=fun q=>hxz (hn _ (PySem.mem_of_lookup e) q)
  by_cases hf:k=.free
  ·rw[hf]
  ·have hb:(k==NameKind.free)=false:=by simpa using hf
   have hr:Option.map (fun k=>if (k==NameKind.free&&env.scope.kind==.function&&env.kindOf x==some .cell)=true then NameKind.cell else k) (some k)=some k:=by
    show some (ite _ _ _)=_
    rw[if_neg (by rw[hb];simp)]
   rw[hr] at h
   rcases h with h|h
   ·cases h;exact absurd rfl hk
   ·exact h
theorem zfs {z:Str}{Z:Addr}{scope:Scope}{N':List Str}{n:Nat}{ix:List Nat}{cl:List (Str×Addr)}{fp:List Addr}{h₁:Heap}{acc C:Addr}{na:Nat}{m:Str->Option Value}{tk:Nat}
  (I:Inv X pins σ H s) (S:CompScopeZ X scope N' n ix z) (hcl1:∀x c,cl.lookup x=some c->X.env.cells.lookup x=some c) (hcl2:∀y∈scope.names,y.2=.free->cl.lookup y.1=X.env.cells.lookup y.1)
  (hf:∀b∈fp,FpOk X pins H b) (hlt:∀b∈fp,b<s.heap.objs.size) (ha:s.heap.objs.size<=acc) (hC:s.heap.objs.size<=C) (hne:C≠acc) (hZ:s.heap.objs.size<=Z) (hZC:Z≠C) (hZa:Z≠acc) (hZc:h₁.IsCell Z none)
  (k:∀b u,s.heap.get? b=some u->h₁.get? b=some u) (hacc:h₁.get? acc=some {cls:=.type "list",data:=.seq ([]:List Value).toArray na}) (hns:h₁.Ns C m):
  Inv (X.compZ s H N' scope cl C fp z Z) [] (za2 n ix σ) (upd H acc (.lst [])) {s with heap:=h₁,toks:=tk}:=by
 have fr:∀b:Addr,s.heap.objs.size<=b->H b=none:=fun b hb=>I.hok.fresh hb
 have cellLt:∀x c,cl.lookup x=some c->c<s.heap.objs.size:=fun x c e=>by
  obtain⟨v,q⟩:=I.cell x c (hcl1 x c e)
  exact q.lt
 have look:∀x c,List.lookup x ((z,Z)::cl)=some c->(x=z/\c=Z)∨(x≠z/\cl.lookup x=some c):=fun x c e=>by
  rw[List.lookup_cons] at e
  cases hb:x==z with
  |true=>
   rw[hb] at e
   exact .inl ⟨eq_of_beq hb,(Option.some.inj e).symm⟩
  |false=>
   rw[hb] at e
   exact .inr ⟨fun q=>by (rw[q,beq_self_eq_true] at hb;cases hb),e⟩
 have look2:∀x,x≠z->List.lookup x ((z,Z)::cl)=cl.lookup x:=fun x hx=>by
  rw[List.lookup_cons]
  have hb:(x==z)=false:=beq_eq_false_iff_ne.mpr hx
  rw[hb]
 have nZ:∀x c,cl.lookup x=some c->c≠Z:=fun x c e q=>absurd (cellLt x c e) (by rw[q];exact Nat.not_lt.mpr hZ)
 refine⟨⟨I.ok.mod,S.kind,I.ok.glob,I.ok.blt,hC,fun x y c e1 e2=> ?inj,fun x hx=> ?has,fun x c e e'=> ?cab,I.ok.hd,I.ok.frames,.inl rfl,fun b hb=>⟨Nat.ne_of_lt (Nat.lt_of_lt_of_le (hlt b hb) hC),fun x c e=> ?exf⟩,
   I.bs,Nat.le_trans I.ok.bsz I.sz,fun b o e hb=> ?noex,fun b hb hs=> ?exfs,I.stack,I.stkFree⟩,
  rfl,I.bare,Un.laid k ha (fr acc ha),⟨m,hns,fun i x v e1 e2 e3=> ?loc⟩,fun x c e=> ?cell, ?free,fun x c e=> ?freeC,fun p hp=>absurd (show p∈([]:List (Addr×Obj)) from hp) (by simp),I.hok.laid k ha ⟨Nat.zero_le _,[],na,.nil,hacc⟩, ?len⟩
 case inj=>
  rcases look x c e1 with⟨h1,h2⟩|⟨h1,h2⟩<;>rcases look y c e2 with⟨h3,h4⟩|⟨h3,h4⟩
  ·rw[h1,h3]
  ·exact absurd h2 (nZ y c h4)
  ·exact absurd h4 (nZ x c h2)
  ·exact I.ok.inj x y c (hcl1 x c h2) (hcl1 y c h4)
 case has=>
  by_cases hxz:x=z
  ·exact⟨Z,by show List.lookup x ((z,Z)::cl)=_;rw[hxz,List.lookup_cons,beq_self_eq_true]⟩
  ·have hx':scope.names.lookup x=some .free:=zdV (env:=X.env) S.onecell hxz hx
   have hm:=PySem.mem_of_lookup hx'
   obtain⟨c,e⟩:=I.ok.has x (S.free _ hm rfl)
   exact⟨c,by show List.lookup x ((z,Z)::cl)=_;rw[look2 x hxz];exact (hcl2 _ hm rfl).trans e⟩
 case cab=>
  rcases look x c e' with⟨_,h2⟩|⟨h1,_⟩
  ·rw[h2];exact hZ
  ·exact absurd (eq_of_beq (show (x==z)=true from e)) h1
 case exf=>
  rcases look x c e with⟨_,h2⟩|⟨_,h2⟩
  ·rw[h2];exact Nat.ne_of_gt (Nat.lt_of_lt_of_le (hlt b hb) hZ)
  ·exact (hf b hb).2.2.2.2.1 x c (hcl1 x c h2)
 case noex=>
  rcases (hf b hb).2.2.2.1 with z|z
  ·exact I.ok.noex b o e z
  ·exact absurd (Nat.lt_of_lt_of_le (Heap.lt_size e) (Nat.le_trans I.ok.bsz z)) (Nat.lt_irrefl _)
 case exfs=>
  rcases List.mem_cons.mp (I.stkSub b hs) with z|z
  ·exact (hf b hb).2.1 z
  ·exact (hf b hb).2.2.1 z
 case loc=>
  have hi:n<=i:=by
   by_cases hi:n<=i
   ·exact hi
   ·unfold za2 at e2
    rw[List.getElem?_append_left (by simp;(first|lia|omega)),List.getElem?_replicate] at e2
    split at e2<;>cases e2
  obtain⟨j,rfl⟩:∃j,i=n+j:=⟨i-n,by (first|lia|omega)⟩
  unfold za2 at e2
  rw[List.getElem?_append_right (by simp),List.length_replicate,Nat.add_sub_cancel_left,List.getElem?_map] at e2
  cases ej:ix[j]? with
  |none=>rw[ej] at e2;cases e2
  | some q=>
   rw[ej] at e2
   have e2':σ.getD q none=some v:=Option.some.inj e2
   have e2'':σ[q]? =some (some v):=by
    rw[List.getD_eq_getElem?_getD] at e2'
    cases eq:σ[q]? with
    |none=>rw[eq] at e2';cases e2'
    |some z=>rw[eq] at e2';exact congrArg some e2'
   obtain⟨y,h1,h2,h3⟩:=S.at_ j q ej
   have ey:y=x:=Option.some.inj (h1.symm.trans e1)
   subst ey
   have hk:=S.free _ h3 rfl
   obtain⟨mX,_,hl⟩:=I.loc
   obtain⟨u,r,l⟩:=hl q y v h2 e2'' (.inr hk)
   refine⟨u,r,.inr ?_⟩
   have hkc:X.env.kindOf y=some .cell∨X.env.kindOf y=some .free:=hk
   have l':∃c,X.env.cells.lookup y=some c/\s.heap.IsCell c (some u):=by
    rcases l with⟨z,_⟩|⟨_,c,ec,hc⟩
    ·rcases hkc with q|q<;>(rw[q] at z;cases z)
    ·exact⟨c,ec,hc⟩
   obtain⟨c,ec,o,ho,hd⟩:=l'
   have e3':Vis (relabel scope X.env) y:=e3
   have hyz:y≠z:=S.nz y h3
   refine⟨?_,c,by show List.lookup y ((z,Z)::cl)=_;rw[look2 y hyz];exact (hcl2 _ h3 rfl).trans ec,o,k _ _ ho,hd⟩
   have nl:scope.names.lookup y≠some .local:=fun z=> ?_
   ·cases el:scope.names.lookup y with
    |none=>
     have:(relabel scope X.env).names.lookup y=none:=by rw[zaG,el];rfl
     rcases e3' with z|z|z<;>(rw[this] at z;cases z)
    | some kk=>
     have hmem:=PySem.mem_of_lookup el
     have ncell:kk≠.cell:=fun q=>hyz (S.onecell _ hmem q)
     have hr:(relabel scope X.env).names.lookup y=some (if (kk==NameKind.free&&X.env.scope.kind==.function&&X.env.kindOf y==some .cell)=true then .cell else kk):=by rw[zaG,el];rfl
     by_cases hkf:kk=.free
     ·subst hkf
      exact zcb (env:=X.env) el
     ·have hb:(kk==NameKind.free)=false:=by simpa using hkf
      have hr':(relabel scope X.env).names.lookup y=some kk:=by rw[hr,hb];rfl
      rcases e3' with z|z|z
      ·rw[hr'] at z;cases z;exact absurd el nl
      ·rw[hr'] at z;cases z;exact absurd rfl ncell
      ·rw[hr'] at z;cases z;exact absurd rfl hkf
   ·exact S.nodup _ h3 z
 case cell=>
  rcases look x c e with⟨_,h2⟩|⟨_,h2⟩
  ·rw[h2];exact⟨none,hZc⟩
  ·obtain ⟨v,o,ho,hd⟩:=I.cell x c (hcl1 x c h2)
   exact⟨v,o,k _ _ ho,hd⟩
 case free=>
  show upd H acc (.lst []) C=none
  rw[zah hne];exact fr C hC
 case freeC=>
  show upd H acc (.lst []) c=none
  rcases look x c e with⟨_,h2⟩|⟨_,h2⟩
  ·rw[h2,zah hZa];exact fr Z hZ
  ·have:=cellLt x c h2
   rw[zah (Nat.ne_of_lt (Nat.lt_of_lt_of_le this ha))]
   exact I.freeC x c (hcl1 x c h2)
 case len=>
  show (za2 n ix σ).length=N'.length
  unfold za2
  rw[List.length_append,List.length_replicate,List.length_map,S.len]
end
section
variable {X:Cx}{elt tg iter:Expr}{ifs:List Expr}{scope:Scope}{pos:Pos}{wi:TI}{g:TG}{tt:TT}{te:TE}{N':List Str}{n:Nat}{ix:List Nat}
theorem zgd {z:Str}{pins:List (Addr×Obj)}{σ:St}{H2:Hp}{s2:Shared}{cl:List (Str×Addr)}{it:Addr}{fp:List Addr}{tn:Nat->Heap->Prop}{J:It}{Q:VK}{R:Value->Addr->Result->Shared->Prop}
  (hc:X.calm=true) (S:CompScopeZ X scope N' n ix z)
  (hY:∀s₂ H₂ cl C fp Z,PG (X.compZ s₂ H₂ N' scope cl C fp z Z) tg g/\PTs (X.compZ s₂ H₂ N' scope cl C fp z Z) ifs tt/\PE (X.compZ s₂ H₂ N' scope cl C fp z Z) elt te)
  (I2:Inv X pins σ H2 s2) (hcl1:∀x c,cl.lookup x=some c->X.env.cells.lookup x=some c) (hcl2:∀y∈scope.names,y.2=.free->cl.lookup y.1=X.env.cells.lookup y.1)
  (T:Turn X.prog X.w X.K tg J fp it tn) (st2:tn 0 s2.heap) (f2:∀b∈fp,FpOk X pins H2 b)
  (hW:LcW J H2 g tt te n ix σ Q)
  (hR:∀acc C s' H' m,s'.heap.Ns C m->Inv X pins σ H' s'->H' C=none->C≠X.env.locals->(C∈X.ex∨X.s₀.heap.objs.size<=C)->(∀x c,X.env.cells.lookup x=some c->c≠C)->(∀p∈X.pn++pins,p.1≠C)->C∉X.fs->Q (.ref acc) H'->R (.ref acc) C (.ok .next) s'):
  wpAny (model X.prog X.w) X.A (newList []) (fun acc s₃=>wpAny (model X.prog X.w) X.A (newFunctionEnv scope X.env.globals cl [] X.env.qual none .none (some X.env)) (fun cenv s₄=>
   codeAny (model X.prog X.w) X.A (.compStart (.ListComp elt [⟨tg,iter,ifs,0⟩] scope pos) 0 (.ref it) acc {cenv with scope:=relabel scope X.env}) (R acc cenv.locals) s₄) X.xe s₃) X.xe s2:=by
 refine wpAny_newObj_type (zg0 (z:=z) (fun a=>S.cf a cl) S.pc fun env' he'=> ?_)
 subst he'
 dsimp only
 generalize hH2:s2.heap.push {cls:=.type "list",dict:=none,data:=.seq ([]:List Value).toArray}=G
 have hC:G.objs.size=s2.heap.objs.size+1:=by rw[<-hH2,Heap.size_push]
 generalize hh1:(G.push {cls:=.type "dict",data:=.dict #[]}).push {cls:=.type "cell",data:=.cell none}=h₁
 have hkp:∀b o,G.get? b=some o->h₁.get? b=some o:=fun b o e=>hh1▸Heap.get?_push_of_some _ (Heap.get?_push_of_some _ e)
 have hns₁:h₁.Ns G.objs.size fun _=>none:=hh1▸(Heap.Ns.new G (.type "dict")).keeps fun b o e=>Heap.get?_push_of_some _ e
 have hZc:h₁.IsCell (G.objs.size+1) none:=by
  rw[<-hh1]
  refine⟨{cls:=.type "cell",data:=.cell none}, ?_,rfl⟩
  have:=Heap.get?_push_size (G.push {cls:=.type "dict",data:=.dict #[]}) (o:={cls:=.type "cell",data:=.cell none}) rfl
  rwa [Heap.size_push] at this
 have hlt:∀b∈fp,b<s2.heap.objs.size:=fun b hb=>by
  obtain⟨o,e,_⟩:=T.obj _ _ st2 b hb
  exact Heap.lt_size e
 have old:∀b o,s2.heap.get? b=some o->h₁.get? b=some o:=fun b o e=>hkp b o (hH2▸Heap.get?_push_of_some _ e)
 have hacc:h₁.get? s2.heap.objs.size=some {cls:=.type "list",dict:=none,data:=.seq ([]:List Value).toArray}:=hkp _ _ (hH2▸Heap.get?_push_size _ rfl)
 obtain⟨W,⟨m0,w0⟩,turn⟩:=hW s2.heap.objs.size (I2.hok.fresh (Nat.le_refl _))
 obtain⟨hYg,hYt,hYe⟩:=hY s2 H2 cl G.objs.size fp (G.objs.size+1)
 have fpY:∀{H':Hp},(∀b∈fp,H' b=none)->∀b∈fp,FpOk (X.compZ s2 H2 N' scope cl G.objs.size fp z (G.objs.size+1)) [] H' b:=fun {H'} hn b hb=>by
  obtain⟨_,q1,q2,q3,q4,q5⟩:=f2 b hb
  refine⟨hn b hb, ?_,fun z=> ?_,.inl hb,fun x c e=> ?_,fun p hp=>absurd (show p∈([]:List (Addr×Obj)) from hp) (by simp)⟩
  ·show b≠G.objs.size
   rw[hC]
   exact Nat.ne_of_lt (Nat.lt_succ_of_lt (hlt b hb))
  ·rcases List.mem_cons.mp (I2.stkSub b z) with y|y
   ·exact q1 y
   ·exact q2 y
  ·have e':List.lookup x ((z,G.objs.size+1)::cl)=some c:=e
   rw[List.lookup_cons] at e'
   cases hb':x==z with
   |true=>
    rw[hb'] at e'
    have e2:G.objs.size+1=c:=Option.some.inj e'
    rw[<-e2,hC]
    have:=hlt b hb
    exact Nat.ne_of_gt (Nat.lt_of_lt_of_le this (Nat.le_trans (Nat.le_succ _) (Nat.le_succ _)))
   |false=>
    rw[hb'] at e'
    exact q4 x c (hcl1 x c e')
 have loop:∀s₃:Shared,s₃={s2 with heap:=h₁}->
   codeAny (model X.prog X.w) X.A (.compLoop (.ListComp elt [⟨tg,iter,ifs,0⟩] scope pos) 0 (.ref it) (.ref s2.heap.objs.size) (compEnvC scope ((z,G.objs.size+1)::cl) G.objs.size X.env)) (R (.ref s2.heap.objs.size) G.objs.size) s₃:=by
  rintro s₃ rfl
  have I4:=zfs (Z:=G.objs.size+1) (tk:=s2.toks) I2 S hcl1 hcl2 f2 hlt (Nat.le_refl _) (by rw[hC];exact Nat.le_succ _) (by rw[hC];exact Nat.ne_of_gt (Nat.lt_succ_self _)) (by rw[hC];exact Nat.le_trans (Nat.le_succ _) (Nat.le_succ _)) (Nat.ne_of_gt (Nat.lt_succ_self _)) (by rw[hC];exact Nat.ne_of_gt (Nat.lt_succ_of_lt (Nat.lt_succ_self _))) hZc old hacc hns₁
  refine zcc (fun n' s'=>∃i H',Inv (X.compZ s2 H2 N' scope cl G.objs.size fp z (G.objs.size+1)) [] (za2 n ix σ) H' s'/\tn i s'.heap/\(∀b∈fp,H' b=none)/\W i n' H') ?_ m0
   ⟨0,_,I4,T.keep _ _ _ st2 fun b hb o e=>old b o e,fun b hb=> ?_,w0⟩
  ·rintro n' s3 ⟨i,H3,I3,st3,fr3,w3⟩
   rcases turn i n' H3 w3 with⟨stop,q⟩|⟨go,step⟩
   ·refine thn (T.done (X.compZ s2 H2 N' scope cl G.objs.size fp z (G.objs.size+1)) rfl rfl rfl hc i [] s3 _ H3 _ I3 (fpY fr3) st3 stop) fun r s4 zq=> ?_
    obtain⟨hr,I5⟩:=zq
    subst hr
    obtain⟨mC,hnC,_⟩:=I5.loc
    have IX:Inv X pins σ H3 s4:=I2.call' I5.os I5.base I5.hok I5.bare fun b hb=>by
     obtain⟨_,q1,q2,q3,q4,q5⟩:=f2 b hb
     exact⟨q3,q1,q4,q5⟩
    refine hR _ _ s4 H3 mC hnC IX I5.free ?_ (.inr ?_) (fun x c e z=> ?_) (fun p hp z=> ?_) (I2.nofs (by rw[hC];exact Nat.le_succ _)) q
    ·rw [hC]
     exact Nat.ne_of_gt (Nat.lt_succ_of_lt I2.lt)
    ·rw [hC]
     exact Nat.le_succ_of_le I2.sz
    ·obtain ⟨v,q⟩:=I2.cell x c e
     rw[hC] at z
     exact absurd z (Nat.ne_of_lt (Nat.lt_succ_of_lt q.lt))
    ·rw [hC] at z
     exact absurd z (Nat.ne_of_lt (Nat.lt_succ_of_lt (Heap.lt_size (I2.pin p hp).1)))
   ·refine thn (T.item (X.compZ s2 H2 N' scope cl G.objs.size fp z (G.objs.size+1)) rfl rfl rfl hc i [] s3 _ H3 _ I3 (fpY fr3) st3 go) fun r s4 zq=> ?_
    obtain⟨u,hr,h4⟩:=zq
    subst hr
    refine thn h4 fun _ s5 zq=> ?_
    obtain⟨x,H5,I5,r5,y5,st5,fr5⟩:=zq
    have I5':=I5.pinned (fpY fr5) (T.obj _ _ st5)
    refine thn (hYg _ s5 _ H5 x u _ I5' r5 (step x H5 y5)) fun _ s6 zq=> ?_
    obtain⟨σ6,H6,I6,wk,q6⟩:=zq
    have back:∀{H':Hp} {s':Shared},Inv (X.compZ s2 H2 N' scope cl G.objs.size fp z (G.objs.size+1)) ([]++zcP fp s5.heap) σ6 H' s'->
      Inv (X.compZ s2 H2 N' scope cl G.objs.size fp z (G.objs.size+1)) [] (za2 n ix σ) H' s'/\tn (i+1) s'.heap/\∀b∈fp,H' b=none:=fun {H' s'} I7=>by
     refine⟨I7.unpinned.weak wk.1 wk.2,T.keep _ _ _ st5 fun b hb o e=>(I7.pin (b,o) (List.mem_append_right _ (List.mem_append_right _ (za6 hb e)))).1,fun b hb=> ?_⟩
     obtain⟨o,e,d⟩:=T.obj _ _ st5 b hb
     exact (I7.pin (b,o) (List.mem_append_right _ (List.mem_append_right _ (za6 hb e)))).2.1
    refine thn (hYt _ s6 σ6 H6 _ I6 q6) fun ok s7 zq=> ?_
    obtain⟨H7,I7,q7⟩:=zq
    cases ok with
    |false=>
     rw[if_neg Bool.false_ne_true] at q7 ⊢
     obtain⟨m',hm,w7⟩:=q7
     obtain⟨b1,b2,b3⟩:=back I7
     exact⟨m',hm,i+1,H7,b1,b2,b3,w7⟩
    |true=>
     rw[if_pos rfl] at q7 ⊢
     refine thn (hYe _ s7 σ6 H7 _ I7 q7) fun xv s8 zq=> ?_
     obtain⟨v8,H8,I8,r8,ys,ha,hz,m',hm,w8⟩:=zq
     refine thn (zbh _ s8 σ6 H8 (.ref s2.heap.objs.size) [v8] (.ref s2.heap.objs.size) [xv] (fun _ H'=>H'=upd H8 s2.heap.objs.size (.lst (ys++[v8]))) I8 rfl (.cons r8 .nil) ⟨_,ys,v8,rfl,rfl,ha,hz,rfl⟩) fun _ s9 zq=> ?_
     obtain⟨_,H9,I9,_,e9⟩:=zq
     subst e9
     obtain⟨b1,b2,b3⟩:=back I9
     exact⟨m',hm,i+1,_,b1,b2,b3,w8⟩
  ·rw [zah (Nat.ne_of_lt (hlt b hb))]
   exact (f2 b hb).1
 exact codeAny_compStart_list (loop _ rfl) (T.self _ 0 _ _ _ (T.keep _ _ _ st2 fun b hb o e=>old b o e) (loop _ rfl))
theorem zft {z:Str}(hc:X.calm=true)(S:CompScopeZ X scope N' n ix z)(hi:PI X tg iter wi)
  (hY:∀s₂ H₂ cl C fp Z,PG (X.compZ s₂ H₂ N' scope cl C fp z Z) tg g/\PTs (X.compZ s₂ H₂ N' scope cl C fp z Z) ifs tt/\PE (X.compZ s₂ H₂ N' scope cl C fp z Z) elt te)
  (hs:∀x,foldedSetIterable iter X.env x=pure x:=by intro _;rfl):PE X (.ListComp elt [⟨tg,iter,ifs,0⟩] scope pos) (tLc wi g tt te n ix):=by
 intro pins s σ H Q I h
 obtain⟨cl,hcl,hcl1,hcl2⟩:=zb2 (env:=X.env) (scope:=scope) fun y hy hf=>I.ok.has _ (S.free y hy hf)
 rw[eval_ListComp]
 refine wpAny_comprehension_free (use:=none) rfl hs hcl S.kind S.names (thn (hi pins s σ H _ I h) fun v s1 h1=>thn h1 fun itv s2 h2=> ?_)
 obtain⟨it,fp,tn,J,H2,rfl,I2,T,st2,f2,hW⟩:=h2
 refine zgd (R:=fun acc C=>compPost (model X.prog X.w) X.A X.xe none (EP X pins σ Q) acc C) hc S hY I2 hcl1 hcl2 T st2 f2 hW ?_
 intro acc C s' H' m hn IX hf hL h1 h2 h3 h4 q
 exact⟨m,hn,fun h' sb=>⟨.ref acc,H',IX.turned (t':=s'.toks) (fun b o hb e=>sb.extBut b o hb e) hf hL h1 h2 h3,rfl,q⟩⟩
end
mutual
inductive IsK (K:PySem.W.Frag) (H:Hp):V->PyData->Prop
 |non:IsK K H .non .none
 |bl (b:Bool):IsK K H (.bl b) (.bool b)
 |int (i:Int):IsK K H (.int i) (.int i)
 |str (x:Str):IsK K H (.str x) (.str x)
 |tup {a:Addr} {vs:List V} {ds:List PyData}:SqT K H a vs->IsAllK K H vs ds->IsK K H (.ref a) (.tuple ds)
 |lst {a:Addr} {vs:List V} {ds:List PyData}:H a=some (.lst vs)->IsAllK K H vs ds->IsK K H (.ref a) (.list ds)
inductive IsAllK (K:PySem.W.Frag) (H:Hp):List V->List PyData->Prop
 |nil:IsAllK K H [] []
 |cons {v:V} {vs:List V} {d:PyData} {ds:List PyData}:IsK K H v d->IsAllK K H vs ds->IsAllK K H (v::vs) (d::ds)
end
section
variable {X:Cx}{pins:List (Addr×Obj)}{σ:St}{H:Hp}{s:Shared}
end
noncomputable def ziv (K:PySem.W.Frag):List V->Hp->VK->Prop:=fun xs H Q=>∃x T t b,xs=[x,.ty T]/\(TyOf K H x t∨∃a ys,x=.ref a/\SqT K H a ys/\t=.type "tuple")/\PySem.W.kitOne K t (.type T)=some b/\Q (.bl b) H
theorem za9 {X:Cx}:zbG X (.builtin "isinstance") (ziv X.K):=by
 intro pins s σ H xs us Q I rs h
 obtain⟨x,T,t,b,rfl,ty,hk,q⟩:=h
 rcases ty with ty|⟨a,ys,rfl,hq,rfl⟩
 ·exact zf9 pins s σ H _ us Q I rs ⟨x,T,t,b,rfl,ty,hk,q⟩
 ·obtain ⟨u,u',rfl,ru,ru'⟩:=zf0 rs
  cases (show u=Value.ref a from ru)
  cases (show u'=Value.type T from ru')
  obtain⟨its,_,⟨o,h1,h2,_⟩,_⟩:=I.tuple hq
  exact PySem.W.kia_one PySem.W.kitx_tuple I.kIn ⟨o,h1,h2⟩ hk (fun z=>nomatch z) fun tk=>⟨.bl b,H,I.tok _,rfl,q⟩
theorem Same.seqT {K:PySem.W.Frag}{H H':Hp}{a:Addr}{xs:List V}(e:Same H H')(h:SqT K H a xs):SqT K H' a xs:=by
 rcases h with (h|⟨o,h⟩)|h
 ·exact .inl (.inl (e _ _ h))
 ·exact .inl (.inr ⟨o,e _ _ h⟩)
 ·exact .inr h
noncomputable abbrev RowsK (K:PySem.W.Frag)(H:Hp)(zs:List Addr)(rows:List (List Int)):Prop:=Paired (fun (z:Addr) (r:List Int)=>SqT K H z (r.map V.int)) zs rows
theorem RowsK.same {K:PySem.W.Frag}{H H':Hp}{zs:List Addr}{rows:List (List Int)}(h:RowsK K H zs rows)(s:Same H H'):RowsK K H' zs rows:=Paired.mapP h fun _ _ q=>s.seqT q
noncomputable def AlikeK (K:PySem.W.Frag)(H:Hp):Nat->V->V->Prop
 |0,x,y=>∃a:Int,x=.int a/\y=.int a
 |n+1,x,y=>(∃a:Int,x=.int a/\y=.int a)∨∃a b xs ys,x=.ref a/\y=.ref b/\SqT K H a xs/\SqT K H b ys/\xs.length<=1000/\Paired (AlikeK K H n) xs ys
theorem AlikeK.same {K:PySem.W.Frag}{H H':Hp}(s:Same H H'):∀{n:Nat} {x y:V},AlikeK K H n x y->AlikeK K H' n x y
 |0,_,_,h=>h
 |n+1,_,_,.inl h=>.inl h
 |n+1,_,_,.inr ⟨a,b,xs,ys,e1,e2,h1,h2,h3,pr⟩=>.inr ⟨a,b,xs,ys,e1,e2,s.seqT h1,s.seqT h2,h3,Paired.mapP pr fun _ _ q=>AlikeK.same s q⟩
theorem zdW {K:PySem.W.Frag}{H:Hp}{a b:Addr}{ns:List Int}(ha:SqT K H a (ns.map V.int))(hb:SqT K H b (ns.map V.int))(hl:ns.length<=1000):AlikeK K H 1 (.ref a) (.ref b):=by
 refine .inr ⟨a,b,_,_,rfl,rfl,ha,hb,by rw[zaz];exact hl, ?_⟩
 clear ha hb hl
 induction ns with
 |nil=>exact .nil
 |cons x r ih=>exact .cons ⟨x,rfl,rfl⟩ ih
noncomputable def zcA (K:PySem.W.Frag)(n:Nat):Sp:=fun vs H Q _=>∃x y,vs=[x,y]/\AlikeK K H n x y/\∀H',Same H H'->Q (.bl true) H'
noncomputable def Pot (H:Hp)(p q:Addr):Prop:=∃(ns:List Int) (seed turn:Int),H p=some (.lst [.ref q,.int seed,.int turn])/\H q=some (.lst (ns.map V.int))/\(∀n∈ns,0<=n)/\ns.length<=63
theorem Pot.same {p q:Addr}{H H':Hp}(h:Pot H p q)(s:Same H H'):Pot H' p q:=by
 obtain⟨ns,seed,turn,h1,h2,h3,h4⟩:=h
 exact⟨ns,seed,turn,s _ _ h1,s _ _ h2,h3,h4⟩
theorem Pot.ne {p q:Addr}{H:Hp}(h:Pot H p q):p≠q:=by
 obtain⟨ns,seed,turn,h1,h2,_⟩:=h
 refine zfV h1 h2 fun z=> ?_
 injection z with z
 cases ns with
 |nil=>cases z
 |cons a r=>injection z with z _;cases z
noncomputable def zge (K:PySem.W.Frag):Sp:=fun vs H Q _=>∃(a:Addr) (ns:List Int),vs=[.ref a]/\SqL K H a (ns.map V.int)/\ns.length<=63/\∀p q H',Same H H'->Pot H' p q->H p=none->H q=none->Q (.ref p) H'
noncomputable def zep:Sp:=fun vs H Q _=>∃(p q:Addr) (m:Int),vs=[.ref p,.int m]/\0<m/\m<1073741824/\Pot H p q/\∀d H',0<=d->d<m->Pot H' p q->Keep p q H H'->Q (.int d) H'
theorem zg1 {X:Cx}:OpR X (binaryOp .Mult) (rI (fun i j=>IntMulOk i j) fun i j=>.int (i*j)):=opI fun _ _ _ _ _ _ _ hc q=>mul_int q hc
theorem zgf:∀i:Nat,i<=15->IntMulOk (((10:Int)^(60:Int).toNat)^i) ((10:Int)^(60:Int).toNat):=fun i hi=>by
 have h10:Builtin.Int.intBits (10:Int)<=4:=intBits_le_iff.mpr (by decide)
 have h1:Builtin.Int.intBits ((10:Int)^(60:Int).toNat)<=241:=intBits_pow_le h10 60
 have h2:Builtin.Int.intBits (((10:Int)^(60:Int).toNat)^i)<=241*i+1:=intBits_pow_le h1 i
 exact IntMulOk.of_le h2 h1 (by (first|lia|omega))
noncomputable def atZ (ns:List Int)(k:Int):Int:=if k<0 then 0 else ns.getD k.toNat 0
theorem zhN {ns:List Int}{k:Int}(h:0<=k):ns.getD k.toNat 0=atZ ns k:=by
 unfold atZ
 rw[if_neg (by (first|lia|omega))]
theorem zgG {ns:List Int}{k:Int}(h:k<0):atZ ns k=0:=by
 unfold atZ
 rw[if_pos h]
theorem zhO {ns:List Int}{k:Int}(h:(ns.length:Int)<=k):atZ ns k=0:=by
 unfold atZ
 rw[if_neg (by (first|lia|omega)),List.getD_eq_getElem?_getD,List.getElem?_eq_none (by (first|lia|omega))]
 rfl
noncomputable def zcB (K:PySem.W.Frag):Sp:=fun vs H Q _=>∃(a:Addr) (ns:List Int) (k:Int),vs=[.ref a,.int k]/\SqT K H a (ns.map V.int)/\Q (.int (atZ ns k)) H
noncomputable def zbw (m:Nat)(ns:List Int):List Int:=(num0 (m+1)).map fun k=>atZ ns (k-1)+((m:Int)-1)*atZ ns k
noncomputable def zbS (m:Nat)(ns:List Int):List Int:=(num0 (m+1)).map fun k=>atZ ns (k-1)+((m:Int)-1-k)*atZ ns k+(k+1)*atZ ns (k+1)
noncomputable def zbT (m:Nat)(ns:List Int):List Int:=(num0 m).map fun k=>(k+1)*atZ ns k+((m:Int)-k)*atZ ns (k-1)
noncomputable def zck (K:PySem.W.Frag)(B:Nat)(g:Nat->List Int->List Int):Sp:=fun vs H Q _=>∃(m:Nat) (a:Addr) (ns:List Int),vs=[.int m,.ref a]/\1<=m/\m<=B/\SqT K H a (ns.map V.int)/\ns.length<=1000/\∀p H',Same H H'->H' p=some (.tup ((g m ns).map V.int))->Q (.ref p) H'
theorem za7 {i j:Int}(h0:-100<=i)(h1:i<=1000):CMul i j:=.inl ⟨Int.lt_of_lt_of_le (by decide) h0,Int.lt_of_le_of_lt h1 (by decide)⟩
section
variable {X:Cx}
noncomputable def rSlK (K:PySem.W.Frag):V->Option Int->Option Int->Hp->VK->Prop:=fun x lo hi H Q=>∃a xs,x=.ref a/\SqT K H a xs/\∀p H',Same H H'->SqT K H' p (cutV xs lo hi)->Q (.ref p) H'
theorem zg2:SlR X (rSlK X.K):=by
 intro pins s σ H x v vl vu lo hi sl Q I rx hs pl pu h
 obtain⟨a,xs,rfl,ha,q⟩:=h
 by_cases hw:HT.sIx xs.length 0 lo=0/\HT.sIx xs.length xs.length hi=xs.length
 ·cases rx
  obtain⟨its,r,ht,hz⟩:=I.tuple ha
  have hl:its.toArray.size=xs.length:=by rw[List.size_toArray];exact r.length.symm
  refine⟨"tuple",_,PyProof.Rows.slot_tuple_getitem.lookup,ht.typeIs, ?_⟩
  refine zbI ht hs pl pu (by rw[hl];exact hw) ⟨.ref a,H,I,rfl,q a H (Same.refl H) ?_⟩
  unfold cutV
  rw[hw.1,hw.2,List.drop_zero,Nat.sub_zero,List.take_length]
  exact ha
 ·exact zhG pins s σ H _ v vl vu lo hi sl Q I rx hs pl pu ⟨a,xs,rfl,ha,hw,fun p hp=>q p _ (zac hp) (SqT.of zab)⟩
theorem zgg (K:PySem.W.Frag)(hK:X.K=K):SlR X (rSlK K):=hK▸zg2
noncomputable def zhP (K:PySem.W.Frag):List V->Hp->VK->Prop:=fun xs H Q=>∃(l:Addr) (ns:List Int),xs=[.ref l]/\SqT K H l (ns.map V.int)/\Q (.int ns.sum) H
theorem zfu (hc:X.calm=true):zbG X (.builtin "sum") (zhP X.K):=by
 intro pins s σ H xs us Q I rs h
 obtain⟨l,ns,rfl,hH,q⟩:=h
 obtain⟨u,rfl,ru⟩:=zcI rs
 cases (show u=Value.ref l from ru)
 obtain⟨its,r,ht,hz⟩:=I.tuple hH
 have hI:=zeK r
 obtain⟨xs,hxs⟩:=hI.allInts.items
 have hnum:(numsOf its.toArray.toList)=ns:=hI.numsOf
 refine PySem.W.ktm_sumG (xs:=xs) (I.ok.hd hc) (by rw[<-hxs];exact ht) fun h' tk t' hk=> ?_
 have hs:preSum (numAt xs) xs.size=ns.sum:=by
  rw[preSum_eq,List.take_of_length_le (by simp)]
  rw[<-nums_intItems,<-hxs,hnum]
 rw[hs]
 exact⟨.int ns.sum,H,I.kept (t':=tk) hk,⟨_,rfl⟩,q⟩
theorem zeQ (K:PySem.W.Frag)(hK:X.K=K)(hc:X.calm=true):zbG X (.builtin "sum") (zhP K):=hK▸zfu hc
end
noncomputable def win (ns:List Int)(lo:Int)(n:Nat):Int:=((List.range n).map fun (i:Nat)=>atZ ns (lo+(i:Int))).sum
theorem zc2 (ns:List Int)(lo:Int)(n:Nat):win ns lo (n+1)=win ns lo n+atZ ns (lo+(n:Int)):=by
 unfold win
 rw[List.range_succ,List.map_append,List.sum_append]
 simp
theorem zfv (ns:List Int)(lo:Nat):∀n:Nat,((ns.drop lo).take n).sum=win ns (lo:Int) n
 |0=>by simp[win]
 |n+1=>by
  rw[List.take_succ,List.sum_append,zfv ns lo n,zc2,List.getElem?_drop]
  congr 1
  unfold atZ
  rw[if_neg (by (first|lia|omega)),show ((lo:Int)+(n:Int)).toNat=lo+n by (first|lia|omega),List.getD_eq_getElem?_getD]
  cases ns[lo+n]? <;>simp
theorem zfw (ns:List Int)(lo:Int):∀n:Nat,win ns lo n=win ns (max lo 0) (n-(-lo).toNat)
 |0=>by simp[win]
 | n+1=>by
  rw[zc2,zfw ns lo n]
  by_cases h:lo+(n:Int)<0
  ·rw [zgG h,show n+1-(-lo).toNat=0 by (first|lia|omega),show n-(-lo).toNat=0 by (first|lia|omega)]
   simp
  ·rw [show n+1-(-lo).toNat=(n-(-lo).toNat)+1 by (first|lia|omega),zc2]
   congr 2
   (first|lia|omega)
theorem zg3 (ns:List Int)(lo hi:Nat):(ns.drop (min lo ns.length)).take (min hi ns.length-min lo ns.length)=(ns.drop lo).take (hi-lo):=by
 by_cases h:lo<=ns.length
 ·rw [Nat.min_eq_left h]
  by_cases h2:hi<=ns.length
  ·rw[Nat.min_eq_left h2]
  ·rw[Nat.min_eq_right (by (first|lia|omega)),List.take_of_length_le (by rw[List.length_drop];exact Nat.le_refl _),List.take_of_length_le (by rw[List.length_drop];(first|lia|omega))]
 ·rw[show min lo ns.length=ns.length by (first|lia|omega),List.drop_length,List.drop_of_length_le (by (first|lia|omega)),List.take_nil,List.take_nil]
theorem zfx (ns:List Int)(lo hi:Nat):cutV (ns.map V.int) (some (lo:Int)) (some (hi:Int))=((ns.drop lo).take (hi-lo)).map V.int:=by
 unfold cutV
 rw[HT.sIx_nat,HT.sIx_nat,zaz,<-List.map_drop,<-List.map_take,zg3]
theorem zb5 {g:Int->Int}:∀{l:List Int} {ys:List V},Paired (fun x v=>∀k,x=V.int k->v=V.int (g k)) (l.map V.int) ys->ys=(l.map g).map V.int
 |[],_,.nil=>rfl
 |a::l,_,.cons h t=>by
  rw[List.map_cons,List.map_cons,<-zb5 t,h a rfl]
theorem zg4 {n:Nat}{te:TE}{ix:List Nat}{σ:L2.St}{H1:Hp}{Q:VK}(g:Int->Int)(small:n<=1000)(he:∀k:Int,0<=k->k<n->∀H,Same H1 H->∀Q':VK,(∀H',Same H H'->Q' (.int (g k)) H')->te (some (.int k)::ix.map fun i=>σ.getD i none) H Q')
  (fin:∀acc H',H1 acc=none->Same H1 H'->H' acc=some (.lst (((num0 n).map g).map V.int))->Q (.ref acc) H'):LcW (Itr 0 n) H1 (zbr 0) zaZ te 1 ix σ Q:=by
 refine zdQ (zaF (lo:=0) (n:=n)) (zba (by rw[zaq];exact small)) (fun x v _=>∀k,x=V.int k->v=V.int (g k)) (fun _ _ _ _ _ h=>h) (fun _ _=>trivial) (fun x hx H' s' Q' q=> ?_) fun acc ys H' hacc sm hys pr=> ?_
 ·obtain ⟨k,rfl,k0,k1⟩:=zb4 hx
  exact he k k0 k1 H' s' Q' fun H2 s2=>q _ H2 s2 fun k' e=>by cases e;rfl
 ·rw [zbl] at pr
  rw[zb5 pr] at hys
  exact fin acc H' hacc sm hys
noncomputable def zbi (m:Nat)(ns:List Int):List Int:=(num0 (m*(m-1)/2+1)).map fun k=>win ns (k-(m:Int)+1) m
noncomputable def zbU:List Str:=["rounds", "stays", "rises", "highs", "crossed"]
theorem zcg {kind:Str}(h:kind∈zbU):kind= "rounds" ∨kind= "stays" ∨kind= "rises" ∨kind= "highs" ∨kind= "crossed" :=by
 unfold zbU at h
 simpa using h
noncomputable def zgh (kind:Str)(m:Nat)(ns:List Int):List Int:=
 if kind= "crossed" then zbi m ns else if kind= "rises" then zbT m ns else if kind= "stays" then zbS m ns else zbw m ns
noncomputable def bOf (kind:Str):Nat:=if kind= "crossed" then 24 else 60
noncomputable def zfy (K:PySem.W.Frag):Sp:=fun vs H Q _=>∃(kind:Str) (m:Nat) (a:Addr) (ns:List Int),vs=[.str kind,.int m,.ref a]/\kind∈zbU/\1<=m/\m<=bOf kind/\SqT K H a (ns.map V.int)/\ns.length<=1000/\∀p H',Same H H'->H' p=some (.tup ((zgh kind m ns).map V.int))->Q (.ref p) H'
noncomputable def rowZ (kind:Str):Nat->List Int
 |0=>[1]
 |n+1=>zgh kind (n+1) (rowZ kind n)
noncomputable def zc3 (kind:Str)(n:Nat):List (List Int):=(List.range (n+1)).map (rowZ kind)
theorem zbV (n:Nat):(num0 n).length=n:=by simp[num0]
theorem zhQ (kind:Str):bOf kind<=60:=by
 unfold bOf
 split<;>(first|lia|omega)
theorem zfz {kind:Str}{m:Nat}(ns:List Int)(hm:m<=bOf kind):(zgh kind m ns).length<=277:=by
 unfold zgh
 unfold bOf at hm
 split
 ·rename_i h
  rw[if_pos h] at hm
  unfold zbi
  rw[List.length_map,zbV]
  have:m*(m-1)<=24*23:=Nat.mul_le_mul hm (by (first|lia|omega))
  (first|lia|omega)
 ·rename_i h
  rw[if_neg h] at hm
  split
  ·unfold zbT;rw[List.length_map,zbV];(first|lia|omega)
  ·split
   ·unfold zbS;rw[List.length_map,zbV];(first|lia|omega)
   ·unfold zbw;rw[List.length_map,zbV];(first|lia|omega)
theorem zbW {kind:Str}{n:Nat}(hn:n<=bOf kind):(rowZ kind n).length<=277:=by
 cases n with
 |zero=>show 1<=277;(first|lia|omega)
 |succ n=>exact zfz _ hn
theorem zeR (kind:Str)(n:Nat):zc3 kind (n+1)=zc3 kind n++[rowZ kind (n+1)]:=by
 unfold zc3
 rw[List.range_succ,List.map_append]
 rfl
theorem zfA (kind:Str)(n:Nat):(zc3 kind n).length=n+1:=by simp[zc3]
noncomputable def zdX (K:PySem.W.Frag):Sp:=fun vs H Q _=>∃(kind:Str) (m:Nat),vs=[.str kind,.int m]/\kind∈zbU/\m<=bOf kind/\∀p zs H',Same H H'->H' p=some (.tup (zs.map V.ref))->RowsK K H' zs (zc3 kind m)->Q (.ref p) H'
noncomputable def zeq (K:PySem.W.Frag):Sp:=fun vs H Q _=>∃(kind:Str) (m:Nat),vs=[.str kind,.int m]/\kind∈zbU/\m<=bOf kind/\∀p H',Same H H'->SqT K H' p ((rowZ kind m).map V.int)->Q (.ref p) H'
theorem zer {K:PySem.W.Frag}{H:Hp}{a l:Addr}{xs ys:List V}{o:HO}(h:SqT K H a xs)(hl:H l=some (.lst ys)):SqT K (upd H l o) a xs:=by
 have hne:∀u,H a=some u->(∀ys,u≠.lst ys)->a≠l:=fun u e hu hal=>by
  subst hal
  rw[hl] at e
  cases e
  exact hu _ rfl
 rcases h with (h|⟨o',h⟩)|h
 ·exact .inl (.inl (by rw[zah (hne _ h (fun _ q=>nomatch q))];exact h))
 ·exact .inl (.inr ⟨o',by rw[zah (hne _ h (fun _ q=>nomatch q))];exact h⟩)
 ·exact .inr h
theorem RowsK.updL {K:PySem.W.Frag}{H:Hp}{zs:List Addr}{rows:List (List Int)}{l:Addr}{ys:List V}{o:HO}(h:RowsK K H zs rows)(hl:H l=some (.lst ys)):RowsK K (upd H l o) zs rows:=Paired.mapP h fun _ _ q=>zer q hl
theorem RowsK.get {K:PySem.W.Frag}{H:Hp}:∀{zs:List Addr} {rows:List (List Int)},RowsK K H zs rows->∀{i:Nat} {r:List Int},rows[i]? =some r->∃z,zs[i]? =some z/\SqT K H z (r.map V.int)
 |_,_,.nil,_,_,e=>nomatch e
 |_,_,.cons h t,0,_,e=>by cases e;exact⟨_,rfl,h⟩
 |_,_,.cons h t,i+1,_,e=>RowsK.get t e
end L2
namespace L2
theorem zgi {α:Type}{xs:List α}(h:0<xs.length):atI xs (-1)=xs[xs.length-1]? :=by
 unfold atI ixN
 rw[if_neg (by decide),if_pos (by (first|lia|omega))]
 show xs[((-1:Int)+xs.length).toNat]? =_
 rw[show ((-1:Int)+xs.length).toNat=xs.length-1 by (first|lia|omega)]
end L2
namespace L2
open PySem PySem.Spec PyProof.Rows
theorem GDict.of {K:PySem.W.Frag}{P:Params}{C:Addr}{kvs:List (Str×Addr)}{es:Array DictEntry}{n:Nat}(l:K.lookup C=some {cls:=.type "dict",data:=.dict es n})(en:Ents P es.toList kvs)(nd:(kvs.map (·.1)).Nodup):GDict K P C kvs:=⟨⟨es,n,l,en⟩,nd⟩
theorem CalF.of {P:Program}{w:World}{K:PySem.W.Frag}{mg:Str->Option Value}{base:Heap}{k k':Nat}{x:Str}{f:Addr}{ps:List Str}{sp:Sp}(C:Cal P w K mg base k x ps sp)(h:mg x=some (.ref f))(hk:k<=k'):CalF P w K mg base k' f ps sp:=by
 obtain⟨f',fd,F,hm,kp,hb⟩:=C.ex
 rw[h] at hm
 cases hm
 exact⟨fd,F.mono hk,kp,hb⟩
theorem sqT_ofK {K:PySem.W.Frag}{a:Addr}{xs:List V}{its:Array Value}{n:Nat}(l:K.lookup a=some {cls:=.type "tuple",data:=.seq its n})(hz:its.size<=sizeLine)(r:Vals xs its.toList):∀H,SqT K H a xs:=fun _=>.inr ⟨_,its,n,l,rfl,rfl,hz,r⟩
section
variable {κ:Type}[DecidableEq κ]
noncomputable def valV (kvs:List (κ×V))(k:κ):Option V:=(kvs.find? fun kv=>decide (kv.1=k)).map (·.2)
noncomputable def putK (kvs:List (κ×V))(k:κ)(v:V):List (κ×V):=
 if (kvs.any fun kv=>decide (kv.1=k))=true then kvs.map (fun kv=>if kv.1=k then (kv.1,v) else kv) else kvs++[(k,v)]
theorem zc4 {p:κ×V}{r:List (κ×V)}{k:κ}(e:p.1=k):valV (p::r) k=some p.2:=by simp[valV,List.find?_cons,e]
theorem zc5 {p:κ×V}{r:List (κ×V)}{k:κ}(e:¬p.1=k):valV (p::r) k=valV r k:=by simp[valV,List.find?_cons,e]
theorem zes (k:κ):∀kvs:List (κ×V),(kvs.any fun kv=>decide (kv.1=k))=(valV kvs k).isSome
 |[]=>rfl
 |p::r=>by
  rw[List.any_cons]
  by_cases e:p.1=k
  ·simp only[zc4 e,decide_eq_true e,Bool.true_or,Option.isSome_some]
  ·rw[zc5 e,decide_eq_false e,Bool.false_or];exact zes k r
theorem zcC (kvs:List (κ×V))(k:κ)(v:V):(putK kvs k v).length<=kvs.length+1:=by
 unfold putK
 split
 ·rw[List.length_map];(first|lia|omega)
 ·rw[List.length_append,List.length_cons,List.length_nil];(first|lia|omega)
theorem RelO.isSome_eq {o:Option V}{u:Option Value}(r:RelO o u):o.isSome=u.isSome:=by
 cases o with
 |none=>cases u with
  |none=>rfl
  |some _=>exact (show False from r).elim
 |some _=>cases u with
  |none=>exact (show False from r).elim
  |some _=>rfl
theorem RelO.getD {o:Option V}{u:Option Value}{d:V}{d':Value}(r:RelO o u)(rd:RelV d d'):RelV (o.getD d) (u.getD d'):=by
 cases o with
 |none=>cases u with
  |none=>exact rd
  |some _=>exact (show False from r).elim
 |some _=>cases u with
  |none=>exact (show False from r).elim
  |some _=>exact r
theorem KV.val {kvs:List (κ×V)}{vs:List (κ×Value)}(r:KV kvs vs)(k:κ):RelO (valV kvs k) (valueAt vs k):=by
 unfold KV at r
 induction r with
 |nil=>exact True.intro
 | @cons p q ps qs h t ih=>
  obtain⟨h1,h2⟩:=h
  by_cases e:p.1=k
  ·have e':q.1=k:=h1.symm.trans e
   have b:valueAt (q::qs) k=some q.2:=by simp[valueAt,List.find?_cons,e']
   rw[zc4 e,b];exact h2
  ·have e':¬q.1=k:=fun z=>e (h1.trans z)
   have b:valueAt (q::qs) k=valueAt qs k:=by simp[valueAt,List.find?_cons,e']
   rw[zc5 e,b];exact ih
theorem KV.any {kvs:List (κ×V)}{vs:List (κ×Value)}(r:KV kvs vs)(k:κ):(kvs.any fun kv=>decide (kv.1=k))=vs.any fun kv=>decide (kv.1=k):=by
 unfold KV at r
 induction r with
 |nil=>rfl
 |cons h t ih=>rw[List.any_cons,List.any_cons,ih,h.1]
theorem KV.repl {kvs:List (κ×V)}{vs:List (κ×Value)}(r:KV kvs vs)(k:κ){y:V}{u:Value}(ry:RelV y u):
  KV (kvs.map fun kv=>if kv.1=k then (kv.1,y) else kv) (vs.map fun kv=>if kv.1=k then (kv.1,u) else kv):=by
 unfold KV at r ⊢
 induction r with
 |nil=>exact .nil
 |@cons p q ps qs h t ih=>
  rw[List.map_cons,List.map_cons]
  refine .cons ?_ ih
  obtain⟨h1,h2⟩:=h
  by_cases e:p.1=k
  ·rw[if_pos e,if_pos (h1.symm.trans e)];exact⟨h1,ry⟩
  ·rw[if_neg e,if_neg (fun z=>e (h1.trans z))];exact⟨h1,h2⟩
theorem KV.put {kvs:List (κ×V)}{vs:List (κ×Value)}(r:KV kvs vs)(k:κ){y:V}{u:Value}(ry:RelV y u):KV (putK kvs k y) (stored vs k u):=by
 unfold putK stored
 rw[r.any k]
 by_cases e:(vs.any fun kv=>decide (kv.1=k))=true
 ·rw[if_pos e,if_pos e];exact r.repl k ry
 ·rw[if_neg e,if_neg e];exact Paired.snoc r ⟨rfl,ry⟩
theorem KV.length {kvs:List (κ×V)}{vs:List (κ×Value)}(r:KV kvs vs):kvs.length=vs.length:=Paired.length r
end
theorem zg5 {P:Program}{w:World}{k:Key}{u:Value}(r:RelV (kV k) u):(zaH P w).is k u=true:=by
 cases k with
 |inl i=>obtain⟨t,e⟩:=(show ∃t,u=Value.int i t from r);subst e;exact zdM P w i t
 |inr x=>obtain⟨t,e⟩:=(show ∃t,u=Value.str x t from r);subst e;exact zdN P w x t
theorem zdw {P:Program}{w:World}:∀{ks:List Key} {us:List Value},Vals (ks.map kV) us->ItemsAre (zaH P w) ks us
 |[],_,r=>by rw[List.map_nil] at r;cases r;exact .nil
 |k::ks,_,r=>by
  rw[List.map_cons] at r
  cases r with
  |cons h t=>exact .cons (zg5 h) (zdw t)
noncomputable abbrev KT (H:Hp):List (List Key×V)->List (List Key×Addr×Value)->Prop:=Paired fun p q=>p.1=q.1/\H q.2.1=some (.tup (p.1.map kV))/\RelV p.2 q.2.2
theorem KT.val {H:Hp}{kvs:List (List Key×V)}{xs:List (List Key×Addr×Value)}(r:KT H kvs xs)(k:List Key):RelO (valV kvs k) ((atKey xs k).map (·.2)):=by
 induction r with
 |nil=>exact True.intro
 | @cons p q ps qs h t ih=>
  obtain⟨h1,_,h2⟩:=h
  by_cases e:p.1=k
  ·have e':q.1=k:=h1.symm.trans e
   have b:atKey (q::qs) k=some q.2:=by simp[atKey,List.find?_cons,e']
   rw[zc4 e,b];exact h2
  ·have e':¬q.1=k:=fun z=>e (h1.trans z)
   have b:atKey (q::qs) k=atKey qs k:=by simp[atKey,List.find?_cons,e']
   rw[zc5 e,b];exact ih
theorem KT.repl {H:Hp}{kvs:List (List Key×V)}{xs:List (List Key×Addr×Value)}(r:KT H kvs xs)(k:List Key){y:V}{u:Value}(ry:RelV y u):
  KT H (kvs.map fun kv=>if kv.1=k then (kv.1,y) else kv) (xs.map (putAt k u)):=by
 induction r with
 |nil=>exact .nil
 |@cons p q ps qs h t ih=>
  rw[List.map_cons,List.map_cons]
  refine .cons ?_ ih
  obtain⟨h1,h2,h3⟩:=h
  unfold putAt
  by_cases e:p.1=k
  ·rw[if_pos e,if_pos (h1.symm.trans e)];exact⟨h1,h2,ry⟩
  ·rw[if_neg e,if_neg (fun z=>e (h1.trans z))];exact⟨h1,h2,h3⟩
theorem KT.put {H:Hp}{kvs:List (List Key×V)}{xs:List (List Key×Addr×Value)}(r:KT H kvs xs)(k:List Key){b:Addr}{y:V}{u:Value}(hb:H b=some (.tup (k.map kV)))(ry:RelV y u):
  KT H (putK kvs k y) (storedH xs k b u):=by
 have e:(kvs.any fun kv=>decide (kv.1=k))=(atKey xs k).isSome:=by
  rw[zes,(r.val k).isSome_eq,Option.isSome_map]
 unfold putK storedH
 rw[e]
 by_cases q:(atKey xs k).isSome=true
 ·rw[if_pos q,if_pos q];exact r.repl k ry
 ·rw[if_neg q,if_neg q];exact Paired.snoc r ⟨rfl,hb,ry⟩
theorem KT.keeps {H H':Hp}{kvs:List (List Key×V)}{xs:List (List Key×Addr×Value)}(r:KT H kvs xs)(ht:∀b ys,H b=some (.tup ys)->H' b=some (.tup ys)):KT H' kvs xs:=
 Paired.mapP r fun _ _ z=>⟨z.1,ht _ _ z.2.1,z.2.2⟩
section
variable {P:Program}{w:World}{H:Hp}{h:Heap}{a:Addr}
theorem zhR {u:HO}(ok:HOk P w H h)(e:Rd H a u):ObjOk P w H h a u:=e.ok ok
theorem zg6 {kvs:List (Key×V)}(ok:HOk P w H h)(e:Rd H a (.dK kvs)):kvs.length<=sizeLine/\(a==sysModules)=false/\∃vs,KV kvs vs/\h.DictOf (zaH P w) a vs:=
 show ObjOk P w H h a (.dK kvs) from zhR ok e
theorem ziw {kvs:List (Key×V)}(ok:HOk P w H h)(e:H a=some (.dK kvs)):kvs.length<=sizeLine/\(a==sysModules)=false/\∃vs,KV kvs vs/\h.DictOf (zaH P w) a vs:=zg6 ok (.inl e)
theorem zdx {ks:List Key}(ok:HOk P w H h)(e:H a=some (.tup (ks.map kV))):(tupleKind (zaH P w)).is h ks a:=by
 obtain⟨_,its,r,o,h1,h2,⟨n,h3⟩,_⟩:=(show ObjOk P w H h a (.tup (ks.map kV)) from ok a _ e)
 exact⟨o,its.toArray,n,h1,h2,h3,by simpa using zdw r⟩
theorem zg7 {kvs:List (List Key×V)}(ok:HOk P w H h)(e:Rd H a (.dT kvs)):kvs.length<=sizeLine/\(a==sysModules)=false/\
  ∃xs,KT H kvs xs/\h.DictOfH (tupleKind (zaH P w)) a xs:=by
 obtain⟨z,y,xs,r,o,es,ep,h1,h2,h3,h4,h5⟩:=(show ObjOk P w H h a (.dT kvs) from zhR ok e)
 refine⟨z,y,xs,r,o,es,ep,h1,h2,h3,h4,fun x hx=> ?_,h5⟩
 have all:∀{l:List (List Key×V)} {m:List (List Key×Addr×Value)},KT H l m->∀x∈m,(tupleKind (zaH P w)).is h x.1 x.2.1:=by
  intro l m q
  induction q with
  |nil=>intro x hx;exact nomatch hx
  | @cons p q ps qs hq t ih=>
   intro x hx
   rcases List.mem_cons.mp hx with e|hx
   ·subst e
    exact zdx ok (by rw[<-hq.1];exact hq.2.1)
   ·exact ih x hx
 exact all r x hx
theorem zhS {kvs:List (List Key×V)}(ok:HOk P w H h)(e:H a=some (.dT kvs)):kvs.length<=sizeLine/\(a==sysModules)=false/\
  ∃xs,KT H kvs xs/\h.DictOfH (tupleKind (zaH P w)) a xs:=zg7 ok (.inl e)
end
noncomputable def DGet (H:Hp)(a:Addr)(y:V)(r:Option V):Prop:=
 (∃kvs k,Rd H a (.dK kvs)/\y=kV k/\r=valV kvs k)∨∃kvs k b,Rd H a (.dT kvs)/\y=.ref b/\H b=some (.tup (k.map kV))/\r=valV kvs k
noncomputable def DPut (H:Hp)(a:Addr)(y v:V)(H':Hp):Prop:=
 (∃kvs k,H a=some (.dK kvs)/\y=kV k/\kvs.length<sizeLine/\H'=upd H a (.dK (putK kvs k v)))∨
 ∃kvs k b,H a=some (.dT kvs)/\y=.ref b/\H b=some (.tup (k.map kV))/\kvs.length<sizeLine/\H'=upd H a (.dT (putK kvs k v))
theorem DGet.t {H:Hp}{a b:Addr}{kvs:List (List Key×V)}{k:List Key}(e:H a=some (.dT kvs))(eb:H b=some (.tup (k.map kV))):DGet H a (.ref b) (valV kvs k):=.inr ⟨kvs,k,b,.inl e,rfl,eb,rfl⟩
theorem DPut.t {H:Hp}{a b:Addr}{kvs:List (List Key×V)}{k:List Key}{v:V}(e:H a=some (.dT kvs))(eb:H b=some (.tup (k.map kV)))(hl:kvs.length<sizeLine):
  DPut H a (.ref b) v (upd H a (.dT (putK kvs k v))):=.inr ⟨kvs,k,b,e,rfl,eb,hl,rfl⟩
section
variable {X:Cx}{pins:List (Addr×Obj)}{σ:St}{H:Hp}{s:Shared}{a:Addr}{y v:V}{u r:Value}{o:Option V}{A:Around}{E:Value->Shared->Prop}
theorem Inv.big (I:Inv X pins σ H s):sysModules<s.heap.objs.size:=by
 have h:mainGlobals<s.heap.objs.size:=(I.mod.glob.keeps I.bk).lt
 exact Nat.lt_trans (by decide) h
theorem zdY {h':Heap}{t':Nat}{ob:HO}(I:Inv X pins σ H s)(mu:Mut (H a))(hs:Heap.SameBut a s.heap h')(he:∃q,h'.get? a=some q)(new:ObjOk X.prog X.w (upd H a ob) h' a ob):
  Inv X pins σ (upd H a ob) {s with heap:=h',toks:=t'}:=
 I.write (x:=a) (e:=a) mu (.inl rfl) (fun b q hb z=>(hs.2 b hb).trans z) he new
theorem zhT {P:Program}{w:World}{H':Hp}{h':Heap}{kvs:List (Key×V)}{vs:List (Key×Value)}(z:kvs.length<=sizeLine)(hd:(a==sysModules)=false)(rel:KV kvs vs)(dd:h'.DictOf (zaH P w) a vs):
  ObjOk P w H' h' a (.dK kvs):=⟨z,hd,vs,rel,dd⟩
theorem zfB {H':Hp}{Q:Unit->Shared->Prop}(hu:A.units+1<cLine)(I:Inv X pins σ H s)(g:DPut H a y v H')(ry:RelV y u)(rv:RelV v r)(h:∀s',Inv X pins σ H' s'->Q () s'):
  wpAny (model X.prog X.w) A (setItem (.ref a) u r) Q E s:=by
 rcases g with⟨kvs,k,e,ey,l,eH⟩|⟨kvs,k,b,e,ey,eb,l,eH⟩
 ·subst ey eH
  obtain⟨z,hd,vs,rel,dd⟩:=ziw I.hok e
  have hz:vs.length<=sizeLine:=by rw[<-rel.length];exact z
  have hl:(putK kvs k v).length<=sizeLine:=by have:=zcC kvs k v;(first|lia|omega)
  refine wpAny_setItem_pairs (hsz:=hz) (zg5 ry) dd fun h' dd' hs=>h _ ?_
  have he:∃q,h'.get? a=some q:=let ⟨q,_,_,hq,_⟩:=dd';⟨q,hq⟩
  exact zdY I (by rw[e];exact True.intro) hs he (zhT hl hd (rel.put k rv) dd')
 ·subst ey eH
  cases (show u=Value.ref b from ry)
  obtain⟨z,hd,xs,rel,dd⟩:=zhS I.hok e
  have hz:xs.length<=sizeLine:=by rw[<-Paired.length rel];exact z
  have hl:(putK kvs k v).length<=sizeLine:=by have:=zcC kvs k v;(first|lia|omega)
  refine wpAny_setItem_heap (hsz:=hz) (tupleKind_room_in1 hu) (zdx I.hok eb) dd fun h' dd' hs=>h _ ?_
  obtain⟨q,es,ep,hq,h2,h3,h4,_,h5⟩:=dd'
  refine zdY I (by rw[e];exact True.intro) hs ⟨q,hq⟩ ⟨hl,hd,_,(rel.put k eb rv).keeps fun c ys ec=> ?_,q,es,ep,hq,h2,h3,h4,h5⟩
  rw[zah (zfV ec e (fun z=>nomatch z))]
  exact ec
end
section
variable {X:Cx}{pins:List (Addr×Obj)}{σ:St}{H:Hp}{s:Shared}{a:Addr}{kvs:List (Key×V)}{k:Key}{u:Value}{A:Around}{E:Value->Shared->Prop}
end
noncomputable def zix (td ty tv:TE):TS:=fun D σ H=>tv σ H fun v H1=>td σ H1 fun x H2=>ty σ H2 fun y H3=>∃a H4,x=.ref a/\DPut H3 a y v H4/\D.nx σ H4
section
variable {X:Cx}{o i e value:Expr}{pos pos' tpos:Pos}{td ty tv:TE}
theorem zdZ (hu:X.A.units+1<cLine)(ho:PE X o td)(hi:PE X i ty)(hv:PE X value tv)(hs:swapsWith value (some (.Subscript o i pos')) pos.line X.env=pure false):
  PS X (.Assign [.Subscript o i pos'] value pos) (zix td ty tv):=by
 intro pins s σ H D I h
 refine wpAny_Assign_Subscript (thn (hv pins s σ H _ I h) fun r s1 ⟨v,H1,I1,rv,q1⟩=>thn (ho pins s1 σ H1 _ I1 q1) fun u s2 ⟨x,H2,I2,rx,q2⟩=>thn (hi pins s2 σ H2 _ I2 q2) fun iv s3 ⟨y,H3,I3,ry,a,H4,ex,g,q3⟩=> ?_) hs
 subst ex
 obtain rfl:u=Value.ref a:=rx
 exact zfB hu I3 g ry rv fun s4 I4=>⟨σ,H4,I4,q3⟩
end
theorem zet {P:Program}{w:World}{H:Hp}(h:Heap)(hb:sysModules<h.objs.size):ObjOk P w H (h.push {cls:=.type "dict",data:=.dict #[]}) h.objs.size (.dT []):=
 ⟨Nat.zero_le _,beq_eq_false_iff_ne.mpr (Ne.symm (Nat.ne_of_lt hb)),[],.nil,_,#[],0,Heap.get?_push_size _ rfl,⟨rfl,rfl,rfl⟩,rfl,rfl,List.nodup_nil⟩
noncomputable def zhU:TE:=fun _ H Q=>∀p,H p=none->Q (.ref p) (upd H p (.dT []))
section
variable {X:Cx}{pos:Pos}
theorem zc6:PE X (.Dict [] [] pos) zhU:=fun pins s σ H Q I h=>
 wpAny_Dict_empty ⟨.ref s.heap.objs.size,_,I.laid (a:=s.heap.objs.size) (o:=.dT []) (t':=s.toks) (fun _ _ q=>Heap.get?_push_of_some _ q) (Nat.le_refl _) (zet s.heap I.big),rfl,h _ (I.hok.fresh (Nat.le_refl _))⟩
end
structure M1 (X:Cx) (o:Expr) (m:Str) (apos:Pos) (e:Expr) (cpos:Pos):Prop where
 base:attributeBase o m X.env (eval o X.env)=eval o X.env
 few:((backTo cpos (starEach [e] X.env)).all (fun x=> !x.1)&&(backToKw cpos (keywordEach [] X.env)).all (fun x=>x.1.isSome)
  &&decide (([e]:List Expr).length+([]:List Keyword).length+(if ([]:List Keyword).isEmpty then 0 else 1)<30))=true
 line:(apos.endLine==cpos.line)=true
 trees:backTo cpos (starEach [e] X.env)=[(false,eval e X.env)]
structure M2 (X:Cx) (o:Expr) (m:Str) (apos:Pos) (e f:Expr) (cpos:Pos):Prop where
 base:attributeBase o m X.env (eval o X.env)=eval o X.env
 few:((backTo cpos (starEach [e,f] X.env)).all (fun x=> !x.1)&&(backToKw cpos (keywordEach [] X.env)).all (fun x=>x.1.isSome)
  &&decide (([e,f]:List Expr).length+([]:List Keyword).length+(if ([]:List Keyword).isEmpty then 0 else 1)<30))=true
 line:(apos.endLine==cpos.line)=true
 trees:backTo cpos (starEach [e,f] X.env)=[(false,eval e X.env),(false,eval f X.env)]
noncomputable def IsD (H:Hp)(a:Addr):Prop:=(∃kvs,Rd H a (.dK kvs))∨∃kvs,Rd H a (.dT kvs)
theorem zeu {X:Cx}{pins:List (Addr×Obj)}{σ:St}{H:Hp}{s:Shared}{a:Addr}(I:Inv X pins σ H s)(d:IsD H a):
  s.TypeIs (.ref a) "dict" /\(∀b,Value.ref a=.ref b->∃ob,s.heap.get? b=some ob/\ob.dict=none)/\(a==sysModules)=false:=by
 rcases d with⟨kvs,e⟩|⟨kvs,e⟩
 ·obtain ⟨_,hd,vs,_,dd⟩:=zg6 I.hok e
  refine⟨dd.typeIs,fun b q=> ?_,hd⟩
  cases q
  obtain⟨ob,_,_,h1,h2,_⟩:=dd
  exact⟨ob,h1,h2.2.1⟩
 ·obtain ⟨_,hd,xs,_,dd⟩:=zg7 I.hok e
  refine⟨dd.typeIs,fun b q=> ?_,hd⟩
  cases q
  obtain⟨ob,_,_,h1,h2,_⟩:=dd
  exact⟨ob,h1,h2.2.1⟩
section
variable {X:Cx}{pins:List (Addr×Obj)}{σ:St}{H:Hp}{s:Shared}{a:Addr}{y d:V}{u r:Value}{o:Option V}{A:Around}{E:Value->Shared->Prop}
theorem zhV {Q:Value->Shared->Prop}(hu:A.units+1<cLine)(I:Inv X pins σ H s)(g:DGet H a y o)(ry:RelV y u)(rd:RelV d r)(h:∀w' s',Inv X pins σ H s'->RelV (o.getD d) w'->Q w' s'):
  wpAny (model X.prog X.w) A (call (.builtin "dict.get") [.ref a,u,r]) Q E s:=by
 rcases g with⟨kvs,k,e,ey,l⟩|⟨kvs,k,b,e,ey,eb,l⟩
 ·subst ey
  obtain⟨z,hd,vs,rel,dd⟩:=zg6 I.hok e
  refine call_meetsIn PySem.F.slot_dict_get dd.typeIs PySem.F.entry_dict_get (PySem.F.args_dict_get_3 _ _ _) (meets_dict_get_default (zaH X.prog X.w) a (zg5 ry) hd r) ⟨_,dd.mapOf,h _ _ (I.tok _) ?_⟩
  rw[l]
  exact (rel.val k).getD rd
 ·subst ey
  cases (show u=Value.ref b from ry)
  obtain⟨z,hd,xs,rel,dd⟩:=zg7 I.hok e
  refine call_meetsIn PySem.F.slot_dict_get dd.typeIs PySem.F.entry_dict_get (PySem.F.args_dict_get_3 _ _ _) (meetsH_dict_get_default (tupleKind (zaH X.prog X.w)) a b hd r) ⟨tupleKind_room_in1 hu,k,xs,zdx I.hok eb,dd,h _ _ (I.tok _) ?_⟩
  rw[l]
  exact (rel.val k).getD rd
end
noncomputable def zhW (td ty tx:TE):TE:=fun σ H Q=>td σ H fun x H1=>∃a,x=.ref a/\IsD H1 a/\ty σ H1 fun y H2=>tx σ H2 fun z H3=>∃o,DGet H3 a y o/\Q (o.getD z) H3
section
variable {X:Cx}{o e f:Expr}{apos cpos:Pos}{td ty tx:TE}
theorem zbB (hu:X.A.units+1<cLine)(ho:PE X o td)(he:PE X e ty)(hf:PE X f tx)(m:M2 X o "get" apos e f cpos):PE X (.Call (.Attribute o "get" apos) [e,f] [] cpos) (zhW td ty tx):=by
 intro pins s σ H Q I h
 refine wpAny_Call_method m.base m.few m.line PySem.F.plainAttrs_dict PySem.F.slot_dict_get PySem.F.type_dict_get (thn (ho pins s σ H _ I h) fun u s1 zq=> ?_)
 obtain⟨x,H1,I1,rx,a,ex,d,q1⟩:=zq
 subst ex
 obtain rfl:u=Value.ref a:=rx
 obtain⟨t1,t2,_⟩:=zeu I1 d
 refine⟨t1,t2, ?_⟩
 rw[m.trees]
 refine Calls.callWith_builtin rfl (Calls.evalArgs_plain (Calls.spliced_cons (thn (he pins s1 σ H1 _ I1 q1) fun iv s2 ⟨y,H2,I2,ry,q2⟩=>
  Calls.spliced_cons (thn (hf pins s2 σ H2 _ I2 q2) fun fv s3 ⟨z,H3,I3,rz,ov,g,q3⟩=>Calls.spliced_nil ?_))))
 exact zhV hu I3 g ry rz fun w' s4 I4 rw'=>⟨_,H3,I4,rw',q3⟩
end
section
variable {X:Cx}{pins:List (Addr×Obj)}{σ:St}{H:Hp}{s:Shared}{a:Addr}{kvs:List (Key×V)}{A:Around}{E:Value->Shared->Prop}
end
section
variable {X:Cx}{pins:List (Addr×Obj)}{σ:St}{H:Hp}{s:Shared}{a:Addr}{y:V}{u:Value}{A:Around}{E:Value->Shared->Prop}
end
noncomputable def RawD (h:Heap)(d:Addr)(es:Array DictEntry)(ep:Nat):Prop:=∃ob,h.get? d=some ob/\ob.ExactDict/\ob.data=.dict es ep
section
variable {prog:Program}{w:World}{A:Around}{E:Value->Shared->Prop}{s:Shared}{d it v:Addr}{es:Array DictEntry}{ep:Nat}
theorem zcD (hd:(d==sysModules)=false):MeetsIn prog w (Builtin.«dict.items» ⟨[.ref d],[]⟩) (fun _ R s=>s.TypeIs (.ref d) "dict" /\R (.ok (.ret (.ref s.heap.objs.size))) {s with heap:=s.heap.push {cls:=.type "dict_items",data:=.fields #[.ref d]}}):=
 .of_wp fun A R s h=>by
  obtain⟨ht,h⟩:=h
  unfold Builtin.«dict.items» Builtin.Dict.noArgs
  refine wpAny_bind (wpAny_bind (wpAny_notOrdered_dict ht (wpAny_pure ?_)))
  unfold Builtin.Dict.showsAll
  refine wpAny_bind ?_
  rw[if_neg (fun z=>by rw[hd] at z;cases z)]
  exact wpAny_pure (wpAny_bind (wpAny_newObj_type (wpAny_pure ⟨_,rfl,h⟩)))
theorem zc7 {Q:Value->Shared->Prop}(hv:s.heap.get? v=some {cls:=.type "dict_items",data:=.fields #[.ref d]})(hm:RawD s.heap d es ep)
  (q:Q (.ref s.heap.objs.size) {s with heap:=s.heap.push {cls:=.type "dict_itemiterator",data:=.fields #[.none,.bool false,.ref d,.int 0 0,.int es.size 0,.int ep 0,.none,.none]}}):wpAny (model prog w) A (pyIter (.ref v)) Q E s:=by
 obtain⟨ob,ho,_,hdat⟩:=hm
 have tv:s.TypeIs (.ref v) "dict_items" :=⟨_,hv,rfl⟩
 refine wpAny_pyIter_slot tv F.slot_dict_items_iter (wpAny_call_entry F.slot_dict_items_iter tv F.entry_dict_items_iter ?_ (F.args_dict_items_iter_1 _))
 unfold Builtin.«dict_items.__iter__» Builtin.Dict_items.dictOf Builtin.Dict_items.newIterator
 refine wpAny_bind (wpAny_pure (wpAny_bind (wpAny_bind (wpAny_field hv rfl (x:=.ref d) rfl (wpAny_pure (wpAny_bind (wpAny_bind (wpAny_dictEntries ho hdat (wpAny_bind (wpAny_dictEpoch ho hdat ?_))))))))))
 have own:Builtin.Dict_items.ownsTuple "dict_itemiterator" =true:=by decide
 simp only[own,if_true]
 refine wpAny_newObj_type (wpAny_pure ⟨_,rfl, "dict_itemiterator",_,⟨_,Heap.get?_push_size _ rfl,rfl⟩,F.slot_dict_itemiterator_next.lookup, ?_⟩) (by
  simp only[sizeOk,Builtin.Dict_items.ownedTupleFields,List.size_toArray,List.length_append,List.length_cons,List.length_nil,sizeLine_eq]
  (first|lia|omega))
 simpa [rawInt,Builtin.Dict_items.ownedTupleFields] using q
theorem zgj {i:Nat}{e:DictEntry}{ok ov:Value}{Q:Option Value->Shared->Prop}(hit:IsItemIter s.heap it d i es.size ep ok ov)(hm:RawD s.heap d es ep)(hx:es[i]? =some e)
  (q:∀h',IsItemIterOut h' it d (i+1) es.size ep e.key e.val s.heap.objs.size->h'.get? s.heap.objs.size=some {cls:=.type "tuple",data:=.seq #[e.key,e.val]}->(∀b o,b≠it->s.heap.get? b=some o->h'.get? b=some o)->
   Q (some (.ref s.heap.objs.size)) {s with heap:=h'}):wpAny (model prog w) A (pyNext (.ref it)) Q E s:=by
 obtain⟨hp,g,dr,tk,os⟩:=s
 obtain⟨ob,hod,_,hdd⟩:=hm
 have tI:Shared.TypeIs ⟨hp,g,dr,tk,os⟩ (.ref it) "dict_itemiterator" :=⟨_,hit,rfl⟩
 have own:Builtin.Dict_items.ownsTuple "dict_itemiterator" =true:=by decide
 have hil:it<hp.objs.size:=Heap.lt_size hit
 unfold pyNext
 refine wpAny_bind (wpAny_attempt (wpAny_callSpecial?_slot (name:=Str.ofString "__next__") tI F.slot_dict_itemiterator_next (wpAny_call_entry F.slot_dict_itemiterator_next tI F.entry_dict_itemiterator_next ?_ (F.args_dict_itemiterator_next_1 _))))
 refine wpAny_bind (wpAny_pure (wpAny_bind (wpAny_bind ?_)))
 refine wpAny_bind (wpAny_typeNameOfWhole_itemiter tI (wpAny_pure (wpAny_bind (wpAny_fieldsOf hit rfl ?_))))
 simp only[own,if_true]
 show wpAny _ _ (if (Value.ref d==Value.none)=true then _ else _) _ _ _
 have nd:¬((Value.ref d==Value.none)=true):=Bool.false_ne_true
 rw[if_neg nd]
 refine wpAny_bind (wpAny_pure (wpAny_bind (wpAny_dictEntries hod hdd ?_)))
 rw[if_neg (by simp)]
 refine wpAny_bind (wpAny_pure (wpAny_bind (wpAny_dictEpoch hod hdd ?_)))
 rw[if_neg (by simp)]
 refine wpAny_pure ?_
 simp only[show ¬((i:Int)<0) by (first|lia|omega),if_false,Int.toNat_natCast,hx]
 refine wpAny_bind (wpAny_bind (wpAny_typeNameOfWhole_itemiter tI (wpAny_pure (wpAny_bind (wpAny_isOneOf_itemiter tI ?_)))))
 show wpAny _ _ (setField (.ref it) 3 (rawInt ((i:Int)+1)) >>= _) _ _ ⟨hp,g,dr,tk,os⟩
 refine wpAny_bind (wpAny_setField_rec hit (by simp) fun h1 (e1:_) (k1:Heap.SameBut it hp h1)=> ?_)
 have e1':IsItemIter h1 it d (i+1) es.size ep ok ov:=by
  unfold IsItemIter
  rw[show ((i+1:Nat):Int)=(i:Int)+1 by (first|lia|omega)]
  simpa [rawInt] using e1
 have t1:Shared.TypeIs ⟨h1,g,dr,tk,os⟩ (.ref it) "dict_itemiterator" :=⟨_,e1',rfl⟩
 refine wpAny_bind (wpAny_holding (wpAny_bind (wpAny_isOneOf_itemiter t1 (wpAny_bind (wpAny_isOneOf_itemiter t1 ?_)))))
 show wpAny _ _ (Builtin.Dict_items.pairFromOwner (.ref it) 6 e.key e.val) _ _ ⟨h1,g,dr,tk,os⟩
 unfold Builtin.Dict_items.pairFromOwner Builtin.Dict_items.ownedTupleIsFree
 have z1:h1.objs.size=hp.objs.size:=k1.1
 have e2:IsItemIter (h1.push {cls:=.type "tuple",data:=.seq #[e.key,e.val]}) it d (i+1) es.size ep ok ov:=Heap.get?_push_of_some _ e1'
 have t2:(h1.push {cls:=.type "tuple",data:=.seq #[e.key,e.val]}).get? hp.objs.size=some {cls:=.type "tuple",data:=.seq #[e.key,e.val]}:=by
  rw[<-z1]
  exact Heap.get?_push_size _ rfl
 have k2:∀b o,b≠it->hp.get? b=some o->(h1.push {cls:=.type "tuple",data:=.seq #[e.key,e.val]}).get? b=some o:=fun b o hb x=>Heap.get?_push_of_some _ (k1.extBut b o hb x)
 refine wpAny_bind (wpAny_newTuple ?_)
 show wpAny _ _ (_ >>= _) _ _ ⟨h1.push {cls:=.type "tuple",data:=.seq #[e.key,e.val]},g,dr,tk,os⟩
 rw[z1]
 generalize h1.push {cls:=.type "tuple",data:=.seq #[e.key,e.val]}=h2 at e2 t2 k2
 refine wpAny_bind (wpAny_bind (wpAny_field e2 rfl (x:=.none) rfl (wpAny_pure ?_)))
 simp only[if_true]
 refine wpAny_bind (wpAny_field e2 rfl (x:=ok) rfl (wpAny_bind (wpAny_field e2 rfl (x:=ov) rfl (wpAny_bind (wpAny_setField_rec e2 (by simp) fun h3 (e3:IsItemIter h3 it d (i+1) es.size ep e.key ov) (k3:Heap.SameBut it h2 h3)=> ?_)))))
 refine wpAny_bind (wpAny_setField_rec e3 (by simp) fun h4 (e4:IsItemIter h4 it d (i+1) es.size ep e.key e.val) (k4:Heap.SameBut it h3 h4)=> ?_)
 refine wpAny_bind (wpAny_setField_rec e4 (by simp) fun h5 (e5:IsItemIterOut h5 it d (i+1) es.size ep e.key e.val hp.objs.size) (k5:Heap.SameBut it h4 h5)=> ?_)
 refine wpAny_bind (wpAny_setField_rec e5 (by simp) fun h6 (e6:IsItemIterOut h6 it d (i+1) es.size ep e.key e.val hp.objs.size) (k6:Heap.SameBut it h5 h6)=> ?_)
 have k:∀b o,b≠it->h2.get? b=some o->h6.get? b=some o:=fun b o hb x=>k6.extBut b o hb (k5.extBut b o hb (k4.extBut b o hb (k3.extBut b o hb x)))
 exact wpAny_bind (wpAny_letGo (wpAny_pure (wpAny_pure ⟨_,rfl,wpAny_pure (q h6 e6 (k _ _ (Nat.ne_of_gt hil) t2) fun b o hb x=>k b o hb (k2 b o hb x))⟩)))
theorem zg8 {i:Nat}{ok ov:Value}{Q:Option Value->Shared->Prop}(hh:A.handled=none)(hit:IsItemIter s.heap it d i es.size ep ok ov)(hm:RawD s.heap d es ep)(hx:es[i]? =none)
  (q:∀h',Heap.ExtBut it s.heap h'->Q none {s with heap:=h'}):wpAny (model prog w) A (pyNext (.ref it)) Q E s:=by
 obtain⟨ob,hod,_,hdd⟩:=hm
 have tI:s.TypeIs (.ref it) "dict_itemiterator" :=⟨_,hit,rfl⟩
 have own:Builtin.Dict_items.ownsTuple "dict_itemiterator" =true:=by decide
 unfold pyNext
 refine wpAny_bind (wpAny_attempt (wpAny_callSpecial?_slot (name:=Str.ofString "__next__") tI F.slot_dict_itemiterator_next (wpAny_call_entry F.slot_dict_itemiterator_next tI F.entry_dict_itemiterator_next ?_ (F.args_dict_itemiterator_next_1 _))))
 refine wpAny_bind (wpAny_pure (wpAny_bind (wpAny_bind ?_)))
 refine wpAny_bind (wpAny_typeNameOfWhole_itemiter tI (wpAny_pure (wpAny_bind (wpAny_fieldsOf hit rfl ?_))))
 simp only[own,if_true]
 show wpAny _ _ (if (Value.ref d==Value.none)=true then _ else _) _ _ s
 have nd:¬((Value.ref d==Value.none)=true):=Bool.false_ne_true
 rw[if_neg nd]
 refine wpAny_bind (wpAny_pure (wpAny_bind (wpAny_dictEntries hod hdd ?_)))
 rw[if_neg (by simp)]
 refine wpAny_bind (wpAny_pure (wpAny_bind (wpAny_dictEpoch hod hdd ?_)))
 rw[if_neg (by simp)]
 refine wpAny_pure ?_
 simp only[show ¬((i:Int)<0) by (first|lia|omega),if_false,Int.toNat_natCast,hx]
 refine wpAny_bind (wpAny_bind (wpAny_typeNameOfWhole_itemiter tI ?_))
 refine wpAny_pure (wpAny_bind (wpAny_setField hit rfl (by rw[own];simp) ?_))
 refine wpAny_bind ?_
 simp only[newExc,newTuple]
 refine wpAny_bind (wpAny_newObj_type (wpAny_bind (m:=firstArgMember _ _) (wpAny_of_eq (a:=Value.none) (by first|rfl|(simp only[firstArgMember];rfl)) (wpAny_newObj_type ?_ (by size_fits)))) (by size_fits))
 simp only[raiseNew]
 refine wpAny_bind (wpAny_handled ?_)
 rw[show A.in1.handled=none from hh]
 refine wpAny_bind (wpAny_pure (wpAny_throw ?_))
 refine wpAny_bind (wpAny_isInstance (T:= "StopIteration") (b:=true) ⟨_,Heap.get?_push_size _ rfl,rfl⟩ isSubtype_stop (wpAny_pure ?_))
 exact q _ (((Heap.SameBut.update ..).extBut.push _).push _)
end
theorem zdy {α β:Type}{F:α->β->Prop}:∀{l₁:List α} {l₂:List β},Paired F l₁ l₂->∀{i:Nat} {a:α},l₁[i]? =some a->∃b,l₂[i]? =some b/\F a b
 |_,_,.nil,_,_,h=>by cases h
 |_,_,.cons p q,0,_,h=>by cases h;exact⟨_,rfl,p⟩
 |_,_,.cons p q,i+1,_,h=>zdy q (i:=i) h
section
variable {X:Cx}{pins:List (Addr×Obj)}{σ:St}{H:Hp}{s:Shared}{a:Addr}{kvs:List (List Key×V)}{ob:Obj}
theorem Inv.freeze (I:Inv X pins σ H s)(e:H a=some (.dT kvs))(ho:s.heap.get? a=some ob):Inv X pins σ (upd H a (.frz ob (.dT kvs))) s:=by
 refine I.write (t':=s.toks) (h':=s.heap) (x:=a) (e:=a) (o:=.frz ob (.dT kvs)) (by rw[e];trivial) (.inl rfl) (fun _ _ _ q=>q) ⟨_,ho⟩ ⟨ho, ?_⟩
 refine (I.hok a _ e).stay (fun _ _ _ q=>q) (fun b q=> ?_) fun b xs q=> ?_
 ·rw[zah (fun z=>by rw[z,e] at q;cases q)];exact q
 ·rw[zah (fun z=>by rw[z,e] at q;cases q)];exact q
theorem Inv.froz (I:Inv X pins σ H s)(e:H a=some (.frz ob (.dT kvs))):s.heap.get? a=some ob/\∃xs:List (List Key×Addr×Value),Paired (fun (p:List Key×V) (q:List Key×Addr×Value)=>p.1=q.1/\H q.2.1=some (.tup (p.1.map kV))/\RelV p.2 q.2.2) kvs xs/\
  ∃es ep,ob.ExactDict/\ob.data=.dict es ep/\es.toList=xs.map (entryOfKey (tupleKind (zaH X.prog X.w))):=by
 obtain⟨ho,z,y,xs,rel,o',es,ep,e1,c,e2,e3,_⟩:=(show ObjOk X.prog X.w H s.heap a (.frz ob (.dT kvs)) from I.hok a _ e)
 rw[ho] at e1
 cases e1
 exact⟨ho,xs,rel,es,ep,c,e2,e3⟩
end
noncomputable def Itx (a:Addr)(ob:Obj):It:=
  ⟨fun i H=>∃kvs kv,H a=some (.frz ob (.dT kvs))/\kvs[i]? =some kv,
   fun i H x H'=>∃t b k v,H t=none/\x=.ref t/\H b=some (.tup (k.map kV))/\H'=upd H t (.tup [.ref b,v])/\∀kvs,H a=some (.frz ob (.dT kvs))->kvs[i]? =some (k,v),
   fun i H=>∃kvs,H a=some (.frz ob (.dT kvs))/\kvs.length=i⟩
theorem zb6 {P:Program}{w:World}{K:PySem.W.Frag}{els:List Expr}{kx}{tp:Pos}(a it:Addr)(ob:Obj)(es:Array DictEntry)(ep:Nat)(hdat:ob.data=.dict es ep):
  Turn P w K (.Tuple els kx tp) (Itx a ob) [it] it (fun i h=>∃ok ov,IsItemIter h it a i es.size ep ok ov) where
 mem:=by simp
 obj:=fun i h st b hb=>by
  obtain⟨ok,ov,hi⟩:=st
  rw[List.mem_singleton.mp hb]
  exact⟨_,hi,fun v z=>by cases z⟩
 keep:=fun i h h' st k=>by
  obtain⟨ok,ov,hi⟩:=st
  exact⟨ok,ov,k it (by simp) _ hi⟩
 item:=by
  intro X hP hw hK hc i pins s σ H E I hf st hg
  subst hP hw hK
  obtain⟨kvs,⟨k,v⟩,hq,hx⟩:=hg
  obtain⟨ok,ov,hi⟩:=st
  obtain⟨ho,xs,rel,es',ep',c,e2,e3⟩:=I.froz hq
  rw[hdat] at e2
  cases e2
  obtain⟨⟨k',b,u⟩,hxs,r1,r2,r3⟩:=zdy rel hx
  have hes:es[i]? =some (entryOfKey (tupleKind (zaH X.prog X.w)) (k',b,u)):=by
   rw[<-Array.getElem?_toList,e3,List.getElem?_map,hxs]
   rfl
  refine zgj hi ⟨ob,ho,c,hdat⟩ hes fun h1 ho1 ht1 hk1=>⟨_,rfl,wpAny_letOwnedTupleGo_items ho1 fun h2 he2 hs2=> ?_⟩
  have hne0:s.heap.objs.size≠it:=Nat.ne_of_gt (Heap.lt_size hi)
  have keep:∀b o,b∉[it]->s.heap.get? b=some o->h2.get? b=some o:=fun b o hb e0=>(hs2.2 b fun z=>hb (by simp[z])).trans (hk1 b o (fun z=>hb (by simp[z])) e0)
  have I':Inv X pins σ (upd H s.heap.objs.size (.tup [.ref b,v])) {s with heap:=h2,toks:=s.toks}:=I.turnedT (h':=h2) (t':=s.toks) (xs:=[.ref b,v]) (its:=[.ref b,u]) hf keep (.cons rfl (.cons r3 .nil)) ⟨_,(hs2.2 _ hne0).trans ht1,rfl,⟨_,rfl⟩,rfl,rfl⟩ (by show 2<=sizeLine;decide)
  refine⟨.ref s.heap.objs.size,_,I',rfl,⟨_,b,k,v,I.hok.fresh (Nat.le_refl _),rfl,r2,rfl,fun kvs' hy=> ?_⟩,⟨_,_,he2⟩,fun b' hb=> ?_⟩
  ·rw [hq] at hy
   cases hy
   exact hx
  ·have e9:=List.mem_singleton.mp hb
   subst e9
   rw[zah (Nat.ne_of_lt (Heap.lt_size hi))]
   exact (hf _ hb).1
 done:=by
  intro X hP hw hK hc i pins s σ H E I hf st hg
  subst hP hw hK
  obtain⟨kvs,hq,hl⟩:=hg
  obtain⟨ok,ov,hi⟩:=st
  obtain⟨ho,xs,rel,es',ep',c,e2,e3⟩:=I.froz hq
  rw[hdat] at e2
  cases e2
  have hsz:es.size=i:=by
   rw[<-Array.length_toList,e3,List.length_map,<-Paired.length rel,hl]
  refine zg8 (I.ok.hd hc) hi ⟨ob,ho,c,hdat⟩ (Array.getElem?_eq_none (Nat.le_of_eq hsz)) fun h1 hk=>⟨rfl, ?_⟩
  exact I.turnedN (t':=s.toks) hf fun b o hb e0=>hk b o (fun z=>hb (by simp[z])) e0
 self:=fun _ _ _ _ _ st h=>by
  obtain⟨ok,ov,hi⟩:=st
  exact PySem.W.kcp_self hi h
noncomputable def zhX (td:TE):TI:=fun σ H R=>td σ H fun x H1=>∃a kvs,x=.ref a/\H1 a=some (.dT kvs)/\∀ob,R (Itx a ob) (upd H1 a (.frz ob (.dT kvs)))
section
variable {X:Cx}
theorem zev {els:List Expr}{kx}{tp:Pos}{o:Expr}{td:TE}{apos cpos:Pos}(ho:PE X o td)(hbase:attributeBase o "items" X.env (eval o X.env)=eval o X.env:=by rfl)(hline:(apos.endLine==cpos.line)=true:=by rfl):
  PI X (.Tuple els kx tp) (.Call (.Attribute o "items" apos) [] [] cpos) (zhX td):=by
 intro pins s σ H R I h
 refine wpAny_Call_method0_late hbase hline (thn (ho pins s σ H _ I h) fun v s1 zq=> ?_)
 obtain⟨x,H1,I1,r1,a,kvs,ex,hd,q1⟩:=zq
 subst ex
 cases (show v=Value.ref a from r1)
 obtain⟨t1,t2,t3⟩:=zeu I1 (.inr ⟨kvs,.inl hd⟩)
 refine⟨"dict",_,PySem.F.plainAttrs_dict,PySem.F.slot_dict_items,PySem.F.type_dict_items,t1,t2,Calls.callWith_builtin rfl (PySem.evalArgs_none ?_)⟩
 refine call_meetsIn PySem.F.slot_dict_items t1 PySem.F.entry_dict_items (PySem.F.args_dict_items_1 _) (zcD t3) ⟨t1, ?_⟩
 obtain⟨z,y,xs,rel,ob,es,ep,e1,c,e2,e3,_⟩:=(show ObjOk X.prog X.w H1 s1.heap a (.dT kvs) from I1.hok a _ hd)
 have I2:Inv X pins σ H1 {s1 with heap:=s1.heap.push {cls:=.type "dict_items",data:=.fields #[.ref a]}}:=I1.kept (t':=s1.toks) fun b o e=>Heap.get?_push_of_some _ e
 have e1':(s1.heap.push {cls:=.type "dict_items",data:=.fields #[.ref a]}).get? a=some ob:=Heap.get?_push_of_some _ e1
 have hz:(s1.heap.push {cls:=.type "dict_items",data:=.fields #[.ref a]}).objs.size=s1.heap.objs.size+1:=Heap.size_push ..
 refine zc7 (Heap.get?_push_size _ rfl) ⟨ob,e1',c,e2⟩ ?_
 have I3:=(I2.freeze hd e1').kept (t':=s1.toks) (h':=(s1.heap.push {cls:=.type "dict_items",data:=.fields #[.ref a]}).push {cls:=.type "dict_itemiterator",data:=.fields #[.none,.bool false,.ref a,.int 0 0,.int es.size 0,.int ep 0,.none,.none]}) fun b o e=>Heap.get?_push_of_some _ e
 refine⟨_,[_],_,_,_,rfl,I3,zb6 a _ ob es ep e2,⟨_,_,Heap.get?_push_size _ rfl⟩,fun b hb=> ?_,q1 ob⟩
 rw[List.mem_singleton.mp hb]
 exact (I2.freeze hd e1').fpOk (Nat.le_refl _) ((I2.freeze hd e1').hok.fresh (Nat.le_refl _))
end
theorem zcE {a:Addr}{ob:Obj}{kvs:List (List Key×V)}{g:TG}{tb:TS}{D:Ends}{σ:L2.St}{H:Hp}(Pv:Nat->L2.St->Hp->Prop)(h0:Pv 0 σ H)(hl:∀i σ H,i<=kvs.length->Pv i σ H->H a=some (.frz ob (.dT kvs)))
  (hs:∀i k v t b σ H,kvs[i]? =some (k,v)->Pv i σ H->H t=none->H b=some (.tup (k.map kV))->g (.ref t) σ (upd H t (.tup [.ref b,v])) fun σ2 H2=>tb {D with nx:=Pv (i+1),ct:=Pv (i+1),bk:=D.nx} σ2 H2) (hd:∀σ H,Pv kvs.length σ H->D.nx σ H):
  ∃W:Nat->Nat->L2.St->Hp->Prop,(∃m,W 0 m σ H)/\∀i m σ H,W i m σ H->
   ((Itx a ob).stop i H/\D.nx σ H)∨((Itx a ob).go i H/\∃N:L2.St->Hp->Prop,(∀σ' H',N σ' H'->∃m',m'<m/\W (i+1) m' σ' H')/\∀x H',(Itx a ob).yld i H x H'->g x σ H' fun σ2 H2=>tb {D with nx:=N,ct:=N,bk:=D.nx} σ2 H2):=by
 refine⟨fun i m σ H=>m=kvs.length-i/\i<=kvs.length/\Pv i σ H,⟨kvs.length,by simp,Nat.zero_le _,h0⟩, ?_⟩
 rintro i m σ H ⟨rfl,hi,p⟩
 have q:=hl i σ H hi p
 by_cases hlt:i<kvs.length
 ·refine .inr ⟨⟨kvs,kvs[i],q,by simp[hlt]⟩,Pv (i+1),fun σ' H' p'=>⟨kvs.length-(i+1),by (first|lia|omega),rfl,hlt,p'⟩,fun x H' y=> ?_⟩
  obtain⟨t,b,k,v,y1,rfl,y2,rfl,y3⟩:=y
  exact hs i k v t b σ H (y3 kvs q) p y1 y2
 ·have e:i=kvs.length:=by (first|lia|omega)
  subst e
  exact .inl ⟨⟨kvs,q,rfl⟩,hd σ H p⟩
section
variable {X:Cx}
noncomputable def zg9 (tk tv:TE):TE:=fun σ H Q=>∀p,H p=none->tk σ (upd H p (.dT [])) fun y H1=>tv σ H1 fun v H2=>∃b ks,y=.ref b/\H2 b=some (.tup (ks.map kV))/\H2 p=some (.dT [])/\Q (.ref p) (upd H2 p (.dT [(ks,v)]))
theorem zcF {k v:Expr}{pos:Pos}{tk tv:TE}(hu:X.A.units+1<cLine)(hk:PE X k tk)(hv:PE X v tv):PE X (.Dict [some k] [v] pos) (zg9 tk tv):=by
 intro pins s σ H Q I q
 have hn:=I.hok.fresh (Nat.le_refl s.heap.objs.size)
 have I1:=I.laid (a:=s.heap.objs.size) (o:=.dT []) (h':=s.heap.push {cls:=.type "dict",data:=.dict #[]}) (t':=s.toks) (fun _ _ q=>Heap.get?_push_of_some _ q) (Nat.le_refl _) (zet s.heap I.big)
 refine wpAny_Dict_any rfl rfl (by simp) (by show 1<=15;decide) (pairTrees_cons_walk (thn (hk pins _ σ _ _ I1 (q _ hn)) fun u s1 ⟨y,H1,I2,ry,q1⟩=>thn (hv pins s1 σ H1 _ I2 q1) fun r s2 ⟨z,H2,I3,rz,b,ks,ey,eb,ep,q2⟩=>pairTrees_nil_walk ?_))
 subst ey
 cases (show u=Value.ref b from ry)
 obtain⟨z0,hd,xs,rel,dd⟩:=zhS I3.hok ep
 cases rel
 unfold storeAll
 rw[List.forIn_cons]
 refine wpAny_bind (wpAny_bind (wpAny_dictSet_heap (hsz:=Nat.zero_le _) (knd:=tupleKind (zaH X.prog X.w)) (show X.A.units<cLine by (first|lia|omega)) (zdx I3.hok eb) dd fun h' dd' hs=>wpAny_pure ?_))
 refine wpAny_pure ⟨.ref s.heap.objs.size,_, ?_,rfl,q2⟩
 obtain⟨qo,es,epp,hq,h2,h3,h4,_,h5⟩:=dd'
 refine zdY I3 (by rw[ep];exact True.intro) hs ⟨qo,hq⟩ ⟨by show 1<=sizeLine;decide,hd,_,KT.keeps (H:=H2) (xs:=[(ks,b,r)]) (.cons ⟨rfl,eb,rz⟩ .nil) fun c ys ec=> ?_,qo,es,epp,hq,h2,h3,by rw[h4];rfl,by simp⟩
 rw[zah (zfV ec ep (fun z=>nomatch z))]
 exact ec
end
noncomputable abbrev ShD:=List (List Int×Int)
noncomputable def putS (d:ShD)(k:List Int)(v:Int):ShD:=if d.any (fun kv=>kv.1==k) then d.map fun kv=>if kv.1==k then (kv.1,v) else kv else d++[(k,v)]
noncomputable def getS (d:ShD)(k:List Int):Int:=((d.find? fun kv=>kv.1==k).map (·.2)).getD 0
noncomputable def keyI (ks:List Int):List Key:=ks.map Sum.inl
noncomputable def dV (d:ShD):List (List Key×V):=d.map fun kv=>(keyI kv.1,V.int kv.2)
theorem za4 (ks:List Int):(keyI ks).map kV=ks.map V.int:=by
 unfold keyI
 rw[List.map_map]
 rfl
theorem zew {a b:List Int}(h:keyI a=keyI b):a=b:=by
 have:=congrArg (List.map fun k:Key=>match k with| .inl i=>i| .inr _=>0) h
 simpa [keyI,List.map_map,Function.comp_def] using this
theorem zex (a b:List Int):decide (keyI a=keyI b)=(a==b):=by
 by_cases h:a=b
 ·subst h;simp
 ·rw [decide_eq_false (fun e=>h (zew e))]
  exact (beq_eq_false_iff_ne.mpr h).symm
theorem zcS (d:ShD)(k:List Int):(valV (dV d) (keyI k)).getD (.int 0)=.int (getS d k):=by
 unfold valV dV getS
 rw[List.find?_map,Option.map_map]
 have e:((fun kv:List Key×V=>decide (kv.1=keyI k))∘fun kv:List Int×Int=>(keyI kv.1,V.int kv.2))=fun kv=>kv.1==k:=funext fun kv=>zex kv.1 k
 rw[e]
 cases d.find? fun kv=>kv.1==k<;>rfl
theorem zfC (d:ShD)(k:List Int)(v:Int):putK (dV d) (keyI k) (.int v)=dV (putS d k v):=by
 unfold putK putS dV
 rw[List.any_map]
 have e:((fun kv:List Key×V=>decide (kv.1=keyI k))∘fun kv:List Int×Int=>(keyI kv.1,V.int kv.2))=fun kv=>kv.1==k:=funext fun kv=>zex kv.1 k
 rw[e]
 cases h:d.any fun kv=>kv.1==k
 ·simp
 ·simp only[if_true,List.map_map]
  refine List.map_congr_left fun kv _=> ?_
  show (if keyI kv.1=keyI k then _ else _)=_
  by_cases c:kv.1=k
  ·rw [if_pos (by rw[c])]
   simp[c]
  ·rw [if_neg (fun e=>c (zew e))]
   simp[c]
theorem zgk {H:Hp}{a:Addr}{kvs:List (List Key×V)}{o:HO}(h:H a=some (.dT kvs)):SameT H (upd H a o):=fun b zs e=>by
 rw[zah (fun z=>by rw[z,h] at e;cases e)]
 exact e
end L2
namespace K19
open PySem PySem.Spec PyProof.Rows L2
noncomputable def top (i:Nat):Stmt:=PySem.Challenge.pw_shuffletold_k19_together_by_other_ways.main.body.getD i (.Pass ⟨0,0,0,0⟩)
noncomputable abbrev zbC:Stmt:=top 23
noncomputable abbrev zbJ:Stmt:=top 24
section
variable {P:Program}{w:World}{K:PySem.W.Frag}{mg:Str->Option Value}{base:Heap}
theorem sc__law_pot:FnScope ["_law_script", "_law_seed", "_law_k", "_law_cell", "_law_far", "_law_turn"] ["_law_script"] (zag zbC):=⟨rfl,rfl,rfl,by decide+kernel,rfl,by decide+kernel,by decide+kernel⟩
theorem zd0 {f:Addr}{fd:FuncData}(F:Fun K "_law_pot" "_law_pot" zbC f fd)(T:Top mg):FnOk P w K mg base CX0 1 f fd ["_law_script"] (zge K):=by
 refine F.ok sc__law_pot (fun vs H Q E h=> ?_) (fun cdv A outer s H vs Q E hr h=> ?_)
 ·obtain ⟨a,ns,rfl,_⟩:=h
  rfl
 ·obtain ⟨a,ns,rfl,hS,hl,k⟩:=h
  refine⟨_,(zaf (zas (i:=1) sc__law_pot.nd rfl (Or.inl rfl) zad)
   (zaf (zaS PassesOwn.never rfl (zbR rfl T.n_enumerate (zaa (zcZ zfd (pv 0) ze9 (zcY zad)) zae)) (zbH (i:=2) (j:=3) rfl sc__law_pot.nd rfl rfl (Or.inl rfl) (Or.inl rfl) (Or.inl rfl) (Or.inl rfl))
    (zaj (zas (i:=1) sc__law_pot.nd rfl (Or.inl rfl) (zai zca (zai zal (zai zal (zai zal (zai zaV (pv 1) zad) (zai zca (pv 3) (zai ze0 zad zad))) (zai zaV zad (pv 2))) zad) zad))))
   (zaf (zas (i:=4) sc__law_pot.nd rfl (Or.inr rfl) zad)
   (zaf (zaS PassesOwn.never rfl (zat rfl T.n_range (zaa zad zae)) (zak (i:=5) sc__law_pot.nd rfl (Or.inl rfl))
    (zaj (zas (i:=4) sc__law_pot.nd rfl (Or.inr rfl) (zai zg1 (pv 4) (zai ze0 zad zad)))))
   (zaj (zaC (zaW (zaa (zcx (N':=["_law_cell", "_law_far"]) (n:=1) (ix:=[4]) rfl (CompScope.of (sc:=zag zbC) (N:=["_law_script", "_law_seed", "_law_k", "_law_cell", "_law_far", "_law_turn"]) (by decide+kernel) rfl rfl) (zct (zcZ zfd (pv 0) ze9 (zcY zad))) (fun _ _ _ _ _=>⟨(zak (i:=0) (show (["_law_cell", "_law_far"]:List Str).Nodup by decide+kernel) rfl (Or.inl rfl)),(zgX (za8 zil (zao zef (by rfl) T.n_abs boot_abs (zaa (pv 0) zae)) (zai ze0 zad zad) (za1 _))),(zai zca (zao zef (by rfl) T.n_abs boot_abs (zaa (pv 0) zae)) (pv 1))⟩)) (zaa (pv 1) (zaa zad zae)))))))))), ?_⟩
  have hcut:∃ms:List Int,cutV (ns.map V.int) none (some 63)=ms.map V.int/\ms.length<=63:=by
   refine⟨(ns.drop (HT.sIx (ns.map V.int).length 0 none)).take (HT.sIx (ns.map V.int).length (ns.map V.int).length (some 63)-HT.sIx (ns.map V.int).length 0 none), ?_, ?_⟩
   ·unfold cutV
    rw[List.map_take,List.map_drop]
   ·rw[List.length_take,List.length_drop];(first|lia|omega)
  obtain⟨ms,ecut,hms⟩:=hcut
  refine⟨_,rfl,63,rfl,a,_,rfl,hS,fun p hp=>⟨p,rfl,⟨_,SqL.of zab⟩, ?_⟩⟩
  have s1:=zac (o:=.lst (cutV (ns.map V.int) none (some 63))) hp
  refine zbv (K:=K) (a:=p) (xs:=ms.map V.int) (fun i σ H2=>∃(seed:Int) (c2 c3:Option V),σ=[some (.ref a),some (.int seed),c2,c3,none,none]/\Same H H2/\H2 p=some (.lst (ms.map V.int))) ⟨1000003,none,none,rfl,s1,by rw[zab,ecut]⟩ (fun i σ H2 _ h=>by obtain⟨_,_,_,_,_,h⟩:=h;exact SqL.of h) ?_ ?_
  ·rintro i y t σ H2 hi ⟨seed,c2,c3,rfl,sm,hp2⟩ ht
   obtain⟨z,_,rfl⟩:=List.mem_map.mp (List.mem_of_getElem? hi)
   have st:=zac (o:=.tup [.int (i:Int),.int z]) ht
   refine⟨t,_,rfl,SqT.of zab,rfl,_,_,rfl,_,_,rfl,rfl, ?_⟩
   refine⟨_,rfl,_,_,rfl,rfl,.inr ⟨by decide,by decide⟩,_,rfl,_,_,rfl,rfl,⟨by decide,by decide,by decide⟩,_,_,rfl,rfl,(by show (0:Int)<10^(40:Int).toNat;decide),_,_,rfl,rfl,_,rfl,_,_,rfl,rfl,.inl ⟨by decide,by decide⟩,_,_,rfl,rfl,_,_,rfl,rfl,_,_,rfl,rfl,(by show (0:Int)<2305843009213693951;decide), ?_⟩
   exact⟨_,_,_,rfl,sm.trans st,st _ _ hp2⟩
  ·rintro σ H2 ⟨seed,c2,c3,rfl,sm,hp2⟩
   refine⟨15,rfl,by decide,by decide, ?_⟩
   refine zaI (n:=15) (fun i σ H3=>∃c5:Option V,σ=[some (.ref a),some (.int seed),c2,c3,some (.int (((10:Int)^(60:Int).toNat)^i)),c5]/\Same H H3) ⟨none,rfl,sm⟩ ?_ ?_
   ·rintro i σ H3 hi ⟨c5,rfl,sm3⟩
    refine⟨_,rfl,_,_,rfl,rfl,⟨by decide,by decide,by decide⟩,_,_,rfl,rfl,zgf i (by (first|lia|omega)), ?_⟩
    refine⟨some (.int (0+(i:Int))), ?_,sm3⟩
    rw[Int.pow_succ]
    rfl
   ·rintro σ H3 ⟨c5,rfl,sm3⟩
    refine⟨_,rfl,63,rfl,a,_,rfl,sm3.seq hS,fun p' hp'=>⟨p',rfl,⟨_,SqL.of zab⟩, ?_⟩⟩
    have u1:=zac (o:=.lst (cutV (ns.map V.int) none (some 63))) hp'
    rw[ecut]
    have hfar:(0:Int)<((10:Int)^(60:Int).toNat)^15:=Int.pow_pos (Int.pow_pos (by decide))
    refine zfk (zbk (xs:=ms.map V.int)) (zba (by rw[zaz];(first|lia|omega))) (fun v=>match v with| .int n=>decide (10^(18:Int).toNat<=(if n<0 then-n else n))|_=>false) (fun v=>match v with| .int n=>.int ((if n<0 then-n else n)%((10:Int)^(60:Int).toNat)^15)|v=>v) (fun H' s'=>SqL.of (s' _ _ zab)) (fun x hx H' s' Q' q=> ?_) (fun x hx _ H' s' Q' q=> ?_) fun acc hacc=> ?_
    ·obtain ⟨n,_,rfl⟩:=List.mem_map.mp hx
     exact⟨_,rfl,n,rfl,_,_,rfl,rfl,⟨by decide,by decide,by decide⟩,_,_,rfl,rfl,_,rfl,q⟩
    ·obtain ⟨n,_,rfl⟩:=List.mem_map.mp hx
     exact⟨_,rfl,n,rfl,_,rfl,_,_,rfl,rfl,hfar,q⟩
    ·refine ⟨_,rfl,(by show 3<=sizeLine;decide),fun r hr'=> ?_⟩
     have nacc:r≠acc:=fun z=>by rw[z,zab] at hr';cases hr'
     have u1':=zac (o:=.lst (ms.map V.int)) hp'
     have hacc1:H acc=none:=sm3.free (u1'.free hacc)
     have hr1:H r=none:=sm3.free (u1'.free ((zac hacc).free hr'))
     refine k r acc _ ?_ ?_ hr1 hacc1
     ·exact ((sm3.trans u1').trans (zac hacc)).trans (zac hr')
     ·refine ⟨(ms.filter fun n=>decide (10^(18:Int).toNat<=(if n<0 then-n else n))).map fun n=>(if n<0 then-n else n)%((10:Int)^(60:Int).toNat)^15,seed,0,zab, ?_,fun n hn=> ?_, ?_⟩
      ·rw [zah (Ne.symm nacc),zab,List.filter_map,List.map_map,List.map_map]
       rfl
      ·obtain ⟨c,_,rfl⟩:=List.mem_map.mp hn
       exact Int.emod_nonneg _ (by (first|lia|omega))
      ·rw [List.length_map]
       exact Nat.le_trans (List.length_filter_le _ _) hms
theorem zha {n j:Nat}(h:j<n):ixN n (j:Int)=some j:=by
 unfold ixN
 rw[if_pos (by (first|lia|omega)),if_pos (by (first|lia|omega))]
 rfl
theorem zhb {H:Hp}{q e:Addr}{ns:List Int}{Q:VK}(hq:H q=some (.lst (ns.map V.int)))(he:H e=none)(h:Q (.bl (!ns.isEmpty)) (upd H e (.lst []))):rNeD (.ref q) (.ref e) (upd H e (.lst [])) Q:=by
 refine⟨_,_,.lst (by rw[zah (zap hq he)];exact hq) (IsAll.ints ns),.lst zab .nil,zcd ns,zcd [], ?_⟩
 have e1:PyData.eqv (.list (ns.map PyData.int)) (.list [])=ns.isEmpty:=by
  show PyData.eqvAll (ns.map PyData.int) []=_
  cases ns with
  |nil=>simp[PyData.eqvAll]
  |cons a r=>simp[PyData.eqvAll]
 rw[e1]
 exact h
theorem sc__law_take:FnScope ["_law_pot_here", "_law_many", "_law_number", "_law_high"] ["_law_pot_here", "_law_many"] (zag zbJ):=⟨rfl,rfl,rfl,by decide+kernel,rfl,by decide+kernel,by decide+kernel⟩
theorem zdz {f:Addr}{fd:FuncData}(F:Fun K "_law_take" "_law_take" zbJ f fd):FnOk P w K mg base CX0 1 f fd ["_law_pot_here", "_law_many"] zep:=by
 refine F.ok sc__law_take (fun vs H Q E h=> ?_) (fun cdv A outer s H vs Q E hr h=> ?_)
 ·obtain ⟨p,q,m,rfl,_⟩:=h
  rfl
 ·obtain ⟨p,q,m,rfl,hm0,hm1,hh,k⟩:=h
  have hu:_:=hr.units
  refine⟨_,(zaf (zfX PassesOwn.never (PW.pt (zhx (za8 (zgF hu) (zaT zau (pv 0) zad (fun _ _=>rfl)) (zaW zae) (za1 _)) (zgN (za8 zcX (zaT zau (zaT zau (pv 0) zad (fun _ _=>rfl)) zad (fun _ _=>rfl)) zad (za1 _)))))
    (zaj (zbZ (zeM PySem.F.plainAttrs_list PySem.F.slot_list_pop PySem.F.type_list_pop zf2 (zaT zau (pv 0) zad (fun _ _=>rfl)) (zaa zad zae)))))
   (zaf (zcs (za8 (zgF hu) (zaT zau (pv 0) zad (fun _ _=>rfl)) (zaW zae) (za1 _))
    (zaf (zas (i:=2) sc__law_take.nd rfl (Or.inl rfl) (zaT zau (zaT zau (pv 0) zad (fun _ _=>rfl)) zad (fun _ _=>rfl)))
    (zaf (zb9 (zai zb0 (pv 2) (pv 1)) (zcO (zaT zau (pv 0) zad (fun _ _=>rfl)) zad zbz))
    (zaj (zaC (zai zca (pv 2) (pv 1))))))
    zbd)
   (zaf (zb9 (zai zal (zaT zau (pv 0) zad (fun _ _=>rfl)) zad) (zcO (pv 0) zad zbz))
   (zaf (zb9 (zai zca (zai zaV (zaT zau (pv 0) zad (fun _ _=>rfl)) zad) zad) (zcO (pv 0) zad zbz))
   (zaf (zb9 (zai zca (zai zal (zai zal (zaT zau (pv 0) zad (fun _ _=>rfl)) (zai zaV zad (zaT zau (pv 0) zad (fun _ _=>rfl)))) zad) zad) (zcO (pv 0) zad zbz))
   (zaf (zas (i:=3) sc__law_take.nd rfl (Or.inl rfl) (zai zb0 (zaT zau (pv 0) zad (fun _ _=>rfl)) zad))
   (zaj (zaC (zai zca (zai zal (zai zaV (pv 3) (zai zal (zai zca (pv 3) zad) zad)) (zai zb0 (pv 3) zad)) (pv 1)))))))))), ?_⟩
  refine⟨fun n σ H1=>∃(ns:List Int) (seed turn:Int),n=ns.length/\σ=[some (.ref p),some (.int m),none,none]/\H1 p=some (.lst [.ref q,.int seed,.int turn])/\H1 q=some (.lst (ns.map V.int))/\(∀n∈ns,0<=n)/\ns.length<=63/\Keep p q H H1, ?_, ?_⟩
  ·obtain ⟨ns,seed,turn,h1,h2,h3,h4⟩:=hh
   exact⟨_,ns,seed,turn,rfl,rfl,h1,h2,h3,h4,Keep.refl _ _ _⟩
  rintro n σ H1 ⟨ns,seed,turn,rfl,rfl,hp,hq,hn,hlen,kp⟩
  refine⟨_,rfl,p,_,0,_,rfl,rfl,SqL.of hp,zaN (j:=0) rfl,Nat.zero_le _,fun e he=>zhb hq he ⟨_,rfl, ?_⟩⟩
  have hnpq:p≠q:=Pot.ne ⟨ns,seed,turn,hp,hq,hn,hlen⟩
  have hp1:(upd H1 e (.lst [])) p=some (.lst [.ref q,.int seed,.int turn]):=by rw[zah (zap hp he)];exact hp
  have hq1:(upd H1 e (.lst [])) q=some (.lst (ns.map V.int)):=by rw[zah (zap hq he)];exact hq
  have kp1:Keep p q H (upd H1 e (.lst [])):=kp.trans (zac he).keep
  cases ns with
  | nil=>
   refine iteF ?_
   refine iteF ?_
   refine⟨_,rfl,p,_,0,_,rfl,rfl,SqL.of hp1,zaN (j:=0) rfl,Nat.zero_le _,fun e' he'=>zhb hq1 he' ⟨_,rfl, ?_⟩⟩
   have hp3:(upd (upd H1 e (.lst [])) e' (.lst [])) p=some (.lst [.ref q,.int seed,.int turn]):=by rw[zah (zap hp1 he')];exact hp1
   have hq3:(upd (upd H1 e (.lst [])) e' (.lst [])) q=some (.lst (([]:List Int).map V.int)):=by rw[zah (zap hq1 he')];exact hq1
   have kp3:Keep p q H (upd (upd H1 e (.lst [])) e' (.lst [])):=kp1.trans (zac he').keep
   refine iteF ?_
   refine⟨_,rfl,p,_,2,_,rfl,rfl,SqL.of hp3,zaN (j:=2) rfl,_,_,rfl,rfl,_,rfl,p,_,2,2,rfl,rfl,hp3,rfl, ?_⟩
   refine⟨_,rfl,p,_,1,_,rfl,rfl,SqL.of zab,zaN (j:=1) rfl,_,_,rfl,rfl,.inr ⟨by decide,by decide⟩,_,_,rfl,rfl,(by show (0:Int)<2305843009213693951;decide),_,rfl,p,_,1,1,rfl,rfl,zab,rfl, ?_⟩
   refine⟨_,rfl,p,_,1,_,rfl,rfl,SqL.of zab,zaN (j:=1) rfl,_,rfl,p,_,2,_,rfl,rfl,SqL.of zab,zaN (j:=2) rfl,_,_,rfl,rfl,.inl ⟨by decide,by decide⟩,_,_,rfl,rfl,_,_,rfl,rfl,_,_,rfl,rfl,(by show (0:Int)<2305843009213693951;decide),_,rfl,p,_,1,1,rfl,rfl,zab,rfl, ?_⟩
   refine⟨_,rfl,p,_,1,_,rfl,rfl,SqL.of zab,zaN (j:=1) rfl,_,_,rfl,rfl,⟨by decide,by decide⟩, ?_⟩
   refine⟨_,rfl,_,rfl,_,_,rfl,rfl,(by show (0:Int)<1021;decide),_,_,rfl,rfl,_,_,rfl,rfl,.inr ?_,_,rfl,_,_,rfl,rfl,⟨by decide,by decide⟩,_,_,rfl,rfl,_,rfl,_,_,rfl,rfl,hm0, ?_⟩
   ·refine ⟨?_, ?_⟩
    ·exact Int.lt_of_lt_of_le (by decide) (Int.add_le_add (Int.emod_nonneg _ (by decide)) (Int.le_refl 2))
    ·exact Int.lt_trans (Int.add_lt_add_right (Int.emod_lt_of_pos _ (by decide:(0:Int)<1021)) 2) (by decide)
   ·refine k _ _ (Int.emod_nonneg _ (by (first|lia|omega))) (Int.emod_lt_of_pos _ hm0) ⟨[],_,_,zab,by rw[zah (Ne.symm hnpq),zah (Ne.symm hnpq),zah (Ne.symm hnpq)];exact hq3,hn,by simp⟩ ?_
    exact kp3.trans fun b o hb h1 _=>by rw[zah h1,zah h1,zah h1];exact hb
  | cons x r=>
   refine iteT ?_
   refine⟨_,rfl,p,_,0,_,rfl,rfl,SqL.of hp1,zaN (j:=0) rfl,q,_,0,_,rfl,rfl,SqL.of hq1,zaN (j:=0) rfl,rfl,_,rfl, ?_⟩
   refine ite2 (fun hz=> ?_) (fun hz=> ?_)
   ·refine ⟨fun σ' H'=>∃(ns:List Int) (seed turn:Int),ns.length<(x::r).length/\σ'=[some (.ref p),some (.int m),none,none]/\H' p=some (.lst [.ref q,.int seed,.int turn])/\H' q=some (.lst (ns.map V.int))/\(∀n∈ns,0<=n)/\ns.length<=63/\Keep p q H H', ?_, ?_⟩
    ·rintro σ' H' ⟨ns',seed',turn',hlt,h1,h2,h3,h4,h5,h6⟩
     exact⟨_,hlt,ns',seed',turn',rfl,h1,h2,h3,h4,h5,h6⟩
    ·refine ⟨_,rfl,p,_,0,_,rfl,rfl,SqL.of hp1,zaN (j:=0) rfl,.inl ⟨rfl,_,SqL.of hq1⟩,q,_,0,0,_,rfl,rfl,hq1,by decide,by decide,(by simp[seqIndex?]),rfl, ?_⟩
     refine⟨r,seed,turn,by simp,rfl,by rw[zah hnpq];exact hp1,by rw[zab];rfl,fun y hy=>hn y (List.mem_cons_of_mem _ hy),by have:(x::r).length=r.length+1:=rfl;(first|lia|omega), ?_⟩
     exact kp1.trans fun b o hb _ h2=>by rw[zah h2];exact hb
   ·refine ⟨_,rfl,p,_,0,_,rfl,rfl,SqL.of hp1,zaN (j:=0) rfl,Nat.zero_le _,fun e' he'=>zhb hq1 he' ⟨_,rfl, ?_⟩⟩
    have hp3:(upd (upd H1 e (.lst [])) e' (.lst [])) p=some (.lst [.ref q,.int seed,.int turn]):=by rw[zah (zap hp1 he')];exact hp1
    have hq3:(upd (upd H1 e (.lst [])) e' (.lst [])) q=some (.lst ((x::r).map V.int)):=by rw[zah (zap hq1 he')];exact hq1
    have kp3:Keep p q H (upd (upd H1 e (.lst [])) e' (.lst [])):=kp1.trans (zac he').keep
    refine iteT ?_
    have hx0:0<=x:=hn x List.mem_cons_self
    refine⟨_,rfl,p,_,0,_,rfl,rfl,SqL.of hp3,zaN (j:=0) rfl,q,_,0,_,rfl,rfl,SqL.of hq3,zaN (j:=0) rfl, ?_⟩
    refine⟨_,rfl,_,rfl,_,_,rfl,rfl,⟨hm0,hm1⟩,_,rfl,p,_,0,_,rfl,rfl,SqL.of hp3,zaN (j:=0) rfl,q,_,0,0,rfl,rfl,hq3,zha (j:=0) (by simp), ?_⟩
    refine⟨_,rfl,_,rfl,_,_,rfl,rfl,hm0, ?_⟩
    refine k _ _ (Int.emod_nonneg _ (by (first|lia|omega))) (Int.emod_lt_of_pos _ hm0) ⟨(x/m)::r,seed,turn,by rw[zah hnpq];exact hp3,by rw[zab];rfl,fun y hy=> ?_,by simpa using hlen⟩ ?_
    ·rcases List.mem_cons.mp hy with rfl|hy
     ·exact Int.ediv_nonneg hx0 (by (first|lia|omega))
     ·exact hn y (List.mem_cons_of_mem _ hy)
    ·exact kp3.trans fun b o hb _ h2=>by rw[zah h2];exact hb
noncomputable abbrev zbK:Stmt:=top 2
theorem zdA:FnScope ["row", "place"] ["row", "place"] (zag zbK):=⟨rfl,rfl,rfl,by decide+kernel,rfl,by decide+kernel,by decide+kernel⟩
theorem zdB {f:Addr}{fd:FuncData}(F:Fun K "number_at" "number_at" zbK f fd)(T:Top mg):FnOk P w K mg base CX0 1 f fd ["row", "place"] (zcB K):=by
 refine F.ok zdA (fun vs H Q E h=> ?_) (fun cdv A outer s H vs Q E hr h=> ?_)
 ·obtain ⟨a,ns,k,rfl,_⟩:=h
  rfl
 ·obtain ⟨a,ns,k,rfl,ha,q⟩:=h
  refine⟨_,(zaj (zaC (zeb (zed zgO zik zad (pv 1) (zao zaD (by rfl) T.n_len boot_len (zaa (pv 0) zae))) (zaT zfc (pv 0) (pv 1) (fun _ _=>rfl)) zad))), ?_⟩
  refine⟨_,rfl,_,_,rfl,rfl,_,rfl, ?_⟩
  by_cases h0:0<=k
  ·rw [if_pos (by simpa using h0)]
   refine⟨_,rfl,a,_,rfl,.inr ha,_,_,rfl,rfl,_,rfl, ?_⟩
   rw[List.length_map]
   by_cases h1:k<(ns.length:Int)
   ·rw [decide_eq_true h1]
    refine iteT ⟨_,rfl,_,rfl,a,_,_,_,rfl,rfl,ha,zc1 h0 h1, ?_⟩
    rw[zhN h0]
    exact q
   ·rw [decide_eq_false h1]
    rw[zhO (by (first|lia|omega))] at q
    exact iteF q
  ·rw [if_neg (by simpa using h0)]
   refine⟨_,rfl, ?_⟩
   rw[zgG (by (first|lia|omega))] at q
   exact iteF q
noncomputable abbrev zbb:Stmt:=top 3
noncomputable abbrev zbm:Stmt:=top 4
noncomputable abbrev zbn:Stmt:=top 5
theorem zc8:FnScope ["many", "ahead"] ["many", "ahead"] (zag zbb):=⟨rfl,rfl,rfl,by decide+kernel,rfl,by decide+kernel,by decide+kernel⟩
theorem zdC:FnScope ["many", "ahead"] ["many", "ahead"] (zag zbm):=⟨rfl,rfl,rfl,by decide+kernel,rfl,by decide+kernel,by decide+kernel⟩
theorem zdD:FnScope ["many", "ahead"] ["many", "ahead"] (zag zbn):=⟨rfl,rfl,rfl,by decide+kernel,rfl,by decide+kernel,by decide+kernel⟩
theorem zc9 {f:Addr}{fd:FuncData}(F:Fun K "rounds_row" "rounds_row" zbb f fd)(T:Top mg)(Cnumber_at:Cal P w K mg base 1 "number_at" ["row", "place"] (zcB K)):FnOk P w K mg base CX0 2 f fd ["many", "ahead"] (zck K 60 zbw):=by
 refine F.ok zc8 (fun vs H Q E h=> ?_) (fun cdv A outer s H vs Q E hr h=> ?_)
 ·obtain ⟨m,a,ns,rfl,_⟩:=h
  rfl
 ·obtain ⟨m,a,ns,rfl,m1,m2,ha,hl,k⟩:=h
  refine⟨_,(zaj (zaC (zaw zaE (by rfl) T.n_tuple boot_tuple (zaa (zcx (N':=["k", "ahead", "many"]) (n:=1) (ix:=[1,0]) rfl (CompScope.of (sc:=zag zbb) (N:=["many", "ahead"]) (by decide+kernel) rfl rfl) (zat rfl T.n_range (zaa (zai zal (pv 0) zad) zae)) (fun _ _ _ _ _=>⟨(zak (i:=0) (show (["k", "ahead", "many"]:List Str).Nodup by decide+kernel) rfl (Or.inl rfl)),zaX,(zai zal (zaL Cnumber_at (hr.mono (by decide)) rfl (zaa (pv 1) (zaa (zai zaJ (pv 0) zad) zae))) (zai zaV (zai zaJ (pv 2) zad) (zaL Cnumber_at (hr.mono (by decide)) rfl (zaa (pv 1) (zaa (pv 0) zae)))))⟩)) zae)))), ?_⟩
  refine⟨_,rfl,_,_,rfl,rfl,_,rfl,by (first|lia|omega),by (first|lia|omega), ?_⟩
  refine zfq (n:=m+1) (fun k=>atZ ns (k-1)+((m:Int)-1)*atZ ns k) (by (first|lia|omega)) (fun k k0 k1 H' s' Q' q=> ?_) fun acc hacc=> ?_
  ·exact⟨_,rfl,_,rfl,_,_,rfl,rfl,a,ns,_,rfl,s'.seqT ha,_,rfl,_,_,rfl,rfl,_,rfl,_,rfl,a,ns,_,rfl,s'.seqT ha,_,_,rfl,rfl,za7 (by (first|lia|omega)) (by (first|lia|omega)),_,_,rfl,rfl,q⟩
  ·refine ⟨acc,_,rfl,.inl ⟨SqL.of zab,fun p hp=> ?_⟩⟩
   exact k p _ ((zac hacc).trans (zac hp)) zab
theorem zdE {f:Addr}{fd:FuncData}(F:Fun K "stays_row" "stays_row" zbm f fd)(T:Top mg)(Cnumber_at:Cal P w K mg base 1 "number_at" ["row", "place"] (zcB K)):FnOk P w K mg base CX0 2 f fd ["many", "ahead"] (zck K 60 zbS):=by
 refine F.ok zdC (fun vs H Q E h=> ?_) (fun cdv A outer s H vs Q E hr h=> ?_)
 ·obtain ⟨m,a,ns,rfl,_⟩:=h
  rfl
 ·obtain ⟨m,a,ns,rfl,m1,m2,ha,hl,k⟩:=h
  refine⟨_,(zaj (zaC (zaw zaE (by rfl) T.n_tuple boot_tuple (zaa (zcx (N':=["k", "ahead", "many"]) (n:=1) (ix:=[1,0]) rfl (CompScope.of (sc:=zag zbm) (N:=["many", "ahead"]) (by decide+kernel) rfl rfl) (zat rfl T.n_range (zaa (zai zal (pv 0) zad) zae)) (fun _ _ _ _ _=>⟨(zak (i:=0) (show (["k", "ahead", "many"]:List Str).Nodup by decide+kernel) rfl (Or.inl rfl)),zaX,(zai zal (zai zal (zaL Cnumber_at (hr.mono (by decide)) rfl (zaa (pv 1) (zaa (zai zaJ (pv 0) zad) zae))) (zai zaV (zai zaJ (zai zaJ (pv 2) zad) (pv 0)) (zaL Cnumber_at (hr.mono (by decide)) rfl (zaa (pv 1) (zaa (pv 0) zae))))) (zai zaV (zai zal (pv 0) zad) (zaL Cnumber_at (hr.mono (by decide)) rfl (zaa (pv 1) (zaa (zai zal (pv 0) zad) zae)))))⟩)) zae)))), ?_⟩
  refine⟨_,rfl,_,_,rfl,rfl,_,rfl,by (first|lia|omega),by (first|lia|omega), ?_⟩
  refine zfq (n:=m+1) (fun k=>atZ ns (k-1)+((m:Int)-1-k)*atZ ns k+(k+1)*atZ ns (k+1)) (by (first|lia|omega)) (fun k k0 k1 H' s' Q' q=> ?_) fun acc hacc=> ?_
  ·refine ⟨_,rfl,_,rfl,_,_,rfl,rfl,a,ns,_,rfl,s'.seqT ha,_,rfl,_,_,rfl,rfl,_,rfl,_,_,rfl,rfl,_,rfl,_,rfl,a,ns,_,rfl,s'.seqT ha,_,_,rfl,rfl,za7 (by (first|lia|omega)) (by (first|lia|omega)),_,_,rfl,rfl, ?_⟩
   exact⟨_,rfl,_,_,rfl,rfl,_,rfl,_,rfl,_,_,rfl,rfl,a,ns,_,rfl,s'.seqT ha,_,_,rfl,rfl,za7 (by (first|lia|omega)) (by (first|lia|omega)),_,_,rfl,rfl,q⟩
  ·refine ⟨acc,_,rfl,.inl ⟨SqL.of zab,fun p hp=> ?_⟩⟩
   exact k p _ ((zac hacc).trans (zac hp)) zab
theorem zdF {f:Addr}{fd:FuncData}(F:Fun K "rises_row" "rises_row" zbn f fd)(T:Top mg)(Cnumber_at:Cal P w K mg base 1 "number_at" ["row", "place"] (zcB K)):FnOk P w K mg base CX0 2 f fd ["many", "ahead"] (zck K 60 zbT):=by
 refine F.ok zdD (fun vs H Q E h=> ?_) (fun cdv A outer s H vs Q E hr h=> ?_)
 ·obtain ⟨m,a,ns,rfl,_⟩:=h
  rfl
 ·obtain ⟨m,a,ns,rfl,m1,m2,ha,hl,k⟩:=h
  refine⟨_,(zaj (zaC (zaw zaE (by rfl) T.n_tuple boot_tuple (zaa (zcx (N':=["k", "ahead", "many"]) (n:=1) (ix:=[1,0]) rfl (CompScope.of (sc:=zag zbn) (N:=["many", "ahead"]) (by decide+kernel) rfl rfl) (zat rfl T.n_range (zaa (pv 0) zae)) (fun _ _ _ _ _=>⟨(zak (i:=0) (show (["k", "ahead", "many"]:List Str).Nodup by decide+kernel) rfl (Or.inl rfl)),zaX,(zai zal (zai zaV (zai zal (pv 0) zad) (zaL Cnumber_at (hr.mono (by decide)) rfl (zaa (pv 1) (zaa (pv 0) zae)))) (zai zaV (zai zaJ (pv 2) (pv 0)) (zaL Cnumber_at (hr.mono (by decide)) rfl (zaa (pv 1) (zaa (zai zaJ (pv 0) zad) zae)))))⟩)) zae)))), ?_⟩
  refine⟨_,rfl,_,rfl,by (first|lia|omega),by (first|lia|omega), ?_⟩
  refine zfq (n:=m) (fun k=>(k+1)*atZ ns k+((m:Int)-k)*atZ ns (k-1)) (by (first|lia|omega)) (fun k k0 k1 H' s' Q' q=> ?_) fun acc hacc=> ?_
  ·refine ⟨_,rfl,_,_,rfl,rfl,_,rfl,_,rfl,a,ns,_,rfl,s'.seqT ha,_,_,rfl,rfl,za7 (by (first|lia|omega)) (by (first|lia|omega)), ?_⟩
   exact⟨_,rfl,_,rfl,_,_,rfl,rfl,_,rfl,_,rfl,_,_,rfl,rfl,a,ns,_,rfl,s'.seqT ha,_,_,rfl,rfl,za7 (by (first|lia|omega)) (by (first|lia|omega)),_,_,rfl,rfl,q⟩
  ·refine ⟨acc,_,rfl,.inl ⟨SqL.of zab,fun p hp=> ?_⟩⟩
   exact k p _ ((zac hacc).trans (zac hp)) zab
noncomputable abbrev za5:Stmt:=top 6
theorem zcK:FnScope ["many", "ahead"] ["many", "ahead"] (zag za5):=⟨rfl,rfl,rfl,by decide+kernel,rfl,by decide+kernel,by decide+kernel⟩
theorem zhY {m:Nat}(h:m<=24):m*(m-1)/2<=276:=by
 have:m*(m-1)<=24*23:=Nat.mul_le_mul h (by (first|lia|omega))
 (first|lia|omega)
theorem zgl {m:Nat}(h:1<=m):(m:Int)*((m:Int)-1)/2+1=((m*(m-1)/2+1:Nat):Int):=by
 rw[show ((m:Int)-1)=((m-1:Nat):Int) by (first|lia|omega)]
 push_cast
 rfl
theorem zcL {f:Addr}{fd:FuncData}(F:Fun K "crossed_row" "crossed_row" za5 f fd)(T:Top mg):FnOk P w K mg base CX0 2 f fd ["many", "ahead"] (zck K 24 zbi):=by
 refine F.ok zcK (fun vs H Q E h=> ?_) (fun cdv A outer s H vs Q E hr h=> ?_)
 ·obtain ⟨m,a,ns,rfl,_⟩:=h
  rfl
 ·obtain ⟨m,a,ns,rfl,m1,m2,ha,hl,k⟩:=h
  have t1:=zhY m2
  refine⟨_,(zaj (zaC (zaw zaE (by rfl) T.n_tuple boot_tuple (zaa (zcx (N':=["k", "ahead", "many"]) (n:=1) (ix:=[1,0]) rfl (CompScope.of (sc:=zag za5) (N:=["many", "ahead"]) (by decide+kernel) rfl rfl) (zat rfl T.n_range (zaa (zai zal (zai zb0 (zai zaV (pv 0) (zai zaJ (pv 0) zad)) zad) zad) zae)) (fun _ _ _ _ _=>⟨(zak (i:=0) (show (["k", "ahead", "many"]:List Str).Nodup by decide+kernel) rfl (Or.inl rfl)),zaX,(zao (zeQ K rfl rfl) (by rfl) T.n_sum boot_sum (zaa (zcZ (zgg K rfl) (pv 1) (zcY (zao (zcu rfl) (by rfl) T.n_max boot_max (zaa zad (zaa (zai zal (zai zaJ (pv 0) (pv 2)) zad) zae)))) (zcY (zai zal (pv 0) zad))) zae))⟩)) zae)))), ?_⟩
  refine⟨_,rfl,_,rfl,_,_,rfl,rfl,_,_,rfl,rfl,za7 (by (first|lia|omega)) (by (first|lia|omega)),_,_,rfl,rfl,⟨by decide,by decide⟩,_,_,rfl,rfl,_,rfl, ?_⟩
  rw[zgl m1]
  refine⟨by (first|lia|omega),by (first|lia|omega), ?_⟩
  refine zg4 (fun k=>win ns (k-(m:Int)+1) m) (by (first|lia|omega)) (fun k k0 k1 H' s' Q' q=> ?_) fun acc H' hacc sm hys=> ?_
  ·refine ⟨_,rfl,_,rfl,_,rfl,_,_,rfl,rfl,_,_,rfl,rfl,_,_,rfl,_,rfl,_,rfl,_,_,rfl,rfl,_,rfl, ?_⟩
   refine⟨a,_,rfl,s'.seqT ha,fun p H2 s2 hp=> ?_⟩
   rw[show (if k-(m:Int)+1>0 then k-(m:Int)+1 else 0)=(((k-(m:Int)+1).toNat:Nat):Int) by split<;>(first|lia|omega),show k+1=((k+1).toNat:Int) by (first|lia|omega),zfx] at hp
   refine⟨p,_,rfl,hp, ?_⟩
   rw[zfv]
   have e:=zfw ns (k-(m:Int)+1) m
   rw[show max (k-(m:Int)+1) 0=((k-(m:Int)+1).toNat:Int) by (first|lia|omega),show m-(-(k-(m:Int)+1)).toNat=(k+1).toNat-(k-(m:Int)+1).toNat by (first|lia|omega)] at e
   rw[<-e]
   exact q H2 s2
  ·refine ⟨acc,_,rfl,.inl ⟨SqL.of hys,fun p hp=> ?_⟩⟩
   exact k p _ (sm.trans (zac hp)) zab
noncomputable abbrev zb7:Stmt:=top 8
noncomputable abbrev zfD:Stmt:=top 10
noncomputable abbrev zd1:Stmt:=top 11
theorem sc_next_row:FnScope ["kind", "many", "ahead", "row"] ["kind", "many", "ahead"] (zag zb7):=⟨rfl,rfl,rfl,by decide+kernel,rfl,by decide+kernel,by decide+kernel⟩
theorem zhc:FnScope ["kind", "many"] ["kind", "many"] (zag zfD):=⟨rfl,rfl,rfl,by decide+kernel,rfl,by decide+kernel,by decide+kernel⟩
theorem sc_steps:FnScope ["kind", "many", "rows", "size"] ["kind", "many"] (zag zd1):=⟨rfl,rfl,rfl,by decide+kernel,rfl,by decide+kernel,by decide+kernel⟩
theorem zd2 {f C f1 f2 f3 f5:Addr}{fd:FuncData}(F:Fun K "next_row" "next_row" zb7 f fd)(hC:mg "ROWS" =some (.ref C))(GD:GDict K w.params C [("rounds",f1),("stays",f2),("rises",f3),("highs",f1),("crossed",f5)])
  (c1:CalF P w K mg base 2 f1 ["many", "ahead"] (zck K 60 zbw)) (c2:CalF P w K mg base 2 f2 ["many", "ahead"] (zck K 60 zbS)) (c3:CalF P w K mg base 2 f3 ["many", "ahead"] (zck K 60 zbT)) (c5:CalF P w K mg base 2 f5 ["many", "ahead"] (zck K 24 zbi)):FnOk P w K mg base CX0 3 f fd ["kind", "many", "ahead"] (zfy K):=by
 refine F.ok sc_next_row (fun vs H Q E h=> ?_) (fun cdv A outer s H vs Q E hr h=> ?_)
 ·obtain ⟨kind,m,a,ns,rfl,_⟩:=h
  rfl
 ·obtain ⟨kind,m,a,ns,rfl,hk,m1,m2,ha,hl,k⟩:=h
  refine⟨_,(zaf (zas (i:=3) sc_next_row.nd rfl (Or.inl rfl) (zaT zit (zdO (v:=.ref C) rfl hC rfl) (pv 0) (fun _ _=>rfl)))
   (zaj (zaC (zeo (k:=2) (pv 3) hr (zaa (pv 1) (zaa (pv 2) zae)))))), ?_⟩
  rcases zcg hk with rfl|rfl|rfl|rfl|rfl
  ·exact⟨_,rfl,C,_,_,f1,rfl,rfl,GD,rfl,_,rfl,f1,_,_,rfl,c1,_,rfl,_,rfl,m,a,ns,rfl,m1,m2,ha,hl,k⟩
  ·exact⟨_,rfl,C,_,_,f2,rfl,rfl,GD,rfl,_,rfl,f2,_,_,rfl,c2,_,rfl,_,rfl,m,a,ns,rfl,m1,m2,ha,hl,k⟩
  ·exact⟨_,rfl,C,_,_,f3,rfl,rfl,GD,rfl,_,rfl,f3,_,_,rfl,c3,_,rfl,_,rfl,m,a,ns,rfl,m1,m2,ha,hl,k⟩
  ·exact⟨_,rfl,C,_,_,f1,rfl,rfl,GD,rfl,_,rfl,f1,_,_,rfl,c1,_,rfl,_,rfl,m,a,ns,rfl,m1,m2,ha,hl,k⟩
  ·exact⟨_,rfl,C,_,_,f5,rfl,rfl,GD,rfl,_,rfl,f5,_,_,rfl,c5,_,rfl,_,rfl,m,a,ns,rfl,m1,m2,ha,hl,k⟩
theorem zgm {f FR:Addr}{fd:FuncData}(F:Fun K "steps" "steps" zd1 f fd)(T:Top mg)(hFR:mg "FIRST_ROW" =some (.ref FR))(hF:∀H,SqT K H FR ([1].map V.int))(Cnext_row:Cal P w K mg base 3 "next_row" ["kind", "many", "ahead"] (zfy K)):FnOk P w K mg base CX0 4 f fd ["kind", "many"] (zdX K):=by
 refine F.ok sc_steps (fun vs H Q E h=> ?_) (fun cdv A outer s H vs Q E hr h=> ?_)
 ·obtain ⟨kind,m,rfl,_⟩:=h
  rfl
 ·obtain ⟨kind,m,rfl,hk,hm,k⟩:=h
  have hb:=zhQ kind
  refine⟨_,(zaf (zas (i:=2) sc_steps.nd rfl (Or.inl rfl) (zaW (zaa (zdO (v:=.ref FR) rfl hFR rfl) zae)))
   (zaf (zaS PassesOwn.never rfl (zbg rfl T.n_range (zaa zad (zaa (zai zal (pv 1) zad) zae))) (zak (i:=3) sc_steps.nd rfl (Or.inl rfl))
    (zaj (zbZ (zeM PySem.F.plainAttrs_list PySem.F.slot_list_append PySem.F.type_list_append zbh (pv 2) (zaa (zaL Cnext_row (hr.mono (by decide)) rfl (zaa (pv 0) (zaa (pv 3) (zaa (zaT zau (pv 2) (zii zhC zad) (fun _ _=>rfl)) zae)))) zae)))))
   (zaj (zaC (zaw zaE (by rfl) T.n_tuple boot_tuple (zaa (pv 2) zae)))))), ?_⟩
  refine⟨by show 1<=sizeLine;decide,fun l hl=> ?_⟩
  have s1:=zac (o:=.lst [.ref FR]) hl
  refine⟨_,rfl,_,_,rfl,rfl,_,_,rfl,⟨by decide,by decide,by (first|lia|omega),by (first|lia|omega)⟩, ?_⟩
  rw[show ((m:Int)+1-1).toNat=m by (first|lia|omega)]
  refine zaI (fun i σ H2=>∃(zs:List Addr) (c3:Option V),σ=[some (.str kind),some (.int m),some (.ref l),c3]/\Same H H2/\H2 l=some (.lst (zs.map V.ref))/\RowsK K H2 zs (zc3 kind i)) ?_ ?_ ?_
  ·exact⟨[FR],none,rfl,s1,zab,.cons (hF _) .nil⟩
  ·rintro i σ H2 hi ⟨zs,c3,rfl,sm,hl2,R⟩
   have ez:zs.length=i+1:=by rw[Paired.length R,zfA]
   obtain⟨z,hz,hzr⟩:=R.get (i:=i) (r:=rowZ kind i) (by unfold zc3;simp)
   refine⟨_,rfl,.inl ⟨rfl,_,SqL.of hl2⟩, ?_⟩
   refine⟨_,rfl,_,rfl,_,rfl,_,rfl,l,_,_,(.ref z),rfl,rfl,SqL.of hl2, ?_, ?_⟩
   ·have hzl:zs.length-1=i:=by (first|lia|omega)
    show atI (zs.map V.ref) (-1)=some (V.ref z)
    rw[zgi (by rw[List.length_map];(first|lia|omega)),List.length_map,hzl,List.getElem?_map,hz]
    rfl
   refine⟨kind,i+1,z,rowZ kind i, ?_,hk,by (first|lia|omega),by (first|lia|omega),hzr,Nat.le_trans (zbW (by (first|lia|omega))) (by decide),fun p H3 s3 hp=> ?_⟩
   ·rw[show (1:Int)+(i:Int)=((i+1:Nat):Int) by (first|lia|omega)]
   refine⟨l,_,_,rfl,rfl,s3 _ _ hl2,zba (by rw[List.length_map];(first|lia|omega)),zs++[p],_,rfl,zan (sm.trans s3) hl, ?_, ?_⟩
   ·rw [zab,List.map_append]
    rfl
   ·rw [zeR]
    exact Paired.snoc ((R.same s3).updL (s3 _ _ hl2)) (zer (SqT.of hp) (s3 _ _ hl2))
  ·rintro σ H2 ⟨zs,c3,rfl,sm,hl2,R⟩
   refine⟨_,rfl,l,_,rfl,.inl ⟨SqL.of hl2,fun p hp=> ?_⟩⟩
   exact k p zs _ (sm.trans (zac hp)) zab (R.same (zac hp))
theorem zhd {f:Addr}{fd:FuncData}(F:Fun K "told" "told" zfD f fd)(T:Top mg)(Csteps:Cal P w K mg base 4 "steps" ["kind", "many"] (zdX K)):FnOk P w K mg base CX0 5 f fd ["kind", "many"] (zeq K):=by
 refine F.ok zhc (fun vs H Q E h=> ?_) (fun cdv A outer s H vs Q E hr h=> ?_)
 ·obtain ⟨kind,m,rfl,_⟩:=h
  rfl
 ·obtain ⟨kind,m,rfl,hk,hm,k⟩:=h
  refine⟨_,(zaf (zcs (za8 zcX (pv 0) zcq (za1 _))
    zdk
    zbd)
   (zaj (zaC (zaT zfc (zaL Csteps (hr.mono (by decide)) rfl (zaa (pv 0) (zaa (pv 1) zae))) (pv 1) (fun _ _=>rfl))))), ?_⟩
  have hne:¬kind= "longest" :=by
   rcases zcg hk with rfl|rfl|rfl|rfl|rfl<;>decide
  refine⟨_,rfl,rfl,_,rfl, ?_⟩
  rw[decide_eq_false (fun e=>hne (V.str.inj e))]
  refine iteF ?_
  refine⟨_,rfl,_,rfl,kind,m,rfl,hk,hm,fun p zs H' s' hp R=> ?_⟩
  obtain⟨z,hz,hzr⟩:=R.get (i:=m) (r:=rowZ kind m) (by unfold zc3;simp)
  refine⟨_,rfl,p,_,_,(.ref z),rfl,rfl,SqT.of hp,zaN (by rw[List.getElem?_map,hz];rfl), ?_⟩
  exact k z H' s' hzr
end
end K19
namespace L2
open PySem PySem.Spec PyProof.Rows
noncomputable def nmP:Nat->Str×Str
 |0=>("rounds", "stays")
 |1=>("rises", "highs")
 |_=>("highs", "crossed")
noncomputable def onZ (i n:Nat)(f s:Int):List (List Int):=match i with
 |0=>[[f+1,s+1,1],[f,s-1,s],[f,s,(n:Int)-s]]
 |1=>if n=0 then [[0,1,1]] else [[f+1,s+1,1],[f,s,f+1],[f+1,s,(n:Int)-1-f]]
 |_=>[f+1,s,1]::(List.range n).map fun (a:Nat)=>[f,s+((a:Int)+1),1]
noncomputable def keyT (t:List Int):List Int:=[t.getD 0 0,t.getD 1 0]
noncomputable def addP (w:Int)(d:ShD)(t:List Int):ShD:=putS d (keyT t) (getS d (keyT t)+w*t.getD 2 0)
noncomputable def zcM (i n:Nat)(d:ShD)(kv:List Int×Int):ShD:=(onZ i n (kv.1.getD 0 0) (kv.1.getD 1 0)).foldl (addP kv.2) d
noncomputable def zhe (i n:Nat)(d:ShD):ShD:=d.foldl (zcM i n) []
noncomputable def zam (i:Nat):Nat->ShD
 |0=>[([0,0],1)]
 |n+1=>zhe i n (zam i n)
noncomputable def bP (i:Nat):Nat:=if i=2 then 10 else 16
noncomputable def zd3 (i n:Nat)(k:List Int):Prop:=∃f s:Int,k=[f,s]/\0<=f/\f<=n/\-(n:Int)<=s/\s<=(if i=2 then (n:Int)*n else n)
noncomputable def KeysOk (i n:Nat)(d:ShD):Prop:=(d.map (·.1)).Nodup/\∀kv∈d,zd3 i n kv.1
theorem zdG (d:ShD)(k:List Int)(v:Int):(putS d k v).map (·.1)=if k∈d.map (·.1) then d.map (·.1) else d.map (·.1)++[k]:=by
 unfold putS
 by_cases h:k∈d.map (·.1)
 ·have:(d.any fun kv=>kv.1==k)=true:=by
   obtain⟨kv,h1,h2⟩:=List.mem_map.mp h
   exact List.any_eq_true.mpr ⟨kv,h1,by rw[h2];simp⟩
  rw[if_pos h,if_pos this,List.map_map]
  refine List.map_congr_left fun kv _=> ?_
  show (if (kv.1==k)=true then (kv.1,v) else kv).1=kv.1
  split<;>rfl
 ·have:¬(d.any fun kv=>kv.1==k)=true:=fun z=>by
   obtain⟨kv,h1,h2⟩:=List.any_eq_true.mp z
   exact h (List.mem_map.mpr ⟨kv,h1,by simpa using h2⟩)
  rw[if_neg h,if_neg this,List.map_append]
  rfl
theorem KeysOk.put {i n:Nat}{d:ShD}(h:KeysOk i n d){k:List Int}(hk:zd3 i n k)(v:Int):KeysOk i n (putS d k v):=by
 have e:=zdG d k v
 refine⟨?_,fun kv hkv=> ?_⟩
 ·rw [e]
  split
  ·exact h.1
  ·rename_i hn
   exact List.nodup_append.mpr ⟨h.1,by simp,fun a ha c hc z=>by rw[List.mem_singleton] at hc;subst hc z;exact hn ha⟩
 ·have hm:kv.1∈(putS d k v).map (·.1):=List.mem_map.mpr ⟨kv,hkv,rfl⟩
  rw[e] at hm
  have:kv.1∈d.map (·.1)∨kv.1=k:=by
   split at hm
   ·exact .inl hm
   ·rcases List.mem_append.mp hm with q|q
    ·exact .inl q
    ·exact .inr (List.mem_singleton.mp q)
  rcases this with q|q
  ·obtain ⟨kw,h1,h2⟩:=List.mem_map.mp q
   rw[<-h2]
   exact h.2 kw h1
  ·rw[q];exact hk
structure WayOk (i n:Nat) (t:List Int):Prop where
 key:zd3 i (n+1) (keyT t)
 eq:t=[t.getD 0 0,t.getD 1 0,t.getD 2 0]
 lo:-(2*(n:Int)+1)<=t.getD 2 0
 hi:t.getD 2 0<=2*(n:Int)+1
theorem WayOk.of {i n:Nat}{a b c:Int}(q1:0<=a)(q2:a<=(n:Int)+1)(q3:-((n:Int)+1)<=b)(q4:b<=(if i=2 then ((n:Int)+1)*((n:Int)+1) else (n:Int)+1))(q5:-(2*(n:Int)+1)<=c)(q6:c<=2*(n:Int)+1):WayOk i n [a,b,c]:=
 ⟨⟨a,b,rfl,q1,by rw[show ((n+1:Nat):Int)=(n:Int)+1 by (first|lia|omega)];exact q2,by rw[show ((n+1:Nat):Int)=(n:Int)+1 by (first|lia|omega)];exact q3,by rw[show ((n+1:Nat):Int)=(n:Int)+1 by (first|lia|omega)];exact q4⟩,rfl,q5,q6⟩
theorem zfE {i n:Nat}(hi:i<3){k:List Int}(h:zd3 i n k){t:List Int}(ht:t∈onZ i n (k.getD 0 0) (k.getD 1 0)):WayOk i n t:=by
 obtain⟨f,s,rfl,h1,h2,h3,h4⟩:=h
 replace ht:t∈onZ i n f s:=ht
 have hh:i=0∨i=1∨i=2:=by (first|lia|omega)
 rcases hh with rfl|rfl|rfl
 ·rw [if_neg (by decide)] at h4
  have:t=[f+1,s+1,1]∨t=[f,s-1,s]∨t=[f,s,(n:Int)-s]:=by simpa [onZ] using ht
  rcases this with rfl|rfl|rfl<;>refine WayOk.of ?_ ?_ ?_ ?_ ?_ ?_<;>(try rw[if_neg (by decide)])<;>(first|lia|omega)
 ·rw [if_neg (by decide)] at h4
  by_cases hn:n=0
  ·subst hn
   have:t=[0,1,1]:=by simpa [onZ] using ht
   subst this
   exact WayOk.of (by decide) (by decide) (by decide) (by decide) (by decide) (by decide)
  ·have:t=[f+1,s+1,1]∨t=[f,s,f+1]∨t=[f+1,s,(n:Int)-1-f]:=by simpa [onZ,hn] using ht
   rcases this with rfl|rfl|rfl<;>refine WayOk.of ?_ ?_ ?_ ?_ ?_ ?_<;>(try rw[if_neg (by decide)])<;>(first|lia|omega)
 ·rw [if_pos rfl] at h4
  have hsq:((n:Int)+1)*((n:Int)+1)=(n:Int)*n+2*n+1:=by grind
  have:t=[f+1,s,1]∨∃a,a<n/\[f,s+((a:Int)+1),1]=t:=by simpa [onZ] using ht
  rcases this with rfl|⟨a,ha,rfl⟩<;>refine WayOk.of ?_ ?_ ?_ ?_ ?_ ?_<;>(try rw[if_pos rfl,hsq])<;>(first|lia|omega)
theorem KeysOk.nil {i n:Nat}:KeysOk i n []:=⟨List.nodup_nil,fun kv h=>by cases h⟩
theorem KeysOk.adds {i n:Nat}{w:Int}:∀{ts:List (List Int)} {d:ShD},KeysOk i n d->(∀t∈ts,zd3 i n (keyT t))->KeysOk i n (ts.foldl (addP w) d)
 |[],_,h,_=>h
 |t::ts,d,h,hk=>by
  rw[List.foldl_cons]
  exact KeysOk.adds (h.put (hk t (List.mem_cons_self ..)) _) fun u hu=>hk u (List.mem_cons_of_mem _ hu)
theorem KeysOk.grow {i n:Nat}(hi:i<3){d:ShD}(h:KeysOk i (n+1) d){kv:List Int×Int}(hk:zd3 i n kv.1):KeysOk i (n+1) (zcM i n d kv):=h.adds fun t ht=>(zfE hi hk ht).key
theorem KeysOk.grows {i n:Nat}(hi:i<3):∀{l:ShD} {d:ShD},KeysOk i (n+1) d->(∀kv∈l,zd3 i n kv.1)->KeysOk i (n+1) (l.foldl (zcM i n) d)
 |[],_,h,_=>h
 |kv::l,d,h,hk=>by
  rw[List.foldl_cons]
  exact KeysOk.grows hi (h.grow hi (hk kv (List.mem_cons_self ..))) fun u hu=>hk u (List.mem_cons_of_mem _ hu)
theorem zbD {i:Nat}(hi:i<3):∀n,KeysOk i n (zam i n)
 | 0=>⟨by simp[zam],fun kv h=>by
   have:kv=([0,0],1):=by simpa [zam] using h
   subst this
   exact⟨0,0,rfl,by decide,by decide,by decide,by split<;>decide⟩⟩
 |n+1=>KeysOk.grows hi KeysOk.nil (zbD hi n).2
noncomputable def boxP:List (List Int):=(List.range 20).flatMap fun (a:Nat)=>(List.range 140).map fun (b:Nat)=>[(a:Int),(b:Int)-20]
theorem KeysOk.len {i n:Nat}{d:ShD}(h:KeysOk i n d)(hi:i<3)(hn:n<=bP i):d.length<=2800:=by
 have h1:=zfr h.1 (L:=boxP) fun k hk=>by
  obtain⟨kv,m,rfl⟩:=List.mem_map.mp hk
  obtain⟨f,s,e,h1,h2,h3,h4⟩:=h.2 kv m
  have hs:s<=100/\n<=16:=by
   unfold bP at hn
   by_cases h2':i=2
   ·rw [if_pos h2'] at hn h4
    have:(n:Int)*n<=10*10:=Int.mul_le_mul (by (first|lia|omega)) (by (first|lia|omega)) (by (first|lia|omega)) (by (first|lia|omega))
    (first|lia|omega)
   ·rw [if_neg h2'] at hn h4
    (first|lia|omega)
  rw[e]
  refine List.mem_flatMap.mpr ⟨f.toNat,List.mem_range.mpr (by (first|lia|omega)),List.mem_map.mpr ⟨(s+20).toNat,List.mem_range.mpr (by (first|lia|omega)), ?_⟩⟩
  rw[Int.toNat_of_nonneg h1,Int.toNat_of_nonneg (by (first|lia|omega))]
  congr 2
  (first|lia|omega)
 rw[List.length_map] at h1
 exact Nat.le_trans h1 (by decide)
noncomputable def togZ (i n:Nat):List (List Int):=(List.range (rowZ (nmP i).1 n).length).map fun (k:Nat)=>(List.range (rowZ (nmP i).2 n).length).map fun (j:Nat)=>getS (zam i n) [(k:Int),(j:Int)]
structure GTup (K:PySem.W.Frag) (w:World) (C:Addr) (xs:List (List Key×Addr×Addr)):Prop where
 sys:(C==sysModules)=false
 ex:∃n,K.lookup C=some {cls:=.type "dict",data:=.dict (xs.map fun x=>(⟨reduceHash (PySem.Builtin.Tuple.tupleHashOf (x.1.map (keyH w))),.ref x.2.1,.ref x.2.2⟩:DictEntry)).toArray n}
 key:∀x∈xs,∃o its n,K.lookup x.2.1=some o/\o.cls=.type "tuple" /\o.data=.seq its n/\∀(prog:Program),ItemsAre (zaH prog w) x.1 its.toList
 nd:(xs.map (·.1)).Nodup
section
variable {X:Cx}
noncomputable def rGt (K:PySem.W.Frag)(w:World):R2:=fun x y H Q=>∃C xs ks t a f,x=.ref C/\y=.ref t/\GTup K w C xs/\H t=some (.tup (ks.map kV))/\(ks,a,f)∈xs/\Q (.ref f) H
theorem ziy (hu:X.A.units+1<cLine):IxR X (rGt X.K X.w):=by
 intro value slice pins s σ H x y v u Q I rx ry h hs
 obtain⟨C,xs,ks,t,a,f,rfl,rfl,⟨sys,⟨n,hk⟩,hkey,nd⟩,ht,hm,q⟩:=h
 cases rx
 cases ry
 have hg:=I.kIn C _ hk
 have hD:s.heap.DictOfH (tupleKind (zaH X.prog X.w)) C (xs.map fun x=>(x.1,x.2.1,Value.ref x.2.2)):=by
  refine⟨_,_,n,hg,⟨rfl,rfl,rfl⟩,rfl, ?_,fun x hx=> ?_, ?_⟩
  ·rw [List.map_map]
   rfl
  ·obtain ⟨z,hz,rfl⟩:=List.mem_map.mp hx
   obtain⟨o,its,n,h1,h2,h3,h4⟩:=hkey z hz
   exact⟨o,its,n,I.kIn _ _ h1,h2,h3,h4 X.prog⟩
  ·rw [List.map_map]
   exact nd
 have hp:atKey (xs.map fun x=>(x.1,x.2.1,Value.ref x.2.2)) ks=some (a,Value.ref f):=by
  obtain⟨i,hi⟩:=List.getElem?_of_mem hm
  refine atKey_of_get (i:=i) ?_ (by rw[List.getElem?_map,hi];rfl)
  rw[List.map_map]
  exact nd
 have fin:EP X pins σ Q (.ref f) {s with toks:=s.toks+(ks.length+1)}:=⟨.ref f,H,I.tok _,rfl,q⟩
 exact subscriptTail_builtinR (x:=.ref f) hD.typeIs PySem.F.slot_dict_getitem.lookup
  (wpAny_getItem_heap (tupleKind_room_in1 hu) (zdx I.hok ht) hD hp ⟨rfl,fin⟩) hs
end
theorem zey {J:It}{Ok:Hp->Prop}{n:Nat}{lo:Int}{te:TE}{ix:List Nat}{σ:L2.St}{H1:Hp}{Q:VK}(Y:Yields J Ok (zaQ lo n))(g:Int->List Int)(small:n<=1000)(hok:∀H,Same H1 H->Ok H)
  (he:∀i:Nat,i<n->∀H,Same H1 H->∀Q':VK,(∀z H',Same H H'->H' z=some (.tup ((g (lo+(i:Int))).map V.int))->Q' (.ref z) H')->te (some (.int (lo+(i:Int)))::ix.map fun i=>σ.getD i none) H Q')
  (fin:∀acc zs H',H1 acc=none->Same H1 H'->H' acc=some (.lst (zs.map V.ref))->RowsAt H' zs ((List.range n).map fun (i:Nat)=>g (lo+(i:Int)))->Q (.ref acc) H'):LcW J H1 (zbr 0) zaZ te 1 ix σ Q:=by
 refine zdQ Y (zba (by rw[zaq];exact small)) (fun x v H=>∀k,x=V.int k->∃z,v=V.ref z/\H z=some (.tup ((g k).map V.int))) (fun x v H H' s h k e=> ?_) hok (fun x hx H' s' Q' q=> ?_) fun acc ys H' hacc sm hys pr=> ?_
 ·obtain ⟨z,rfl,hz⟩:=h k e
  exact⟨z,rfl,s _ _ hz⟩
 ·unfold zaQ at hx
  obtain⟨i,hi,rfl⟩:=List.mem_map.mp hx
  exact he i (List.mem_range.mp hi) H' s' Q' fun z H2 s2 hz=>q _ H2 s2 fun k e=>by cases e;exact⟨z,rfl,hz⟩
 ·have key:∀(l:List Nat) (ys:List V),Paired (fun x v=>∀k,x=V.int k->∃z,v=V.ref z/\H' z=some (.tup ((g k).map V.int))) (l.map fun (i:Nat)=>V.int (lo+(i:Int))) ys->∃zs:List Addr,ys=zs.map V.ref/\RowsAt H' zs (l.map fun (i:Nat)=>g (lo+(i:Int))):=by
   intro l
   induction l with
   |nil=>intro ys h;cases h;exact⟨[],rfl,.nil⟩
   | cons a l ih=>
    intro ys h
    cases h with
    |cons h1 h2=>
     obtain⟨z,rfl,hz⟩:=h1 _ rfl
     obtain⟨zs,rfl,hR⟩:=ih _ h2
     exact⟨z::zs,rfl,.cons hz hR⟩
  obtain⟨zs,rfl,hR⟩:=key _ _ pr
  exact fin acc zs H' hacc sm hys hR
theorem zda {J:It}{Ok:Hp->Prop}{n:Nat}{te:TE}{ix:List Nat}{σ:L2.St}{H1:Hp}{Q:VK}(Y:Yields J Ok (zaQ 0 n))(g:Int->Int)(small:n<=1000)(hok:∀H,Same H1 H->Ok H)(he:∀k:Int,0<=k->k<n->∀H,Same H1 H->∀Q':VK,(∀H',Same H H'->Q' (.int (g k)) H')->te (some (.int k)::ix.map fun i=>σ.getD i none) H Q')
  (fin:∀acc H',H1 acc=none->Same H1 H'->H' acc=some (.lst (((num0 n).map g).map V.int))->Q (.ref acc) H'):LcW J H1 (zbr 0) zaZ te 1 ix σ Q:=by
 refine zdQ Y (zba (by rw[zaq];exact small)) (fun x v _=>∀k,x=V.int k->v=V.int (g k)) (fun _ _ _ _ _ h=>h) hok (fun x hx H' s' Q' q=> ?_) fun acc ys H' hacc sm hys pr=> ?_
 ·obtain ⟨k,rfl,k0,k1⟩:=zb4 hx
  exact he k k0 k1 H' s' Q' fun H2 s2=>q _ H2 s2 fun k' e=>by cases e;rfl
 ·rw [zbl] at pr
  rw[zb5 pr] at hys
  exact fin acc H' hacc sm hys
noncomputable def spOn (i:Nat):Sp:=fun vs H Q _=>∃(n:Nat) (f s:Int),vs=[.int n,.int f,.int s]/\n<=16/\∀(L:Addr) (zs:List Addr) (H':Hp),Same H H'->H' L=some (.lst (zs.map V.ref))->RowsAt H' zs (onZ i n f s)->Q (.ref L) H'
end L2
namespace K19
open PySem PySem.Spec PyProof.Rows L2
noncomputable abbrev zaR:Stmt:=top 17
noncomputable abbrev zaU:Stmt:=top 18
noncomputable abbrev zaA:Stmt:=top 19
section
variable {P:Program}{w:World}{K:PySem.W.Frag}{mg:Str->Option Value}{base:Heap}
theorem zbs:FnScope ["many", "rounds", "stays"] ["many", "rounds", "stays"] (zag zaR):=⟨rfl,rfl,rfl,by decide+kernel,rfl,by decide+kernel,by decide+kernel⟩
theorem zbt {f:Addr}{fd:FuncData}(F:Fun K "rounds_and_stays_on" "rounds_and_stays_on" zaR f fd):FnOk P w K mg base CX0 1 f fd ["many", "rounds", "stays"] (spOn 0):=by
 refine F.ok zbs (fun vs H Q E h=> ?_) (fun cdv A outer s H vs Q E hr h=> ?_)
 ·obtain ⟨n,f,s,rfl,_⟩:=h
  rfl
 ·obtain ⟨n,fi,se,rfl,hn,k⟩:=h
  refine⟨_,(zaj (zaC (zaW (zaa (zaP (zaa (zai zal (pv 1) zad) (zaa (zai zal (pv 2) zad) (zaa zad zae)))) (zaa (zaP (zaa (pv 1) (zaa (zai zaJ (pv 2) zad) (zaa (pv 2) zae)))) (zaa (zaP (zaa (pv 1) (zaa (pv 2) (zaa (zai zaJ (pv 0) (pv 2)) zae)))) zae)))))), ?_⟩
  refine⟨_,rfl,_,_,rfl,rfl,_,rfl,_,_,rfl,rfl,by show 3<=sizeLine;decide,fun t1 ht1=> ?_⟩
  refine⟨_,rfl,_,rfl,_,_,rfl,rfl,_,rfl,by show 3<=sizeLine;decide,fun t2 ht2=> ?_⟩
  refine⟨_,rfl,_,rfl,_,rfl,_,rfl,_,_,rfl,rfl,by show 3<=sizeLine;decide,fun t3 ht3=> ?_⟩
  refine⟨by show 3<=sizeLine;decide,fun L hL=> ?_⟩
  have g1:=zac (o:=.tup [.int (fi+1),.int (se+1),.int 1]) ht1
  have g2:=zac (o:=.tup [.int fi,.int (se-1),.int se]) ht2
  have g3:=zac (o:=.tup [.int fi,.int se,.int ((n:Int)-se)]) ht3
  have gL:=zac (o:=.lst [.ref t1,.ref t2,.ref t3]) hL
  refine k L [t1,t2,t3] _ (((g1.trans g2).trans g3).trans gL) zab ?_
  exact .cons (gL _ _ (g3 _ _ (g2 _ _ zab))) (.cons (gL _ _ (g3 _ _ zab)) (.cons (gL _ _ zab) .nil))
theorem sc_rises_and_highs_on:FnScope ["many", "rises", "highs", "falls"] ["many", "rises", "highs"] (zag zaU):=⟨rfl,rfl,rfl,by decide+kernel,rfl,by decide+kernel,by decide+kernel⟩
theorem zbx {f:Addr}{fd:FuncData}(F:Fun K "rises_and_highs_on" "rises_and_highs_on" zaU f fd):FnOk P w K mg base CX0 1 f fd ["many", "rises", "highs"] (spOn 1):=by
 refine F.ok sc_rises_and_highs_on (fun vs H Q E h=> ?_) (fun cdv A outer s H vs Q E hr h=> ?_)
 ·obtain ⟨n,f,s,rfl,_⟩:=h
  rfl
 ·obtain ⟨n,fi,se,rfl,hn,k⟩:=h
  refine⟨_,(zaf (zcs (za8 zcX (pv 0) zad (za1 _))
    (zaj (zaC (zaW (zaa (zaP (zaa zad (zaa zad (zaa zad zae)))) zae))))
    zbd)
   (zaf (zas (i:=3) sc_rises_and_highs_on.nd rfl (Or.inl rfl) (zai zaJ (zai zaJ (pv 0) zad) (pv 1)))
   (zaj (zaC (zaW (zaa (zaP (zaa (zai zal (pv 1) zad) (zaa (zai zal (pv 2) zad) (zaa zad zae)))) (zaa (zaP (zaa (pv 1) (zaa (pv 2) (zaa (zai zal (pv 1) zad) zae)))) (zaa (zaP (zaa (zai zal (pv 1) zad) (zaa (pv 2) (zaa (pv 3) zae)))) zae)))))))), ?_⟩
  refine⟨_,rfl,rfl,_,rfl, ?_⟩
  by_cases h0:n=0
  ·subst h0
   rw[decide_eq_true (by rfl)]
   refine iteT ?_
   refine⟨by show 3<=sizeLine;decide,fun t1 ht1=>⟨by show 1<=sizeLine;decide,fun L hL=> ?_⟩⟩
   have g1:=zac (o:=.tup [.int 0,.int 1,.int 1]) ht1
   have gL:=zac (o:=.lst [.ref t1]) hL
   exact k L [t1] _ (g1.trans gL) zab (.cons (gL _ _ zab) .nil)
  ·rw [decide_eq_false (fun e=>h0 (by have:=V.int.inj e;(first|lia|omega)))]
   refine iteF ?_
   refine⟨_,rfl,_,_,rfl,rfl,_,rfl,_,_,rfl,rfl, ?_⟩
   refine⟨_,rfl,_,_,rfl,rfl,_,rfl,_,_,rfl,rfl,by show 3<=sizeLine;decide,fun t1 ht1=> ?_⟩
   refine⟨_,rfl,_,rfl,_,rfl,_,_,rfl,rfl,by show 3<=sizeLine;decide,fun t2 ht2=> ?_⟩
   refine⟨_,rfl,_,_,rfl,rfl,_,rfl,_,rfl,by show 3<=sizeLine;decide,fun t3 ht3=> ?_⟩
   refine⟨by show 3<=sizeLine;decide,fun L hL=> ?_⟩
   have g1:=zac (o:=.tup [.int (fi+1),.int (se+1),.int 1]) ht1
   have g2:=zac (o:=.tup [.int fi,.int se,.int (fi+1)]) ht2
   have g3:=zac (o:=.tup [.int (fi+1),.int se,.int ((n:Int)-1-fi)]) ht3
   have gL:=zac (o:=.lst [.ref t1,.ref t2,.ref t3]) hL
   refine k L [t1,t2,t3] _ (((g1.trans g2).trans g3).trans gL) zab ?_
   have e:onZ 1 n fi se=[[fi+1,se+1,1],[fi,se,fi+1],[fi+1,se,(n:Int)-1-fi]]:=by simp[onZ,h0]
   rw[e]
   exact .cons (gL _ _ (g3 _ _ (g2 _ _ zab))) (.cons (gL _ _ (g3 _ _ zab)) (.cons (gL _ _ zab) .nil))
theorem sc_highs_and_crossed_on:FnScope ["many", "highs", "crossed", "behind"] ["many", "highs", "crossed"] (zag zaA):=⟨rfl,rfl,rfl,by decide+kernel,rfl,by decide+kernel,by decide+kernel⟩
theorem zbo {f:Addr}{fd:FuncData}(F:Fun K "highs_and_crossed_on" "highs_and_crossed_on" zaA f fd)(T:Top mg):FnOk P w K mg base CX0 1 f fd ["many", "highs", "crossed"] (spOn 2):=by
 refine F.ok sc_highs_and_crossed_on (fun vs H Q E h=> ?_) (fun cdv A outer s H vs Q E hr h=> ?_)
 ·obtain ⟨n,f,s,rfl,_⟩:=h
  rfl
 ·obtain ⟨n,fi,se,rfl,hn,k⟩:=h
  refine⟨_,(zaf (zej (i:=3) rfl sc_highs_and_crossed_on.nd rfl rfl (N':=["ahead", "highs", "crossed"]) (n:=1) (ix:=[1,2]) rfl (CompScope.of (sc:=zag zaA) (N:=["many", "highs", "crossed", "behind"]) (by decide+kernel) rfl rfl) (zbg rfl T.n_range (zaa zad (zaa (zai zal (pv 0) zad) zae))) (fun _ _ _ _ _=>⟨(zak (i:=0) (show (["ahead", "highs", "crossed"]:List Str).Nodup by decide+kernel) rfl (Or.inl rfl)),zaX,(zaP (zaa (pv 1) (zaa (zai zal (pv 2) (pv 0)) (zaa zad zae))))⟩))
   (zaj (zaC (zai zff (zaW (zaa (zaP (zaa (zai zal (pv 1) zad) (zaa (pv 2) (zaa zad zae)))) zae)) (pv 3))))), ?_⟩
  refine⟨_,rfl,_,_,rfl,rfl,_,_,rfl,⟨by decide,by decide,by (first|lia|omega),by (first|lia|omega)⟩, ?_⟩
  rw[show ((n:Int)+1-1).toNat=n by (first|lia|omega)]
  refine zey (lo:=1) (n:=n) zaF (fun a=>[fi,se+a,1]) (by (first|lia|omega)) (fun _ _=>trivial) (fun i hi G sG Q' q=> ?_) fun acc zs G hacc sG hG R=> ?_
  ·refine ⟨_,rfl,_,rfl,_,rfl,_,_,rfl,rfl,by show 3<=sizeLine;decide,fun z hz=> ?_⟩
   exact q z _ (zac hz) zab
  ·refine ⟨_,rfl,_,_,rfl,rfl,_,rfl,by show 3<=sizeLine;decide,fun t1 ht1=>⟨by show 1<=sizeLine;decide,fun l1 hl1=> ?_⟩⟩
   have g1:=zac (o:=.tup [.int (fi+1),.int se,.int 1]) ht1
   have gL:=zac (o:=.lst [.ref t1]) hl1
   have hlen:=Paired.length R
   rw[List.length_map,List.length_range] at hlen
   refine⟨_,rfl,l1,acc,_,_,rfl,rfl,zab,gL _ _ (g1 _ _ hG), ?_,fun L hL=> ?_⟩
   ·rw [List.length_map,hlen]
    exact Nat.le_trans (by show 1+n<=100;(first|lia|omega)) (by decide)
   have g2:=zac (o:=.lst ([V.ref t1]++zs.map V.ref)) hL
   refine k L (t1::zs) _ (((sG.trans g1).trans gL).trans g2) zab ?_
   refine .cons (g2 _ _ (gL _ _ zab)) ?_
   have e:(List.range n).map (fun (a:Nat)=>[fi,se+((a:Int)+1),1])=(List.range n).map fun (i:Nat)=>[fi,se+(1+(i:Int)),1]:=List.map_congr_left fun a _=>by rw[Int.add_comm 1]
   rw[e]
   exact ((R.same g1).same gL).same g2
end
end K19
namespace L2
open PySem PySem.Spec PyProof.Rows
noncomputable def zdb:Sp:=fun vs H Q _=>∃i n:Nat,vs=[.str (nmP i).1,.str (nmP i).2,.int n]/\i<3/\n<=bP i/\∀(d:Addr) (H':Hp),Same H H'->H d=none->H' d=some (.dT (dV (zam i n)))->Q (.ref d) H'
theorem zgn {i:Nat}:bP i<=16:=by
 unfold bP
 split<;>decide
theorem zcT {i n:Nat}{l:ShD}{j:Nat}{kv:List Int×Int}(h:l[j]? =some kv):(l.take (j+1)).foldl (zcM i n) []=zcM i n ((l.take j).foldl (zcM i n) []) kv:=by
 rw[List.take_succ,h,List.foldl_append]
 rfl
end L2
namespace K19
open PySem PySem.Spec PyProof.Rows L2
noncomputable abbrev zaY:Stmt:=top 21
section
variable {P:Program}{w:World}{K:PySem.W.Frag}{mg:Str->Option Value}{base:Heap}
theorem sc_pairs_told:FnScope ["one", "other", "many", "onward", "numbers", "size", "larger", "first", "second", "orders", "first_on", "second_on", "ways", "pair"] ["one", "other", "many"] (zag zaY):=⟨rfl,rfl,rfl,by decide+kernel,rfl,by decide+kernel,by decide+kernel⟩
set_option maxHeartbeats 16000000 in
noncomputable def zhZ {C:Addr}{f:Addr}{cdv:Value}{A:Around}{outer:List Env}{s:Shared}{H:Hp}{E:XK}(hr:Room 1 (A.deeper (envOfC "pairs_told" (zag zaY) s.heap.objs.size f cdv)))(T:Top mg)(hC:mg "ONWARDS" =some (.ref C)):{t:TS//PSs (cxOf CX0 P w K mg base ["one", "other", "many", "onward", "numbers", "size", "larger", "first", "second", "orders", "first_on", "second_on", "ways", "pair"] "pairs_told" (zag zaY) f cdv A outer s H E).nox (zaO zaY) t}:=
 have hu1:=zf4 hr
 ⟨_, (zaf (zas (i:=3) sc_pairs_told.nd rfl (Or.inl rfl) (zaT (ziy hu1) (zdO (v:=.ref C) rfl hC rfl) (zaP (zaa (pv 0) (zaa (pv 1) zae))) (fun _ _=>rfl)))
   (zaf (zas (i:=4) sc_pairs_told.nd rfl (Or.inl rfl) (zcF hu1 (zaP (zaa zad (zaa zad zae))) zad))
   (zaf (zaS PassesOwn.never rfl (zat rfl T.n_range (zaa (pv 2) zae)) (zak (i:=5) sc_pairs_told.nd rfl (Or.inl rfl))
    (zaf (zas (i:=6) sc_pairs_told.nd rfl (Or.inl rfl) zc6)
    (zaf (zaS PassesOwn.never rfl (zev (pv 4)) (zbN rfl (zax (zbN rfl (zax (zak (i:=7) sc_pairs_told.nd rfl (Or.inl rfl)) (zax (zak (i:=8) sc_pairs_told.nd rfl (Or.inl rfl)) zbj))) (zax (zak (i:=9) sc_pairs_told.nd rfl (Or.inl rfl)) zbj)))
     (zaj (zaS PassesOwn.never rfl (zct (zeo (k:=1) (pv 3) hr (zaa (pv 5) (zaa (pv 7) (zaa (pv 8) zae))))) (zbN rfl (zax (zak (i:=10) sc_pairs_told.nd rfl (Or.inl rfl)) (zax (zak (i:=11) sc_pairs_told.nd rfl (Or.inl rfl)) (zax (zak (i:=12) sc_pairs_told.nd rfl (Or.inl rfl)) zbj))))
      (zaf (zas (i:=13) sc_pairs_told.nd rfl (Or.inl rfl) (zaP (zaa (pv 10) (zaa (pv 11) zae))))
      (zaj (zdZ hu1 (pv 6) (pv 13) (zai zal (zbB hu1 (pv 6) (pv 13) zad ⟨rfl,rfl,rfl,rfl⟩) (zai zaV (pv 9) (pv 12))) rfl))))))
    (zaj (zas (i:=4) sc_pairs_told.nd rfl (Or.inl rfl) (pv 6))))))
   (zaj (zaC (pv 4))))))⟩
set_option maxHeartbeats 4000000 in
theorem zdc {C:Addr}{xs:List (List Key×Addr×Addr)}{f:Addr}{fd:FuncData}(F:Fun K "pairs_told" "pairs_told" zaY f fd)(T:Top mg)(hC:mg "ONWARDS" =some (.ref C))(GT:GTup K w C xs)
  (hx:∀i,i<3->∃ps a g,CalF P w K mg base 1 g ps (spOn i)/\([.inr (nmP i).1,.inr (nmP i).2],a,g)∈xs):FnOk P w K mg base CX0 2 f fd ["one", "other", "many"] zdb:=by
 refine F.ok sc_pairs_told (fun vs H Q E h=> ?_) (fun cdv A outer s H vs Q E hr h=> ?_)
 ·obtain ⟨i,n,rfl,_⟩:=h
  rfl
 ·obtain ⟨pi,n,rfl,hi,hn,k⟩:=h
  refine⟨_,(zhZ hr T hC).2, ?_⟩
  obtain⟨ps,a,g,cg,hm⟩:=hx pi hi
  have hn16:n<=16:=Nat.le_trans hn zgn
  refine⟨_,rfl,_,rfl,by show 2<=sizeLine;decide,fun tk htk=> ?_⟩
  refine⟨C,xs,[.inr (nmP pi).1,.inr (nmP pi).2],tk,a,g,rfl,rfl,GT,zab,hm, ?_⟩
  have sk:=zac (o:=.tup [.str (nmP pi).1,.str (nmP pi).2]) htk
  generalize (upd H tk (.tup [.str (nmP pi).1,.str (nmP pi).2]))=H1 at sk ⊢
  refine fun F0 hF0=>⟨by show 2<=sizeLine;decide,fun t0 ht0=>⟨t0,keyI [0,0],rfl,zab, ?_, ?_⟩⟩
  ·rw[zah (fun z=>by rw[z,zab] at ht0;cases ht0),zab]
  have hF00:(upd (upd (upd H1 F0 (.dT [])) t0 (.tup [.int 0,.int 0])) F0 (.dT [(keyI [0,0],.int 1)])) F0=some (.dT (dV (zam pi 0))):=zab
  have sF0:Same H (upd (upd (upd H1 F0 (.dT [])) t0 (.tup [.int 0,.int 0])) F0 (.dT [(keyI [0,0],.int 1)])):=sk.trans (zan ((zac hF0).trans (zac ht0)) hF0)
  have hHF0:H F0=none:=sk.free hF0
  generalize (upd (upd (upd H1 F0 (.dT [])) t0 (.tup [.int 0,.int 0])) F0 (.dT [(keyI [0,0],.int 1)]))=C0 at hF00 sF0 ⊢
  refine⟨_,rfl,_,rfl,by (first|lia|omega),by (first|lia|omega), ?_⟩
  rw[Int.toNat_natCast]
  refine zaI (n:=n) (fun i σ G=>∃(Fd:Addr) (c5 c6 c7 c8 c9 c10 c11 c12 c13:Option V),σ=[some (.str (nmP pi).1),some (.str (nmP pi).2),some (.int n),some (.ref g),some (.ref Fd),c5,c6,c7,c8,c9,c10,c11,c12,c13]/\Same H G/\H Fd=none/\G Fd=some (.dT (dV (zam pi i)))) ?_ ?_ ?_
  ·exact⟨F0,none,none,none,none,none,none,none,none,none,rfl,sF0,hHF0,hF00⟩
  ·rintro i σ G hin ⟨Fd,c5,c6,c7,c8,c9,c10,c11,c12,c13,rfl,sG,hFd,hG⟩
   have KO:=zbD hi i
   refine fun L hL=> ?_
   have hL0:H L=none:=sG.free hL
   have hLF:Fd≠L:=fun z=>by rw[z,hL] at hG;cases hG
   have sL:=zac (o:=.dT []) hL
   refine⟨_,rfl,Fd,_,rfl,sL _ _ hG,fun ob=> ?_⟩
   refine zcE (kvs:=dV (zam pi i)) (fun j σ G'=>∃(c7 c8 c9 c10 c11 c12 c13:Option V) (D:ShD),σ=[some (.str (nmP pi).1),some (.str (nmP pi).2),some (.int n),some (.ref g),some (.ref Fd),some (.int (0+(i:Int))),some (.ref L),c7,c8,c9,c10,c11,c12,c13]/\Same H G'/\G' Fd=some (.frz ob (.dT (dV (zam pi i))))/\G' L=some (.dT (dV D))/\D=((zam pi i).take j).foldl (zcM pi i) []/\KeysOk pi (i+1) D) ?_ ?_ ?_ ?_
   ·refine ⟨_,_,_,_,_,_,_,[],rfl,zan (sG.trans sL) hFd,zab, ?_,rfl,KeysOk.nil⟩
    rw[zah (Ne.symm hLF),zab]
    rfl
   ·rintro j σ G' _ ⟨c7,c8,c9,c10,c11,c12,c13,D,rfl,_,h,_⟩
    exact h
   ·rintro j kk vv t b σ G' hx ⟨c7,c8,c9,c10,c11,c12,c13,D,rfl,sG',hF',hL',hD,hDk⟩ ht hb
    have hj:j<(zam pi i).length:=by
     have:=(List.getElem?_eq_some_iff.mp hx).1
     unfold dV at this
     rwa [List.length_map] at this
    have hxx:(zam pi i)[j]? =some (zam pi i)[j]:=List.getElem?_eq_getElem hj
    have hmem:(zam pi i)[j]∈zam pi i:=List.getElem_mem hj
    have htk':=zcT (i:=pi) (n:=i) hxx
    unfold dV at hx
    rw[List.getElem?_map,hxx] at hx
    generalize (zam pi i)[j]=sw at hx htk' hmem
    obtain⟨sh,wt⟩:=sw
    cases hx
    have hkey:=KO.2 _ hmem
    have hkey':=hkey
    obtain⟨fi,se,esh,q1,q2,q3,q4⟩:=hkey'
    replace esh:sh=[fi,se]:=esh
    subst esh
    rw[za4] at hb
    have st:=zac (o:=.tup [.ref b,.int wt]) ht
    refine⟨t,_,rfl,SqT.of zab,rfl,_,_,rfl,b,_,rfl,SqT.of (st _ _ hb),rfl,_,_,rfl,_,_,rfl,rfl,_,_,rfl,rfl, ?_⟩
    refine⟨_,rfl,g,ps,_,rfl,cg,_,rfl,_,rfl,_,rfl,i,fi,se,by rw[Int.zero_add],by (first|lia|omega),fun l zs G3 s3 hl R=>⟨l,rfl,⟨_,SqL.of hl⟩, ?_⟩⟩
    have S3:=st.trans s3
    have hzl:zs.length=(onZ pi i fi se).length:=Paired.length R
    have hWay:∀t∈onZ pi i fi se,WayOk pi i t:=fun t ht=>zfE hi (k:=[fi,se]) hkey ht
    refine zfY (K:=K) (a:=l) (xs:=zs.map V.ref) (fun q σ G'=>∃(c10 c11 c12 c13:Option V) (D':ShD),σ=[some (.str (nmP pi).1),some (.str (nmP pi).2),some (.int n),some (.ref g),some (.ref Fd),some (.int (0+(i:Int))),some (.ref L),some (.int fi),some (.int se),some (.int wt),c10,c11,c12,c13]/\Same H G'/\G' Fd=some (.frz ob (.dT (dV (zam pi i))))/\G' L=some (.dT (dV D'))/\G' l=some (.lst (zs.map V.ref))/\RowsAt G' zs (onZ pi i fi se)/\D'=((onZ pi i fi se).take q).foldl (addP wt) D/\KeysOk pi (i+1) D') ?_ ?_ ?_ ?_
    ·exact⟨_,_,_,_,D,rfl,sG'.trans S3,S3 _ _ hF',S3 _ _ hL',hl,R,rfl,hDk⟩
    ·rintro q σ G4 _ ⟨c10,c11,c12,c13,D',rfl,_,_,_,h,_⟩
     exact SqL.of h
    ·rintro q x σ G4 hx ⟨c10,c11,c12,c13,D',rfl,s4,hF4,hL4,hl4,R4,hD',hD'k⟩
     rw[List.getElem?_map] at hx
     obtain⟨z,hz,rfl⟩:=Option.map_eq_some_iff.mp hx
     obtain⟨tt,htt,hztt⟩:=R4.get hz
     have htg:(onZ pi i fi se).take (q+1)=(onZ pi i fi se).take q++[tt]:=by rw[List.take_succ,htt];rfl
     have W:=hWay tt (List.mem_of_getElem? htt)
     have e3:=W.eq
     generalize ea:tt.getD 0 0=ta at e3
     generalize eb:tt.getD 1 0=tb at e3
     generalize ec:tt.getD 2 0=tc at e3
     have elo:=W.lo
     have ehi:=W.hi
     rw[ec] at elo ehi
     have ekt:keyT tt=[ta,tb]:=by unfold keyT;rw[ea,eb]
     rw[e3] at hztt
     refine⟨z,_,rfl,SqT.of hztt,rfl,_,_,rfl,_,_,rfl,_,_,rfl,rfl, ?_⟩
     refine⟨_,rfl,_,rfl,by show 2<=sizeLine;decide,fun u hu=> ?_⟩
     have su:=zac (o:=.tup [.int ta,.int tb]) hu
     have hL5:=su _ _ hL4
     have hu5:(upd G4 u (.tup [.int ta,.int tb])) u=some (.tup ((keyI (keyT tt)).map kV)):=by rw[za4,ekt];exact zab
     refine⟨_,rfl,L,rfl,.inr ⟨_,.inl hL5⟩,_,rfl,_,DGet.t hL5 hu5, ?_⟩
     rw[zcS]
     refine⟨_,rfl,_,rfl,_,_,rfl,rfl,.inr ⟨by (first|lia|omega),by (first|lia|omega)⟩,_,_,rfl,rfl, ?_⟩
     have hlen:(dV D').length<sizeLine:=by
      unfold dV
      rw[List.length_map]
      exact Nat.lt_of_le_of_lt (hD'k.len hi (by (first|lia|omega))) (by decide)
     refine⟨_,rfl,_,rfl,L,_,rfl,DPut.t hL5 hu5 hlen, ?_⟩
     rw[zfC]
     have hlF:Fd≠L:=hLF
     have hlL:l≠L:=fun z=>by rw[z,hL4] at hl4;cases hl4
     refine⟨_,_,_,_,addP wt D' tt,rfl,zan (s4.trans su) hL0,by rw[zah hlF];exact su _ _ hF4, ?_,by rw[zah hlL];exact su _ _ hl4,(R4.same su).sameT (zgk hL5), ?_,hD'k.put (by rw[ekt];exact ekt▸W.key) _⟩
     ·rw [zab]
      unfold addP
      rw[ec]
     ·rw [htg,List.foldl_append,<-hD']
      rfl
    ·rintro σ G4 ⟨c10,c11,c12,c13,D',rfl,s4,hF4,hL4,hl4,R4,hD',hD'k⟩
     rw[zbA] at hD'
     refine⟨_,_,_,_,_,_,_,D',rfl,s4,hF4,hL4, ?_,hD'k⟩
     rw[htk',<-hD,hD',hzl,List.take_length]
     rfl
   ·rintro σ G' ⟨c7,c8,c9,c10,c11,c12,c13,D,rfl,sG',hF',hL',hD,hDk⟩
    refine⟨_,rfl, ?_⟩
    refine⟨L,_,_,_,_,_,_,_,_,_,rfl,sG',hL0, ?_⟩
    rw[hL',hD]
    unfold dV
    rw[List.length_map,List.take_length]
    rfl
  ·rintro σ G ⟨Fd,c5,c6,c7,c8,c9,c10,c11,c12,c13,rfl,sG,hFd,hG⟩
   exact⟨_,rfl,k Fd G sG hFd hG⟩
end
end K19
namespace L2
open PySem PySem.Spec PyProof.Rows
noncomputable def zfF (sc:Scope)(N:List Str)(scope:Scope)(N':List Str)(n:Nat)(ix:List Nat)(z:Str):Bool:=
 scope.kind==.function&&scope.names.all (fun y=>y.2 != .cell||y.1==z)&&scope.names.all (fun y=>y.2 != .free||y.1 != z)&&scope.names.all (fun y=>y.2 != .local||scope.names.lookup y.1==some .local)&&
 scope.names.all (fun y=>y.2 != .free||(sc.names.lookup y.1==some .cell||sc.names.lookup y.1==some .free))&&scope.names.all (fun y=>y.2 != .free||scope.names.lookup y.1 != some .local)&&
 N'.length==n+ix.length&&(List.range ix.length).all fun j=>match ix[j]?,N'[n+j]? with
  |some i,some x=>N[i]? ==some x&&scope.names.contains (x,.free)
  |_,_=>false
theorem CompScopeZ.ofC {X:Cx}{sc:Scope}{N:List Str}{scope:Scope}{N':List Str}{n:Nat}{ix:List Nat}{z:Str}(h:zfF sc N scope N' n ix z=true)(hs:X.env.scope=sc)(hN:X.N=N)(hcf:∀(a:Addr) (cl:List (Str×Addr)),cellsFrom a scope.names cl=(z,a)::cl)
  (hpc:∀h:Heap,pushCells h scope.names=h.push {cls:=.type "cell",data:=.cell none}):CompScopeZ X scope N' n ix z:=by
 unfold zfF at h
 simp only[Bool.and_eq_true,List.all_eq_true] at h
 obtain⟨⟨⟨⟨⟨⟨⟨h1,h2⟩,h2'⟩,h3⟩,h4⟩,h5⟩,h6⟩,h7⟩:=h
 subst hs hN
 refine⟨eq_of_beq h1,fun y hy hc=> ?_,fun y hy=> ?_,hcf,hpc,fun y hy hl=> ?_,fun y hy hf=> ?_,fun y hy hl=> ?_,eq_of_beq h6,fun j i e=> ?_⟩
 ·have:=h2 y hy
  rw[hc] at this
  simpa using this
 ·have:=h2' _ hy
  simpa using this
 ·have:=h3 y hy
  rw[hl] at this
  simpa using this
 ·have:=h4 y hy
  rw[hf] at this
  simpa using this
 ·have:=h5 _ hy
  rw[hl] at this
  simp at this
 ·have hj:j<ix.length:=(List.getElem?_eq_some_iff.mp e).1
  have:=h7 j (List.mem_range.mpr hj)
  rw[e] at this
  cases hx:N'[n+j]? with
  |none=>rw[hx] at this;simp at this
  |some x=>
   rw[hx] at this
   simp only[Bool.and_eq_true] at this
   exact⟨x,rfl,eq_of_beq this.1,by simpa using this.2⟩
theorem zfG {X:Cx}{tg l:Expr}{tl:TE}(K:PySem.W.Frag)(hK:X.K=K)(hl:PE X l tl):PI X tg l (zhB K tl):=hK▸zct hl
theorem zcU {X:Cx}(K:PySem.W.Frag)(hK:X.K=K):zbG X (.type "tuple") (fun xs H Q=>∃p ys,xs=[.ref p]/\((SqL K H p ys/\∀l,H l=none->Q (.ref l) (upd H l (.tup ys)))∨(SqT K H p ys/\Q (.ref p) H))):=hK▸zaE
noncomputable def zgo:Sp:=fun vs H Q _=>∃i n:Nat,vs=[.str (nmP i).1,.str (nmP i).2,.int n]/\i<3/\n<=bP i/\∀(p:Addr) (zs:List Addr) (H':Hp),Same H H'->H' p=some (.tup (zs.map V.ref))->RowsAt H' zs (togZ i n)->Q (.ref p) H'
theorem zh0 (i:Nat):(nmP i).1∈zbU/\(nmP i).2∈zbU:=by
 match i with
 |0=>decide
 |1=>decide
 |n+2=>show ("highs" :Str)∈zbU/\("crossed" :Str)∈zbU;decide
theorem zgH {i n:Nat}(h:n<=bP i):n<=bOf (nmP i).1/\n<=bOf (nmP i).2:=by
 match i with
 |0=>exact⟨Nat.le_trans h (by decide),Nat.le_trans h (by decide)⟩
 |1=>exact⟨Nat.le_trans h (by decide),Nat.le_trans h (by decide)⟩
 |2=>exact⟨Nat.le_trans h (by decide),Nat.le_trans h (by decide)⟩
 |n+3=>exact⟨Nat.le_trans h (Nat.le_trans zgn (show 16<=bOf "highs" by decide)),Nat.le_trans h (Nat.le_trans zgn (show 16<=bOf "crossed" by decide))⟩
end L2
namespace K19
open PySem PySem.Spec PyProof.Rows L2
noncomputable abbrev za0:Stmt:=top 16
section
variable {P:Program}{w:World}{K:PySem.W.Frag}{mg:Str->Option Value}{base:Heap}
theorem sc_together:FnScope ["one", "other", "many", "numbers", "rows", "columns"] ["one", "other", "many"] (zag za0):=⟨rfl,rfl,rfl,by decide+kernel,rfl,by decide+kernel,by decide+kernel⟩
set_option maxHeartbeats 16000000 in
noncomputable def togT {f:Addr}{cdv:Value}{A:Around}{outer:List Env}{s:Shared}{H:Hp}{E:XK}(hr:Room 5 (A.deeper (envOfC "together" (zag za0) s.heap.objs.size f cdv)))(T:Top mg)(Cpairs_told:Cal P w K mg base 2 "pairs_told" ["one", "other", "many"] zdb)(Ctold:Cal P w K mg base 5 "told" ["kind", "many"] (zeq K)):{t:TS//PSs (cxOf CX0 P w K mg base ["one", "other", "many", "numbers", "rows", "columns"] "together" (zag za0) f cdv A outer s H E).nox (zaO za0) t}:=
 have hu1:=zf4 hr
 ⟨_,(zaf (zas (i:=3) sc_together.nd rfl (Or.inr rfl) (zaL Cpairs_told (hr.mono (by decide)) rfl (zaa (pv 0) (zaa (pv 1) (zaa (pv 2) zae)))))
   (zaf (zas (i:=4) sc_together.nd rfl (Or.inl rfl) (zaw (zbP rfl) (by rfl) T.n_list boot_list (zaa (zaw zcy (by rfl) T.n_range boot_range (zaa (zao zaD (by rfl) T.n_len PySem.boot_len (zaa (zaL Ctold (hr.mono (by decide)) rfl (zaa (pv 0) (zaa (pv 2) zae))) zae)) zae)) zae)))
   (zaf (zas (i:=5) sc_together.nd rfl (Or.inr rfl) (zaw (zbP rfl) (by rfl) T.n_list boot_list (zaa (zaw zcy (by rfl) T.n_range boot_range (zaa (zao zaD (by rfl) T.n_len PySem.boot_len (zaa (zaL Ctold (hr.mono (by decide)) rfl (zaa (pv 1) (zaa (pv 2) zae))) zae)) zae)) zae)))
   (zaj (zaC (zaw zaE (by rfl) T.n_tuple boot_tuple (zaa (zft (z:= "k") (N':=["k", "columns", "numbers"]) (n:=1) (ix:=[5,3]) rfl (CompScopeZ.ofC (sc:=zag za0) (N:=["one", "other", "many", "numbers", "rows", "columns"]) (by decide+kernel) rfl rfl (fun _ _=>rfl) (fun _=>rfl)) (zct (pv 4)) (fun _ _ _ _ _ _=>⟨(zak (i:=0) (show (["k", "columns", "numbers"]:List Str).Nodup by decide+kernel) rfl (Or.inr rfl) (Or.inl rfl)),zaX,(zaw (zcU K rfl) (by rfl) T.n_tuple boot_tuple (zaa (zcx (N':=["j", "numbers", "k"]) (n:=1) (ix:=[2,0]) rfl (CompScope.of (N:=["k", "columns", "numbers"]) rfl rfl rfl) (zfG K rfl (pv 1)) (fun _ _ _ _ _=>⟨(zak (i:=0) (show (["j", "numbers", "k"]:List Str).Nodup by decide+kernel) rfl (Or.inl rfl)),zaX,(zbB hu1 (pv 1) (zaP (zaa (pv 2) (zaa (pv 0) zae))) zad ⟨rfl,rfl,rfl,rfl⟩)⟩)) zae))⟩)) zae)))))))⟩
set_option maxHeartbeats 4000000 in
theorem zd4 {f:Addr}{fd:FuncData}(F:Fun K "together" "together" za0 f fd)(T:Top mg)(Cpairs_told:Cal P w K mg base 2 "pairs_told" ["one", "other", "many"] zdb)(Ctold:Cal P w K mg base 5 "told" ["kind", "many"] (zeq K)):FnOk P w K mg base CX0 6 f fd ["one", "other", "many"] zgo:=by
 refine F.ok sc_together (fun vs H Q E h=> ?_) (fun cdv A outer s H vs Q E hr h=> ?_)
 ·obtain ⟨i,n,rfl,_⟩:=h
  rfl
 ·obtain ⟨i,n,rfl,hi,hn,k⟩:=h
  refine⟨_,(togT hr T Cpairs_told Ctold).2, ?_⟩
  obtain⟨k1,k2⟩:=zh0 i
  obtain⟨b1,b2⟩:=zgH hn
  have l1:=zbW b1
  have l2:=zbW b2
  refine⟨_,rfl,_,rfl,_,rfl,i,n,rfl,hi,hn,fun d H1 s1 hd0 hd=> ?_⟩
  refine⟨_,rfl,_,rfl,_,n,rfl,k1,b1,fun p1 H2 s2 hp1=>⟨p1,_,rfl,.inr hp1, ?_⟩⟩
  rw[List.length_map]
  generalize hL1:(rowZ (nmP i).1 n).length=m1 at l1
  refine⟨_,rfl,fun r1 hr1=>⟨r1,_,rfl,zab,by (first|lia|omega),by (first|lia|omega),fun q1 hq1=> ?_⟩⟩
  rw[Int.toNat_natCast]
  have s3:=(zac (o:=.rng 0 (m1:Int)) hr1).trans (zac (o:=.lst (zaQ 0 m1)) hq1)
  have hq1':(upd (upd H2 r1 (.rng 0 (m1:Int))) q1 (.lst (zaQ 0 m1))) q1=some (.lst (zaQ 0 m1)):=zab
  generalize (upd (upd H2 r1 (.rng 0 (m1:Int))) q1 (.lst (zaQ 0 m1)))=H3 at s3 hq1' ⊢
  refine⟨_,rfl,_,rfl,_,n,rfl,k2,b2,fun p2 H4 s4 hp2=>⟨p2,_,rfl,.inr hp2, ?_⟩⟩
  rw[List.length_map]
  generalize hL2:(rowZ (nmP i).2 n).length=m2 at l2
  refine⟨_,rfl,fun r2 hr2=>⟨r2,_,rfl,zab,by (first|lia|omega),by (first|lia|omega),fun q2 hq2=> ?_⟩⟩
  rw[Int.toNat_natCast]
  have s5:=(zac (o:=.rng 0 (m2:Int)) hr2).trans (zac (o:=.lst (zaQ 0 m2)) hq2)
  have hq2':(upd (upd H4 r2 (.rng 0 (m2:Int))) q2 (.lst (zaQ 0 m2))) q2=some (.lst (zaQ 0 m2)):=zab
  generalize (upd (upd H4 r2 (.rng 0 (m2:Int))) q2 (.lst (zaQ 0 m2)))=H5 at s5 hq2' ⊢
  have hd5:=s5 _ _ (s4 _ _ (s3 _ _ (s2 _ _ hd)))
  have hq15:=s5 _ _ (s4 _ _ hq1')
  have S5:=(((s1.trans s2).trans s3).trans s4).trans s5
  refine⟨_,rfl,q1,rfl,⟨_,SqL.of hq15⟩, ?_⟩
  refine zey (n:=m1) (lo:=0) (zbk (K:=K) (a:=q1)) (fun kk=>(num0 m2).map fun j=>getS (zam i n) [kk,j]) (by (first|lia|omega)) (fun G s=>SqL.of (s _ _ hq15)) (fun a ha G sG Q' q=> ?_) fun acc zs G hacc sG hG R=> ?_
  ·have hq25:=sG _ _ hq2'
   have hdG:=sG _ _ hd5
   refine⟨_,rfl,q2,rfl,⟨_,SqL.of hq25⟩, ?_⟩
   refine zda (n:=m2) (zbk (K:=K) (a:=q2)) (fun j=>getS (zam i n) [0+(a:Int),j]) (by (first|lia|omega)) (fun G2 s=>SqL.of (s _ _ hq25)) (fun j j0 j1 G2 sG2 Q2 hQ2=> ?_) fun acc2 G2 hacc2 sG2 hG2=> ?_
   ·have hd2:=sG2 _ _ hdG
    refine⟨_,rfl,d,rfl,.inr ⟨_,.inl hd2⟩,_,rfl,_,rfl,by show 2<=sizeLine;decide,fun u hu=> ?_⟩
    have su:=zac (o:=.tup [.int (0+(a:Int)),.int j]) hu
    have hu5:(upd G2 u (.tup [.int (0+(a:Int)),.int j])) u=some (.tup ((keyI [0+(a:Int),j]).map kV)):=by rw[za4];exact zab
    refine⟨_,DGet.t (su _ _ hd2) hu5, ?_⟩
    rw[zcS]
    exact hQ2 _ su
   ·refine ⟨acc2,_,rfl,.inl ⟨SqL.of hG2,fun z hz=> ?_⟩⟩
    exact q z _ (sG2.trans (zac hz)) zab
  ·refine ⟨acc,_,rfl,.inl ⟨SqL.of hG,fun z hz=> ?_⟩⟩
   refine k z zs _ ((S5.trans sG).trans (zac hz)) zab ?_
   have e:togZ i n=(List.range m1).map fun (a:Nat)=>(num0 m2).map fun j=>getS (zam i n) [0+(a:Int),j]:=by
    unfold togZ num0
    rw[hL1,hL2]
    refine List.map_congr_left fun a _=> ?_
    rw[List.map_map]
    refine List.map_congr_left fun j _=> ?_
    simp
   rw[e]
   exact R.same (zac hz)
end
noncomputable abbrev zbp:Stmt:=top 25
section
variable {P:Program}{w:World}{K:PySem.W.Frag}{mg:Str->Option Value}{base:Heap}
theorem zch:FnScope ["_law_found", "_law_due"] ["_law_found", "_law_due"] (zag zbp):=⟨rfl,rfl,rfl,by decide+kernel,rfl,by decide+kernel,by decide+kernel⟩
theorem zci {f:Addr}{fd:FuncData}(F:Fun K "_law_same" "_law_same" zbp f fd)(T:Top mg)(hm:mg "_law_same" =some (.ref f))(hb:Binds K fd ["_law_found", "_law_due"] []):
  ∀n,FnOk P w K mg base CX0 (n+1) f fd ["_law_found", "_law_due"] (zcA K n)
 | 0=>by
  refine F.ok zch (fun vs H Q E h=> ?_) (fun cdv A outer s H vs Q E hr h=> ?_)
  ·obtain ⟨x,y,rfl,_⟩:=h
   rfl
  ·obtain ⟨x,y,rfl,⟨a,rfl,rfl⟩,k⟩:=h
   have hu:_:=hr.units
   refine⟨_,(zaf (zcs (zd9 (zao za9 (by rfl) T.n_isinstance boot_isinstance (zaa (pv 1) (zaa (zbF (v:=.ty "tuple") rfl T.n_tuple boot_tuple rfl) zae))))
    zdk
    zbd)
   (zaj (zaC (zea (zao za9 (by rfl) T.n_isinstance boot_isinstance (zaa (pv 0) (zaa (zbF (v:=.ty "int") rfl T.n_int boot_int rfl) zae))) (zea (zgB (zao za9 (by rfl) T.n_isinstance boot_isinstance (zaa (pv 0) (zaa (zbF (v:=.ty "bool") rfl T.n_bool boot_bool rfl) zae)))) (zgA (zb1 zcX (pv 0) (pv 1) (za1 _)))))))), ?_⟩
   refine⟨_,rfl,_,_,_,_,rfl,.inl (.int _),zbQ,_,rfl,iteF ?_⟩
   refine⟨_,rfl,_,_,_,_,rfl,.inl (.int _),zcz,_,rfl,iteT ?_⟩
   refine⟨_,rfl,_,_,_,_,rfl,.inl (.int _),zce,_,rfl,_,rfl,iteT ?_⟩
   refine⟨_,rfl,_,rfl,rfl, ?_⟩
   rw[decide_eq_true rfl]
   exact k H (Same.refl H)
 | n +1=>by
  have ih:Cal P w K mg base (n+1) "_law_same" ["_law_found", "_law_due"] (zcA K n):=⟨f,fd,zci F T hm hb n,hm,F.kp,hb⟩
  refine F.ok zch (fun vs H Q E h=> ?_) (fun cdv A outer s H vs Q E hr h=> ?_)
  ·obtain ⟨x,y,rfl,_⟩:=h
   rfl
  ·obtain ⟨x,y,rfl,al,k⟩:=h
   have hu:_:=hr.units
   refine⟨_,(zaf (zcs (zd9 (zao za9 (by rfl) T.n_isinstance boot_isinstance (zaa (pv 1) (zaa (zbF (v:=.ty "tuple") rfl T.n_tuple boot_tuple rfl) zae))))
    (zaf (zcs (PW.pt (zib (zeX (zd9 (zao za9 (by rfl) T.n_isinstance boot_isinstance (zaa (pv 0) (zaa (zbF (v:=.ty "tuple") rfl T.n_tuple boot_tuple rfl) zae))))) (zhw (za8 zij (zao zaD (by rfl) T.n_len PySem.boot_len (zaa (pv 0) zae)) (zao zaD (by rfl) T.n_len PySem.boot_len (zaa (pv 1) zae)) (za1 _)))))
     (zaj (zaC zgM))
     zbd)
    (zaj (zaC (zao (zga rfl) (by rfl) T.n_all boot_all (zaa (zcx (N':=["_law_one", "_law_other"]) (n:=2) (ix:=[]) rfl (CompScope.of (sc:=zag zbp) (N:=["_law_found", "_law_due"]) (by decide+kernel) rfl rfl) (zgY rfl T.n_zip (zaa (pv 0) (zaa (pv 1) zae))) (fun _ _ _ _ _=>⟨(zgc K (i:=0) (j:=1) rfl rfl (show (["_law_one", "_law_other"]:List Str).Nodup by decide+kernel) rfl rfl (Or.inl rfl) (Or.inl rfl) (Or.inr rfl) (Or.inr rfl)),zaX,(zaL ih hr rfl (zaa (pv 0) (zaa (pv 1) zae)))⟩)) zae)))))
    zbd)
   (zaj (zaC (zea (zao za9 (by rfl) T.n_isinstance boot_isinstance (zaa (pv 0) (zaa (zbF (v:=.ty "int") rfl T.n_int boot_int rfl) zae))) (zea (zgB (zao za9 (by rfl) T.n_isinstance boot_isinstance (zaa (pv 0) (zaa (zbF (v:=.ty "bool") rfl T.n_bool boot_bool rfl) zae)))) (zgA (zb1 zcX (pv 0) (pv 1) (za1 _)))))))), ?_⟩
   rcases al with⟨a,rfl,rfl⟩|⟨a,b,xs,ys,rfl,rfl,ha,hbb,hl,pr⟩
   ·refine ⟨_,rfl,_,_,_,_,rfl,.inl (.int _),zbQ,_,rfl,iteF ?_⟩
    refine⟨_,rfl,_,_,_,_,rfl,.inl (.int _),zcz,_,rfl,iteT ?_⟩
    refine⟨_,rfl,_,_,_,_,rfl,.inl (.int _),zce,_,rfl,_,rfl,iteT ?_⟩
    refine⟨_,rfl,_,rfl,rfl, ?_⟩
    rw[decide_eq_true rfl]
    exact k H (Same.refl H)
   ·have hxy:xs.length=ys.length:=Paired.length pr
    refine⟨_,rfl,_,_,_,_,rfl,.inr ⟨b,_,rfl,hbb,rfl⟩,zbu,_,rfl,iteT ?_⟩
    refine⟨_,rfl,_,_,_,_,rfl,.inr ⟨a,_,rfl,ha,rfl⟩,zbu,_,rfl,iteF ?_⟩
    refine⟨_,rfl,a,_,rfl,.inr (ha),_,rfl,b,_,rfl,.inr (hbb),rfl,_,rfl, ?_⟩
    rw[hxy]
    refine zis rfl ?_
    refine⟨_,rfl,_,rfl,a,b,rfl,⟨_,ha⟩,⟨_,hbb⟩, ?_⟩
    refine zdU (xs:=xs) (ys:=ys) (ha) (hbb) hxy hl (fun s'=>s'.seqT ha) (fun s'=>s'.seqT hbb) (fun i x y hx hy H' s' Q' q=> ?_) fun acc H' hacc s' h'=> ?_
    ·refine ⟨_,rfl,_,rfl,x,y,rfl, ?_,fun H2 s2=>q H2 s2⟩
     have al:=zcR pr hx hy
     exact al.same s'
    ·refine ⟨acc,_,rfl,h', ?_⟩
     have e:(List.replicate xs.length true).all id=true:=by simp
     rw[e]
     exact k H' s'
end
end K19
namespace L2
open PySem PySem.Spec PyProof.Rows
theorem zby (a:List Int)(x:Int)(d:ShD)(k:List Int):getS ((a,x)::d) k=if a=k then x else getS d k:=by
 unfold getS
 rw[List.find?_cons]
 by_cases h:a=k
 ·simp[h]
 ·have hb:(a==k)=false:=beq_eq_false_iff_ne.mpr h
  simp[hb,h]
theorem zez (k k':List Int)(v:Int):∀d:ShD,getS (d.map fun kv=>if kv.1==k then (kv.1,v) else kv) k'=if k=k'/\(d.any fun kv=>kv.1==k)=true then v else getS d k'
 |[]=>by simp[getS]
 | (a,x)::d=>by
  have ih:=zez k k' v d
  rw[List.map_cons,List.any_cons]
  by_cases h:a=k
  ·subst h
   rw[if_pos (show ((a,x).1==a)=true by simp),zby,zby,ih]
   by_cases h2:a=k'
   ·simp[h2]
   ·simp[h2]
  ·have hb:(a==k)=false:=beq_eq_false_iff_ne.mpr h
   rw[if_neg (show ¬((a,x).1==k)=true by simpa using h),zby,zby,ih]
   show _=if k=k'/\((a==k)||_)=true then v else _
   rw[hb,Bool.false_or]
   by_cases h2:a=k'
   ·have:¬k=k':=fun z=>h (h2.trans z.symm)
    simp[h2,this]
   ·simp[h2]
theorem zeA (d:ShD)(k k':List Int)(v:Int):getS (putS d k v) k'=if k=k' then v else getS d k':=by
 unfold putS
 by_cases h:(d.any fun kv=>kv.1==k)=true
 ·rw [if_pos h,zez]
  simp[h]
 ·rw [if_neg h]
  unfold getS
  rw[List.find?_append]
  by_cases e:k=k'
  ·subst e
   have:d.find? (fun kv=>kv.1==k)=none:=by
    rw[List.find?_eq_none]
    intro kv hm hk
    exact h (List.any_eq_true.mpr ⟨kv,hm,hk⟩)
   rw[this]
   simp
  ·cases q:d.find? fun kv=>kv.1==k'<;>simp[e]
theorem zdH (w:Int)(k':List Int):∀(ts:List (List Int)) (d:ShD),getS (ts.foldl (addP w) d) k'=getS d k'+(ts.map fun t=>if keyT t=k' then w*t.getD 2 0 else 0).sum
 |[],d=>by simp
 | t::ts,d=>by
  rw[List.foldl_cons,zdH w k' ts,List.map_cons,List.sum_cons]
  have:getS (addP w d t) k'=getS d k'+if keyT t=k' then w*t.getD 2 0 else 0:=by
   unfold addP
   rw[zeA]
   split
   ·rename_i e;rw[e]
   ·simp
  rw[this]
  (first|lia|omega)
theorem zcV (i n:Nat)(k':List Int):∀(l d:ShD),getS (l.foldl (zcM i n) d) k'=getS d k'+(l.map fun kv=>((onZ i n (kv.1.getD 0 0) (kv.1.getD 1 0)).map fun t=>if keyT t=k' then kv.2*t.getD 2 0 else 0).sum).sum
 |[],d=>by simp
 |kv::l,d=>by
  rw[List.foldl_cons,zcV i n k' l,List.map_cons,List.sum_cons]
  unfold zcM
  rw[zdH]
  (first|lia|omega)
theorem zbE (k0:List Int)(c:Int):∀{l:ShD},(l.map (·.1)).Nodup->(l.map fun kv=>if kv.1=k0 then kv.2*c else 0).sum=getS l k0*c
 |[],_=>by simp[getS]
 | (a,x)::l,h=>by
  rw[List.map_cons,List.nodup_cons] at h
  rw[List.map_cons,List.sum_cons,zbE k0 c h.2]
  unfold getS
  rw[List.find?_cons]
  by_cases e:a=k0
  ·subst e
   have:l.find? (fun kv=>kv.1==a)=none:=by
    rw[List.find?_eq_none]
    intro kv hm hk
    exact h.1 (List.mem_map.mpr ⟨kv,hm,by simpa using hk⟩)
   rw[this]
   simp
  ·have hb:(a==k0)=false:=beq_eq_false_iff_ne.mpr e
   simp[hb,e]
theorem zbL {p q:Prop}[Decidable p][Decidable q](h:p↔q)(x:Int):(if p then x else 0)=if q then x else 0:=by
 by_cases hp:p
 ·rw[if_pos hp,if_pos (h.mp hp)]
 ·rw[if_neg hp,if_neg fun z=>hp (h.mpr z)]
theorem zdd {α:Type}(f g h:α->Int):∀l:List α,(l.map fun x=>f x+g x+h x).sum=(l.map f).sum+(l.map g).sum+(l.map h).sum
 |[]=>by simp
 |x::l=>by
  rw[List.map_cons,List.sum_cons,zdd f g h l,List.map_cons,List.map_cons,List.map_cons,List.sum_cons,List.sum_cons,List.sum_cons]
  (first|lia|omega)
theorem zde {α:Type}(f g:α->Int):∀l:List α,(l.map fun x=>f x+g x).sum=(l.map f).sum+(l.map g).sum
 |[]=>by simp
 |x::l=>by
  rw[List.map_cons,List.sum_cons,zde f g l,List.map_cons,List.map_cons,List.sum_cons,List.sum_cons]
  (first|lia|omega)
theorem zdf {α:Type}:∀l:List α,(l.map fun _=>(0:Int)).sum=0
 |[]=>by simp
 |_::l=>by rw[List.map_cons,List.sum_cons,zdf l];rfl
theorem zdg {α β:Type}(f:α->β->Int)(m:List β):∀l:List α,(l.map fun x=>(m.map fun y=>f x y).sum).sum=(m.map fun y=>(l.map fun x=>f x y).sum).sum
 |[]=>by simp[zdf]
 |x::l=>by
  rw[List.map_cons,List.sum_cons,zdg f m l,<-zde]
  rfl
noncomputable def cP (i n:Nat)(a b:Int):Int:=getS (zam i n) [a,b]
noncomputable def ePst (i n:Nat)(T:Int->Int->Int)(a b:Int):Int:=match i with
 |0=>T (a-1) (b-1)*1+T a (b+1)*(b+1)+T a b*((n:Int)-b)
 |1=>if n=0 then (if a=0/\b=1 then T 0 0*1 else 0) else T (a-1) (b-1)*1+T a b*(a+1)+T (a-1) b*((n:Int)-a)
 |_=>T (a-1) b*1+((List.range n).map fun (j:Nat)=>T a (b-((j:Int)+1))*1).sum
theorem zcj:zam 1 0=[([0,0],1)]:=rfl
theorem zhf {i:Nat}(hi:i<3)(n:Nat)(a b:Int):cP i (n+1) a b=ePst i n (cP i n) a b:=by
 have KO:=zbD hi n
 have h0:cP i (n+1) a b=((zam i n).map fun kv=>((onZ i n (kv.1.getD 0 0) (kv.1.getD 1 0)).map fun t=>if keyT t=[a,b] then kv.2*t.getD 2 0 else 0).sum).sum:=by
  unfold cP
  show getS (zhe i n (zam i n)) [a,b]=_
  unfold zhe
  rw[zcV]
  simp[getS]
 rw[h0]
 have key:∀kv∈zam i n,∃f s:Int,kv.1=[f,s]:=fun kv hm=>by
  obtain⟨f,s,e,_⟩:=KO.2 kv hm
  exact⟨f,s,e⟩
 have two:∀f s c d:Int,([f,s]=[c,d])=(f=c/\s=d):=fun f s c d=>by simp
 have hh:i=0∨i=1∨i=2:=by (first|lia|omega)
 rcases hh with rfl|rfl|rfl
 ·have e:∀kv∈zam 0 n,((onZ 0 n (kv.1.getD 0 0) (kv.1.getD 1 0)).map fun t=>if keyT t=[a,b] then kv.2*t.getD 2 0 else 0).sum=
    (if kv.1=[a-1,b-1] then kv.2*1 else 0)+(if kv.1=[a,b+1] then kv.2*(b+1) else 0)+(if kv.1=[a,b] then kv.2*((n:Int)-b) else 0):=fun kv hm=>by
   obtain⟨f,s,e⟩:=key kv hm
   rw[e]
   show ((onZ 0 n f s).map _).sum=_
   simp only[onZ,List.map_cons,List.map_nil,List.sum_cons,List.sum_nil,keyT,two]
   show (if f+1=a/\s+1=b then kv.2*1 else 0)+((if f=a/\s-1=b then kv.2*s else 0)+((if f=a/\s=b then kv.2*((n:Int)-s) else 0)+0))=_
   rw[zbL (p:=f+1=a/\s+1=b) (q:=f=a-1/\s=b-1) (by (first|lia|omega)),zbL (p:=f=a/\s-1=b) (q:=f=a/\s=b+1) (by (first|lia|omega))]
   rw[Int.add_zero,<-Int.add_assoc]
   congr 1
   ·congr 1
    split
    ·rename_i h;rw[h.2]
    ·rfl
   ·split
    ·rename_i h;rw[h.2]
    ·rfl
  rw[List.map_congr_left e,zdd,zbE _ _ KO.1,zbE _ _ KO.1,zbE _ _ KO.1]
  rfl
 ·by_cases hn:n=0
  ·subst hn
   rw[zcj]
   unfold ePst cP
   rw[zcj]
   simp only[if_true,List.map_cons,List.map_nil,List.sum_cons,List.sum_nil,Int.add_zero]
   show ((onZ 1 0 0 0).map fun t=>if keyT t=[a,b] then (1:Int)*t.getD 2 0 else 0).sum=_
   simp only[onZ,if_true,List.map_cons,List.map_nil,List.sum_cons,List.sum_nil,keyT,two,Int.add_zero]
   show (if (0:Int)=a/\(1:Int)=b then (1:Int)*1 else 0)=if a=0/\b=1 then getS [([0,0],1)] [0,0]*1 else 0
   rw[zbL (p:=(0:Int)=a/\(1:Int)=b) (q:=a=0/\b=1) (by (first|lia|omega))]
   rfl
  ·have e:∀kv∈zam 1 n,((onZ 1 n (kv.1.getD 0 0) (kv.1.getD 1 0)).map fun t=>if keyT t=[a,b] then kv.2*t.getD 2 0 else 0).sum=
     (if kv.1=[a-1,b-1] then kv.2*1 else 0)+(if kv.1=[a,b] then kv.2*(a+1) else 0)+(if kv.1=[a-1,b] then kv.2*((n:Int)-a) else 0):=fun kv hm=>by
    obtain⟨f,s,e⟩:=key kv hm
    rw[e]
    show ((onZ 1 n f s).map _).sum=_
    simp only[onZ,if_neg hn,List.map_cons,List.map_nil,List.sum_cons,List.sum_nil,keyT,two]
    show (if f+1=a/\s+1=b then kv.2*1 else 0)+((if f=a/\s=b then kv.2*(f+1) else 0)+((if f+1=a/\s=b then kv.2*((n:Int)-1-f) else 0)+0))=_
    rw[zbL (p:=f+1=a/\s+1=b) (q:=f=a-1/\s=b-1) (by (first|lia|omega)),zbL (p:=f+1=a/\s=b) (q:=f=a-1/\s=b) (by (first|lia|omega))]
    rw[Int.add_zero,<-Int.add_assoc]
    congr 1
    ·congr 1
     split
     ·rename_i h;rw[h.1]
     ·rfl
    ·split
     ·rename_i h;rw[h.1,show (n:Int)-1-(a-1)=(n:Int)-a by (first|lia|omega)]
     ·rfl
   rw[List.map_congr_left e,zdd,zbE _ _ KO.1,zbE _ _ KO.1,zbE _ _ KO.1]
   show _=if n=0 then _ else _
   rw[if_neg hn]
   rfl
 ·have e:∀kv∈zam 2 n,((onZ 2 n (kv.1.getD 0 0) (kv.1.getD 1 0)).map fun t=>if keyT t=[a,b] then kv.2*t.getD 2 0 else 0).sum=
    (if kv.1=[a-1,b] then kv.2*1 else 0)+((List.range n).map fun (j:Nat)=>if kv.1=[a,b-((j:Int)+1)] then kv.2*1 else 0).sum:=fun kv hm=>by
   obtain⟨f,s,e⟩:=key kv hm
   rw[e]
   show ((onZ 2 n f s).map _).sum=_
   simp only[onZ,List.map_cons,List.sum_cons,keyT,two,List.map_map]
   show (if f+1=a/\s=b then kv.2*1 else 0)+_=_
   rw[zbL (p:=f+1=a/\s=b) (q:=f=a-1/\s=b) (by (first|lia|omega))]
   congr 2
   refine List.map_congr_left fun j _=> ?_
   show (if f=a/\s+((j:Int)+1)=b then kv.2*1 else 0)=_
   exact zbL (by (first|lia|omega)) _
  rw[List.map_congr_left e,zde,zbE _ _ KO.1,zdg]
  show _=cP 2 n (a-1) b*1+_
  congr 2
  refine List.map_congr_left fun j _=> ?_
  exact zbE _ _ KO.1
noncomputable def tbA (T:List (List Int))(a b:Int):Int:=if a<0∨b<0 then 0 else (T.getD a.toNat []).getD b.toNat 0
noncomputable def wdP (i n:Nat):Nat:=if i=2 then n*(n-1)/2+1 else n+1
noncomputable def mkT (i n:Nat)(f:Int->Int->Int):List (List Int):=(List.range (n+1)).map fun (a:Nat)=>(List.range (wdP i n)).map fun (b:Nat)=>f (a:Int) (b:Int)
noncomputable def tabZ (i:Nat):Nat->List (List Int)
 |0=>[[1]]
 |n+1=>mkT i (n+1) (ePst i n (tbA (tabZ i n)))
theorem zco {α:Type}(n k:Nat)(g:Nat->α)(d:α):((List.range n).map g).getD k d=if k<n then g k else d:=by
 rw[List.getD_eq_getElem?_getD,List.getElem?_map]
 by_cases h:k<n
 ·rw[List.getElem?_range h,if_pos h];rfl
 ·rw[List.getElem?_eq_none (by rw[List.length_range];(first|lia|omega)),if_neg h];rfl
theorem zgI {i n:Nat}{f:Int->Int->Int}{a b:Int}(a0:0<=a)(a1:a<=n)(b0:0<=b)(b1:b<wdP i n):tbA (mkT i n f) a b=f a b:=by
 unfold tbA mkT
 rw[if_neg (by (first|lia|omega)),zco,if_pos (by (first|lia|omega)),zco,if_pos (by (first|lia|omega)),Int.toNat_of_nonneg a0,Int.toNat_of_nonneg b0]
theorem zfH {i n:Nat}{f:Int->Int->Int}{a b:Int}(h:a<0∨(n:Int)<a∨b<0∨(wdP i n:Int)<=b):tbA (mkT i n f) a b=0:=by
 unfold tbA mkT
 by_cases h0:a<0∨b<0
 ·rw[if_pos h0]
 ·rw [if_neg h0,zco]
  by_cases h1:(n:Int)<a
  ·rw [if_neg (by (first|lia|omega))]
   rfl
  ·rw[if_pos (by (first|lia|omega)),zco,if_neg (by (first|lia|omega))]
noncomputable def OutZ (i n:Nat)(T:Int->Int->Int):Prop:=∀a b:Int,(a<0∨(n:Int)<a∨b<0∨(wdP i n:Int)<=b)->T a b=0
theorem zgp (n:Nat):(n+1)*n/2=n*(n-1)/2+n:=by
 cases n with
 |zero=>rfl
 |succ k=>
  rw[show (k+1+1)*(k+1)=(k+1)*(k+1-1)+(k+1)*2 by rw[Nat.add_sub_cancel];grind,Nat.add_mul_div_right _ _ (by decide)]
theorem OutZ.step {i n:Nat}(hi:i<3){T:Int->Int->Int}(h:OutZ i n T):OutZ i (n+1) (ePst i n T):=by
 intro a b hab
 have hh:i=0∨i=1∨i=2:=by (first|lia|omega)
 rcases hh with rfl|rfl|rfl
 ·have w1:wdP 0 (n+1)=n+2:=rfl
  have w0:wdP 0 n=n+1:=rfl
  rw[w1] at hab
  show T (a-1) (b-1)*1+T a (b+1)*(b+1)+T a b*((n:Int)-b)=0
  have e1:T (a-1) (b-1)=0:=h _ _ (by rw[w0];(first|lia|omega))
  have e2:T a (b+1)*(b+1)=0:=by
   by_cases hb:b=-1
   ·subst hb;simp
   ·rw[h a (b+1) (by rw[w0];(first|lia|omega))];simp
  have e3:T a b=0:=h _ _ (by rw[w0];(first|lia|omega))
  rw[e1,e2,e3]
  simp
 ·have w1:wdP 1 (n+1)=n+2:=rfl
  have w0:wdP 1 n=n+1:=rfl
  rw[w1] at hab
  by_cases hn:n=0
  ·subst hn
   show (if a=0/\b=1 then T 0 0*1 else 0)=0
   rw[if_neg (by (first|lia|omega))]
  ·show (if n=0 then _ else T (a-1) (b-1)*1+T a b*(a+1)+T (a-1) b*((n:Int)-a))=0
   rw[if_neg hn]
   have e1:T (a-1) (b-1)=0:=h _ _ (by rw[w0];(first|lia|omega))
   have e2:T a b=0:=h _ _ (by rw[w0];(first|lia|omega))
   have e3:T (a-1) b*((n:Int)-a)=0:=by rw[h (a-1) b (by rw[w0];(first|lia|omega))];simp
   rw[e1,e2,e3]
   simp
 ·have w1:wdP 2 (n+1)=n*(n-1)/2+n+1:=by
   show (n+1)*(n+1-1)/2+1=_
   rw[Nat.add_sub_cancel,zgp]
  have w0:wdP 2 n=n*(n-1)/2+1:=rfl
  rw[w1] at hab
  show T (a-1) b*1+((List.range n).map fun (j:Nat)=>T a (b-((j:Int)+1))*1).sum=0
  generalize n*(n-1)/2=t at w0 hab
  have e1:T (a-1) b=0:=h _ _ (by rw[w0];(first|lia|omega))
  have e2:((List.range n).map fun (j:Nat)=>T a (b-((j:Int)+1))*1)=(List.range n).map fun _=>(0:Int):=List.map_congr_left fun j hj=>by
   have:=List.mem_range.mp hj
   rw[h a (b-((j:Int)+1)) (by rw[w0];(first|lia|omega))]
   rfl
  rw[e1,e2,zdf]
  rfl
theorem zeB {i:Nat}(hi:i<3):∀n,cP i n=tbA (tabZ i n)/\OutZ i n (tbA (tabZ i n))
 | 0 =>by
  refine⟨funext fun a=>funext fun b=> ?_,fun a b h=> ?_⟩
  ·unfold cP
   show getS [([0,0],1)] [a,b]=tbA [[1]] a b
   rw[zby]
   unfold tbA
   by_cases h:a<0∨b<0
   ·rw [if_pos h,if_neg (by simp;(first|lia|omega))]
    rfl
   ·rw [if_neg h]
    by_cases e:a=0/\b=0
    ·rw[e.1,e.2];rfl
    ·rw [if_neg (by simp;(first|lia|omega))]
     show (0:Int)=_
     by_cases ea:a=0
     ·subst ea
      obtain⟨m,rfl⟩:∃m:Nat,b=((m+1:Nat):Int):=⟨b.toNat-1,by (first|lia|omega)⟩
      rfl
     ·obtain ⟨m,rfl⟩:∃m:Nat,a=((m+1:Nat):Int):=⟨a.toNat-1,by (first|lia|omega)⟩
      rfl
  ·have w0:wdP i 0=1:=by unfold wdP;split<;>rfl
   rw[w0] at h
   unfold tbA
   by_cases h0:a<0∨b<0
   ·rw[if_pos h0]
   ·rw [if_neg h0]
    show (List.getD [[1]] a.toNat []).getD b.toNat 0=0
    by_cases ea:a=0
    ·subst ea
     obtain⟨m,rfl⟩:∃m:Nat,b=((m+1:Nat):Int):=⟨b.toNat-1,by (first|lia|omega)⟩
     rfl
    ·obtain ⟨m,rfl⟩:∃m:Nat,a=((m+1:Nat):Int):=⟨a.toNat-1,by (first|lia|omega)⟩
     rfl
 | n+1=>by
  obtain⟨e,o⟩:=zeB hi n
  have o':=o.step hi
  refine⟨funext fun a=>funext fun b=> ?_,fun a b h=>zfH h⟩
  rw[zhf hi,e]
  by_cases h:a<0∨((n+1:Nat):Int)<a∨b<0∨(wdP i (n+1):Int)<=b
  ·rw [o' a b h]
   exact (zfH h).symm
  ·exact (zgI (by (first|lia|omega)) (by (first|lia|omega)) (by (first|lia|omega)) (by (first|lia|omega))).symm
noncomputable def zfI (i n:Nat):List (List Int):=(List.range (rowZ (nmP i).1 n).length).map fun (k:Nat)=>(List.range (rowZ (nmP i).2 n).length).map fun (j:Nat)=>tbA (tabZ i n) (k:Int) (j:Int)
theorem zfJ {i:Nat}(hi:i<3)(n:Nat):togZ i n=zfI i n:=by
 unfold togZ zfI
 refine List.map_congr_left fun k _=>List.map_congr_left fun j _=> ?_
 exact congrFun (congrFun (zeB hi n).1 (k:Int)) (j:Int)
noncomputable def wyQ (m:Int):Nat->Int
 |0=>1
 |j+1=>wyQ m j*(m-(j:Int))/((j:Int)+1)
noncomputable def set2 (R:List (List Int))(a b:Nat)(v:Int):List (List Int):=R.set a ((R.getD a []).set b v)
noncomputable def nnN (n:Nat)(a b:List Int):List Int:=(List.range (max (a.length+1) b.length)).map fun k=>((n:Int)-1)*((0::a).getD k 0+b.getD k 0)
noncomputable def nnZ:Nat->List Int
 |0=>[1]
 |1=>[0]
 |n+2=>nnN (n+2) (nnZ n) (nnZ (n+1))
noncomputable def rndK (m s:Nat)(R:List (List Int))(k:Nat):List (List Int):=if 0<(nnZ (m-s)).getD k 0 then set2 R (k+s) s (wyQ m s*(nnZ (m-s)).getD k 0) else R
noncomputable def rndS (m:Nat)(R:List (List Int))(s:Nat):List (List Int):=(List.range (nnZ (m-s)).length).foldl (rndK m s) R
noncomputable def rndT (m:Nat):List (List Int):=(List.range (m+1)).foldl (rndS m) (List.replicate (m+1) (List.replicate (m+1) 0))
noncomputable def rsJ (n left k:Nat)(one:Int)(other:List Int)(row:List Int)(j:Nat):List Int:=if 0<one*other.getD j 0 then row.set (k+j+(if 0<left then 1 else 0)) (row.getD (k+j+(if 0<left then 1 else 0)) 0+wyQ ((n:Int)-1) left*one*other.getD j 0) else row
noncomputable def rsK (n left:Nat)(one other:List Int)(row:List Int)(k:Nat):List Int:=(List.range other.length).foldl (rsJ n left k (one.getD k 0) other) row
noncomputable def rsL (n:Nat)(F:List (List Int))(row:List Int)(left:Nat):List Int:=(List.range (F.getD left []).length).foldl (rsK n left (F.getD left []) (F.getD (n-1-left) [])) row
noncomputable def rsN (n:Nat)(F:List (List Int)):List Int:=(List.range n).foldl (rsL n F) (List.replicate n 0)
noncomputable def rsA:Nat->List (List Int)
 |0=>[[1]]
 |n+1=>rsA n++[rsN (n+1) (rsA n)]
noncomputable def rsR (n:Nat):List Int:=(rsA n).getD n []
noncomputable def hgJ (n left:Nat)(kv:List Int×Int)(al:List Int)(d:ShD)(j:Nat):ShD:=
 putS d [kv.1.getD 0 0+(j:Int)+(if 0<left then 1 else 0),kv.1.getD 1 0+1] (getS d [kv.1.getD 0 0+(j:Int)+(if 0<left then 1 else 0),kv.1.getD 1 0+1]+wyQ ((n:Int)-1) left*kv.2*al.getD j 0)
noncomputable def hgK (n left:Nat)(al:List Int)(d:ShD)(kv:List Int×Int):ShD:=(List.range al.length).foldl (hgJ n left kv al) d
noncomputable def hgL (n:Nat)(F:List ShD)(d:ShD)(left:Nat):ShD:=(F.getD left []).foldl (hgK n left (rsR (n-1-left))) d
noncomputable def hgN (n:Nat)(F:List ShD):ShD:=(List.range n).foldl (hgL n F) []
noncomputable def hgA:Nat->List ShD
 |0=>[[([0,0],1)]]
 |n+1=>hgA n++[hgN (n+1) (hgA n)]
noncomputable def hgD (n:Nat):ShD:=(hgA n).getD n []
noncomputable def hgT (n:Nat):List (List Int):=(List.range (max 1 n)).map fun (k:Nat)=>(List.range (n+1)).map fun (j:Nat)=>getS (hgD n) [(k:Int),(j:Int)]
theorem zbf:∀n,(rsA n).length=n+1
 |0=>rfl
 |n+1=>by
  show (rsA n++[_]).length=_
  rw[List.length_append,zbf n]
  rfl
theorem zdh:∀n,(hgA n).length=n+1
 |0=>rfl
 |n+1=>by
  show (hgA n++[_]).length=_
  rw[List.length_append,zdh n]
  rfl
theorem zcW {n k:Nat}(h:k<=n):(rsA n).getD k []=rsR k:=by
 induction n with
 |zero=>rw[show k=0 by (first|lia|omega)];rfl
 | succ n ih=>
  by_cases e:k=n+1
  ·subst e;rfl
  ·show (rsA n++[_]).getD k []=_
   rw[List.getD_eq_getElem?_getD,List.getElem?_append_left (by rw[zbf];(first|lia|omega)),<-List.getD_eq_getElem?_getD,ih (by (first|lia|omega))]
theorem zfK {n k:Nat}(h:k<=n):(hgA n).getD k []=hgD k:=by
 induction n with
 |zero=>rw[show k=0 by (first|lia|omega)];rfl
 | succ n ih=>
  by_cases e:k=n+1
  ·subst e;rfl
  ·show (hgA n++[_]).getD k []=_
   rw[List.getD_eq_getElem?_getD,List.getElem?_append_left (by rw[zdh];(first|lia|omega)),<-List.getD_eq_getElem?_getD,ih (by (first|lia|omega))]
theorem zgq (n:Nat):rsR (n+1)=rsN (n+1) (rsA n):=by
 show (rsA n++[_]).getD (n+1) []=_
 rw[List.getD_eq_getElem?_getD,List.getElem?_append_right (by rw[zbf];(first|lia|omega)),zbf]
 simp
theorem zdi (n:Nat):hgD (n+1)=hgN (n+1) (hgA n):=by
 show (hgA n++[_]).getD (n+1) []=_
 rw[List.getD_eq_getElem?_getD,List.getElem?_append_right (by rw[zdh];(first|lia|omega)),zdh]
 simp
theorem zbq {β:Type}{f:List Int->β->List Int}(h:∀r b,(f r b).length=r.length):∀(l:List β) (r:List Int),(l.foldl f r).length=r.length
 |[],_=>rfl
 |b::l,r=>by rw[List.foldl_cons,zbq h l,h]
theorem zfL (n left k:Nat)(one:Int)(other row:List Int)(j:Nat):(rsJ n left k one other row j).length=row.length:=by
 unfold rsJ
 split
 ·rw[List.length_set]
 ·rfl
theorem zfM (n left:Nat)(one other row:List Int)(k:Nat):(rsK n left one other row k).length=row.length:=zbq (fun r j=>zfL ..) _ _
theorem zfN (n:Nat)(F:List (List Int))(row:List Int)(left:Nat):(rsL n F row left).length=row.length:=zbq (fun r k=>zfM ..) _ _
theorem zhg (n:Nat)(F:List (List Int)):(rsN n F).length=n:=by
 unfold rsN
 rw[zbq (fun r k=>zfN ..),List.length_replicate]
theorem zdj (n:Nat):(rsR n).length=max 1 n:=by
 cases n with
 |zero=>rfl
 |succ n=>rw[zgq,zhg];(first|lia|omega)
theorem zcG:∀n,(nnZ n).length<=n+1
 |0=>by decide
 |1=>by decide
 |n+2=>by
  have h1:=zcG n
  have h2:=zcG (n+1)
  show (nnN _ _ _).length<=_
  unfold nnN
  rw[List.length_map,List.length_range]
  (first|lia|omega)
theorem zeC (n left:Nat)(kv:List Int×Int)(al:List Int)(k':List Int):∀(l:List Nat) (d:ShD),getS (l.foldl (hgJ n left kv al) d) k'=getS d k'+(l.map fun (j:Nat)=>if [kv.1.getD 0 0+(j:Int)+(if 0<left then 1 else 0),kv.1.getD 1 0+1]=k' then wyQ ((n:Int)-1) left*kv.2*al.getD j 0 else 0).sum
 |[],d=>by simp
 | j::l,d=>by
  rw[List.foldl_cons,zeC n left kv al k' l,List.map_cons,List.sum_cons]
  have:getS (hgJ n left kv al d j) k'=getS d k'+if [kv.1.getD 0 0+(j:Int)+(if 0<left then 1 else 0),kv.1.getD 1 0+1]=k' then wyQ ((n:Int)-1) left*kv.2*al.getD j 0 else 0:=by
   unfold hgJ
   rw[zeA]
   by_cases e:[kv.1.getD 0 0+(j:Int)+(if 0<left then 1 else 0),kv.1.getD 1 0+1]=k'
   ·rw[if_pos e,if_pos e,e]
   ·rw[if_neg e,if_neg e,Int.add_zero]
  rw[this,Int.add_assoc]
theorem zeD (n left:Nat)(al:List Int)(k':List Int):∀(l d:ShD),getS (l.foldl (hgK n left al) d) k'=getS d k'+(l.map fun kv=>((List.range al.length).map fun (j:Nat)=>if [kv.1.getD 0 0+(j:Int)+(if 0<left then 1 else 0),kv.1.getD 1 0+1]=k' then wyQ ((n:Int)-1) left*kv.2*al.getD j 0 else 0).sum).sum
 |[],d=>by simp
 |kv::l,d=>by
  rw[List.foldl_cons,zeD n left al k' l,List.map_cons,List.sum_cons]
  unfold hgK
  rw[zeC,Int.add_assoc]
theorem zeE (n:Nat)(F:List ShD)(k':List Int):∀(l:List Nat) (d:ShD),getS (l.foldl (hgL n F) d) k'=getS d k'+(l.map fun left=>((F.getD left []).map fun kv=>((List.range (rsR (n-1-left)).length).map fun (j:Nat)=>if [kv.1.getD 0 0+(j:Int)+(if 0<left then 1 else 0),kv.1.getD 1 0+1]=k' then wyQ ((n:Int)-1) left*kv.2*(rsR (n-1-left)).getD j 0 else 0).sum).sum).sum
 |[],d=>by simp
 |left::l,d=>by
  rw[List.foldl_cons,zeE n F k' l,List.map_cons,List.sum_cons]
  unfold hgL
  rw[zeD,Int.add_assoc]
noncomputable def HgOk (n:Nat)(d:ShD):Prop:=(d.map (·.1)).Nodup/\∀kv∈d,∃a b:Int,kv.1=[a,b]/\0<=a/\a<max 1 n/\0<=b/\b<=n
theorem HgOk.put {n:Nat}{d:ShD}(h:HgOk n d){a b:Int}(hk:0<=a/\a<max 1 n/\0<=b/\b<=n)(v:Int):HgOk n (putS d [a,b] v):=by
 have e:=zdG d [a,b] v
 refine⟨?_,fun kv hkv=> ?_⟩
 ·rw [e]
  split
  ·exact h.1
  ·rename_i hn
   exact List.nodup_append.mpr ⟨h.1,by simp,fun x hx c hc z=>by rw[List.mem_singleton] at hc;subst hc z;exact hn hx⟩
 ·have hm:kv.1∈(putS d [a,b] v).map (·.1):=List.mem_map.mpr ⟨kv,hkv,rfl⟩
  rw[e] at hm
  have:kv.1∈d.map (·.1)∨kv.1=[a,b]:=by
   split at hm
   ·exact .inl hm
   ·rcases List.mem_append.mp hm with q|q
    ·exact .inl q
    ·exact .inr (List.mem_singleton.mp q)
  rcases this with q|q
  ·obtain ⟨kw,h1,h2⟩:=List.mem_map.mp q
   rw[<-h2]
   exact h.2 kw h1
  ·exact⟨a,b,q,hk⟩
theorem HgOk.jj {n left:Nat}{kv:List Int×Int}{al:List Int}(hl:left<n){a b:Int}(e:kv.1=[a,b])(hk:0<=a/\a<max 1 left/\0<=b/\b<=left):∀{l:List Nat} {d:ShD},(∀j∈l,j<max 1 (n-1-left))->HgOk n d->HgOk n (l.foldl (hgJ n left kv al) d)
 |[],_,_,h=>h
 |j::l,d,hj,h=>by
  rw[List.foldl_cons]
  refine HgOk.jj hl e hk (fun i hi=>hj i (List.mem_cons_of_mem _ hi)) ?_
  have hjj:=hj j (List.mem_cons_self ..)
  unfold hgJ
  rw[e]
  refine h.put (a:=a+(j:Int)+(if 0<left then 1 else 0)) (b:=b+1) ?_ _
  split<;>(first|lia|omega)
theorem HgOk.kk {n left:Nat}(hl:left<n):∀{l d:ShD},(∀kv∈l,∃a b:Int,kv.1=[a,b]/\0<=a/\a<max 1 left/\0<=b/\b<=left)->HgOk n d->HgOk n (l.foldl (hgK n left (rsR (n-1-left))) d)
 |[],_,_,h=>h
 |kv::l,d,hk,h=>by
  rw[List.foldl_cons]
  refine HgOk.kk hl (fun i hi=>hk i (List.mem_cons_of_mem _ hi)) ?_
  obtain⟨a,b,e,q⟩:=hk kv (List.mem_cons_self ..)
  exact HgOk.jj hl e q (fun j hj=>by have:=List.mem_range.mp hj;rwa [zdj] at this) h
theorem HgOk.ll {n:Nat}{F:List ShD}(hF:∀left<n,HgOk left (F.getD left [])):∀{l:List Nat} {d:ShD},(∀j∈l,j<n)->HgOk n d->HgOk n (l.foldl (hgL n F) d)
 |[],_,_,h=>h
 |left::l,d,hj,h=>by
  rw[List.foldl_cons]
  have hl:=hj left (List.mem_cons_self ..)
  exact HgOk.ll hF (fun i hi=>hj i (List.mem_cons_of_mem _ hi)) (HgOk.kk hl (hF left hl).2 h)
theorem HgOk.nil {n:Nat}:HgOk n []:=⟨List.nodup_nil,fun kv h=>by cases h⟩
theorem zeF (n:Nat):HgOk n (hgD n):=by
 induction n using Nat.strongRecOn with
 | _ n ih=>
  cases n with
  |zero=>
   refine⟨by simp[hgD,hgA],fun kv h=> ?_⟩
   have:kv=([0,0],1):=by simpa [hgD,hgA] using h
   subst this
   exact⟨0,0,rfl,by decide,by decide,by decide,by decide⟩
  |succ n=>
   rw[zdi]
   refine HgOk.ll (fun left hl=> ?_) (fun j hj=>List.mem_range.mp hj) HgOk.nil
   rw[zfK (by (first|lia|omega))]
   exact ih left hl
theorem HgOk.len {n:Nat}{d:ShD}(h:HgOk n d)(hn:n<=16):d.length<=2800:=by
 have h1:=zfr h.1 (L:=boxP) fun k hk=>by
  obtain⟨kv,m,rfl⟩:=List.mem_map.mp hk
  obtain⟨f,s,e,h1,h2,h3,h4⟩:=h.2 kv m
  rw[e]
  refine List.mem_flatMap.mpr ⟨f.toNat,List.mem_range.mpr (by (first|lia|omega)),List.mem_map.mpr ⟨(s+20).toNat,List.mem_range.mpr (by (first|lia|omega)), ?_⟩⟩
  rw[Int.toNat_of_nonneg h1,Int.toNat_of_nonneg (by (first|lia|omega))]
  congr 2
  (first|lia|omega)
 rw[List.length_map] at h1
 exact Nat.le_trans h1 (by decide)
noncomputable def hC (n:Nat)(a b:Int):Int:=getS (hgD n) [a,b]
theorem zhh (n:Nat)(a b:Int):hC (n+1) a b=((List.range (n+1)).map fun left=>((List.range (rsR (n-left)).length).map fun (j:Nat)=>hC left (a-(if 0<left then 1 else 0)-(j:Int)) (b-1)*(wyQ (n:Int) left*(rsR (n-left)).getD j 0)).sum).sum:=by
 unfold hC
 rw[zdi]
 unfold hgN
 rw[zeE]
 have z:getS [] [a,b]=0:=rfl
 rw[z,Int.zero_add]
 congr 1
 refine List.map_congr_left fun left hl=> ?_
 have hl:=List.mem_range.mp hl
 have KO:=zeF left
 rw[zfK (by (first|lia|omega)),zdg]
 rw[show n+1-1-left=n-left by (first|lia|omega)]
 congr 1
 refine List.map_congr_left fun j _=> ?_
 rw[<-zbE [a-(if 0<left then 1 else 0)-(j:Int),b-1] _ KO.1]
 congr 1
 refine List.map_congr_left fun kv hm=> ?_
 obtain⟨f,s,e,_⟩:=KO.2 kv hm
 rw[e]
 have two:∀f s c d:Int,([f,s]=[c,d])↔(f=c/\s=d):=fun f s c d=>by simp
 have e1:((([f,s]:List Int).getD 0 0)+(j:Int)+(if 0<left then 1 else 0))=f+(j:Int)+(if 0<left then 1 else 0):=rfl
 have e2:(([f,s]:List Int).getD 1 0)+1=s+1:=rfl
 rw[e1,e2,show ((n+1:Nat):Int)-1=(n:Int) by (first|lia|omega)]
 by_cases q:f+(j:Int)+(if 0<left then 1 else 0)=a/\s+1=b
 ·rw [if_pos ((two _ _ _ _).mpr q),if_pos ((two _ _ _ _).mpr ⟨by (first|lia|omega),by (first|lia|omega)⟩)]
  grind
 ·rw[if_neg (fun z=>q ((two _ _ _ _).mp z)),if_neg (fun z=>q (by have:=(two _ _ _ _).mp z;(first|lia|omega)))]
noncomputable def hqS (R T:List (List (List Int)))(n:Nat)(a b:Int):Int:=((List.range (n+1)).map fun left=>((List.range ((R.getD (n-left) []).getD 0 []).length).map fun (j:Nat)=>tbA (T.getD left []) (a-(if 0<left then 1 else 0)-(j:Int)) (b-1)*(wyQ (n:Int) left*((R.getD (n-left) []).getD 0 []).getD j 0)).sum).sum
noncomputable def hqCk (m:Nat):Bool:=let T:=(List.range (m+1)).map (tabZ 1);let R:=(rsA m).map fun r=>[r]
 (List.range m).all fun n=>decide (mkT 1 (n+1) (hqS R T n)=T.getD (n+1) [])
theorem hq16:hqCk 16=true:=by decide+kernel
theorem ziz:∀n<17,rndT n=zfI 0 n:=by decide+kernel
theorem len_tab:(∀n<17,(rowZ "rises" n).length=max 1 n/\(rowZ "highs" n).length=n+1)/\∀n<11,(rowZ "crossed" n).length=n*(n-1)/2+1:=by decide+kernel
theorem zh1:∀r∈rsA 16,∀x∈r,x.natAbs<2^60:=by decide+kernel
theorem zh2:∀n<17,∀x∈nnZ n,x.natAbs<2^60:=by decide+kernel
theorem zh3:∀m<17,∀k<17,(wyQ (m:Nat) k).natAbs<2^60:=by decide+kernel
theorem zfO {α β:Type}(f:α->β)(l:List α)(k:Nat)(d:α)(e:β)(h:k<l.length):(l.map f).getD k e=f (l.getD k d):=by
 rw[List.getD_eq_getElem?_getD,List.getD_eq_getElem?_getD,List.getElem?_map,List.getElem?_eq_getElem h]
 rfl
theorem zh4 {n:Nat}{a b:Int}(h:a<0∨(max 1 n:Int)<=a∨b<0∨(n:Int)<b):hC n a b=0:=by
 have KO:=(zeF n).2
 unfold hC getS
 have:(hgD n).find? (fun kv=>kv.1==[a,b])=none:=by
  rw[List.find?_eq_none]
  intro kv hm hk
  obtain⟨x,y,e,q⟩:=KO kv hm
  have hk:kv.1=[a,b]:=by simpa using hk
  rw[e] at hk
  simp only[List.cons.injEq,and_true] at hk
  (first|lia|omega)
 rw[this]
 rfl
theorem ziA (n:Nat)(hn:n<=16):∀a b,hC n a b=cP 1 n a b:=by
 induction n using Nat.strongRecOn with
 | _ n ih=>
  cases n with
  |zero=>intro a b;rfl
  | succ n=>
   intro a b
   obtain⟨e,o⟩:=zeB (i:=1) (by decide) (n+1)
   rw[e]
   by_cases h:a<0∨((n+1:Nat):Int)<a∨b<0∨(wdP 1 (n+1):Int)<=b
   ·rw [o a b h,zh4]
    have:wdP 1 (n+1)=n+2:=rfl
    rw[this] at h
    (first|lia|omega)
   ·have ck:=hq16
    unfold hqCk at ck
    have ck:=of_decide_eq_true (List.all_eq_true.mp ck n (List.mem_range.mpr (by (first|lia|omega))))
    have tl:((List.range (16+1)).map (tabZ 1)).getD (n+1) []=tabZ 1 (n+1):=by
     rw[zfO (tabZ 1) _ _ 0 [] (by rw[List.length_range];(first|lia|omega)),List.getD_eq_getElem?_getD,List.getElem?_range (by (first|lia|omega))]
     rfl
    rw[tl] at ck
    rw[<-ck,zgI (by (first|lia|omega)) (by (first|lia|omega)) (by (first|lia|omega)) (by (first|lia|omega)),zhh]
    unfold hqS
    refine congrArg List.sum (List.map_congr_left fun left hl=> ?_)
    have hl:=List.mem_range.mp hl
    have er:(((rsA 16).map fun r=>[r]).getD (n-left) []).getD 0 []=rsR (n-left):=by
     rw[zfO (fun r=>[r]) _ _ [] [] (by rw[zbf];(first|lia|omega)),zcW (by (first|lia|omega))]
     rfl
    have et:((List.range (16+1)).map (tabZ 1)).getD left []=tabZ 1 left:=by
     rw[zfO (tabZ 1) _ _ 0 [] (by rw[List.length_range];(first|lia|omega)),List.getD_eq_getElem?_getD,List.getElem?_range (by (first|lia|omega))]
     rfl
    rw[er,et]
    refine congrArg List.sum (List.map_congr_left fun j _=> ?_)
    rw[ih left hl (by (first|lia|omega)),(zeB (i:=1) (by decide) left).1]
theorem zhi {n:Nat}(hn:n<=16):togZ 1 n=hgT n:=by
 unfold togZ hgT
 have h:=len_tab.1 n (by (first|lia|omega))
 have h1:(rowZ (nmP 1).1 n).length=max 1 n:=h.1
 have h2:(rowZ (nmP 1).2 n).length=n+1:=h.2
 rw[h1,h2]
 refine List.map_congr_left fun k _=>List.map_congr_left fun j _=> ?_
 have:=ziA n hn (k:Int) (j:Int)
 unfold hC cP at this
 exact this.symm
theorem zgr {n:Nat}(hn:n<=16):togZ 0 n=rndT n:=(zfJ (by decide) n).trans (ziz n (by (first|lia|omega))).symm
theorem zhj {n:Nat}(hn:n<=10):togZ 2 n=(List.range (n+1)).map fun (k:Nat)=>(List.range (n*(n-1)/2+1)).map fun (j:Nat)=>getS (zam 2 n) [(k:Int),(j:Int)]:=by
 unfold togZ
 rw[show (rowZ (nmP 2).1 n).length=n+1 from (len_tab.1 n (by (first|lia|omega))).2,show (rowZ (nmP 2).2 n).length=n*(n-1)/2+1 from len_tab.2 n (by (first|lia|omega))]
theorem zd5 {n j:Nat}(hn:n<=16):-(2^64)<(rsR n).getD j 0/\(rsR n).getD j 0<2^64:=by
 by_cases h:j<(rsR n).length
 ·have hm:rsR n∈rsA 16:=by
   rw[<-zcW hn]
   rw[List.getD_eq_getElem?_getD,List.getElem?_eq_getElem (by rw[zbf];(first|lia|omega))]
   exact List.getElem_mem _
  have hx:(rsR n).getD j 0∈rsR n:=by
   rw[List.getD_eq_getElem?_getD,List.getElem?_eq_getElem h]
   exact List.getElem_mem _
  have:=zh1 _ hm _ hx
  (first|lia|omega)
 ·rw [List.getD_eq_getElem?_getD,List.getElem?_eq_none (by (first|lia|omega))]
  decide
theorem zhk {n j:Nat}(hn:n<=16):-(2^64)<(nnZ n).getD j 0/\(nnZ n).getD j 0<2^64:=by
 by_cases h:j<(nnZ n).length
 ·have hx:(nnZ n).getD j 0∈nnZ n:=by
   rw[List.getD_eq_getElem?_getD,List.getElem?_eq_getElem h]
   exact List.getElem_mem _
  have:=zh2 n (by (first|lia|omega)) _ hx
  (first|lia|omega)
 ·rw [List.getD_eq_getElem?_getD,List.getElem?_eq_none (by (first|lia|omega))]
  decide
theorem zfP {m k:Nat}(hm:m<=16)(hk:k<=16):-(2^64)<wyQ (m:Nat) k/\wyQ (m:Nat) k<2^64:=by
 have:=zh3 m (by (first|lia|omega)) k (by (first|lia|omega))
 (first|lia|omega)
structure TopX (mg:Str->Option Value):Prop where
 n_str:mg "str" =none
 n_repr:mg "repr" =none
 n_divmod:mg "divmod" =none
structure TopXK (K:PySem.W.Frag):Prop where
 k_str:PySem.W.nsIn K mainGlobals "str" =some none
 k_repr:PySem.W.nsIn K mainGlobals "repr" =some none
 k_divmod:PySem.W.nsIn K mainGlobals "divmod" =some none
noncomputable abbrev Sm (x:Int)(n:Nat):Prop:=Builtin.Int.intBits x<=n
structure ShB (p:Int×Int) (n:Nat):Prop where
 pos:0<p.2
 s1:Sm p.1 n
 s2:Sm p.2 n
structure GoneOk (m:Nat) (g:List Int):Prop where
 nd:g.Nodup
 rng:∀x∈g,0<=x/\x<(m:Int)
noncomputable def gV (g:List Int):List (Key×V):=g.map fun x=>(Sum.inl x,V.bl true)
structure LstsAt (H:Hp) (zs:List Addr) (R:List (List Int)):Prop where
 nd:zs.Nodup
 len:zs.length=R.length
 at_:∀(i:Nat) (z:Addr),zs[i]? =some z->H z=some (.lst ((R.getD i []).map V.int))
theorem LstsAt.same {H H':Hp}{zs:List Addr}{R:List (List Int)}(h:LstsAt H zs R)(s:Same H H'):LstsAt H' zs R:=⟨h.nd,h.len,fun i z e=>s _ _ (h.at_ i z e)⟩
theorem zcH {J:It}{Ok:Hp->Prop}{xs:List V}{te:TE}{ix:List Nat}{σ:L2.St}{H1:Hp}{Q:VK}(Y:Yields J Ok xs)(small:xs.length<sizeLine)(f:Nat->List V)(hok:∀H,Same H1 H->Ok H)
  (he:∀(i:Nat) (x:V) (H:Hp),xs[i]? =some x->Same H1 H->∀(QT:VK),(∀(a:Addr) (H':Hp),H a=none->H' a=some (.lst (f i))->Same H H'->QT (.ref a) H')->te (some x::ix.map fun i=>σ.getD i none) H QT)
  (fin:∀acc (zs:List Addr) H',H1 acc=none->Same H1 H'->H' acc=some (.lst (zs.map V.ref))->zs.length=xs.length->zs.Nodup->(∀(i:Nat) (z:Addr),zs[i]? =some z->H' z=some (.lst (f i))/\H1 z=none/\z≠acc)->Q (.ref acc) H'):
  LcW J H1 (zbr 0) zaZ te 1 ix σ Q:=by
 intro acc ha
 refine⟨fun i m H=>m=xs.length-i/\i<=xs.length/\Same H1 H/\∃(zs:List Addr),H acc=some (.lst (zs.map V.ref))/\zs.length=i/\zs.Nodup/\∀(j:Nat) (z:Addr),zs[j]? =some z->H z=some (.lst (f j))/\H1 z=none/\z≠acc,⟨xs.length,by simp,Nat.zero_le _,zac ha,[],zab,rfl,List.nodup_nil,fun _ _ h=>by cases h⟩, ?_⟩
 rintro i m H ⟨rfl,hi,kp,zs,hacc,hl,hnd,hD⟩
 have o:=hok _ kp
 by_cases hlt:i<xs.length
 ·refine .inr ⟨Y.go i _ o hlt,fun x H' y=> ?_⟩
  obtain⟨rfl,hx⟩:=Y.yld i _ x H' o hlt y
  refine⟨⟨rfl,fun j v e=> ?_⟩, ?_⟩
  ·cases j with
   |zero=>cases e
   |succ j=>exact e
  ·unfold zaZ
   dsimp only
   rw[if_pos rfl]
   refine he i x H' hx kp _ (fun a H4 a0 a4 k4=> ?_)
   have h4:=k4 _ _ hacc
   have haa:a≠acc:=fun e=>by rw[e,hacc] at a0;cases a0
   have hnot:a∉zs:=fun hm=>by
    obtain⟨j,hj⟩:=List.getElem?_of_mem hm
    rw[(hD j a hj).1] at a0
    cases a0
   refine⟨_,h4,by rw[List.length_map];(first|lia|omega),xs.length-(i+1),by (first|lia|omega),rfl,hlt,zan (kp.trans k4) ha,zs++[a],by rw[zab,List.map_append];rfl,by simp;(first|lia|omega),List.nodup_append.mpr ⟨hnd,by simp,fun u hu c hc e=> ?_⟩,fun j z hj=> ?_⟩
   ·rw [List.mem_singleton] at hc
    subst hc e
    exact hnot hu
   by_cases c:j<zs.length
   ·rw [List.getElem?_append_left c] at hj
    obtain⟨q1,q2,q3⟩:=hD j z hj
    exact⟨by rw[zah q3];exact k4 _ _ q1,q2,q3⟩
   ·rw [List.getElem?_append_right (by (first|lia|omega))] at hj
    have hj0:j-zs.length=0:=by
     have:=(List.getElem?_eq_some_iff.mp hj).1
     simp at this
     (first|lia|omega)
    rw[hj0] at hj
    simp at hj
    subst hj
    have:j=i:=by (first|lia|omega)
    subst this
    exact⟨by rw[zah haa];exact a4,kp.free a0,haa⟩
 ·have e:i=xs.length:=by (first|lia|omega)
  subst e
  exact .inl ⟨Y.stop _ o,fin acc zs H ha kp hacc hl hnd hD⟩
structure LsF (H:Hp) (zs:List Addr) (R:List (List Int)):Prop where
 len:zs.length=R.length
 at_:∀(i:Nat) (z:Addr),zs[i]? =some z->H z=some (.lst ((R.getD i []).map V.int))
theorem LsF.same {H H':Hp}{zs:List Addr}{R:List (List Int)}(h:LsF H zs R)(s:Same H H'):LsF H' zs R:=⟨h.len,fun i z e=>s _ _ (h.at_ i z e)⟩
theorem LsF.off {H:Hp}{zs:List Addr}{R:List (List Int)}{L:Addr}{o:HO}(h:LsF H zs R)(hL:L∉zs):LsF (upd H L o) zs R:=⟨h.len,fun i z e=>by
 have hz:z≠L:=fun q=>hL (by rw[<-q];exact List.mem_of_getElem? e)
 rw[zah hz]
 exact h.at_ i z e⟩
theorem LsF.snoc {H:Hp}{zs:List Addr}{R:List (List Int)}{l:Addr}{r:List Int}(h:LsF H zs R)(hl:H l=some (.lst (r.map V.int))):LsF H (zs++[l]) (R++[r]):=by
 refine⟨by rw[List.length_append,List.length_append,h.len];rfl,fun i z e=> ?_⟩
 by_cases c:i<zs.length
 ·rw [List.getElem?_append_left c] at e
  rw[List.getD_eq_getElem?_getD,List.getElem?_append_left (by rw[<-h.len];exact c),<-List.getD_eq_getElem?_getD]
  exact h.at_ i z e
 ·rw [List.getElem?_append_right (by (first|lia|omega))] at e
  have hi:i-zs.length=0:=by
   have:=(List.getElem?_eq_some_iff.mp e).1
   simp at this
   (first|lia|omega)
  rw[hi] at e
  simp at e
  subst e
  rw[List.getD_eq_getElem?_getD,List.getElem?_append_right (by rw[<-h.len];(first|lia|omega)),<-h.len,hi]
  exact hl
theorem LsF.there {H:Hp}{zs:List Addr}{R:List (List Int)}(h:LsF H zs R){z:Addr}(hz:z∈zs):∃r:List Int,H z=some (.lst (r.map V.int)):=by
 obtain⟨i,hi⟩:=List.getElem?_of_mem hz
 exact⟨_,h.at_ i z hi⟩
theorem LsF.get {H:Hp}{zs:List Addr}{R:List (List Int)}(h:LsF H zs R){i:Nat}(hi:i<R.length):∃z,zs[i]? =some z/\atI (zs.map V.ref) (i:Int)=some (.ref z)/\H z=some (.lst ((R.getD i []).map V.int)):=by
 have hq:i<zs.length:=by rw[h.len];exact hi
 refine⟨zs[i],List.getElem?_eq_getElem hq,zaN (by rw[List.getElem?_map,List.getElem?_eq_getElem hq];rfl),h.at_ i _ (List.getElem?_eq_getElem hq)⟩
theorem LstsAt.lsF {H:Hp}{zs:List Addr}{R:List (List Int)}(h:LstsAt H zs R):LsF H zs R:=⟨h.len,h.at_⟩
theorem LstsAt.putV {H:Hp}{zs:List Addr}{R:List (List Int)}(h:LstsAt H zs R){q:Nat}{z:Addr}(hz:zs[q]? =some z)(r:List Int):LstsAt (upd H z (.lst (r.map V.int))) zs (R.set q r):=by
 have hq:=(List.getElem?_eq_some_iff.mp hz).1
 refine⟨h.nd,by rw[List.length_set];exact h.len,fun i y hy=> ?_⟩
 by_cases e:q=i
 ·subst e
  rw[hz] at hy
  cases hy
  have e1:(R.set q r).getD q []=r:=by
   rw[List.getD_eq_getElem?_getD,List.getElem?_set_self (by rw[<-h.len];exact hq)]
   rfl
  rw[zab,e1]
 ·have hne:y≠z:=fun z'=>by
   obtain⟨h1,e1⟩:=List.getElem?_eq_some_iff.mp hz
   obtain⟨h2,e2⟩:=List.getElem?_eq_some_iff.mp hy
   exact e ((List.getElem_inj h.nd).mp (e1.trans (z'.symm.trans e2.symm)))
  have e1:(R.set q r).getD i []=R.getD i []:=by
   rw[List.getD_eq_getElem?_getD,List.getElem?_set_ne e,<-List.getD_eq_getElem?_getD]
  rw[zah hne,h.at_ i y hy,e1]
noncomputable def zdI:Sp:=fun vs H Q _=>∃m k:Nat,vs=[.int m,.int k]/\m<=16/\k<=m/\Q (.int (wyQ m k)) H
noncomputable def za3 (g:Nat->List (List Int))(B:Nat):Sp:=fun vs H Q _=>∃n:Nat,vs=[.int n]/\n<=B/\∀(L:Addr) (zs:List Addr) (H':Hp),Same H H'->H' L=some (.lst (zs.map V.ref))->LsF H' zs (g n)->Q (.ref L) H'
noncomputable def DimR (m:Nat)(R:List (List Int)):Prop:=R.length=m+1/\∀i,i<m+1->(R.getD i []).length=m+1
theorem DimR.set2 {m:Nat}{R:List (List Int)}(h:DimR m R)(a b:Nat)(v:Int):DimR m (set2 R a b v):=by
 unfold L2.set2
 refine⟨by rw[List.length_set];exact h.1,fun i hi=> ?_⟩
 by_cases e:a=i
 ·subst e
  rw[List.getD_eq_getElem?_getD,List.getElem?_set_self (by rw[h.1];exact hi)]
  show ((R.getD a []).set b v).length=_
  rw[List.length_set]
  exact h.2 a hi
 ·rw [List.getD_eq_getElem?_getD,List.getElem?_set_ne e,<-List.getD_eq_getElem?_getD]
  exact h.2 i hi
theorem DimR.ini (m:Nat):DimR m (List.replicate (m+1) (List.replicate (m+1) 0)):=by
 refine⟨by rw[List.length_replicate],fun i hi=> ?_⟩
 rw[List.getD_eq_getElem?_getD,List.getElem?_replicate,if_pos hi]
 exact List.length_replicate
theorem zdJ {β γ:Type}(f:γ->β->γ)(x:γ)(l:List β){i:Nat}{b:β}(h:l[i]? =some b):(l.take (i+1)).foldl f x=f ((l.take i).foldl f x) b:=by
 rw[List.take_succ,h,List.foldl_append]
 rfl
theorem zbc {γ:Type}(f:γ->Nat->γ)(x:γ)(i:Nat):(List.range (i+1)).foldl f x=f ((List.range i).foldl f x) i:=by
 rw[List.range_succ,List.foldl_append]
 rfl
theorem zcp {α:Type}(g:Nat->α)(d:α){n i:Nat}(h:i<n):((List.range n).map g).getD i d=g i:=by
 rw[List.getD_eq_getElem?_getD,List.getElem?_map,List.getElem?_range h]
 rfl
theorem zhl (n:Nat):nnZ (n+2)=(List.range (max ((nnZ n).length+1) (nnZ (n+1)).length)).map fun k=>((n:Int)+1)*((0::nnZ n).getD k 0+(nnZ (n+1)).getD k 0):=by
 show nnN (n+2) (nnZ n) (nnZ (n+1))=_
 unfold nnN
 rw[show ((n+2:Nat):Int)-1=(n:Int)+1 by (first|lia|omega)]
theorem zbX (n:Nat):(List.replicate n [V.int 0]).flatten=(List.replicate n (0:Int)).map V.int:=by
 induction n with
 |zero=>rfl
 |succ n ih=>rw[List.replicate_succ,List.flatten_cons,ih,List.replicate_succ,List.map_cons];rfl
theorem padD (a:List Int)(k j:Nat):(a++List.replicate k 0).getD j 0=a.getD j 0:=by
 rw[List.getD_eq_getElem?_getD,List.getD_eq_getElem?_getD]
 by_cases h:j<a.length
 ·rw[List.getElem?_append_left h]
 ·rw [List.getElem?_append_right (by (first|lia|omega)),List.getElem?_replicate,List.getElem?_eq_none (by (first|lia|omega))]
  split<;>rfl
end L2
namespace K19
open PySem PySem.Spec PyProof.Rows L2
noncomputable abbrev zbM:Stmt:=top 26
noncomputable abbrev zar:Stmt:=top 27
section
variable {P:Program}{w:World}{K:PySem.W.Frag}{mg:Str->Option Value}{base:Heap}
theorem sc__law_ways:FnScope ["_law_many", "_law_number", "_law_found", "_law_k"] ["_law_many", "_law_number"] (zag zbM):=⟨rfl,rfl,rfl,by decide+kernel,rfl,by decide+kernel,by decide+kernel⟩
set_option maxHeartbeats 8000000 in
theorem zdK {f:Addr}{fd:FuncData}(F:Fun K "_law_ways" "_law_ways" zbM f fd)(T:Top mg):FnOk P w K mg base CX0 1 f fd ["_law_many", "_law_number"] zdI:=by
 refine F.ok sc__law_ways (fun vs H Q E h=> ?_) (fun cdv A outer s H vs Q E hr h=> ?_)
 ·obtain ⟨m,n,rfl,_⟩:=h
  rfl
 ·obtain ⟨m,n,rfl,hm,hn,k⟩:=h
  refine⟨_,(zaf (zcs (zeX (zed zgO zgO zad (pv 1) (pv 0)))
    (zaj (zaC zad))
    zbd)
   (zaf (zas (i:=2) sc__law_ways.nd rfl (Or.inl rfl) zad)
   (zaf (zaS PassesOwn.never rfl (zat rfl T.n_range (zaa (pv 1) zae)) (zak (i:=3) sc__law_ways.nd rfl (Or.inl rfl))
    (zaj (zas (i:=2) sc__law_ways.nd rfl (Or.inl rfl) (zai zb0 (zai zaV (pv 2) (zai zaJ (pv 0) (pv 3))) (zai zal (pv 3) zad)))))
   (zaj (zaC (pv 2)))))), ?_⟩
  refine⟨_,rfl,_,_,rfl,rfl,_,rfl, ?_⟩
  rw[decide_eq_true (show (0:Int)<=(n:Int) by (first|lia|omega))]
  refine iteT ⟨_,rfl,_,_,rfl,rfl,_,rfl, ?_⟩
  rw[decide_eq_true (show (n:Int)<=(m:Int) by (first|lia|omega))]
  refine iteF ?_
  refine⟨_,rfl,_,rfl,by (first|lia|omega),by (first|lia|omega), ?_⟩
  rw[Int.toNat_natCast]
  refine zaI (fun i σ G=>G=H/\∃c:Option V,σ=[some (.int m),some (.int n),some (.int (wyQ m i)),c]) ⟨rfl,none,rfl⟩ ?_ ?_
  ·rintro i σ G hi ⟨rfl,c,rfl⟩
   rw[Int.zero_add]
   exact⟨_,rfl,_,rfl,_,rfl,_,_,rfl,rfl,_,_,rfl,rfl,.inr ⟨by (first|lia|omega),by (first|lia|omega)⟩,_,rfl,_,_,rfl,rfl,_,_,rfl,rfl,⟨by (first|lia|omega),by (first|lia|omega)⟩,rfl,some (.int (i:Int)),rfl⟩
  ·rintro σ G ⟨rfl,c,rfl⟩
   exact⟨_,rfl,k⟩
theorem sc__law_of_rounds:FnScope ["_law_many", "_law_none", "_law_n", "_law_one", "_law_other", "_law_size", "_law_rows", "_law_stays", "_law_k", "_law_number"] ["_law_many"] (zag zar):=⟨rfl,rfl,rfl,by decide+kernel,rfl,by decide+kernel,by decide+kernel⟩
set_option maxHeartbeats 16000000 in
noncomputable def ziB {f:Addr}{cdv:Value}{A:Around}{outer:List Env}{s:Shared}{H:Hp}{E:XK}(hr:Room 1 (A.deeper (envOfC "_law_of_rounds" (zag zar) s.heap.objs.size f cdv)))(T:Top mg)(C_law_ways:Cal P w K mg base 1 "_law_ways" ["_law_many", "_law_number"] zdI):{t:TS//PSs (cxOf CX0 P w K mg base ["_law_many", "_law_none", "_law_n", "_law_one", "_law_other", "_law_size", "_law_rows", "_law_stays", "_law_k", "_law_number"] "_law_of_rounds" (zag zar) f cdv A outer s H E).nox (zaO zar) t}:=
 ⟨_, (zaf (zas (i:=1) sc__law_of_rounds.nd rfl (Or.inl rfl) (zaW (zaa (zaW (zaa zad zae)) (zaa (zaW (zaa zad zae)) zae))))
   (zaf (zaS PassesOwn.never rfl (zbg rfl T.n_range (zaa zad (zaa (zai zal (pv 0) zad) zae))) (zak (i:=2) sc__law_of_rounds.nd rfl (Or.inr rfl))
    (zaf (zb9 (zaP (zaa (zai zff (zaW (zaa zad zae)) (zaT zau (pv 1) (zai zaJ (pv 2) zad) (fun _ _=>rfl))) (zaa (zaT zau (pv 1) (zai zaJ (pv 2) zad) (fun _ _=>rfl)) zae))) (zbH (i:=3) (j:=4) rfl sc__law_of_rounds.nd rfl rfl (Or.inr rfl) (Or.inr rfl) (Or.inl rfl) (Or.inl rfl)))
    (zaf (zas (i:=5) sc__law_of_rounds.nd rfl (Or.inl rfl) (zao (zcu rfl) (by rfl) T.n_max boot_max (zaa (zao zaD (by rfl) T.n_len PySem.boot_len (zaa (pv 3) zae)) (zaa (zao zaD (by rfl) T.n_len PySem.boot_len (zaa (pv 4) zae)) zae))))
    (zaf (zbZ (zeM PySem.F.plainAttrs_list PySem.F.slot_list_extend PySem.F.type_list_extend zfe (pv 3) (zaa (zai zei (zaW (zaa zad zae)) (zai zaJ (pv 5) (zao zaD (by rfl) T.n_len PySem.boot_len (zaa (pv 3) zae)))) zae)))
    (zaf (zas (i:=4) sc__law_of_rounds.nd rfl (Or.inr rfl) (zai zff (pv 4) (zai zei (zaW (zaa zad zae)) (zai zaJ (pv 5) (zao zaD (by rfl) T.n_len PySem.boot_len (zaa (pv 4) zae))))))
    (zaj (zbZ (zeM PySem.F.plainAttrs_list PySem.F.slot_list_append PySem.F.type_list_append zbh (pv 1) (zaa (zcx (N':=["_law_k", "_law_n", "_law_one", "_law_other"]) (n:=1) (ix:=[2,3,4]) rfl (CompScope.of (sc:=zag zar) (N:=["_law_many", "_law_none", "_law_n", "_law_one", "_law_other", "_law_size", "_law_rows", "_law_stays", "_law_k", "_law_number"]) (by decide+kernel) rfl rfl) (zat rfl T.n_range (zaa (pv 5) zae)) (fun _ _ _ _ _=>⟨(zak (i:=0) (show (["_law_k", "_law_n", "_law_one", "_law_other"]:List Str).Nodup by decide+kernel) rfl (Or.inl rfl)),zaX,(zai zaV (zai zaJ (pv 1) zad) (zai zal (zaT (zen K rfl) (pv 2) (pv 0) (fun _ _=>rfl)) (zaT (zen K rfl) (pv 3) (pv 0) (fun _ _=>rfl))))⟩)) zae)))))))))
   (zaf (zej (i:=6) rfl sc__law_of_rounds.nd rfl rfl (N':=["_law_k", "_law_many"]) (n:=1) (ix:=[0]) rfl (CompScope.of (sc:=zag zar) (N:=["_law_many", "_law_none", "_law_n", "_law_one", "_law_other", "_law_size", "_law_rows", "_law_stays", "_law_k", "_law_number"]) (by decide+kernel) rfl rfl) (zat rfl T.n_range (zaa (zai zal (pv 0) zad) zae)) (fun _ _ _ _ _=>⟨(zak (i:=0) (show (["_law_k", "_law_many"]:List Str).Nodup by decide+kernel) rfl (Or.inl rfl)),zaX,(zai zei (zaW (zaa zad zae)) (zai zal (pv 1) zad))⟩))
   (zaf (zaS PassesOwn.never rfl (zat rfl T.n_range (zaa (zai zal (pv 0) zad) zae)) (zak (i:=7) sc__law_of_rounds.nd rfl (Or.inl rfl))
    (zaj (zaS PassesOwn.never rfl (zbR rfl T.n_enumerate (zaa (zaT zau (pv 1) (zai zaJ (pv 0) (pv 7)) (fun _ _=>rfl)) zae)) (zbH (i:=8) (j:=9) rfl sc__law_of_rounds.nd rfl rfl (Or.inl rfl) (Or.inl rfl) (Or.inl rfl) (Or.inl rfl))
     (zaj (zcs (za8 zfZ (pv 9) zad (za1 _))
      (zaj (zb9 (zai zaV (zaL C_law_ways (hr.mono (by decide)) rfl (zaa (pv 0) (zaa (pv 7) zae))) (pv 9)) (zcO (zaT zau (pv 6) (zai zal (pv 8) (pv 7)) (fun _ _=>rfl)) (pv 7) zbz)))
      zbd)))))
   (zaj (zaC (pv 6)))))))⟩
set_option maxHeartbeats 8000000 in
theorem zb8 {f:Addr}{fd:FuncData}(F:Fun K "_law_of_rounds" "_law_of_rounds" zar f fd)(T:Top mg)(C_law_ways:Cal P w K mg base 1 "_law_ways" ["_law_many", "_law_number"] zdI):FnOk P w K mg base CX0 2 f fd ["_law_many"] (za3 rndT 16):=by
 refine F.ok sc__law_of_rounds (fun vs H Q E h=> ?_) (fun cdv A outer s H vs Q E hr h=> ?_)
 ·obtain ⟨n,rfl,_⟩:=h
  rfl
 ·obtain ⟨m,rfl,hm,k⟩:=h
  refine⟨_,(ziB hr T C_law_ways).2, ?_⟩
  refine⟨by show 1<=sizeLine;decide,fun l1 hl1=>⟨by show 1<=sizeLine;decide,fun l2 hl2=>⟨by show 2<=sizeLine;decide,fun L hL=> ?_⟩⟩⟩
  have g1:=zac (o:=.lst [.int 1]) hl1
  have g2:=zac (o:=.lst [.int 0]) hl2
  have g3:=zac (o:=.lst [.ref l1,.ref l2]) hL
  have hL0:H L=none:=(g1.trans g2).free hL
  have hA:LsF (upd (upd (upd H l1 (.lst [.int 1])) l2 (.lst [.int 0])) L (.lst [.ref l1,.ref l2])) [l1,l2] ((List.range 2).map nnZ):=⟨rfl,fun i z e=>by
   match i,e with
   |0,e=>cases e;exact g3 _ _ (g2 _ _ zab)
   |1,e=>cases e;exact g3 _ _ zab
   |i+2,e=>cases e⟩
  have hLn:L∉[l1,l2]:=fun h=>by
   rcases List.mem_cons.mp h with e|h
   ·rw[e,g2 _ _ zab] at hL;cases hL
   ·rw[List.mem_singleton.mp h,zab] at hL;cases hL
  have hGL:(upd (upd (upd H l1 (.lst [.int 1])) l2 (.lst [.int 0])) L (.lst [.ref l1,.ref l2])) L=some (.lst ([l1,l2].map V.ref)):=zab
  have s0:=(g1.trans g2).trans g3
  generalize (upd (upd (upd H l1 (.lst [.int 1])) l2 (.lst [.int 0])) L (.lst [.ref l1,.ref l2]))=G0 at hA hGL s0 ⊢
  refine⟨_,rfl,_,_,rfl,rfl,_,_,rfl,⟨by (first|lia|omega),by (first|lia|omega),by (first|lia|omega),by (first|lia|omega)⟩, ?_⟩
  rw[show ((m:Int)+1-2).toNat=m-1 by (first|lia|omega)]
  refine zaI (fun i σ G=>∃(c2 c3 c4 c5:Option V) (zs:List Addr),σ=[some (.int m),some (.ref L),c2,c3,c4,c5,none,none,none,none]/\Same H G/\G L=some (.lst (zs.map V.ref))/\LsF G zs ((List.range (i+2)).map nnZ)/\L∉zs) ?_ ?_ ?_
  ·exact⟨none,none,none,none,[l1,l2],rfl,s0,hGL,hA,hLn⟩
  ·rintro i σ G hi ⟨c2,c3,c4,c5,zs,rfl,sG,hGL,hA,hLn⟩
   obtain⟨z0,_,a0,hz0⟩:=hA.get (i:=i) (by simp)
   obtain⟨z1,_,a1,hz1⟩:=hA.get (i:=i+1) (by simp)
   rw[zcp nnZ [] (by (first|lia|omega))] at hz0 hz1
   have la:=zcG i
   have lb:=zcG (i+1)
   have eN:=zhl i
   have eI0:(2:Int)+(i:Int)-2=(i:Int):=by (first|lia|omega)
   have eI1:(2:Int)+(i:Int)-1=((i+1:Nat):Int):=by (first|lia|omega)
   refine⟨by show 1<=sizeLine;decide,fun u1 hu1=> ?_⟩
   have k1:=zac (o:=.lst [.int 0]) hu1
   refine⟨_,rfl,_,rfl,_,_,rfl,rfl,L,_,_,_,rfl,rfl,SqL.of (k1 _ _ hGL),by rw[eI0];exact a0, ?_⟩
   refine⟨u1,z0,_,_,rfl,rfl,zab,k1 _ _ hz0,by show 1+((nnZ i).map V.int).length<=sizeLine;rw[zaz];exact Nat.le_trans (show 1+(nnZ i).length<=100 by (first|lia|omega)) (by decide),fun p1 hp1=> ?_⟩
   have k2:=zac (o:=.lst ([V.int 0]++(nnZ i).map V.int)) hp1
   have hp1v:(upd (upd G u1 (.lst [.int 0])) p1 (.lst ([V.int 0]++(nnZ i).map V.int))) p1=some (.lst ((0::nnZ i).map V.int)):=zab
   have k12:=k1.trans k2
   have hGp1:G p1=none:=k1.free hp1
   generalize (upd (upd G u1 (.lst [.int 0])) p1 (.lst ([V.int 0]++(nnZ i).map V.int)))=G1 at hp1v k12 ⊢
   refine⟨_,rfl,_,rfl,_,_,rfl,rfl,L,_,_,_,rfl,rfl,SqL.of (k12 _ _ hGL),by rw[eI1];exact a1, ?_⟩
   refine⟨by show 2<=sizeLine;decide,fun t ht=> ?_⟩
   have k3:=zac (o:=.tup [.ref p1,.ref z1]) ht
   refine⟨t,_,rfl,SqT.of zab,rfl,_,_,rfl,_,_,rfl,rfl, ?_⟩
   have hp1t:=k3 _ _ hp1v
   have hz1t:=k3 _ _ (k12 _ _ hz1)
   have k123:=k12.trans k3
   have hGt:G t=none:=k12.free ht
   generalize (upd G1 t (.tup [.ref p1,.ref z1]))=G2 at hp1t hz1t k123 ⊢
   refine⟨_,rfl,p1,_,rfl,.inl (SqL.of hp1t),_,rfl,z1,_,rfl,.inl (SqL.of hz1t), ?_⟩
   rw[zaz,zaz]
   generalize hA0:(0::nnZ i)=one at hp1t eN
   generalize hB0:nnZ (i+1)=oth at hz1t lb eN
   have lone:one.length=(nnZ i).length+1:=by rw[<-hA0];rfl
   have esz:(if ((oth.length:Nat):Int)>((one.length:Nat):Int) then ((oth.length:Nat):Int) else ((one.length:Nat):Int))=((max one.length oth.length:Nat):Int):=by split<;>(first|lia|omega)
   refine⟨_,_,rfl, ?_⟩
   rw[esz]
   generalize hsz:max one.length oth.length=sz
   have sz1:one.length<=sz:=by (first|lia|omega)
   have sz2:oth.length<=sz:=by (first|lia|omega)
   have sz3:sz<=20:=by (first|lia|omega)
   refine⟨_,rfl,.inl ⟨rfl,_,SqL.of hp1t⟩,by show 1<=sizeLine;decide,fun u2 hu2=> ?_⟩
   have k4:=zac (o:=.lst [.int 0]) hu2
   refine⟨_,rfl,_,rfl,p1,_,rfl,.inl (SqL.of (k4 _ _ hp1t)), ?_⟩
   rw[zaz]
   refine⟨_,_,rfl,rfl,u2,_,_,rfl,rfl,zab,by (first|lia|omega),by (first|lia|omega), ?_,fun r1 hr1=> ?_⟩
   ·show 1*_<=sizeLine
    exact Nat.le_trans (show 1*((sz:Int)-(one.length:Nat)).toNat<=100 by (first|lia|omega)) (by decide)
   have k5:=zac (o:=.lst (List.replicate ((sz:Int)-(one.length:Nat)).toNat [V.int 0]).flatten) hr1
   have hr1v:(upd (upd G2 u2 (.lst [.int 0])) r1 (.lst (List.replicate ((sz:Int)-(one.length:Nat)).toNat [V.int 0]).flatten)) r1=some (.lst ((List.replicate (sz-one.length) (0:Int)).map V.int)):=by
    rw[zab,zbX,show ((sz:Int)-(one.length:Nat)).toNat=sz-one.length by (first|lia|omega)]
   have k45:=k4.trans k5
   generalize (upd (upd G2 u2 (.lst [.int 0])) r1 (.lst (List.replicate ((sz:Int)-(one.length:Nat)).toNat [V.int 0]).flatten))=G3 at hr1v k45 ⊢
   have hp1q:=k45 _ _ hp1t
   have hz1q:=k45 _ _ hz1t
   have hpz:z1≠p1:=fun e=>by rw[e] at hz1;rw[hz1] at hGp1;cases hGp1
   refine⟨p1,r1,_,_,rfl,rfl,hp1q,hr1v,by rw[zaz,zaz,List.length_replicate];exact Nat.le_trans (show one.length+(sz-one.length)<=100 by (first|lia|omega)) (by decide), ?_⟩
   have hp1w:(upd G3 p1 (.lst (one.map V.int++(List.replicate (sz-one.length) (0:Int)).map V.int))) p1=some (.lst ((one++List.replicate (sz-one.length) 0).map V.int)):=by
    rw[zab,List.map_append]
   have hz1w:(upd G3 p1 (.lst (one.map V.int++(List.replicate (sz-one.length) (0:Int)).map V.int))) z1=some (.lst (oth.map V.int)):=by
    rw[zah hpz];exact hz1q
   have k6:Same G (upd G3 p1 (.lst (one.map V.int++(List.replicate (sz-one.length) (0:Int)).map V.int))):=zan (k123.trans k45) hGp1
   generalize (upd G3 p1 (.lst (one.map V.int++(List.replicate (sz-one.length) (0:Int)).map V.int)))=G4 at hp1w hz1w k6 ⊢
   refine⟨_,rfl,by show 1<=sizeLine;decide,fun u3 hu3=> ?_⟩
   have k7:=zac (o:=.lst [.int 0]) hu3
   refine⟨_,rfl,_,rfl,z1,_,rfl,.inl (SqL.of (k7 _ _ hz1w)), ?_⟩
   rw[zaz]
   refine⟨_,_,rfl,rfl,u3,_,_,rfl,rfl,zab,by (first|lia|omega),by (first|lia|omega), ?_,fun r2 hr2=> ?_⟩
   ·show 1*_<=sizeLine
    exact Nat.le_trans (show 1*((sz:Int)-(oth.length:Nat)).toNat<=100 by (first|lia|omega)) (by decide)
   have k8:=zac (o:=.lst (List.replicate ((sz:Int)-(oth.length:Nat)).toNat [V.int 0]).flatten) hr2
   have hr2v:(upd (upd G4 u3 (.lst [.int 0])) r2 (.lst (List.replicate ((sz:Int)-(oth.length:Nat)).toNat [V.int 0]).flatten)) r2=some (.lst ((List.replicate (sz-oth.length) (0:Int)).map V.int)):=by
    rw[zab,zbX,show ((sz:Int)-(oth.length:Nat)).toNat=sz-oth.length by (first|lia|omega)]
   have k78:=k7.trans k8
   generalize (upd (upd G4 u3 (.lst [.int 0])) r2 (.lst (List.replicate ((sz:Int)-(oth.length:Nat)).toNat [V.int 0]).flatten))=G5 at hr2v k78 ⊢
   refine⟨z1,r2,_,_,rfl,rfl,k78 _ _ hz1w,hr2v,by rw[zaz,zaz,List.length_replicate];exact Nat.le_trans (show oth.length+(sz-oth.length)<=100 by (first|lia|omega)) (by decide),fun q1 hq1=> ?_⟩
   have k9:=zac (o:=.lst (oth.map V.int++(List.replicate (sz-oth.length) (0:Int)).map V.int)) hq1
   have hq1v:(upd G5 q1 (.lst (oth.map V.int++(List.replicate (sz-oth.length) (0:Int)).map V.int))) q1=some (.lst ((oth++List.replicate (sz-oth.length) 0).map V.int)):=by
    rw[zab,List.map_append]
   have k10:=(k6.trans k78).trans k9
   have hp1x:=k9 _ _ (k78 _ _ hp1w)
   generalize (upd G5 q1 (.lst (oth.map V.int++(List.replicate (sz-oth.length) (0:Int)).map V.int)))=G6 at hq1v k10 hp1x ⊢
   refine⟨_,rfl,.inl ⟨rfl,_,SqL.of (k10 _ _ hGL)⟩,_,rfl,_,rfl,by (first|lia|omega),by (first|lia|omega), ?_⟩
   rw[Int.toNat_natCast]
   refine zda (n:=sz) (zaF (lo:=0) (n:=sz)) (fun j=>((i:Int)+1)*(one.getD j.toNat 0+oth.getD j.toNat 0)) (by (first|lia|omega)) (fun _ _=>trivial) (fun j j0 j1 G7 s7 Q7 hQ7=> ?_) fun acc G7 hacc s7 hG7=> ?_
   ·have ea:atI ((one++List.replicate (sz-one.length) 0).map V.int) j=some (.int ((one++List.replicate (sz-one.length) 0).getD j.toNat 0)):=zc1 (by (first|lia|omega)) (by rw[List.length_append,List.length_replicate];(first|lia|omega))
    have eb:atI ((oth++List.replicate (sz-oth.length) 0).map V.int) j=some (.int ((oth++List.replicate (sz-oth.length) 0).getD j.toNat 0)):=zc1 (by (first|lia|omega)) (by rw[List.length_append,List.length_replicate];(first|lia|omega))
    rw[padD] at ea eb
    refine⟨_,rfl,_,_,rfl,rfl,_,rfl,_,rfl,p1,_,_,_,rfl,rfl,SqL.of (s7 _ _ hp1x),ea,_,rfl,_,rfl,q1,_,_,_,rfl,rfl,SqL.of (s7 _ _ hq1v),eb,_,_,rfl,rfl,_,_,rfl,rfl,.inl ⟨by (first|lia|omega),by (first|lia|omega)⟩, ?_⟩
    rw[show (2:Int)+(i:Int)-1=(i:Int)+1 by (first|lia|omega)]
    exact hQ7 _ (Same.refl _)
   ·refine ⟨L,_,_,rfl,rfl,s7 _ _ (k10 _ _ hGL),zba (by rw[zbA,hA.len];simp;(first|lia|omega)), ?_⟩
    have hLacc:acc≠L:=fun e=>by rw[e] at hacc;rw[k10 _ _ hGL] at hacc;cases hacc
    have eacc:(num0 sz).map (fun j=>((i:Int)+1)*(one.getD j.toNat 0+oth.getD j.toNat 0))=nnZ (i+2):=by
     rw[eN,<-lone,hsz]
     unfold num0
     rw[List.map_map]
     refine List.map_congr_left fun k _=> ?_
     show ((i:Int)+1)*(one.getD (k:Int).toNat 0+oth.getD (k:Int).toNat 0)=_
     rw[Int.toNat_natCast]
    refine⟨_,_,_,_,zs++[acc],rfl,zan ((sG.trans k10).trans s7) hL0,by rw[zab,List.map_append];rfl, ?_, ?_⟩
    ·rw [show i+1+2=i+2+1 from rfl,List.range_succ,List.map_append]
     rw[eacc] at hG7
     refine LsF.off (LsF.snoc ((hA.same k10).same s7) hG7) ?_
     intro h
     rcases List.mem_append.mp h with h|h
     ·exact hLn h
     ·exact hLacc (List.mem_singleton.mp h).symm
    ·intro h
     rcases List.mem_append.mp h with h|h
     ·exact hLn h
     ·exact hLacc (List.mem_singleton.mp h).symm
  ·rintro σ G ⟨c2,c3,c4,c5,zs,rfl,sG,hGL,hA,hLn⟩
   refine⟨_,rfl,_,_,rfl,rfl,_,rfl,by (first|lia|omega),by (first|lia|omega), ?_⟩
   rw[show ((m:Int)+1).toNat=m+1 by (first|lia|omega)]
   refine zcH (zaF (lo:=0) (n:=m+1)) (zba (by rw[zaq];(first|lia|omega))) (fun _=>(List.replicate (m+1) (0:Int)).map V.int) (fun _ _=>trivial) (fun i x G1 hx sG1 QT q=> ?_) fun L2 ws G1 hL2 s1 hGL2 hwl hwd hws=> ?_
   ·refine ⟨by show 1<=sizeLine;decide,fun u1 hu1=> ?_⟩
    have k1:=zac (o:=.lst [.int 0]) hu1
    refine⟨_,rfl,_,_,rfl,rfl,u1,_,_,rfl,rfl,zab,by (first|lia|omega),by (first|lia|omega), ?_,fun r1 hr1=> ?_⟩
    ·show 1*_<=sizeLine
     exact Nat.le_trans (show 1*((m:Int)+1).toNat<=100 by (first|lia|omega)) (by decide)
    refine q r1 _ (k1.free hr1) ?_ (k1.trans (zac hr1))
    rw[zab,zbX,show ((m:Int)+1).toNat=m+1 by (first|lia|omega)]
   rw[zaq] at hwl
   have A0:LstsAt G1 ws (List.replicate (m+1) (List.replicate (m+1) 0)):=⟨hwd,by rw[hwl,List.length_replicate],fun i z e=>by
    have hi:=(List.getElem?_eq_some_iff.mp e).1
    rw[(hws i z e).1,List.getD_eq_getElem?_getD,List.getElem?_replicate,if_pos (by (first|lia|omega))]
    rfl⟩
   have hwH:∀z∈ws,H z=none/\z≠L2/\z≠L/\z∉zs:=fun z hz=>by
    obtain⟨i,hi⟩:=List.getElem?_of_mem hz
    obtain⟨q1,q2,q3⟩:=hws i z hi
    refine⟨sG.free q2,q3,(fun e=>by rw[e,hGL] at q2;cases q2),fun e=> ?_⟩
    obtain⟨r,hr⟩:=hA.there e
    rw[q2] at hr
    cases hr
   have hL2H:H L2=none:=sG.free hL2
   have hLL2:L≠L2:=fun e=>by rw[e,hL2] at hGL;cases hGL
   refine⟨_,rfl,_,_,rfl,rfl,_,rfl,by (first|lia|omega),by (first|lia|omega), ?_⟩
   rw[show ((m:Int)+1).toNat=m+1 by (first|lia|omega)]
   refine zaI (fun s σ G=>∃(c7 c8 c9:Option V),σ=[some (.int m),some (.ref L),c2,c3,c4,c5,some (.ref L2),c7,c8,c9]/\Same H G/\G L=some (.lst (zs.map V.ref))/\LsF G zs ((List.range (m-1+2)).map nnZ)/\G L2=some (.lst (ws.map V.ref))/\LstsAt G ws ((List.range s).foldl (rndS m) (List.replicate (m+1) (List.replicate (m+1) 0)))/\DimR m ((List.range s).foldl (rndS m) (List.replicate (m+1) (List.replicate (m+1) 0)))) ?_ ?_ ?_
   ·exact⟨_,_,_,rfl,sG.trans s1,s1 _ _ hGL,hA.same s1,hGL2,A0,DimR.ini m⟩
   ·rintro s σ G2 hs ⟨c7,c8,c9,rfl,sG2,hGL',hA',hGL2',hT,hD⟩
    obtain⟨z0,hz0m,a0,hz0⟩:=hA'.get (i:=m-s) (by simp;(first|lia|omega))
    rw[zcp nnZ [] (by (first|lia|omega))] at hz0
    have hz0mem:=List.mem_of_getElem? hz0m
    have eI:(m:Int)-(0+(s:Int))=((m-s:Nat):Int):=by (first|lia|omega)
    refine⟨_,rfl,_,rfl,_,rfl,_,_,rfl,rfl,L,_,_,_,rfl,rfl,SqL.of hGL',by rw[eI];exact a0,z0,rfl,⟨_,SqL.of hz0⟩, ?_⟩
    generalize hR0:(List.range s).foldl (rndS m) (List.replicate (m+1) (List.replicate (m+1) 0))=R0 at hT hD
    have ln:=zcG (m-s)
    refine zbv (K:=K) (a:=z0) (xs:=(nnZ (m-s)).map V.int) (fun q σ G=>∃(c8 c9:Option V),σ=[some (.int m),some (.ref L),c2,c3,c4,c5,some (.ref L2),some (.int (0+(s:Int))),c8,c9]/\Same H G/\G L=some (.lst (zs.map V.ref))/\LsF G zs ((List.range (m-1+2)).map nnZ)/\G L2=some (.lst (ws.map V.ref))/\LstsAt G ws ((List.range q).foldl (rndK m s) R0)/\DimR m ((List.range q).foldl (rndK m s) R0)/\G z0=some (.lst ((nnZ (m-s)).map V.int))) ?_ ?_ ?_ ?_
    ·exact⟨_,_,rfl,sG2,hGL',hA',hGL2',hT,hD,hz0⟩
    ·rintro q σ G3 _ ⟨c8,c9,rfl,_,_,_,_,_,_,h⟩
     exact SqL.of h
    ·rintro q x t σ G3 hx ⟨c8,c9,rfl,sG3,hGL3,hA3,hGL23,hT3,hD3,hz03⟩ ht
     rw[List.getElem?_map] at hx
     obtain⟨nu,hnu,rfl⟩:=Option.map_eq_some_iff.mp hx
     have hq:=(List.getElem?_eq_some_iff.mp hnu).1
     have enu:(nnZ (m-s)).getD q 0=nu:=by rw[List.getD_eq_getElem?_getD,hnu];rfl
     have kt:=zac (o:=.tup [.int (q:Int),.int nu]) ht
     refine⟨t,_,rfl,SqT.of zab,rfl,_,_,rfl,_,_,rfl,rfl, ?_⟩
     have hbig:=zhk (n:=m-s) (j:=q) (by (first|lia|omega))
     rw[enu] at hbig
     rw[zbc]
     generalize (List.range q).foldl (rndK m s) R0=R3 at hT3 hD3
     have hT4:=hT3.same kt
     have hGL4:=kt _ _ hGL23
     unfold rndK
     rw[enu]
     refine⟨_,rfl,_,_,rfl,rfl,_,rfl, ?_⟩
     by_cases hpos:nu>0
     ·rw [decide_eq_true hpos,if_pos hpos]
      refine iteT ?_
      have hks:q+s<m+1:=by (first|lia|omega)
      obtain⟨z2,hz2m,a2,hz2⟩:=hT4.lsF.get (i:=q+s) (by rw[hD3.1];exact hks)
      have hz2mem:=List.mem_of_getElem? hz2m
      obtain⟨w1,w2,w3,w4⟩:=hwH z2 hz2mem
      have eks:(q:Int)+(0+(s:Int))=((q+s:Nat):Int):=by (first|lia|omega)
      have hrow:=hD3.2 (q+s) hks
      refine⟨_,rfl,_,rfl,m,s,by rw[Int.zero_add],by (first|lia|omega),by (first|lia|omega),_,rfl,_,_,rfl,rfl,.inr hbig, ?_⟩
      refine⟨_,rfl,_,rfl,_,rfl,_,_,rfl,rfl,L2,_,_,_,rfl,rfl,SqL.of hGL4,by rw[eks];exact a2,_,rfl,z2,_,_,s,rfl,rfl,hz2, ?_, ?_⟩
      ·rw [zaz,hrow,Int.zero_add]
       unfold ixN
       rw[if_pos (by (first|lia|omega)),if_pos (by (first|lia|omega))]
       simp
      have hz02:z0≠z2:=fun e=>w4 (by rw[<-e];exact hz0mem)
      have eset:((R3.getD (q+s) []).map V.int).set s (.int (wyQ (m:Int) s*nu))=((R3.getD (q+s) []).set s (wyQ (m:Int) s*nu)).map V.int:=by rw[List.map_set]
      rw[eset]
      refine⟨_,_,rfl,zan (sG3.trans kt) w1,by rw[zah (Ne.symm w3)];exact kt _ _ hGL3,(hA3.same kt).off w4,by rw[zah (Ne.symm w2)];exact hGL4,hT4.putV hz2m _,hD3.set2 ..,by rw[zah hz02];exact kt _ _ hz03⟩
     ·rw [decide_eq_false hpos,if_neg hpos]
      refine iteF ?_
      exact⟨_,_,rfl,sG3.trans kt,kt _ _ hGL3,hA3.same kt,hGL4,hT4,hD3,kt _ _ hz03⟩
    ·rintro σ G3 ⟨c8,c9,rfl,sG3,hGL3,hA3,hGL23,hT3,hD3,hz03⟩
     rw[zaz] at hT3 hD3
     refine⟨_,_,_,rfl,sG3,hGL3,hA3,hGL23, ?_, ?_⟩
     ·rw[zbc,hR0];exact hT3
     ·rw[zbc,hR0];exact hD3
   ·rintro σ G3 ⟨c7,c8,c9,rfl,sG3,hGL3,hA3,hGL23,hT3,hD3⟩
    exact⟨_,rfl,k L2 ws G3 sG3 hGL23 hT3.lsF⟩
end
end K19
namespace L2
open PySem PySem.Spec PyProof.Rows
theorem zh5 {i l:Nat}(hl:l<i+1)(row:List Int):rsL (i+1) (rsA i) row l=(List.range (rsR l).length).foldl (rsK (i+1) l (rsR l) (rsR (i-l))) row:=by
 unfold rsL
 rw[zcW (by (first|lia|omega)),show i+1-1-l=i-l by (first|lia|omega),zcW (by (first|lia|omega))]
theorem zgs (i:Nat):rsA (i+1)=rsA i++[rsN (i+1) (rsA i)]:=rfl
end L2
namespace K19
open PySem PySem.Spec PyProof.Rows L2
noncomputable abbrev zaK:Stmt:=top 28
section
variable {P:Program}{w:World}{K:PySem.W.Frag}{mg:Str->Option Value}{base:Heap}
theorem sc__law_of_rises:FnScope ["_law_many", "_law_found", "_law_n", "_law_row", "_law_left", "_law_k", "_law_one", "_law_j", "_law_other", "_law_at"] ["_law_many"] (zag zaK):=⟨rfl,rfl,rfl,by decide+kernel,rfl,by decide+kernel,by decide+kernel⟩
set_option maxHeartbeats 16000000 in
noncomputable def rsTT {f:Addr}{cdv:Value}{A:Around}{outer:List Env}{s:Shared}{H:Hp}{E:XK}(hr:Room 1 (A.deeper (envOfC "_law_of_rises" (zag zaK) s.heap.objs.size f cdv)))(T:Top mg)(C_law_ways:Cal P w K mg base 1 "_law_ways" ["_law_many", "_law_number"] zdI):{t:TS//PSs (cxOf CX0 P w K mg base ["_law_many", "_law_found", "_law_n", "_law_row", "_law_left", "_law_k", "_law_one", "_law_j", "_law_other", "_law_at"] "_law_of_rises" (zag zaK) f cdv A outer s H E).nox (zaO zaK) t}:=
 ⟨_, (zaf (zas (i:=1) sc__law_of_rises.nd rfl (Or.inl rfl) (zaW (zaa (zaW (zaa zad zae)) zae)))
   (zaf (zaS PassesOwn.never rfl (zbg rfl T.n_range (zaa zad (zaa (zai zal (pv 0) zad) zae))) (zak (i:=2) sc__law_of_rises.nd rfl (Or.inl rfl))
    (zaf (zas (i:=3) sc__law_of_rises.nd rfl (Or.inl rfl) (zai zei (zaW (zaa zad zae)) (pv 2)))
    (zaf (zaS PassesOwn.never rfl (zat rfl T.n_range (zaa (pv 2) zae)) (zak (i:=4) sc__law_of_rises.nd rfl (Or.inl rfl))
     (zaj (zaS PassesOwn.never rfl (zbR rfl T.n_enumerate (zaa (zaT zau (pv 1) (pv 4) (fun _ _=>rfl)) zae)) (zbH (i:=5) (j:=6) rfl sc__law_of_rises.nd rfl rfl (Or.inl rfl) (Or.inl rfl) (Or.inl rfl) (Or.inl rfl))
      (zaj (zaS PassesOwn.never rfl (zbR rfl T.n_enumerate (zaa (zaT zau (pv 1) (zai zaJ (zai zaJ (pv 2) zad) (pv 4)) (fun _ _=>rfl)) zae)) (zbH (i:=7) (j:=8) rfl sc__law_of_rises.nd rfl rfl (Or.inl rfl) (Or.inl rfl) (Or.inl rfl) (Or.inl rfl))
       (zaj (zcs (za8 zfZ (zai zaV (pv 6) (pv 8)) zad (za1 _))
        (zaf (zas (i:=9) sc__law_of_rises.nd rfl (Or.inl rfl) (zai zal (zai zal (pv 5) (pv 7)) (zaw zbO (by rfl) T.n_int boot_int (zaa (zb1 zfZ (pv 4) zad (za1 _)) zae))))
        (zaj (zb9 (zai zal (zaT zau (pv 3) (pv 9) (fun _ _=>rfl)) (zai zaV (zai zaV (zaL C_law_ways (hr.mono (by decide)) rfl (zaa (zai zaJ (pv 2) zad) (zaa (pv 4) zae))) (pv 6)) (pv 8))) (zcO (pv 3) (pv 9) zbz))))
        zbd)))))))
    (zaj (zbZ (zeM PySem.F.plainAttrs_list PySem.F.slot_list_append PySem.F.type_list_append zbh (pv 1) (zaa (pv 3) zae)))))))
   (zaj (zaC (pv 1)))))⟩
set_option maxHeartbeats 8000000 in
theorem zcl {f:Addr}{fd:FuncData}(F:Fun K "_law_of_rises" "_law_of_rises" zaK f fd)(T:Top mg)(C_law_ways:Cal P w K mg base 1 "_law_ways" ["_law_many", "_law_number"] zdI):FnOk P w K mg base CX0 2 f fd ["_law_many"] (za3 rsA 16):=by
 refine F.ok sc__law_of_rises (fun vs H Q E h=> ?_) (fun cdv A outer s H vs Q E hr h=> ?_)
 ·obtain ⟨n,rfl,_⟩:=h
  rfl
 ·obtain ⟨m,rfl,hm,k⟩:=h
  refine⟨_,(rsTT hr T C_law_ways).2, ?_⟩
  refine⟨by show 1<=sizeLine;decide,fun l1 hl1=>⟨by show 1<=sizeLine;decide,fun L hL=> ?_⟩⟩
  have g1:=zac (o:=.lst [.int 1]) hl1
  have g3:=zac (o:=.lst [.ref l1]) hL
  have hL0:H L=none:=g1.free hL
  have hA:LsF (upd (upd H l1 (.lst [.int 1])) L (.lst [.ref l1])) [l1] (rsA 0):=⟨rfl,fun i z e=>by
   match i,e with
   |0,e=>cases e;exact g3 _ _ zab
   |i+1,e=>cases e⟩
  have hLn:L∉[l1]:=fun h=>by
   rw[List.mem_singleton.mp h,zab] at hL;cases hL
  have hGL:(upd (upd H l1 (.lst [.int 1])) L (.lst [.ref l1])) L=some (.lst ([l1].map V.ref)):=zab
  have s0:=g1.trans g3
  generalize (upd (upd H l1 (.lst [.int 1])) L (.lst [.ref l1]))=G0 at hA hGL s0 ⊢
  refine⟨_,rfl,_,_,rfl,rfl,_,_,rfl,⟨by (first|lia|omega),by (first|lia|omega),by (first|lia|omega),by (first|lia|omega)⟩, ?_⟩
  rw[show ((m:Int)+1-1).toNat=m by (first|lia|omega)]
  refine zaI (fun i σ G=>∃(c2 c3 c4 c5 c6 c7 c8 c9:Option V) (zs:List Addr),σ=[some (.int m),some (.ref L),c2,c3,c4,c5,c6,c7,c8,c9]/\Same H G/\G L=some (.lst (zs.map V.ref))/\LsF G zs (rsA i)/\L∉zs) ?_ ?_ ?_
  ·exact⟨none,none,none,none,none,none,none,none,[l1],rfl,s0,hGL,hA,hLn⟩
  ·rintro i σ G hi ⟨c2,c3,c4,c5,c6,c7,c8,c9,zs,rfl,sG,hGL,hA,hLn⟩
   refine⟨by show 1<=sizeLine;decide,fun u1 hu1=> ?_⟩
   have k1:=zac (o:=.lst [.int 0]) hu1
   refine⟨_,rfl,u1,_,_,rfl,rfl,zab,by (first|lia|omega),by (first|lia|omega), ?_,fun p hp=> ?_⟩
   ·show 1*_<=sizeLine
    exact Nat.le_trans (show 1*((1:Int)+(i:Int)).toNat<=100 by (first|lia|omega)) (by decide)
   have k2:=zac (o:=.lst (List.replicate ((1:Int)+(i:Int)).toNat [V.int 0]).flatten) hp
   have hpv:(upd (upd G u1 (.lst [.int 0])) p (.lst (List.replicate ((1:Int)+(i:Int)).toNat [V.int 0]).flatten)) p=some (.lst ((List.replicate (i+1) (0:Int)).map V.int)):=by
    rw[zab,zbX,show ((1:Int)+(i:Int)).toNat=i+1 by (first|lia|omega)]
   have hGp:G p=none:=k1.free hp
   have k12:=k1.trans k2
   generalize (upd (upd G u1 (.lst [.int 0])) p (.lst (List.replicate ((1:Int)+(i:Int)).toNat [V.int 0]).flatten))=G1 at hpv k12 ⊢
   have hLp:L≠p:=fun e=>by rw[e,hGp] at hGL;cases hGL
   refine⟨_,rfl,_,rfl,by (first|lia|omega),by (first|lia|omega), ?_⟩
   rw[show ((1:Int)+(i:Int)).toNat=i+1 by (first|lia|omega)]
   refine zaI (fun l σ G'=>∃(c4 c5 c6 c7 c8 c9:Option V),σ=[some (.int m),some (.ref L),some (.int (1+(i:Int))),some (.ref p),c4,c5,c6,c7,c8,c9]/\Same G G'/\G' p=some (.lst (((List.range l).foldl (rsL (i+1) (rsA i)) (List.replicate (i+1) 0)).map V.int))) ?_ ?_ ?_
   ·exact⟨_,_,_,_,_,_,rfl,k12,hpv⟩
   ·rintro l σ G2 hl ⟨c4,c5,c6,c7,c8,c9,rfl,s2,hp2⟩
    obtain⟨z0,_,a0,hz0⟩:=hA.get (i:=l) (by rw[zbf];(first|lia|omega))
    obtain⟨z1,_,a1,hz1⟩:=hA.get (i:=i-l) (by rw[zbf];(first|lia|omega))
    rw[zcW (by (first|lia|omega))] at hz0 hz1
    have ll:=zdj l
    have l2:=zdj (i-l)
    refine⟨_,rfl,_,rfl,L,_,_,_,rfl,rfl,SqL.of (s2 _ _ hGL),by rw[Int.zero_add];exact a0,z0,rfl,⟨_,SqL.of (s2 _ _ hz0)⟩, ?_⟩
    rw[zbc,zh5 hl]
    have hrl:((List.range l).foldl (rsL (i+1) (rsA i)) (List.replicate (i+1) 0)).length=i+1:=by rw[zbq (fun r k=>zfN ..),List.length_replicate]
    generalize (List.range l).foldl (rsL (i+1) (rsA i)) (List.replicate (i+1) 0)=r0 at hp2 hrl
    refine zbv (K:=K) (a:=z0) (xs:=(rsR l).map V.int) (fun q σ G'=>∃(c5 c6 c7 c8 c9:Option V),σ=[some (.int m),some (.ref L),some (.int (1+(i:Int))),some (.ref p),some (.int (0+(l:Int))),c5,c6,c7,c8,c9]/\Same G G'/\G' p=some (.lst (((List.range q).foldl (rsK (i+1) l (rsR l) (rsR (i-l))) r0).map V.int))) ?_ ?_ ?_ ?_
    ·exact⟨_,_,_,_,_,rfl,s2,hp2⟩
    ·rintro q σ G3 _ ⟨c5,c6,c7,c8,c9,rfl,s3,_⟩
     exact SqL.of (s3 _ _ hz0)
    ·rintro q x t σ G3 hx ⟨c5,c6,c7,c8,c9,rfl,s3,hp3⟩ ht
     rw[List.getElem?_map] at hx
     obtain⟨one,hone,rfl⟩:=Option.map_eq_some_iff.mp hx
     have hq:=(List.getElem?_eq_some_iff.mp hone).1
     have eone:(rsR l).getD q 0=one:=by rw[List.getD_eq_getElem?_getD,hone];rfl
     have kt:=zac (o:=.tup [.int (q:Int),.int one]) ht
     refine⟨t,_,rfl,SqT.of zab,rfl,_,_,rfl,_,_,rfl,rfl, ?_⟩
     have s4:=s3.trans kt
     have hp4:=kt _ _ hp3
     generalize (upd G3 t (.tup [.int (q:Int),.int one]))=G4 at s4 hp4 ⊢
     refine⟨_,rfl,_,rfl,_,_,rfl,rfl,_,rfl,_,_,rfl,rfl,L,_,_,_,rfl,rfl,SqL.of (s4 _ _ hGL),by rw[show (1:Int)+(i:Int)-1-(0+(l:Int))=((i-l:Nat):Int) by (first|lia|omega)];exact a1,z1,rfl,⟨_,SqL.of (s4 _ _ hz1)⟩, ?_⟩
     rw[zbc]
     have hr3:((List.range q).foldl (rsK (i+1) l (rsR l) (rsR (i-l))) r0).length=i+1:=by rw[zbq (fun r k=>zfM ..),hrl]
     generalize (List.range q).foldl (rsK (i+1) l (rsR l) (rsR (i-l))) r0=r3 at hp4 hr3
     unfold rsK
     rw[eone]
     refine zbv (K:=K) (a:=z1) (xs:=(rsR (i-l)).map V.int) (fun j σ G'=>∃(c7 c8 c9:Option V),σ=[some (.int m),some (.ref L),some (.int (1+(i:Int))),some (.ref p),some (.int (0+(l:Int))),some (.int (q:Int)),some (.int one),c7,c8,c9]/\Same G G'/\G' p=some (.lst (((List.range j).foldl (rsJ (i+1) l q one (rsR (i-l))) r3).map V.int))) ?_ ?_ ?_ ?_
     ·exact⟨_,_,_,rfl,s4,hp4⟩
     ·rintro j σ G5 _ ⟨c7,c8,c9,rfl,s5,_⟩
      exact SqL.of (s5 _ _ hz1)
     ·rintro j x t2 σ G5 hx ⟨c7,c8,c9,rfl,s5,hp5⟩ ht2
      rw[List.getElem?_map] at hx
      obtain⟨oth,hoth,rfl⟩:=Option.map_eq_some_iff.mp hx
      have hj:=(List.getElem?_eq_some_iff.mp hoth).1
      have eoth:(rsR (i-l)).getD j 0=oth:=by rw[List.getD_eq_getElem?_getD,hoth];rfl
      have kt2:=zac (o:=.tup [.int (j:Int),.int oth]) ht2
      refine⟨t2,_,rfl,SqT.of zab,rfl,_,_,rfl,_,_,rfl,rfl, ?_⟩
      have s6:=s5.trans kt2
      have hp6:=kt2 _ _ hp5
      generalize (upd G5 t2 (.tup [.int (j:Int),.int oth]))=G6 at s6 hp6 ⊢
      rw[zbc]
      have hr5:((List.range j).foldl (rsJ (i+1) l q one (rsR (i-l))) r3).length=i+1:=by rw[zbq (fun r k=>zfL ..),hr3]
      generalize (List.range j).foldl (rsJ (i+1) l q one (rsR (i-l))) r3=r5 at hp6 hr5
      unfold rsJ
      rw[eoth]
      have b1:=zd5 (n:=i-l) (j:=j) (by (first|lia|omega))
      have b2:=zd5 (n:=l) (j:=q) (by (first|lia|omega))
      have b3:=zfP (m:=i) (k:=l) (by (first|lia|omega)) (by (first|lia|omega))
      rw[eoth] at b1
      rw[eone] at b2
      refine⟨_,rfl,_,rfl,_,_,rfl,rfl,.inr b1,_,_,rfl,rfl,_,rfl, ?_⟩
      by_cases hpos:one*oth>0
      ·rw [decide_eq_true hpos,if_pos hpos]
       refine iteT ?_
       have eat:(q:Int)+(j:Int)+(if decide ((0:Int)+(l:Int)>0)=true then 1 else 0)=((q+j+(if 0<l then 1 else 0):Nat):Int):=by
        by_cases h0:0<l
        ·rw[if_pos h0];simp;(first|lia|omega)
        ·rw[if_neg h0];simp;(first|lia|omega)
       generalize hat:q+j+(if 0<l then 1 else 0)=at_ at eat
       have atl:at_<i+1:=by
        rw[<-hat]
        split<;>(first|lia|omega)
       have ixv:ixN (r5.map V.int).length ((at_:Nat):Int)=some at_:=by
        unfold ixN
        rw[zaz,hr5,if_pos (by (first|lia|omega)),if_pos (by (first|lia|omega))]
        simp
       have av:atI (r5.map V.int) ((at_:Nat):Int)=some (.int (r5.getD at_ 0)):=by
        have:=zc1 (ys:=r5) (i:=(at_:Int)) (by (first|lia|omega)) (by (first|lia|omega))
        rwa [Int.toNat_natCast] at this
       refine⟨_,rfl,_,rfl,_,_,rfl,rfl,_,rfl,_,_,rfl,rfl,.inr ⟨_,rfl,_,_,rfl,rfl, ?_⟩⟩
       dsimp only
       rw[eat]
       refine⟨_,rfl,_,rfl,p,_,_,_,rfl,rfl,SqL.of hp6,av, ?_⟩
       refine⟨_,rfl,_,_,rfl,rfl,_,rfl,i,l,by show [V.int ((1:Int)+(i:Int)-1),V.int (0+(l:Int))]=_;rw[show (1:Int)+(i:Int)-1=(i:Int) by (first|lia|omega),Int.zero_add],by (first|lia|omega),by (first|lia|omega),_,rfl,_,_,rfl,rfl,.inr b2,_,rfl,_,_,rfl,rfl,.inr b1,_,_,rfl,rfl, ?_⟩
       refine⟨_,rfl,_,rfl,p,_,_,at_,rfl,rfl,hp6,ixv, ?_⟩
       refine⟨_,_,_,rfl,zan s6 hGp, ?_⟩
       rw[zab,List.map_set,show ((i+1:Nat):Int)-1=(i:Int) by (first|lia|omega)]
      ·rw [decide_eq_false hpos,if_neg hpos]
       refine iteF ?_
       exact⟨_,_,_,rfl,s6,hp6⟩
     ·rintro σ G5 ⟨c7,c8,c9,rfl,s5,hp5⟩
      rw[zaz] at hp5
      exact⟨_,_,_,_,_,rfl,s5,hp5⟩
    ·rintro σ G3 ⟨c5,c6,c7,c8,c9,rfl,s3,hp3⟩
     rw[zaz] at hp3
     exact⟨_,_,_,_,_,_,rfl,s3,hp3⟩
   ·rintro σ G2 ⟨c4,c5,c6,c7,c8,c9,rfl,s2,hp2⟩
    have hA2:=hA.same s2
    have hrow:G2 p=some (.lst ((rsN (i+1) (rsA i)).map V.int)):=hp2
    refine⟨_,rfl,.inl ⟨rfl,_,SqL.of (s2 _ _ hGL)⟩,_,rfl,L,_,_,rfl,rfl,s2 _ _ hGL,zba (by rw[zbA,hA.len,zbf];(first|lia|omega)), ?_⟩
    have hn:L∉zs++[p]:=fun h=>by
     rcases List.mem_append.mp h with h|h
     ·exact hLn h
     ·exact hLp (List.mem_singleton.mp h)
    refine⟨_,_,_,_,_,_,_,_,zs++[p],rfl,zan (sG.trans s2) hL0,by rw[zab,List.map_append];rfl, ?_,hn⟩
    rw[zgs]
    exact (hA2.snoc hrow).off hn
  ·rintro σ G ⟨c2,c3,c4,c5,c6,c7,c8,c9,zs,rfl,sG,hGL,hA,hLn⟩
   exact⟨_,rfl,k L zs G sG hGL hA⟩
end
end K19
namespace L2
open PySem PySem.Spec PyProof.Rows
noncomputable def zhm (td:TE):TI:=fun σ H R=>td σ H fun x H1=>∃a kvs,x=.ref a/\Rd H1 a (.dT kvs)/\∀ob G,(G=H1∨(H1 a=some (.dT kvs)/\G=upd H1 a (.frz ob (.dT kvs))))->G a=some (.frz ob (.dT kvs))->R (Itx a ob) G
section
variable {X:Cx}
theorem zfQ {els:List Expr}{kx}{tp:Pos}{o:Expr}{td:TE}{apos cpos:Pos}(ho:PE X o td)(hbase:attributeBase o "items" X.env (eval o X.env)=eval o X.env:=by rfl)(hline:(apos.endLine==cpos.line)=true:=by rfl):
  PI X (.Tuple els kx tp) (.Call (.Attribute o "items" apos) [] [] cpos) (zhm td):=by
 intro pins s σ H R I h
 refine wpAny_Call_method0_late hbase hline (thn (ho pins s σ H _ I h) fun v s1 zq=> ?_)
 obtain⟨x,H1,I1,r1,a,kvs,ex,rd,q⟩:=zq
 subst ex
 cases (show v=Value.ref a from r1)
 rcases rd with hd|⟨ob,hd⟩
 ·have q1:=fun ob=>q ob _ (.inr ⟨hd,rfl⟩) zab
  obtain⟨t1,t2,t3⟩:=zeu I1 (.inr ⟨kvs,.inl hd⟩)
  refine⟨"dict",_,PySem.F.plainAttrs_dict,PySem.F.slot_dict_items,PySem.F.type_dict_items,t1,t2,Calls.callWith_builtin rfl (PySem.evalArgs_none ?_)⟩
  refine call_meetsIn PySem.F.slot_dict_items t1 PySem.F.entry_dict_items (PySem.F.args_dict_items_1 _) (zcD t3) ⟨t1, ?_⟩
  obtain⟨z,y,xs,rel,ob,es,ep,e1,c,e2,e3,_⟩:=(show ObjOk X.prog X.w H1 s1.heap a (.dT kvs) from I1.hok a _ hd)
  have I2:Inv X pins σ H1 {s1 with heap:=s1.heap.push {cls:=.type "dict_items",data:=.fields #[.ref a]}}:=I1.kept (t':=s1.toks) fun b o e=>Heap.get?_push_of_some _ e
  have e1':(s1.heap.push {cls:=.type "dict_items",data:=.fields #[.ref a]}).get? a=some ob:=Heap.get?_push_of_some _ e1
  refine zc7 (Heap.get?_push_size _ rfl) ⟨ob,e1',c,e2⟩ ?_
  have I3:=(I2.freeze hd e1').kept (t':=s1.toks) (h':=(s1.heap.push {cls:=.type "dict_items",data:=.fields #[.ref a]}).push {cls:=.type "dict_itemiterator",data:=.fields #[.none,.bool false,.ref a,.int 0 0,.int es.size 0,.int ep 0,.none,.none]}) fun b o e=>Heap.get?_push_of_some _ e
  refine⟨_,[_],_,_,_,rfl,I3,zb6 a _ ob es ep e2,⟨_,_,Heap.get?_push_size _ rfl⟩,fun b hb=> ?_,q1 ob⟩
  rw[List.mem_singleton.mp hb]
  exact (I2.freeze hd e1').fpOk (Nat.le_refl _) ((I2.freeze hd e1').hok.fresh (Nat.le_refl _))
 ·have q1:=q ob _ (.inl rfl) hd
  obtain⟨t1,t2,t3⟩:=zeu I1 (.inr ⟨kvs,.inr ⟨ob,hd⟩⟩)
  refine⟨"dict",_,PySem.F.plainAttrs_dict,PySem.F.slot_dict_items,PySem.F.type_dict_items,t1,t2,Calls.callWith_builtin rfl (PySem.evalArgs_none ?_)⟩
  refine call_meetsIn PySem.F.slot_dict_items t1 PySem.F.entry_dict_items (PySem.F.args_dict_items_1 _) (zcD t3) ⟨t1, ?_⟩
  obtain⟨e1,xs,rel,es,ep,c,e2,e3⟩:=I1.froz hd
  have I2:Inv X pins σ H1 {s1 with heap:=s1.heap.push {cls:=.type "dict_items",data:=.fields #[.ref a]}}:=I1.kept (t':=s1.toks) fun b o e=>Heap.get?_push_of_some _ e
  have e1':(s1.heap.push {cls:=.type "dict_items",data:=.fields #[.ref a]}).get? a=some ob:=Heap.get?_push_of_some _ e1
  refine zc7 (Heap.get?_push_size _ rfl) ⟨ob,e1',c,e2⟩ ?_
  have I3:=I2.kept (t':=s1.toks) (h':=(s1.heap.push {cls:=.type "dict_items",data:=.fields #[.ref a]}).push {cls:=.type "dict_itemiterator",data:=.fields #[.none,.bool false,.ref a,.int 0 0,.int es.size 0,.int ep 0,.none,.none]}) fun b o e=>Heap.get?_push_of_some _ e
  refine⟨_,[_],_,_,_,rfl,I3,zb6 a _ ob es ep e2,⟨_,_,Heap.get?_push_size _ rfl⟩,fun b hb=> ?_,q1⟩
  rw[List.mem_singleton.mp hb]
  exact I2.fpOk (Nat.le_refl _) (I2.hok.fresh (Nat.le_refl _))
end
noncomputable def SameL (H G:Hp):Prop:=∀b xs,H b=some (.lst xs)->G b=some (.lst xs)
theorem SameL.trans {H G G':Hp}(a:SameL H G)(b:SameL G G'):SameL H G':=fun c x e=>b c x (a c x e)
theorem Same.l {H G:Hp}(s:Same H G):SameL H G:=fun b _ e=>s b _ e
theorem zdL {H:Hp}{a:Addr}{o:HO}(h:∀xs,H a≠some (.lst xs)):SameL H (upd H a o):=fun b xs e=>by
 rw[zah (fun z=>h xs (by rw[<-z];exact e))]
 exact e
theorem LsF.sameL {H H':Hp}{zs:List Addr}{R:List (List Int)}(h:LsF H zs R)(s:SameL H H'):LsF H' zs R:=⟨h.len,fun i z e=>s _ _ (h.at_ i z e)⟩
structure DsF (G:Hp) (ds:List Addr) (n:Nat):Prop where
 len:ds.length=n
 at_:∀(i:Nat) (d:Addr),ds[i]? =some d->Rd G d (.dT (dV (hgD i)))
theorem DsF.same {G G':Hp}{ds:List Addr}{n:Nat}(h:DsF G ds n)(s:Same G G'):DsF G' ds n:=⟨h.len,fun i d e=>by
 rcases h.at_ i d e with q|⟨o,q⟩
 ·exact .inl (s _ _ q)
 ·exact .inr ⟨o,s _ _ q⟩⟩
theorem DsF.off {G:Hp}{ds:List Addr}{n:Nat}{a:Addr}{o:HO}(h:DsF G ds n)(ha:a∉ds):DsF (upd G a o) ds n:=⟨h.len,fun i d e=>by
 have hd:d≠a:=fun q=>ha (by rw[<-q];exact List.mem_of_getElem? e)
 unfold Rd
 rw[zah hd]
 exact h.at_ i d e⟩
theorem DsF.freeze {G:Hp}{ds:List Addr}{n l:Nat}{a:Addr}{ob:Obj}(h:DsF G ds n)(e:G a=some (.dT (dV (hgD l)))):DsF (upd G a (.frz ob (.dT (dV (hgD l))))) ds n:=⟨h.len,fun i d hd=>by
 by_cases q:d=a
 ·subst q
  rcases h.at_ i d hd with z|⟨o,z⟩
  ·rw [e] at z
   exact .inr ⟨ob,by rw[zab];have z:=(Option.some.inj z);rw[z]⟩
  ·rw[e] at z;cases z
 ·unfold Rd
  rw[zah q]
  exact h.at_ i d hd⟩
theorem DsF.snoc {G:Hp}{ds:List Addr}{n:Nat}{d:Addr}(h:DsF G ds n)(e:G d=some (.dT (dV (hgD n)))):DsF G (ds++[d]) (n+1):=⟨by rw[List.length_append,h.len];rfl,fun i z hz=>by
 by_cases c:i<ds.length
 ·rw [List.getElem?_append_left c] at hz
  exact h.at_ i z hz
 ·rw [List.getElem?_append_right (by (first|lia|omega))] at hz
  have hi:i-ds.length=0:=by
   have:=(List.getElem?_eq_some_iff.mp hz).1
   simp at this
   (first|lia|omega)
  rw[hi] at hz
  simp at hz
  subst hz
  have:i=n:=by have:=h.len;(first|lia|omega)
  subst this
  exact .inl e⟩
theorem DsF.get {G:Hp}{ds:List Addr}{n i:Nat}(h:DsF G ds n)(hi:i<n):∃d,d∈ds/\ds[i]? =some d/\atI (ds.map V.ref) (i:Int)=some (.ref d)/\Rd G d (.dT (dV (hgD i))):=by
 have hq:i<ds.length:=by rw[h.len];exact hi
 exact⟨ds[i],List.getElem_mem _,List.getElem?_eq_getElem hq,zaN (by rw[List.getElem?_map,List.getElem?_eq_getElem hq];rfl),h.at_ i _ (List.getElem?_eq_getElem hq)⟩
theorem DsF.there {G:Hp}{ds:List Addr}{n:Nat}(h:DsF G ds n){d:Addr}(hd:d∈ds):G d≠none/\∀xs,G d≠some (.lst xs):=by
 obtain⟨i,hi⟩:=List.getElem?_of_mem hd
 rcases h.at_ i d hi with q|⟨o,q⟩<;>exact⟨(by rw[q];exact fun z=>by cases z),fun xs=>by rw[q];exact fun z=>by cases z⟩
theorem zh6 {i l:Nat}(hl:l<i+1)(d:ShD):hgL (i+1) (hgA i) d l=(hgD l).foldl (hgK (i+1) l (rsR (i-l))) d:=by
 unfold hgL
 rw[zfK (by (first|lia|omega)),show i+1-1-l=i-l by (first|lia|omega)]
theorem zgt (i:Nat):hgD (i+1)=(List.range (i+1)).foldl (hgL (i+1) (hgA i)) []:=zdi i
theorem HgOk.dlen {n:Nat}{d:ShD}(h:HgOk n d)(hn:n<=16):(dV d).length<sizeLine:=by
 unfold dV
 rw[List.length_map]
 exact Nat.lt_of_le_of_lt (h.len hn) (by decide)
end L2
namespace K19
open PySem PySem.Spec PyProof.Rows L2
noncomputable abbrev zay:Stmt:=top 29
section
variable {P:Program}{w:World}{K:PySem.W.Frag}{mg:Str->Option Value}{base:Heap}
theorem sc__law_of_highs:FnScope ["_law_many", "_law_alone", "_law_found", "_law_n", "_law_news", "_law_left", "_law_rises", "_law_highs", "_law_one", "_law_j", "_law_other", "_law_spot", "_law_last"] ["_law_many"] (zag zay):=⟨rfl,rfl,rfl,by decide+kernel,rfl,by decide+kernel,by decide+kernel⟩
set_option maxHeartbeats 16000000 in
noncomputable def hgTT {f:Addr}{cdv:Value}{A:Around}{outer:List Env}{s:Shared}{H:Hp}{E:XK}(hr:Room 2 (A.deeper (envOfC "_law_of_highs" (zag zay) s.heap.objs.size f cdv)))(T:Top mg)(C_law_ways:Cal P w K mg base 1 "_law_ways" ["_law_many", "_law_number"] zdI)(C_law_of_rises:Cal P w K mg base 2 "_law_of_rises" ["_law_many"] (za3 rsA 16)):{t:TS//PSs (cxOf CX0 P w K mg base ["_law_many", "_law_alone", "_law_found", "_law_n", "_law_news", "_law_left", "_law_rises", "_law_highs", "_law_one", "_law_j", "_law_other", "_law_spot", "_law_last"] "_law_of_highs" (zag zay) f cdv A outer s H E).nox (zaO zay) t}:=
 have hu1:=zf4 hr
 ⟨_, (zaf (zgC (i:=1) (j:=2) rfl sc__law_of_highs.nd rfl rfl (by decide) rfl rfl (zaa (zaL C_law_of_rises (hr.mono (by decide)) rfl (zaa (pv 0) zae)) (zaa (zaW (zaa (zcF hu1 (zaP (zaa zad (zaa zad zae))) zad) zae)) zae)) rfl)
   (zaf (zaS PassesOwn.never rfl (zbg rfl T.n_range (zaa zad (zaa (zai zal (pv 0) zad) zae))) (zak (i:=3) sc__law_of_highs.nd rfl (Or.inl rfl))
    (zaf (zas (i:=4) sc__law_of_highs.nd rfl (Or.inl rfl) zc6)
    (zaf (zaS PassesOwn.never rfl (zat rfl T.n_range (zaa (pv 3) zae)) (zak (i:=5) sc__law_of_highs.nd rfl (Or.inl rfl))
     (zaj (zaS PassesOwn.never rfl (zfQ (zaT zau (pv 2) (pv 5) (fun _ _=>rfl))) (zbN rfl (zax (zbN rfl (zax (zak (i:=6) sc__law_of_highs.nd rfl (Or.inl rfl)) (zax (zak (i:=7) sc__law_of_highs.nd rfl (Or.inl rfl)) zbj))) (zax (zak (i:=8) sc__law_of_highs.nd rfl (Or.inl rfl)) zbj)))
      (zaj (zaS PassesOwn.never rfl (zbR rfl T.n_enumerate (zaa (zaT zau (pv 1) (zai zaJ (zai zaJ (pv 3) zad) (pv 5)) (fun _ _=>rfl)) zae)) (zbH (i:=9) (j:=10) rfl sc__law_of_highs.nd rfl rfl (Or.inl rfl) (Or.inl rfl) (Or.inl rfl) (Or.inl rfl))
       (zaf (zas (i:=11) sc__law_of_highs.nd rfl (Or.inl rfl) (zaP (zaa (zai zal (zai zal (pv 6) (pv 9)) (zaw zbO (by rfl) T.n_int boot_int (zaa (zb1 zfZ (pv 5) zad (za1 _)) zae))) (zaa (zai zal (pv 7) zad) zae))))
       (zaj (zdZ hu1 (pv 4) (pv 11) (zai zal (zbB hu1 (pv 4) (pv 11) zad ⟨rfl,rfl,rfl,rfl⟩) (zai zaV (zai zaV (zaL C_law_ways (hr.mono (by decide)) rfl (zaa (zai zaJ (pv 3) zad) (zaa (pv 5) zae))) (pv 8)) (pv 10))) rfl))))))))
    (zaj (zbZ (zeM PySem.F.plainAttrs_list PySem.F.slot_list_append PySem.F.type_list_append zbh (pv 2) (zaa (pv 4) zae)))))))
   (zaf (zas (i:=12) sc__law_of_highs.nd rfl (Or.inr rfl) (zaT zau (pv 2) (pv 0) (fun _ _=>rfl)))
   (zaj (zaC (zft (z:= "_law_k") (N':=["_law_k", "_law_last", "_law_many"]) (n:=1) (ix:=[12,0]) rfl (CompScopeZ.ofC (sc:=zag zay) (N:=["_law_many", "_law_alone", "_law_found", "_law_n", "_law_news", "_law_left", "_law_rises", "_law_highs", "_law_one", "_law_j", "_law_other", "_law_spot", "_law_last"]) (by decide+kernel) rfl rfl (fun _ _=>rfl) (fun _=>rfl)) (zat rfl T.n_range (zaa (zao (zcu rfl) (by rfl) T.n_max boot_max (zaa zad (zaa (pv 0) zae))) zae)) (fun _ _ _ _ _ _=>⟨(zak (i:=0) (show (["_law_k", "_law_last", "_law_many"]:List Str).Nodup by decide+kernel) rfl (Or.inr rfl) (Or.inl rfl)),zaX,(zcx (N':=["_law_j", "_law_last", "_law_k"]) (n:=1) (ix:=[1,0]) rfl (CompScope.of (N:=["_law_k", "_law_last", "_law_many"]) rfl rfl rfl) (zat rfl T.n_range (zaa (zai zal (pv 2) zad) zae)) (fun _ _ _ _ _=>⟨(zak (i:=0) (show (["_law_j", "_law_last", "_law_k"]:List Str).Nodup by decide+kernel) rfl (Or.inl rfl)),zaX,(zbB hu1 (pv 1) (zaP (zaa (pv 2) (zaa (pv 0) zae))) zad ⟨rfl,rfl,rfl,rfl⟩)⟩))⟩)))))))⟩
set_option maxHeartbeats 8000000 in
theorem zcm {f:Addr}{fd:FuncData}(F:Fun K "_law_of_highs" "_law_of_highs" zay f fd)(T:Top mg)(C_law_ways:Cal P w K mg base 1 "_law_ways" ["_law_many", "_law_number"] zdI)(C_law_of_rises:Cal P w K mg base 2 "_law_of_rises" ["_law_many"] (za3 rsA 16)):FnOk P w K mg base CX0 3 f fd ["_law_many"] (za3 hgT 16):=by
 refine F.ok sc__law_of_highs (fun vs H Q E h=> ?_) (fun cdv A outer s H vs Q E hr h=> ?_)
 ·obtain ⟨n,rfl,_⟩:=h
  rfl
 ·obtain ⟨m,rfl,hm,k⟩:=h
  refine⟨_,(hgTT hr T C_law_ways C_law_of_rises).2, ?_⟩
  refine⟨_,rfl,m,rfl,hm,fun A zs G0 s0 hGA hZ=> ?_⟩
  refine fun F0 hF0=>⟨by show 2<=sizeLine;decide,fun t0 ht0=>⟨t0,keyI [0,0],rfl,zab, ?_, ?_⟩⟩
  ·rw[zah (fun z=>by rw[z,zab] at ht0;cases ht0),zab]
  have hF00:(upd (upd (upd G0 F0 (.dT [])) t0 (.tup [.int 0,.int 0])) F0 (.dT [(keyI [0,0],.int 1)])) F0=some (.dT (dV (hgD 0))):=zab
  have sF0:Same G0 (upd (upd (upd G0 F0 (.dT [])) t0 (.tup [.int 0,.int 0])) F0 (.dT [(keyI [0,0],.int 1)])):=zan ((zac hF0).trans (zac ht0)) hF0
  have hHF0:H F0=none:=s0.free hF0
  generalize (upd (upd (upd G0 F0 (.dT [])) t0 (.tup [.int 0,.int 0])) F0 (.dT [(keyI [0,0],.int 1)]))=C0 at hF00 sF0 ⊢
  refine⟨by show 1<=sizeLine;decide,fun L hL=> ?_⟩
  have sL:=zac (o:=.lst [.ref F0]) hL
  have hHL:H L=none:=(s0.trans sF0).free hL
  have sC:=(s0.trans sF0).trans sL
  have hGL:(upd C0 L (.lst [.ref F0])) L=some (.lst ([F0].map V.ref)):=zab
  have hD:DsF (upd C0 L (.lst [.ref F0])) [F0] 1:=⟨rfl,fun i d e=>by
   match i,e with
   |0,e=>cases e;exact .inl (sL _ _ hF00)
   |i+1,e=>cases e⟩
  have hGA1:=sL _ _ (sF0 _ _ hGA)
  have hZ1:=(hZ.same sF0).same sL
  generalize (upd C0 L (.lst [.ref F0]))=C1 at sC hGL hD hGA1 hZ1 ⊢
  refine⟨_,_,rfl, ?_⟩
  refine⟨_,rfl,_,_,rfl,rfl,_,_,rfl,⟨by (first|lia|omega),by (first|lia|omega),by (first|lia|omega),by (first|lia|omega)⟩, ?_⟩
  rw[show ((m:Int)+1-1).toNat=m by (first|lia|omega)]
  refine zaI (fun i σ G=>∃(c3 c4 c5 c6 c7 c8 c9 c10 c11:Option V) (ds:List Addr),σ=[some (.int m),some (.ref A),some (.ref L),c3,c4,c5,c6,c7,c8,c9,c10,c11,none]/\Same H G/\G L=some (.lst (ds.map V.ref))/\G A=some (.lst (zs.map V.ref))/\LsF G zs (rsA m)/\DsF G ds (i+1)/\(∀d∈ds,H d=none)/\A≠L/\L∉zs) ?_ ?_ ?_
  ·refine ⟨none,none,none,none,none,none,none,none,none,[F0],rfl,sC,hGL,hGA1,hZ1,hD,fun d h=>by rw[List.mem_singleton.mp h];exact hHF0,fun e=> ?_,fun h=> ?_⟩
   ·rw[<-e,sF0 _ _ hGA] at hL;cases hL
   ·obtain ⟨r,hr⟩:=hZ.there h
    rw[sF0 _ _ hr] at hL;cases hL
  ·rintro i σ G hi ⟨c3,c4,c5,c6,c7,c8,c9,c10,c11,ds,rfl,sG,hGL,hGA,hZ,hD,hds,hAL,hLz⟩
   refine fun N hN=> ?_
   have kN:=zac (o:=.dT []) hN
   have hHN:H N=none:=sG.free hN
   have hNd:N∉ds:=fun h=>(hD.there h).1 hN
   have hGN:(upd G N (.dT [])) N=some (.dT (dV [])):=zab
   refine⟨_,rfl,_,rfl,by (first|lia|omega),by (first|lia|omega), ?_⟩
   rw[show ((1:Int)+(i:Int)).toNat=i+1 by (first|lia|omega)]
   refine zaI (fun l σ G'=>∃(c5 c6 c7 c8 c9 c10 c11:Option V) (D:ShD),σ=[some (.int m),some (.ref A),some (.ref L),some (.int (1+(i:Int))),some (.ref N),c5,c6,c7,c8,c9,c10,c11,none]/\Same H G'/\SameL G G'/\DsF G' ds (i+1)/\G' N=some (.dT (dV D))/\D=(List.range l).foldl (hgL (i+1) (hgA i)) []/\HgOk (i+1) D) ?_ ?_ ?_
   ·exact⟨_,_,_,_,_,_,_,[],rfl,sG.trans kN,kN.l,hD.same kN,hGN,rfl,HgOk.nil⟩
   ·rintro l σ G2 hl ⟨c5,c6,c7,c8,c9,c10,c11,D,rfl,s2,l2,hD2,hN2,eD,oD⟩
    obtain⟨d,hdm,hdi,ad,rd⟩:=hD2.get (i:=l) (by (first|lia|omega))
    obtain⟨z1,_,a1,hz1⟩:=hZ.get (i:=i-l) (by rw[zbf];(first|lia|omega))
    rw[zcW (by (first|lia|omega))] at hz1
    have KO:=zeF l
    have hdN:d≠N:=fun e=>hNd (by rw[<-e];exact hdm)
    have hdH:=hds d hdm
    have lal:=zdj (i-l)
    refine⟨_,rfl,_,rfl,L,_,_,_,rfl,rfl,SqL.of (l2 _ _ hGL),by rw[Int.zero_add];exact ad,d,dV (hgD l),rfl,rd,fun ob G3 h3 hd3=> ?_⟩
    have f3:Same H G3/\SameL G G3/\DsF G3 ds (i+1)/\G3 N=some (.dT (dV D)):=by
     rcases h3 with rfl|⟨hd2,rfl⟩
     ·exact⟨s2,l2,hD2,hN2⟩
     ·exact⟨zan s2 hdH,l2.trans (zdL fun xs=>by rw[hd2];exact fun z=>by cases z),hD2.freeze hd2,by rw[zah (Ne.symm hdN)];exact hN2⟩
    clear h3
    obtain⟨s3,l3,hD3,hN3⟩:=f3
    rw[zbc,zh6 hl,<-eD]
    refine zcE (kvs:=dV (hgD l)) (fun j σ G'=>∃(c6 c7 c8 c9 c10 c11:Option V) (D':ShD),σ=[some (.int m),some (.ref A),some (.ref L),some (.int (1+(i:Int))),some (.ref N),some (.int (0+(l:Int))),c6,c7,c8,c9,c10,c11,none]/\Same H G'/\SameL G G'/\DsF G' ds (i+1)/\G' N=some (.dT (dV D'))/\G' d=some (.frz ob (.dT (dV (hgD l))))/\D'=((hgD l).take j).foldl (hgK (i+1) l (rsR (i-l))) D/\HgOk (i+1) D') ?_ ?_ ?_ ?_
    ·exact⟨_,_,_,_,_,_,D,rfl,s3,l3,hD3,hN3,hd3,rfl,oD⟩
    ·rintro j σ G' _ ⟨c6,c7,c8,c9,c10,c11,D',rfl,_,_,_,_,h,_⟩
     exact h
    ·rintro j kk vv t b σ G4 hx ⟨c6,c7,c8,c9,c10,c11,D',rfl,s4,l4,hD4,hN4,hd4,eD',oD'⟩ ht hb
     have hj:j<(hgD l).length:=by
      have:=(List.getElem?_eq_some_iff.mp hx).1
      unfold dV at this
      rwa [List.length_map] at this
     have hxx:(hgD l)[j]? =some (hgD l)[j]:=List.getElem?_eq_getElem hj
     have hmem:(hgD l)[j]∈hgD l:=List.getElem_mem hj
     have htk':=zdJ (hgK (i+1) l (rsR (i-l))) D (hgD l) hxx
     unfold dV at hx
     rw[List.getElem?_map,hxx] at hx
     generalize (hgD l)[j]=sw at hx htk' hmem
     obtain⟨sh,wt⟩:=sw
     cases hx
     obtain⟨fi,se,esh,q1,q2,q3,q4⟩:=KO.2 _ hmem
     replace esh:sh=[fi,se]:=esh
     subst esh
     rw[za4] at hb
     have st:=zac (o:=.tup [.ref b,.int wt]) ht
     refine⟨t,_,rfl,SqT.of zab,rfl,_,_,rfl,b,_,rfl,SqT.of (st _ _ hb),rfl,_,_,rfl,_,_,rfl,rfl,_,_,rfl,rfl, ?_⟩
     have s5:=s4.trans st
     have l5:=l4.trans st.l
     have hD5:=hD4.same st
     have hN5:=st _ _ hN4
     have hd5:=st _ _ hd4
     generalize (upd G4 t (.tup [.ref b,.int wt]))=G5 at s5 l5 hD5 hN5 hd5 ⊢
     refine⟨_,rfl,_,rfl,_,_,rfl,rfl,_,rfl,_,_,rfl,rfl,A,_,_,_,rfl,rfl,SqL.of (l5 _ _ hGA),by rw[show (1:Int)+(i:Int)-1-(0+(l:Int))=((i-l:Nat):Int) by (first|lia|omega)];exact a1,z1,rfl,⟨_,SqL.of (l5 _ _ hz1)⟩, ?_⟩
     rw[htk',<-eD']
     refine zbv (K:=K) (a:=z1) (xs:=(rsR (i-l)).map V.int) (fun q σ G'=>∃(c9 c10 c11:Option V) (D'':ShD),σ=[some (.int m),some (.ref A),some (.ref L),some (.int (1+(i:Int))),some (.ref N),some (.int (0+(l:Int))),some (.int fi),some (.int se),some (.int wt),c9,c10,c11,none]/\Same H G'/\SameL G G'/\DsF G' ds (i+1)/\G' N=some (.dT (dV D''))/\G' d=some (.frz ob (.dT (dV (hgD l))))/\D''=(List.range q).foldl (hgJ (i+1) l ([fi,se],wt) (rsR (i-l))) D'/\HgOk (i+1) D'') ?_ ?_ ?_ ?_
     ·exact⟨_,_,_,D',rfl,s5,l5,hD5,hN5,hd5,rfl,oD'⟩
     ·rintro q σ G' _ ⟨c9,c10,c11,D'',rfl,_,l6,_⟩
      exact SqL.of (l6 _ _ hz1)
     ·rintro q x t2 σ G6 hx ⟨c9,c10,c11,D'',rfl,s6,l6,hD6,hN6,hd6,eD'',oD''⟩ ht2
      rw[List.getElem?_map] at hx
      obtain⟨oth,hoth,rfl⟩:=Option.map_eq_some_iff.mp hx
      have hq:=(List.getElem?_eq_some_iff.mp hoth).1
      have eoth:(rsR (i-l)).getD q 0=oth:=by rw[List.getD_eq_getElem?_getD,hoth];rfl
      have kt2:=zac (o:=.tup [.int (q:Int),.int oth]) ht2
      refine⟨t2,_,rfl,SqT.of zab,rfl,_,_,rfl,_,_,rfl,rfl, ?_⟩
      have s7:=s6.trans kt2
      have l7:=l6.trans kt2.l
      have hD7:=hD6.same kt2
      have hN7:=kt2 _ _ hN6
      have hd7:=kt2 _ _ hd6
      generalize (upd G6 t2 (.tup [.int (q:Int),.int oth]))=G7 at s7 l7 hD7 hN7 hd7 ⊢
      have b1:=zd5 (n:=i-l) (j:=q) (by (first|lia|omega))
      rw[eoth] at b1
      have b3:=zfP (m:=i) (k:=l) (by (first|lia|omega)) (by (first|lia|omega))
      have eiv:(if decide ((0:Int)+(l:Int)>0)=true then (1:Int) else 0)=(if 0<l then 1 else 0):=by
       by_cases h0:0<l
       ·rw[if_pos h0];simp;(first|lia|omega)
       ·rw[if_neg h0];simp;(first|lia|omega)
      refine⟨_,rfl,_,rfl,_,_,rfl,rfl,_,rfl,_,_,rfl,rfl,.inr ⟨_,rfl,_,_,rfl,rfl, ?_⟩⟩
      dsimp only
      rw[eiv]
      generalize hka:fi+(q:Int)+(if 0<l then 1 else 0)=ka
      refine⟨_,rfl,_,_,rfl,rfl,by show 2<=sizeLine;decide,fun u hu=> ?_⟩
      have su:=zac (o:=.tup [.int ka,.int (se+1)]) hu
      have hN8:=su _ _ hN7
      have hu8:(upd G7 u (.tup [.int ka,.int (se+1)])) u=some (.tup ((keyI [ka,se+1]).map kV)):=by rw[za4];exact zab
      refine⟨_,rfl,N,rfl,.inr ⟨_,.inl hN8⟩,_,rfl,_,DGet.t hN8 hu8, ?_⟩
      rw[zcS]
      refine⟨_,rfl,_,_,rfl,rfl,_,rfl,i,l,by show [V.int ((1:Int)+(i:Int)-1),V.int (0+(l:Int))]=_;rw[show (1:Int)+(i:Int)-1=(i:Int) by (first|lia|omega),Int.zero_add],by (first|lia|omega),by (first|lia|omega),_,rfl,_,_,rfl,rfl,.inl b3,_,rfl,_,_,rfl,rfl,.inr b1,_,_,rfl,rfl, ?_⟩
      refine⟨_,rfl,_,rfl,N,_,rfl,DPut.t hN8 hu8 (oD''.dlen (by (first|lia|omega))), ?_⟩
      rw[zfC]
      have hdU:=hdN
      have key:putS D'' [ka,se+1] (getS D'' [ka,se+1]+wyQ (i:Int) l*wt*oth)=hgJ (i+1) l ([fi,se],wt) (rsR (i-l)) D'' q:=by
       unfold hgJ
       have e1:(([fi,se]:List Int).getD 0 0)+(q:Int)+(if 0<l then 1 else 0)=ka:=hka
       show _=putS D'' [(([fi,se]:List Int).getD 0 0)+(q:Int)+(if 0<l then 1 else 0),se+1] (getS D'' [(([fi,se]:List Int).getD 0 0)+(q:Int)+(if 0<l then 1 else 0),se+1]+wyQ (((i+1:Nat):Int)-1) l*wt*(rsR (i-l)).getD q 0)
       rw[e1,eoth,show ((i+1:Nat):Int)-1=(i:Int) by (first|lia|omega)]
      refine⟨_,_,_,hgJ (i+1) l ([fi,se],wt) (rsR (i-l)) D'' q,rfl,zan (s7.trans su) hHN,(l7.trans su.l).trans (zdL fun xs=>by rw[hN8];exact fun z=>by cases z),(hD7.same su).off hNd,by rw[zab,<-key],by rw[zah hdN];exact su _ _ hd7,by rw[zbc,<-eD''], ?_⟩
      rw[<-key]
      refine oD''.put ?_ _
      rw[<-hka]
      split<;>(first|lia|omega)
     ·rintro σ G6 ⟨c9,c10,c11,D'',rfl,s6,l6,hD6,hN6,hd6,eD'',oD''⟩
      rw[zaz] at eD''
      exact⟨_,_,_,_,_,_,D'',rfl,s6,l6,hD6,hN6,hd6,eD'',oD''⟩
    ·rintro σ G' ⟨c6,c7,c8,c9,c10,c11,D',rfl,s4,l4,hD4,hN4,hd4,eD',oD'⟩
     refine⟨_,_,_,_,_,_,_,D',rfl,s4,l4,hD4,hN4, ?_,oD'⟩
     rw[eD']
     unfold dV
     rw[List.length_map,List.take_length]
   ·rintro σ G2 ⟨c5,c6,c7,c8,c9,c10,c11,D,rfl,s2,l2,hD2,hN2,eD,oD⟩
    refine⟨_,rfl,.inl ⟨rfl,_,SqL.of (l2 _ _ hGL)⟩,_,rfl,L,_,_,rfl,rfl,l2 _ _ hGL,zba (by rw[zbA,hD2.len];(first|lia|omega)), ?_⟩
    have hLds:L∉ds++[N]:=fun h=>by
     rcases List.mem_append.mp h with h|h
     ·exact (hD2.there h).2 _ (l2 _ _ hGL)
     ·rw [List.mem_singleton.mp h] at hGL
      rw[hN] at hGL;cases hGL
    have hN3:G2 N=some (.dT (dV (hgD (i+1)))):=by rw[hN2,eD,zgt]
    refine⟨_,_,_,_,_,_,_,_,_,ds++[N],rfl,zan s2 hHL,by rw[zab,List.map_append];rfl,by rw[zah hAL];exact l2 _ _ hGA,(hZ.sameL l2).off hLz,(hD2.snoc hN3).off hLds,fun d h=> ?_,hAL,hLz⟩
    rcases List.mem_append.mp h with h|h
    ·exact hds d h
    ·rw[List.mem_singleton.mp h];exact hHN
  ·rintro σ G ⟨c3,c4,c5,c6,c7,c8,c9,c10,c11,ds,rfl,sG,hGL,hGA,hZ,hD,hds,hAL,hLz⟩
   obtain⟨d,hdm,hdi,ad,rd⟩:=hD.get (i:=m) (by (first|lia|omega))
   refine⟨_,rfl,_,rfl,L,_,_,_,rfl,rfl,SqL.of hGL,ad, ?_⟩
   refine⟨_,rfl,_,_,rfl,_,rfl, ?_⟩
   have emax:(if (m:Int)>1 then (m:Int) else 1)=((max 1 m:Nat):Int):=by split<;>(first|lia|omega)
   rw[emax]
   refine⟨by (first|lia|omega),by (first|lia|omega), ?_⟩
   rw[Int.toNat_natCast]
   have KO:=zeF m
   refine zcH (zaF (lo:=0) (n:=max 1 m)) (zba (by rw[zaq];(first|lia|omega))) (fun a=>((num0 (m+1)).map fun j=>getS (hgD m) [0+(a:Int),j]).map V.int) (fun _ _=>trivial) (fun a x G1 hx sG1 QT q=> ?_) fun acc ys G1 hacc s1 hG1 hyl hyd hys=> ?_
   ·have ha:a<max 1 m:=by
     have:=(List.getElem?_eq_some_iff.mp hx).1
     rwa [zaq] at this
    unfold zaQ at hx
    rw[List.getElem?_map,List.getElem?_range ha] at hx
    cases hx
    refine⟨_,rfl,_,_,rfl,rfl,_,rfl,by (first|lia|omega),by (first|lia|omega), ?_⟩
    rw[show ((m:Int)+1).toNat=m+1 by (first|lia|omega)]
    refine zda (n:=m+1) (zaF (lo:=0) (n:=m+1)) (fun j=>getS (hgD m) [0+(a:Int),j]) (by (first|lia|omega)) (fun _ _=>trivial) (fun j j0 j1 G2 sG2 Q2 hQ2=> ?_) fun acc2 G2 hacc2 sG2 hG2=>q acc2 G2 hacc2 hG2 sG2
    have rd2:Rd G2 d (.dT (dV (hgD m))):=by
     rcases rd with z|⟨o,z⟩
     ·exact .inl (sG2 _ _ (sG1 _ _ z))
     ·exact .inr ⟨o,sG2 _ _ (sG1 _ _ z)⟩
    refine⟨_,rfl,d,rfl,.inr ⟨_,rd2⟩,_,rfl,_,rfl,by show 2<=sizeLine;decide,fun u hu=> ?_⟩
    have su:=zac (o:=.tup [.int (0+(a:Int)),.int j]) hu
    have hu5:(upd G2 u (.tup [.int (0+(a:Int)),.int j])) u=some (.tup ((keyI [0+(a:Int),j]).map kV)):=by rw[za4];exact zab
    have rd3:Rd (upd G2 u (.tup [.int (0+(a:Int)),.int j])) d (.dT (dV (hgD m))):=by
     rcases rd2 with z|⟨o,z⟩
     ·exact .inl (su _ _ z)
     ·exact .inr ⟨o,su _ _ z⟩
    refine⟨_,.inr ⟨_,_,u,rd3,rfl,hu5,rfl⟩, ?_⟩
    rw[zcS]
    exact hQ2 _ su
   ·rw [zaq] at hyl
    refine k acc ys G1 (sG.trans s1) hG1 ⟨by rw[hyl];simp[hgT],fun a z hz=> ?_⟩
    have ha:=(List.getElem?_eq_some_iff.mp hz).1
    rw[(hys a z hz).1]
    unfold hgT
    rw[zcp _ _ (by (first|lia|omega))]
    unfold num0
    simp only[Int.zero_add,List.map_map]
    rfl
end
end K19
namespace L2
open PySem PySem.Spec PyProof.Rows
theorem zh7 {i q:Nat}{f s:Int}(h:q<i+1):(onZ 2 i f s)[q]? =some [f+(if q=0 then 1 else 0),s+(q:Int),1]:=by
 show (([f+1,s,1]:List Int)::(List.range i).map fun (a:Nat)=>[f,s+((a:Int)+1),1])[q]? =_
 cases q with
 |zero=>
  show some _=some _
  simp
 |succ q=>
  rw[List.getElem?_cons_succ,List.getElem?_map,List.getElem?_range (by (first|lia|omega))]
  show some [f,s+((q:Int)+1),1]=_
  rw[if_neg (by (first|lia|omega))]
  simp
theorem zhn {i:Nat}{f s:Int}:(onZ 2 i f s).length=i+1:=by
 show (([f+1,s,1]:List Int)::(List.range i).map fun (a:Nat)=>[f,s+((a:Int)+1),1]).length=_
 simp
noncomputable def crsT (n:Nat):List (List Int):=(List.range (n+1)).map fun (k:Nat)=>(List.range (n*(n-1)/2+1)).map fun (j:Nat)=>getS (zam 2 n) [(k:Int),(j:Int)]
theorem zgu:∀n:Nat,n<11->(n:Int)*((n:Int)-1)/2+1=((n*(n-1)/2+1:Nat):Int)/\n*(n-1)/2+1<=50:=by decide+kernel
end L2
namespace K19
open PySem PySem.Spec PyProof.Rows L2
noncomputable abbrev zav:Stmt:=top 30
section
variable {P:Program}{w:World}{K:PySem.W.Frag}{mg:Str->Option Value}{base:Heap}
theorem sc__law_of_crossed:FnScope ["_law_many", "_law_found", "_law_n", "_law_news", "_law_highs", "_law_crossed", "_law_one", "_law_ahead", "_law_spot", "_law_size"] ["_law_many"] (zag zav):=⟨rfl,rfl,rfl,by decide+kernel,rfl,by decide+kernel,by decide+kernel⟩
set_option maxHeartbeats 16000000 in
noncomputable def crTT {f:Addr}{cdv:Value}{A:Around}{outer:List Env}{s:Shared}{H:Hp}{E:XK}(hr:Room 0 (A.deeper (envOfC "_law_of_crossed" (zag zav) s.heap.objs.size f cdv)))(T:Top mg):{t:TS//PSs (cxOf CX0 P w K mg base ["_law_many", "_law_found", "_law_n", "_law_news", "_law_highs", "_law_crossed", "_law_one", "_law_ahead", "_law_spot", "_law_size"] "_law_of_crossed" (zag zav) f cdv A outer s H E).nox (zaO zav) t}:=
 have hu1:=zf4 hr
 ⟨_, (zaf (zas (i:=1) sc__law_of_crossed.nd rfl (Or.inr rfl) (zcF hu1 (zaP (zaa zad (zaa zad zae))) zad))
   (zaf (zaS PassesOwn.never rfl (zbg rfl T.n_range (zaa zad (zaa (zai zal (pv 0) zad) zae))) (zak (i:=2) sc__law_of_crossed.nd rfl (Or.inl rfl))
    (zaf (zas (i:=3) sc__law_of_crossed.nd rfl (Or.inl rfl) zc6)
    (zaf (zaS PassesOwn.never rfl (zev (pv 1)) (zbN rfl (zax (zbN rfl (zax (zak (i:=4) sc__law_of_crossed.nd rfl (Or.inl rfl)) (zax (zak (i:=5) sc__law_of_crossed.nd rfl (Or.inl rfl)) zbj))) (zax (zak (i:=6) sc__law_of_crossed.nd rfl (Or.inl rfl)) zbj)))
     (zaj (zaS PassesOwn.never rfl (zat rfl T.n_range (zaa (pv 2) zae)) (zak (i:=7) sc__law_of_crossed.nd rfl (Or.inl rfl))
      (zaf (zas (i:=8) sc__law_of_crossed.nd rfl (Or.inl rfl) (zaP (zaa (zai zal (pv 4) (zaw zbO (by rfl) T.n_int boot_int (zaa (zb1 zcX (pv 7) zad (za1 _)) zae))) (zaa (zai zal (pv 5) (pv 7)) zae))))
      (zaj (zdZ hu1 (pv 3) (pv 8) (zai zal (zbB hu1 (pv 3) (pv 8) zad ⟨rfl,rfl,rfl,rfl⟩) (pv 6)) rfl))))))
    (zaj (zas (i:=1) sc__law_of_crossed.nd rfl (Or.inr rfl) (pv 3))))))
   (zaf (zas (i:=9) sc__law_of_crossed.nd rfl (Or.inr rfl) (zai zal (zai zb0 (zai zaV (pv 0) (zai zaJ (pv 0) zad)) zad) zad))
   (zaj (zaC (zft (z:= "_law_k") (N':=["_law_k", "_law_found", "_law_size"]) (n:=1) (ix:=[1,9]) rfl (CompScopeZ.ofC (sc:=zag zav) (N:=["_law_many", "_law_found", "_law_n", "_law_news", "_law_highs", "_law_crossed", "_law_one", "_law_ahead", "_law_spot", "_law_size"]) (by decide+kernel) rfl rfl (fun _ _=>rfl) (fun _=>rfl)) (zat rfl T.n_range (zaa (zai zal (pv 0) zad) zae)) (fun _ _ _ _ _ _=>⟨(zak (i:=0) (show (["_law_k", "_law_found", "_law_size"]:List Str).Nodup by decide+kernel) rfl (Or.inr rfl) (Or.inl rfl)),zaX,(zcx (N':=["_law_j", "_law_found", "_law_k"]) (n:=1) (ix:=[1,0]) rfl (CompScope.of (N:=["_law_k", "_law_found", "_law_size"]) rfl rfl rfl) (zat rfl T.n_range (zaa (pv 2) zae)) (fun _ _ _ _ _=>⟨(zak (i:=0) (show (["_law_j", "_law_found", "_law_k"]:List Str).Nodup by decide+kernel) rfl (Or.inl rfl)),zaX,(zbB hu1 (pv 1) (zaP (zaa (pv 2) (zaa (pv 0) zae))) zad ⟨rfl,rfl,rfl,rfl⟩)⟩))⟩)))))))⟩
set_option maxHeartbeats 8000000 in
theorem zbY {f:Addr}{fd:FuncData}(F:Fun K "_law_of_crossed" "_law_of_crossed" zav f fd)(T:Top mg):FnOk P w K mg base CX0 1 f fd ["_law_many"] (za3 crsT 10):=by
 refine F.ok sc__law_of_crossed (fun vs H Q E h=> ?_) (fun cdv A outer s H vs Q E hr h=> ?_)
 ·obtain ⟨n,rfl,_⟩:=h
  rfl
 ·obtain ⟨n,rfl,hn,k⟩:=h
  refine⟨_,(crTT hr T).2, ?_⟩
  refine fun F0 hF0=>⟨by show 2<=sizeLine;decide,fun t0 ht0=>⟨t0,keyI [0,0],rfl,zab, ?_, ?_⟩⟩
  ·rw[zah (fun z=>by rw[z,zab] at ht0;cases ht0),zab]
  have hF00:(upd (upd (upd H F0 (.dT [])) t0 (.tup [.int 0,.int 0])) F0 (.dT [(keyI [0,0],.int 1)])) F0=some (.dT (dV (zam 2 0))):=zab
  have sF0:Same H (upd (upd (upd H F0 (.dT [])) t0 (.tup [.int 0,.int 0])) F0 (.dT [(keyI [0,0],.int 1)])):=zan ((zac hF0).trans (zac ht0)) hF0
  generalize (upd (upd (upd H F0 (.dT [])) t0 (.tup [.int 0,.int 0])) F0 (.dT [(keyI [0,0],.int 1)]))=C0 at hF00 sF0 ⊢
  refine⟨_,rfl,_,_,rfl,rfl,_,_,rfl,⟨by (first|lia|omega),by (first|lia|omega),by (first|lia|omega),by (first|lia|omega)⟩, ?_⟩
  rw[show ((n:Int)+1-1).toNat=n by (first|lia|omega)]
  refine zaI (fun i σ G=>∃(Fd:Addr) (c2 c3 c4 c5 c6 c7 c8:Option V),σ=[some (.int n),some (.ref Fd),c2,c3,c4,c5,c6,c7,c8,none]/\Same H G/\H Fd=none/\G Fd=some (.dT (dV (zam 2 i)))) ?_ ?_ ?_
  ·exact⟨F0,none,none,none,none,none,none,none,rfl,sF0,hF0,hF00⟩
  ·rintro i σ G hin ⟨Fd,c2,c3,c4,c5,c6,c7,c8,rfl,sG,hFd,hG⟩
   have KO:=zbD (i:=2) (by decide) i
   refine fun L hL=> ?_
   have hL0:H L=none:=sG.free hL
   have hLF:Fd≠L:=fun z=>by rw[z,hL] at hG;cases hG
   have sL:=zac (o:=.dT []) hL
   refine⟨_,rfl,Fd,_,rfl,sL _ _ hG,fun ob=> ?_⟩
   refine zcE (kvs:=dV (zam 2 i)) (fun j σ G'=>∃(c4 c5 c6 c7 c8:Option V) (D:ShD),σ=[some (.int n),some (.ref Fd),some (.int (1+(i:Int))),some (.ref L),c4,c5,c6,c7,c8,none]/\Same H G'/\G' Fd=some (.frz ob (.dT (dV (zam 2 i))))/\G' L=some (.dT (dV D))/\D=((zam 2 i).take j).foldl (zcM 2 i) []/\KeysOk 2 (i+1) D) ?_ ?_ ?_ ?_
   ·refine ⟨_,_,_,_,_,[],rfl,zan (sG.trans sL) hFd,zab, ?_,rfl,KeysOk.nil⟩
    rw[zah (Ne.symm hLF),zab]
    rfl
   ·rintro j σ G' _ ⟨c4,c5,c6,c7,c8,D,rfl,_,h,_⟩
    exact h
   ·rintro j kk vv t b σ G' hx ⟨c4,c5,c6,c7,c8,D,rfl,sG',hF',hL',hD,hDk⟩ ht hb
    have hj:j<(zam 2 i).length:=by
     have:=(List.getElem?_eq_some_iff.mp hx).1
     unfold dV at this
     rwa [List.length_map] at this
    have hxx:(zam 2 i)[j]? =some (zam 2 i)[j]:=List.getElem?_eq_getElem hj
    have hmem:(zam 2 i)[j]∈zam 2 i:=List.getElem_mem hj
    have htk':=zcT (i:=2) (n:=i) hxx
    unfold dV at hx
    rw[List.getElem?_map,hxx] at hx
    generalize (zam 2 i)[j]=sw at hx htk' hmem
    obtain⟨sh,wt⟩:=sw
    cases hx
    have hkey:=KO.2 _ hmem
    have hkey':=hkey
    obtain⟨fi,se,esh,q1,q2,q3,q4⟩:=hkey'
    replace esh:sh=[fi,se]:=esh
    subst esh
    rw[za4] at hb
    have st:=zac (o:=.tup [.ref b,.int wt]) ht
    refine⟨t,_,rfl,SqT.of zab,rfl,_,_,rfl,b,_,rfl,SqT.of (st _ _ hb),rfl,_,_,rfl,_,_,rfl,rfl,_,_,rfl,rfl, ?_⟩
    refine⟨_,rfl,_,rfl,by (first|lia|omega),by (first|lia|omega), ?_⟩
    rw[show ((1:Int)+(i:Int)).toNat=i+1 by (first|lia|omega)]
    have hWay:∀t∈onZ 2 i fi se,WayOk 2 i t:=fun t ht=>zfE (by decide) (k:=[fi,se]) hkey ht
    refine zaI (fun q σ G'=>∃(c7 c8:Option V) (D':ShD),σ=[some (.int n),some (.ref Fd),some (.int (1+(i:Int))),some (.ref L),some (.int fi),some (.int se),some (.int wt),c7,c8,none]/\Same H G'/\G' Fd=some (.frz ob (.dT (dV (zam 2 i))))/\G' L=some (.dT (dV D'))/\D'=((onZ 2 i fi se).take q).foldl (addP wt) D/\KeysOk 2 (i+1) D') ?_ ?_ ?_
    ·exact⟨_,_,D,rfl,sG'.trans st,st _ _ hF',st _ _ hL',rfl,hDk⟩
    ·rintro q σ G4 hq ⟨c7,c8,D',rfl,s4,hF4,hL4,hD',hD'k⟩
     have htt:=zh7 (i:=i) (f:=fi) (s:=se) hq
     have htg:=zdJ (addP wt) D (onZ 2 i fi se) htt
     have W:=hWay _ (List.mem_of_getElem? htt)
     have eiv:(if decide ((0:Int)+(q:Int)=0)=true then (1:Int) else 0)=(if q=0 then 1 else 0):=by
      by_cases h0:q=0
      ·rw[if_pos h0];simp;(first|lia|omega)
      ·rw[if_neg h0];simp;(first|lia|omega)
     refine⟨_,rfl,_,rfl,rfl,.inr ⟨_,rfl,_,_,rfl,rfl, ?_⟩⟩
     have eiv2:(if decide (V.int ((0:Int)+(q:Int))=V.int 0)=true then (1:Int) else 0)=(if q=0 then 1 else 0):=by
      by_cases h0:q=0
      ·subst h0;rfl
      ·rw [if_neg h0,if_neg]
       intro z
       have z:=of_decide_eq_true z
       have:=V.int.inj z
       (first|lia|omega)
     dsimp only
     rw[eiv2]
     refine⟨_,rfl,_,rfl,_,_,rfl,rfl,by show 2<=sizeLine;decide,fun u hu=> ?_⟩
     dsimp only
     rw[show se+((0:Int)+(q:Int))=se+(q:Int) by (first|lia|omega)]
     generalize hka:fi+(if q=0 then 1 else 0)=ka at htt htg W
     generalize hkb:se+(q:Int)=kb at htt htg W
     have su:=zac (o:=.tup [.int ka,.int kb]) hu
     have hL5:=su _ _ hL4
     have hu5:(upd G4 u (.tup [.int ka,.int kb])) u=some (.tup ((keyI [ka,kb]).map kV)):=by rw[za4];exact zab
     refine⟨_,rfl,L,rfl,.inr ⟨_,.inl hL5⟩,_,rfl,_,DGet.t hL5 hu5, ?_⟩
     rw[zcS]
     have hlen:(dV D').length<sizeLine:=by
      unfold dV
      rw[List.length_map]
      exact Nat.lt_of_le_of_lt (hD'k.len (by decide) (show i+1<=10 by (first|lia|omega))) (by decide)
     refine⟨_,rfl,_,_,rfl,rfl, ?_⟩
     refine⟨_,rfl,_,rfl,L,_,rfl,DPut.t hL5 hu5 hlen, ?_⟩
     rw[zfC]
     have key:addP wt D' [ka,kb,1]=putS D' [ka,kb] (getS D' [ka,kb]+wt):=by
      show putS D' [ka,kb] (getS D' [ka,kb]+wt*1)=_
      rw[Int.mul_one]
     refine⟨_,_,addP wt D' [ka,kb,1],rfl,zan (s4.trans su) hL0,by rw[zah hLF];exact su _ _ hF4,by rw[zab,key],by rw[htg,<-hD'], ?_⟩
     rw[key]
     exact hD'k.put W.key _
    ·rintro σ G4 ⟨c7,c8,D',rfl,s4,hF4,hL4,hD',hD'k⟩
     refine⟨_,_,_,_,_,D',rfl,s4,hF4,hL4, ?_,hD'k⟩
     rw[htk',<-hD,hD',<-zhn (i:=i) (f:=fi) (s:=se),List.take_length]
     rfl
   ·rintro σ G' ⟨c4,c5,c6,c7,c8,D,rfl,sG',hF',hL',hD,hDk⟩
    refine⟨_,rfl, ?_⟩
    refine⟨L,_,_,_,_,_,_,_,rfl,sG',hL0, ?_⟩
    rw[hL',hD]
    unfold dV
    rw[List.length_map,List.take_length]
    rfl
  ·rintro σ G ⟨Fd,c2,c3,c4,c5,c6,c7,c8,rfl,sG,hFd,hG⟩
   obtain⟨e1,e2⟩:=zgu n (by (first|lia|omega))
   refine⟨_,rfl,_,rfl,_,_,rfl,rfl,_,_,rfl,rfl,.inr ⟨by (first|lia|omega),by (first|lia|omega)⟩,_,_,rfl,rfl,⟨by (first|lia|omega),by (first|lia|omega)⟩,_,_,rfl,rfl, ?_⟩
   dsimp only
   rw[e1]
   refine⟨_,rfl,_,_,rfl,rfl,_,rfl,by (first|lia|omega),by (first|lia|omega), ?_⟩
   rw[show ((n:Int)+1).toNat=n+1 by (first|lia|omega)]
   generalize hsz:n*(n-1)/2+1=sz at e2
   have rd:Rd G Fd (.dT (dV (zam 2 n))):=.inl hG
   refine zcH (zaF (lo:=0) (n:=n+1)) (zba (by rw[zaq];(first|lia|omega))) (fun a=>((num0 sz).map fun j=>getS (zam 2 n) [0+(a:Int),j]).map V.int) (fun _ _=>trivial) (fun a x G1 hx sG1 QT q=> ?_) fun acc ys G1 hacc s1 hG1 hyl hyd hys=> ?_
   ·have ha:a<n+1:=by
     have:=(List.getElem?_eq_some_iff.mp hx).1
     rwa [zaq] at this
    unfold zaQ at hx
    rw[List.getElem?_map,List.getElem?_range ha] at hx
    cases hx
    refine⟨_,rfl,_,rfl,by (first|lia|omega),by (first|lia|omega), ?_⟩
    rw[Int.toNat_natCast]
    refine zda (n:=sz) (zaF (lo:=0) (n:=sz)) (fun j=>getS (zam 2 n) [0+(a:Int),j]) (by (first|lia|omega)) (fun _ _=>trivial) (fun j j0 j1 G2 sG2 Q2 hQ2=> ?_) fun acc2 G2 hacc2 sG2 hG2=>q acc2 G2 hacc2 hG2 sG2
    have hd2:=sG2 _ _ (sG1 _ _ hG)
    refine⟨_,rfl,Fd,rfl,.inr ⟨_,.inl hd2⟩,_,rfl,_,rfl,by show 2<=sizeLine;decide,fun u hu=> ?_⟩
    have su:=zac (o:=.tup [.int (0+(a:Int)),.int j]) hu
    have hu5:(upd G2 u (.tup [.int (0+(a:Int)),.int j])) u=some (.tup ((keyI [0+(a:Int),j]).map kV)):=by rw[za4];exact zab
    refine⟨_,DGet.t (su _ _ hd2) hu5, ?_⟩
    rw[zcS]
    exact hQ2 _ su
   ·rw [zaq] at hyl
    refine k acc ys G1 (sG.trans s1) hG1 ⟨by rw[hyl];simp[crsT],fun a z hz=> ?_⟩
    have ha:=(List.getElem?_eq_some_iff.mp hz).1
    rw[(hys a z hz).1]
    unfold crsT
    rw[zcp _ _ (by (first|lia|omega)),hsz]
    unfold num0
    simp only[Int.zero_add,List.map_map]
    rfl
end
end K19
namespace L2
open PySem PySem.Spec PyProof.Rows
noncomputable def ziC:TS:=fun D σ H=>∃i m:Nat,σ[3]? =some (some (.int i))/\σ[5]? =some (some (.int m))/\i<3/\m<=bP i/\∀(L:Addr) (zs:List Addr) (H':Hp),Same H H'->H' L=some (.lst (zs.map V.ref))->LsF H' zs (togZ i m)->D.nx (σ.set 8 (some (.ref L))) H'
end L2
namespace K19
open PySem PySem.Spec PyProof.Rows L2
noncomputable abbrev zcN:Stmt:=top 31
noncomputable def zgv (K:PySem.W.Frag):Sp:=fun vs H Q _=>∃(a:Addr) (ns:List Int),vs=[.ref a]/\SqL K H a (ns.map V.int)/\ns.length<=63/\∀H',Q (.bl true) H'
section
variable {P:Program}{w:World}{K:PySem.W.Frag}{mg:Str->Option Value}{base:Heap}
theorem sc_law:FnScope ["_law_script", "_law_pot_here", "_law_turn", "_law_at", "_law_far", "_law_many", "_law_one", "_law_other", "_law_rows"] ["_law_script"] (zag zcN):=⟨rfl,rfl,rfl,by decide+kernel,rfl,by decide+kernel,by decide+kernel⟩
set_option maxHeartbeats 16000000 in
noncomputable def lawT {f:Addr}{cdv:Value}{A:Around}{outer:List Env}{s:Shared}{H:Hp}{E:XK}(hr:Room 6 (A.deeper (envOfC "law" (zag zcN) s.heap.objs.size f cdv)))(T:Top mg)(C_law_pot:Cal P w K mg base 1 "_law_pot" ["_law_script"] (zge K))(C_law_take:Cal P w K mg base 1 "_law_take" ["_law_pot_here", "_law_many"] zep)(C_law_of_rounds:Cal P w K mg base 2 "_law_of_rounds" ["_law_many"] (za3 rndT 16))(C_law_of_highs:Cal P w K mg base 3 "_law_of_highs" ["_law_many"] (za3 hgT 16))
  (C_law_of_crossed:Cal P w K mg base 1 "_law_of_crossed" ["_law_many"] (za3 crsT 10)) (Ctogether:Cal P w K mg base 6 "together" ["one", "other", "many"] zgo) (C_law_same:Cal P w K mg base 3 "_law_same" ["_law_found", "_law_due"] (zcA K 2)):{t:TS//PSs (cxOf CX0 P w K mg base ["_law_script", "_law_pot_here", "_law_turn", "_law_at", "_law_far", "_law_many", "_law_one", "_law_other", "_law_rows"] "law" (zag zcN) f cdv A outer s H E).nox (zaO zcN) t}:=
 ⟨_, (zaf (zas (i:=1) sc_law.nd rfl (Or.inl rfl) (zaL C_law_pot (hr.mono (by decide)) rfl (zaa (pv 0) zae)))
   (zaf (zaS PassesOwn.never rfl (zat rfl T.n_range (zaa zad zae)) (zak (i:=2) sc_law.nd rfl (Or.inl rfl))
    (zaf (zgC (i:=3) (j:=4) rfl sc_law.nd rfl rfl (by decide) rfl rfl (zaa (zaL C_law_take (hr.mono (by decide)) rfl (zaa (pv 1) (zaa zad zae))) (zaa (zb1 zcX (zaL C_law_take (hr.mono (by decide)) rfl (zaa (pv 1) (zaa zad zae))) zad (za1 _)) zae)) rfl)
    (zaf (zas (i:=5) sc_law.nd rfl (Or.inl rfl) (zaL C_law_take (hr.mono (by decide)) rfl (zaa (pv 1) (zaa (zaT zau (zaW (zaa zad (zaa (zaT zau (zaW (zaa zad (zaa zad (zaa zad zae)))) (pv 3) (fun _ _=>rfl)) zae))) (zaw zbO (by rfl) T.n_int boot_int (zaa (pv 4) zae)) (fun _ _=>rfl)) zae))))
    (zaf (zb9 (zaT zfc (zaP (zaa (zaP (zaa zcq (zaa zcq zae))) (zaa (zaP (zaa zcq (zaa zcq zae))) (zaa (zaP (zaa zcq (zaa zcq zae))) zae)))) (pv 3) (fun _ _=>rfl)) (zbH (i:=6) (j:=7) rfl sc_law.nd rfl rfl (Or.inl rfl) (Or.inl rfl) (Or.inl rfl) (Or.inl rfl)))
    (zaf (PS.mono (zcs (za8 zcX (pv 3) zad (za1 _))
     (zaj (zas (i:=8) sc_law.nd rfl (Or.inl rfl) (zaL C_law_of_rounds (hr.mono (by decide)) rfl (zaa (pv 5) zae))))
     (zaj (zas (i:=8) sc_law.nd rfl (Or.inl rfl) (zeb (za8 zcX (pv 3) zad (za1 _)) (zaL C_law_of_highs (hr.mono (by decide)) rfl (zaa (pv 5) zae)) (zaL C_law_of_crossed (hr.mono (by decide)) rfl (zaa (pv 5) zae)))))) (t':=ziC) (by
     rintro D σ H ⟨i,m,e3,e5,hi,hm,k⟩
     have hh:i=0∨i=1∨i=2:=by (first|lia|omega)
     rcases hh with rfl|rfl|rfl
     ·refine ⟨.int (0:Nat),e3,rfl,_,rfl,ite2 (fun _=> ?_) (fun z=>absurd z (by decide))⟩
      exact⟨.int m,e5,m,rfl,hm,fun L zs H' s hL hz=>k L zs H' s hL (by rw[zgr (show m<=16 from hm)];exact hz)⟩
     ·refine ⟨.int (1:Nat),e3,rfl,_,rfl,ite2 (fun z=>absurd z (by decide)) (fun _=> ?_)⟩
      refine⟨.int (1:Nat),e3,rfl,_,rfl,ite2 (fun _=> ?_) (fun z=>absurd z (by decide))⟩
      exact⟨.int m,e5,m,rfl,hm,fun L zs H' s hL hz=>k L zs H' s hL (by rw[zhi (show m<=16 from hm)];exact hz)⟩
     ·refine ⟨.int (2:Nat),e3,rfl,_,rfl,ite2 (fun z=>absurd z (by decide)) (fun _=> ?_)⟩
      refine⟨.int (2:Nat),e3,rfl,_,rfl,ite2 (fun z=>absurd z (by decide)) (fun _=> ?_)⟩
      exact⟨.int m,e5,m,rfl,hm,fun L zs H' s hL hz=>k L zs H' s hL (by rw[zhj (show m<=10 from hm)];exact hz)⟩))
    (zaj (zcs (zeX (zd9 (zaL C_law_same (hr.mono (by decide)) rfl (zaa (zaL Ctogether (hr.mono (by decide)) rfl (zaa (pv 6) (zaa (pv 7) (zaa (pv 5) zae)))) (zaa (zaw zaE (by rfl) T.n_tuple boot_tuple (zaa (zcx (N':=["_law_row"]) (n:=1) (ix:=[]) rfl (CompScope.of (sc:=zag zcN) (N:=["_law_script", "_law_pot_here", "_law_turn", "_law_at", "_law_far", "_law_many", "_law_one", "_law_other", "_law_rows"]) (by decide+kernel) rfl rfl) (zct (pv 8)) (fun _ _ _ _ _=>⟨(zak (i:=0) (show (["_law_row"]:List Str).Nodup by decide+kernel) rfl (Or.inl rfl)),zaX,(zaw (zcU K rfl) (by rfl) T.n_tuple boot_tuple (zaa (pv 0) zae))⟩)) zae)) zae)))))
     (zaj (zaC zgM))
     zbd)))))))
   (zaj (zaC zgM))))⟩
end
end K19
namespace L2
open PySem PySem.Spec PyProof.Rows
theorem zgw {J:It}{Ok:Hp->Prop}{xs:List V}{te:TE}{ix:List Nat}{σ:L2.St}{H1:Hp}{Q:VK}(Y:Yields J Ok xs)(small:xs.length<sizeLine)(f:Nat->List Int)(hok:∀H,Same H1 H->Ok H)
  (he:∀(i:Nat) (x:V) (H:Hp),xs[i]? =some x->Same H1 H->∀(QT:VK),(∀(a:Addr) (H':Hp),Same H H'->H' a=some (.tup ((f i).map V.int))->QT (.ref a) H')->te (some x::ix.map fun i=>σ.getD i none) H QT)
  (fin:∀acc (zs:List Addr) H',H1 acc=none->Same H1 H'->H' acc=some (.lst (zs.map V.ref))->zs.length=xs.length->(∀(i:Nat) (z:Addr),zs[i]? =some z->H' z=some (.tup ((f i).map V.int)))->Q (.ref acc) H'):
  LcW J H1 (zbr 0) zaZ te 1 ix σ Q:=by
 intro acc ha
 refine⟨fun i m H=>m=xs.length-i/\i<=xs.length/\Same H1 H/\∃(zs:List Addr),H acc=some (.lst (zs.map V.ref))/\zs.length=i/\∀(j:Nat) (z:Addr),zs[j]? =some z->H z=some (.tup ((f j).map V.int)),⟨xs.length,by simp,Nat.zero_le _,zac ha,[],zab,rfl,fun _ _ h=>by cases h⟩, ?_⟩
 rintro i m H ⟨rfl,hi,kp,zs,hacc,hl,hD⟩
 have o:=hok _ kp
 by_cases hlt:i<xs.length
 ·refine .inr ⟨Y.go i _ o hlt,fun x H' y=> ?_⟩
  obtain⟨rfl,hx⟩:=Y.yld i _ x H' o hlt y
  refine⟨⟨rfl,fun j v e=> ?_⟩, ?_⟩
  ·cases j with
   |zero=>cases e
   |succ j=>exact e
  ·unfold zaZ
   dsimp only
   rw[if_pos rfl]
   refine he i x H' hx kp _ (fun a H4 k4 a4=> ?_)
   have h4:=k4 _ _ hacc
   refine⟨_,h4,by rw[List.length_map];(first|lia|omega),xs.length-(i+1),by (first|lia|omega),rfl,hlt,zan (kp.trans k4) ha,zs++[a],by rw[zab,List.map_append];rfl,by simp;(first|lia|omega),fun j z hj=> ?_⟩
   have hne:∀{b:Addr} {ns:List Int},H4 b=some (.tup (ns.map V.int))->b≠acc:=fun {b ns} hb e=>by rw[e,h4] at hb;cases hb
   by_cases c:j<zs.length
   ·rw [List.getElem?_append_left c] at hj
    have q:=k4 _ _ (hD j z hj)
    rw[zah (hne q)]
    exact q
   ·rw [List.getElem?_append_right (by (first|lia|omega))] at hj
    have hj0:j-zs.length=0:=by
     have:=(List.getElem?_eq_some_iff.mp hj).1
     simp at this
     (first|lia|omega)
    rw[hj0] at hj
    simp at hj
    subst hj
    have:j=i:=by (first|lia|omega)
    subst this
    rw[zah (hne a4)]
    exact a4
 ·have e:i=xs.length:=by (first|lia|omega)
  subst e
  exact .inl ⟨Y.stop _ o,fin acc zs H ha kp hacc hl hD⟩
theorem zfR {H:Hp}:∀{zs:List Addr} {R:List (List Int)},zs.length=R.length->(∀(i:Nat) (z:Addr),zs[i]? =some z->H z=some (.tup ((R.getD i []).map V.int)))->RowsAt H zs R
 |[],[],_,_=>.nil
 |z::zs,r::R,h,k=>.cons (k 0 z rfl) (zfR (by simpa using h) fun i y hy=>k (i+1) y hy)
theorem zd6 {K:PySem.W.Frag}{H:Hp}{a b:Addr}{ys zs:List Addr}{R:List (List Int)}(ha:H a=some (.tup (ys.map V.ref)))(hb:H b=some (.tup (zs.map V.ref)))(hy:RowsAt H ys R)(hz:RowsAt H zs R)(hl:R.length<=1000)(hr:∀r∈R,r.length<=1000):AlikeK K H 2 (.ref a) (.ref b):=by
 refine .inr ⟨a,b,_,_,rfl,rfl,SqT.of ha,SqT.of hb, ?_, ?_⟩
 ·have:=Paired.length hy
  rw[List.length_map,this]
  exact hl
 ·clear ha hb hl
  induction hy generalizing zs with
  |nil=>cases hz;exact .nil
  |cons h1 h2 ih=>
   cases hz with
   |cons k1 k2=>exact .cons (zdW (SqT.of h1) (SqT.of k1) (hr _ (List.mem_cons_self ..))) (ih k2 fun r hm=>hr r (List.mem_cons_of_mem _ hm))
theorem zgx {i n:Nat}(hn:n<=bP i):(togZ i n).length<=1000/\∀r∈togZ i n,r.length<=1000:=by
 obtain⟨b1,b2⟩:=zgH hn
 have l1:=zbW b1
 have l2:=zbW b2
 unfold togZ
 refine⟨by simp;(first|lia|omega),fun r hr=> ?_⟩
 obtain⟨k,_,rfl⟩:=List.mem_map.mp hr
 simp;(first|lia|omega)
end L2
namespace K19
open PySem PySem.Spec PyProof.Rows L2
section
variable {P:Program}{w:World}{K:PySem.W.Frag}{mg:Str->Option Value}{base:Heap}
set_option maxHeartbeats 4000000 in
theorem zh8 {f:Addr}{fd:FuncData}(F:Fun K "law" "law" zcN f fd)(T:Top mg)(C_law_pot:Cal P w K mg base 1 "_law_pot" ["_law_script"] (zge K))(C_law_take:Cal P w K mg base 1 "_law_take" ["_law_pot_here", "_law_many"] zep)(C_law_of_rounds:Cal P w K mg base 2 "_law_of_rounds" ["_law_many"] (za3 rndT 16))(C_law_of_highs:Cal P w K mg base 3 "_law_of_highs" ["_law_many"] (za3 hgT 16))
  (C_law_of_crossed:Cal P w K mg base 1 "_law_of_crossed" ["_law_many"] (za3 crsT 10)) (Ctogether:Cal P w K mg base 6 "together" ["one", "other", "many"] zgo) (C_law_same:Cal P w K mg base 3 "_law_same" ["_law_found", "_law_due"] (zcA K 2)):FnOk P w K mg base CX0 7 f fd ["_law_script"] (zgv K):=by
 refine F.ok sc_law (fun vs H Q E h=> ?_) (fun cdv A outer s H vs Q E hr h=> ?_)
 ·obtain ⟨a,ns,rfl,_⟩:=h
  rfl
 ·obtain ⟨a,ns,rfl,hS,hl,k⟩:=h
  refine⟨_,(lawT hr T C_law_pot C_law_take C_law_of_rounds C_law_of_highs C_law_of_crossed Ctogether C_law_same).2, ?_⟩
  refine⟨_,rfl,a,ns,rfl,hS,hl,fun p q H1 s1 hh1 _ _=> ?_⟩
  refine⟨_,rfl,by decide,by decide, ?_⟩
  refine zaI (lo:=0) (n:=2) (fun i σ G=>∃c2 c3 c4 c5 c6 c7 c8:Option V,σ=[some (.ref a),some (.ref p),c2,c3,c4,c5,c6,c7,c8]/\Pot G p q) ⟨_,_,_,_,_,_,_,rfl,hh1⟩ ?_ ?_
  ·rintro j σ G hj ⟨c2,c3,c4,c5,c6,c7,c8,rfl,hG⟩
   refine⟨_,rfl,p,q,3,rfl,by decide,by decide,hG,fun at_ G1 t0 t1 hG1 _=> ?_⟩
   refine⟨_,rfl,p,q,8,rfl,by decide,by decide,hG1,fun fr G2 f0 f1 hG2 _=> ?_⟩
   refine⟨rfl,_,_,rfl, ?_⟩
   obtain⟨i,rfl⟩:∃i:Nat,at_=(i:Int):=⟨at_.toNat,by (first|lia|omega)⟩
   have hi:i<3:=by (first|lia|omega)
   generalize hfar:decide (V.int fr=V.int 0)=far
   have h17:∃B:Int,atI [V.int 17,V.int 17,V.int 11] (i:Int)=some (V.int B)/\B=bP i+1/\8<=bP i:=by
    have hh:i=0∨i=1∨i=2:=by (first|lia|omega)
    rcases hh with rfl|rfl|rfl<;>exact⟨_,rfl,rfl,by decide⟩
   obtain⟨B,hB,eB,hb8⟩:=h17
   have hb16:=zgn (i:=i)
   have h9:atI [V.int 9,V.int B] (if far=true then 1 else 0)=some (V.int (if far=true then B else 9)):=by cases far<;>rfl
   refine⟨_,rfl,by show 3<=sizeLine;decide,fun l1 hl1=> ?_⟩
   refine⟨_,rfl,l1,_,_,_,rfl,rfl,SqL.of zab,hB,by show 2<=sizeLine;decide,fun l2 hl2=> ?_⟩
   refine⟨_,rfl,.inr ⟨far,rfl,l2,_,_,_,rfl,rfl,SqL.of zab,h9, ?_⟩⟩
   have u2:=(zac (o:=.lst [.int 17,.int 17,.int 11]) hl1).trans (zac (o:=.lst [.int 9,.int B]) hl2)
   refine⟨p,q,_,rfl,by split<;>(first|lia|omega),by split<;>(first|lia|omega),hG2.same u2,fun mm G3 m0 m1 hG3 _=> ?_⟩
   obtain⟨m,rfl⟩:∃m:Nat,mm=(m:Int):=⟨mm.toNat,by (first|lia|omega)⟩
   have hm:m<=bP i:=by
    split at m1<;>(first|lia|omega)
   refine⟨by show 2<=sizeLine;decide,fun a1 ha1=>⟨by show 2<=sizeLine;decide,fun b1 hb1=>⟨by show 2<=sizeLine;decide,fun c1 hc1=>⟨by show 3<=sizeLine;decide,fun t ht=> ?_⟩⟩⟩⟩
   have g1:=zac (o:=.tup [.str "rounds",.str "stays"]) ha1
   have g2:=zac (o:=.tup [.str "rises",.str "highs"]) hb1
   have g3:=zac (o:=.tup [.str "highs",.str "crossed"]) hc1
   have g4:=zac (o:=.tup [.ref a1,.ref b1,.ref c1]) ht
   have gA:=g4 _ _ (g3 _ _ (g2 _ _ (zab (H:=G3) (a:=a1))))
   have gB:=g4 _ _ (g3 _ _ (zab (H:=upd G3 a1 (.tup [.str "rounds",.str "stays"])) (a:=b1)))
   have gC:=g4 _ _ (zab (H:=upd (upd G3 a1 (.tup [.str "rounds",.str "stays"])) b1 (.tup [.str "rises",.str "highs"])) (a:=c1))
   have gT:=zab (H:=upd (upd (upd G3 a1 (.tup [.str "rounds",.str "stays"])) b1 (.tup [.str "rises",.str "highs"])) c1 (.tup [.str "highs",.str "crossed"])) (a:=t) (o:=.tup [.ref a1,.ref b1,.ref c1])
   have s4:=((g1.trans g2).trans g3).trans g4
   generalize (upd (upd (upd (upd G3 a1 (.tup [.str "rounds",.str "stays"])) b1 (.tup [.str "rises",.str "highs"])) c1 (.tup [.str "highs",.str "crossed"])) t (.tup [.ref a1,.ref b1,.ref c1]))=G4 at gA gB gC gT s4 ⊢
   have hz3:∃z,atI [V.ref a1,V.ref b1,V.ref c1] (i:Int)=some (V.ref z)/\G4 z=some (.tup [.str (nmP i).1,.str (nmP i).2]):=by
    have hh:i=0∨i=1∨i=2:=by (first|lia|omega)
    rcases hh with rfl|rfl|rfl
    ·exact⟨a1,rfl,gA⟩
    ·exact⟨b1,rfl,gB⟩
    ·exact⟨c1,rfl,gC⟩
   obtain⟨z,hz1,hz2⟩:=hz3
   refine⟨_,rfl,t,_,_,_,rfl,rfl,SqT.of gT,hz1, ?_⟩
   refine⟨z,_,rfl,SqT.of hz2,rfl,_,_,rfl,_,_,rfl,rfl, ?_⟩
   refine⟨i,m,rfl,rfl,hi,hm,fun L zs G5 s5 hL hZ=> ?_⟩
   obtain⟨w1,w2⟩:=zgx hm
   refine⟨_,rfl,_,rfl,_,rfl,i,m,rfl,hi,hm,fun r rs G6 s6 hr6 hR6=> ?_⟩
   have hL6:=s6 _ _ hL
   have hZ6:=hZ.same s6
   refine⟨_,rfl,L,rfl,⟨_,SqL.of hL6⟩, ?_⟩
   refine zgw (zbk (K:=K) (a:=L)) (zba (by rw[zbA,hZ.len];exact w1)) (fun i'=>(togZ i m).getD i' []) (fun G' s=>SqL.of (s _ _ hL6)) (fun i' x G' hx sG' QT qq=> ?_) fun acc ys G7 hacc s7 hys hyl hyr=> ?_
   ·rw [List.getElem?_map] at hx
    obtain⟨z',hz',rfl⟩:=Option.map_eq_some_iff.mp hx
    refine⟨_,rfl,z',_,rfl,.inl ⟨SqL.of (sG' _ _ (hZ6.at_ i' z' hz')),fun y hy=> ?_⟩⟩
    exact qq y _ (zac hy) zab
   ·refine ⟨acc,_,rfl,.inl ⟨SqL.of hys,fun y hy=> ?_⟩⟩
    have s8:=zac (o:=.tup (ys.map V.ref)) hy
    rw[zbA] at hyl
    have hR8:RowsAt (upd G7 y (.tup (ys.map V.ref))) ys (togZ i m):=zfR (by rw[hyl,hZ.len]) fun i' z' hz'=>s8 _ _ (hyr i' z' hz')
    refine⟨_,_,rfl,zd6 ((s7.trans s8) _ _ hr6) zab (hR6.same (s7.trans s8)) hR8 w1 w2,fun Ga sa=>⟨_,rfl,iteF ?_⟩⟩
    exact⟨_,_,_,_,_,_,_,rfl,hG3.same ((((s4.trans s5).trans s6).trans (s7.trans s8)).trans sa)⟩
  ·rintro σ G ⟨c2,c3,c4,c5,c6,c7,c8,rfl,hG⟩
   exact k G
end
end K19
namespace L2
open PySem PySem.Spec PyProof.Rows
section
variable {K:PySem.W.Frag}{x qual:Str}{st:Stmt}{f:Addr}{fd:FuncData}
theorem Fun.b1 {p0:Str}(F:Fun K x qual st f fd)(h:∀(kV doc pm:Value) (an:Option Addr) (cdv ct:Value) (a0:Value),bindArgs (PySem.W.fnOf x qual (zbe st) (zaO st) (zag st) .none kV doc pm an cdv ct) ⟨[a0],[]⟩=pure (([p0]:List Str).zip [a0])):Binds K fd [p0] []:=
 F.binds fun kV doc pm an cdv ct us hl=>match us,hl with|[a0],_=>h kV doc pm an cdv ct a0
theorem Fun.b2 {p0 p1:Str}(F:Fun K x qual st f fd)(h:∀(kV doc pm:Value) (an:Option Addr) (cdv ct:Value) (a0 a1:Value),bindArgs (PySem.W.fnOf x qual (zbe st) (zaO st) (zag st) .none kV doc pm an cdv ct) ⟨[a0,a1],[]⟩=pure (([p0,p1]:List Str).zip [a0,a1])):Binds K fd [p0,p1] []:=
 F.binds fun kV doc pm an cdv ct us hl=>match us,hl with|[a0,a1],_=>h kV doc pm an cdv ct a0 a1
theorem Fun.b3 {p0 p1 p2:Str}(F:Fun K x qual st f fd)(h:∀(kV doc pm:Value) (an:Option Addr) (cdv ct:Value) (a0 a1 a2:Value),bindArgs (PySem.W.fnOf x qual (zbe st) (zaO st) (zag st) .none kV doc pm an cdv ct) ⟨[a0,a1,a2],[]⟩=pure (([p0,p1,p2]:List Str).zip [a0,a1,a2])):Binds K fd [p0,p1,p2] []:=
 F.binds fun kV doc pm an cdv ct us hl=>match us,hl with|[a0,a1,a2],_=>h kV doc pm an cdv ct a0 a1 a2
end
theorem on3 {p:Nat->Prop}(h0:p 0)(h1:p 1)(h2:p 2):∀i,i<3->p i:=fun i h=>by
 have:i=0∨i=1∨i=2:=by (first|lia|omega)
 rcases this with rfl|rfl|rfl
 ·exact h0
 ·exact h1
 ·exact h2
end L2
namespace K19
open PySem PySem.Spec PyProof.Rows L2
set_option maxHeartbeats 8000000 in
theorem all_mk {l:PySem.W.OpenLaw}{w:World}{K:PySem.W.Frag}{h:Heap}{mg:Str->Option Value}{fa C_ROWS C_ONWARDS k_ONWARDS_0 k_ONWARDS_1 k_ONWARDS_2 T_FIRST_ROW g_rounds_row g_stays_row g_rises_row g_crossed_row g_rounds_and_stays_on g_rises_and_highs_on g_highs_and_crossed_on:Addr}(X:K.In h)(G:h.Ns mainGlobals mg)(hfa:mg "law" =some (.ref fa))(TK:TopK K)(a_ROWS:PySem.W.nsIn K mainGlobals "ROWS" =some (some (.ref C_ROWS)))(GD_ROWS:GDict K w.params C_ROWS [("rounds",g_rounds_row),("stays",g_stays_row),("rises",g_rises_row),("highs",g_rounds_row),("crossed",g_crossed_row)])(a_ONWARDS:PySem.W.nsIn K mainGlobals "ONWARDS" =some (some (.ref C_ONWARDS)))(GT_ONWARDS:GTup K w C_ONWARDS [([.inr "rounds",.inr "stays"],k_ONWARDS_0,g_rounds_and_stays_on),([.inr "rises",.inr "highs"],k_ONWARDS_1,g_rises_and_highs_on),([.inr "highs",.inr "crossed"],k_ONWARDS_2,g_highs_and_crossed_on)])(a_FIRST_ROW:PySem.W.nsIn K mainGlobals "FIRST_ROW" =some (some (.ref T_FIRST_ROW)))(h_FIRST_ROW:∀H,SqT K H T_FIRST_ROW ([1].map V.int))(n_rounds_row:PySem.W.nsIn K mainGlobals "rounds_row" =some (some (.ref g_rounds_row)))(n_stays_row:PySem.W.nsIn K mainGlobals "stays_row" =some (some (.ref g_stays_row)))(n_rises_row:PySem.W.nsIn K mainGlobals "rises_row" =some (some (.ref g_rises_row)))(n_crossed_row:PySem.W.nsIn K mainGlobals "crossed_row" =some (some (.ref g_crossed_row)))(n_rounds_and_stays_on:PySem.W.nsIn K mainGlobals "rounds_and_stays_on" =some (some (.ref g_rounds_and_stays_on)))(n_rises_and_highs_on:PySem.W.nsIn K mainGlobals "rises_and_highs_on" =some (some (.ref g_rises_and_highs_on)))(n_highs_and_crossed_on:PySem.W.nsIn K mainGlobals "highs_and_crossed_on" =some (some (.ref g_highs_and_crossed_on)))
  (d__law_pot:Def K "_law_pot" zbC) (d__law_take:Def K "_law_take" zbJ) (d__law_ways:Def K "_law_ways" zbM) (d__law_of_rounds:Def K "_law_of_rounds" zar) (d__law_of_rises:Def K "_law_of_rises" zaK) (d__law_of_highs:Def K "_law_of_highs" zay) (d__law_of_crossed:Def K "_law_of_crossed" zav) (d_rounds_and_stays_on:Def K "rounds_and_stays_on" zaR) (d_rises_and_highs_on:Def K "rises_and_highs_on" zaU) (d_highs_and_crossed_on:Def K "highs_and_crossed_on" zaA) (d_pairs_told:Def K "pairs_told" zaY) (d_number_at:Def K "number_at" zbK) (d_rounds_row:Def K "rounds_row" zbb) (d_stays_row:Def K "stays_row" zbm) (d_rises_row:Def K "rises_row" zbn) (d_crossed_row:Def K "crossed_row" za5) (d_next_row:Def K "next_row" zb7) (d_steps:Def K "steps" zd1) (d_told:Def K "told" zfD) (d_together:Def K "together" za0) (d__law_same:Def K "_law_same" zbp) (d_law:Def K "law" zcN):
  ∃fd:FuncData,(∀(s:Shared) (v:Value),BindsTo s fd ⟨[v],[]⟩ [("_law_script",v)])/\∀base:Heap,K.In base->base.Ns mainGlobals mg->FnOk l.prog w K mg base CX0 7 fa fd ["_law_script"] (zgv K):=by
 have T:Top mg:=TK.top X G
 obtain⟨f__law_pot,e__law_pot,F__law_pot,m__law_pot⟩:=d__law_pot.fn X G
 obtain⟨f__law_take,e__law_take,F__law_take,m__law_take⟩:=d__law_take.fn X G
 obtain⟨f__law_ways,e__law_ways,F__law_ways,m__law_ways⟩:=d__law_ways.fn X G
 obtain⟨f__law_of_rounds,e__law_of_rounds,F__law_of_rounds,m__law_of_rounds⟩:=d__law_of_rounds.fn X G
 obtain⟨f__law_of_rises,e__law_of_rises,F__law_of_rises,m__law_of_rises⟩:=d__law_of_rises.fn X G
 obtain⟨f__law_of_highs,e__law_of_highs,F__law_of_highs,m__law_of_highs⟩:=d__law_of_highs.fn X G
 obtain⟨f__law_of_crossed,e__law_of_crossed,F__law_of_crossed,m__law_of_crossed⟩:=d__law_of_crossed.fn X G
 obtain⟨f_rounds_and_stays_on,e_rounds_and_stays_on,F_rounds_and_stays_on,m_rounds_and_stays_on⟩:=d_rounds_and_stays_on.fn X G
 obtain⟨f_rises_and_highs_on,e_rises_and_highs_on,F_rises_and_highs_on,m_rises_and_highs_on⟩:=d_rises_and_highs_on.fn X G
 obtain⟨f_highs_and_crossed_on,e_highs_and_crossed_on,F_highs_and_crossed_on,m_highs_and_crossed_on⟩:=d_highs_and_crossed_on.fn X G
 obtain⟨f_pairs_told,e_pairs_told,F_pairs_told,m_pairs_told⟩:=d_pairs_told.fn X G
 obtain⟨f_number_at,e_number_at,F_number_at,m_number_at⟩:=d_number_at.fn X G
 obtain⟨f_rounds_row,e_rounds_row,F_rounds_row,m_rounds_row⟩:=d_rounds_row.fn X G
 obtain⟨f_stays_row,e_stays_row,F_stays_row,m_stays_row⟩:=d_stays_row.fn X G
 obtain⟨f_rises_row,e_rises_row,F_rises_row,m_rises_row⟩:=d_rises_row.fn X G
 obtain⟨f_crossed_row,e_crossed_row,F_crossed_row,m_crossed_row⟩:=d_crossed_row.fn X G
 obtain⟨f_next_row,e_next_row,F_next_row,m_next_row⟩:=d_next_row.fn X G
 obtain⟨f_steps,e_steps,F_steps,m_steps⟩:=d_steps.fn X G
 obtain⟨f_told,e_told,F_told,m_told⟩:=d_told.fn X G
 obtain⟨f_together,e_together,F_together,m_together⟩:=d_together.fn X G
 obtain⟨f__law_same,e__law_same,F__law_same,m__law_same⟩:=d__law_same.fn X G
 obtain⟨f_law,e_law,F_law,m_law⟩:=d_law.fn X G
 have b__law_pot:Binds K _ ["_law_script"] []:=F__law_pot.b1 fun _ _ _ _ _ _ _=>rfl
 have b__law_take:Binds K _ ["_law_pot_here", "_law_many"] []:=F__law_take.b2 fun _ _ _ _ _ _ _ _=>rfl
 have b__law_ways:Binds K _ ["_law_many", "_law_number"] []:=F__law_ways.b2 fun _ _ _ _ _ _ _ _=>rfl
 have b__law_of_rounds:Binds K _ ["_law_many"] []:=F__law_of_rounds.b1 fun _ _ _ _ _ _ _=>rfl
 have b__law_of_rises:Binds K _ ["_law_many"] []:=F__law_of_rises.b1 fun _ _ _ _ _ _ _=>rfl
 have b__law_of_highs:Binds K _ ["_law_many"] []:=F__law_of_highs.b1 fun _ _ _ _ _ _ _=>rfl
 have b__law_of_crossed:Binds K _ ["_law_many"] []:=F__law_of_crossed.b1 fun _ _ _ _ _ _ _=>rfl
 have b_rounds_and_stays_on:Binds K _ ["many", "rounds", "stays"] []:=F_rounds_and_stays_on.b3 fun _ _ _ _ _ _ _ _ _=>rfl
 have b_rises_and_highs_on:Binds K _ ["many", "rises", "highs"] []:=F_rises_and_highs_on.b3 fun _ _ _ _ _ _ _ _ _=>rfl
 have b_highs_and_crossed_on:Binds K _ ["many", "highs", "crossed"] []:=F_highs_and_crossed_on.b3 fun _ _ _ _ _ _ _ _ _=>rfl
 have b_pairs_told:Binds K _ ["one", "other", "many"] []:=F_pairs_told.b3 fun _ _ _ _ _ _ _ _ _=>rfl
 have b_number_at:Binds K _ ["row", "place"] []:=F_number_at.b2 fun _ _ _ _ _ _ _ _=>rfl
 have b_rounds_row:Binds K _ ["many", "ahead"] []:=F_rounds_row.b2 fun _ _ _ _ _ _ _ _=>rfl
 have b_stays_row:Binds K _ ["many", "ahead"] []:=F_stays_row.b2 fun _ _ _ _ _ _ _ _=>rfl
 have b_rises_row:Binds K _ ["many", "ahead"] []:=F_rises_row.b2 fun _ _ _ _ _ _ _ _=>rfl
 have b_crossed_row:Binds K _ ["many", "ahead"] []:=F_crossed_row.b2 fun _ _ _ _ _ _ _ _=>rfl
 have b_next_row:Binds K _ ["kind", "many", "ahead"] []:=F_next_row.b3 fun _ _ _ _ _ _ _ _ _=>rfl
 have b_steps:Binds K _ ["kind", "many"] []:=F_steps.b2 fun _ _ _ _ _ _ _ _=>rfl
 have b_told:Binds K _ ["kind", "many"] []:=F_told.b2 fun _ _ _ _ _ _ _ _=>rfl
 have b_together:Binds K _ ["one", "other", "many"] []:=F_together.b3 fun _ _ _ _ _ _ _ _ _=>rfl
 have b__law_same:Binds K _ ["_law_found", "_law_due"] []:=F__law_same.b2 fun _ _ _ _ _ _ _ _=>rfl
 have e:fa=f_law:=by
  have q:=hfa.symm.trans m_law
  cases q
  rfl
 subst e
 obtain⟨oc,od,kV,doc,pm,an,cdv,ct,osl,rfl,lk,hcd⟩:=F_law.ex
 refine⟨PySem.W.fnOf "law" "law" (zbe zcN) (zaO zcN) (zag zcN) .none kV doc pm an cdv ct,fun s v=>.of_eq rfl,fun base _ _=> ?_⟩
 have C_law_pot:Cal l.prog w K mg base 1 "_law_pot" ["_law_script"] (zge K):=⟨f__law_pot,e__law_pot,zd0 F__law_pot T,m__law_pot,F__law_pot.kp,b__law_pot⟩
 have C_law_take:Cal l.prog w K mg base 1 "_law_take" ["_law_pot_here", "_law_many"] (zep):=⟨f__law_take,e__law_take,zdz F__law_take,m__law_take,F__law_take.kp,b__law_take⟩
 have C_law_ways:Cal l.prog w K mg base 1 "_law_ways" ["_law_many", "_law_number"] (zdI):=⟨f__law_ways,e__law_ways,zdK F__law_ways T,m__law_ways,F__law_ways.kp,b__law_ways⟩
 have C_law_of_rounds:Cal l.prog w K mg base 2 "_law_of_rounds" ["_law_many"] (za3 rndT 16):=⟨f__law_of_rounds,e__law_of_rounds,zb8 F__law_of_rounds T C_law_ways,m__law_of_rounds,F__law_of_rounds.kp,b__law_of_rounds⟩
 have C_law_of_rises:Cal l.prog w K mg base 2 "_law_of_rises" ["_law_many"] (za3 rsA 16):=⟨f__law_of_rises,e__law_of_rises,zcl F__law_of_rises T C_law_ways,m__law_of_rises,F__law_of_rises.kp,b__law_of_rises⟩
 have C_law_of_highs:Cal l.prog w K mg base 3 "_law_of_highs" ["_law_many"] (za3 hgT 16):=⟨f__law_of_highs,e__law_of_highs,zcm F__law_of_highs T C_law_ways C_law_of_rises,m__law_of_highs,F__law_of_highs.kp,b__law_of_highs⟩
 have C_law_of_crossed:Cal l.prog w K mg base 1 "_law_of_crossed" ["_law_many"] (za3 crsT 10):=⟨f__law_of_crossed,e__law_of_crossed,zbY F__law_of_crossed T,m__law_of_crossed,F__law_of_crossed.kp,b__law_of_crossed⟩
 have Crounds_and_stays_on:Cal l.prog w K mg base 1 "rounds_and_stays_on" ["many", "rounds", "stays"] (spOn 0):=⟨f_rounds_and_stays_on,e_rounds_and_stays_on,zbt F_rounds_and_stays_on,m_rounds_and_stays_on,F_rounds_and_stays_on.kp,b_rounds_and_stays_on⟩
 have Crises_and_highs_on:Cal l.prog w K mg base 1 "rises_and_highs_on" ["many", "rises", "highs"] (spOn 1):=⟨f_rises_and_highs_on,e_rises_and_highs_on,zbx F_rises_and_highs_on,m_rises_and_highs_on,F_rises_and_highs_on.kp,b_rises_and_highs_on⟩
 have Chighs_and_crossed_on:Cal l.prog w K mg base 1 "highs_and_crossed_on" ["many", "highs", "crossed"] (spOn 2):=⟨f_highs_and_crossed_on,e_highs_and_crossed_on,zbo F_highs_and_crossed_on T,m_highs_and_crossed_on,F_highs_and_crossed_on.kp,b_highs_and_crossed_on⟩
 have Cpairs_told:Cal l.prog w K mg base 2 "pairs_told" ["one", "other", "many"] (zdb):=⟨f_pairs_told,e_pairs_told,zdc F_pairs_told T (PySem.W.mg_of X G a_ONWARDS) GT_ONWARDS (on3 ⟨_,_,_,CalF.of Crounds_and_stays_on (PySem.W.mg_of X G n_rounds_and_stays_on) (by decide),.head _⟩ ⟨_,_,_,CalF.of Crises_and_highs_on (PySem.W.mg_of X G n_rises_and_highs_on) (by decide),.tail _ (.head _)⟩ ⟨_,_,_,CalF.of Chighs_and_crossed_on (PySem.W.mg_of X G n_highs_and_crossed_on) (by decide),.tail _ (.tail _ (.head _))⟩),m_pairs_told,F_pairs_told.kp,b_pairs_told⟩
 have Cnumber_at:Cal l.prog w K mg base 1 "number_at" ["row", "place"] (zcB K):=⟨f_number_at,e_number_at,zdB F_number_at T,m_number_at,F_number_at.kp,b_number_at⟩
 have Crounds_row:Cal l.prog w K mg base 2 "rounds_row" ["many", "ahead"] (zck K 60 zbw):=⟨f_rounds_row,e_rounds_row,zc9 F_rounds_row T Cnumber_at,m_rounds_row,F_rounds_row.kp,b_rounds_row⟩
 have Cstays_row:Cal l.prog w K mg base 2 "stays_row" ["many", "ahead"] (zck K 60 zbS):=⟨f_stays_row,e_stays_row,zdE F_stays_row T Cnumber_at,m_stays_row,F_stays_row.kp,b_stays_row⟩
 have Crises_row:Cal l.prog w K mg base 2 "rises_row" ["many", "ahead"] (zck K 60 zbT):=⟨f_rises_row,e_rises_row,zdF F_rises_row T Cnumber_at,m_rises_row,F_rises_row.kp,b_rises_row⟩
 have Ccrossed_row:Cal l.prog w K mg base 2 "crossed_row" ["many", "ahead"] (zck K 24 zbi):=⟨f_crossed_row,e_crossed_row,zcL F_crossed_row T,m_crossed_row,F_crossed_row.kp,b_crossed_row⟩
 have Cnext_row:Cal l.prog w K mg base 3 "next_row" ["kind", "many", "ahead"] (zfy K):=⟨f_next_row,e_next_row,zd2 F_next_row (PySem.W.mg_of X G a_ROWS) GD_ROWS (CalF.of Crounds_row (PySem.W.mg_of X G n_rounds_row) (by decide)) (CalF.of Cstays_row (PySem.W.mg_of X G n_stays_row) (by decide)) (CalF.of Crises_row (PySem.W.mg_of X G n_rises_row) (by decide)) (CalF.of Ccrossed_row (PySem.W.mg_of X G n_crossed_row) (by decide)),m_next_row,F_next_row.kp,b_next_row⟩
 have Csteps:Cal l.prog w K mg base 4 "steps" ["kind", "many"] (zdX K):=⟨f_steps,e_steps,zgm F_steps T (PySem.W.mg_of X G a_FIRST_ROW) h_FIRST_ROW Cnext_row,m_steps,F_steps.kp,b_steps⟩
 have Ctold:Cal l.prog w K mg base 5 "told" ["kind", "many"] (zeq K):=⟨f_told,e_told,zhd F_told T Csteps,m_told,F_told.kp,b_told⟩
 have Ctogether:Cal l.prog w K mg base 6 "together" ["one", "other", "many"] (zgo):=⟨f_together,e_together,zd4 F_together T Cpairs_told Ctold,m_together,F_together.kp,b_together⟩
 have C_law_same_2:Cal l.prog w K mg base 3 "_law_same" ["_law_found", "_law_due"] (zcA K 2):=⟨f__law_same,e__law_same,zci F__law_same T m__law_same b__law_same 2,m__law_same,F__law_same.kp,b__law_same⟩
 exact zh8 F_law T C_law_pot C_law_take C_law_of_rounds C_law_of_highs C_law_of_crossed Ctogether C_law_same_2
theorem walk {l:PySem.W.OpenLaw}{q:Program}{loose:List Str}{XP:(Str->Option Value)->Heap->Prop}{YP:World->Heap->Prop}{d:DefRec}{K:Params->PySem.W.Frag}(hn:l.most=some 63)(hdf:d.params.defaults=[])
  (hY:∀(w:World) (h:Heap),YP w h->(K w.params).In h)
  (F:∀(w:World) (mg:Str->Option Value) (fa:Addr) (h:Heap),(K w.params).In h->h.Ns mainGlobals mg->mg d.name=some (.ref fa)->
   ∃fd:FuncData,(∀(s:Shared) (u:Value),BindsTo s fd ⟨[u],[]⟩ [("_law_script",u)])/\∀base:Heap,(K w.params).In base->base.Ns mainGlobals mg->FnOk l.prog w (K w.params) mg base CX0 7 fa fd ["_law_script"] (zgv (K w.params))):
  PySem.W.WalkO q loose XP YP l.row.toRowW d [] (fun f vs=>PySem.call f vs):=
 L2.zgW (n:=63) (k:=7) (x:= "_law_script") (CX:=fun _=>CX0) (sp:=fun w=>zgv (K w.params)) hn (by decide) hdf ⟨rfl,by decide,by decide,rfl⟩ hY F (fun _ _ a ns hl _ hS=>⟨a,ns,rfl,hS,hl,fun _=>rfl⟩) fun _ _ _ _ _ z=>z
end K19
namespace SH
open PySem PySem.W PySem.Calls PyProof.Rows
noncomputable def Sg (p:Program)(m₀:Nat)(ann:Option Value)(q:Pos)(c:Code)(w:World)(b:Nat){α:Type}(S:Shared)(x:Sem α)(a:α)(S':Shared):Prop:=
 ∀(K:α->Sem Fin) (H:Value->Sem Fin) (gd:Bool->Bool) (lv:List Value->List Value) (pos:Pos),∃n pos',n<=b/\∀N r,segRun treeTable p w m₀ ann 1 N S' ⟨K a,c,pos',[topFrame q]⟩=some r->
  segRun treeTable p w m₀ ann 1 (n+N) S ⟨x.wrap K H gd lv,c,pos,[topFrame q]⟩=some r
section
variable {p:Program}{w:World}{m₀:Nat}{ann:Option Value}{q:Pos}{c:Code}{α β:Type}{S S₁ S₂ S₃ S₄ S':Shared}{b b₁ b₂ b₃ b₄:Nat}
theorem Sg.mono {x:Sem α}{a:α}(h:Sg p m₀ ann q c w b S x a S')(hb:b<=b₁):Sg p m₀ ann q c w b₁ S x a S':=fun K H gd lv pos=>by
 obtain⟨n,p',hn,h⟩:=h K H gd lv pos
 exact⟨n,p',Nat.le_trans hn hb,h⟩
theorem Sg.pure {a:α}:Sg p m₀ ann q c w 0 S (Pure.pure a:Sem α) a S:=fun K H gd lv pos=>⟨0,pos,Nat.le_refl 0,fun N r h=>by rw[Nat.zero_add];exact h⟩
theorem Sg.bind {x:Sem α}{f:α->Sem β}{a:α}{y:β}(hx:Sg p m₀ ann q c w b₁ S x a S₁)(hf:Sg p m₀ ann q c w b₂ S₁ (f a) y S'):Sg p m₀ ann q c w (b₁+b₂) S (x >>= f) y S':=fun K H gd lv pos=>by
 rw[Sem.bind_eq_wrap',Sem.wrap_wrap]
 obtain⟨n,p1,n1,h1⟩:=hx (fun a=>(f a).wrap K H gd lv) (fun e=>(Sem.raise e).wrap K H gd lv) (fun g=>gd (id g)) (fun l=>lv (id l)) pos
 obtain⟨m,p2,n2,h2⟩:=hf K H gd lv p1
 exact⟨n+m,p2,Nat.add_le_add n1 n2,fun N r h=>by rw[Nat.add_assoc];exact h1 _ _ (h2 _ _ h)⟩
theorem Sg.keep {vs:List Value}{x:Sem α}{a:α}(hx:Sg p m₀ ann q c w b S x a S'):Sg p m₀ ann q c w b S (x.keep vs) a S':=fun K H gd lv pos=>by
 rw[Sem.keep_eq_wrap,Sem.wrap_wrap]
 exact hx (fun a=>(Sem.pure a).wrap K H gd lv) _ _ _ pos
theorem Sg.holding {vs:List Value}{x:Sem α}{a:α}(hx:Sg p m₀ ann q c w b S x a S'):Sg p m₀ ann q c w b S (PySem.holding vs x) a S':=by
 unfold PySem.holding
 split
 ·exact hx
 ·exact hx.keep
theorem Sg.go {x:Sem α}{a:α}(n:Nat)(f:Pos->Pos)(h:∀K H gd lv pos,segGo treeTable p w m₀ ann 1 n S ⟨x.wrap K H gd lv,c,pos,[topFrame q]⟩=some (S',⟨K a,c,f pos,[topFrame q]⟩)):Sg p m₀ ann q c w n S x a S':=
 fun K H gd lv pos=>⟨n,f pos,Nat.le_refl n,fun N r hr=>seg_go (h K H gd lv pos) hr⟩
theorem Sg.goR {S S':World->Shared}{x:Sem α}{a:World->α}(row:String)(n:Nat)(f:Pos->Pos)
  (h0:∀(w:World) (K:α->Sem Fin) (H:Value->Sem Fin) (gd:Bool->Bool) (lv:List Value->List Value) (pos:Pos),segGo treeTable p (w.withFollow row false) m₀ ann 1 n (S (w.withFollow row false)) ⟨x.wrap K H gd lv,c,pos,[topFrame q]⟩=some (S' (w.withFollow row false),⟨K (a (w.withFollow row false)),c,f pos,[topFrame q]⟩))
  (h1:∀(w:World) (K:α->Sem Fin) (H:Value->Sem Fin) (gd:Bool->Bool) (lv:List Value->List Value) (pos:Pos),segGo treeTable p (w.withFollow row true) m₀ ann 1 n (S (w.withFollow row true)) ⟨x.wrap K H gd lv,c,pos,[topFrame q]⟩=some (S' (w.withFollow row true),⟨K (a (w.withFollow row true)),c,f pos,[topFrame q]⟩)) (w:World):
  Sg p m₀ ann q c w n (S w) x (a w) (S' w):=
 byRow2 row (P:=fun w=>Sg p m₀ ann q c w n (S w) x (a w) (S' w)) (fun w=>Sg.go n f (h0 w)) (fun w=>Sg.go n f (h1 w)) w
theorem Sg.piece {st:Stmt}{env:Env}{pos:Pos}(h:Sg p m₀ ann q c w b S (exec st env) .next S'):∃n pos',n<=b+1/\segRun treeTable p w m₀ ann 1 n S (piecesOf [st] env c pos [topFrame q])=some (.next,S',c,pos'):=by
 obtain⟨n,p',hn,k⟩:=h (fun f=>match f with| .next=>(execs [] env).wrap doneF deadEnd id id|f=>doneF f) deadEnd id id pos
 refine⟨n+1,p',Nat.succ_le_succ hn, ?_⟩
 have:=k 1 (.next,S',c,p') rfl
 unfold piecesOf
 rw[execs_cons_wrap]
 exact this
theorem Sg.rule {tag:String}:Sg p m₀ ann q c w 1 S (PySem.rule tag) () S:=Sg.go 1 id fun K H gd lv pos=>rfl
theorem Sg.standAt {pos:Pos}:Sg p m₀ ann q c w 1 S (PySem.standAt pos) () S:=Sg.go 1 (fun _=>pos) fun K H gd lv ps=>rfl
theorem Sg.alloc {o:Obj}:Sg p m₀ ann q c w 1 S (PySem.alloc o) S.heap.objs.size {S with heap:=S.heap.push o}:=Sg.go 1 id fun K H gd lv ps=>rfl
theorem Sg.reduced {i:Int}:Sg p m₀ ann q c w 1 S (pyHashByItsType.reduced i) (reduceHash i) S:=by
 unfold pyHashByItsType.reduced reduceHash
 by_cases hr:(decide (-(2:Int)^63<=i)&&decide (i<2^63))=true
 ·rw [if_pos hr,if_pos hr]
  exact Sg.pure.mono (Nat.zero_le 1)
 ·rw [if_neg hr,if_neg hr]
  refine Sg.bind (b₁:=1) (b₂:=0) (a:=()) (S₁:=S) Sg.rule ?_
  exact Sg.pure
theorem Sg.pyHash {a:Addr}{i:Int}{t:Tok}(h1:Sg p m₀ ann q c w b₁ S (cRoomFor "hash" [.ref a]) () S)(h2:Sg p m₀ ann q c w b₂ S (specialOf (.ref a) "__hash__") (some (.builtin "tuple.__hash__")) S)
  (h3:∀x,Sg p m₀ ann q c w b₃ S (callSpecialIfBoundUnlessNone? (.ref a) "__hash__" x) (some (.int i t)) S'):Sg p m₀ ann q c w (b₁+(b₂+(b₂+(b₃+1)))) S (PySem.pyHash (.ref a)) (reduceHash i) S':=by
 unfold PySem.pyHash
 unfold pyHashByItsType
 refine Sg.bind h1 (Sg.bind h2 ?_)
 show Sg p m₀ ann q c w _ S (if (some (Value.builtin "tuple.__hash__")==some Value.none)=true then _ else _) _ _
 rw[if_neg (by simp)]
 refine Sg.bind h2 ?_
 show Sg p m₀ ann q c w _ S (callSpecialIfBoundUnlessNone? (.ref a) "__hash__" _ >>= _) _ _
 exact Sg.bind (h3 _) Sg.reduced
theorem Sg.forIn {γ:Type}{y:β}{f:γ->β->Sem (ForInStep β)}:∀{l:List γ},(∀x∈l,Sg p m₀ ann q c w b S (f x y) (.yield y) S)->Sg p m₀ ann q c w (l.length*b) S (ForIn.forIn l y f) y S
 |[],_=>by rw[List.forIn_nil];exact Sg.pure.mono (Nat.zero_le _)
 |x::l,h=>by
  rw[List.forIn_cons]
  exact (Sg.bind (h x (List.mem_cons_self ..)) (Sg.forIn fun z hz=>h z (List.mem_cons_of_mem _ hz))).mono (by rw[List.length_cons,Nat.add_mul,Nat.one_mul,Nat.add_comm];exact Nat.le_refl _)
theorem Sg.tellsNot {key:Value}{st:List Value}(hk:Sg p m₀ ann q c w b S (eqIsQuiet 8 key) true S)(hs:∀k∈st,Sg p m₀ ann q c w b S (eqIsQuiet 8 k) true S):Sg p m₀ ann q c w (b+st.length*b) S (tableMayTell key st) false S:=by
 unfold tableMayTell
 by_cases h:st.isEmpty=true
 ·rw[if_pos h];exact Sg.pure.mono (Nat.zero_le _)
 ·rw [if_neg h]
  refine Sg.bind hk ?_
  rw[if_neg (by simp)]
  refine (Sg.bind (b₁:=st.length*b) (b₂:=0) (Sg.forIn fun k hm=>(Sg.bind (b₁:=b) (b₂:=0) (hs k hm) ?_).mono (Nat.le_refl _)) Sg.pure)
  rw[if_neg (by simp)]
  exact Sg.pure
theorem Sg.dictFind {d a:Addr}{h:Int}{es:Array DictEntry}{ep:Nat}(hes:Sg p m₀ ann q c w b₁ S (dictEntries d none) es S)(hne:∀e∈es.toList,(e.key==Value.ref a)=false)(hk:Sg p m₀ ann q c w b₂ S (eqIsQuiet 8 (.ref a)) true S)
  (hs:∀e∈es.toList,Sg p m₀ ann q c w b₂ S (eqIsQuiet 8 e.key) true S) (he:Sg p m₀ ann q c w b₃ S (dictEpoch d none) ep S) (hq:∀e∈es.toList,Sg p m₀ ann q c w b₄ S (eqBool e.key (.ref a)) false S):
  Sg p m₀ ann q c w (b₁+((b₂+es.size*b₂)+es.size*(b₃+(b₄+(b₃+1))))) S (PySem.dictFind d (.ref a) h) none S:=by
 unfold PySem.dictFind
 refine Sg.holding (Sg.bind hes ?_)
 dsimp only
 have hlen:(placesWithHash es.size (fun i=>Option.map (fun x=>x.hash) es[i]?) h).length<=es.size:=by
  unfold placesWithHash
  exact Nat.le_trans (List.length_filter_le _ _) (by rw[List.length_range];exact Nat.le_refl _)
 generalize placesWithHash es.size (fun i=>Option.map (fun x=>x.hash) es[i]?) h=pl at hlen
 have hmem:∀i e,es[i]? =some e->e∈es.toList:=fun i e he=>by
  obtain⟨h1,h2⟩:=Array.getElem?_eq_some_iff.mp he
  rw[<-h2]
  exact Array.getElem_mem_toList h1
 have hst:∀k∈List.filterMap (fun i=>Option.map (fun x=>x.key) es[i]?) pl,∃e∈es.toList,e.key=k:=fun k hm=>by
  obtain⟨i,_,hi⟩:=List.mem_filterMap.mp hm
  obtain⟨e,h1,h2⟩:=Option.map_eq_some_iff.mp hi
  exact⟨e,hmem i e h1,h2⟩
 have hsl:(List.filterMap (fun i=>Option.map (fun x=>x.key) es[i]?) pl).length<=es.size:=Nat.le_trans (List.length_filterMap_le _ _) hlen
 generalize List.filterMap (fun i=>Option.map (fun x=>x.key) es[i]?) pl=st at hst hsl ⊢
 rw[if_neg (by simp[carriedByValue])]
 rw[if_neg (by
  rw[Array.any_eq_true']
  rintro⟨e,hm,z⟩
  rw[hne e (Array.mem_toList_iff.mpr hm)] at z
  simp at z)]
 rw[if_neg (by
  intro z
  rw[beq_iff_eq] at z
  obtain⟨e,h1,h2⟩:=hst (.ref a) (by rw[z];exact List.mem_singleton.mpr rfl)
  have:=hne e h1
  rw[h2] at this
  simp at this)]
 refine (Sg.bind (b₁:=b₂+st.length*b₂) (b₂:=pl.length*(b₃+(b₄+(b₃+1)))) (Sg.tellsNot hk fun k hm=> ?_) ?_).mono ?_
 ·obtain ⟨e,h1,h2⟩:=hst k hm
  rw[<-h2]
  exact hs e h1
 ·rw [if_neg (by simp)]
  refine (Sg.bind (b₂:=0) (Sg.forIn (b:=b₃+(b₄+(b₃+1))) (y:=((none:Option (Option Nat)),(none:Option Nat))) fun i _=> ?_) Sg.pure)
  cases hi:es[i]? with
  |none=>exact Sg.pure.mono (Nat.zero_le _)
  | some e=>
   have hm:=hmem i e hi
   dsimp only
   split
   ·refine Sg.bind he (Sg.bind (hq e hm) (Sg.bind he ?_))
    rw[if_neg (by simp),if_neg (by simp)]
    refine (Sg.bind (b₁:=1) (b₂:=0) Sg.rule ?_)
    rw[if_neg (by simp)]
    exact Sg.pure
   ·exact Sg.pure.mono (Nat.zero_le _)
 ·exact Nat.add_le_add (Nat.add_le_add_left (Nat.mul_le_mul_right _ hsl) _) (Nat.mul_le_mul_right _ hlen)
theorem Sg.dictSet {d:Addr}{key v:Value}{h:Int}(hh:Sg p m₀ ann q c w b₁ S (PySem.pyHash key) h S₁)(hf:Sg p m₀ ann q c w b₂ S₁ (PySem.dictFind d key h) none S₁)
  (hu:Sg p m₀ ann q c w b₃ S₁ (updateDictKeys d (·.push ⟨h,key,v⟩) (keyPart key)) () S'):Sg p m₀ ann q c w (b₁+(b₂+(1+b₃))) S (PySem.dictSet d key v) () S':=by
 unfold PySem.dictSet
 refine Sg.holding (Sg.bind hh ?_)
 unfold dictSetHashed
 refine Sg.holding (Sg.bind hf ?_)
 exact Sg.bind Sg.rule hu
theorem Sg.subDict3 {pairs:List (Sem Value×Sem Value)}{k1 v1 k2 v2 k3 v3:Value}(hl:pairs.length<=15)(he:Sg p m₀ ann q c w b₁ {S with heap:=S.heap.push {cls:=.type "dict",data:=.dict #[]}} (evalPairs pairs) [(k1,v1),(k2,v2),(k3,v3)] S₁)
  (h1:Sg p m₀ ann q c w b₂ S₁ (PySem.dictSet S.heap.objs.size k1 v1) () S₂) (h2:Sg p m₀ ann q c w b₃ S₂ (PySem.dictSet S.heap.objs.size k2 v2) () S₃) (h3:Sg p m₀ ann q c w b₄ S₃ (PySem.dictSet S.heap.objs.size k3 v3) () S₄):
  Sg p m₀ ann q c w (1+(b₁+(b₂+(b₃+b₄)))) S (subDict pairs) S.heap.objs.size S₄:=by
 unfold subDict
 refine Sg.bind Sg.alloc (Sg.bind (b₂:=0) (a:=()) (S₁:=S₄) (Sg.holding ?_) Sg.pure)
 rw[if_pos hl]
 refine Sg.bind he (Sg.holding ?_)
 simp only[List.forIn_cons,List.forIn_nil,bind_assoc,pure_bind]
 exact Sg.bind h1 (Sg.bind h2 (Sg.bind (b₂:=0) h3 Sg.pure))
theorem Sg.dict3 {env:Env}{ks:List (Option Expr)}{es:List Expr}{pos:Pos}{k1 v1 k2 v2 k3 v3:Value}(all:ks.all (·.isSome)=true)(three:ks.length=3)(same:es.length=3)
  (he:Sg p m₀ ann q c w b₁ {S with heap:=S.heap.push {cls:=.type "dict",data:=.dict #[]}} (evalPairs (pairTrees ks es env pos)) [(k1,v1),(k2,v2),(k3,v3)] S₁)
  (h1:Sg p m₀ ann q c w b₂ S₁ (PySem.dictSet S.heap.objs.size k1 v1) () S₂) (h2:Sg p m₀ ann q c w b₃ S₂ (PySem.dictSet S.heap.objs.size k2 v2) () S₃) (h3:Sg p m₀ ann q c w b₄ S₃ (PySem.dictSet S.heap.objs.size k3 v3) () S₄):
  Sg p m₀ ann q c w (1+(1+(b₁+(b₂+(b₃+b₄))))) S (eval (.Dict ks es pos) env) (.ref S.heap.objs.size) S₄:=by
 have len:(pairTrees ks es env pos).length=3:=(pairTrees_length ks es env pos all (three.trans same.symm)).trans three
 have some_:pairTrees ks es env pos≠[]:=fun z=>by rw[z] at len;cases len
 rw[arm_eval_Dict,zip_pairTrees ks es env pos all (three.trans same.symm),dictDisplay_pairs _ some_ (by (first|lia|omega))]
 exact Sg.bind Sg.standAt (Sg.bind (b₂:=0) (Sg.subDict3 (by (first|lia|omega)) he h1 h2 h3) Sg.pure)
theorem Sg.assign {env:Env}{x:Str}{pt pos:Pos}{e:Expr}{v:Value}(hs:swapsWith e (some (.Name x pt)) pos.line env=Pure.pure false)(hv:Sg p m₀ ann q c w b₁ S (eval e env) v S₁)
  (hb:Sg p m₀ ann q c w b₂ S₁ (bindName env x v) () S'):Sg p m₀ ann q c w (1+(b₁+(1+b₂))) S (exec (.Assign [.Name x pt] e pos) env) .next S':=by
 refine (Sg.bind (b₂:=0+(b₁+(0+(1+b₂+0)))) (x:=PySem.standAt pos) Sg.standAt (Sg.bind (a:=false) (S₁:=S) ?_ ?_)).mono (by (first|lia|omega))
 ·show Sg p m₀ ann q c w 0 S (swapsWith e (some (.Name x pt)) pos.line env) false S
  rw[hs]
  exact Sg.pure
 ·refine Sg.bind hv (Sg.bind (a:=none) (S₁:=S₁) Sg.pure (Sg.bind (b₂:=0) (x:=PySem.assign (.Name x pt) env v) (a:=()) (S₁:=S') ?_ Sg.pure))
  exact Sg.bind Sg.standAt hb
end
end SH
open PySem PySem.W PyProof.Rows
set_option maxHeartbeats 0
open_shared topA19 for (PySem.Challenge.pw_shuffletold_k19_together_by_other_ways) leaving 12
open PySem PySem.W PySem.Calls PyProof.Rows
namespace SH19
noncomputable section
noncomputable abbrev PP:=PySem.Challenge.pw_shuffletold_k19_together_by_other_ways
noncomputable abbrev q0:Pos:={line:=0,col:=0,endLine:=0,endCol:=0}
noncomputable abbrev cE:Code:=.body (behindTheImports PP) topA19.env_1
noncomputable def stO:Stmt:=((behindTheImports PP)[20]?).getD (.Pass default)
noncomputable def S0 (w:World)(os:OsState):Shared:=({tree:=topA19.tree_106 w.params,n:=110,life:={},gens:={toList:=[]},drawn:={},toks:=331,os:=os}:SharedT).abs
noncomputable def iT (P:Params)(x y:Str):Int:=PySem.Builtin.Tuple.tupleHashOf [PyData.keyHash P x,PyData.keyHash P y]
noncomputable def hT (P:Params)(x y:Str):Int:=reduceHash (iT P x y)
noncomputable def tupO (x y:Str)(t:Nat):Obj:={cls:=.type "tuple",data:=.seq #[.str x t,.str y (t+1)] 0}
noncomputable def dO (es:List DictEntry):Obj:={cls:=.type "dict",data:=.dict es.toArray es.length}
noncomputable def e1 (w:World):DictEntry:=⟨hT w.params "rounds" "stays",.ref 111,.ref 97⟩
noncomputable def e2 (w:World):DictEntry:=⟨hT w.params "rises" "highs",.ref 112,.ref 104⟩
noncomputable def e3 (w:World):DictEntry:=⟨hT w.params "highs" "crossed",.ref 113,.ref 109⟩
noncomputable def dOP (P:Params):Obj:=dO [⟨hT P "rounds" "stays",.ref 111,.ref 97⟩,⟨hT P "rises" "highs",.ref 112,.ref 104⟩,⟨hT P "highs" "crossed",.ref 113,.ref 109⟩]
noncomputable abbrev dAd:Addr:=110
noncomputable def Sd (w:World)(os:OsState)(es:List DictEntry)(t:Nat):Shared:={(S0 w os) with heap:=((((S0 w os).heap.push (dO es)).push (tupO "rounds" "stays" 331)).push (tupO "rises" "highs" 333)).push (tupO "highs" "crossed" 335),toks:=t}
noncomputable abbrev G (w:World)(b:Nat){α:Type}(S:Shared)(x:Sem α)(a:α)(S':Shared):Prop:=SH.Sg PP 11 (some (.ref 6)) q0 cE w b S x a S'
theorem quiet (w:World)(os:OsState)(es:List DictEntry)(t:Nat)(a:Addr)(ha:a=111∨a=112∨a=113):G w 3 (Sd w os es t) (eqIsQuiet 8 (.ref a)) true (Sd w os es t):=by
 rcases ha with rfl|rfl|rfl<;>exact SH.Sg.go 3 id fun K H gd lv pos=>by kernel_rfl
theorem zho (w:World)(os:OsState)(es:List DictEntry)(t:Nat):G w 1 (Sd w os es t) (dictEpoch 110 none) es.length (Sd w os es t):=SH.Sg.go 1 id fun K H gd lv pos=>by kernel_rfl
theorem zd7 (w:World)(os:OsState)(es:List DictEntry)(t:Nat):G w 1 (Sd w os es t) (dictEntries 110 none) es.toArray (Sd w os es t):=SH.Sg.go 1 id fun K H gd lv pos=>by kernel_rfl
theorem eqf (w:World)(os:OsState)(es:List DictEntry)(t:Nat)(a b:Addr)(ha:a=111/\b=112∨a=111/\b=113∨a=112/\b=113):G w 16 (Sd w os es t) (eqBool (.ref a) (.ref b)) false (Sd w os es t):=by
 rcases ha with⟨rfl,rfl⟩|⟨rfl,rfl⟩|⟨rfl,rfl⟩<;>exact SH.Sg.goR (S:=fun w=>Sd w os es t) (S':=fun w=>Sd w os es t) (a:=fun _=>false) "special-get-raises" 16 id (fun w K H gd lv pos=>by kernel_rfl) (fun w K H gd lv pos=>by kernel_rfl) w
theorem room (w:World)(os:OsState)(es:List DictEntry)(t:Nat)(a:Addr)(ha:a=111∨a=112∨a=113):G w 1 (Sd w os es t) (cRoomFor "hash" [.ref a]) () (Sd w os es t):=by
 rcases ha with rfl|rfl|rfl<;>exact SH.Sg.go 1 id fun K H gd lv pos=>by kernel_rfl
theorem spec (w:World)(os:OsState)(es:List DictEntry)(t:Nat)(a:Addr)(ha:a=111∨a=112∨a=113):G w 1 (Sd w os es t) (specialOf (.ref a) "__hash__") (some (.builtin "tuple.__hash__")) (Sd w os es t):=by
 rcases ha with rfl|rfl|rfl<;>exact SH.Sg.go 1 id fun K H gd lv pos=>by kernel_rfl
theorem ziD (w:World)(os:OsState)(es:List DictEntry)(t:Nat)(x):G w 22 (Sd w os es t) (callSpecialIfBoundUnlessNone? (.ref 111) "__hash__" x) (some (.int (iT w.params "rounds" "stays") (t+2))) (Sd w os es (t+3)):=
 SH.Sg.goR (S:=fun w=>Sd w os es t) (S':=fun w=>Sd w os es (t+3)) (a:=fun w=>(some (Value.int (iT w.params "rounds" "stays") (t+2)):Option Value)) "special-get-raises" 22 id (fun w K H gd lv pos=>by kernel_rfl) (fun w K H gd lv pos=>by kernel_rfl) w
theorem ziE (w:World)(os:OsState)(es:List DictEntry)(t:Nat)(x):G w 22 (Sd w os es t) (callSpecialIfBoundUnlessNone? (.ref 112) "__hash__" x) (some (.int (iT w.params "rises" "highs") (t+2))) (Sd w os es (t+3)):=
 SH.Sg.goR (S:=fun w=>Sd w os es t) (S':=fun w=>Sd w os es (t+3)) (a:=fun w=>(some (Value.int (iT w.params "rises" "highs") (t+2)):Option Value)) "special-get-raises" 22 id (fun w K H gd lv pos=>by kernel_rfl) (fun w K H gd lv pos=>by kernel_rfl) w
theorem ziF (w:World)(os:OsState)(es:List DictEntry)(t:Nat)(x):G w 22 (Sd w os es t) (callSpecialIfBoundUnlessNone? (.ref 113) "__hash__" x) (some (.int (iT w.params "highs" "crossed") (t+2))) (Sd w os es (t+3)):=
 SH.Sg.goR (S:=fun w=>Sd w os es t) (S':=fun w=>Sd w os es (t+3)) (a:=fun w=>(some (Value.int (iT w.params "highs" "crossed") (t+2)):Option Value)) "special-get-raises" 22 id (fun w K H gd lv pos=>by kernel_rfl) (fun w K H gd lv pos=>by kernel_rfl) w
end
end SH19
open PySem PySem.W PySem.Calls PyProof.Rows
namespace SH19
noncomputable section
theorem upd1 (w:World)(os:OsState)(t:Nat):G w 3 (Sd w os [] t) (updateDictKeys 110 (·.push ⟨hT w.params "rounds" "stays",.ref 111,.ref 97⟩) (keyPart (.ref 111))) () (Sd w os [e1 w] t):=SH.Sg.go 3 id fun K H gd lv pos=>by kernel_rfl
theorem upd2 (w:World)(os:OsState)(t:Nat):G w 3 (Sd w os [e1 w] t) (updateDictKeys 110 (·.push ⟨hT w.params "rises" "highs",.ref 112,.ref 104⟩) (keyPart (.ref 112))) () (Sd w os [e1 w,e2 w] t):=SH.Sg.go 3 id fun K H gd lv pos=>by kernel_rfl
theorem upd3 (w:World)(os:OsState)(t:Nat):G w 3 (Sd w os [e1 w,e2 w] t) (updateDictKeys 110 (·.push ⟨hT w.params "highs" "crossed",.ref 113,.ref 109⟩) (keyPart (.ref 113))) () (Sd w os [e1 w,e2 w,e3 w] t):=SH.Sg.go 3 id fun K H gd lv pos=>by kernel_rfl
noncomputable def zfS:Stmt->List (Option Expr)
 | .Assign _ (.Dict ks _ _) _=>ks
 |_=>[]
noncomputable def zgy:Stmt->List Expr
 | .Assign _ (.Dict _ vs _) _=>vs
 |_=>[]
noncomputable def dPos:Stmt->Pos
 | .Assign _ (.Dict _ _ p) _=>p
 |_=>default
noncomputable def tPos:Stmt->Pos
 | .Assign [.Name _ p] _ _=>p
 |_=>default
noncomputable def sPos:Stmt->Pos
 | .Assign _ _ p=>p
 |_=>default
theorem zh9:stO=.Assign [.Name "ONWARDS" (tPos stO)] (.Dict (zfS stO) (zgy stO) (dPos stO)) (sPos stO):=by kernel_rfl
theorem ziG (w:World)(os:OsState):G w 21 {S0 w os with heap:=(S0 w os).heap.push {cls:=.type "dict",data:=.dict #[]}} (evalPairs (pairTrees (zfS stO) (zgy stO) topA19.env_1 (dPos stO))) [(.ref 111,.ref 97),(.ref 112,.ref 104),(.ref 113,.ref 109)] (Sd w os [] 337):=
 SH.Sg.go 21 (fun _=>dPos stO) fun K H gd lv pos=>by kernel_rfl
noncomputable def Sf (w:World)(os:OsState):Shared:={Sd w os [e1 w,e2 w,e3 w] 347 with heap:=(Sd w os [e1 w,e2 w,e3 w] 347).heap.update mainNs (Obj.mapDictKeys (·.push ⟨PyData.keyHash w.params "ONWARDS",.str "ONWARDS" 346,.ref 110⟩))}
theorem ziH (w:World)(os:OsState):G w 6 (Sd w os [e1 w,e2 w,e3 w] 346) (bindName topA19.env_1 "ONWARDS" (.ref 110)) () (Sf w os):=SH.Sg.go 6 id fun K H gd lv pos=>by kernel_rfl
end
end SH19
open PySem PySem.W PySem.Calls PyProof.Rows
namespace SH19
noncomputable section
theorem set1 (w:World)(os:OsState):G w 34 (Sd w os [] 337) (dictSet 110 (.ref 111) (.ref 97)) () (Sd w os [e1 w] 340):=
 (SH.Sg.dictSet (SH.Sg.pyHash (room w os _ _ 111 (.inl rfl)) (spec w os _ _ 111 (.inl rfl)) fun x=>ziD w os [] 337 x)
  (SH.Sg.dictFind (b₄:=16) (zd7 w os [] 340) (fun e he=>by simp at he) (quiet w os _ _ 111 (.inl rfl)) (fun e he=>by simp at he) (zho w os _ _) fun e he=>by simp at he) (upd1 w os 340)).mono (by simp)
theorem set2 (w:World)(os:OsState):G w 60 (Sd w os [e1 w] 340) (dictSet 110 (.ref 112) (.ref 104)) () (Sd w os [e1 w,e2 w] 343):=
 (SH.Sg.dictSet (SH.Sg.pyHash (room w os _ _ 112 (.inr (.inl rfl))) (spec w os _ _ 112 (.inr (.inl rfl))) fun x=>ziE w os [e1 w] 340 x)
  (SH.Sg.dictFind (b₄:=16) (zd7 w os [e1 w] 343) (fun e he=>by
    obtain rfl:e=e1 w:=by simpa using he
    rfl) (quiet w os _ _ 112 (.inr (.inl rfl))) (fun e he=>by
    obtain rfl:e=e1 w:=by simpa using he
    exact quiet w os _ _ 111 (.inl rfl)) (zho w os _ _)
   fun e he=>by
    obtain rfl:e=e1 w:=by simpa using he
    exact eqf w os _ _ 111 112 (.inl ⟨rfl,rfl⟩)) (upd2 w os 343)).mono (by simp)
theorem set3 (w:World)(os:OsState):G w 90 (Sd w os [e1 w,e2 w] 343) (dictSet 110 (.ref 113) (.ref 109)) () (Sd w os [e1 w,e2 w,e3 w] 346):=
 (SH.Sg.dictSet (SH.Sg.pyHash (room w os _ _ 113 (.inr (.inr rfl))) (spec w os _ _ 113 (.inr (.inr rfl))) fun x=>ziF w os [e1 w,e2 w] 343 x)
  (SH.Sg.dictFind (b₄:=16) (zd7 w os [e1 w,e2 w] 346) (fun e he=>by
    have:e=e1 w∨e=e2 w:=by simpa using he
    rcases this with rfl|rfl<;>rfl) (quiet w os _ _ 113 (.inr (.inr rfl))) (fun e he=>by
    have:e=e1 w∨e=e2 w:=by simpa using he
    rcases this with rfl|rfl
    ·exact quiet w os _ _ 111 (.inl rfl)
    ·exact quiet w os _ _ 112 (.inr (.inl rfl))) (zho w os _ _)
   fun e he=>by
    have:e=e1 w∨e=e2 w:=by simpa using he
    rcases this with rfl|rfl
    ·exact eqf w os _ _ 111 113 (.inr (.inl ⟨rfl,rfl⟩))
    ·exact eqf w os _ _ 112 113 (.inr (.inr ⟨rfl,rfl⟩))) (upd3 w os 346)).mono (by simp)
theorem zia (w:World)(os:OsState):(S0 w os).heap.objs.size=110:=by kernel_rfl
theorem ziI:(zfS stO).all (·.isSome)=true/\(zfS stO).length=3/\(zgy stO).length=3:=⟨by kernel_rfl,by kernel_rfl,by kernel_rfl⟩
theorem ziJ:swapsWith (.Dict (zfS stO) (zgy stO) (dPos stO)) (some (.Name "ONWARDS" (tPos stO))) (sPos stO).line topA19.env_1=Pure.pure false:=rfl
theorem onw (w:World)(os:OsState):G w 250 (S0 w os) (exec stO topA19.env_1) .next (Sf w os):=by
 obtain⟨k1,k2,k3⟩:=ziI
 have hs:=zia w os
 have D:=SH.Sg.dict3 (p:=PP) (m₀:=11) (ann:=(some (.ref 6))) (q:=q0) (c:=cE) (w:=w) (S:=S0 w os) (env:=topA19.env_1) (pos:=dPos stO) k1 k2 k3 (ziG w os) (by rw[hs];exact set1 w os) (by rw[hs];exact set2 w os) (by rw[hs];exact set3 w os)
 rw[hs] at D
 rw[zh9]
 exact (SH.Sg.assign ziJ D (ziH w os)).mono (by (first|lia|omega))
noncomputable def rest:List Stmt:=(behindTheImports PP).drop 21
noncomputable def Sfin (w:World)(os:OsState):Shared:=(topRun treeTable PP w 11 (some (.ref 6)) 1114 (Sf w os) (restOf rest topA19.env_1 cE default [topFrame q0])).getD (Sf w os)
set_option maxHeartbeats 0 in
theorem zgz (w:World)(os:OsState)(pos:Pos):topRun treeTable PP w 11 (some (.ref 6)) 1114 (Sf w os) (restOf rest topA19.env_1 cE pos [topFrame q0])=some (Sfin w os):=by kernel_rfl
end
end SH19
namespace SH
open PySem PySem.W PySem.Calls PyProof.Rows
theorem left_of {p q:Program}{loose:List Str}{Xt:Shared->Bool}{α:Type}{Yf:Shared->α}{Ya:World->α}{N:Nat}
  (way:∀w:World,∃s₀ s,fencedOpening treeTable p w N=some s₀/\(s₀.heap.isNs mainGlobals&&s₀.gens.size==0)=true/\(∃M,M<=N/\topRun treeTable p w s₀.heap.objs.size (s₀.heap.nsMap mainGlobals "__annotations__") M s₀ (topStub p)=some s)/\
   (staticsOk (importedModules p.main.body) s₀.heap s.heap&&namesBound p s.heap&&gensDone s&&laidKept s₀.heap s.heap)=true/\openSeen q loose (importedModules p.main.body) Xt true s=openGood q loose/\Yf s=Ya w):LeftO p q loose Xt Yf Ya N true:=fun w=>by
 obtain⟨s₀,s,e0,z,⟨M,le,run⟩,good,seen,y⟩:=way w
 obtain⟨d,rfl⟩:∃d,N=M+d:=⟨N-M,by (first|lia|omega)⟩
 have t:topFrom treeTable p w (M+d) s₀=some s:=by
  simp only[topFrom,z,topRun_mono d _ _ _ _ run,Option.bind_some,good]
 simp only[openEnds,e0,Option.bind_some,t,Option.map_some,seen,y]
noncomputable def hookD (H:Hook)(d:Addr)(o:World->Obj):Hook where
 α:=H.α×Option Obj
 obs:=fun s=>(H.obs s,s.heap.get? d)
 val:=fun w=>(H.val w,some (o w))
 says:=fun w h=>H.says w h/\h.get? d=some (o w)
 of:=fun w s e=>⟨H.of w s (congrArg Prod.fst e),congrArg Prod.snd e⟩
 keeps:=fun w h h' x k=>⟨H.keeps w h h' x.1 k,k _ _ x.2⟩
theorem look_cons {d a:Addr}{o:Obj}{K:Frag}(h:(a==d)=false):List.lookup a ((d,o)::K:Frag)=List.lookup a K:=by
 rw[List.lookup_cons,h]
theorem nsIn_cons {d a:Addr}{o:Obj}{K:Frag}{x:Str}(h:(a==d)=false):nsIn ((d,o)::K:Frag) a x=nsIn K a x:=by
 unfold nsIn
 rw[look_cons h]
theorem in_cons {d:Addr}{o:Obj}{K:Frag}{h:Heap}(x:K.In h)(e:h.get? d=some o):Frag.In ((d,o)::K:Frag) h:=fun a u q=>by
 rw[List.lookup_cons] at q
 cases c:a==d with
 |true=>
  rw[c] at q
  cases q
  rw[beq_iff_eq.mp c]
  exact e
 |false=>
  rw[c] at q
  exact x _ _ q
theorem keys3 {α:Type}{p:α->Prop}{a b c:α}(x:p a)(y:p b)(z:p c):∀u∈[a,b,c],p u:=fun u h=>by
 rcases List.mem_cons.mp h with rfl|h
 ·exact x
 ·rcases List.mem_cons.mp h with rfl|h
  ·exact y
  ·rw [List.mem_singleton.mp h]
   exact z
end SH
open PySem PySem.W PySem.Calls PyProof.Rows
namespace SH19
noncomputable section
noncomputable def Sb (w:World)(os:OsState):Shared:=⟨boot_heap w.params,Array.mk [],boot_drawn,boot_toks,os⟩
noncomputable def Sa (w:World)(os:OsState):Shared:=((topGo treeTable PP w 11 (some (.ref 6)) 12 (Sb w os) (topStub PP)).map (·.1)).getD (Sb w os)
theorem zhp (w:World)(os:OsState):topGo treeTable PP w 11 (some (.ref 6)) 12 (Sb w os) (topStub PP)=some (Sa w os,⟨denote treeTable cE,cE,default,[topFrame q0]⟩):=by kernel_rfl
theorem zfT (w:World)(os:OsState):segRun treeTable PP w 11 (some (.ref 6)) 1 1 (Sa w os) (blockOf (behindTheImports PP) topA19.env_1 cE default [topFrame q0])=
  some (.next,({tree:=topA19.tree_4 w.params,n:=15,life:={},gens:={toList:=[]},drawn:={},toks:=187,os:=os}:SharedT).abs,cE,default):=by kernel_rfl
theorem zhq:behindTheImports PP=topA19.sts_4++(topA19.sts_67++([stO]++rest)):=by kernel_rfl
theorem zfU (w:World)(os:OsState):∃M,M<=2428/\topRun treeTable PP w 11 (some (.ref 6)) M (Sb w os) (topStub PP)=some (Sfin w os):=by
 obtain⟨n,p',hn,hp⟩:=SH.Sg.piece (pos:={line:=61,col:=0,endLine:=63,endCol:=45}) (onw w os)
 have a:=piece_app hp (zgz w os p')
 have b:=topA19.chain PP (behindTheImports PP) w os ([stO]++rest) _ _ a
 rw[<-zhq] at b
 have c:=piece_block (zfT w os) b
 have d:=go_top (zhp w os) c
 exact⟨_,by simp only[Nat.add_eq];(first|lia|omega),d⟩
noncomputable def qV:Program:=view PP [1,2,3,4,5,6,7,8,10,11,12,13,14,16,17,18,19,21,23,24,25,26,27,28,29,30,31]
noncomputable abbrev loose:List Str:=["ROWS", "ONWARDS"]
set_option maxHeartbeats 0 in
theorem ziK:∀w:World,(fencedOpening treeTable PP w 2428).map (fun s=>(s.heap,s.gens,s.drawn,s.toks))=some (boot_heap w.params,Array.mk [],boot_drawn,boot_toks):=
 boot_open (by kernel_rfl) (by decide) (fun s=>by kernel_rfl)
theorem ziL (w:World):((boot_heap w.params).isNs mainGlobals&&(Array.mk []:Array GenState).size==0,(boot_heap w.params).objs.size,(boot_heap w.params).nsMap mainGlobals "__annotations__")=(true,11,some (.ref 6)):=by kernel_rfl
theorem good (w:World)(os:OsState):(staticsOk (importedModules PP.main.body) (boot_heap w.params) (Sfin w os).heap&&namesBound PP (Sfin w os).heap&&gensDone (Sfin w os)&&laidKept (boot_heap w.params) (Sfin w os).heap)=true:=by kernel_rfl
theorem seen (w:World)(os:OsState):openSeen qV loose (importedModules PP.main.body) (fun s=>xlAt qV [] s&&recOk [] s) true (Sfin w os)=openGood qV loose:=by kernel_rfl
theorem left {α:Type}{Yf:Shared->α}{Ya:World->α}(hY:∀w os,Yf (Sfin w os)=Ya w):LeftO PP qV loose (fun s=>xlAt qV [] s&&recOk [] s) Yf Ya 2428:=
 SH.left_of fun w=>by
  obtain⟨s₀,e0,e1⟩:=Option.map_eq_some_iff.mp (ziK w)
  have e:s₀=Sb w s₀.os:=by
   cases s₀
   cases e1
   rfl
  have z:=ziL w
  obtain⟨M,le,r⟩:=zfU w s₀.os
  rw[e] at e0
  refine⟨Sb w s₀.os,Sfin w s₀.os,e0,congrArg (·.1) z,⟨M,by (first|lia|omega), ?_⟩,good w s₀.os,seen w s₀.os,hY w s₀.os⟩
  rw[show (Sb w s₀.os).heap.objs.size=11 from congrArg (·.2.1) z,show (Sb w s₀.os).heap.nsMap mainGlobals "__annotations__" =some (.ref 6) from congrArg (·.2.2) z]
  exact r
end
end SH19
end
namespace PySem.W.Fast
theorem tw4959860175984901785:True:=trivial
end PySem.W.Fast
open PySem PySem.W PyProof.Rows
local macro_rules
 |`(tactic|o_head $H)=>`(tactic|refine holds_open (q:=SH19.qV) (loose:=SH19.loose) (Xt:=fun s=>xlAt SH19.qV [] s&&recOk [] s) (XP:=XL SH19.qV []) (Yf:=Hook.obs (SH.hookD $H SH19.dAd fun w=>SH19.dOP w.params)) (Ya:=Hook.val (SH.hookD $H SH19.dAd fun w=>SH19.dOP w.params)) (YP:=Hook.says (SH.hookD $H SH19.dAd fun w=>SH19.dOP w.params)) (N:=2428) (SH19.left fun w os=>by kernel_rfl) (Hook.of _) (Hook.keeps _) (fun s e=>xl_of s (Bool.and_eq_true_iff.mp e).1) XL.keeps (by rfl) (by rfl) (by rfl) (fun s e=>recFacts_of (Bool.and_eq_true_iff.mp e).2) (by rfl) (by first|assumption|decide+kernel) (by decide+kernel) ⟨rfl,rfl,rfl,rfl,rfl,by decide+kernel⟩ ?hw ?hc)
set_option maxHeartbeats 0 in
theorem PySem.Challenge.cw_shuffletold_k19_together_by_other_ways_holds : PySem.Challenge.rw_shuffletold_k19_together_by_other_ways.Holds := by
 w_on;o_law;k_head;(case hw=>w_witness2)
 k_fill
 refine K19.walk (l:=PySem.Challenge.rw_shuffletold_k19_together_by_other_ways) (K:=fun P=>(SH19.dAd,SH19.dOP P)::_) rfl rfl (fun w h Y=>SH.in_cons (PySem.W.kIn_of Y.1) Y.2) ?F
 case F=>
  intro w mg fa h KX G hmg
  refine' K19.all_mk KX G hmg ⟨?_, ?_, ?_, ?_, ?_, ?_, ?_, ?_, ?_, ?_, ?_, ?_, ?_, ?_, ?_⟩ ?dA0 (L2.GDict.of ?dL0 ?dE0 ?dN0) ?eA0 ?eG0 ?tA0 (L2.sqT_ofK ?tL0 ?tZ0 ?tR0) ?nF0 ?nF1 ?nF2 ?nF3 ?nF4 ?nF5 ?nF6 (L2.Def.of ?a0 ?l0 ?c0 ?k0) (L2.Def.of ?a1 ?l1 ?c1 ?k1) (L2.Def.of ?a2 ?l2 ?c2 ?k2) (L2.Def.of ?a3 ?l3 ?c3 ?k3) (L2.Def.of ?a4 ?l4 ?c4 ?k4) (L2.Def.of ?a5 ?l5 ?c5 ?k5) (L2.Def.of ?a6 ?l6 ?c6 ?k6) (L2.Def.of ?a7 ?l7 ?c7 ?k7) (L2.Def.of ?a8 ?l8 ?c8 ?k8) (L2.Def.of ?a9 ?l9 ?c9 ?k9) (L2.Def.of ?a10 ?l10 ?c10 ?k10) (L2.Def.of ?a11 ?l11 ?c11 ?k11) (L2.Def.of ?a12 ?l12 ?c12 ?k12) (L2.Def.of ?a13 ?l13 ?c13 ?k13) (L2.Def.of ?a14 ?l14 ?c14 ?k14) (L2.Def.of ?a15 ?l15 ?c15 ?k15) (L2.Def.of ?a16 ?l16 ?c16 ?k16) (L2.Def.of ?a17 ?l17 ?c17 ?k17) (L2.Def.of ?a18 ?l18 ?c18 ?k18) (L2.Def.of ?a19 ?l19 ?c19 ?k19) (L2.Def.of ?a20 ?l20 ?c20 ?k20) (L2.Def.of ?a21 ?l21 ?c21 ?k21)
  (case dA0=>refine (SH.nsIn_cons rfl).trans ?_;k_is);(case dL0=>refine (SH.look_cons rfl).trans ?_;k_is);(case dE0=>exact (.cons (.cons (.cons (.cons (.cons .nil))))));(case dN0=>decide+kernel)
  (case eA0=>refine (SH.nsIn_cons rfl).trans ?_;k_is)
  (case tA0=>refine (SH.nsIn_cons rfl).trans ?_;k_is);(case tL0=>refine (SH.look_cons rfl).trans ?_;k_is);(case tZ0=>exact (by decide));(case tR0=>exact (.cons ⟨_,rfl⟩ .nil))
  (case nF0=>refine (SH.nsIn_cons rfl).trans ?_;k_is)
  (case nF1=>refine (SH.nsIn_cons rfl).trans ?_;k_is)
  (case nF2=>refine (SH.nsIn_cons rfl).trans ?_;k_is)
  (case nF3=>refine (SH.nsIn_cons rfl).trans ?_;k_is)
  (case nF4=>refine (SH.nsIn_cons rfl).trans ?_;k_is)
  (case nF5=>refine (SH.nsIn_cons rfl).trans ?_;k_is)
  (case nF6=>refine (SH.nsIn_cons rfl).trans ?_;k_is)
  (case eG0=>exact⟨by decide,⟨_,rfl⟩,SH.keys3 ⟨_,_,_,(SH.look_cons rfl).trans (by k_is),rfl,rfl,fun _=>.cons rfl (.cons rfl .nil)⟩ ⟨_,_,_,(SH.look_cons rfl).trans (by k_is),rfl,rfl,fun _=>.cons rfl (.cons rfl .nil)⟩ ⟨_,_,_,(SH.look_cons rfl).trans (by k_is),rfl,rfl,fun _=>.cons rfl (.cons rfl .nil)⟩,by decide⟩)
  (case a0=>refine (SH.nsIn_cons rfl).trans ?_;k_is);(case l0=>refine (SH.look_cons rfl).trans ?_;k_is);(case c0=>kernel_rfl);(case k0=>kernel_rfl)
  (case a1=>refine (SH.nsIn_cons rfl).trans ?_;k_is);(case l1=>refine (SH.look_cons rfl).trans ?_;k_is);(case c1=>kernel_rfl);(case k1=>kernel_rfl)
  (case a2=>refine (SH.nsIn_cons rfl).trans ?_;k_is);(case l2=>refine (SH.look_cons rfl).trans ?_;k_is);(case c2=>kernel_rfl);(case k2=>kernel_rfl)
  (case a3=>refine (SH.nsIn_cons rfl).trans ?_;k_is);(case l3=>refine (SH.look_cons rfl).trans ?_;k_is);(case c3=>kernel_rfl);(case k3=>kernel_rfl)
  (case a4=>refine (SH.nsIn_cons rfl).trans ?_;k_is);(case l4=>refine (SH.look_cons rfl).trans ?_;k_is);(case c4=>kernel_rfl);(case k4=>kernel_rfl)
  (case a5=>refine (SH.nsIn_cons rfl).trans ?_;k_is);(case l5=>refine (SH.look_cons rfl).trans ?_;k_is);(case c5=>kernel_rfl);(case k5=>kernel_rfl)
  (case a6=>refine (SH.nsIn_cons rfl).trans ?_;k_is);(case l6=>refine (SH.look_cons rfl).trans ?_;k_is);(case c6=>kernel_rfl);(case k6=>kernel_rfl)
  (case a7=>refine (SH.nsIn_cons rfl).trans ?_;k_is);(case l7=>refine (SH.look_cons rfl).trans ?_;k_is);(case c7=>kernel_rfl);(case k7=>kernel_rfl)
  (case a8=>refine (SH.nsIn_cons rfl).trans ?_;k_is);(case l8=>refine (SH.look_cons rfl).trans ?_;k_is);(case c8=>kernel_rfl);(case k8=>kernel_rfl)
  (case a9=>refine (SH.nsIn_cons rfl).trans ?_;k_is);(case l9=>refine (SH.look_cons rfl).trans ?_;k_is);(case c9=>kernel_rfl);(case k9=>kernel_rfl)
  (case a10=>refine (SH.nsIn_cons rfl).trans ?_;k_is);(case l10=>refine (SH.look_cons rfl).trans ?_;k_is);(case c10=>kernel_rfl);(case k10=>kernel_rfl)
  (case a11=>refine (SH.nsIn_cons rfl).trans ?_;k_is);(case l11=>refine (SH.look_cons rfl).trans ?_;k_is);(case c11=>kernel_rfl);(case k11=>kernel_rfl)
  (case a12=>refine (SH.nsIn_cons rfl).trans ?_;k_is);(case l12=>refine (SH.look_cons rfl).trans ?_;k_is);(case c12=>kernel_rfl);(case k12=>kernel_rfl)
  (case a13=>refine (SH.nsIn_cons rfl).trans ?_;k_is);(case l13=>refine (SH.look_cons rfl).trans ?_;k_is);(case c13=>kernel_rfl);(case k13=>kernel_rfl)
  (case a14=>refine (SH.nsIn_cons rfl).trans ?_;k_is);(case l14=>refine (SH.look_cons rfl).trans ?_;k_is);(case c14=>kernel_rfl);(case k14=>kernel_rfl)
  (case a15=>refine (SH.nsIn_cons rfl).trans ?_;k_is);(case l15=>refine (SH.look_cons rfl).trans ?_;k_is);(case c15=>kernel_rfl);(case k15=>kernel_rfl)
  (case a16=>refine (SH.nsIn_cons rfl).trans ?_;k_is);(case l16=>refine (SH.look_cons rfl).trans ?_;k_is);(case c16=>kernel_rfl);(case k16=>kernel_rfl)
  (case a17=>refine (SH.nsIn_cons rfl).trans ?_;k_is);(case l17=>refine (SH.look_cons rfl).trans ?_;k_is);(case c17=>kernel_rfl);(case k17=>kernel_rfl)
  (case a18=>refine (SH.nsIn_cons rfl).trans ?_;k_is);(case l18=>refine (SH.look_cons rfl).trans ?_;k_is);(case c18=>kernel_rfl);(case k18=>kernel_rfl)
  (case a19=>refine (SH.nsIn_cons rfl).trans ?_;k_is);(case l19=>refine (SH.look_cons rfl).trans ?_;k_is);(case c19=>kernel_rfl);(case k19=>kernel_rfl)
  (case a20=>refine (SH.nsIn_cons rfl).trans ?_;k_is);(case l20=>refine (SH.look_cons rfl).trans ?_;k_is);(case c20=>kernel_rfl);(case k20=>kernel_rfl)
  (case a21=>refine (SH.nsIn_cons rfl).trans ?_;k_is);(case l21=>refine (SH.look_cons rfl).trans ?_;k_is);(case c21=>kernel_rfl);(case k21=>kernel_rfl)
  all_goals (refine (SH.nsIn_cons rfl).trans ?_;k_is)
