import PyProof.Rows.All
import Wide.All
import OpenK.AllK
import Wide.FinOn
import Lean
import PyProof.EqAt
import PyProof.EqKinds
import PyProof.TupleCall
import PySem.Challenge.RW_shuffletold_k52_told_machines_again
set_option Elab.async false
set_option linter.all false
set_option maxRecDepth 100000
set_option genSizeOfSpec false
noncomputable section
open PySem PySem.Spec PyProof.Rows
set_option maxHeartbeats 16000000
namespace L2
noncomputable abbrev Key:=Sum Int Str
noncomputable def zgL:Key->Value->Bool
 | .inl k,v=>Value.isInt k v
 | .inr x,v=>Value.isStrOf x v
noncomputable def keyH (w:World):Key->Int
 | .inl k=>hashInt k
 | .inr x=>hashStr w x
theorem zaZ:∀{k:Key} {v:Value},zgL k v=true->(∃i t,k=Sum.inl i/\v=Value.int i t)∨(∃x t,k=Sum.inr x/\v=Value.str x t)
 | .inl i,v,h=>by
  obtain⟨t,e⟩:=Value.isInt_shape (k:=i) (v:=v) h
  exact .inl ⟨i,t,rfl,e⟩
 | .inr x,v,h=>by
  obtain⟨t,e⟩:=Value.isStrOf_shape (x:=x) (v:=v) h
  exact .inr ⟨x,t,rfl,e⟩
theorem zhj (i:Int)(t:Tok):zgL (.inl i) (.int i t)=true:=by simp[zgL,Value.isInt]
theorem zhk (x:Str)(t:Tok):zgL (.inr x) (.str x t)=true:=by simp[zgL,Value.isStrOf]
theorem zlL (a b:Int):decide ((Sum.inl a:Key)=Sum.inl b)=(a==b):=by
 by_cases e:a=b
 ·subst e;simp
 ·have h:¬(Sum.inl a:Key)=Sum.inl b:=fun q=>e (Sum.inl.inj q)
  rw[decide_eq_false h]
  exact (beq_eq_false_iff_ne.mpr e).symm
theorem zlM (a b:Str):decide ((Sum.inr a:Key)=Sum.inr b)=decide (a=b):=by
 by_cases e:a=b
 ·subst e;simp
 ·have h:¬(Sum.inr a:Key)=Sum.inr b:=fun q=>e (Sum.inr.inj q)
  rw[decide_eq_false h,decide_eq_false e]
theorem zlN (a:Int)(b:Str):decide ((Sum.inl a:Key)=Sum.inr b)=false:=decide_eq_false (fun q=>nomatch q)
theorem zlO (a:Str)(b:Int):decide ((Sum.inr a:Key)=Sum.inl b)=false:=decide_eq_false (fun q=>nomatch q)
noncomputable def zbc (prog:Program)(w:World):PySem.KeyKind prog w Key where
 is:=zgL
 hash:=keyH w
 inj:=fun v a b ha hb=>by
  rcases zaZ ha with⟨i,t,rfl,rfl⟩|⟨x,t,rfl,rfl⟩
  ·rcases zaZ hb with⟨j,u,rfl,e⟩|⟨y,u,rfl,e⟩
   ·injection e with e1 _;rw[e1]
   ·exact nomatch e
  ·rcases zaZ hb with⟨j,u,rfl,e⟩|⟨y,u,rfl,e⟩
   ·exact nomatch e
   ·injection e with e1 _;rw[e1]
 byValue:=fun k v h=>by
  rcases zaZ h with⟨i,t,rfl,rfl⟩|⟨x,t,rfl,rfl⟩<;>rfl
 pyHash:=fun hv h=>by
  rcases zaZ hv with⟨i,t,rfl,rfl⟩|⟨x,t,rfl,rfl⟩
  ·exact wpAny_pyHash_int h
  ·exact wpAny_pyHash_str h
 eqBool:=fun hu hv h=>by
  rcases zaZ hu with⟨i,t,rfl,rfl⟩|⟨x,t,rfl,rfl⟩
  ·rcases zaZ hv with⟨j,u,rfl,rfl⟩|⟨y,u,rfl,rfl⟩
   ·rw[zlL] at h;exact wpAny_eqBool_int h
   ·rw[zlN] at h;exact SeqAt.EqAt.int_str i t y u _ _ _ _ h
  ·rcases zaZ hv with⟨j,u,rfl,rfl⟩|⟨y,u,rfl,rfl⟩
   ·rw[zlO] at h;exact SeqAt.EqAt.str_int x t j u _ _ _ _ h
   ·rw[zlM] at h;exact wpAny_eqBool_str h
 «strs»:=fun k x t v h=>by
  rcases zaZ h with⟨i,u,rfl,e⟩|⟨y,u,rfl,e⟩
  ·exact nomatch e
  ·injection e with e1 _
   subst e1
   cases v<;>rfl
theorem zfy (prog:Program)(w:World)(i:Int)(t:Tok):(zbc prog w).is (.inl i) (.int i t)=true:=zhj i t
theorem zfz (prog:Program)(w:World)(x:Str)(t:Tok):(zbc prog w).is (.inr x) (.str x t)=true:=zhk x t
inductive V where
 |non|bl (b:Bool)|int (i:Int)|str (x:Str)|byt (b:Array UInt8)|flt (b:UInt64)|ref (a:Addr)|ty (n:String)
 deriving DecidableEq
noncomputable def RelV:V->Value->Prop
 | .non,u=>u=Value.none
 | .bl b,u=>u=Value.bool b
 | .int i,u=>∃t,u=Value.int i t
 | .str x,u=>∃t,u=Value.str x t
 | .byt b,u=>∃t,u=Value.bytes b t
 | .flt b,u=>∃t,u=Value.float b t
 | .ref a,u=>u=Value.ref a
 | .ty n,u=>u=Value.type n
noncomputable abbrev Vals:List V->List Value->Prop:=Paired RelV
theorem Vals.length {xs:List V}{us:List Value}(r:Vals xs us):xs.length=us.length:=Paired.length r
theorem Vals.get:∀{xs:List V} {us:List Value} {i:Nat} {x:V},Vals xs us->xs[i]? =some x->∃u,us[i]? =some u/\RelV x u
 |_,_,_,_,.nil,e=>by simp at e
 |_,_,0,_,.cons r _,e=>by simp at e;subst e;exact⟨_,rfl,r⟩
 |_,_,i+1,x,.cons _ t,e=>by
  obtain⟨u,h1,h2⟩:=Vals.get (i:=i) (x:=x) t (by simpa using e)
  exact⟨u,by simpa using h1,h2⟩
theorem Vals.set {x:V}{u:Value}(r:RelV x u):∀{xs:List V} {us:List Value} (i:Nat),Vals xs us->Vals (xs.set i x) (us.set i u)
 |_,_,_,.nil=>.nil
 |_,_,0,.cons _ t=>.cons r t
 |_,_,i+1,.cons q t=>.cons q (Vals.set r i t)
theorem Vals.append:∀{xs ys:List V} {us ws:List Value},Vals xs us->Vals ys ws->Vals (xs++ys) (us++ws)
 |_,_,_,_,.nil,s=>s
 |_,_,_,_,.cons r t,s=>.cons r (Vals.append t s)
theorem Vals.take:∀{xs:List V} {us:List Value} (n:Nat),Vals xs us->Vals (xs.take n) (us.take n)
 |_,_,0,_=>.nil
 |_,_,_+1,.nil=>.nil
 |_,_,n+1,.cons r t=>.cons r (Vals.take n t)
theorem Vals.drop:∀{xs:List V} {us:List Value} (n:Nat),Vals xs us->Vals (xs.drop n) (us.drop n)
 |_,_,0,r=>r
 |_,_,_+1,.nil=>.nil
 |_,_,n+1,.cons _ t=>Vals.drop n t
theorem Vals.none_of:∀{xs:List V} {us:List Value} {i:Nat},Vals xs us->xs[i]? =none->us[i]? =none:=fun {xs us i} r e=>by
 have h1:=r.length
 have h2:xs.length<=i:=List.getElem?_eq_none_iff.mp e
 exact List.getElem?_eq_none_iff.mpr (by lia)
noncomputable def RelO:Option V->Option Value->Prop
 |some v,some u=>RelV v u
 |none,none=>True
 |_,_=>False
noncomputable def KV {κ:Type}:List (κ×V)->List (κ×Value)->Prop:=Paired fun (p:κ×V) (q:κ×Value)=>p.1=q.1/\RelV p.2 q.2
noncomputable def kV:Key->V
 | .inl i=>.int i
 | .inr x=>.str x
inductive HO where
  |lst (xs:List V)
  |tup (xs:List V)
  |dK (kvs:List (Key×V))|dT (kvs:List (List Key×V))
  |set (S:Int->Bool) (n:Nat)
  |ins (C dx:Addr) (fs:List (Str×V))
  |own (x:Addr)
  |xd (fs:List (Str×V))
  |met (f x:Addr)
  |rng (lo hi:Int)
  |frz (o:Obj) (u:HO)
  |tbl (ps:Array Value)
  |ext (φ:Heap->Prop)
noncomputable abbrev Hp:=Addr->Option HO
noncomputable def upd (H:Hp)(a:Addr)(o:HO):Hp:=fun b=>if b=a then some o else H b
theorem zab {H:Hp}{a:Addr}{o:HO}:upd H a o a=some o:=by unfold upd;rw[if_pos rfl]
theorem zaj {H:Hp}{a b:Addr}{o:HO}(h:b≠a):upd H a o b=H b:=by unfold upd;rw[if_neg h]
theorem zkJ {H:Hp}{a:Addr}{o u:HO}:upd (upd H a o) a u=upd H a u:=by
 funext b;unfold upd;split<;>rfl
theorem zkK {H:Hp}{a b:Addr}{o u:HO}(h:H a=some o)(h':H b=some u)(d:o≠u):a≠b:=by
 intro e;subst e;rw[h] at h';exact d (Option.some.inj h')
theorem zaJ {H:Hp}{a b:Addr}{o:HO}(h:H a=some o)(h':H b=none):a≠b:=by
 intro e;subst e;rw[h] at h';cases h'
noncomputable def PTup (h:Heap)(a:Addr)(items:Array Value):Prop:=∃o,h.get? a=some o/\o.cls=.type "tuple" /\(∃n,o.data=.seq items n)/\o.dict=none/\o.slots=#[]
theorem PTup.tup {h:Heap}{a:Addr}{items:Array Value}(p:PTup h a items):IsTup h a items:=by
 obtain⟨o,e,c,d,_⟩:=p
 exact⟨o,e,c,d⟩
theorem PTup.new {h:Heap}{items:Array Value}{n:Nat}:PTup (h.push {cls:=.type "tuple",data:=.seq items n}) h.objs.size items:=⟨_,Heap.get?_push_size _ rfl,rfl,⟨_,rfl⟩,rfl,rfl⟩
section
variable (P:Program)(w:World)
noncomputable def ObjOk (H:Hp)(h:Heap)(a:Addr):HO->Prop
 | .lst xs=>xs.length<=sizeLine/\∃(its:List Value) (n:Nat),Vals xs its/\h.get? a=some {cls:=.type "list",data:=.seq its.toArray n}
 | .tup xs=>xs.length<=sizeLine/\∃its:List Value,Vals xs its/\PTup h a its.toArray
 | .dK kvs=>kvs.length<=sizeLine/\(a==sysModules)=false/\∃vs,KV kvs vs/\h.DictOf (zbc P w) a vs
 | .dT kvs=>kvs.length<=sizeLine/\(a==sysModules)=false/\∃xs:List (List Key×Addr×Value),
   Paired (fun (p:List Key×V) (q:List Key×Addr×Value)=>p.1=q.1/\H q.2.1=some (.tup (p.1.map kV))/\RelV p.2 q.2.2) kvs xs/\
   ∃o es ep,h.get? a=some o/\o.ExactDict/\o.data=.dict es ep/\es.toList=xs.map (entryOfKey (tupleKind (zbc P w)))/\(xs.map (·.1)).Nodup
 | .set S n=>h.SetOf (intKind P w) a S n
 | .ins C dx fs=>H dx=some (.own a)/\fs.length<=1000/\dx≠a/\h.get? a=some (PySem.W.instObj C dx)/\
   ∃mA,h.Ns1 dx mA/\(∀f,RelO (fs.lookup f) (mA f))/\PySem.Within mA (fs.map (·.1))
 | .own _=>∃o,h.get? a=some o
 | .xd fs=>∃mA,h.Ns1 a mA/\∀f,RelO (fs.lookup f) (mA f)
 | .rng lo hi=>∃t u v,h.get? a=some {cls:=.type "range",data:=.fields #[.int lo t,.int hi u,.int 1 v]}
 | .frz o u=>h.get? a=some o/\ObjOk H h a u
 | .tbl ps=>h.get? a=some {cls:=.none,data:=.fields ps}
 | .met f x=>h.get? a=some (PySem.W.methodObj (.ref f) (.ref x))
 | .ext φ=>φ h/\(∃o,h.get? a=some o)/\∀h1 h2:Heap,φ h1->(∀o,h1.get? a=some o->h2.get? a=some o)->φ h2
noncomputable def HOk (H:Hp)(h:Heap):Prop:=∀a o,H a=some o->ObjOk P w H h a o
end
section
variable {P:Program}{w:World}{H H':Hp}{h h':Heap}{a:Addr}{o:HO}
theorem ObjOk.lt (x:ObjOk P w H h a o):a<h.objs.size:=by
 cases o with
 |lst xs=>obtain⟨_,_,_,_,e⟩:=x;exact Heap.lt_size e
 |tup xs=>obtain⟨_,_,_,p⟩:=x;exact p.tup.lt
 |dK kvs=>obtain⟨_,_,_,_,o,_,_,e,_⟩:=x;exact Heap.lt_size e
 |dT kvs=>obtain⟨_,_,_,_,o,_,_,e,_⟩:=x;exact Heap.lt_size e
 |set S n=>obtain⟨o,_,_,_,e,_⟩:=x;exact Heap.lt_size e
 |ins C dx fs=>obtain⟨_,_,_,e,_⟩:=x;exact Heap.lt_size e
 |own y=>obtain⟨_,e⟩:=x;exact Heap.lt_size e
 |xd fs=>obtain⟨_,⟨_,_,_,e,_⟩,_⟩:=x;exact Heap.lt_size e
 |rng lo hi=>obtain⟨_,_,_,e⟩:=x;exact Heap.lt_size e
 |frz ob u=>obtain⟨e,_⟩:=x;exact Heap.lt_size e
 |tbl ps=>exact Heap.lt_size (show h.get? a=some _ from x)
 |met f y=>exact Heap.lt_size (show h.get? a=some _ from x)
 |ext φ=>obtain⟨_,⟨_,e⟩,_⟩:=x;exact Heap.lt_size e
theorem Paired.mapP {α β:Type}{F G:α->β->Prop}:∀{l₁:List α} {l₂:List β},Paired F l₁ l₂->(∀a b,F a b->G a b)->Paired G l₁ l₂
 |_,_,.nil,_=>.nil
 |_,_,.cons r t,f=>.cons (f _ _ r) (Paired.mapP t f)
theorem ObjOk.stay (x:ObjOk P w H h a o)(k:∀b u,(b=a∨H b=some (.own a))->h.get? b=some u->h'.get? b=some u)
  (ho:∀b,H b=some (.own a)->H' b=some (.own a)) (ht:∀b xs,H b=some (.tup xs)->H' b=some (.tup xs)):ObjOk P w H' h' a o:=by
 induction o with
 |lst xs=>obtain⟨z,its,n,r,e⟩:=x;exact⟨z,its,n,r,k _ _ (.inl rfl) e⟩
 |tup xs=>obtain⟨z,its,r,ob,e,c⟩:=x;exact⟨z,its,r,ob,k _ _ (.inl rfl) e,c⟩
 |dK kvs=>obtain⟨z,y,vs,r,ob,es,ep,e,c⟩:=x;exact⟨z,y,vs,r,ob,es,ep,k _ _ (.inl rfl) e,c⟩
 |dT kvs=>
  obtain⟨z,y,xs,r,ob,es,ep,e,c⟩:=x
  exact⟨z,y,xs,Paired.mapP r fun p q z=>⟨z.1,ht _ _ z.2.1,z.2.2⟩,ob,es,ep,k _ _ (.inl rfl) e,c⟩
 |set S n=>obtain⟨ob,es,ep,t,e,c⟩:=x;exact⟨ob,es,ep,t,k _ _ (.inl rfl) e,c⟩
 |ins C dx fs=>
  obtain⟨d,z,ne,e,mA,⟨od,es,ep,e2,c⟩,r⟩:=x
  exact⟨ho _ d,z,ne,k _ _ (.inl rfl) e,mA,⟨od,es,ep,k _ _ (.inr d) e2,c⟩,r⟩
 |own y=>obtain⟨ob,e⟩:=x;exact⟨ob,k _ _ (.inl rfl) e⟩
 |xd fs=>obtain⟨mA,⟨od,es,ep,e,c⟩,r⟩:=x;exact⟨mA,⟨od,es,ep,k _ _ (.inl rfl) e,c⟩,r⟩
 |rng lo hi=>obtain⟨t,u,v,e⟩:=x;exact⟨t,u,v,k _ _ (.inl rfl) e⟩
 |frz ob u ih=>obtain⟨e,q⟩:=x;exact⟨k _ _ (.inl rfl) e,ih q⟩
 |tbl ps=>
  have e:h.get? a=some {cls:=.none,data:=.fields ps}:=x
  show h'.get? a=some {cls:=.none,data:=.fields ps}
  exact k a _ (.inl rfl) e
 |met f y=>
  have e:h.get? a=some (PySem.W.methodObj (.ref f) (.ref y)):=x
  show h'.get? a=some (PySem.W.methodObj (.ref f) (.ref y))
  exact k a _ (.inl rfl) e
 |ext φ=>obtain⟨p,⟨o,e⟩,st⟩:=x;exact⟨st _ _ p fun o q=>k _ _ (.inl rfl) q,⟨o,k _ _ (.inl rfl) e⟩,st⟩
theorem HOk.lt (x:HOk P w H h)(e:H a=some o):a<h.objs.size:=(x a o e).lt
theorem HOk.fresh (x:HOk P w H h)(e:h.objs.size<=a):H a=none:=by
 cases q:H a with
 |none=>rfl
 |some u=>exact absurd (Nat.lt_of_lt_of_le (x.lt q) e) (Nat.lt_irrefl _)
theorem HOk.kept (x:HOk P w H h)(k:∀b u,h.get? b=some u->h'.get? b=some u):HOk P w H h':=fun a o e=>
 (x a o e).stay (fun b u _ q=>k b u q) (fun _ q=>q) fun _ _ q=>q
theorem HOk.laid (x:HOk P w H h)(k:∀b u,h.get? b=some u->h'.get? b=some u)(hp:h.objs.size<=a)(new:ObjOk P w (upd H a o) h' a o):HOk P w (upd H a o) h':=fun b u e=>by
 have hn:=x.fresh hp
 by_cases hb:b=a
 ·subst hb;rw[zab] at e;cases e;exact new
 ·rw [zaj hb] at e
  exact (x b u e).stay (fun c v _ q=>k c v q) (fun c q=>by rw[zaj (zaJ q hn)];exact q) fun c xs q=>by rw[zaj (zaJ q hn)];exact q
end
noncomputable def Rd (H:Hp)(a:Addr)(u:HO):Prop:=H a=some u∨∃o,H a=some (.frz o u)
theorem Rd.ok {P:Program}{w:World}{H:Hp}{h:Heap}{a:Addr}{u:HO}(r:Rd H a u)(x:HOk P w H h):ObjOk P w H h a u:=by
 rcases r with r|⟨o,r⟩
 ·exact x a u r
 ·obtain ⟨_,q⟩:=x a _ r
  exact q
noncomputable def Mut:Option HO->Prop
 |some (.lst _)=>True
 |some (.dK _)=>True
 |some (.dT _)=>True
 |some (.set _ _)=>True
 |some (.ins _ _ _)=>True
 |some (.ext _)=>True
 |_=>False
section
variable {P:Program}{w:World}{H:Hp}{h h':Heap}{x e:Addr}{o':HO}
theorem HOk.write (ok:HOk P w H h)(mu:Mut (H x))(he:e=x∨H e=some (.own x))(k:∀b u,b≠e->h.get? b=some u->h'.get? b=some u)(heo:∃u,h'.get? e=some u)
  (new:ObjOk P w (upd H x o') h' x o'):HOk P w (upd H x o') h':=fun b u q=>by
 have nown:∀c y,H c=some (.own y)->c≠x:=fun c y r z=>by subst z;rw[r] at mu;exact mu
 have ntup:∀c xs,H c=some (.tup xs)->c≠x:=fun c xs r z=>by subst z;rw[r] at mu;exact mu
 by_cases hb:b=x
 ·subst hb;rw[zab] at q;cases q;exact new
 ·rw [zaj hb] at q
  by_cases hbe:b=e
  ·have q':H b=some (.own x):=by
    rcases he with z|z
    ·exact absurd (hbe.trans z) hb
    ·rw[hbe];exact z
   rw[q] at q';cases q'
   obtain⟨v,hv⟩:=heo
   exact⟨v,by rw[hbe];exact hv⟩
  ·refine (ok b u q).stay (fun c v hc r=>k c v ?_ r) (fun c r=>by rw[zaj (nown c b r)];exact r) fun c xs r=>by rw[zaj (ntup c xs r)];exact r
   rcases hc with rfl|hc
   ·exact hbe
   ·rintro rfl
    rcases he with z|z
    ·exact nown c b hc z
    ·rw[hc] at z;cases z;exact hb rfl
end
structure Un (fs ex:List Addr) (H H':Hp) (h h':Heap):Prop where
 keep:∀b o,h.get? b=some o->H b=none->b∉fs->b∉ex->h'.get? b=some o
 slot:∀b o,h.get? b=some o->H b=none->b∈fs->b∉ex->∃sl,h'.get? b=some {o with slots:=sl}
 free:∀b o,h.get? b=some o->H b=none->b∉ex->H' b=none
 there:∀b o,h.get? b=some o->b∉ex->∃o',h'.get? b=some o'
 tups:∀b xs,H b=some (.tup xs)->H' b=some (.tup xs)
 frzs:∀b o u,H b=some (.frz o u)->H' b=some (.frz o u)
 tbls:∀b ps,H b=some (.tbl ps)->∃more,H' b=some (.tbl (ps++more))
section
variable {fs fs' ex ex':List Addr}{H H1 H2:Hp}{h h1 h2 h':Heap}{a x e:Addr}{o:HO}
theorem Un.any (u:Un fs ex H H1 h h1){b:Addr}{ob:Obj}(q:h.get? b=some ob)(n:H b=none)(hx:b∉ex):∃sl,h1.get? b=some {ob with slots:=sl}:=by
 by_cases hb:b∈fs
 ·exact u.slot b ob q n hb hx
 ·exact⟨ob.slots,u.keep b ob q n hb hx⟩
theorem Un.kept (k:∀b u,h.get? b=some u->h'.get? b=some u):Un fs ex H H h h':=
 ⟨fun b ob q _ _ _=>k b ob q,fun b ob q _ _ _=>⟨ob.slots,k b ob q⟩,fun _ _ _ n _=>n,fun b ob q _=>⟨ob,k b ob q⟩,fun _ _ q=>q,fun _ _ _ q=>q,fun _ ps q=>⟨#[],by rw[q];simp⟩⟩
theorem Un.refl:Un fs ex H H h h:=Un.kept fun _ _ q=>q
theorem Un.laid (k:∀b u,h.get? b=some u->h'.get? b=some u)(hp:h.objs.size<=a)(hn:H a=none):Un fs ex H (upd H a o) h h' where
 keep:=fun b u q _ _ _=>k b u q
 slot:=fun b u q _ _ _=>⟨u.slots,k b u q⟩
 free:=fun b u q n _=>by rw[zaj (Nat.ne_of_lt (Nat.lt_of_lt_of_le (Heap.lt_size q) hp))];exact n
 there:=fun b u q _=>⟨u,k b u q⟩
 tups:=fun b xs q=>by rw[zaj (zaJ q hn)];exact q
 frzs:=fun b u xs q=>by rw[zaj (zaJ q hn)];exact q
 tbls:=fun b ps q=>⟨#[],by rw[zaj (zaJ q hn),q];simp⟩
theorem Un.write (mu:Mut (H x))(he:e=x∨H e=some (.own x))(k:∀b u,b≠e->h.get? b=some u->h'.get? b=some u)(heo:∃u,h'.get? e=some u):Un fs ex H (upd H x o) h h':=by
 have hx:∀b,H b=none->b≠x:=fun b n z=>by subst z;rw[n] at mu;exact mu
 have hb:∀b,H b=none->b≠e:=fun b n z=>by
  subst z
  rcases he with r|r
  ·exact hx b n r
  ·rw[n] at r;cases r
 have hm:∀b u,H b=some u->¬Mut (some u)->b≠x:=fun b u q nm z=>by subst z;rw[q] at mu;exact nm mu
 refine⟨fun b u q n _ _=>k b u (hb b n) q,fun b u q n _ _=>⟨u.slots,k b u (hb b n) q⟩,fun b u q n _=>by rw[zaj (hx b n)];exact n,fun b u q _=> ?_,
  fun b xs q=>by rw[zaj (hm b _ q fun z=>z)];exact q,fun b u xs q=>by rw[zaj (hm b _ q fun z=>z)];exact q,fun b ps q=>⟨#[],by rw[zaj (hm b _ q fun z=>z),q];simp⟩⟩
 by_cases hbe:b=e
 ·subst hbe;exact heo
 ·exact⟨u,k b u hbe q⟩
end
noncomputable def trk (h:Heap)(H:Hp):List Addr:=(List.range h.objs.size).filter fun a=>(H a).isSome
noncomputable def hidT (h:Heap)(H:Hp):Heap:=PySem.W.hideAll h (trk h H)
theorem zhl (h:Heap)(H:Hp):(hidT h H).objs.size=h.objs.size:=PySem.W.hideAll_size _ _
theorem zi7 {h:Heap}{H:Hp}{b:Addr}{o:Obj}(e:h.get? b=some o)(n:H b=none):(hidT h H).get? b=some o:=
 PySem.W.hideAll_get _ e fun hm=>by
  have q:(H b).isSome=true:=(List.mem_filter.mp hm).2
  rw[n] at q;simp at q
theorem zkL {h:Heap}{H:Hp}{b:Addr}{o:Obj}(e:(hidT h H).get? b=some o):h.get? b=some o/\H b=none:=by
 have e':h.get? b=some o:=PySem.W.of_hideAll (trk h H) e
 refine⟨e', ?_⟩
 cases q:H b with
 |none=>rfl
 |some x=>
  have hm:b∈trk h H:=List.mem_filter.mpr ⟨List.mem_range.mpr (Heap.lt_size e'),by simp[q]⟩
  have z:(hidT h H).get? b=none:=PySem.W.hideAll_none (trk h H) hm
  rw[z] at e;cases e
noncomputable def zkM (g h:Heap)(L:Addr):List (Addr×Obj):=(List.range h.objs.size).filterMap fun a=>if a=L∨(g.get? a).isSome=true then none else (h.get? a).map fun o=>(a,o)
noncomputable def rest (g h:Heap)(L d:Addr):List (Addr×Obj):=(zkM g h L).filter fun p=>decide (p.1≠d)
structure Mod (K:PySem.W.Frag) (mg:Str->Option Value) (base:Heap):Prop where
 kin:K.In base
 glob:base.Ns mainGlobals mg
 blt:∃mb,base.Ns builtinsNs mb/\∀x:Str,x≠ "__name__" ->mb x=bootBuiltins x
 nolimit:base.NoLimit
structure Cx where
 prog:Program
 w:World
 K:PySem.W.Frag
 mg:Str->Option Value
 base:Heap
 A:Around
 N:List Str
 s₀:Shared
 H₀:Hp
 env:Env
 outer:List Env
 stack:List Env
 ex:List Addr
 fn:Str->Bool
 calm:Bool
 pn:List (Addr×Obj)
 xe:Value->Shared->Prop
noncomputable def frs (l:List Env):List Addr:=l.filterMap (·.frame)
noncomputable abbrev Cx.fs (X:Cx):List Addr:=frs X.outer
noncomputable def Vis (sc:Scope)(x:Str):Prop:=sc.names.lookup x=some .local∨sc.names.lookup x=some .cell∨sc.names.lookup x=some .free
noncomputable def Loc (sc:Scope)(x:Str):Prop:=sc.names.lookup x=some .local∨sc.names.lookup x=some .cell
noncomputable def Look (env:Env)(h:Heap)(m:Str->Option Value)(x:Str)(u:Value):Prop:=
 (env.kindOf x=some .local/\m x=some u)∨((env.kindOf x=some .cell∨env.kindOf x=some .free)/\∃c,env.cells.lookup x=some c/\h.IsCell c (some u))
structure Cx.Ok (X:Cx):Prop where
 mod:Mod X.K X.mg X.base
 kind:X.env.scope.kind=.function
 glob:X.env.globals=mainGlobals
 blt:X.env.builtins=builtinsNs
 above:X.s₀.heap.objs.size<=X.env.locals
 inj:∀x y c,X.env.cells.lookup x=some c->X.env.cells.lookup y=some c->x=y
 has:∀x,(X.env.kindOf x=some .cell∨X.env.kindOf x=some .free)->∃c,X.env.cells.lookup x=some c
 cab:∀x c,X.fn x=true->X.env.cells.lookup x=some c->X.s₀.heap.objs.size<=c
 hd:X.calm=true->X.A.handled=none
 frames:X.A.frames=some X.stack
 stk:X.stack=X.outer∨(X.stack=X.env::X.outer/\X.env.frame=some X.env.locals)
 exf:∀b∈X.ex,b≠X.env.locals/\∀x c,X.env.cells.lookup x=some c->c≠b
 bs:∀b o,X.base.get? b=some o->X.s₀.heap.get? b=some o/\X.H₀ b=none
 bsz:X.base.objs.size<=X.s₀.heap.objs.size
 noex:∀b o,X.base.get? b=some o->b∉X.ex
 exfs:∀b∈X.ex,b∉X.fs
 funs:X.s₀.heap.FunFrames X.base X.outer
 frf:∀b∈X.fs,X.H₀ b=none
structure Inv (X:Cx) (pins:List (Addr×Obj)) (σ:List (Option V)) (H:Hp) (s:Shared):Prop where
 ok:X.Ok
 os:s.os=X.s₀.os
 bare:AllBare s.gens
 base:Un X.fs X.ex X.H₀ H X.s₀.heap s.heap
 loc:∃m,s.heap.Ns X.env.locals m/\∀(i:Nat) (x:Str) (v:V),X.N[i]? =some x->σ[i]? =some (some v)->Vis X.env.scope x->∃u,RelV v u/\Look X.env s.heap m x u
 cell:∀x c,X.env.cells.lookup x=some c->∃v,s.heap.IsCell c v
 free:H X.env.locals=none
 freeC:∀x c,X.env.cells.lookup x=some c->H c=none
 pin:∀p∈X.pn++pins,s.heap.get? p.1=some p.2/\H p.1=none/\p.1≠X.env.locals/\p.1∉X.fs/\∀v,p.2.data≠.cell v
 hok:HOk X.prog X.w H s.heap
 len:σ.length=X.N.length
section
variable {X:Cx}{pins:List (Addr×Obj)}{σ:List (Option V)}{H H':Hp}{s:Shared}{h':Heap}
theorem Cx.Ok.nofr (ok:X.Ok){b:Addr}{o:Obj}(e:X.base.get? b=some o):b∉X.fs:=fun hb=>by
 have:=(ok.funs.mem hb).1
 rw[e] at this;cases this
theorem Inv.bs (I:Inv X pins σ H s):∀b o,X.base.get? b=some o->s.heap.get? b=some o/\H b=none:=fun b o e=>
 ⟨I.base.keep b o (I.ok.bs b o e).1 (I.ok.bs b o e).2 (I.ok.nofr e) (I.ok.noex b o e),I.base.free b o (I.ok.bs b o e).1 (I.ok.bs b o e).2 (I.ok.noex b o e)⟩
theorem Inv.bk (I:Inv X pins σ H s):∀b o,X.base.get? b=some o->s.heap.get? b=some o:=fun b o e=>(I.bs b o e).1
theorem Inv.mod (I:Inv X pins σ H s):Mod X.K X.mg X.base:=I.ok.mod
theorem Inv.kIn (I:Inv X pins σ H s):X.K.In s.heap:=I.ok.mod.kin.keeps I.bk
theorem Inv.lt (I:Inv X pins σ H s):X.env.locals<s.heap.objs.size:=let ⟨_,hn,_⟩:=I.loc;hn.lt
theorem Inv.sz (I:Inv X pins σ H s):X.s₀.heap.objs.size<=s.heap.objs.size:=Nat.le_trans I.ok.above (Nat.le_of_lt I.lt)
theorem Inv.nofs (I:Inv X pins σ H s){a:Addr}(h:s.heap.objs.size<=a):a∉X.fs:=fun hb=>by
 obtain⟨_,o,ho,_⟩:=I.ok.funs.mem hb
 exact absurd (Nat.lt_of_lt_of_le (Heap.lt_size ho) (Nat.le_trans I.sz h)) (Nat.lt_irrefl _)
theorem Inv.cne (I:Inv X pins σ H s):∀x c,X.env.cells.lookup x=some c->c≠X.env.locals:=fun x c e z=>by
 obtain⟨v,o,ho,hd⟩:=I.cell x c e
 obtain⟨m,⟨o',es,ep,ho',hd',_⟩,_⟩:=I.loc
 rw[z,ho'] at ho;cases ho;rw[hd'] at hd;cases hd
theorem Inv.funs (I:Inv X pins σ H s):s.heap.FunFrames X.base X.outer:=by
 have all:∀(l:List Env),(∀b∈frs l,b∈X.fs)->X.s₀.heap.FunFrames X.base l->s.heap.FunFrames X.base l:=by
  intro l
  induction l with
  |nil=>intro _ _;trivial
  |cons env r ih=>
   intro hs hl
   obtain⟨hk,⟨L,o,hf,hn,ho,hd⟩,hr⟩:=hl
   have hL:L∈X.fs:=hs L (by unfold frs;rw[List.filterMap_cons,hf];exact List.mem_cons_self)
   obtain⟨sl,e⟩:=I.base.slot L o ho (I.ok.frf L hL) hL fun z=>I.ok.exfs L z hL
   exact⟨hk,⟨L,_,hf,hn,e,hd⟩,ih (fun b hb=>hs b (by unfold frs;rw[List.filterMap_cons,hf];exact List.mem_cons_of_mem _ hb)) hr⟩
 exact all X.outer (fun _ hb=>hb) I.ok.funs
theorem Inv.stack (I:Inv X pins σ H s):s.heap.FunFrames X.base X.stack:=by
 rcases I.ok.stk with e|⟨e,hf⟩
 ·rw[e];exact I.funs
 ·rw [e]
  obtain⟨m,hn,_⟩:=I.loc
  refine .cons (by rw[I.ok.kind];decide) hf hn ?_ I.funs
  exact Heap.get?_none_of_le (Nat.le_trans I.ok.bsz I.ok.above)
theorem Inv.stkSub (I:Inv X pins σ H s):∀b∈frs X.stack,b∈X.env.locals::X.fs:=fun b hb=>by
 rcases I.ok.stk with e|⟨e,hf⟩
 ·rw[e] at hb;exact List.mem_cons_of_mem _ hb
 ·rw [e] at hb
  unfold frs at hb
  rw[List.filterMap_cons,hf] at hb
  exact hb
theorem Inv.stkFree (I:Inv X pins σ H s):∀b∈frs X.stack,H b=none:=fun b hb=>by
 rcases List.mem_cons.mp (I.stkSub b hb) with e|hb
 ·rw[e];exact I.free
 ·obtain ⟨_,o,ho,_⟩:=I.ok.funs.mem hb
  exact I.base.free b o ho (I.ok.frf b hb) fun z=>I.ok.exfs b z hb
theorem Inv.step {g':Array GenState}{t':Nat}{d':Drawn}{ch:List Addr}(I:Inv X pins σ H s)
  (hch:∀b∈ch,(b∈X.ex∨X.s₀.heap.objs.size<=b)/\b≠X.env.locals/\(∀x c,X.env.cells.lookup x=some c->c≠b)/\∀p∈X.pn++pins,p.1≠b)
  (keep:∀b o,b≠X.env.locals->b∉X.fs->b∉ch->s.heap.get? b=some o->H b=none->h'.get? b=some o)
  (slot:∀b o,b≠X.env.locals->b∈X.fs->b∉ch->s.heap.get? b=some o->H b=none->∃sl,h'.get? b=some {o with slots:=sl}) (free:∀b o,b∉ch->s.heap.get? b=some o->H b=none->H' b=none)
  (there:∀b o,b∉ch->s.heap.get? b=some o->∃o',h'.get? b=some o')
  (tups:∀b xs,H b=some (.tup xs)->H' b=some (.tup xs)) (frzs:∀b o u,H b=some (.frz o u)->H' b=some (.frz o u)) (tbls:∀b ps,H b=some (.tbl ps)->∃more,H' b=some (.tbl (ps++more)))
  (ns:∀m,s.heap.Ns X.env.locals m->h'.Ns X.env.locals m) (hok:HOk X.prog X.w H' h') (hg:AllBare g'):
  Inv X pins σ H' {s with heap:=h',gens:=g',drawn:=d',toks:=t'}:=by
 have neL:∀b o,X.s₀.heap.get? b=some o->b≠X.env.locals:=fun b o e=>Nat.ne_of_lt (Nat.lt_of_lt_of_le (Heap.lt_size e) I.ok.above)
 have neC:∀b o,X.s₀.heap.get? b=some o->b∉X.ex->b∉ch:=fun b o e hx hb=>by
  rcases (hch b hb).1 with z|z
  ·exact hx z
  ·exact absurd (Nat.lt_of_lt_of_le (Heap.lt_size e) z) (Nat.lt_irrefl _)
 have cellK:∀x c,X.env.cells.lookup x=some c->∀v,s.heap.IsCell c v->h'.IsCell c v:=fun x c e v ⟨o,ho,hd⟩=>by
  have nch:c∉ch:=fun z=>(hch c z).2.2.1 x c e rfl
  by_cases hc:c∈X.fs
  ·obtain ⟨sl,q⟩:=slot c o (I.cne x c e) hc nch ho (I.freeC x c e)
   exact⟨_,q,hd⟩
  ·exact⟨o,keep c o (I.cne x c e) hc nch ho (I.freeC x c e),hd⟩
 refine⟨I.ok,I.os,hg,⟨fun b o e n hb hx=> ?_,fun b o e n hb hx=> ?_,fun b o e n hx=> ?_,fun b o e hx=> ?_,fun b xs e=>tups b xs (I.base.tups b xs e),fun b o xs e=>frzs b o xs (I.base.frzs b o xs e),fun b ps e=> ?_⟩, ?_,fun x c e=> ?_, ?_,fun x c e=> ?_,fun p hp=> ?_,hok,I.len⟩
 ·exact keep b o (neL b o e) hb (neC b o e hx) (I.base.keep b o e n hb hx) (I.base.free b o e n hx)
 ·obtain ⟨sl,e1⟩:=I.base.slot b o e n hb hx
  obtain⟨sl',e2⟩:=slot b _ (neL b o e) hb (neC b o e hx) e1 (I.base.free b o e n hx)
  exact⟨sl',e2⟩
 ·obtain ⟨o',e1⟩:=I.base.there b o e hx
  exact free b o' (neC b o e hx) e1 (I.base.free b o e n hx)
 ·obtain ⟨o',e1⟩:=I.base.there b o e hx
  exact there b o' (neC b o e hx) e1
 ·obtain ⟨m1,e1⟩:=I.base.tbls b ps e
  obtain⟨m2,e2⟩:=tbls b _ e1
  exact⟨m1++m2,by rw[e2,Array.append_assoc]⟩
 ·obtain ⟨m,hn,hl⟩:=I.loc
  refine⟨m,ns m hn,fun i x v e1 e2 e3=> ?_⟩
  obtain⟨u,r,l⟩:=hl i x v e1 e2 e3
  refine⟨u,r, ?_⟩
  rcases l with l|⟨k,c,e,z⟩
  ·exact .inl l
  ·exact .inr ⟨k,c,e,cellK x c e _ z⟩
 ·obtain ⟨v,z⟩:=I.cell x c e
  exact⟨v,cellK x c e v z⟩
 ·obtain ⟨m,⟨o,_,_,ho,_⟩,_⟩:=I.loc
  exact free _ o (fun z=>(hch _ z).2.1 rfl) ho I.free
 ·obtain ⟨v,o,ho,hd⟩:=I.cell x c e
  exact free c o (fun z=>(hch c z).2.2.1 x c e rfl) ho (I.freeC x c e)
 ·obtain ⟨e,n,ne,nf,d⟩:=I.pin p hp
  have nch:p.1∉ch:=fun z=>(hch p.1 z).2.2.2 p hp rfl
  exact⟨keep p.1 p.2 ne nf nch e n,free p.1 p.2 nch e n,ne,nf,d⟩
theorem Inv.un {t':Nat}(I:Inv X pins σ H s)(u:Un X.fs [] H H' s.heap h')(hok:HOk X.prog X.w H' h'):Inv X pins σ H' {s with heap:=h',toks:=t'}:=by
 obtain⟨m,⟨o,es,ep,ho,r⟩,_⟩:=id I.loc
 obtain⟨sl,hL⟩:=u.any ho I.free (by simp)
 exact I.step (g':=s.gens) (d':=s.drawn) (ch:=[]) (fun _ z=>nomatch z) (fun b o _ hb _ e n=>u.keep b o e n hb (by simp)) (fun b o _ hb _ e n=>u.slot b o e n hb (by simp)) (fun b o _ e n=>u.free b o e n (by simp)) (fun b o _ e=>u.there b o e (by simp)) u.tups u.frzs u.tbls (fun m' hm=>by
  obtain⟨o',es',ep',ho',r'⟩:=hm
  rw[ho] at ho';cases ho'
  exact⟨_,es',ep',hL,r'⟩) hok I.bare
theorem Inv.call {g':Array GenState}{t':Nat}{d':Drawn}{ch:List Addr}(I:Inv X pins σ H s)(u:Un (frs X.stack) ch H H' s.heap h')(hok:HOk X.prog X.w H' h')(hg:AllBare g')
  (hch:∀b∈ch,(b∈X.ex∨X.s₀.heap.objs.size<=b)/\b≠X.env.locals/\(∀x c,X.env.cells.lookup x=some c->c≠b)/\∀p∈X.pn++pins,p.1≠b):
  Inv X pins σ H' {s with heap:=h',gens:=g',drawn:=d',toks:=t'}:=by
 obtain⟨m,⟨o,es,ep,ho,r⟩,_⟩:=id I.loc
 obtain⟨sl,hL⟩:=u.any ho I.free fun z=>(hch _ z).2.1 rfl
 exact I.step (ch:=ch) hch (fun b o hL hb hc e n=>u.keep b o e n (fun z=>(List.mem_cons.mp (I.stkSub b z)).elim hL hb) hc) (fun b o _ _ hc e n=>u.any e n hc) (fun b o hc e n=>u.free b o e n hc) (fun b o hc e=>u.there b o e hc) u.tups u.frzs u.tbls (fun m' hm=>by
  obtain⟨o',es',ep',ho',r'⟩:=hm
  rw[ho] at ho';cases ho'
  exact⟨_,es',ep',hL,r'⟩) hok hg
theorem Inv.turned {t':Nat}{it:Addr}(I:Inv X pins σ H s)(k:∀b o,b≠it->s.heap.get? b=some o->h'.get? b=some o)(hn:H it=none)(hL:it≠X.env.locals)
  (h1:it∈X.ex∨X.s₀.heap.objs.size<=it) (h2:∀x c,X.env.cells.lookup x=some c->c≠it) (h3:∀p∈X.pn++pins,p.1≠it):Inv X pins σ H {s with heap:=h',toks:=t'}:=by
 have nit:∀b u,H b=some u->b≠it:=fun b u e z=>by rw[z,hn] at e;cases e
 refine I.step (g':=s.gens) (d':=s.drawn) (ch:=[it]) (fun b hb=> ?_) (fun b o _ _ hc e _=>k b o (fun z=>hc (by simp[z])) e) (fun b o _ _ hc e _=>⟨o.slots,k b o (fun z=>hc (by simp[z])) e⟩) (fun _ _ _ _ n=>n)
  (fun b o hc e=>⟨o,k b o (fun z=>hc (by simp[z])) e⟩) (fun _ _ e=>e) (fun _ _ _ e=>e) (fun b ps e=>⟨#[],by rw[e];simp⟩) (fun m hm=> ?_) (fun b u e=> ?_) I.bare
 ·have e:b=it:=by simpa using hb
  subst e
  exact⟨h1,hL,h2,h3⟩
 ·obtain ⟨o,es,ep,ho,r⟩:=hm
  exact⟨o,es,ep,k _ o (Ne.symm hL) ho,r⟩
 ·refine (I.hok b u e).stay (fun c v hc q=>k c v ?_ q) (fun _ q=>q) fun _ _ q=>q
  rcases hc with z|z
  ·rw[z];exact nit b u e
  ·exact nit c _ z
theorem Inv.tok (I:Inv X pins σ H s)(t:Nat):Inv X pins σ H {s with toks:=t}:=I.un (h':=s.heap) (t':=t) Un.refl I.hok
theorem Inv.kept {t':Nat}(I:Inv X pins σ H s)(k:∀b u,s.heap.get? b=some u->h'.get? b=some u):Inv X pins σ H {s with heap:=h',toks:=t'}:=I.un (Un.kept k) (I.hok.kept k)
theorem Inv.laid {a:Addr}{o:HO}{t':Nat}(I:Inv X pins σ H s)(k:∀b u,s.heap.get? b=some u->h'.get? b=some u)(hp:s.heap.objs.size<=a)(new:ObjOk X.prog X.w (upd H a o) h' a o):
  Inv X pins σ (upd H a o) {s with heap:=h',toks:=t'}:=I.un (Un.laid k hp (I.hok.fresh hp)) (I.hok.laid k hp new)
theorem Inv.write {x e:Addr}{o:HO}{t':Nat}(I:Inv X pins σ H s)(mu:Mut (H x))(he:e=x∨H e=some (.own x))(k:∀b u,b≠e->s.heap.get? b=some u->h'.get? b=some u)(heo:∃u,h'.get? e=some u)
  (new:ObjOk X.prog X.w (upd H x o) h' x o):Inv X pins σ (upd H x o) {s with heap:=h',toks:=t'}:=I.un (Un.write mu he k heo) (I.hok.write mu he k heo new)
theorem Inv.weak {σ':List (Option V)}(I:Inv X pins σ H s)(hl:σ'.length=σ.length)(w:∀(i:Nat) v,σ'[i]? =some (some v)->σ[i]? =some (some v)):Inv X pins σ' H s:=
 ⟨I.ok,I.os,I.bare,I.base,let ⟨m,hn,hl'⟩:=I.loc;⟨m,hn,fun i x v e1 e2 e3=>hl' i x v e1 (w i v e2) e3⟩,I.cell,I.free,I.freeC,I.pin,I.hok,hl.trans I.len⟩
theorem Inv.pins_of {pins':List (Addr×Obj)}(I:Inv X pins σ H s)(h:∀p∈pins',s.heap.get? p.1=some p.2/\H p.1=none/\p.1≠X.env.locals/\p.1∉X.fs/\∀v,p.2.data≠.cell v):Inv X pins' σ H s:=
 ⟨I.ok,I.os,I.bare,I.base,I.loc,I.cell,I.free,I.freeC,fun p hp=>(List.mem_append.mp hp).elim (fun z=>I.pin p (List.mem_append_left _ z)) (h p),I.hok,I.len⟩
theorem zf8 {N:List Str}(hN:N.Nodup){i j:Nat}{x:Str}(a:N[i]? =some x)(b:N[j]? =some x):i=j:=by
 obtain⟨h1,e1⟩:=List.getElem?_eq_some_iff.mp a
 obtain⟨h2,e2⟩:=List.getElem?_eq_some_iff.mp b
 exact (List.getElem_inj hN).mp (e1.trans e2.symm)
theorem zhm {M:Model}{A:Around}{E:Value->Shared->Prop}{i:Nat}{x:Str}{v:V}{u:Value}{Q:Unit->Shared->Prop}(I:Inv X pins σ H s)(hN:X.N.Nodup)(hi:X.N[i]? =some x)(hx:Loc X.env.scope x)(r:RelV v u)
  (h:∀s',Inv X pins (σ.set i (some v)) H s'->(∃a,Heap.SameBut a s.heap s'.heap/\(a=X.env.locals∨X.env.cells.lookup x=some a))->Q () s') (hf:X.fn x=true∨X.env.scope.names.lookup x=some .local:=by first|exact .inl rfl|exact .inr rfl|assumption):wpAny M A (storeName X.env x u) Q E s:=by
 obtain⟨m,hn,hl⟩:=id I.loc
 have hcls:(X.env.scope.kind==.class||(X.env.scope.kind==.module&&X.env.locals != X.env.globals))=false:=by rw[I.ok.kind];rfl
 have hiσ:i<σ.length:=by rw[I.len];exact (List.getElem?_eq_some_iff.mp hi).1
 have cne:=I.cne
 have tracked:∀{a:Addr} {h':Heap},(∃o,s.heap.get? a=some o/\H a=none)->Heap.SameBut a s.heap h'->HOk X.prog X.w H h':=fun {a h'} ha hs b ob e=>by
  obtain⟨_,_,hfree⟩:=ha
  refine (I.hok b ob e).stay (fun c w' hc q=>(hs.2 c ?_).trans q) (fun _ q=>q) fun _ _ q=>q
  rintro rfl
  rcases hc with rfl|hc
  ·rw[hfree] at e;cases e
  ·rw[hfree] at hc;cases hc
 rcases hx with hk|hk
 ·refine wpAny_storeName_local hk hn (fun h' hn' hs=> ?_) hcls
  obtain⟨oL,_,_,hoL,_⟩:=id hn
  refine h _ ⟨I.ok,I.os,I.bare,⟨fun b o e n hb hx=> ?_,fun b o e n hb hx=> ?_,I.base.free,fun b o e hx=> ?_,I.base.tups,I.base.frzs,I.base.tbls⟩,⟨_,hn',fun j y v' e1 e2 e3=> ?_⟩,fun y c e=> ?_,I.free,I.freeC,fun p hp=> ?_,tracked ⟨oL,hoL,I.free⟩ hs,by simpa using I.len⟩ ⟨_,hs,.inl rfl⟩
  ·exact (hs.2 b (Nat.ne_of_lt (Nat.lt_of_lt_of_le (Heap.lt_size e) I.ok.above))).trans (I.base.keep b o e n hb hx)
  ·obtain ⟨sl,e1⟩:=I.base.slot b o e n hb hx
   exact⟨sl,(hs.2 b (Nat.ne_of_lt (Nat.lt_of_lt_of_le (Heap.lt_size e) I.ok.above))).trans e1⟩
  ·obtain ⟨o',e1⟩:=I.base.there b o e hx
   exact⟨o',(hs.2 b (Nat.ne_of_lt (Nat.lt_of_lt_of_le (Heap.lt_size e) I.ok.above))).trans e1⟩
  ·by_cases hj:j=i
   ·subst hj
    rw[hi] at e1;cases e1
    rw[List.getElem?_set_self hiσ] at e2
    cases e2
    exact⟨u,r,.inl ⟨hk,by simp⟩⟩
   ·rw [List.getElem?_set_ne (Ne.symm hj)] at e2
    obtain⟨u',r',q⟩:=hl j y v' e1 e2 e3
    refine⟨u',r', ?_⟩
    rcases q with⟨k,e⟩|⟨k,c,e,z⟩
    ·refine .inl ⟨k, ?_⟩
     have:y≠x:=fun e=>hj (zf8 hN e1 (e▸hi))
     simp[this,e]
    ·exact .inr ⟨k,c,e,z.sameBut hs (cne y c e)⟩
  ·obtain ⟨w',z⟩:=I.cell y c e
   exact⟨w',z.sameBut hs (cne y c e)⟩
  ·obtain ⟨e,n,ne,nf,d⟩:=I.pin p hp
   exact⟨(hs.2 p.1 ne).trans e,n,ne,nf,d⟩
 ·have hfn:X.fn x=true:=by
   rcases hf with z|z
   ·exact z
   ·rw[z] at hk;cases hk
  obtain⟨c,hc⟩:=I.ok.has x (.inl hk)
  obtain⟨w',z⟩:=I.cell x c hc
  refine wpAny_storeName_cell I.ok.kind hk hc z (fun h' hc' hs=> ?_)
  obtain⟨oc,hoc,hocd⟩:=id z
  refine h {s with heap:=h'} ⟨I.ok,I.os,I.bare,⟨fun b o e n hb hx=> ?_,fun b o e n hb hx=> ?_,I.base.free,fun b o e hx=> ?_,I.base.tups,I.base.frzs,I.base.tbls⟩,⟨m,hn.sameBut hs (Ne.symm (cne x c hc)),fun j y v' e1 e2 e3=> ?_⟩,fun y c' e=> ?_,I.free,I.freeC,fun p hp=> ?_,tracked ⟨oc,hoc,I.freeC x c hc⟩ hs,by simpa using I.len⟩ ⟨c,hs,.inr hc⟩
  ·exact (hs.2 b (Nat.ne_of_lt (Nat.lt_of_lt_of_le (Heap.lt_size e) (I.ok.cab x c hfn hc)))).trans (I.base.keep b o e n hb hx)
  ·obtain ⟨sl,e1⟩:=I.base.slot b o e n hb hx
   exact⟨sl,(hs.2 b (Nat.ne_of_lt (Nat.lt_of_lt_of_le (Heap.lt_size e) (I.ok.cab x c hfn hc)))).trans e1⟩
  ·obtain ⟨o',e1⟩:=I.base.there b o e hx
   exact⟨o',(hs.2 b (Nat.ne_of_lt (Nat.lt_of_lt_of_le (Heap.lt_size e) (I.ok.cab x c hfn hc)))).trans e1⟩
  ·by_cases hj:j=i
   ·subst hj
    rw[hi] at e1;cases e1
    rw[List.getElem?_set_self hiσ] at e2
    cases e2
    exact⟨u,r,.inr ⟨.inl hk,c,hc,hc'⟩⟩
   ·rw [List.getElem?_set_ne (Ne.symm hj)] at e2
    obtain⟨u',r',q⟩:=hl j y v' e1 e2 e3
    refine⟨u',r', ?_⟩
    rcases q with q|⟨k,c',e,z'⟩
    ·exact .inl q
    ·refine .inr ⟨k,c',e,z'.sameBut hs ?_⟩
     rintro rfl
     exact hj (zf8 hN e1 (I.ok.inj _ _ _ e hc▸hi))
  ·by_cases hcc:c'=c
   ·subst hcc;exact⟨_,hc'⟩
   ·obtain ⟨w2,z2⟩:=I.cell y c' e
    exact⟨w2,z2.sameBut hs hcc⟩
  ·obtain ⟨e,n,ne,nf,d⟩:=I.pin p hp
   refine⟨(hs.2 p.1 ?_).trans e,n,ne,nf,d⟩
   intro q
   rw[q,hoc] at e
   have q':oc=p.2:=Option.some.inj e
   exact d w' (by rw[<-q'];exact hocd)
theorem zbx {M:Model}{A:Around}{E:Value->Shared->Prop}{i:Nat}{x:Str}{v:V}{u:Value}{Q:Unit->Shared->Prop}(I:Inv X pins σ H s)(hN:X.N.Nodup)(hi:X.N[i]? =some x)(hx:Loc X.env.scope x)(r:RelV v u)
  (h:∀s',Inv X pins (σ.set i (some v)) H s'->Q () s') (hf:X.fn x=true∨X.env.scope.names.lookup x=some .local:=by first|exact .inl rfl|exact .inr rfl|assumption):wpAny M A (storeName X.env x u) Q E s:=
 zhm I hN hi hx r (fun s' I' _=>h s' I') hf
theorem Inv.call' {s':Shared}{ch:List Addr}(I:Inv X pins σ H s)(ho:s'.os=s.os)(u:Un (frs X.stack) ch H H' s.heap s'.heap)(hok:HOk X.prog X.w H' s'.heap)(hg:AllBare s'.gens)
  (hch:∀b∈ch,(b∈X.ex∨X.s₀.heap.objs.size<=b)/\b≠X.env.locals/\(∀x c,X.env.cells.lookup x=some c->c≠b)/\∀p∈X.pn++pins,p.1≠b):Inv X pins σ H' s':=by
 obtain⟨h',g',d',t',o'⟩:=s'
 have e:o'=s.os:=ho
 subst e
 exact I.call (g':=g') (t':=t') (d':=d') u hok hg hch
end
noncomputable abbrev XK:=Value->Option Addr->Hp->Prop
noncomputable abbrev St:=List (Option V)
noncomputable abbrev VK:=V->Hp->Prop
noncomputable abbrev TE:=St->Hp->VK->Prop
noncomputable abbrev TT:=St->Hp->(Bool->Hp->Prop)->Prop
noncomputable abbrev TA:=St->Hp->(List V->Hp->Prop)->Prop
structure Ends where
 nx:St->Hp->Prop
 rt:VK
 bk:St->Hp->Prop:=fun _ _=>False
 ct:St->Hp->Prop:=fun _ _=>False
noncomputable abbrev TS:=Ends->St->Hp->Prop
noncomputable def EP (X:Cx)(pins:List (Addr×Obj))(σ:St)(Q:VK)(u:Value)(s':Shared):Prop:=∃v H',Inv X pins σ H' s'/\RelV v u/\Q v H'
noncomputable def TP (X:Cx)(pins:List (Addr×Obj))(σ:St)(Q:Bool->Hp->Prop)(b:Bool)(s':Shared):Prop:=∃H',Inv X pins σ H' s'/\Q b H'
noncomputable def AP (X:Cx)(pins:List (Addr×Obj))(σ:St)(Q:List V->Hp->Prop)(us:List Value)(s':Shared):Prop:=∃vs H',Inv X pins σ H' s'/\Vals vs us/\Q vs H'
noncomputable def SP (X:Cx)(pins:List (Addr×Obj))(D:Ends)(f:Flow)(s':Shared):Prop:=
 match f with
 | .next=>∃σ' H',Inv X pins σ' H' s'/\D.nx σ' H'
 | .brk=>∃σ' H',Inv X pins σ' H' s'/\D.bk σ' H'
 | .cont=>∃σ' H',Inv X pins σ' H' s'/\D.ct σ' H'
 | .ret u=>∃v σ' H',Inv X pins σ' H' s'/\RelV v u/\D.rt v H'
noncomputable def PE (X:Cx)(e:Expr)(t:TE):Prop:=
 ∀(pins:List (Addr×Obj)) (s:Shared) (σ:St) (H:Hp) (Q:VK),Inv X pins σ H s->t σ H Q->wpAny (model X.prog X.w) X.A (eval e X.env) (EP X pins σ Q) X.xe s
noncomputable def PT (X:Cx)(e:Expr)(t:TT):Prop:=
 ∀(pins:List (Addr×Obj)) (s:Shared) (σ:St) (H:Hp) (Q:Bool->Hp->Prop),Inv X pins σ H s->t σ H Q->wpAny (model X.prog X.w) X.A (isTrue e X.env (eval e X.env)) (TP X pins σ Q) X.xe s
noncomputable def PW (X:Cx)(e:Expr)(t:TT):Prop:=
 ∀(whole:Sem Value) (pins:List (Addr×Obj)) (s:Shared) (σ:St) (H:Hp) (Q:Bool->Hp->Prop),Inv X pins σ H s->t σ H Q->wpAny (model X.prog X.w) X.A (isTrue e X.env whole) (TP X pins σ Q) X.xe s
theorem PW.pt {X:Cx}{e:Expr}{t:TT}(h:PW X e t):PT X e t:=h _
noncomputable def PA (X:Cx)(es:List Expr)(t:TA):Prop:=
 ∀(pos:Pos) (pins:List (Addr×Obj)) (s:Shared) (σ:St) (H:Hp) (Q:List V->Hp->Prop),Inv X pins σ H s->t σ H Q->wpAny (model X.prog X.w) X.A (spliced (backTo pos (starEach es X.env))) (AP X pins σ Q) X.xe s
noncomputable def PS (X:Cx)(st:Stmt)(t:TS):Prop:=
 ∀(pins:List (Addr×Obj)) (s:Shared) (σ:St) (H:Hp) (D:Ends),Inv X pins σ H s->t D σ H->wpAny (model X.prog X.w) X.A (exec st X.env) (SP X pins D) X.xe s
noncomputable def PSs (X:Cx)(st:List Stmt)(t:TS):Prop:=
 ∀(pins:List (Addr×Obj)) (s:Shared) (σ:St) (H:Hp) (D:Ends),Inv X pins σ H s->t D σ H->wpAny (model X.prog X.w) X.A (execs st X.env) (SP X pins D) X.xe s
theorem thn {α:Type}{t:Sem α}{Q Q':α->Shared->Prop}{M:Model}{A:Around}{E:Value->Shared->Prop}{s:Shared}(h:wpAny M A t Q E s)(hQ:∀a s,Q a s->Q' a s):wpAny M A t Q' E s:=wpAny_mono h hQ fun _ _ x=>x
section
variable {X:Cx}
noncomputable def tVar (i:Nat):TE:=fun σ H Q=>∃v,σ[i]? =some (some v)/\Q v H
noncomputable def tC (v:V):TE:=fun _ H Q=>Q v H
theorem zlP {i:Nat}{x:Str}{pos:Pos}(hN:X.N[i]? =some x)(hv:Vis X.env.scope x)(hd:(x==("__debug__" :Str))=false:=by decide)(hcd:(x==("__classdict__" :Str))=false:=by decide):PE X (.Name x pos) (tVar i):=by
 intro pins s σ H Q I h
 obtain⟨v,e,h⟩:=h
 obtain⟨m,hn,hl⟩:=I.loc
 obtain⟨u,r,l⟩:=hl i x v hN e hv
 have fin:EP X pins σ Q u s:=⟨v,H,I,r,h⟩
 rcases l with⟨hk,hm⟩|⟨hk,c,hc,hcell⟩
 ·exact wpAny_Name (wpAny_loadName_local I.ok.kind hk hn hm fin) hd
 ·rcases hk with hk|hk
  ·exact wpAny_Name (wpAny_loadName_cell I.ok.kind hk hc hcell fin) hd
  ·exact wpAny_Name (wpAny_loadName_free I.ok.kind hk hc hcell fin hcd) hd
theorem zag {i j pos}:PE X (.Constant (.int i) j pos) (tC (.int i)):=fun _ _ _ H _ I h=>wpAny_Constant_int ⟨.int i,H,I.tok _,⟨_,rfl⟩,h⟩
theorem zgM {b j pos}:PE X (.Constant (.bool b) j pos) (tC (.bl b)):=fun _ _ _ H _ I h=>Constant_bool ⟨.bl b,H,I,rfl,h⟩
theorem zkc {j pos}:PE X (.Constant .none j pos) (tC .non):=fun _ _ _ H _ I h=>Constant_none ⟨.non,H,I,rfl,h⟩
noncomputable def Gl (X:Cx)(x:Str):Prop:=X.env.kindOf x=some .globalImplicit
theorem zfA {E:Value->Shared->Prop}{pins:List (Addr×Obj)}{s:Shared}{σ:St}{H:Hp}{x:Str}{u:Value}{pos:Pos}{Q:Value->Shared->Prop}(I:Inv X pins σ H s)(hg:Gl X x)(hm:X.mg x=some u)(h:Q u s)
  (hd:(x==("__debug__" :Str))=false:=by decide):wpAny (model X.prog X.w) X.A (eval (.Name x pos) X.env) Q E s:=
 Calls.Name_function_global I.ok.kind hg (Calls.loadGlobal_global (by rw[I.ok.glob];exact I.mod.glob.keeps I.bk) hm h) hd
theorem zcT {E:Value->Shared->Prop}{pins:List (Addr×Obj)}{s:Shared}{σ:St}{H:Hp}{x:Str}{u:Value}{pos:Pos}{Q:Value->Shared->Prop}(I:Inv X pins σ H s)(hg:Gl X x)(hm:X.mg x=none)(hv:bootBuiltins x=some u)(h:Q u s)
  (hn:x≠ "__name__" :=by decide) (hd:(x==("__debug__" :Str))=false:=by decide):wpAny (model X.prog X.w) X.A (eval (.Name x pos) X.env) Q E s:=by
 obtain⟨mb,h1,h2⟩:=I.mod.blt
 exact Calls.Name_function_global I.ok.kind hg (Calls.loadGlobal_builtin (by rw[I.ok.glob];exact I.mod.glob.keeps I.bk) hm (by rw[I.ok.blt];exact h1.keeps I.bk) ((h2 x hn).trans hv) h) hd
theorem zkN {x:Str}{v:V}{u:Value}{pos:Pos}(hg:Gl X x)(hm:X.mg x=some u)(r:RelV v u)(hd:(x==("__debug__" :Str))=false:=by decide):PE X (.Name x pos) (tC v):=
 fun _ _ _ H _ I h=>zfA I hg hm ⟨v,H,I,r,h⟩ hd
variable {a b:Expr}{ta tb:TE}{pos:Pos}
noncomputable def tB (t:TE):TT:=fun σ H Q=>t σ H fun x H1=>∃c,x=.bl c/\Q c H1
theorem zhn {e:Expr}{t:TE}(h:PE X e t)(he:∀whole,isTrue e X.env whole=(do let v<-whole;standAt e.pos;holding [v] (truthy v)):=by intro _;rfl):PT X e (tB t):=by
 intro pins s σ H Q I hw
 refine isTrue_plain (thn (h pins s σ H _ I hw) fun v s1 zq=> ?_) (he _)
 obtain⟨x,H1,I1,r1,q1⟩:=zq
 obtain⟨d,rfl,q⟩:=q1
 cases r1
 exact wpAny_truthy_bool ⟨H1,I1,q⟩
variable {tA tB':TT}{rest:List Expr}
noncomputable def tAnd (t u:TT):TT:=fun σ H Q=>t σ H fun c H1=>if c=true then u σ H1 Q else Q false H1
noncomputable def tOr (t u:TT):TT:=fun σ H Q=>t σ H fun c H1=>if c=true then Q true H1 else u σ H1 Q
noncomputable def tNot (t:TT):TT:=fun σ H Q=>t σ H fun c H1=>Q (!c) H1
theorem zkO (ha:PT X a tA):PW X (.BoolOp .And [a] pos) tA:=by
 intro wh pins s σ H Q I h
 refine isTrue_and (thn (ha pins s σ H Q I h) fun c s1 e=> ?_)
 cases c with
 |true=>exact isTrue_and_nil e
 |false=>exact e
theorem zho (ha:PT X a tA):PW X (.BoolOp .Or [a] pos) tA:=by
 intro wh pins s σ H Q I h
 refine isTrue_or (thn (ha pins s σ H Q I h) fun c s1 e=> ?_)
 cases c with
 |false=>exact isTrue_or_nil e
 |true=>exact e
theorem zlQ (ha:PT X a tA)(hb:PW X (.BoolOp .And (b::rest) pos) tB'):PW X (.BoolOp .And (a::b::rest) pos) (tAnd tA tB'):=by
 intro wh pins s σ H Q I h
 refine isTrue_and (thn (ha pins s σ H _ I h) fun c s1 zq=> ?_)
 obtain⟨H1,I1,q1⟩:=zq
 cases c with
 |true=>exact hb wh pins s1 σ H1 Q I1 q1
 |false=>exact⟨H1,I1,q1⟩
theorem zhp (ha:PT X a tA)(hb:PW X (.BoolOp .Or (b::rest) pos) tB'):PW X (.BoolOp .Or (a::b::rest) pos) (tOr tA tB'):=by
 intro wh pins s σ H Q I h
 refine isTrue_or (thn (ha pins s σ H _ I h) fun c s1 zq=> ?_)
 obtain⟨H1,I1,q1⟩:=zq
 cases c with
 |true=>exact⟨H1,I1,q1⟩
 |false=>exact hb wh pins s1 σ H1 Q I1 q1
theorem zf9 (ha:PT X a tA):PT X (.UnaryOp .Not a pos) (tNot tA):=by
 intro pins s σ H Q I h
 exact isTrue_not (ha pins s σ H (fun c H1=>Q (!c) H1) I h)
noncomputable def zmL (ta tb:TE):TE:=fun σ H Q=>ta σ H fun x H1=>∃c,x=.bl c/\if c=true then tb σ H1 Q else Q (.bl false) H1
theorem zlR {op}{t:TE}(h:PE X a t):PE X (.BoolOp op [a] pos) t:=fun pins s σ H Q I hw=>BoolOp_one (h pins s σ H Q I hw)
theorem zlS (ha:PE X a ta)(hb:PE X (.BoolOp .And (b::rest) pos) tb):PE X (.BoolOp .And (a::b::rest) pos) (zmL ta tb):=by
 intro pins s σ H Q I h
 refine BoolOp_and (thn (ha pins s σ H _ I h) fun v s1 zq=> ?_)
 obtain⟨x,H1,I1,r1,q1⟩:=zq
 obtain⟨c,rfl,q1⟩:=q1
 cases r1
 refine wpAny_truthy_bool ?_
 cases c with
 |true=>exact hb pins s1 σ H1 Q I1 q1
 |false=>exact⟨.bl false,H1,I1,rfl,q1⟩
noncomputable def tIf (t:TT)(ta tb:TE):TE:=fun σ H Q=>t σ H fun c H1=>if c=true then ta σ H1 Q else tb σ H1 Q
theorem zcp {c:Expr}(hc:PT X c tA)(ha:PE X a ta)(hb:PE X b tb):PE X (.IfExp c a b pos) (tIf tA ta tb):=by
 intro pins s σ H Q I h
 refine wpAny_IfExp (thn (hc pins s σ H _ I h) fun d s1 zq=> ?_)
 obtain⟨H1,I1,q1⟩:=zq
 cases d with
 |true=>exact ha pins s1 σ H1 Q I1 q1
 |false=>exact hb pins s1 σ H1 Q I1 q1
end
noncomputable def SqL (K:PySem.W.Frag)(H:Hp)(a:Addr)(xs:List V):Prop:=
 Rd H a (.lst xs)∨
  ∃(o:Obj) (its:Array Value) (n:Nat),K.lookup a=some o/\o.cls=.type "list" /\o.dict=none/\o.data=.seq its n/\its.size<=sizeLine/\Vals xs its.toList
noncomputable def SqT (K:PySem.W.Frag)(H:Hp)(a:Addr)(xs:List V):Prop:=
 Rd H a (.tup xs)∨
  ∃(o:Obj) (its:Array Value) (n:Nat),K.lookup a=some o/\o.cls=.type "tuple" /\o.data=.seq its n/\its.size<=sizeLine/\Vals xs its.toList
noncomputable def absV:Value->Option V
 | .none=>some .non
 | .bool b=>some (.bl b)
 | .int i _=>some (.int i)
 | .str x _=>some (.str x)
 | .bytes b _=>some (.byt b)
 | .float b _=>some (.flt b)
 | .ref a=>some (.ref a)
 | .type n=>some (.ty n)
 |_=>none
theorem RelV.abs {x:V}{u:Value}(r:RelV x u):absV u=some x:=by
 cases x with
 |non=>cases r;rfl
 |bl _=>cases r;rfl
 |int _=>obtain⟨t,rfl⟩:=r;rfl
 |str _=>obtain⟨t,rfl⟩:=r;rfl
 |byt _=>obtain⟨t,rfl⟩:=r;rfl
 |flt _=>obtain⟨t,rfl⟩:=r;rfl
 |ref _=>cases r;rfl
 |ty _=>cases r;rfl
theorem RelV.inj {x y:V}{u:Value}(r:RelV x u)(q:RelV y u):x=y:=Option.some.inj (r.abs.symm.trans q.abs)
theorem Vals.inj:∀{xs ys:List V} {us:List Value},Vals xs us->Vals ys us->xs=ys
 |_,_,_,.nil,.nil=>rfl
 |_,_,_,.cons r t,.cons r' t'=>by rw[r.inj r',Vals.inj t t']
section
variable {X:Cx}{pins:List (Addr×Obj)}{σ:St}{H:Hp}{s:Shared}{a:Addr}{xs ys:List V}
theorem SqL.of {K:PySem.W.Frag}(h:H a=some (.lst xs)):SqL K H a xs:=.inl (.inl h)
theorem SqT.of {K:PySem.W.Frag}(h:H a=some (.tup xs)):SqT K H a xs:=.inl (.inl h)
theorem Inv.list (I:Inv X pins σ H s)(h:SqL X.K H a xs):∃its:List Value,Vals xs its/\PlainL s.heap a its.toArray/\xs.length<=sizeLine:=by
 rcases h with h|⟨o,its,n,hk,hc,hd,hs,hz,r⟩
 ·obtain ⟨z,its,n,r,e⟩:=h.ok I.hok
  exact⟨its,r,⟨_,n,e,rfl,rfl,rfl⟩,z⟩
 ·refine ⟨its.toList,r,⟨o,n,I.kIn a o hk,hc,hd,by simpa using hs⟩, ?_⟩
  have e:=r.length
  simp only[Array.length_toList] at e
  lia
theorem Inv.tuple (I:Inv X pins σ H s)(h:SqT X.K H a xs):∃its:List Value,Vals xs its/\IsTup s.heap a its.toArray/\xs.length<=sizeLine:=by
 rcases h with h|⟨o,its,n,hk,hc,hs,hz,r⟩
 ·obtain ⟨z,its,r,p⟩:=h.ok I.hok
  exact⟨its,r,p.tup,z⟩
 ·refine ⟨its.toList,r,⟨o,I.kIn a o hk,hc,n,by simpa using hs⟩, ?_⟩
  have e:=r.length
  simp only[Array.length_toList] at e
  lia
theorem Inv.list_inj (I:Inv X pins σ H s)(h:SqL X.K H a xs)(h':SqL X.K H a ys):xs=ys:=by
 obtain⟨its,r,⟨o,n,e,_,_,d⟩,_⟩:=I.list h
 obtain⟨its',r',⟨o',n',e',_,_,d'⟩,_⟩:=I.list h'
 rw[e] at e';cases e'
 rw[d] at d'
 injection d' with d1 _
 have:its=its':=by simpa using congrArg Array.toList d1
 subst this
 exact r.inj r'
theorem Inv.tuple_inj (I:Inv X pins σ H s)(h:SqT X.K H a xs)(h':SqT X.K H a ys):xs=ys:=by
 obtain⟨its,r,⟨o,e,_,n,d⟩,_⟩:=I.tuple h
 obtain⟨its',r',⟨o',e',_,n',d'⟩,_⟩:=I.tuple h'
 rw[e] at e';cases e'
 rw[d] at d'
 injection d' with d1 _
 have:its=its':=by simpa using congrArg Array.toList d1
 subst this
 exact r.inj r'
end
noncomputable abbrev Cx.wish (X:Cx)(E:Value->Shared->Prop):Cx:={X with xe:=E}
noncomputable abbrev Cx.nox (X:Cx):Cx:=X.wish fun _ _=>False
theorem Cx.Ok.wish {X:Cx}(ok:X.Ok)(E:Value->Shared->Prop):(X.wish E).Ok:=
 ⟨ok.mod,ok.kind,ok.glob,ok.blt,ok.above,ok.inj,ok.has,ok.cab,ok.hd,ok.frames,ok.stk,ok.exf,ok.bs,ok.bsz,ok.noex,ok.exfs,ok.funs,ok.frf⟩
theorem Cx.Ok.unwish {X:Cx}{E:Value->Shared->Prop}(ok:(X.wish E).Ok):X.Ok:=
 ⟨ok.mod,ok.kind,ok.glob,ok.blt,ok.above,ok.inj,ok.has,ok.cab,ok.hd,ok.frames,ok.stk,ok.exf,ok.bs,ok.bsz,ok.noex,ok.exfs,ok.funs,ok.frf⟩
section
variable {X:Cx}{pins:List (Addr×Obj)}{σ:St}{H:Hp}{s:Shared}{E:Value->Shared->Prop}
theorem Inv.wish (I:Inv X pins σ H s)(E:Value->Shared->Prop):Inv (X.wish E) pins σ H s:=⟨I.ok.wish E,I.os,I.bare,I.base,I.loc,I.cell,I.free,I.freeC,I.pin,I.hok,I.len⟩
theorem Inv.unwish (I:Inv (X.wish E) pins σ H s):Inv X pins σ H s:=⟨I.ok.unwish,I.os,I.bare,I.base,I.loc,I.cell,I.free,I.freeC,I.pin,I.hok,I.len⟩
theorem SP.unwish {D:Ends}{f:Flow}{s':Shared}(h:SP (X.wish E) pins D f s'):SP X pins D f s':=by
 cases f with
 |next=>obtain⟨σ',H',I,q⟩:=h;exact⟨σ',H',I.unwish,q⟩
 |brk=>obtain⟨σ',H',I,q⟩:=h;exact⟨σ',H',I.unwish,q⟩
 |cont=>obtain⟨σ',H',I,q⟩:=h;exact⟨σ',H',I.unwish,q⟩
 |ret u=>obtain⟨v,σ',H',I,r,q⟩:=h;exact⟨v,σ',H',I.unwish,r,q⟩
theorem PE.nox {e:Expr}{t:TE}(h:PE X.nox e t):PE X e t:=fun pins s σ H Q I hw=>
 wpAny_mono (h pins s σ H Q (I.wish _) hw) (fun _ _ ⟨v,H',I',r,q⟩=>⟨v,H',I'.unwish,r,q⟩) fun _ _ z=>False.elim z
theorem PSs.nox {st:List Stmt}{t:TS}(h:PSs X.nox st t):PSs X st t:=fun pins s σ H D I hw=>
 wpAny_mono (h pins s σ H D (I.wish _) hw) (fun _ _ q=>q.unwish) fun _ _ z=>False.elim z
end
section
variable {X:Cx}{st:Stmt}{rest:List Stmt}{t u:TS}{e:Expr}{te:TE}{pos:Pos}
noncomputable def zmM:TS:=fun D σ H=>D.nx σ H
noncomputable def tSeq (t u:TS):TS:=fun D σ H=>t {D with nx:=u D} σ H
theorem zbd:PSs X [] zmM:=fun _ _ σ H _ I h=>wpAny_execs_nil ⟨σ,H,I,h⟩
theorem zaf (h1:PS X st t)(h2:PSs X rest u):PSs X (st::rest) (tSeq t u):=by
 intro pins s σ H D I h
 refine wpAny_execs_cons (thn (h1 pins s σ H {D with nx:=u D} I h) fun f s1 q=> ?_)
 cases f with
 |next=>
  obtain⟨σ',H',I',q⟩:=q
  exact h2 pins s1 σ' H' D I' q
 |ret v=>exact q
 |brk=>exact q
 |cont=>exact q
theorem zai (h1:PS X st t):PSs X [st] t:=by
 intro pins s σ H D I h
 refine wpAny_execs_cons (thn (h1 pins s σ H D I h) fun f s1 q=> ?_)
 cases f with
 |next=>exact wpAny_execs_nil q
 |ret v=>exact q
 |brk=>exact q
 |cont=>exact q
noncomputable def zlT:TS:=fun D σ H=>D.bk σ H
theorem zi8:PS X (.Break pos) zlT:=fun _ _ σ H _ I h=>wpAny_Break ⟨σ,H,I,h⟩
theorem Inv.quiet {pins:List (Addr×Obj)}{σ:St}{H:Hp}{s:Shared}(I:Inv X pins σ H s):interactive X.env=false:=by simp[interactive,I.ok.kind]
noncomputable def zlU (te:TE):TS:=fun D σ H=>te σ H fun _ H1=>D.nx σ H1
theorem zdb (he:PE X e te)(hs:swapsWith e none pos.line X.env=pure false:=by rfl):PS X (.Expr e pos) (zlU te):=by
 intro pins s σ H D I h
 exact wpAny_Expr_any (thn (he pins s σ H _ I h) fun v s1 ⟨x,H1,I1,r1,q1⟩=>⟨σ,H1,I1,q1⟩) I.quiet hs
noncomputable def tRet (te:TE):TS:=fun D σ H=>te σ H D.rt
theorem zaz (he:PE X e te):PS X (.Return (some e) pos) (tRet te):=by
 intro pins s σ H D I h
 exact wpAny_Return_some (thn (he pins s σ H _ I h) fun v s1 ⟨x,H1,I1,r1,q1⟩=>⟨x,σ,H1,I1,r1,q1⟩)
noncomputable def tIfS (c:TT)(t u:TS):TS:=fun D σ H=>c σ H fun b H1=>if b=true then t D σ H1 else u D σ H1
theorem zbK {c:Expr}{a b:List Stmt}{tc:TT}(hc:PT X c tc)(ha:PSs X a t)(hb:PSs X b u):PS X (.If c a b pos) (tIfS tc t u):=by
 intro pins s σ H D I h
 refine wpAny_If (thn (hc pins s σ H _ I h) fun d s1 zq=> ?_)
 obtain⟨H1,I1,q1⟩:=zq
 cases d with
 |true=>exact ha pins s1 σ H1 D I1 q1
 |false=>exact hb pins s1 σ H1 D I1 q1
end
noncomputable abbrev TG:=V->St->Hp->(St->Hp->Prop)->Prop
noncomputable abbrev TGs:=List V->St->Hp->(St->Hp->Prop)->Prop
noncomputable def PG (X:Cx)(target:Expr)(t:TG):Prop:=
 ∀(pins:List (Addr×Obj)) (s:Shared) (σ:St) (H:Hp) (v:V) (u:Value) (Q:St->Hp->Prop),Inv X pins σ H s->RelV v u->t v σ H Q->
  wpAny (model X.prog X.w) X.A (assign target X.env u) (fun _ s'=>∃σ' H',Inv X pins σ' H' s'/\Q σ' H') X.xe s
noncomputable def PGs (X:Cx)(ts:List Expr)(t:TGs):Prop:=
 ∀(pins:List (Addr×Obj)) (s:Shared) (σ:St) (H:Hp) (vs:List V) (us:List Value) (Q:St->Hp->Prop),Inv X pins σ H s->Vals vs us->t vs σ H Q->
  wpAny (model X.prog X.w) X.A (assignInOrder ((assignEach ts X.env).map (·.2)) us) (fun _ s'=>∃σ' H',Inv X pins σ' H' s'/\Q σ' H') X.xe s
noncomputable abbrev TSet:=V->V->V->Hp->(Hp->Prop)->Prop
noncomputable def PSet (X:Cx)(t:TSet):Prop:=
 ∀(pins:List (Addr×Obj)) (s:Shared) (σ:St) (H:Hp) (o i v:V) (ov iv u:Value) (Q:Hp->Prop),Inv X pins σ H s->RelV o ov->RelV i iv->RelV v u->t o i v H Q->
  wpAny (model X.prog X.w) X.A (setItem ov iv u) (fun _ s'=>∃H',Inv X pins σ H' s'/\Q H') X.xe s
noncomputable abbrev TIp:=V->V->Hp->VK->Prop
noncomputable def PIp (X:Cx)(op:Operator)(t:TIp):Prop:=
 ∀(pins:List (Addr×Obj)) (s:Shared) (σ:St) (H:Hp) (x y:V) (v u:Value) (Q:VK),Inv X pins σ H s->RelV x v->RelV y u->t x y H Q->
  wpAny (model X.prog X.w) X.A (inplaceOp op v u) (EP X pins σ Q) X.xe s
section
variable {X:Cx}{pos:Pos}
noncomputable def zaU (i:Nat):TG:=fun v σ H Q=>Q (σ.set i (some v)) H
theorem zah {i:Nat}{x:Str}(hN:X.N.Nodup)(hi:X.N[i]? =some x)(hx:Loc X.env.scope x)(hf:X.fn x=true∨X.env.scope.names.lookup x=some .local:=by first|exact .inl rfl|exact .inr rfl|assumption):PG X (.Name x pos) (zaU i):=by
 intro pins s σ H v u Q I r h
 exact wpAny_assign_Name (zbx I hN hi hx r (fun s' I'=>⟨_,H,I',h⟩) hf)
noncomputable def gNil:TGs:=fun vs σ H Q=>vs=[]/\Q σ H
noncomputable def zce (t:TG)(u:TGs):TGs:=fun vs σ H Q=>∃v r,vs=v::r/\t v σ H fun σ' H'=>u r σ' H' Q
theorem zbU:PGs X [] gNil:=by
 intro pins s σ H vs us Q I r h
 obtain⟨e,h⟩:=h
 subst e
 cases r
 exact assignInOrder_nil ⟨σ,H,I,h⟩
theorem zaA {e:Expr}{es:List Expr}{t:TG}{u:TGs}(h1:PG X e t)(h2:PGs X es u)
  (hs:(assignEach (e::es) X.env).map (·.2)=assign e X.env::(assignEach es X.env).map (·.2):=by rfl):PGs X (e::es) (zce t u):=by
 intro pins s σ H vs us Q I r h
 obtain⟨v,vr,e1,h⟩:=h
 subst e1
 cases r with
 |cons r rr=>
  rw[hs]
  refine assignInOrder_cons (thn (h1 pins s σ H _ _ _ I r h) fun _ s1 zq=> ?_)
  obtain⟨σ1,H1,I1,q1⟩:=zq
  exact h2 pins s1 σ1 H1 _ _ Q I1 rr q1
noncomputable def gTup (K:PySem.W.Frag)(n:Nat)(t:TGs):TG:=fun v σ H Q=>∃a xs,v=.ref a/\SqT K H a xs/\xs.length=n/\t xs σ H Q
theorem zdc {es:List Expr}{k:Nat}{t:TGs}{n:Nat}(hc:X.calm=true)(h:PGs X es t)
  (hn:(assignEach es X.env).length=n:=by rfl) (hst:(assignEach es X.env).findIdx? (·.1)=none:=by rfl):PG X (.Tuple es k pos) (gTup X.K n t):=by
 intro pins s σ H v u Q I r hw
 obtain⟨a,xs,e1,hq,hl,hw⟩:=hw
 subst e1
 cases r
 obtain⟨its,rv,ht,hz⟩:=I.tuple hq
 refine assign_Tuple_tuple (I.ok.hd hc) ht (by simp[hn,<-hl,rv.length]) hst fun h' hx=> ?_
 have I1:Inv X pins σ H {s with heap:=h'}:=I.kept (t':=s.toks) fun b o e=>hx b o (Nat.ne_of_lt (Heap.lt_size e)) e
 exact h pins _ σ H xs _ Q I1 (by simpa using rv) hw
noncomputable def gSub (to ti:TE)(t:TSet):TG:=fun v σ H Q=>to σ H fun o H1=>ti σ H1 fun i H2=>t o i v H2 fun H3=>Q σ H3
theorem zhq {o i:Expr}{to ti:TE}{t:TSet}(ho:PE X o to)(hi:PE X i ti)(hs:PSet X t)
  (ha:∀v,assign (.Subscript o i pos) X.env v=(do
   let ov<-holding [v] (eval o X.env)
   let iv<-holding [v,ov] (eval i X.env)
   standAt pos
   holding [v,ov,iv] (setItem ov iv v)
   release [v,ov,iv] []):=by intro _;rfl):PG X (.Subscript o i pos) (gSub to ti t):=by
 intro pins s σ H v u Q I r h
 rw[ha]
 refine wpAny_bind (wpAny_holding (thn (ho pins s σ H _ I h) fun ov s1 zq=> ?_))
 obtain⟨x,H1,I1,r1,q1⟩:=zq
 refine wpAny_bind (wpAny_holding (thn (hi pins s1 σ H1 _ I1 q1) fun iv s2 zq=> ?_))
 obtain⟨y,H2,I2,r2,q2⟩:=zq
 refine wpAny_bind (wpAny_standAt (wpAny_bind (wpAny_holding (thn (hs pins s2 σ H2 x y v ov iv u _ I2 r1 r2 r q2) fun _ s3 zq=> ?_))))
 obtain⟨H3,I3,q3⟩:=zq
 exact wpAny_release ⟨σ,H3,I3,q3⟩
noncomputable def tAsg (te:TE)(g:TG):TS:=fun D σ H=>te σ H fun x H1=>g x σ H1 D.nx
theorem zca {tg e:Expr}{te:TE}{g:TG}(he:PE X e te)(hg:PG X tg g)(hs:swapsWithSole [tg] e pos.line X.env=pure false:=by rfl)(hw:swappedStores [tg] e X.env=pure none:=by rfl)
  (h1:(assignEach [tg] X.env).map (·.2)=[assign tg X.env]:=by rfl):PS X (.Assign [tg] e pos) (tAsg te g):=by
 intro pins s σ H D I h
 refine wpAny_Assign_stores (thn (he pins s σ H _ I h) fun v s1 zq=> ?_) hs hw
 obtain⟨x,H1,I1,r1,q1⟩:=zq
 rw[h1]
 exact thn (hg pins s1 σ H1 x v _ I1 r1 q1) fun _ s2 q=>q
theorem zau {i:Nat}{x:Str}{e:Expr}{te:TE}{pos':Pos}(hN:X.N.Nodup)(hi:X.N[i]? =some x)(hx:Loc X.env.scope x)(he:PE X e te)(hs:swapsWith e (some (.Name x pos')) pos.line X.env=pure false:=by rfl)(hf:X.fn x=true∨X.env.scope.names.lookup x=some .local:=by first|exact .inl rfl|exact .inr rfl|assumption):
  PS X (.Assign [.Name x pos'] e pos) (tAsg te (zaU i)):=by
 intro pins s σ H D I h
 refine wpAny_Assign_Name (thn (he pins s σ H _ I h) fun v s1 zq=> ?_) hs
 obtain⟨y,H1,I1,r1,q1⟩:=zq
 exact zbx I1 hN hi hx r1 (fun s2 I2=>⟨_,H1,I2,q1⟩) hf
noncomputable def tPar (i j:Nat)(ta:TA):TS:=fun D σ H=>ta σ H fun vs H1=>∃v w,vs=[v,w]/\D.nx ((σ.set i (some v)).set j (some w)) H1
theorem zhr {i j:Nat}{x y:Str}{a b:Expr}{ta:TA}{px py pt:Pos}{kt k2 pt2}(hc:X.calm=true)(hN:X.N.Nodup)(hi:X.N[i]? =some x)(hj:X.N[j]? =some y)(hij:i≠j)
  (hx:X.env.scope.names.lookup x=some .local) (hy:X.env.scope.names.lookup y=some .local) (ha:PA X [a,b] ta)
  (hw:swappedStores [.Tuple [.Name x px,.Name y py] kt pt] (.Tuple [a,b] k2 pt2) X.env=pure (some [x,y]))
  (hs:swapsWithSole [.Tuple [.Name x px,.Name y py] kt pt] (.Tuple [a,b] k2 pt2) pos.line X.env=pure false:=by rfl):
  PS X (.Assign [.Tuple [.Name x px,.Name y py] kt pt] (.Tuple [a,b] k2 pt2) pos) (tPar i j ta):=by
 intro pins s σ H D I h
 rw[exec_Assign_arm]
 refine wpAny_bind (wpAny_standAt ?_)
 rw[hs]
 refine wpAny_bind (wpAny_pure ?_)
 rw[if_neg (by decide)]
 refine wpAny_bind (Tuple_ (thn (ha _ pins s σ H _ I h) fun us s1 zq=> ?_))
 obtain⟨vs,H1,I1,r1,q1⟩:=zq
 obtain⟨v,w,e1,q1⟩:=q1
 subst e1
 obtain⟨u1,u2,rfl,rv,rw'⟩:∃u1 u2,us=[u1,u2]/\RelV v u1/\RelV w u2:=by
  cases r1 with
  | cons p q=>
   cases q with
   |cons p' q'=>
    cases q'
    exact⟨_,_,rfl,p,p'⟩
 refine wpAny_newObj_type ?_ (by show 2<=sizeLine;decide)
 have I2:Inv X pins σ H1 {s1 with heap:=s1.heap.push {cls:=.type "tuple",data:=.seq [u1,u2].toArray}}:=I1.kept (t':=s1.toks) fun b o e=>Heap.get?_push_of_some _ e
 rw[hw]
 refine wpAny_bind (wpAny_pure ?_)
 show wpAny (model X.prog X.w) X.A (do rule "assign.swapped-stores";let items<-unpackItems (.ref s1.heap.objs.size) 2 none;assignInOrder [fun v=>bindName X.env y v,fun v=>bindName X.env x v] items.reverse;pure Flow.next) _ _ _
 refine wpAny_bind (wpAny_rule (wpAny_bind (unpackItems_tuple (items:=#[u1,u2]) (I.ok.hd hc) (IsTup.new s1.heap _) fun h' hx'=> ?_)))
 have I3:=I2.kept (h':=h') (t':=s1.toks) fun b o e=>hx' b o (Nat.ne_of_lt (Heap.lt_size e)) e
 show wpAny _ _ (assignInOrder [fun v=>bindName X.env y v,fun v=>bindName X.env x v] [u2,u1] >>= fun _=>pure Flow.next) _ _ _
 refine wpAny_bind (assignInOrder_cons (wpAny_bindName (zbx I3 hN hj (.inl hy) rw' (fun s2 I4=> ?_) (.inr hy))))
 refine assignInOrder_cons (wpAny_bindName (zbx I4 hN hi (.inl hx) rv (fun s3 I5=>assignInOrder_nil (wpAny_pure ?_)) (.inr hx)))
 rw[List.set_comm _ _ (Ne.symm hij)] at I5
 exact⟨_,H1,I5,q1⟩
noncomputable def tAug (i:Nat)(te:TE)(ti:TIp):TS:=fun D σ H=>∃x,σ[i]? =some (some x)/\te σ H fun y H1=>ti x y H1 fun z H2=>D.nx (σ.set i (some z)) H2
theorem zkd {i:Nat}{x:Str}{e:Expr}{te:TE}{op:Operator}{ti:TIp}{pos':Pos}(hN:X.N.Nodup)(hi:X.N[i]? =some x)(hx:Loc X.env.scope x)(he:PE X e te)(ho:PIp X op ti)(hf:X.fn x=true∨X.env.scope.names.lookup x=some .local:=by first|exact .inl rfl|exact .inr rfl|assumption):
  PS X (.AugAssign (.Name x pos') op e pos) (tAug i te ti):=by
 intro pins s σ H D I h
 obtain⟨v,e1,h⟩:=h
 obtain⟨m,hn,hl⟩:=I.loc
 have vis:Vis X.env.scope x:=by rcases hx with k|k;exact .inl k;exact .inr (.inl k)
 obtain⟨u,r,l⟩:=hl i x v hi e1 vis
 refine wpAny_AugAssign_Name ?_
 have go:wpAny (model X.prog X.w) X.A (eval e X.env) (fun w s₂=>wpAny (model X.prog X.w) X.A (inplaceOp op u w) (fun r s₃=>wpAny (model X.prog X.w) X.A (storeName X.env x r) (fun _=>SP X pins D .next) X.xe s₃) X.xe s₂) X.xe s:=by
  refine thn (he pins s σ H _ I h) fun w s1 zq=> ?_
  obtain⟨y,H1,I1,r1,q1⟩:=zq
  refine thn (ho pins s1 σ H1 v y u w _ I1 r r1 q1) fun z s2 zq=> ?_
  obtain⟨zv,H2,I2,r2,q2⟩:=zq
  exact zbx I2 hN hi hx r2 (fun s3 I3=>⟨_,H2,I3,q2⟩) hf
 rcases l with⟨hk,hm⟩|⟨hk,c,hc,hcell⟩
 ·exact wpAny_loadName_local I.ok.kind hk hn hm go
 ·rcases hk with hk|hk
  ·exact wpAny_loadName_cell I.ok.kind hk hc hcell go
  ·rcases hx with k|k
   ·have:X.env.scope.names.lookup x=some .free:=hk
    rw[k] at this;cases this
   ·have:X.env.scope.names.lookup x=some .free:=hk
    rw[k] at this;cases this
noncomputable def zmN (to ti te:TE)(tget:V->V->Hp->VK->Prop)(tip:TIp)(tset:TSet):TS:=fun D σ H=>to σ H fun o H1=>ti σ H1 fun i H2=>tget o i H2 fun x H3=>te σ H3 fun y H4=>tip x y H4 fun z H5=>tset o i z H5 fun H6=>D.nx σ H6
noncomputable def PGet (X:Cx)(t:V->V->Hp->VK->Prop):Prop:=
 ∀(pins:List (Addr×Obj)) (s:Shared) (σ:St) (H:Hp) (o i:V) (ov iv:Value) (Q:VK),Inv X pins σ H s->RelV o ov->RelV i iv->t o i H Q->
  wpAny (model X.prog X.w) X.A (getItem ov iv) (EP X pins σ Q) X.xe s
theorem zdZ {o i e:Expr}{to ti te:TE}{tget:V->V->Hp->VK->Prop}{tip:TIp}{tset:TSet}{op:Operator}{tpos:Pos}(ho:PE X o to)(hi:PE X i ti)(hg:PGet X tget)(he:PE X e te)(hp:PIp X op tip)(hs:PSet X tset)
  (ha:∀ov iv new,augStore i ov iv new=(do holding [new,ov,iv] (setItem ov iv new);release [new,ov,iv] [];pure .next):=by intros;rfl):PS X (.AugAssign (.Subscript o i tpos) op e pos) (zmN to ti te tget tip tset):=by
 intro pins s σ H D I h
 refine wpAny_AugAssign_SubscriptAny (thn (ho pins s σ H _ I h) fun ov s1 zq=> ?_) ha
 obtain⟨x1,H1,I1,r1,q1⟩:=zq
 refine thn (hi pins s1 σ H1 _ I1 q1) fun iv s2 zq=> ?_
 obtain⟨x2,H2,I2,r2,q2⟩:=zq
 refine thn (hg pins s2 σ H2 x1 x2 ov iv _ I2 r1 r2 q2) fun old s3 zq=> ?_
 obtain⟨x3,H3,I3,r3,q3⟩:=zq
 refine thn (he pins s3 σ H3 _ I3 q3) fun v s4 zq=> ?_
 obtain⟨x4,H4,I4,r4,q4⟩:=zq
 refine thn (hp pins s4 σ H4 x3 x4 old v _ I4 r3 r4 q4) fun new s5 zq=> ?_
 obtain⟨x5,H5,I5,r5,q5⟩:=zq
 exact thn (hs pins s5 σ H5 x1 x2 x5 ov iv new _ I5 r1 r2 r5 q5) fun _ s6 ⟨H6,I6,q6⟩=>⟨σ,H6,I6,q6⟩
noncomputable def ipI (f:Int->Int->Int):TIp:=fun x y H Q=>∃i j,x=.int i/\y=.int j/\Q (.int (f i j)) H
theorem zeJ:PIp X .Add (ipI fun i j=>i+j):=by
 intro pins s σ H x y v u Q I r1 r2 h
 obtain⟨i,j,e1,e2,q⟩:=h
 subst e1;subst e2
 obtain⟨t,rfl⟩:=r1
 obtain⟨t',rfl⟩:=r2
 exact iadd_int ⟨.int _,H,I.tok _,⟨_,rfl⟩,q⟩
theorem zlV:PIp X .Sub (ipI fun i j=>i-j):=by
 intro pins s σ H x y v u Q I r1 r2 h
 obtain⟨i,j,e1,e2,q⟩:=h
 subst e1;subst e2
 obtain⟨t,rfl⟩:=r1
 obtain⟨t',rfl⟩:=r2
 exact isub_int ⟨.int _,H,I.tok _,⟨_,rfl⟩,q⟩
end
structure It where
 go:Nat->Hp->Prop
 yld:Nat->Hp->V->Hp->Prop
 stop:Nat->Hp->Prop
noncomputable def FpOk (X:Cx)(pins:List (Addr×Obj))(H:Hp)(b:Addr):Prop:=
 H b=none/\b≠X.env.locals/\b∉X.fs/\(b∈X.ex∨X.s₀.heap.objs.size<=b)/\(∀x c,X.env.cells.lookup x=some c->c≠b)/\∀p∈X.pn++pins,p.1≠b
theorem Inv.fpOk {X:Cx}{pins:List (Addr×Obj)}{σ:St}{H H':Hp}{s:Shared}{b:Addr}(I:Inv X pins σ H s)(hb:s.heap.objs.size<=b)(hn:H' b=none):FpOk X pins H' b:=by
 refine⟨hn,Nat.ne_of_gt (Nat.lt_of_lt_of_le I.lt hb),I.nofs hb,.inr (Nat.le_trans I.sz hb),fun x c e z=> ?_,fun p hp z=> ?_⟩
 ·obtain ⟨v,q⟩:=I.cell x c e
  exact absurd (Nat.lt_of_lt_of_le q.lt (by rw[z];exact hb)) (Nat.lt_irrefl _)
 ·exact absurd (Nat.lt_of_lt_of_le (Heap.lt_size (I.pin p hp).1) (by rw[z];exact hb)) (Nat.lt_irrefl _)
structure Turn (P:Program) (w:World) (K:PySem.W.Frag) (tg:Expr) (J:It) (fp:List Addr) (it:Addr) (tn:Nat->Heap->Prop):Prop where
 mem:it∈fp
 obj:∀i h,tn i h->∀b∈fp,∃o,h.get? b=some o/\∀v,o.data≠.cell v
 keep:∀i h h',tn i h->(∀b∈fp,∀o,h.get? b=some o->h'.get? b=some o)->tn i h'
 item:∀(X:Cx),X.prog=P->X.w=w->X.K=K->X.calm=true->∀(i:Nat) (pins:List (Addr×Obj)) (s:Shared) (σ:St) (H:Hp) (E:Value->Shared->Prop),Inv X pins σ H s->(∀b∈fp,FpOk X pins H b)->tn i s.heap->J.go i H->
  wpAny (model P w) X.A (pyNext (.ref it)) (fun r s1=>∃u,r=some u/\
   wpAny (model P w) X.A (letOwnedTupleGo tg (.ref it) u) (fun _ s2=>∃x H',Inv X pins σ H' s2/\RelV x u/\J.yld i H x H'/\tn (i+1) s2.heap/\∀b∈fp,H' b=none) E s1) E s
 done:∀(X:Cx),X.prog=P->X.w=w->X.K=K->X.calm=true->∀(i:Nat) (pins:List (Addr×Obj)) (s:Shared) (σ:St) (H:Hp) (E:Value->Shared->Prop),Inv X pins σ H s->(∀b∈fp,FpOk X pins H b)->tn i s.heap->J.stop i H->
  wpAny (model P w) X.A (pyNext (.ref it)) (fun r s1=>r=none/\Inv X pins σ H s1) E s
 self:∀(A:Around) (i:Nat) (s:Shared) (Q:Value->Shared->Prop) (E:Value->Shared->Prop),tn i s.heap->Q (.ref it) s->wpAny (model P w) A (pyIter (.ref it)) Q E s
noncomputable abbrev TI:=St->Hp->(It->Hp->Prop)->Prop
noncomputable def PIE (X:Cx)(pins:List (Addr×Obj))(σ:St)(tg:Expr)(R:It->Hp->Prop)(itv:Value)(s2:Shared):Prop:=
 ∃(it:Addr) (fp:List Addr) (tn:Nat->Heap->Prop) (J:It) (H':Hp),itv=.ref it/\Inv X pins σ H' s2/\Turn X.prog X.w X.K tg J fp it tn/\tn 0 s2.heap/\(∀b∈fp,FpOk X pins H' b)/\R J H'
noncomputable def PI (X:Cx)(tg iter:Expr)(wi:TI):Prop:=
 ∀(pins:List (Addr×Obj)) (s:Shared) (σ:St) (H:Hp) (R:It->Hp->Prop),Inv X pins σ H s->wi σ H R->
  wpAny (model X.prog X.w) X.A (eval iter X.env) (fun v s1=>wpAny (model X.prog X.w) X.A (pyIter v) (PIE X pins σ tg R) X.xe s1) X.xe s
theorem zkP {M:Model}{A:Around}{E:Value->Shared->Prop}{s:Shared}{tg:Expr}{it:Addr}{u:Value}{o:Obj}{n:String}{vs:Array Value}{Q:Unit->Shared->Prop}(ho:s.heap.get? it=some o)(hc:o.cls=.type n)(hd:o.data=.fields vs)
    (hn:["enumerate", "zip", "dict_itemiterator", "dict_reverseitemiterator", "odict_iterator", "itertools.zip_longest", "itertools.pairwise"].contains n=false) (hQ:Q () s):wpAny M A (letOwnedTupleGo tg (.ref it) u) Q E s:=by
  unfold letOwnedTupleGo
  cases tg <;>first
    |exact wpAny_pure hQ
    |(cases u<;>first
        |exact wpAny_pure hQ
        | (refine wpAny_bind (wpAny_load ho ?_)
           rw[hc,hd]
           show wpAny M A (if (["enumerate", "zip", "dict_itemiterator", "dict_reverseitemiterator", "odict_iterator", "itertools.zip_longest", "itertools.pairwise"].contains n&&vs[0]? ==some (rawInt _))=true then _ else _) Q E s
           rw[if_neg (by intro h;rw[hn,Bool.false_and] at h;cases h)]
           exact wpAny_pure hQ))
noncomputable def Itl (K:PySem.W.Frag)(a:Addr):It:=
 ⟨fun i H=>∃xs x,SqL K H a xs/\xs[i]? =some x,fun i H x H'=>H'=H/\∀xs,SqL K H a xs->xs[i]? =some x,fun i H=>∃xs,SqL K H a xs/\xs.length<=i⟩
noncomputable def Itt (K:PySem.W.Frag)(a:Addr):It:=
 ⟨fun i H=>∃xs x,SqT K H a xs/\xs[i]? =some x,fun i H x H'=>H'=H/\∀xs,SqT K H a xs->xs[i]? =some x,fun i H=>∃xs,SqT K H a xs/\xs.length<=i⟩
noncomputable def Itr (lo:Int)(n:Nat):It:=⟨fun i _=>i<n,fun i H x H'=>H'=H/\x=.int (lo+i),fun i _=>n<=i⟩
theorem zhs {P:Program}{w:World}{K:PySem.W.Frag}{tg:Expr}(a it:Addr):Turn P w K tg (Itl K a) [it] it (fun i h=>h.IsListIter it a i) where
 mem:=by simp
 obj:=fun i h st b hb=>by
  have e:b=it:=by simpa using hb
  subst e
  obtain⟨o,e,c,d⟩:=st
  exact⟨o,e,fun v z=>by rw[d] at z;cases z⟩
 keep:=fun i h h' st k=>st.at fun o e=>k it (by simp) o e
 item:=by
  intro X hP hw hK hc i pins s σ H E I hf st hg
  subst hP hw hK
  obtain⟨xs,x,hq,hx⟩:=hg
  obtain⟨its,rv,p,hz⟩:=I.list hq
  obtain⟨u,hu,ru⟩:=rv.get hx
  obtain⟨f0,f1,f2,f3,f4,f5⟩:=hf it (by simp)
  refine wpAny_pyNext_list_item st p.isList (x:=u) (by simpa using hu) fun h' st' sb=> ?_
  have I1:Inv X pins σ H {s with heap:=h'}:=I.turned (t':=s.toks) (fun b o hb e=>(sb.2 b hb).trans e) f0 f1 f3 f4 f5
  obtain⟨o,e,c,d⟩:=id st'
  exact⟨u,rfl,zkP (s:={s with heap:=h'}) e c d (by decide) ⟨x,H,I1,ru,⟨rfl,fun ys hy=>by rw[I.list_inj hy hq];exact hx⟩,st',fun b hb=>(hf b hb).1⟩⟩
 done:=by
  intro X hP hw hK hc i pins s σ H E I hf st hg
  subst hP hw hK
  obtain⟨xs,hq,hx⟩:=hg
  obtain⟨its,rv,p,hz⟩:=I.list hq
  obtain⟨f0,f1,f2,f3,f4,f5⟩:=hf it (by simp)
  have hl:=rv.length
  exact wpAny_pyNext_list_end (I.ok.hd hc) st p.isList (by simp;lia) fun h' eb=>⟨rfl,I.turned (t':=s.toks) (fun b o hb e=>eb b o hb e) f0 f1 f3 f4 f5⟩
 self:=fun _ _ _ _ _ st h=>wpAny_pyIter_listiter st h
theorem zgN {P:Program}{w:World}{K:PySem.W.Frag}{tg:Expr}(a it:Addr):Turn P w K tg (Itt K a) [it] it (fun i h=>h.IsTupleIter it a i) where
 mem:=by simp
 obj:=fun i h st b hb=>by
  have e:b=it:=by simpa using hb
  subst e
  obtain⟨o,e,c,d⟩:=st
  exact⟨o,e,fun v z=>by rw[d] at z;cases z⟩
 keep:=fun i h h' st k=>st.at fun o e=>k it (by simp) o e
 item:=by
  intro X hP hw hK hc i pins s σ H E I hf st hg
  subst hP hw hK
  obtain⟨xs,x,hq,hx⟩:=hg
  obtain⟨its,rv,p,hz⟩:=I.tuple hq
  obtain⟨u,hu,ru⟩:=rv.get hx
  obtain⟨f0,f1,f2,f3,f4,f5⟩:=hf it (by simp)
  refine wpAny_pyNext_tuple_item st (show s.heap.IsTuple a its.toArray from p) (x:=u) (by simpa using hu) fun h' st' sb=> ?_
  have I1:Inv X pins σ H {s with heap:=h'}:=I.turned (t':=s.toks) (fun b o hb e=>(sb.2 b hb).trans e) f0 f1 f3 f4 f5
  obtain⟨o,e,c,d⟩:=id st'
  exact⟨u,rfl,zkP (s:={s with heap:=h'}) e c d (by decide) ⟨x,H,I1,ru,⟨rfl,fun ys hy=>by rw[I.tuple_inj hy hq];exact hx⟩,st',fun b hb=>(hf b hb).1⟩⟩
 done:=by
  intro X hP hw hK hc i pins s σ H E I hf st hg
  subst hP hw hK
  obtain⟨xs,hq,hx⟩:=hg
  obtain⟨its,rv,p,hz⟩:=I.tuple hq
  obtain⟨f0,f1,f2,f3,f4,f5⟩:=hf it (by simp)
  have hl:=rv.length
  exact wpAny_pyNext_tuple_end (I.ok.hd hc) st (show s.heap.IsTuple a its.toArray from p) (by simp;lia) fun h' eb=>⟨rfl,I.turned (t':=s.toks) (fun b o hb e=>eb b o hb e) f0 f1 f3 f4 f5⟩
 self:=fun _ _ _ _ _ st h=>wpAny_pyIter_tupleiter st h
theorem zgO {P:Program}{w:World}{K:PySem.W.Frag}{tg:Expr}(it:Addr)(lo:Int)(n:Nat):Turn P w K tg (Itr lo n) [it] it (fun i h=>IsRangeIter h it (lo+(i:Nat)*1) ((n:Int)-(i:Nat)) 1) where
 mem:=by simp
 obj:=fun i h st b hb=>by
  have e:b=it:=by simpa using hb
  subst e
  exact⟨_,st,fun v z=>by
   have z':Data.fields _=Data.cell v:=z
   cases z'⟩
 keep:=fun i h h' st k=>k it (by simp) _ st
 item:=by
  intro X hP hw hK hc i pins s σ H E I hf st hg
  subst hP hw hK
  obtain⟨f0,f1,f2,f3,f4,f5⟩:=hf it (by simp)
  have W:=Walks.range (prog:=X.prog) (w:=X.w) (I.ok.hd hc) it lo 1 n
  refine W.item i s _ _ hg st fun v h' tk hv st' kk=> ?_
  obtain⟨t,rfl⟩:=hv
  have I1:Inv X pins σ H {s with heap:=h',toks:=tk}:=I.turned (fun b o hb e=>kk b o (by simpa using hb) e) f0 f1 f3 f4 f5
  refine⟨_,rfl,zkP (s:={s with heap:=h',toks:=tk}) (n:= "range_iterator") st' rfl rfl (by decide) ⟨.int (lo+i),H,I1,⟨t, ?_⟩,⟨rfl,rfl⟩,st',fun b hb=>(hf b hb).1⟩⟩
  rw[Int.mul_one]
 done:=by
  intro X hP hw hK hc i pins s σ H E I hf st hg
  subst hP hw hK
  obtain⟨f0,f1,f2,f3,f4,f5⟩:=hf it (by simp)
  exact wpAny_pyNext_range_end (I.ok.hd hc) st (by have:n<=i:=hg;lia) fun h' eb=>⟨rfl,I.turned (t':=s.toks) (fun b o hb e=>eb b o hb e) f0 f1 f3 f4 f5⟩
 self:=fun _ _ _ _ _ st h=>wpAny_pyIter_rangeiter st h
section
variable {X:Cx}{tg:Expr}
noncomputable def zlW (K:PySem.W.Frag)(tl:TE):TI:=fun σ H R=>tl σ H fun x H1=>∃a,x=.ref a/\(∃xs,SqL K H1 a xs)/\R (Itl K a) H1
noncomputable def iTup (K:PySem.W.Frag)(tl:TE):TI:=fun σ H R=>tl σ H fun x H1=>∃a,x=.ref a/\(∃xs,SqT K H1 a xs)/\R (Itt K a) H1
theorem zbL {l:Expr}{tl:TE}(hl:PE X l tl):PI X tg l (zlW X.K tl):=by
 intro pins s σ H R I h
 refine thn (hl pins s σ H _ I h) fun v s1 zq=> ?_
 obtain⟨x,H1,I1,r1,q1⟩:=zq
 obtain⟨a,e,⟨xs,hq⟩,q⟩:=q1
 subst e
 cases r1
 obtain⟨its,rv,p,hz⟩:=I1.list hq
 refine wpAny_pyIter_list p.isList ?_
 refine⟨s1.heap.objs.size,[s1.heap.objs.size],_,_,H1,rfl,I1.kept (t':=s1.toks) fun b o e=>Heap.get?_push_of_some _ e,zhs a _,⟨_,Heap.get?_push_size _ rfl,rfl,rfl⟩,fun b hb=> ?_,q⟩
 have e:b=s1.heap.objs.size:=by simpa using hb
 subst e
 exact I1.fpOk (Nat.le_refl _) (I1.hok.fresh (Nat.le_refl _))
theorem zcq {l:Expr}{tl:TE}(hl:PE X l tl):PI X tg l (iTup X.K tl):=by
 intro pins s σ H R I h
 refine thn (hl pins s σ H _ I h) fun v s1 zq=> ?_
 obtain⟨x,H1,I1,r1,q1⟩:=zq
 obtain⟨a,e,⟨xs,hq⟩,q⟩:=q1
 subst e
 cases r1
 obtain⟨its,rv,p,hz⟩:=I1.tuple hq
 refine wpAny_pyIter_tuple (show s1.heap.IsTuple a its.toArray from p) ?_
 refine⟨s1.heap.objs.size,[s1.heap.objs.size],_,_,H1,rfl,I1.kept (t':=s1.toks) fun b o e=>Heap.get?_push_of_some _ e,zgN a _,⟨_,Heap.get?_push_size _ rfl,rfl,rfl⟩,fun b hb=> ?_,q⟩
 have e:b=s1.heap.objs.size:=by simpa using hb
 subst e
 exact I1.fpOk (Nat.le_refl _) (I1.hok.fresh (Nat.le_refl _))
theorem zga {pins:List (Addr×Obj)}{σ:St}{H:Hp}{s:Shared}{R:It->Hp->Prop}{E:Value->Shared->Prop}{lo hi:Int}{t u v:Tok}{tk:Nat}(I:Inv X pins σ H s)(h1:-(2^62)<=lo)(h2:lo<2^62)(h3:-(2^62)<=hi)(h4:hi<2^62)
  (q:R (Itr lo (hi-lo).toNat) H):wpAny (model X.prog X.w) X.A (pyIter (.ref s.heap.objs.size)) (PIE X pins σ tg R) E {s with heap:=s.heap.push {cls:=.type "range",data:=.fields #[.int lo t,.int hi u,.int 1 v]},toks:=tk}:=by
 refine wpAny_pyIter_range (IsRange.new ..) (small_one h1 h2 h3 h4) ?_
 have I1:Inv X pins σ H {s with heap:=s.heap.push {cls:=.type "range",data:=.fields #[.int lo t,.int hi u,.int 1 v]},toks:=tk}:=I.kept fun b o e=>Heap.get?_push_of_some _ e
 refine⟨(s.heap.push {cls:=.type "range",data:=.fields #[.int lo t,.int hi u,.int 1 v]}).objs.size,[(s.heap.push {cls:=.type "range",data:=.fields #[.int lo t,.int hi u,.int 1 v]}).objs.size],_,_,H,rfl,
  I1.kept (t':=tk) fun b o e=>Heap.get?_push_of_some _ e,zgO _ lo (hi-lo).toNat, ?_,fun b hb=> ?_,q⟩
 ·have e1:lo+((0:Nat):Int)*1=lo:=by simp
  have e2:(((hi-lo).toNat:Nat):Int)-((0:Nat):Int)=Builtin.Range.rangeSize lo hi 1:=by rw[rangeSize_one];split<;>lia
  show IsRangeIter _ _ (lo+((0:Nat):Int)*1) ((((hi-lo).toNat:Nat):Int)-((0:Nat):Int)) 1
  rw[e1,e2]
  exact Heap.get?_push_size _ rfl
 ·have e:b=(s.heap.push {cls:=.type "range",data:=.fields #[.int lo t,.int hi u,.int 1 v]}).objs.size:=by simpa using hb
  subst e
  exact I1.fpOk (Nat.le_refl _) (I1.hok.fresh (Nat.le_refl _))
noncomputable def zmO (ta:TA):TI:=fun σ H R=>ta σ H fun vs H1=>∃j:Int,vs=[.int j]/\-(2^62)<=j/\j<2^62/\R (Itr 0 j.toNat) H1
noncomputable def zmP (ta:TA):TI:=fun σ H R=>ta σ H fun vs H1=>∃i j:Int,vs=[.int i,.int j]/\(-(2^62)<=i/\i<2^62/\-(2^62)<=j/\j<2^62)/\R (Itr i (j-i).toNat) H1
theorem zas {a:Expr}{ta:TA}{p pos:Pos}(hg:Gl X "range")(hm:X.mg "range" =none)(ha:PA X [a] ta)(hs:starEach [a] X.env=[(false,eval a X.env)]:=by rfl):PI X tg (.Call (.Name "range" p) [a] [] pos) (zmO ta):=by
 intro pins s σ H R I h
 refine Call_ (zcT I hg hm boot_range (PyProof.Rows.callWith_type1 (thn (ha pos pins s σ H _ I h) fun us s1 zq=> ?_) hs rfl))
 obtain⟨vs,H1,I1,r1,q1⟩:=zq
 obtain⟨j,e,q1,q2,q⟩:=q1
 subst e
 cases r1 with
 |cons r rr=>
  cases rr
  obtain⟨t,rfl⟩:=r
  exact call_range_1 (zga I1 (by lia) (by lia) q1 q2 (by simpa using q))
theorem zcr {a b:Expr}{ta:TA}{p pos:Pos}(hg:Gl X "range")(hm:X.mg "range" =none)(ha:PA X [a,b] ta)(hs:starEach [a,b] X.env=[(false,eval a X.env),(false,eval b X.env)]:=by rfl)(hs2:starEach [b] X.env=[(false,eval b X.env)]:=by rfl):
  PI X tg (.Call (.Name "range" p) [a,b] [] pos) (zmP ta):=by
 intro pins s σ H R I h
 refine Call_ (zcT I hg hm boot_range (PyProof.Rows.callWith_type1 (thn (ha pos pins s σ H _ I h) fun us s1 zq=> ?_) (by rw[hs,hs2]) (by rw[hs2];rfl)))
 obtain⟨vs,H1,I1,r1,q1⟩:=zq
 obtain⟨i,j,e,⟨q1,q2,q3,q4⟩,q⟩:=q1
 subst e
 cases r1 with
 | cons r rr=>
  cases rr with
  |cons r' rr=>
   cases rr
   obtain⟨t,rfl⟩:=r
   obtain⟨t',rfl⟩:=r'
   exact call_range_2 (zga I1 q1 q2 q3 q4 q)
noncomputable def tFor (wi:TI)(g:TG)(tb:TS):TS:=fun D σ H=>wi σ H fun J H1=>∃W:Nat->Nat->St->Hp->Prop,(∃m,W 0 m σ H1)/\∀i m σ H,W i m σ H->
 (J.stop i H/\D.nx σ H)∨(J.go i H/\∃N:St->Hp->Prop,(∀σ' H',N σ' H'->∃m',m'<m/\W (i+1) m' σ' H')/\∀x H',J.yld i H x H'->g x σ H' fun σ2 H2=>tb {D with nx:=N,ct:=N,bk:=D.nx} σ2 H2)
noncomputable def zaR (fp:List Addr)(h:Heap):List (Addr×Obj):=fp.filterMap fun b=>(h.get? b).map fun o=>(b,o)
theorem zay {fp:List Addr}{h:Heap}{b:Addr}{o:Obj}(hb:b∈fp)(e:h.get? b=some o):(b,o)∈zaR fp h:=List.mem_filterMap.mpr ⟨b,hb,by rw[e];rfl⟩
theorem zht {fp:List Addr}{h:Heap}{p:Addr×Obj}(hp:p∈zaR fp h):p.1∈fp/\h.get? p.1=some p.2:=by
 obtain⟨b,hb,e⟩:=List.mem_filterMap.mp hp
 cases q:h.get? b with
 |none=>rw[q] at e;cases e
 |some o=>
  rw[q] at e
  have e':(b,o)=p:=Option.some.inj e
  subst e'
  exact⟨hb,q⟩
theorem Inv.pinned {pins:List (Addr×Obj)}{σ:St}{H:Hp}{s:Shared}{fp:List Addr}(I:Inv X pins σ H s)(hf:∀b∈fp,FpOk X pins H b)(ho:∀b∈fp,∃o,s.heap.get? b=some o/\∀v,o.data≠.cell v):Inv X (pins++zaR fp s.heap) σ H s:=
 I.pins_of fun p hp=>(List.mem_append.mp hp).elim (fun z=>I.pin p (List.mem_append_right _ z)) fun z=>by
  obtain⟨hb,e⟩:=zht z
  obtain⟨f0,f1,f2,_⟩:=hf p.1 hb
  obtain⟨o,e',d⟩:=ho p.1 hb
  rw[e] at e';cases e'
  exact⟨e,f0,f1,f2,d⟩
theorem Inv.unpinned {pins pl:List (Addr×Obj)}{σ:St}{H:Hp}{s:Shared}(I:Inv X (pins++pl) σ H s):Inv X pins σ H s:=I.pins_of fun p hp=>I.pin p (List.mem_append_right _ (List.mem_append_left _ hp))
theorem zby {iter:Expr}{body:List Stmt}{wi:TI}{g:TG}{tb:TS}{pos:Pos}(hp:PassesOwn (model X.prog X.w) X.A X.env X.xe)(hc:X.calm=true)(hi:PI X tg iter wi)(hg:PG X tg g)(hb:PSs X body tb)
  (hs:∀x,foldedSetIterable iter X.env x=pure x:=by intro _;rfl):PS X (.For tg iter body [] pos) (tFor wi g tb):=by
 intro pins s σ H D I h
 refine wpAny_For (thn (hi pins s σ H _ I h) fun v s1 h1=>thn h1 fun itv s2 h2=> ?_) hs
 obtain⟨it,fp,tn,J,H2,e,I2,T,st2,f2,W,⟨m0,w0⟩,turn⟩:=h2
 subst e
 have stat:∀{H':Hp},(∀b∈fp,H' b=none)->∀b∈fp,FpOk X pins H' b:=fun hn b hb=>⟨hn b hb,(f2 b hb).2⟩
 refine codeAny_forLoop_any (fun n s'=>∃i σ' H',Inv X pins σ' H' s'/\tn i s'.heap/\(∀b∈fp,H' b=none)/\W i n σ' H') ?_ m0 ⟨0,σ,H2,I2,st2,fun b hb=>(f2 b hb).1,w0⟩
 rintro n s3 ⟨i,σ3,H3,I3,st3,fr3,w3⟩
 rcases turn i n σ3 H3 w3 with⟨stop,qn⟩|⟨go,N,hN,step⟩
 ·refine wpAny_passesOwn hp (thn (T.done X rfl rfl rfl hc i pins s3 σ3 H3 X.xe I3 (stat fr3) st3 stop) fun r s4 zq=> ?_)
  obtain⟨hr,I4⟩:=zq
  subst hr
  exact wpAny_execs_nil ⟨σ3,H3,I4,qn⟩
 ·refine wpAny_passesOwn hp (thn (T.item X rfl rfl rfl hc i pins s3 σ3 H3 X.xe I3 (stat fr3) st3 go) fun r s4 zq=> ?_)
  obtain⟨u,hr,h4⟩:=zq
  subst hr
  refine wpAny_passesOwn hp (thn h4 fun _ s5 zq=> ?_)
  obtain⟨x,H5,I5,r5,y5,st5,fr5⟩:=zq
  have I5':=I5.pinned (stat fr5) (T.obj _ _ st5)
  refine wpAny_passesOwn hp (thn (hg _ s5 σ3 H5 x u _ I5' r5 (step x H5 y5)) fun _ s6 zq=> ?_)
  obtain⟨σ6,H6,I6,q6⟩:=zq
  refine wpAny_passesOwn hp (thn (hb _ s6 σ6 H6 _ I6 q6) fun f s7 q7=> ?_)
  have again:∀{σ7:St} {H7:Hp},Inv X (pins++zaR fp s5.heap) σ7 H7 s7->N σ7 H7->∃m,m<n/\∃i σ' H',Inv X pins σ' H' s7/\tn i s7.heap/\(∀b∈fp,H' b=none)/\W i m σ' H':=fun {σ7 H7} I7 n7=>by
   obtain⟨m',hm,w7⟩:=hN σ7 H7 n7
   refine⟨m',hm,i+1,σ7,H7,I7.unpinned,T.keep _ _ _ st5 fun b hb o e=>(I7.pin (b,o) (List.mem_append_right _ (List.mem_append_right _ (zay hb e)))).1,fun b hb=> ?_,w7⟩
   obtain⟨o,e,d⟩:=T.obj _ _ st5 b hb
   exact (I7.pin (b,o) (List.mem_append_right _ (List.mem_append_right _ (zay hb e)))).2.1
  cases f with
  |next=>obtain⟨σ7,H7,I7,n7⟩:=q7;exact again I7 n7
  |cont=>obtain⟨σ7,H7,I7,n7⟩:=q7;exact again I7 n7
  |brk=>obtain⟨σ7,H7,I7,q7⟩:=q7;exact⟨σ7,H7,I7.unpinned,q7⟩
  |ret v=>obtain⟨x7,σ7,H7,I7,r7,q7⟩:=q7;exact⟨x7,σ7,H7,I7.unpinned,r7,q7⟩
end
theorem zgb {K:PySem.W.Frag}{a:Addr}{xs:List V}{g:TG}{tb:TS}{D:Ends}{σ:St}{H:Hp}(Pv:Nat->St->Hp->Prop)(h0:Pv 0 σ H)(hl:∀i σ H,i<=xs.length->Pv i σ H->SqL K H a xs)
  (hs:∀i x σ H,xs[i]? =some x->Pv i σ H->g x σ H fun σ2 H2=>tb {D with nx:=Pv (i+1),ct:=Pv (i+1),bk:=D.nx} σ2 H2) (hd:∀σ H,Pv xs.length σ H->D.nx σ H):
  ∃W:Nat->Nat->St->Hp->Prop,(∃m,W 0 m σ H)/\∀i m σ H,W i m σ H->
   ((Itl K a).stop i H/\D.nx σ H)∨((Itl K a).go i H/\∃N:St->Hp->Prop,(∀σ' H',N σ' H'->∃m',m'<m/\W (i+1) m' σ' H')/\∀x H',(Itl K a).yld i H x H'->g x σ H' fun σ2 H2=>tb {D with nx:=N,ct:=N,bk:=D.nx} σ2 H2):=by
 refine⟨fun i m σ H=>m=xs.length-i/\i<=xs.length/\Pv i σ H,⟨xs.length,by simp,Nat.zero_le _,h0⟩, ?_⟩
 rintro i m σ H ⟨rfl,hi,p⟩
 have q:=hl i σ H hi p
 by_cases hlt:i<xs.length
 ·refine .inr ⟨⟨xs,xs[i],q,by simp[hlt]⟩,Pv (i+1),fun σ' H' p'=>⟨xs.length-(i+1),by lia,rfl,hlt,p'⟩,fun x H' y=> ?_⟩
  obtain⟨e,y⟩:=y
  subst e
  exact hs i x σ _ (y xs q) p
 ·have e:i=xs.length:=by lia
  subst e
  exact .inl ⟨⟨xs,q,Nat.le_refl _⟩,hd σ H p⟩
theorem zfB {K:PySem.W.Frag}{a:Addr}{xs:List V}{g:TG}{tb:TS}{D:Ends}{σ:St}{H:Hp}(Pv:Nat->St->Hp->Prop)(h0:Pv 0 σ H)(hl:∀i σ H,i<=xs.length->Pv i σ H->SqT K H a xs)
  (hs:∀i x σ H,xs[i]? =some x->Pv i σ H->g x σ H fun σ2 H2=>tb {D with nx:=Pv (i+1),ct:=Pv (i+1),bk:=D.nx} σ2 H2) (hd:∀σ H,Pv xs.length σ H->D.nx σ H):
  ∃W:Nat->Nat->St->Hp->Prop,(∃m,W 0 m σ H)/\∀i m σ H,W i m σ H->
   ((Itt K a).stop i H/\D.nx σ H)∨((Itt K a).go i H/\∃N:St->Hp->Prop,(∀σ' H',N σ' H'->∃m',m'<m/\W (i+1) m' σ' H')/\∀x H',(Itt K a).yld i H x H'->g x σ H' fun σ2 H2=>tb {D with nx:=N,ct:=N,bk:=D.nx} σ2 H2):=by
 refine⟨fun i m σ H=>m=xs.length-i/\i<=xs.length/\Pv i σ H,⟨xs.length,by simp,Nat.zero_le _,h0⟩, ?_⟩
 rintro i m σ H ⟨rfl,hi,p⟩
 have q:=hl i σ H hi p
 by_cases hlt:i<xs.length
 ·refine .inr ⟨⟨xs,xs[i],q,by simp[hlt]⟩,Pv (i+1),fun σ' H' p'=>⟨xs.length-(i+1),by lia,rfl,hlt,p'⟩,fun x H' y=> ?_⟩
  obtain⟨e,y⟩:=y
  subst e
  exact hs i x σ _ (y xs q) p
 ·have e:i=xs.length:=by lia
  subst e
  exact .inl ⟨⟨xs,q,Nat.le_refl _⟩,hd σ H p⟩
theorem zcs {lo:Int}{n:Nat}{g:TG}{tb:TS}{D:Ends}{σ:St}{H:Hp}(Pv:Nat->St->Hp->Prop)(h0:Pv 0 σ H)
  (hs:∀i σ H,i<n->Pv i σ H->g (.int (lo+i)) σ H fun σ2 H2=>tb {D with nx:=Pv (i+1),ct:=Pv (i+1),bk:=D.nx} σ2 H2) (hd:∀σ H,Pv n σ H->D.nx σ H):
  ∃W:Nat->Nat->St->Hp->Prop,(∃m,W 0 m σ H)/\∀i m σ H,W i m σ H->
   ((Itr lo n).stop i H/\D.nx σ H)∨((Itr lo n).go i H/\∃N:St->Hp->Prop,(∀σ' H',N σ' H'->∃m',m'<m/\W (i+1) m' σ' H')/\∀x H',(Itr lo n).yld i H x H'->g x σ H' fun σ2 H2=>tb {D with nx:=N,ct:=N,bk:=D.nx} σ2 H2):=by
 refine⟨fun i m σ H=>m=n-i/\i<=n/\Pv i σ H,⟨n,by simp,Nat.zero_le _,h0⟩, ?_⟩
 rintro i m σ H ⟨rfl,hi,p⟩
 by_cases hlt:i<n
 ·refine .inr ⟨hlt,Pv (i+1),fun σ' H' p'=>⟨n-(i+1),by lia,rfl,hlt,p'⟩,fun x H' y=> ?_⟩
  obtain⟨e,y⟩:=y
  subst e y
  exact hs i σ _ hlt p
 ·have e:i=n:=by lia
  subst e
  exact .inl ⟨Nat.le_refl _,hd σ H p⟩
noncomputable abbrev R2:=V->V->Hp->VK->Prop
noncomputable def OpR (X:Cx)(f:Value->Value->Sem Value)(r:R2):Prop:=
 ∀(pins:List (Addr×Obj)) (s:Shared) (σ:St) (H:Hp) (x y:V) (v u:Value) (Q:VK),Inv X pins σ H s->RelV x v->RelV y u->r x y H Q->
  wpAny (model X.prog X.w) X.A (f v u) (EP X pins σ Q) X.xe s
noncomputable def UnR (X:Cx)(f:Value->Sem Value)(r:V->Hp->VK->Prop):Prop:=
 ∀(pins:List (Addr×Obj)) (s:Shared) (σ:St) (H:Hp) (x:V) (v:Value) (Q:VK),Inv X pins σ H s->RelV x v->r x H Q->
  wpAny (model X.prog X.w) X.A (f v) (EP X pins σ Q) X.xe s
noncomputable def zbQ (X:Cx)(f:Value)(r:List V->Hp->VK->Prop):Prop:=
 ∀(pins:List (Addr×Obj)) (s:Shared) (σ:St) (H:Hp) (xs:List V) (us:List Value) (Q:VK),Inv X pins σ H s->Vals xs us->r xs H Q->
  wpAny (model X.prog X.w) X.A (call f us) (EP X pins σ Q) X.xe s
noncomputable def TruR (X:Cx)(r:V->Hp->(Bool->Hp->Prop)->Prop):Prop:=
 ∀(pins:List (Addr×Obj)) (s:Shared) (σ:St) (H:Hp) (x:V) (v:Value) (Q:Bool->Hp->Prop),Inv X pins σ H s->RelV x v->r x H Q->
  wpAny (model X.prog X.w) X.A (truthy v) (TP X pins σ Q) X.xe s
noncomputable def tOp (r:R2)(ta tb:TE):TE:=fun σ H Q=>ta σ H fun x H1=>tb σ H1 fun y H2=>r x y H2 Q
noncomputable def tUn (r:V->Hp->VK->Prop)(ta:TE):TE:=fun σ H Q=>ta σ H fun x H1=>r x H1 Q
noncomputable def rI (C:Int->Int->Prop)(g:Int->Int->V):R2:=fun x y H Q=>∃i j,x=.int i/\y=.int j/\C i j/\Q (g i j) H
noncomputable def rI0 (g:Int->Int->V):R2:=fun x y H Q=>∃i j,x=.int i/\y=.int j/\Q (g i j) H
noncomputable def rU (g:Int->V):V->Hp->VK->Prop:=fun x H Q=>∃i,x=.int i/\Q (g i) H
section
variable {X:Cx}{a b c:Expr}{ta tb tc:TE}{pos:Pos}
theorem binT (ha:PE X a ta)(hb:PE X b tb){pins:List (Addr×Obj)}{s:Shared}{σ:St}{H:Hp}{R:V->V->Hp->Prop}(I:Inv X pins σ H s)
  (h:ta σ H fun x H1=>tb σ H1 fun y H2=>R x y H2) {Q:Value->Shared->Prop} {f:Value->Value->Sem Value}
  (hf:∀v u s2 x y H2,Inv X pins σ H2 s2->RelV x v->RelV y u->R x y H2->wpAny (model X.prog X.w) X.A (f v u) Q X.xe s2):
  wpAny (model X.prog X.w) X.A (eval a X.env) (fun v s₁=>wpAny (model X.prog X.w) X.A (eval b X.env) (fun u s₂=>wpAny (model X.prog X.w) X.A (f v u) Q X.xe s₂) X.xe s₁) X.xe s:=by
 refine thn (ha pins s σ H _ I h) fun v s1 zq=> ?_
 obtain⟨x,H1,I1,r1,q1⟩:=zq
 refine thn (hb pins s1 σ H1 _ I1 q1) fun u s2 zq=> ?_
 obtain⟨y,H2,I2,r2,q2⟩:=zq
 exact hf v u s2 x y H2 I2 r1 r2 q2
theorem zap {op:Operator}{r:R2}(ho:OpR X (binaryOp op) r)(ha:PE X a ta)(hb:PE X b tb):PE X (.BinOp a op b pos) (tOp r ta tb):=by
 intro pins s σ H Q I h
 exact wpAny_BinOp (binT ha hb I h fun v u s2 x y H2 I2 rx ry q=>ho pins s2 σ H2 x y v u Q I2 rx ry q)
theorem zkQ {op:UnaryOp}{r:V->Hp->VK->Prop}(ho:UnR X (unaryOp op) r)(ha:PE X a ta):PE X (.UnaryOp op a pos) (tUn r ta):=by
 intro pins s σ H Q I h
 exact UnaryOp_ (thn (ha pins s σ H _ I h) fun v s1 ⟨x,H1,I1,r1,q1⟩=>ho pins s1 σ H1 x v Q I1 r1 q1)
theorem opI {f:Value->Value->Sem Value}{C:Int->Int->Prop}{g:Int->Int->Int}
  (rule:∀(i j:Int) (t u:Tok) (s:Shared) (Q:Value->Shared->Prop) (E:Value->Shared->Prop),C i j->Q (.int (g i j) s.toks) {s with toks:=s.toks+1}->wpAny (model X.prog X.w) X.A (f (.int i t) (.int j u)) Q E s):
  OpR X f (rI C fun i j=>.int (g i j)):=by
 intro pins s σ H x y v u Q I rx ry h
 obtain⟨i,j,rfl,rfl,hc,q⟩:=h
 obtain⟨t,rfl⟩:=rx
 obtain⟨t',rfl⟩:=ry
 exact rule i j t t' s _ _ hc ⟨.int (g i j),H,I.tok _,⟨_,rfl⟩,q⟩
theorem opI0 {f:Value->Value->Sem Value}{g:Int->Int->Int}
  (rule:∀(i j:Int) (t u:Tok) (s:Shared) (Q:Value->Shared->Prop) (E:Value->Shared->Prop),Q (.int (g i j) s.toks) {s with toks:=s.toks+1}->wpAny (model X.prog X.w) X.A (f (.int i t) (.int j u)) Q E s):
  OpR X f (rI0 fun i j=>.int (g i j)):=by
 intro pins s σ H x y v u Q I rx ry h
 obtain⟨i,j,rfl,rfl,q⟩:=h
 obtain⟨t,rfl⟩:=rx
 obtain⟨t',rfl⟩:=ry
 exact rule i j t t' s _ _ ⟨.int (g i j),H,I.tok _,⟨_,rfl⟩,q⟩
theorem opB0 {f:Value->Value->Sem Value}{g:Int->Int->Bool}
  (rule:∀(i j:Int) (t u:Tok) (s:Shared) (Q:Value->Shared->Prop) (E:Value->Shared->Prop),Q (.bool (g i j)) s->wpAny (model X.prog X.w) X.A (f (.int i t) (.int j u)) Q E s):
  OpR X f (rI0 fun i j=>.bl (g i j)):=by
 intro pins s σ H x y v u Q I rx ry h
 obtain⟨i,j,rfl,rfl,q⟩:=h
 obtain⟨t,rfl⟩:=rx
 obtain⟨t',rfl⟩:=ry
 exact rule i j t t' s _ _ ⟨.bl (g i j),H,I,rfl,q⟩
noncomputable def CDiv (i j:Int):Prop:=0<j/\j<1073741824
noncomputable def CPow (i j:Int):Prop:=0<=j/\j<=1000000/\i.natAbs<2^64
noncomputable def CMul (i j:Int):Prop:=(-(2^64)<i/\i<2^64)∨(-(2^64)<j/\j<2^64)
theorem CMul.ok {i j:Int}(h:CMul i j):IntMulOk i j:=by
 rcases h with⟨h1,h2⟩|⟨h1,h2⟩
 ·exact .of_left (intBits_le_64 h1 h2)
 ·exact .of_right (intBits_le_64 h1 h2)
theorem za2:OpR X (binaryOp .Add) (rI0 fun i j=>.int (i+j)):=opI0 fun _ _ _ _ _ _ _ q=>add_int q
theorem zbf:OpR X (binaryOp .Sub) (rI0 fun i j=>.int (i-j)):=opI0 fun _ _ _ _ _ _ _ q=>sub_int q
theorem zeK:OpR X (binaryOp .Mult) (rI CMul fun i j=>.int (i*j)):=opI fun _ _ _ _ _ _ _ hc q=>mul_int q hc.ok
theorem zkR:OpR X (binaryOp .FloorDiv) (rI CDiv fun i j=>.int (i/j)):=opI fun i j _ _ _ _ _ hc q=>by
 have h1:(0:Int)<j:=hc.1
 have h2:j<1073741824:=hc.2
 exact floordiv_int (by lia) (by rw[Int.fdiv_eq_ediv_of_nonneg i (by lia)];exact q) (.inl (PyProof.noPylong_small (by lia)))
theorem zcU:OpR X (binaryOp .Mod) (rI (fun _ j=>0<j) fun i j=>.int (i%j)):=opI fun i j _ _ _ _ _ hc q=>by
 have h1:(0:Int)<j:=hc
 exact mod_int' (by lia) (by rw[Int.fmod_eq_emod_of_nonneg i (by lia)];exact q)
theorem zeL:OpR X (binaryOp .Pow) (rI CPow fun i j=>.int (i^j.toNat)):=opI fun _ _ _ _ _ _ _ hc q=>pow_int_small hc.1 hc.2.1 hc.2.2 q
theorem unI {f:Value->Sem Value}{g:Int->Int}
  (rule:∀(i:Int) (t:Tok) (s:Shared) (Q:Value->Shared->Prop) (E:Value->Shared->Prop),Q (.int (g i) s.toks) {s with toks:=s.toks+1}->wpAny (model X.prog X.w) X.A (f (.int i t)) Q E s):
  UnR X f (rU fun i=>.int (g i)):=by
 intro pins s σ H x v Q I rx h
 obtain⟨i,rfl,q⟩:=h
 obtain⟨t,rfl⟩:=rx
 exact rule i t s _ _ ⟨.int (g i),H,I.tok _,⟨_,rfl⟩,q⟩
theorem zhu:UnR X (unaryOp .USub) (rU fun i=>.int (-i)):=unI fun _ _ _ _ _ q=>neg_int q
end
noncomputable def scal:V->V->Bool
 | .non,.non=>true| .non,.int _=>true| .int _,.non=>true| .non,.bl _=>true| .bl _,.non=>true| .non,.str _=>true| .str _,.non=>true
 | .int _,.int _=>true| .bl _,.bl _=>true| .str _,.str _=>true| .byt _,.byt _=>true
 | .int _,.str _=>true| .str _,.int _=>true| .bl _,.str _=>true| .str _,.bl _=>true
 |_,_=>false
noncomputable def rEq:R2:=fun x y H Q=>scal x y=true/\Q (.bl (decide (x=y))) H
noncomputable def rNe:R2:=fun x y H Q=>scal x y=true/\Q (.bl (!decide (x=y))) H
theorem zhv {i j:Int}:decide (V.int i=V.int j)=(i==j):=by
 rw[Bool.eq_iff_iff]
 simp
theorem zke {i j:Bool}:decide (V.bl i=V.bl j)=(i==j):=by
 rw[Bool.eq_iff_iff]
 simp
theorem zhw {i j:Str}:decide (V.str i=V.str j)=(i==j):=by
 rw[Bool.eq_iff_iff]
 simp
theorem zhx {i j:Array UInt8}:decide (V.byt i=V.byt j)=(i.toList==j.toList):=by
 rw[Bool.eq_iff_iff]
 cases i
 cases j
 simp
section
variable {X:Cx}{a b c:Expr}{ta tb tc:TE}{pos:Pos}
theorem zaK {pins:List (Addr×Obj)}{σ:St}{H:Hp}{s:Shared}{Q:VK}{k k':Bool}(I:Inv X pins σ H s)(q:Q (.bl k) H)(e:k=k'):EP X pins σ Q (.bool k') s:=by
 subst e
 exact⟨.bl k,H,I,rfl,q⟩
theorem zdC:OpR X (compareOp .Eq) rEq:=by
 intro pins s σ H x y v u Q I rx ry h
 obtain⟨hs,q⟩:=h
 cases x with
 |non=>
  cases rx
  cases y with
  |non=>cases ry;exact PySem.EqNone.eq_none_none (zaK I q (by simp))
  |bl j=>cases ry;exact PySem.EqNone.eq_none_bool (zaK I q (by simp))
  |int j=>obtain⟨t',rfl⟩:=ry;exact PySem.EqNone.eq_none_int (zaK I q (by simp))
  |str j=>obtain⟨t',rfl⟩:=ry;exact PySem.EqNone.eq_none_str (zaK I q (by simp))
  |_=>exact absurd (show false=true from hs) Bool.false_ne_true
 |bl i=>
  cases rx
  cases y with
  |non=>cases ry;exact PySem.EqNone.eq_bool_none (zaK I q (by simp))
  |bl j=>cases ry;exact eq_bool (zaK I q zke)
  |str j=>obtain⟨t',rfl⟩:=ry;exact PySem.EqMixed.eq_bool_str (zaK I q (by simp))
  |_=>exact absurd (show false=true from hs) Bool.false_ne_true
 |int i=>
  obtain⟨t,rfl⟩:=rx
  cases y with
  |non=>cases ry;exact PySem.EqNone.eq_int_none (zaK I q (by simp))
  |int j=>obtain⟨t',rfl⟩:=ry;exact eq_int (zaK I q zhv)
  |str j=>obtain⟨t',rfl⟩:=ry;exact PySem.EqMixed.eq_int_str (zaK I q (by simp))
  |_=>exact absurd (show false=true from hs) Bool.false_ne_true
 |str i=>
  obtain⟨t,rfl⟩:=rx
  cases y with
  |non=>cases ry;exact PySem.EqNone.eq_str_none (zaK I q (by simp))
  |bl j=>cases ry;exact PySem.EqMixed.eq_str_bool (zaK I q (by simp))
  |int j=>obtain⟨t',rfl⟩:=ry;exact PySem.EqMixed.eq_str_int (zaK I q (by simp))
  |str j=>obtain⟨t',rfl⟩:=ry;exact eq_str (zaK I q zhw)
  |_=>exact absurd (show false=true from hs) Bool.false_ne_true
 |byt i=>
  obtain⟨t,rfl⟩:=rx
  cases y with
  |byt j=>obtain⟨t',rfl⟩:=ry;exact PySem.W.eq_bytes (zaK I q zhx)
  |_=>exact absurd (show false=true from hs) Bool.false_ne_true
 |_=>cases y<;>exact absurd (show false=true from hs) Bool.false_ne_true
theorem zi9:OpR X (compareOp .NotEq) rNe:=by
 intro pins s σ H x y v u Q I rx ry h
 obtain⟨hs,q⟩:=h
 cases x with
 |non=>
  cases rx
  cases y with
  |non=>cases ry;exact PySem.EqNone.ne_none_none (zaK I q (by simp))
  |bl j=>cases ry;exact PySem.EqNone.ne_none_bool (zaK I q (by simp))
  |int j=>obtain⟨t',rfl⟩:=ry;exact PySem.EqNone.ne_none_int (zaK I q (by simp))
  |str j=>obtain⟨t',rfl⟩:=ry;exact PySem.EqNone.ne_none_str (zaK I q (by simp))
  |_=>exact absurd (show false=true from hs) Bool.false_ne_true
 |bl i=>
  cases rx
  cases y with
  |non=>cases ry;exact PySem.EqNone.ne_bool_none (zaK I q (by simp))
  |bl j=>cases ry;exact ne_bool (zaK I q (congrArg not zke))
  |str j=>obtain⟨t',rfl⟩:=ry;exact PySem.EqMixed.ne_bool_str (zaK I q (by simp))
  |_=>exact absurd (show false=true from hs) Bool.false_ne_true
 |int i=>
  obtain⟨t,rfl⟩:=rx
  cases y with
  |non=>cases ry;exact PySem.EqNone.ne_int_none (zaK I q (by simp))
  |int j=>obtain⟨t',rfl⟩:=ry;exact ne_int (zaK I q (congrArg not zhv))
  |str j=>obtain⟨t',rfl⟩:=ry;exact PySem.EqMixed.ne_int_str (zaK I q (by simp))
  |_=>exact absurd (show false=true from hs) Bool.false_ne_true
 |str i=>
  obtain⟨t,rfl⟩:=rx
  cases y with
  |non=>cases ry;exact PySem.EqNone.ne_str_none (zaK I q (by simp))
  |bl j=>cases ry;exact PySem.EqMixed.ne_str_bool (zaK I q (by simp))
  |int j=>obtain⟨t',rfl⟩:=ry;exact PySem.EqMixed.ne_str_int (zaK I q (by simp))
  |str j=>obtain⟨t',rfl⟩:=ry;exact ne_str (zaK I q (congrArg not zhw))
  |_=>exact absurd (show false=true from hs) Bool.false_ne_true
 |byt i=>
  obtain⟨t,rfl⟩:=rx
  cases y with
  |byt j=>obtain⟨t',rfl⟩:=ry;exact PySem.W.ne_bytes (zaK I q (congrArg not zhx))
  |_=>exact absurd (show false=true from hs) Bool.false_ne_true
 |_=>cases y<;>exact absurd (show false=true from hs) Bool.false_ne_true
theorem zhy:OpR X (compareOp .Lt) (rI0 fun i j=>.bl (decide (i<j))):=opB0 fun _ _ _ _ _ _ _ q=>lt_int q
theorem zfC:OpR X (compareOp .Gt) (rI0 fun i j=>.bl (decide (j<i))):=opB0 fun _ _ _ _ _ _ _ q=>gt_int q
theorem zlX:OpR X (compareOp .GtE) (rI0 fun i j=>.bl (decide (j<=i))):=opB0 fun _ _ _ _ _ _ _ q=>ge_int q
theorem zlY:OpR X (compareOp .Is) (fun x y H Q=>y=.non/\Q (.bl (decide (x=.non))) H):=by
 intro pins s σ H x y v u Q I rx ry h
 obtain⟨rfl,q⟩:=h
 cases ry
 refine is_none_gen (zaK I q ?_)
 cases x<;>first
  |(cases rx;rfl)
  |(obtain⟨t,rfl⟩:=rx;rfl)
theorem zaH (b:Expr){op:CmpOp}(h:op≠.In:=by decide)(h2:op≠.NotIn:=by decide):behindInMarks op b=false:=by
 have e1:(op==CmpOp.In)=false:=by cases op<;>first|rfl|exact absurd rfl h
 have e2:(op==CmpOp.NotIn)=false:=by cases op<;>first|rfl|exact absurd rfl h2
 cases b<;>simp[behindInMarks,e1,e2]
theorem zcG {op:CmpOp}{r:R2}(ho:OpR X (compareOp op) r)(ha:PE X a ta)(hb:PE X b tb)(hm:behindInMarks op b=false):PE X (.Compare a [op] [b] pos) (tOp r ta tb):=by
 intro pins s σ H Q I h
 exact wpAny_Compare1 (binT ha hb I h fun v u s2 x y H2 I2 rx ry q=>ho pins s2 σ H2 x y v u Q I2 rx ry q) hm
noncomputable def zmQ (t:TE):TT:=fun σ H Q=>t σ H fun x H'=>∃k,x=.bl k/\Q k H'
theorem zar {op:CmpOp}{r:R2}(ho:OpR X (compareOp op) r)(ha:PE X a ta)(hb:PE X b tb)(hm:behindInMarks op b=false):PT X (.Compare a [op] [b] pos) (zmQ (tOp r ta tb)):=by
 intro pins s σ H Q I h
 refine wpAny_isTrue_Compare1 (thn (ha pins s σ H _ I h) fun v s1 ⟨x,H1,I1,r1,q1⟩=>thn (hb pins s1 σ H1 _ I1 q1) fun u s2 ⟨y,H2,I2,r2,q2⟩=>
  thn (ho pins s2 σ H2 x y v u _ I2 r1 r2 q2) fun c s3 ⟨z,H3,I3,r3,k,e,q3⟩=> ?_) hm
 subst e
 cases r3
 exact wpAny_truthy_bool ⟨H3,I3,q3⟩
noncomputable def TruV (K:PySem.W.Frag)(x:V)(H:Hp)(k:Bool):Prop:=
 match x with
 | .non=>k=false
 | .bl b=>k=b
 | .int i=>k=(i != 0)
 | .str y=>y.length<=sizeLine/\k=((y.length:Int) != 0)
 | .byt y=>y.size<=sizeLine/\k=((y.size:Int) != 0)
 | .ref p=>(∃xs,SqL K H p xs/\k= !xs.isEmpty)∨(∃xs,SqT K H p xs/\k= !xs.isEmpty)∨∃kvs,H p=some (.dK kvs)/\k= !kvs.isEmpty
 |_=>False
theorem zgP {κ:Type}{kvs:List (κ×V)}{vs:List (κ×Value)}(r:KV kvs vs):(!vs.isEmpty)= !kvs.isEmpty:=by
 cases r<;>rfl
theorem zdI {xs:List V}{its:List Value}(r:Vals xs its):(!its.toArray.isEmpty)= !xs.isEmpty:=by
 cases r<;>simp
theorem zdJ:(sizeLine:Nat)<2^63:=by rw[sizeLine_eq];decide
theorem zlZ:TruR X (fun x H Q=>∃k,TruV X.K x H k/\Q k H):=by
 intro pins s σ H x v Q I rx h
 obtain⟨k,e,q⟩:=h
 have hl:=zdJ
 have hs:sizeLine=16777216:=sizeLine_eq
 cases x with
 |non=>
  cases rx
  have e':k=false:=e
  subst e'
  exact truthy_none ⟨H,I,q⟩
 |bl b=>
  cases rx
  have e':k=b:=e
  subst e'
  exact wpAny_truthy_bool ⟨H,I,q⟩
 |int i=>
  obtain⟨t,rfl⟩:=rx
  have e':k=(i != 0):=e
  subst e'
  exact PySem.P.truthy_int ⟨H,I,q⟩
 |str y=>
  obtain⟨t,rfl⟩:=rx
  obtain⟨hy,e'⟩:y.length<=sizeLine/\k=((y.length:Int) != 0):=e
  subst e'
  exact PySem.P.truthy_str (by lia) ⟨H,I.tok _,q⟩
 |byt y=>
  obtain⟨t,rfl⟩:=rx
  obtain⟨hy,e'⟩:y.size<=sizeLine/\k=((y.size:Int) != 0):=e
  subst e'
  exact PySem.W.truthy_bytes (by lia) ⟨H,I.tok _,q⟩
 | ref p=>
  cases rx
  have e':(∃xs,SqL X.K H p xs/\k= !xs.isEmpty)∨(∃xs,SqT X.K H p xs/\k= !xs.isEmpty)∨∃kvs,H p=some (.dK kvs)/\k= !kvs.isEmpty:=e
  rcases e' with⟨xs,hx,e'⟩|⟨xs,hx,e'⟩|⟨kvs,hx,e'⟩
  ·subst e'
   obtain⟨its,r,pl,hz⟩:=I.list hx
   have hlen:=r.length
   exact wpAny_truthy_list pl.isList (by simp only[List.size_toArray];lia) ⟨H,I.tok _,by rw[zdI r];exact q⟩
  ·subst e'
   obtain⟨its,r,pl,hz⟩:=I.tuple hx
   have hlen:=r.length
   exact truthy_tuple pl (by simp only[List.size_toArray];lia) ⟨H,I.tok _,by rw[zdI r];exact q⟩
  ·subst e'
   obtain⟨hz,hS,vs,r,m⟩:kvs.length<=sizeLine/\(p==sysModules)=false/\∃vs,KV kvs vs/\s.heap.DictOf (zbc X.prog X.w) p vs:=I.hok p _ hx
   have hlen:kvs.length=vs.length:=Paired.length r
   exact wpAny_truthy_dict hS m (by lia) ⟨H,I.tok _,by rw[zgP r];exact q⟩
 |_=>exact (show False from e).elim
theorem zja (ha:PE X a ta)(he:∀whole,isTrue a X.env whole=(do let v<-whole;standAt a.pos;holding [v] (truthy v))):
  PT X a (fun σ H Q=>ta σ H fun x H'=>∃k,TruV X.K x H' k/\Q k H'):=by
 intro pins s σ H Q I h
 exact isTrue_plain (thn (ha pins s σ H _ I h) fun v s1 ⟨x,H1,I1,r1,q1⟩=>zlZ pins s1 σ H1 x v Q I1 r1 q1) (he _)
theorem zcf {x:V}{us:List Value}(r:Vals [x] us):∃u,us=[u]/\RelV x u:=by
 cases r with
 |cons r1 r2=>cases r2;exact⟨_,rfl,r1⟩
theorem zjb {x y:V}{us:List Value}(r:Vals [x,y] us):∃u w',us=[u,w']/\RelV x u/\RelV y w':=by
 cases r with
 |cons r1 r2=>
  cases r2 with
  |cons r3 r4=>cases r4;exact⟨_,_,rfl,r1,r3⟩
theorem zgc:zbQ X (.builtin "abs") (fun xs H Q=>∃i,xs=[.int i]/\Q (.int (if i<0 then-i else i)) H):=by
 intro pins s σ H xs us Q I r h
 obtain⟨i,rfl,q⟩:=h
 obtain⟨u,rfl,t,rfl⟩:=zcf r
 exact call_abs_int fun u tk=>⟨.int (if i<0 then-i else i),H,I.tok _,⟨_,rfl⟩,q⟩
theorem zhz (hc:X.calm=true):zbQ X (.builtin "max") (fun xs H Q=>∃i j,xs=[.int i,.int j]/\Q (.int (if j>i then j else i)) H):=by
 intro pins s σ H xs us Q I r h
 obtain⟨i,j,rfl,q⟩:=h
 obtain⟨u,w',rfl,⟨t,rfl⟩,⟨t',rfl⟩⟩:=zjb r
 refine max_two_ints (I.ok.hd hc) fun h' tk k=>⟨_,H,I.kept k, ?_,q⟩
 by_cases hj:j>i
 ·rw[if_pos hj,if_pos hj];exact⟨_,rfl⟩
 ·rw[if_neg hj,if_neg hj];exact⟨_,rfl⟩
theorem zeM (hc:X.calm=true):zbQ X (.builtin "min") (fun xs H Q=>∃i j,xs=[.int i,.int j]/\Q (.int (if j<i then j else i)) H):=by
 intro pins s σ H xs us Q I r h
 obtain⟨i,j,rfl,q⟩:=h
 obtain⟨u,w',rfl,⟨t,rfl⟩,⟨t',rfl⟩⟩:=zjb r
 refine min_two_ints (I.ok.hd hc) fun h' tk k=>⟨_,H,I.kept k, ?_,q⟩
 by_cases hj:j<i
 ·rw[if_pos hj,if_pos hj];exact⟨_,rfl⟩
 ·rw[if_neg hj,if_neg hj];exact⟨_,rfl⟩
theorem zeN:zbQ X (.type "int") (fun xs H Q=>(∃i,xs=[.int i]/\Q (.int i) H)∨∃k,xs=[.bl k]/\Q (.int (if k then 1 else 0)) H):=by
 intro pins s σ H xs us Q I r h
 rcases h with⟨i,rfl,q⟩|⟨k,rfl,q⟩
 ·obtain ⟨u,rfl,t,rfl⟩:=zcf r
  exact call_int_int ⟨.int i,H,I,⟨_,rfl⟩,q⟩
 ·obtain ⟨u,rfl,r1⟩:=zcf r
  cases r1
  exact call_int_bool ⟨.int (if k then 1 else 0),H,I.tok _,⟨_,rfl⟩,q⟩
end
structure ObjM (h:Heap) (x dx C:Addr) (mA:Str->Option Value):Prop where
 obj:h.get? x=some (PySem.W.instObj C dx)
 ns:h.Ns1 dx mA
 ne:dx≠x
section
variable {prog:Program}{w:World}{A:Around}{E:Value->Shared->Prop}{s:Shared}{K:PySem.W.Frag}{x dx C f:Addr}{mA:Str->Option Value}{name:Str}{v:Value}
end
theorem RelO.some_of {v:V}{o:Option Value}(r:RelO (some v) o):∃u,o=some u/\RelV v u:=by
 cases o with
 |none=>exact (show False from r).elim
 |some u=>exact⟨u,rfl,r⟩
section
variable {P:Program}{w:World}{H H':Hp}{h h':Heap}{a C dx:Addr}{fs fs':List (Str×V)}
end
structure Cls (K:PySem.W.Frag) (C:Addr):Prop where
 pg:PySem.W.plainGet K C Str.empty=true
 hd:PySem.W.hasDictIn K C=true
 po:PySem.W.plainOver K C=true
 sa:PySem.W.findIn K (.ref C) "__setattr__" =some (some (.builtin "object.__setattr__"))
structure Con (K:PySem.W.Frag) (C:Addr) (f:Str) (v:V) (u:Value):Prop where
 at_:PySem.W.findIn K (.ref C) f=some (some u)
 rel:RelV v u
 get:PySem.W.specialIn K u "__get__" =some none
 cp:PySem.W.copiedNames.contains f=false
structure Meth (K:PySem.W.Frag) (C:Addr) (m:Str) (f:Addr):Prop where
 at_:PySem.W.findIn K (.ref C) m=some (some (.ref f))
 fn:PySem.W.isFn K (.ref f)=true
 kp:PySem.W.keepIn K (.ref f)=true
section
variable {X:Cx}{pins:List (Addr×Obj)}{σ:St}{H:Hp}{s:Shared}{a C dx:Addr}{fs:List (Str×V)}{f:Str}{v:V}{A:Around}{E:Value->Shared->Prop}
end
section
variable {X:Cx}{o e value:Expr}{f:Str}{pos pos' tpos:Pos}{ta tv:TE}
end
section
variable {X:Cx}{pins:List (Addr×Obj)}{σ:St}{H:Hp}{s:Shared}{A:Around}{E:Value->Shared->Prop}{Q:Value->Shared->Prop}{c:Value}{b:Bool}
inductive TyOf (K:PySem.W.Frag) (H:Hp):V->Value->Prop where
 |non:TyOf K H .non (.type "NoneType")
 |bl (x:Bool):TyOf K H (.bl x) (.type "bool")
 |int (i:Int):TyOf K H (.int i) (.type "int")
 |str (x:Str):TyOf K H (.str x) (.type "str")
 |flt (x:UInt64):TyOf K H (.flt x) (.type "float")
 |lst {a:Addr} {xs:List V} (e:H a=some (.lst xs)):TyOf K H (.ref a) (.type "list")
 |frz {a:Addr} {o:Obj} {xs:List V} (e:H a=some (.frz o (.lst xs))):TyOf K H (.ref a) (.type "list")
 |tup {a:Addr} {xs:List V} (e:H a=some (.tup xs)):TyOf K H (.ref a) (.type "tuple")
 |dK {a:Addr} {kvs:List (Key×V)} (e:H a=some (.dK kvs)):TyOf K H (.ref a) (.type "dict")
 |dT {a:Addr} {kvs:List (List Key×V)} (e:H a=some (.dT kvs)):TyOf K H (.ref a) (.type "dict")
 | ins {a C dx:Addr} {fs:List (Str×V)} (e:H a=some (.ins C dx fs)) (cl:Cls K C) (ha:PySem.W.findIn K (.ref C) "__class__" =some (some (.builtin "object.__class__")))
   (hn:PySem.W.specialIn K (.builtin "object.__class__") "__get__" =some (some (.builtin "getset_descriptor.__get__"))) (htk:PySem.W.takesIn K (.builtin "object.__class__")=some true)
   (hm:PySem.W.mroIn K C (.type "object")=some true):TyOf K H (.ref a) (.ref C)
end
structure Room (k:Nat) (A:Around):Prop where
 hd:A.handled=none
 dp:A.depth+3*k+5<recursionLimit
 un:A.units+16*k+200<cLine
 gd:A.guards=some []
theorem Room.mono {j k:Nat}{A:Around}(r:Room k A)(h:j<=k):Room j A:=⟨r.hd,by have:=r.dp;lia,by have:=r.un;lia,r.gd⟩
theorem Room.deeper {k:Nat}{A:Around}(r:Room (k+1) A)(env:Env):Room k (A.deeper env):=
 ⟨r.hd,by have:=r.dp;show A.depth+1+3*k+5<_;lia,by have:=r.un;show A.units+3+16*k+200<_;lia,r.gd⟩
theorem Room.depth {k:Nat}{A:Around}(r:Room k A):A.depth<recursionLimit:=by have:=r.dp;lia
theorem Room.units {k:Nat}{A:Around}(r:Room k A):A.units+64<cLine:=by have:=r.un;lia
noncomputable def tNil:TA:=fun _ H Q=>Q [] H
noncomputable def zb8 (ta:TE)(tr:TA):TA:=fun σ H Q=>ta σ H fun x H1=>tr σ H1 fun xs H2=>Q (x::xs) H2
section
variable {X:Cx}{e:Expr}{es:List Expr}{te:TE}{t:TA}{pos:Pos}
theorem zac:PA X [] tNil:=fun _ _ _ _ H Q I h=>Calls.spliced_nil ⟨[],H,I,.nil,h⟩
theorem zaa (ha:PE X e te)(hr:PA X es t)(hs:starEach (e::es) X.env=(false,eval e X.env)::starEach es X.env:=by rfl):PA X (e::es) (zb8 te t):=by
 intro pos pins s σ H Q I h
 rw[hs]
 show wpAny _ _ (spliced ((false,eval e X.env)::backTo pos (starEach es X.env))) _ _ s
 refine Calls.spliced_cons (thn (ha pins s σ H _ I h) fun u s1 zq=> ?_)
 obtain⟨x,H1,I1,r1,q1⟩:=zq
 exact thn (hr pos pins s1 σ H1 _ I1 q1) fun us s2 ⟨xs,H2,I2,r2,q2⟩=>⟨x::xs,H2,I2,.cons r1 r2,q2⟩
noncomputable def tTup (t:TA):TE:=fun σ H Q=>t σ H fun xs H1=>xs.length<=sizeLine/\∀p,H1 p=none->Q (.ref p) (upd H1 p (.tup xs))
noncomputable def tLst (t:TA):TE:=fun σ H Q=>t σ H fun xs H1=>xs.length<=sizeLine/\∀p,H1 p=none->Q (.ref p) (upd H1 p (.lst xs))
theorem za7 {x1}(h:PA X es t):PE X (.Tuple es x1 pos) (tTup t):=by
 intro pins s σ H Q I hq
 refine wpAny_Tuple_spliced (thn (h pos pins s σ H _ I hq) fun us s1 ⟨xs,H1,I1,r,z,q⟩=>⟨by rw[<-r.length];exact z, ?_⟩)
 have hf:H1 s1.heap.objs.size=none:=I1.hok.fresh (Nat.le_refl _)
 refine⟨.ref s1.heap.objs.size,upd H1 s1.heap.objs.size (.tup xs),I1.laid (t':=s1.toks) (fun b u e=>Heap.get?_push_of_some _ e) (Nat.le_refl _) ?_,rfl,q _ hf⟩
 exact⟨z,us,r,PTup.new⟩
theorem zbD (h:PA X es t):PE X (.List es pos) (tLst t):=by
 intro pins s σ H Q I hq
 refine wpAny_List_spliced (thn (h pos pins s σ H _ I hq) fun us s1 ⟨xs,H1,I1,r,z,q⟩=>⟨by rw[<-r.length];exact z, ?_⟩)
 have hf:H1 s1.heap.objs.size=none:=I1.hok.fresh (Nat.le_refl _)
 refine⟨.ref s1.heap.objs.size,upd H1 s1.heap.objs.size (.lst xs),I1.laid (t':=s1.toks) (fun b u e=>Heap.get?_push_of_some _ e) (Nat.le_refl _) ?_,rfl,q _ hf⟩
 exact⟨z,us,0,r,Heap.get?_push_size _ rfl⟩
end
noncomputable abbrev Sp:=List V->Hp->VK->XK->Prop
noncomputable abbrev CXT:=List Env->Hp->Shared->XK->Value->Shared->Prop
structure Env0 (P:Program) (w:World) (K:PySem.W.Frag) (mg:Str->Option Value) (base:Heap) (A:Around) (outer:List Env) (s:Shared) (H:Hp):Prop where
 frames:A.frames=some outer
 mod:Mod K mg base
 bs:∀b o,base.get? b=some o->s.heap.get? b=some o/\H b=none
 bsz:base.objs.size<=s.heap.objs.size
 funs:s.heap.FunFrames base outer
 frf:∀b∈frs outer,H b=none
 hok:HOk P w H s.heap
 bare:AllBare s.gens
noncomputable def CE (outer:List Env)(P:Program)(w:World)(H:Hp)(s:Shared)(Q:VK)(u:Value)(s':Shared):Prop:=
 ∃v H',s'.os=s.os/\AllBare s'.gens/\Un (frs outer) [] H H' s.heap s'.heap/\HOk P w H' s'.heap/\RelV v u/\Q v H'
noncomputable def CR (CX:CXT)(outer:List Env)(P:Program)(w:World)(H:Hp)(s:Shared)(Q:VK)(E:XK)(r:Result)(s':Shared):Prop:=
 match r with
 | .ok (.ret u)=>CE outer P w H s Q u s'
 | .ok _=>False
 | .error e=>CX outer H s E e s'
structure FnOk (P:Program) (w:World) (K:PySem.W.Frag) (mg:Str->Option Value) (base:Heap) (CX:CXT) (k:Nat) (f:Addr) (fd:FuncData) (ps:List Str) (sp:Sp):Prop where
 len:∀vs H Q E,sp vs H Q E->vs.length=ps.length
 run:∀(A:Around) (outer:List Env) (s:Shared) (H:Hp) (args:Args) (us:List Value) (vs:List V) (Q:VK) (E:XK),Room k A->Env0 P w K mg base A outer s H->BindsTo s fd args (ps.zip us)->Vals vs us->sp vs H Q E->
  codeAny (model P w) A (.call (.ref f) args) (CR CX outer P w H s Q E) s
section
variable {X:Cx}{pins:List (Addr×Obj)}{σ:St}{H:Hp}{s s':Shared}
theorem Inv.env0 (I:Inv X pins σ H s):Env0 X.prog X.w X.K X.mg X.base X.A X.stack s H:=
 ⟨I.ok.frames,I.ok.mod,I.bs,Nat.le_trans I.ok.bsz I.sz,I.stack,I.stkFree,I.hok,I.bare⟩
theorem Inv.after {Q:VK}{u:Value}(I:Inv X pins σ H s)(h:CE X.stack X.prog X.w H s Q u s'):EP X pins σ Q u s':=by
 obtain⟨v,H',os,bare,un,hok,r,q⟩:=h
 obtain⟨hh,g,d,t,os'⟩:=s'
 obtain rfl:os'=s.os:=os
 exact⟨v,H',I.call (h':=hh) (g':=g) (d':=d) (t':=t) (ch:=[]) un hok bare (fun b z=>absurd z (by simp)),r,q⟩
end
noncomputable def zmR (sp:Sp)(dvs:List V)(E:XK)(t:TA):TE:=fun σ H Q=>t σ H fun vs H1=>sp (vs++dvs) H1 Q E
noncomputable def Binds (K:PySem.W.Frag)(fd:FuncData)(ps:List Str)(ds:List Value):Prop:=
 ∀(s:Shared) (us:List Value),K.In s.heap->(us++ds).length=ps.length->BindsTo s fd ⟨us,[]⟩ (ps.zip (us++ds))
theorem Binds.all {K:PySem.W.Frag}{fd:FuncData}{ps:List Str}(h:∀us:List Value,us.length=ps.length->bindArgs fd ⟨us,[]⟩=pure (ps.zip us)):Binds K fd ps []:=fun s us _ hl=>by
 rw[List.append_nil] at hl ⊢
 exact .of_eq (h us hl)
noncomputable def zhA (CX:CXT)(X:Cx)(E:XK):Prop:=∀(pins:List (Addr×Obj)) (σ:St) (H:Hp) (s:Shared) (e:Value) (s':Shared),Inv X pins σ H s->CX X.stack H s E e s'->X.xe e s'
section
variable {X:Cx}{CX:CXT}{k:Nat}{f C:Addr}{fd:FuncData}{ps:List Str}{sp:Sp}{dvs:List V}{ds:List Value}{E:XK}{x m:Str}{p pos apos:Pos}{e o:Expr}{es:List Expr}{ta:TE}{t:TA}
theorem zkf {pins:List (Addr×Obj)}{σ:St}{H:Hp}{s:Shared}{Q:VK}{us:List Value}{vs:List V}(F:FnOk X.prog X.w X.K X.mg X.base CX k f fd ps sp)(hr:Room k X.A)(hb:Binds X.K fd ps ds)(hd:Vals dvs ds)(hx:zhA CX X E)
  (I:Inv X pins σ H s) (r:Vals vs us) (h:sp (vs++dvs) H Q E):wpAny (model X.prog X.w) X.A (call (.ref f) us) (EP X pins σ Q) X.xe s:=by
 have r2:Vals (vs++dvs) (us++ds):=r.append hd
 have hl:(us++ds).length=ps.length:=by rw[<-r2.length];exact F.len _ _ _ _ h
 refine wpAny_call (codeAny_mono (F.run X.A X.stack s H ⟨us,[]⟩ (us++ds) (vs++dvs) Q E hr I.env0 (hb s us I.kIn hl) r2 h) fun r s' hq=> ?_)
 cases r with
 |error e=>exact hx pins σ H s e s' I hq
 |ok fl=>
  cases fl with
  |ret u=>exact I.after hq
  |next=>exact False.elim hq
  |brk=>exact False.elim hq
  |cont=>exact False.elim hq
theorem zkS (F:FnOk X.prog X.w X.K X.mg X.base CX k f fd ps sp)(hr:Room k X.A)(hg:Gl X x)(hm:X.mg x=some (.ref f))(hk:PySem.W.keepIn X.K (.ref f)=true)(hb:Binds X.K fd ps ds)(hd:Vals dvs ds)(hx:zhA CX X E)
  (ha:PA X (e::es) t) (hdb:(x==("__debug__" :Str))=false:=by decide) (he:starEach (e::es) X.env=(false,eval e X.env)::starEach es X.env:=by rfl) (hpl:(backTo pos (starEach es X.env)).any (·.1)=false:=by rfl):
  PE X (.Call (.Name x p) (e::es) [] pos) (zmR sp dvs E t):=by
 intro pins s σ H Q I h
 refine wpAny_Call_Name_kw (zfA I hg hm ?_ hdb)
 refine PySem.W.callWith_K (h₀:=X.base) I.ok.mod.kin hk (thn (ha pos pins s σ H _ I h) fun us s1 ⟨vs,H1,I1,r,q⟩=>⟨I1.kIn, ?_⟩) he hpl
 exact zkf F hr hb hd hx I1 r q
structure Mk (K:PySem.W.Frag) (C f:Addr):Prop where
 makes:PySem.W.makesIn K C=true
 init:PySem.W.findIn K (.ref C) "__init__" =some (some (.ref f))
 fn:PySem.W.isFn K (.ref f)=true
 kp:PySem.W.keepIn K (.ref C)=true
end
section
variable {X:Cx}{CX:CXT}{k:Nat}{f C:Addr}{fd:FuncData}{ps ks:List Str}{sp:Sp}{E:XK}{x m:Str}{p pos apos kpos:Pos}{e o:Expr}{es:List Expr}{kws:List Keyword}{te ta:TE}{t tk:TA}{nm:Option Str}
structure KBinds (K:PySem.W.Frag) (fd:FuncData) (ps ks:List Str) (g:List Value->List Value->List Value) (gV:List V->List V->List V):Prop where
 to:∀(s:Shared) (us ws:List Value),K.In s.heap->(g us ws).length=ps.length->BindsTo s fd ⟨us,ks.zip ws⟩ (ps.zip (g us ws))
 rel:∀{vs:List V} {us:List Value} {zs:List V} {ws:List Value},Vals vs us->Vals zs ws->Vals (gV vs zs) (g us ws)
variable {g:List Value->List Value->List Value}{gV:List V->List V->List V}
end
structure FnScope (N P:List Str) (sc:Scope):Prop where
 kind:sc.kind=.function
 co:sc.isCoroutine=false
 gen:sc.isGenerator=false
 nd:N.Nodup
 pre:N.take P.length=P
 par:∀x∈P,sc.names.lookup x=some .local∨sc.names.lookup x=some .cell
 nofree:∀y∈sc.names,y.2≠.free
theorem zeO {kindOf:Str->Option NameKind}{x:Str}:∀{binds:List (Str×Value)} {m:Str->Option Value},(∀v,(x,v)∉binds)->bindL kindOf binds m x=m x
 |[],_,_=>rfl
 | (n,v)::r,m,h=>by
  unfold bindL
  rw[zeO fun w hw=>h w (List.mem_cons_of_mem _ hw)]
  split
  ·have:x≠n:=by rintro rfl;exact h v List.mem_cons_self
   simp[this]
  ·rfl
theorem zeP {kindOf:Str->Option NameKind}{x:Str}:∀{binds:List (Str×Value)} {m:Str->Option Value},(∀v,(x,v)∉binds)->bindC kindOf binds m x=m x
 |[],_,_=>rfl
 | (n,v)::r,m,h=>by
  unfold bindC
  rw[zeP fun w hw=>h w (List.mem_cons_of_mem _ hw)]
  split
  ·rfl
  ·have:x≠n:=by rintro rfl;exact h v List.mem_cons_self
   simp[this]
theorem zeQ {kindOf:Str->Option NameKind}{x:Str}{v:Value}:∀{P:List Str} {vs:List Value} {i:Nat} {m:Str->Option Value},P.Nodup->P[i]? =some x->vs[i]? =some v->kindOf x=some .local->
  bindL kindOf (P.zip vs) m x=some v
 |[],_,_,_,_,h,_,_=>by simp at h
 |_::_,[],_,_,_,_,h,_=>by simp at h
 |p::P,w::vs,0,m,nd,h1,h2,hk=>by
  simp at h1 h2;subst h1;subst h2
  show bindL kindOf ((p,w)::P.zip vs) m p=_
  unfold bindL
  rw[zeO fun v hv=>(List.nodup_cons.mp nd).1 (List.of_mem_zip hv).1,if_pos hk]
  simp
 |p::P,w::vs,i+1,m,nd,h1,h2,hk=>by
  show bindL kindOf ((p,w)::P.zip vs) m x=_
  unfold bindL
  exact zeQ (i:=i) (List.nodup_cons.mp nd).2 (by simpa using h1) (by simpa using h2) hk
theorem zeR {kindOf:Str->Option NameKind}{x:Str}{v:Value}:∀{P:List Str} {vs:List Value} {i:Nat} {m:Str->Option Value},P.Nodup->P[i]? =some x->vs[i]? =some v->kindOf x≠some .local->
  bindC kindOf (P.zip vs) m x=some v
 |[],_,_,_,_,h,_,_=>by simp at h
 |_::_,[],_,_,_,_,h,_=>by simp at h
 |p::P,w::vs,0,m,nd,h1,h2,hk=>by
  simp at h1 h2;subst h1;subst h2
  show bindC kindOf ((p,w)::P.zip vs) m p=_
  unfold bindC
  rw[zeP fun v hv=>(List.nodup_cons.mp nd).1 (List.of_mem_zip hv).1,if_neg hk]
  simp
 |p::P,w::vs,i+1,m,nd,h1,h2,hk=>by
  show bindC kindOf ((p,w)::P.zip vs) m x=_
  unfold bindC
  exact zeR (i:=i) (List.nodup_cons.mp nd).2 (by simpa using h1) (by simpa using h2) hk
noncomputable def start (N:List Str)(vs:List V):St:=vs.map some++List.replicate (N.length-vs.length) none
noncomputable def cxOf (CX:CXT)(P:Program)(w:World)(K:PySem.W.Frag)(mg:Str->Option Value)(base:Heap)(N:List Str)(qual:Str)(scope:Scope)(f:Addr)(cd:Value)(A:Around)(outer:List Env)(s:Shared)(H:Hp)(E:XK):Cx where
 prog:=P
 w:=w
 K:=K
 mg:=mg
 base:=base
 A:=A.deeper (envOfC qual scope s.heap.objs.size f cd)
 N:=N
 s₀:=s
 H₀:=H
 env:=envOfC qual scope s.heap.objs.size f cd
 outer:=outer
 stack:=envOfC qual scope s.heap.objs.size f cd::outer
 ex:=[]
 calm:=true
 fn:=fun _=>true
 pn:=[]
 xe:=fun e s'=>wpAny (model P w) (A.deeper (envOfC qual scope s.heap.objs.size f cd)) (leaving (envOfC qual scope s.heap.objs.size f cd) e) (fun _ s''=>CX outer H s E e s'') (fun e' s''=>CX outer H s E e' s'') s'
theorem zgd {sc:Scope}{n:Nat}{x:Str}(h:sc.names.lookup x=some .cell):∃c,(cellsFrom n sc.names []).lookup x=some c:=by
 have q:=PySem.W.cellsFrom_some sc.names n [] (.inl h)
 exact Option.isSome_iff_exists.mp q
theorem zhB {CX:CXT}{P:Program}{w:World}{K:PySem.W.Frag}{mg:Str->Option Value}{base:Heap}{N ps:List Str}{qual:Str}{scope:Scope}{f:Addr}{cd:Value}{A:Around}{outer:List Env}{s s1:Shared}{H:Hp}{E:XK}{us:List Value}{vs:List V}
  (S:FnScope N ps scope) (hd:A.handled=none) (e0:Env0 P w K mg base A outer s H) (hl:vs.length=ps.length) (r:Vals vs us)
  (x:InCallC s s.heap.objs.size (bindL (envOfC qual scope s.heap.objs.size f cd).kindOf (ps.zip us) fun _=>none) (cellsFrom (s.heap.objs.size+1) scope.names []) (bindC (envOfC qual scope s.heap.objs.size f cd).kindOf (ps.zip us) fun _=>none) s1):
  Inv (cxOf CX P w K mg base N qual scope f cd A outer s H E) [] (start N vs) H s1:=by
 have hpl:ps.length<=N.length:=by have:=congrArg List.length S.pre;rw[List.length_take] at this;lia
 obtain⟨h1,tk,rfl,hk⟩:=x.done
 have noA:∀b:Addr,b∉(cxOf CX P w K mg base N qual scope f cd A outer s H E).ex:=fun b z=>absurd (show b∈([]:List Addr) from z) (by simp)
 refine⟨⟨e0.mod,S.kind,rfl,rfl,Nat.le_refl _,fun y z c h1 h2=> ?_,fun y hy=> ?_,fun y c _ h=> ?_,fun _=>hd,Around.frames_deeper e0.frames,.inr ⟨rfl,rfl⟩,fun b z=>absurd z (noA b),e0.bs,e0.bsz,fun b _ _=>noA b,fun b z=>absurd z (noA b),e0.funs,e0.frf⟩,
  rfl,e0.bare,Un.kept hk,⟨_,x.toInCall.ns,fun i y v h1 h2 h3=> ?_⟩,fun y c h=>⟨_,x.cell y c h⟩,e0.hok.fresh (Nat.le_refl _),fun y c h=> ?_,fun p hp=>absurd (show p∈([]:List (Addr×Obj)) from hp) (by simp),e0.hok.kept hk, ?_⟩
 ·exact name_of_addr x.apart (PySem.mem_of_lookup h1) (PySem.mem_of_lookup h2)
 ·have hy:scope.names.lookup y=some .cell∨scope.names.lookup y=some .free:=hy
  rcases hy with hy|hy
  ·exact zgd hy
  ·exact absurd rfl (S.nofree _ (PySem.mem_of_lookup hy))
 ·exact Nat.le_of_lt (x.above y c (PySem.mem_of_lookup h))
 ·have hi:i<vs.length:=by
   unfold start at h2
   by_cases hi:i<vs.length
   ·exact hi
   ·rw [List.getElem?_append_right (by simpa using hi)] at h2
    rw[List.getElem?_replicate] at h2
    split at h2<;>cases h2
  have ha:vs[i]? =some v:=by
   unfold start at h2
   rw[List.getElem?_append_left (by simpa using hi),List.getElem?_map] at h2
   cases e:vs[i]? with
   |none=>rw[e] at h2;cases h2
   |some a=>rw[e] at h2;cases h2;rfl
  obtain⟨u,hu,rv⟩:=r.get ha
  have hp:ps[i]? =some y:=by
   rw[<-S.pre,List.getElem?_take_of_lt (by lia)];exact h1
  have ndP:ps.Nodup:=by rw[<-S.pre];exact S.nd.sublist (List.take_sublist _ _)
  refine⟨u,rv, ?_⟩
  rcases S.par y (List.mem_of_getElem? hp) with k|k
  ·exact .inl ⟨k,zeQ ndP hp hu k⟩
  ·obtain ⟨c,e⟩:=zgd (n:=s.heap.objs.size+1) k
   refine .inr ⟨.inl k,c,e, ?_⟩
   have q:=x.cell y c e
   rw[zeR ndP hp hu (by show scope.names.lookup y≠_;rw[k];decide)] at q
   exact q
 ·exact e0.hok.fresh (Nat.le_of_lt (x.above y c (PySem.mem_of_lookup h)))
 ·unfold start
  show _=N.length
  rw[List.length_append,List.length_map,List.length_replicate]
  lia
theorem zl0 {CX:CXT}{P:Program}{w:World}{K:PySem.W.Frag}{mg:Str->Option Value}{base:Heap}{k:Nat}{f:Addr}{name qual:Str}{params:Arguments}{body:List Stmt}{scope:Scope}{dV kV doc pm cdv ct oc:Value}{an od:Option Addr}
  {osl:Array (Option Value)} {N ps:List Str} {sp:Sp} (lk:K.lookup f=some ⟨oc,od,.func (PySem.W.fnOf name qual params body scope dV kV doc pm an cdv ct),osl⟩) (hcd:PySem.W.codeIn K cdv qual=true) (S:FnScope N ps scope)
  (len:∀vs H Q E,sp vs H Q E->vs.length=ps.length)
  (hbody:∀(A:Around) (outer:List Env) (s:Shared) (H:Hp) (vs:List V) (Q:VK) (E:XK),Room k (A.deeper (envOfC qual scope s.heap.objs.size f cdv))->sp vs H Q E->
   ∃t,PSs (cxOf CX P w K mg base N qual scope f cdv A outer s H E) body t/\t {nx:=fun _ H'=>Q .non H',rt:=Q} (start N vs) H):
  FnOk P w K mg base CX (k+1) f (PySem.W.fnOf name qual params body scope dV kV doc pm an cdv ct) ps sp:=by
 refine⟨len,fun A outer s H args us vs Q E hr e0 hb r hsp=> ?_⟩
 have hl:=len _ _ _ _ hsp
 have KX:K.In s.heap:=e0.mod.kin.keeps fun b o e=>(e0.bs b o e).1
 have lim:s.heap.NoLimit:=e0.mod.nolimit.keeps fun b o e=>(e0.bs b o e).1
 have hkind:∀y∈ps.zip us,scope.names.lookup y.1=some .local∨(scope.names.lookup y.1=some .cell/\((cellsFrom (s.heap.objs.size+1) scope.names []).lookup y.1).isSome=true):=fun ⟨n,v⟩ hy=>by
  rcases S.par n (List.of_mem_zip hy).1 with q|q
  ·exact .inl q
  ·exact .inr ⟨q,PySem.W.cellsFrom_some _ _ _ (.inl q)⟩
 refine codeAny_call_function hr.depth (KX _ _ lk) rfl S.co S.gen rfl (PySem.W.codeRec_of KX hcd) (hb _ _ _ _ ?_)
 refine wpAny_newFunctionEnv_cells S.kind hkind fun env he s1 x=> ?_
 subst he
 refine⟨lim.keeps x.toInCall.keep,codeAny_func ?_⟩
 obtain⟨t,ht,hq⟩:=hbody A outer s H vs Q E (hr.deeper _) hsp
 have I:Inv (cxOf CX P w K mg base N qual scope f cdv A outer s H E) [] (start N vs) H s1:=zhB S hr.hd e0 hl r x
 refine wpAny_mono (ht [] s1 (start N vs) H _ I hq) (fun fl s' hs=> ?_) fun e s' hs=>hs
 have fin:∀{σ':St} {H':Hp} {v:V} {u:Value},Inv (cxOf CX P w K mg base N qual scope f cdv A outer s H E) [] σ' H' s'->RelV v u->Q v H'->CE outer P w H s Q u s':=
  fun {σ' H' v u} J rv q=>⟨v,H',J.os,J.bare,J.base,J.hok,rv,q⟩
 cases fl with
 |ret u=>
  obtain⟨v,σ',H',J,rv,q⟩:=hs
  exact fin J rv q
 |next=>
  obtain⟨σ',H',J,q⟩:=hs
  exact fin (v:=V.non) (u:=Value.none) J rfl q
 |brk=>
  obtain⟨_,_,_,q⟩:=hs
  exact False.elim q
 |cont=>
  obtain⟨_,_,_,q⟩:=hs
  exact False.elim q
section
variable {X:Cx}{x:Str}{p pos:Pos}{e:Expr}{es:List Expr}{t:TA}{id T:String}{r:List V->Hp->VK->Prop}
noncomputable def tCB (r:List V->Hp->VK->Prop)(t:TA):TE:=fun σ H Q=>t σ H fun vs H1=>r vs H1 Q
theorem zam (hc:zbQ X (.builtin id) r)(hg:Gl X x)(hm:X.mg x=none)(hv:bootBuiltins x=some (.builtin id))(ha:PA X (e::es) t)(hn:x≠ "__name__" :=by decide)(hdb:(x==("__debug__" :Str))=false:=by decide)
  (he:starEach (e::es) X.env=(false,eval e X.env)::starEach es X.env:=by rfl) (hpl:(backTo pos (starEach es X.env)).any (·.1)=false:=by rfl):PE X (.Call (.Name x p) (e::es) [] pos) (tCB r t):=by
 intro pins s σ H Q I h
 refine wpAny_Call_Name_kw (zcT I hg hm hv ?_ hn hdb)
 exact PyProof.Rows.callWith_builtin1 (thn (ha pos pins s σ H _ I h) fun us s1 ⟨vs,H1,I1,r1,q1⟩=>hc pins s1 σ H1 vs us Q I1 r1 q1) he hpl
theorem zaV (hc:zbQ X (.type T) r)(hg:Gl X x)(hm:X.mg x=none)(hv:bootBuiltins x=some (.type T))(ha:PA X (e::es) t)(hn:x≠ "__name__" :=by decide)(hdb:(x==("__debug__" :Str))=false:=by decide)
  (he:starEach (e::es) X.env=(false,eval e X.env)::starEach es X.env:=by rfl) (hpl:(backTo pos (starEach es X.env)).any (·.1)=false:=by rfl):PE X (.Call (.Name x p) (e::es) [] pos) (tCB r t):=by
 intro pins s σ H Q I h
 refine wpAny_Call_Name_kw (zcT I hg hm hv ?_ hn hdb)
 exact PyProof.Rows.callWith_type1 (thn (ha pos pins s σ H _ I h) fun us s1 ⟨vs,H1,I1,r1,q1⟩=>hc pins s1 σ H1 vs us Q I1 r1 q1) he hpl
end
end L2
namespace HT
noncomputable def lexLt:List Int->List Int->Bool
 |[],[]=>false
 |[],_::_=>true
 |_::_,[]=>false
 |x::xs,y::ys=>if x=y then lexLt xs ys else decide (x<y)
theorem lexLt_cons (x y:Int)(xs ys:List Int):lexLt (x::xs) (y::ys)=if x=y then lexLt xs ys else decide (x<y):=rfl
theorem lexLt_cons_nil (x:Int)(xs:List Int):lexLt (x::xs) []=false:=rfl
section
open PySem.SeqAt
open PySem.AutoSeq1 (wpAny_loadPart')
open PySem.MeetsSeq PySem.MeetsSeq2 PySem.MeetsSeq3
end
section
variable {prog:Program}{w:World}{A:Around}{E:Value->Shared->Prop}{s:Shared}
theorem cat_tup {t b:Addr}{vs ws:List Value}{Q:Value->Shared->Prop}(ht:IsTup s.heap t vs.toArray)(hb:IsTup s.heap b ws.toArray)(hv:vs≠[])
  (h1:ws=[]->Q (.ref t) s) (h2:ws≠[]->Q (.ref s.heap.objs.size) {s with heap:=s.heap.push {cls:=.type "tuple",data:=.seq (vs++ws).toArray}})
  (hsz:vs.length+ws.length<=sizeLine):wpAny (model prog w) A (binaryOp .Add (.ref t) (.ref b)) Q E s:=by
 obtain⟨⟨cls,dd,data,sl⟩,ho,hc,n,hd⟩:=id ht
 obtain⟨⟨cls2,dd2,data2,sl2⟩,ho2,hc2,n2,hd2⟩:=id hb
 simp only at hc hd hc2 hd2
 subst hc hd hc2 hd2
 have e:vs.toArray++ws.toArray=(vs++ws).toArray:=by simp
 by_cases hw:ws=[]
 ·exact concat_meets ⟨_,ho,rfl⟩ ⟨_,ho2,rfl⟩ noFill_tuple_add seq_tuple_add PySem.F.slot_tuple_add PySem.F.entry_tuple_add (PySem.F.args_tuple_add_2 _ _)
   (tuple_addW1 t b vs.toArray ws.toArray n n2 dd dd2 sl sl2 (by simpa using hv) (by simp[hw])) ⟨ho,ho2,h1 hw⟩
 ·refine concat_meets ⟨_,ho,rfl⟩ ⟨_,ho2,rfl⟩ noFill_tuple_add seq_tuple_add PySem.F.slot_tuple_add PySem.F.entry_tuple_add (PySem.F.args_tuple_add_2 _ _)
   (tuple_addW2 t b vs.toArray ws.toArray n n2 dd dd2 sl sl2 (by simpa using hv) (by simpa using hw) (by rw[List.size_toArray,List.size_toArray];exact hsz)) ⟨ho,ho2, ?_⟩
  rw[e]
  exact h2 hw
noncomputable def sIx (n d:Nat):Option Int->Nat
 |none=>d
 |some v=>if v<0 then (v+(n:Int)).toNat else min v.toNat n
theorem sIx_none (n d:Nat):sIx n d none=d:=rfl
theorem sIx_nat (n d k:Nat):sIx n d (some (k:Int))=min k n:=by
 show (if (k:Int)<0 then ((k:Int)+(n:Int)).toNat else min (k:Int).toNat n)=min k n
 rw[if_neg (by lia),Int.toNat_natCast]
theorem zl1 (n d:Nat)(hd:d<=n)(o:Option Int):sIx n d o<=n:=by
 cases o with
 |none=>exact hd
 |some v=>
  show (if v<0 then (v+(n:Int)).toNat else min v.toNat n)<=n
  by_cases hv:v<0
  ·rw[if_pos hv];lia
  ·rw[if_neg hv];exact Nat.min_le_right _ _
theorem zhC (v:Int)(n d:Nat):(if v<0 then max (v+(n:Int)) 0 else min v (n:Int))=((sIx n d (some v):Nat):Int):=by
 show (if v<0 then max (v+(n:Int)) 0 else min v (n:Int))=(((if v<0 then (v+(n:Int)).toNat else min v.toNat n):Nat):Int)
 by_cases hv:v<0
 ·simp only[if_pos hv];lia
 ·simp only[if_neg hv];lia
theorem zgQ (lo hi:Option Int)(n:Nat):Builtin.Slice.sliceAdjust lo hi 1 (n:Int)=(((sIx n 0 lo:Nat):Int),((sIx n n hi:Nat):Int)):=by
 have h1:¬((1:Int)<0):=by lia
 unfold Builtin.Slice.sliceAdjust
 simp only[h1,if_false]
 refine Prod.ext ?_ ?_
 ·cases lo with
  |none=>rfl
  |some v=>exact zhC v n 0
 ·cases hi with
  |none=>rfl
  |some v=>exact zhC v n n
theorem zgR (i j:Nat):Builtin.Slice.slicePlaces (i:Int) (j:Int) 1=j-i:=by
 unfold Builtin.Slice.slicePlaces
 have h1:(1:Int)>0:=by lia
 simp only[h1,if_true,Int.ediv_one]
 split<;>lia
theorem zdK {v:Value}{o:Option Int}{Q:Option Int->Shared->Prop}(p:IsPart v o)(h:Q o s):wpAny (model prog w) A (Builtin.Slice.slicePartIndex v) Q E s:=by
 cases p with
 |none=>exact slicePart_none h
 |int i t=>exact slicePart_int h
theorem sliceApplied_gen {sl:Addr}{vl vu:Value}{lo hi:Option Int}{n:Nat}{Q:Int×Int×Nat->Shared->Prop}(hs:s.heap.IsSliceOf sl vl vu .none)(pl:IsPart vl lo)(pu:IsPart vu hi)
  (h:Q (((sIx n 0 lo:Nat):Int),1,sIx n n hi-sIx n 0 lo) s):wpAny (model prog w) A (Builtin.Slice.sliceApplied (.ref sl) (pure (n:Int))) Q E s:=by
 obtain⟨os,hos,hcs,hds⟩:=id hs
 unfold Builtin.Slice.sliceApplied Builtin.Slice.sliceFields
 refine wpAny_bind (wpAny_bind (wpAny_field hos hds (x:=vl) rfl (wpAny_bind (wpAny_field hos hds (x:=vu) rfl (wpAny_bind (wpAny_field hos hds (x:=.none) rfl (wpAny_pure ?_)))))))
 refine wpAny_bind (slicePart_none ?_)
 show wpAny _ _ (if ((1:Int)==0)=true then _ else _) _ _ s
 rw[if_neg (by decide)]
 refine wpAny_bind (zdK pl (wpAny_bind (zdK pu (wpAny_bind (wpAny_pure ?_)))))
 show wpAny _ _ (match Builtin.Slice.sliceAdjust lo hi 1 (n:Int) with|(lo,hi)=>pure (lo,(1:Int),Builtin.Slice.slicePlaces lo hi 1)) _ _ s
 rw[zgQ lo hi n]
 show wpAny _ _ (pure (((sIx n 0 lo:Nat):Int),(1:Int),Builtin.Slice.slicePlaces ((sIx n 0 lo:Nat):Int) ((sIx n n hi:Nat):Int) 1)) _ _ s
 rw[zgR]
 exact wpAny_pure h
theorem zjc (xs:Array Value)(i k:Nat):((List.range k).filterMap fun (m:Nat)=>xs[((i:Int)+(m:Int)*1).toNat]?).toArray=((xs.toList.drop i).take k).toArray:=by
 have e:(fun (m:Nat)=>xs[((i:Int)+(m:Int)*1).toNat]?)=fun m=>xs[i+m]? :=by
  funext m
  have:((i:Int)+(m:Int)*1).toNat=i+m:=by lia
  rw[this]
 rw[e]
 have:=pick_run xs i k
 rw[List.filterMap_map] at this
 have e2:((fun x=>xs[x]?)∘fun x=>i+x)=fun m=>xs[i+m]? :=rfl
 rw[e2] at this
 rw[this]
theorem getItem_tuple_cut {t sl:Addr}{items:Array Value}{vl vu:Value}{lo hi:Option Int}{Q:Value->Shared->Prop}(ht:IsTup s.heap t items)(hs:s.heap.IsSliceOf sl vl vu .none)(pl:IsPart vl lo)(pu:IsPart vu hi)
  (hw:¬(sIx items.size 0 lo=0/\sIx items.size items.size hi=items.size))
  (h:Q (.ref s.heap.objs.size) {s with heap:=s.heap.push {cls:=.type "tuple",data:=.seq ((items.toList.drop (sIx items.size 0 lo)).take (sIx items.size items.size hi-sIx items.size 0 lo)).toArray}})
  (hsz:items.size<=sizeLine):wpAny (model prog w) A (getItem (.ref t) (.ref sl)) Q E s:=by
 have htake:sizeOk (.seq ((items.toList.drop (sIx items.size 0 lo)).take (sIx items.size items.size hi-sIx items.size 0 lo)).toArray):=by
  show ((items.toList.drop (sIx items.size 0 lo)).take (sIx items.size items.size hi-sIx items.size 0 lo)).toArray.size<=sizeLine
  rw[List.size_toArray,List.length_take,List.length_drop,Array.length_toList]
  lia
 have hj:sIx items.size items.size hi<=items.size:=zl1 _ _ (Nat.le_refl _) hi
 obtain⟨os,hos,hcs,hds⟩:=id hs
 have hTs:s.TypeIs (.ref sl) "slice" :=⟨os,hos,hcs⟩
 unfold getItem
 try with_reducible refine wpAny_holding ?_
 first|refine wpAny_bind (wpAny_pure ?_)|skip
 refine wpAny_bind (wpAny_sequenceKey ht.typeIs (by decide) ?_)
 refine wpAny_bind (wpAny_callSpecial?_slot (name:=Str.ofString "__getitem__") ht.typeIs PyProof.Rows.slot_tuple_getitem
  (wpAny_call_entry PyProof.Rows.slot_tuple_getitem ht.typeIs entry_tuple_getitem ?_ (args_tuple_getitem _ _)))
 show wpAny _ _ (Builtin.Tuple.tupleItemsOf (.ref t) >>= _) _ _ s
 refine wpAny_bind (tupleItemsOf_ ht ?_)
 refine wpAny_bind (wpAny_typeOf hTs ?_)
 rw[if_pos (by decide)]
 refine wpAny_bind (sliceApplied_gen hs pl pu ?_)
 have hno:¬((((sIx items.size 0 lo:Nat):Int)==0&&(1:Int)==1&&(sIx items.size items.size hi-sIx items.size 0 lo)==items.size)=true):=by
  intro q
  rw[Bool.and_eq_true,Bool.and_eq_true] at q
  have q1:((sIx items.size 0 lo:Nat):Int)=0:=eq_of_beq q.1.1
  have q2:sIx items.size items.size hi-sIx items.size 0 lo=items.size:=eq_of_beq q.2
  exact hw ⟨by lia,by lia⟩
 show wpAny _ _ (if (((sIx items.size 0 lo:Nat):Int)==0&&(1:Int)==1&&(sIx items.size items.size hi-sIx items.size 0 lo)==items.size)=true then _ else _) _ _ s
 rw[if_neg hno,zjc]
 first
  |exact wpAny_bind (m:=Builtin.Tuple.tupleExact _) (wpAny_newObj_type (wpAny_pure ⟨_,rfl,wpAny_pure h⟩) htake)
  |exact wpAny_bind (m:=Builtin.Tuple.tupleExact _) (wpAny_newObj_type (wpAny_bind (wpAny_pure (wpAny_pure ⟨_,rfl,wpAny_pure h⟩))) htake)
  |exact wpAny_bind (wpAny_bind (m:=Builtin.Tuple.tupleExact _) (wpAny_newObj_type (wpAny_pure (wpAny_pure ⟨_,rfl,wpAny_pure h⟩)) htake))
  |exact wpAny_bind (wpAny_bind (m:=Builtin.Tuple.tupleExact _) (wpAny_newObj_type (wpAny_pure ⟨_,rfl,wpAny_pure h⟩) htake))
end
end HT
namespace L2
noncomputable abbrev TO:=St->Hp->(Option Int->Hp->Prop)->Prop
noncomputable def PO (X:Cx)(e:Option Expr)(t:TO):Prop:=
 ∀(pins:List (Addr×Obj)) (s:Shared) (σ:St) (H:Hp) (Q:Option Int->Hp->Prop),Inv X pins σ H s->t σ H Q->
  wpAny (model X.prog X.w) X.A (evalPart e X.env) (fun u s'=>∃o H',Inv X pins σ H' s'/\IsPart u o/\Q o H') X.xe s
noncomputable def zkT:TO:=fun _ H Q=>Q none H
noncomputable def zmS (t:TE):TO:=fun σ H Q=>t σ H fun x H1=>∃i,x=.int i/\Q (some i) H1
theorem zbs {ns:List Int}:∀{us:List Value},Vals (ns.map V.int) us->IntsAre us ns:=by
 induction ns with
 |nil=>intro us r;rw[List.map_nil] at r;cases r;exact .nil
 | cons n ns ih=>
  intro us r
  rw[List.map_cons] at r
  cases r with
  |cons r1 r2=>
   obtain⟨t,e⟩:=r1
   subst e
   exact .cons n t (ih r2)
section
variable {X:Cx}{e:Expr}{te:TE}{lo hi:Option Expr}{tl th:TO}{pos p2:Pos}
theorem zdd:PO X none zkT:=by
 intro pins s σ H Q I h
 rw[evalPart_none]
 exact wpAny_pure ⟨none,H,I,.none,h⟩
theorem zde (h:PE X e te):PO X (some e) (zmS te):=by
 intro pins s σ H Q I hw
 rw[evalPart_some]
 refine thn (h pins s σ H _ I hw) fun u s1 zq=> ?_
 obtain⟨x,H1,I1,r1,q1⟩:=zq
 obtain⟨i,rfl,q⟩:=q1
 obtain⟨t,rfl⟩:=r1
 exact⟨some i,H1,I1,.int i t,q⟩
noncomputable def SlR (X:Cx)(r:V->Option Int->Option Int->Hp->VK->Prop):Prop:=
 ∀(pins:List (Addr×Obj)) (s:Shared) (σ:St) (H:Hp) (x:V) (v vl vu:Value) (lo hi:Option Int) (sl:Addr) (Q:VK),Inv X pins σ H s->RelV x v->s.heap.IsSliceOf sl vl vu .none->IsPart vl lo->IsPart vu hi->r x lo hi H Q->
  ∃T id,typeLookup (.type T) "__getitem__" =pure (some (.builtin id))/\s.TypeIs v T/\wpAny (model X.prog X.w) X.A (getItem v (.ref sl)) (EP X pins σ Q) X.xe s
noncomputable def tSl (r:V->Option Int->Option Int->Hp->VK->Prop)(te:TE)(tl th:TO):TE:=fun σ H Q=>te σ H fun x H1=>tl σ H1 fun l H2=>th σ H2 fun u H3=>r x l u H3 Q
theorem zct {r:V->Option Int->Option Int->Hp->VK->Prop}(hr:SlR X r)(he:PE X e te)(hl:PO X lo tl)(hu:PO X hi th):PE X (.Subscript e (.Slice lo hi none p2) pos) (tSl r te tl th):=by
 intro pins s σ H Q I h
 refine Subscript_ (thn (he pins s σ H _ I h) fun v s1 zq=> ?_)
 obtain⟨x,H1,I1,r1,q1⟩:=zq
 refine wpAny_Slice (thn (hl pins s1 σ H1 _ I1 q1) fun vl s2 ⟨l,H2,I2,pl,q2⟩=>thn (hu pins s2 σ H2 _ I2 q2) fun vu s3 ⟨u,H3,I3,pu,q3⟩=> ?_)
 rw[evalPart_none]
 refine wpAny_pure ?_
 have I4:Inv X pins σ H3 {s3 with heap:=s3.heap.push {cls:=.type "slice",data:=.fields #[vl,vu,.none]}}:=I3.kept (t':=s3.toks) fun b ob q=>Heap.get?_push_of_some _ q
 obtain⟨T,id,hT,ht,hg⟩:=hr pins {s3 with heap:=s3.heap.push {cls:=.type "slice",data:=.fields #[vl,vu,.none]}} σ H3 x v vl vu l u s3.heap.objs.size Q I4 r1 (Heap.IsSliceOf.new ..) pl pu q3
 show wpAny (model X.prog X.w) X.A (subscriptTail e (.Slice lo hi none p2) v (.ref s3.heap.objs.size)) (EP X pins σ Q) X.xe {s3 with heap:=s3.heap.push {cls:=.type "slice",data:=.fields #[vl,vu,.none]}}
 exact tail_any (ops:=[.ref s3.heap.objs.size,v]) ht hT hg (by with_unfolding_all rfl)
noncomputable def cutV (xs:List V)(lo hi:Option Int):List V:=(xs.drop (HT.sIx xs.length 0 lo)).take (HT.sIx xs.length xs.length hi-HT.sIx xs.length 0 lo)
theorem zdf (xs:List V)(lo hi:Option Int):(cutV xs lo hi).length<=xs.length:=by
 unfold cutV
 rw[List.length_take,List.length_drop]
 lia
noncomputable def rSlT (K:PySem.W.Frag):V->Option Int->Option Int->Hp->VK->Prop:=fun x lo hi H Q=>∃a xs,x=.ref a/\SqT K H a xs/\
 ¬(HT.sIx xs.length 0 lo=0/\HT.sIx xs.length xs.length hi=xs.length)/\∀p,H p=none->Q (.ref p) (upd H p (.tup (cutV xs lo hi)))
theorem zkg:SlR X (rSlT X.K):=by
 intro pins s σ H x v vl vu lo hi sl Q I rx hs pl pu h
 obtain⟨a,xs,rfl,hx,hw,q⟩:=h
 cases rx
 obtain⟨its,r,ht,hz⟩:=I.tuple hx
 have hlen:its.toArray.size=xs.length:=by rw[List.size_toArray];exact r.length.symm
 refine⟨"tuple",_,PyProof.Rows.slot_tuple_getitem.lookup,ht.typeIs, ?_⟩
 refine HT.getItem_tuple_cut ht hs pl pu (by rw[hlen];exact hw) ?_ (by rw[hlen];exact hz)
 rw[hlen]
 refine⟨.ref s.heap.objs.size,_,I.laid (t':=s.toks) (o:=.tup (cutV xs lo hi)) (fun b ob q=>Heap.get?_push_of_some _ q) (Nat.le_refl _) ?_,rfl,q _ (I.hok.fresh (Nat.le_refl _))⟩
 exact⟨Nat.le_trans (zdf xs lo hi) hz,_,(r.drop (HT.sIx xs.length 0 lo)).take (HT.sIx xs.length xs.length hi-HT.sIx xs.length 0 lo),PTup.new⟩
noncomputable def zmT (K:PySem.W.Frag):R2:=fun x y H Q=>∃a b xs ys,x=.ref a/\y=.ref b/\SqT K H a xs/\SqT K H b ys/\xs≠[]/\xs.length+ys.length<=sizeLine/\
 (ys=[]->Q (.ref a) H)/\(ys≠[]->∀p,H p=none->Q (.ref p) (upd H p (.tup (xs++ys))))
theorem Vals.nil_iff {xs:List V}{us:List Value}(r:Vals xs us):us=[]↔xs=[]:=by
 cases r with
 |nil=>simp
 |cons _ _=>simp
theorem zkU:OpR X (binaryOp .Add) (zmT X.K):=by
 intro pins s σ H x y v u Q I rx ry h
 obtain⟨a,b,xs,ys,rfl,rfl,ha,hb,hx,hz,q1,q2⟩:=h
 cases rx
 cases ry
 obtain⟨its,r1,p1,_⟩:=I.tuple ha
 obtain⟨its2,r2,p2,_⟩:=I.tuple hb
 refine HT.cat_tup p1 p2 (fun z=>hx (r1.nil_iff.mp z)) (fun z=>⟨.ref a,H,I,rfl,q1 (r2.nil_iff.mp z)⟩) (fun z=> ?_) (by rw[<-r1.length,<-r2.length];exact hz)
 refine⟨.ref s.heap.objs.size,_,I.laid (t':=s.toks) (o:=.tup (xs++ys)) (fun b ob q=>Heap.get?_push_of_some _ q) (Nat.le_refl _) ?_,rfl,q2 (fun w=>z (r2.nil_iff.mpr w)) _ (I.hok.fresh (Nat.le_refl _))⟩
 exact⟨by rw[List.length_append];exact hz,_,r1.append r2,PTup.new⟩
end
noncomputable def ixN (n:Nat)(i:Int):Option Nat:=if 0<=i then (if i<n then some i.toNat else none) else if-(n:Int)<=i then some (i+n).toNat else none
noncomputable def atI {α:Type}(xs:List α)(i:Int):Option α:=(ixN xs.length i).bind fun j=>xs[j]?
theorem zhD {n:Nat}{i:Int}{j:Nat}(h:ixN n i=some j):seqIndex? i n=some j/\j<n/\-(n:Int)<=i/\i<n:=by
 unfold ixN at h
 by_cases h0:0<=i
 ·rw [if_pos h0] at h
  by_cases h1:i<n
  ·rw [if_pos h1] at h
   have e:i.toNat=j:=Option.some.inj h
   exact⟨by rw[seqIndex_of h0 h1,e],by lia,by lia,h1⟩
  ·rw[if_neg h1] at h;cases h
 ·rw [if_neg h0] at h
  by_cases h1:-(n:Int)<=i
  ·rw [if_pos h1] at h
   have e:(i+n).toNat=j:=Option.some.inj h
   exact⟨by rw[seqIndex_neg (by lia) h1,e],by lia,h1,by lia⟩
  ·rw[if_neg h1] at h;cases h
theorem zhE {α:Type}{xs:List α}{i:Int}{v:α}(h:atI xs i=some v):∃j,seqIndex? i xs.length=some j/\xs[j]? =some v/\j<xs.length/\-(xs.length:Int)<=i/\i<xs.length:=by
 unfold atI at h
 cases e:ixN xs.length i with
 |none=>rw[e] at h;cases h
 |some j=>
  rw[e] at h
  obtain⟨h1,h2,h3,h4⟩:=zhD e
  exact⟨j,h1,h,h2,h3,h4⟩
theorem zav {α:Type}{xs:List α}{j:Nat}{v:α}(h:xs[j]? =some v):atI xs (j:Int)=some v:=by
 have hj:j<xs.length:=(List.getElem?_eq_some_iff.mp h).1
 have e:ixN xs.length (j:Int)=some j:=by
  unfold ixN
  rw[if_pos (by lia),if_pos (by lia)];simp
 unfold atI;rw[e];exact h
noncomputable def zkV (b:Expr):Prop:=∀o i,subscripted b false o i=operate [o,i] (getItem o i)
noncomputable def IxR (X:Cx)(r:R2):Prop:=
 ∀(value slice:Expr) (pins:List (Addr×Obj)) (s:Shared) (σ:St) (H:Hp) (x y:V) (v u:Value) (Q:VK),Inv X pins σ H s->RelV x v->RelV y u->r x y H Q->
  subscripted slice false v u=operate [v,u] (getItem v u)->wpAny (model X.prog X.w) X.A (subscriptTail value slice v u) (EP X pins σ Q) X.xe s
noncomputable def MtR (X:Cx)(id:String)(r:V->List V->Hp->VK->Prop):Prop:=
 ∀(pins:List (Addr×Obj)) (s:Shared) (σ:St) (H:Hp) (x:V) (xs:List V) (v:Value) (us:List Value) (Q:VK),Inv X pins σ H s->RelV x v->Vals xs us->r x xs H Q->
  wpAny (model X.prog X.w) X.A (call (.builtin id) (v::us)) (EP X pins σ Q) X.xe s
section
variable {X:Cx}{a b:Expr}{ta tb:TE}{pos:Pos}
theorem zaT {r:R2}(hr:IxR X r)(ha:PE X a ta)(hb:PE X b tb)(hs:zkV b):PE X (.Subscript a b pos) (tOp r ta tb):=by
 intro pins s σ H Q I h
 exact Subscript_ (binT ha hb I h fun v u s2 x y H2 I2 rx ry q=>hr a b pins s2 σ H2 x y v u Q I2 rx ry q (hs _ _))
noncomputable def rIxL (K:PySem.W.Frag):R2:=fun x y H Q=>∃p xs i v,x=.ref p/\y=.int i/\SqL K H p xs/\atI xs i=some v/\Q v H
noncomputable def rIxT (K:PySem.W.Frag):R2:=fun x y H Q=>∃p xs i v,x=.ref p/\y=.int i/\SqT K H p xs/\atI xs i=some v/\Q v H
theorem zbe:IxR X (rIxL X.K):=by
 intro value slice pins s σ H x y v u Q I rx ry h hs
 obtain⟨p,xs,i,z,rfl,rfl,hq,he,q⟩:=h
 cases rx
 obtain⟨t,rfl⟩:=ry
 obtain⟨its,r,pl,hz⟩:=I.list hq
 obtain⟨j,h1,h2,h3,h4,h5⟩:=zhE he
 obtain⟨w,ew,rw'⟩:=r.get h2
 have hl:=r.length
 have hn:=zdJ
 have fin:EP X pins σ Q w s:=⟨z,H,I,rw',q⟩
 by_cases h0:0<=i
 ·have hj:i.toNat=j:=by
   rw[seqIndex_of h0 h5] at h1
   exact Option.some.inj h1
  exact item_listR pl.isList h0 (by lia) (by rw[hj];simpa using ew) fin hs
 ·have hj:(i+(its.toArray.size:Int)).toNat=j:=by
   rw[seqIndex_neg (by lia) h4] at h1
   rw[List.size_toArray,<-hl]
   exact Option.some.inj h1
  exact subscriptTail_builtinR (x:=w) pl.isList.typeIs slot_list_getitem.lookup
   (wpAny_getItem_list_neg (Q:=fun r s'=>r=w/\EP X pins σ Q r s') pl.isList (by lia) (by rw[List.size_toArray]<;>lia) (by lia) (by rw[hj];simpa using ew) ⟨rfl,fin⟩) hs
theorem zbE:IxR X (rIxT X.K):=by
 intro value slice pins s σ H x y v u Q I rx ry h hs
 obtain⟨p,xs,i,z,rfl,rfl,hq,he,q⟩:=h
 cases rx
 obtain⟨t,rfl⟩:=ry
 obtain⟨its,r,pl,hz⟩:=I.tuple hq
 obtain⟨j,h1,h2,h3,h4,h5⟩:=zhE he
 obtain⟨w,ew,rw'⟩:=r.get h2
 have hl:=r.length
 have hn:=zdJ
 have fin:EP X pins σ Q w s:=⟨z,H,I,rw',q⟩
 exact subscriptTail_builtinR (x:=w) pl.typeIs slot_tuple_getitem.lookup
  (getItem_tuple (j:=j) (Q:=fun r s'=>r=w/\EP X pins σ Q r s') pl (by lia) (by lia) (by rw[List.size_toArray,<-hl];exact h1) (by simpa using ew) ⟨rfl,fin⟩) hs
theorem zgS (its:List Value)(n j:Nat)(u:Value):Obj.mapSeq (·.setIfInBounds j u) {cls:=.type "list",data:=.seq its.toArray n}={cls:=.type "list",data:=.seq (its.set j u).toArray n}:=by
 simp[Obj.mapSeq]
theorem Inv.lst {pins:List (Addr×Obj)}{σ:St}{H:Hp}{s:Shared}{p:Addr}{xs:List V}(I:Inv X pins σ H s)(h:H p=some (.lst xs)):
  ∃(its:List Value) (n:Nat),Vals xs its/\s.heap.get? p=some {cls:=.type "list",data:=.seq its.toArray n}/\xs.length<=sizeLine:=by
 obtain⟨z,its,n,r,e⟩:=I.hok p _ h
 exact⟨its,n,r,e,z⟩
theorem Inv.lstUpd {pins:List (Addr×Obj)}{σ:St}{H:Hp}{s:Shared}{p:Addr}{xs ys:List V}{its its':List Value}{n n':Nat}{f:Obj->Obj}(I:Inv X pins σ H s)(h:H p=some (.lst xs))
  (ho:s.heap.get? p=some {cls:=.type "list",data:=.seq its.toArray n}) (hf:f {cls:=.type "list",data:=.seq its.toArray n}={cls:=.type "list",data:=.seq its'.toArray n'}) (r:Vals ys its') (hz:ys.length<=sizeLine) (t:Nat):
  Inv X pins σ (upd H p (.lst ys)) {s with heap:=s.heap.update p f,toks:=t}:=by
 have e:(s.heap.update p f).get? p=some {cls:=.type "list",data:=.seq its'.toArray n'}:=by
  rw[Heap.get?_update_self f ho (by rw[hf]<;>rfl),hf]
 refine I.write (x:=p) (e:=p) (by rw[h];trivial) (.inl rfl) (fun b u hb q=>(Heap.get?_update_other _ _ (Ne.symm hb)).trans q) ⟨_,e⟩ ?_
 exact⟨hz,its',n',r,e⟩
noncomputable def zmU:V->V->V->Hp->(Hp->Prop)->Prop:=fun o i v H Q=>∃p xs k j,o=.ref p/\i=.int k/\H p=some (.lst xs)/\ixN xs.length k=some j/\Q (upd H p (.lst (xs.set j v)))
theorem zbM:PSet X zmU:=by
 intro pins s σ H o i v ov iv u Q I ro ri rv h
 obtain⟨p,xs,k,j,rfl,rfl,hp,hj,q⟩:=h
 cases ro
 obtain⟨t,rfl⟩:=ri
 obtain⟨its,n,r,ho,hz⟩:=I.lst hp
 obtain⟨h1,h2,h3,h4⟩:=zhD hj
 have hl:=r.length
 have hn:=zdJ
 have I':Inv X pins σ (upd H p (.lst (xs.set j v))) {s with heap:=s.heap.update p (Obj.mapSeq (·.setIfInBounds j u))}:=
  I.lstUpd hp ho (zgS its n j u) (r.set rv j) (by rw[List.length_set];exact hz) s.toks
 by_cases h0:0<=k
 ·have hk:k.toNat=j:=by
   rw[seqIndex_of h0 h4] at h1
   exact Option.some.inj h1
  exact PySem.W.ki_setAt ho h0 (by lia) (by rw[List.size_toArray,<-hl];exact h4) (by rw[hk];exact⟨_,I',q⟩)
 ·have hk:(k+(its.toArray.size:Int)).toNat=j:=by
   rw[seqIndex_neg (by lia) h3] at h1
   rw[List.size_toArray,<-hl]
   exact Option.some.inj h1
  exact PySem.W.ki_setBack ho (by lia) (by rw[List.size_toArray,<-hl];exact h3) (by lia) (by rw[hk];exact⟨_,I',q⟩)
theorem zeS (lo hi:Option Int)(n:Nat):(sliceBounds lo hi none n).1=((HT.sIx n 0 lo:Nat):Int)/\(sliceBounds lo hi none n).2.1=((HT.sIx n n hi:Nat):Int)/\(sliceBounds lo hi none n).2.2=1:=by
 refine⟨?_, ?_,rfl⟩
 ·cases lo with
  |none=>simp[sliceBounds,HT.sIx]
  |some i=>
   simp only[sliceBounds,HT.sIx,Option.getD_none,show (1:Int)>0 by decide,if_true]
   by_cases h:i<0
   ·simp only[h,if_true]<;>lia
   ·simp only[h,if_false]<;>lia
 ·cases hi with
  |none=>simp[sliceBounds,HT.sIx]
  |some i=>
   simp only[sliceBounds,HT.sIx,Option.getD_none,show (1:Int)>0 by decide,if_true]
   by_cases h:i<0
   ·simp only[h,if_true]<;>lia
   ·simp only[h,if_false]<;>lia
theorem zd0 (its:List Value)(lo hi:Option Int):slicePick its.toArray lo hi none=((its.drop (HT.sIx its.length 0 lo)).take (HT.sIx its.length its.length hi-HT.sIx its.length 0 lo)).toArray:=by
 obtain⟨h1,h2,h3⟩:=zeS lo hi its.toArray.size
 unfold slicePick
 rw[h1,h2,h3]
 simp only[sliceRange_one,pick_run,List.size_toArray]<;>rfl
noncomputable def rSlL (K:PySem.W.Frag):V->Option Int->Option Int->Hp->VK->Prop:=fun x lo hi H Q=>∃a xs,x=.ref a/\SqL K H a xs/\∀p,H p=none->Q (.ref p) (upd H p (.lst (cutV xs lo hi)))
theorem zkW:SlR X (rSlL X.K):=by
 intro pins s σ H x v vl vu lo hi sl Q I rx hs pl pu h
 obtain⟨a,xs,rfl,hx,q⟩:=h
 cases rx
 obtain⟨its,r,ht,hz⟩:=I.list hx
 have hlen:=r.length
 refine⟨"list",_,slot_list_getitem.lookup,ht.isList.typeIs, ?_⟩
 refine wpAny_getItem_list_slice ht.isList hs pl pu .none (by simp) ?_ (by rw[List.size_toArray]<;>lia)
 rw[zd0,<-hlen]
 refine⟨.ref s.heap.objs.size,_,I.laid (t':=s.toks) (o:=.lst (cutV xs lo hi)) (fun b ob q=>Heap.get?_push_of_some _ q) (Nat.le_refl _) ?_,rfl,q _ (I.hok.fresh (Nat.le_refl _))⟩
 exact⟨Nat.le_trans (zdf xs lo hi) hz,_,0,(r.drop (HT.sIx xs.length 0 lo)).take (HT.sIx xs.length xs.length hi-HT.sIx xs.length 0 lo),Heap.get?_push_size _ rfl⟩
noncomputable def zcH:V->Bool
 | .non=>true
 | .bl _=>true
 | .int _=>true
 | .str _=>true
 |_=>false
noncomputable def eqV:V->V->Bool
 | .non,.non=>true
 | .bl a,.bl b=>a==b
 | .bl a,.int b=>(if a then 1 else 0)==b
 | .int a,.bl b=>a==(if b then 1 else 0)
 | .int a,.int b=>a==b
 | .str a,.str b=>a==b
 |_,_=>false
theorem zl2 {A:Around}{s:Shared}{y x:V}{u v:Value}(ry:RelV y u)(rx:RelV x v)(fy:zcH y=true)(fx:zcH x=true):SeqAt.EqAt A s u v (eqV y x):=by
 cases y with
 |non=>
  cases ry
  cases x with
  |non=>cases rx;exact SeqAt.EqAt.same _
  |bl b=>cases rx;exact SeqAt.EqAt.none_bool b
  |int b=>obtain⟨t,rfl⟩:=rx;exact SeqAt.EqAt.none_int b t
  |str b=>obtain⟨t,rfl⟩:=rx;exact SeqAt.EqAt.none_str b t
  |_=>exact absurd (show false=true from fx) Bool.false_ne_true
 |bl a=>
  cases ry
  cases x with
  |non=>cases rx;exact SeqAt.EqAt.bool_none a
  |bl b=>cases rx;exact SeqAt.EqAt.bool_bool a b
  |int b=>obtain⟨t,rfl⟩:=rx;exact SeqAt.EqAt.bool_int a b t
  |str b=>obtain⟨t,rfl⟩:=rx;exact SeqAt.EqAt.bool_str a b t
  |_=>exact absurd (show false=true from fx) Bool.false_ne_true
 |int a=>
  obtain⟨t',rfl⟩:=ry
  cases x with
  |non=>cases rx;exact SeqAt.EqAt.int_none a t'
  |bl b=>cases rx;exact SeqAt.EqAt.int_bool a t' b
  |int b=>obtain⟨t,rfl⟩:=rx;exact SeqAt.EqAt.int_int a t' b t
  |str b=>obtain⟨t,rfl⟩:=rx;exact SeqAt.EqAt.int_str a t' b t
  |_=>exact absurd (show false=true from fx) Bool.false_ne_true
 |str a=>
  obtain⟨t',rfl⟩:=ry
  cases x with
  |non=>cases rx;exact SeqAt.EqAt.str_none a t'
  |bl b=>cases rx;exact SeqAt.EqAt.str_bool a t' b
  |int b=>obtain⟨t,rfl⟩:=rx;exact SeqAt.EqAt.str_int a t' b t
  |str b=>obtain⟨t,rfl⟩:=rx;exact SeqAt.EqAt.str_str a t' b t
  |_=>exact absurd (show false=true from fx) Bool.false_ne_true
 |_=>exact absurd (show false=true from fy) Bool.false_ne_true
noncomputable def eqU (x:V)(u:Value):Bool:=match u with
 | .none=>eqV .non x
 | .bool b=>eqV (.bl b) x
 | .int i _=>eqV (.int i) x
 | .str z _=>eqV (.str z) x
 |_=>false
theorem zkh {x y:V}{u:Value}(r:RelV y u)(f:zcH y=true):eqU x u=eqV y x:=by
 cases y with
 |non=>cases r;rfl
 |bl b=>cases r;rfl
 |int i=>obtain⟨t,rfl⟩:=r;rfl
 |str z=>obtain⟨t,rfl⟩:=r;rfl
 |_=>exact absurd (show false=true from f) Bool.false_ne_true
theorem zdg {x:V}:∀{xs:List V} {us:List Value},Vals xs us->xs.all zcH=true->us.any (eqU x)=xs.any fun y=>eqV y x
 |_,_,.nil,_=>rfl
 |y::xs,u::us,.cons r t,f=>by
  rw[List.all_cons,Bool.and_eq_true] at f
  rw[List.any_cons,List.any_cons,zkh r f.1,zdg t f.2]
theorem zcu {A:Around}{s:Shared}{x:V}{v:Value}(rx:RelV x v)(fx:zcH x=true):∀{xs:List V} {us:List Value},Vals xs us->xs.all zcH=true->∀u∈us,SeqAt.EqAt A s u v (eqU x u)
 |_,_,.nil,_=>fun u hu=>by cases hu
 |y::xs,u::us,.cons r t,f=>fun u' hu=>by
  rw[List.all_cons,Bool.and_eq_true] at f
  rcases List.mem_cons.mp hu with rfl|hu
  ·rw[zkh r f.1];exact zl2 r rx f.1 fx
  ·exact zcu rx fx t f.2 u' hu
noncomputable def inV (x:V)(xs:List V):Bool:=xs.any fun y=>eqV y x
noncomputable def rIn (K:PySem.W.Frag)(neg:Bool):R2:=fun x y H Q=>∃p xs,y=.ref p/\(SqL K H p xs∨SqT K H p xs)/\zcH x=true/\xs.all zcH=true/\Q (.bl (if neg then !inV x xs else inV x xs)) H
theorem zdh:OpR X (compareOp .In) (rIn X.K false):=by
 intro pins s σ H x y v u Q I rx ry h
 obtain⟨p,xs,rfl,hq,fx,fs,q⟩:=h
 cases ry
 rcases hq with hq|hq
 ·obtain ⟨its,r,pl,hz⟩:=I.list hq
  refine SeqAt.in_listAt (eqU x) pl.isList (fun w hw=>zcu rx fx r fs w (by simpa using hw)) ⟨.bl _,H,I,rfl, ?_⟩
  rw[show its.toArray.any (eqU x)=its.any (eqU x) by simp,zdg r fs]
  exact q
 ·obtain ⟨its,r,pl,hz⟩:=I.tuple hq
  refine SeqAt.in_tupleAt (eqU x) pl (fun w hw=>zcu rx fx r fs w (by simpa using hw)) ⟨.bl _,H,I,rfl, ?_⟩
  rw[show its.toArray.any (eqU x)=its.any (eqU x) by simp,zdg r fs]
  exact q
theorem zeT:OpR X (compareOp .NotIn) (rIn X.K true):=by
 intro pins s σ H x y v u Q I rx ry h
 obtain⟨p,xs,rfl,hq,fx,fs,q⟩:=h
 cases ry
 rcases hq with hq|hq
 ·obtain ⟨its,r,pl,hz⟩:=I.list hq
  refine SeqAt.notIn_listAt (eqU x) pl.isList (fun w hw=>zcu rx fx r fs w (by simpa using hw)) ⟨.bl _,H,I,rfl, ?_⟩
  rw[show its.toArray.any (eqU x)=its.any (eqU x) by simp,zdg r fs]
  exact q
 ·obtain ⟨its,r,pl,hz⟩:=I.tuple hq
  refine SeqAt.notIn_tupleAt (eqU x) pl (fun w hw=>zcu rx fx r fs w (by simpa using hw)) ⟨.bl _,H,I,rfl, ?_⟩
  rw[show its.toArray.any (eqU x)=its.any (eqU x) by simp,zdg r fs]
  exact q
theorem zaE:zbQ X (.builtin "len") (fun xs H Q=>∃p ys,xs=[.ref p]/\(SqL X.K H p ys∨SqT X.K H p ys)/\Q (.int ys.length) H):=by
 intro pins s σ H xs us Q I r h
 obtain⟨p,ys,rfl,hq,q⟩:=h
 obtain⟨u,rfl,rx⟩:=zcf r
 cases rx
 have hn:=zdJ
 rcases hq with hq|hq
 ·obtain ⟨its,r',pl,hz⟩:=I.list hq
  have hlen:=r'.length
  exact Calls.call_len_list pl.isList (by simp only[List.size_toArray]<;>lia) ⟨.int ys.length,H,I.tok _,⟨s.toks+1,by rw[List.size_toArray,hlen]⟩,q⟩
 ·obtain ⟨its,r',pl,hz⟩:=I.tuple hq
  have hlen:=r'.length
  exact len_tuple pl (by simp only[List.size_toArray]<;>lia) ⟨.int ys.length,H,I.tok _,⟨s.toks+1,by rw[List.size_toArray,hlen]⟩,q⟩
theorem zaI:zbQ X (.type "tuple") (fun xs H Q=>∃p ys,xs=[.ref p]/\((SqL X.K H p ys/\∀l,H l=none->Q (.ref l) (upd H l (.tup ys)))∨(SqT X.K H p ys/\Q (.ref p) H))):=by
 intro pins s σ H xs us Q I r h
 obtain⟨p,ys,rfl,h⟩:=h
 obtain⟨u,rfl,rx⟩:=zcf r
 cases rx
 rcases h with⟨hq,q⟩|⟨hq,q⟩
 ·obtain ⟨its,r',pl,hz⟩:=I.list hq
  have hlen:=r'.length
  refine call_tuple_list pl.isList (fun h' kp=> ?_) (by simp only[List.size_toArray]<;>lia)
  have I1:Inv X pins σ H {s with heap:=h'}:=I.kept (t':=s.toks) kp
  have I2:Inv X pins σ (upd H h'.objs.size (.tup ys)) {s with heap:=h'.push {cls:=.type "tuple",data:=.seq its.toArray}}:=
   I1.laid (t':=s.toks) (fun b o e=>Heap.get?_push_of_some _ e) (Nat.le_refl _) (show ObjOk X.prog X.w _ _ _ (.tup ys) from ⟨hz,its,r',PTup.new⟩)
  exact⟨.ref h'.objs.size,_,I2,rfl,q _ (I1.hok.fresh (Nat.le_refl _))⟩
 ·obtain ⟨its,r',pl,hz⟩:=I.tuple hq
  exact call_tuple_same pl ⟨.ref p,H,I,rfl,q⟩
noncomputable def tyV (K:PySem.W.Frag)(T:String)(x:V)(H:Hp):Prop:=match x with
 | .str _=>T= "str"
 | .int _=>T= "int"
 | .ref p=>(T= "list" /\∃xs,SqL K H p xs)∨(T= "tuple" /\∃o,K.lookup p=some o/\o.cls=.type "tuple" /\o.dict=none)∨
   (T= "dict" /\((∃kvs,H p=some (.dK kvs))∨∃kvs,H p=some (.dT kvs)))∨(T= "set" /\∃S n,H p=some (.set S n))
 |_=>False
theorem zl3 {pins:List (Addr×Obj)}{σ:St}{H:Hp}{s:Shared}{T:String}{x:V}{v:Value}(I:Inv X pins σ H s)(r:RelV x v)(ty:tyV X.K T x H):
  s.TypeIs v T/\∀a,v=.ref a->∃ob,s.heap.get? a=some ob/\ob.dict=none:=by
 cases x with
 |str z=>
  obtain⟨t,rfl⟩:=r
  cases (show T= "str" from ty)
  exact⟨typeIs_str s z t,fun _ e=>nomatch e⟩
 |int i=>
  obtain⟨t,rfl⟩:=r
  cases (show T= "int" from ty)
  exact⟨typeIs_int s i t,fun _ e=>nomatch e⟩
 | ref p=>
  cases r
  rcases ty with⟨rfl,xs,hq⟩|⟨rfl,o,hk,hc,hd⟩|⟨rfl,hk⟩|⟨rfl,S,n,hk⟩
  ·obtain ⟨its,_,pl,_⟩:=I.list hq
   refine⟨pl.isList.typeIs,fun a e=> ?_⟩
   cases e
   obtain⟨o,n,e,c,hd,_⟩:=pl
   exact⟨o,e,hd⟩
  ·refine ⟨⟨o,I.kIn p o hk,hc⟩,fun a e=> ?_⟩
   cases e
   exact⟨o,I.kIn _ o hk,hd⟩
  ·have z:∃o,s.heap.get? p=some o/\o.ExactDict:=by
    rcases hk with⟨kvs,hk⟩|⟨kvs,hk⟩
    ·obtain ⟨_,_,_,_,o,_,_,e,ex,_⟩:=I.hok p _ hk
     exact⟨o,e,ex⟩
    ·obtain ⟨_,_,_,_,o,_,_,e,ex,_⟩:=I.hok p _ hk
     exact⟨o,e,ex⟩
   obtain⟨o,e,ex⟩:=z
   refine⟨⟨o,e,ex.1⟩,fun a e2=> ?_⟩
   cases e2
   exact⟨o,e,ex.2.1⟩
  ·obtain ⟨o,_,_,_,e,ex,_⟩:=I.hok p _ hk
   refine⟨⟨o,e,ex.1⟩,fun a e2=> ?_⟩
   cases e2
   exact⟨o,e,ex.2.1⟩
 |_=>exact False.elim ty
noncomputable def tBM (K:PySem.W.Frag)(T:String)(r:V->List V->Hp->VK->Prop)(to:TE)(t:TA):TE:=fun σ H Q=>to σ H fun x H1=>tyV K T x H1/\t σ H1 fun xs H2=>r x xs H2 Q
variable {o e:Expr}{es:List Expr}{to:TE}{t:TA}{name:Str}{apos cpos:Pos}{T id:String}{r:V->List V->Hp->VK->Prop}
theorem zhF (pa:PlainAttrs T)(slot:Slot T name id)(hty:typeOf (.builtin id)=pure (.type "method_descriptor"))(hm:MtR X id r)(ho:PE X o to)(ha:PA X (e::es) t)
  (hbase:attributeBase o name X.env (eval o X.env)=eval o X.env:=by rfl)
  (hfew:((backTo cpos (starEach (e::es) X.env)).all (fun x=> !x.1)&&(backToKw cpos (keywordEach [] X.env)).all (fun x=>x.1.isSome)
   &&decide ((e::es).length+([]:List Keyword).length+(if ([]:List Keyword).isEmpty then 0 else 1)<30))=true:=by rfl)
  (hline:(apos.endLine==cpos.line)=true:=by rfl) (hs:starEach (e::es) X.env=(false,eval e X.env)::starEach es X.env:=by rfl) (hplain:(backTo cpos (starEach es X.env)).any (·.1)=false:=by rfl):
  PE X (.Call (.Attribute o name apos) (e::es) [] cpos) (tBM X.K T r to t):=by
 intro pins s σ H Q I h
 refine wpAny_Call_method_late hbase hfew hline rfl (thn (ho pins s σ H _ I h) fun v s1 zq=> ?_)
 obtain⟨x,H1,I1,r1,ty,q1⟩:=zq
 obtain⟨h1,h2⟩:=zl3 I1 r1 ty
 refine⟨T,id,pa,slot,hty,h1,h2, ?_⟩
 have hA:=ha cpos pins s1 σ H1 _ I1 q1
 rw[hs] at hA ⊢
 refine Calls.callWith_builtin (by show (false||(backTo cpos (starEach es X.env)).any (·.1))=false;rw[hplain]<;>rfl) (Calls.evalArgs_plain ?_)
 exact thn hA fun us s2 ⟨vs,H2,I2,r2,q2⟩=>hm pins s2 σ H2 x vs v us Q I2 r1 r2 q2
end
noncomputable def MtM (X:Cx)(id:String)(r:V->List V->Hp->VK->Prop):Prop:=
 ∀(pins:List (Addr×Obj)) (s:Shared) (σ:St) (H:Hp) (x:V) (xs:List V) (v:Value) (us:List Value) (Q:VK),Inv X pins σ H s->RelV x v->Vals xs us->r x xs H Q->
  wpAny (model X.prog X.w) X.A (call (.builtin id) (v::us)) (EP X pins σ Q) X.xe s
theorem Vals.one:∀{x:V} {us:List Value},Vals [x] us->∃u,us=[u]/\RelV x u
 |_,_,.cons r .nil=>⟨_,rfl,r⟩
theorem Vals.rep {xs:List V}{us:List Value}(h:Vals xs us):∀k:Nat,Vals (List.replicate k xs).flatten (List.replicate k us).flatten
 |0=>.nil
 |k+1=>by
  rw[List.replicate_succ,List.replicate_succ,List.flatten_cons,List.flatten_cons]
  exact Vals.append h (Vals.rep h k)
theorem zeU (its:List Value):∀(k:Nat) (acc:List Value),
  List.foldl (fun x1 x2=>x1++x2) acc.toArray (List.replicate k its.toArray)=(acc++(List.replicate k its).flatten).toArray
 |0,acc=>by simp
 | k+1,acc=>by
  have e:acc.toArray++its.toArray=(acc++its).toArray:=by simp
  have e2:(acc++its)++(List.replicate k its).flatten=acc++(List.replicate (k+1) its).flatten:=by
   rw[List.replicate_succ,List.flatten_cons,List.append_assoc]
  rw[<-e2,<-zeU its k (acc++its),<-e,List.replicate_succ,List.foldl_cons]
section
variable {X:Cx}{pins:List (Addr×Obj)}{σ:St}{H:Hp}{s:Shared}{l b:Addr}{xs ys zs:List V}
theorem Inv.lset {its its':List Value}{n:Nat}{f:Array Value->Array Value}{t':Nat}(I:Inv X pins σ H s)(hH:H l=some (.lst xs))
  (e:s.heap.get? l=some {cls:=.type "list",data:=.seq its.toArray n}) (hf:f its.toArray=its'.toArray) (hv:Vals ys its') (hz:ys.length<=sizeLine):
  Inv X pins σ (upd H l (.lst ys)) {s with heap:=s.heap.update l (Obj.mapSeq f),toks:=t'}:=by
 have q:=PySem.IsL.update e f
 rw[hf] at q
 refine I.write (x:=l) (e:=l) (by rw[hH];exact trivial) (.inl rfl) (fun b' u hb hu=>(Heap.get?_update_other s.heap (Obj.mapSeq f) (Ne.symm hb)).trans hu) ⟨_,q⟩ ?_
 exact⟨hz,its',_,hv,q⟩
theorem Inv.lnew {its:List Value}{t':Nat}(I:Inv X pins σ H s)(hv:Vals ys its)(hz:ys.length<=sizeLine):
  Inv X pins σ (upd H s.heap.objs.size (.lst ys)) {s with heap:=s.heap.push {cls:=.type "list",data:=.seq its.toArray},toks:=t'}:=
 I.laid (fun _ _ q=>Heap.get?_push_of_some _ q) (Nat.le_refl _) ⟨hz,its,0,hv,Heap.get?_push_size _ rfl⟩
theorem Inv.fresh (I:Inv X pins σ H s):H s.heap.objs.size=none:=I.hok.fresh (Nat.le_refl _)
theorem Inv.lstM (I:Inv X pins σ H s)(hH:H l=some (.lst xs)):xs.length<=sizeLine/\∃(its:List Value) (n:Nat),Vals xs its/\xs.length=its.length/\s.heap.get? l=some {cls:=.type "list",data:=.seq its.toArray n}:=by
 obtain⟨z,its,n,r,e⟩:=I.hok l _ hH
 exact⟨z,its,n,r,r.length,e⟩
theorem zjd {n:Nat}(h:n<=sizeLine):Builtin.List.listTooLong n=false:=by
 unfold Builtin.List.listTooLong
 exact decide_eq_false (by lia)
end
section
variable {X:Cx}
noncomputable def zhG:V->List V->Hp->VK->Prop:=fun x vs H Q=>∃l xs y,x=.ref l/\vs=[y]/\H l=some (.lst xs)/\xs.length<sizeLine/\Q .non (upd H l (.lst (xs++[y])))
theorem zbi:MtM X "list.append" zhG:=by
 intro pins s σ H x vs v us Q I rx rv h
 obtain⟨l,xs,y,rfl,rfl,hH,hz,q⟩:=h
 cases rx
 obtain⟨u,rfl,ru⟩:=rv.one
 obtain⟨z,its,n,r,hl,e⟩:=I.lstM hH
 refine call_meets F.slot_list_append ⟨_,e,rfl⟩ F.entry_list_append (F.args_list_append_2 _ _) (PySem.list_append l its.toArray n u (by rw[List.size_toArray];lia)) ⟨e, ?_⟩
 refine⟨.non,_,I.lset (its':=its++[u]) hH e (by simp) (r.append (.cons ru .nil)) ?_,rfl,q⟩
 rw[List.length_append,List.length_singleton]
 lia
noncomputable def rCat:R2:=fun x y H Q=>∃l b xs zs,x=.ref l/\y=.ref b/\H l=some (.lst xs)/\H b=some (.lst zs)/\xs.length+zs.length<=sizeLine/\∀p,H p=none->Q (.ref p) (upd H p (.lst (xs++zs)))
theorem zge:OpR X (binaryOp .Add) rCat:=by
 intro pins s σ H x y v u Q I rx ry h
 obtain⟨l,b,xs,zs,rfl,rfl,hH,hB,hz,q⟩:=h
 cases rx
 cases ry
 obtain⟨z,its,n,r,hl,e⟩:=I.lstM hH
 obtain⟨z2,its2,n2,r2,hl2,e2⟩:=I.lstM hB
 refine PySem.P.add_list e e2 ?_ (by rw[List.size_toArray,List.size_toArray];lia)
 have ea:its.toArray++its2.toArray=(its++its2).toArray:=by simp
 rw[ea]
 exact⟨.ref _,_,I.lnew (t':=s.toks) (r.append r2) (by rw[List.length_append];lia),rfl,q _ I.fresh⟩
noncomputable def rRep:R2:=fun x y H Q=>∃l k xs,x=.ref l/\y=.int k/\H l=some (.lst xs)/\-(2^63)<=k/\k<2^63/\xs.length*k.toNat<=sizeLine/\
 ∀p,H p=none->Q (.ref p) (upd H p (.lst (List.replicate k.toNat xs).flatten))
theorem zkX {α:Type}(xs:List α)(k:Nat):(List.replicate k xs).flatten.length=k*xs.length:=by
 induction k with
 |zero=>simp
 |succ k ih=>rw[List.replicate_succ,List.flatten_cons,List.length_append,ih,Nat.succ_mul,Nat.add_comm]
theorem zki:OpR X (binaryOp .Mult) rRep:=by
 intro pins s σ H x y v u Q I rx ry h
 obtain⟨l,k,xs,rfl,rfl,hH,h1,h2,hz,q⟩:=h
 cases rx
 obtain⟨t,rfl⟩:=ry
 obtain⟨z,its,n,r,hl,e⟩:=I.lstM hH
 have hlen:its.toArray.size*k.toNat<=sizeLine:=by rw[List.size_toArray,<-hl];exact hz
 have hcap:¬its.toArray.size*k.toNat>(2^63-1)/8:=by
  have:(sizeLine:Nat)<=(2^63-1)/8:=by decide
  lia
 have hfit:¬(!Builtin.List.listFitsIndex k)=true:=by
  rw[fitsIndex_both h1 h2]
  exact Bool.false_ne_true
 have hlong:¬Builtin.List.listTooLong (its.toArray.size*k.toNat)=true:=by
  rw[zjd hlen]
  exact Bool.false_ne_true
 have hnew:List.foldl (fun x1 x2=>x1++x2) #[] (List.replicate (if its.toArray.isEmpty=true then 0 else k.toNat) its.toArray)=(List.replicate k.toNat its).flatten.toArray:=by
  have f0:∀m:Nat,List.foldl (fun x1 x2=>x1++x2) #[] (List.replicate m its.toArray)=(List.replicate m its).flatten.toArray:=fun m=>by
   have:=zeU its m []
   rw[List.nil_append] at this
   exact this
  rw[f0]
  cases its with
  |nil=>simp
  |cons a r'=>rw[if_neg (by simp)]
 refine wpAny_binaryOp_repeat_ref (T:= "list") (U:= "int") (by decide) ⟨_,e,rfl⟩ (fun s'=>typeIs_int s' k t) noFill_list_mul F.fills_int_mul F.slot_int_rmul repeat_list F.slot_int_index.lookup
  (call_meets F.slot_int_rmul (typeIs_int s k t) F.entry_int_rmul (F.args_int_rmul_2 _ _) (int___rmul___int_list k t l its.toArray n)
   ⟨e,rfl,⟨_,e,rfl⟩,call_meets F.slot_list_mul ⟨_,e,rfl⟩ F.entry_list_mul (F.args_list_mul_2 _ _) (AutoListH.list___mul___list_int_3 l its.toArray n k t hfit hcap hlong) ⟨e, ?_⟩⟩)
 rw[hnew]
 exact⟨.ref _,_,I.lnew (t':=s.toks) (r.rep k.toNat) (by rw[zkX,Nat.mul_comm];exact hz),rfl,q _ I.fresh⟩
end
section
variable {prog:Program}{w:World}{A:Around}{E:Value->Shared->Prop}{s:Shared}
end
section
variable {X:Cx}
end
end L2
namespace Att
open PySem PySem.W PySem.Calls PyProof.Rows
theorem zdi {P:Params}{h:Heap}:∀(ns:List Int) (vs:List Value),WellAll P h vs (ns.map WData.int)->IntsAre vs ns:=by
 intro ns
 induction ns with
 |nil=>
  intro vs w
  rw[List.map_nil] at w
  cases w
  exact .nil
 | cons n ns ih=>
  intro vs w
  rw[List.map_cons] at w
  cases w with
  |cons a b=>
   cases a
   exact .cons _ _ (ih _ b)
theorem zhH {l:OpenLaw}{n:Nat}(hn:l.most=some n){P:Params}{h:Heap}{args:List WData}{vals:List Value}
  (hpre:l.row.toRowW.claim.pre args=true) (hwl:WellAll P h vals args):
  ∃a vs ns,vals=[Value.ref a]/\args=[WData.list (ns.map WData.int)]/\h.get? a=some {cls:=.type "list",data:=.seq vs.toArray}/\IntsAre vs ns/\ns.length<=n:=by
 have hsh:WShape.hasAll [] args [.list .int]=true:=(pre_splitW hpre).1
 have hc:l.pre.holds [] {args:=args}=true:=(pre_splitW hpre).2
 obtain⟨d,r,rfl,h1,h2⟩:=hasAllW_cons hsh
 obtain rfl:=hasAllW_nil h2
 obtain⟨xs,rfl,h3⟩:=hasW_list h1
 obtain⟨ns,rfl⟩:=items_int h3
 have hlen:ns.length<=n:=by
  unfold OpenLaw.pre at hc
  have h4:(WTm.not (.lt (.lit (.int (n:Int))) (.len (.arg 0)))).holds [] {args:=[.list (ns.map .int)]}=true:=by
   have h4:=(holds_andW hc).1
   rw[hn] at h4
   exact h4
  have h5:=condW_of h4 (w_not (w_lt w_lit (w_len_list (w_arg rfl))))
  rw[List.length_map] at h5
  refine Nat.le_of_not_lt fun q=> ?_
  have q':(n:Int)<((ns.length:Nat):Int):=by lia
  first
   |(rw[decide_eq_true q'] at h5;exact absurd h5 (by decide))
   |(simp at h5;lia)
 cases hwl with
 |cons w1 w2=>
  cases w2
  cases w1 with
  |list ho hall=>exact⟨_,_,ns,rfl,rfl,ho,zdi ns _ hall,hlen⟩
theorem zhI (l:OpenLaw)(args:List WData):l.row.toRowW.claim.post args (.bool true) args=true:=
 postW_of (r:=l.row.toRowW) (X:=(true==true))
  (show WShape.has [] (.bool true) .bool=true by first|rfl|decide|simp[WShape.has,WShape.arms,WShape.armsAll])
  (show (WTm.eq .res (.lit (.bool true))).value [] {args:=args,res:=some (.bool true),after:=args}=some (.bool (true==true)) from w_eq_bool (w_res rfl) w_lit) rfl
theorem attach_call {l:OpenLaw}{n:Nat}{q:Program}{loose:List Str}{XP:(Str->Option Value)->Heap->Prop}{YP:World->Heap->Prop}{d:DefRec}
  (hn:l.most=some n) (hdf:d.params.defaults=[])
  (call:∀(w:World) (s₀ s₁:Shared) (mg mb:Str->Option Value) (fa:Addr) (o:Obj) (pm cd doc:Value) (a:Addr) (vs:List Value) (ns:List Int),
   Ground q loose [] XP w s₀ mg mb s₁.heap->YP w s₁.heap->
   s₁.heap.get? fa=some o->o.data=.func (docDef d.name d.params d.body d.scope pm cd doc)->s₁.heap.CodeRec cd d.name->mg d.name=some (.ref fa)->
   s₁.heap.get? a=some {cls:=.type "list",data:=.seq vs.toArray}->IntsAre vs ns->ns.length<=n->s₁.gens=#[]->
   codeAny (model l.prog w) callerA (.call (.ref fa) ⟨[.ref a],[]⟩) (fun r s'=>r=.ok (.ret (.bool true))/\OldK s₁.heap s'.heap/\s'.os=s₁.os/\AllBare s'.gens) s₁):
  WalkO q loose XP YP l.row.toRowW d [] (fun f vs=>PySem.call f vs):=by
 intro w s₀ s₁ mg mb G Y fa o pm cd doc dV kV ho hd hcd hD hmg hg args vals as hpre hlay hrd hwl hlo
 obtain rfl:dV=.none:=Dflts.none hD hdf
 obtain rfl:kV=.none:=Dflts.noKw hD
 obtain⟨a,vs,ns,rfl,rfl,hobj,hints,hlen⟩:=zhH hn hpre hwl
 refine enter_call (codeAny_mono (call w s₀ s₁ mg mb fa o pm cd doc a vs ns G Y ho (fd_plain hd) hcd hmg hobj hints hlen hg) fun r s' hq=> ?_)
 obtain⟨rfl,h2,h3,h4⟩:=hq
 exact⟨.inl ⟨.bool true,.bool true,[],rfl,fun _=>rfl,.bool true,zhI l _,fun _=>⟨List.Pairwise.nil,fun _ hm=>(nomatch hm)⟩⟩,h2,h3,h4⟩
section
variable {prog:Program}{w:World}{A:Around}{E:Value->Shared->Prop}{s:Shared}{K:Frag}
end
end Att
namespace L2
theorem zdj:∀{vs:List Value} {ns:List Int},IntsAre vs ns->Vals (ns.map V.int) vs
 |_,_,.nil=>.nil
 |_,_,.cons n t h=>.cons ⟨t,rfl⟩ (zdj h)
noncomputable def za9 (s:Stmt):Arguments:=match s with
 | .FunctionDef _ a _ _ _ _ _ _ _ _=>a
 |_=>{posonlyargs:=[],args:=[],vararg:=none,kwonlyargs:=[],kw_defaults:=[],kwarg:=none,defaults:=[]}
noncomputable def zaN (s:Stmt):List Stmt:=match s with
 | .FunctionDef _ _ b _ _ _ _ _ _ _=>b
 |_=>[]
noncomputable def zae (s:Stmt):Scope:=match s with
 | .FunctionDef _ _ _ _ _ _ sc _ _ _=>sc
 |_=>{kind:=.function,names:=[],isGenerator:=false,isCoroutine:=false}
noncomputable abbrev CX0:CXT:=fun _ _ _ _ _ _=>False
noncomputable abbrev E0:XK:=fun _ _ _=>False
theorem zl4 {X:Cx}:zhA CX0 X E0:=fun _ _ _ _ _ _ _ h=>h.elim
structure Fun (K:PySem.W.Frag) (x qual:Str) (st:Stmt) (f:Addr) (fd:FuncData):Prop where
 ex:∃(oc:Value) (od:Option Addr) (kV doc pm:Value) (an:Option Addr) (cdv ct:Value) (osl:Array (Option Value)),
  fd=PySem.W.fnOf x qual (za9 st) (zaN st) (zae st) .none kV doc pm an cdv ct/\K.lookup f=some ⟨oc,od,.func fd,osl⟩/\PySem.W.codeIn K cdv qual=true
 kp:PySem.W.keepIn K (.ref f)=true
section
variable {P:Program}{w:World}{K:PySem.W.Frag}{mg:Str->Option Value}{base:Heap}
theorem Fun.ok {x qual:Str}{st:Stmt}{f:Addr}{fd:FuncData}{N ps:List Str}{k:Nat}{sp:Sp}(F:Fun K x qual st f fd)(S:FnScope N ps (zae st))(len:∀vs H Q E,sp vs H Q E->vs.length=ps.length)
  (hbody:∀(cdv:Value) (A:Around) (outer:List Env) (s:Shared) (H:Hp) (vs:List V) (Q:VK) (E:XK),Room k (A.deeper (envOfC qual (zae st) s.heap.objs.size f cdv))->sp vs H Q E->
   ∃t,PSs (cxOf CX0 P w K mg base N qual (zae st) f cdv A outer s H E).nox (zaN st) t/\t {nx:=fun _ H'=>Q .non H',rt:=Q} (start N vs) H):FnOk P w K mg base CX0 (k+1) f fd ps sp:=by
 obtain⟨oc,od,kV,doc,pm,an,cdv,ct,osl,rfl,lk,hcd⟩:=F.ex
 refine zl0 lk hcd S len fun A outer s H vs Q E hr hsp=> ?_
 obtain⟨t,h,q⟩:=hbody cdv A outer s H vs Q E hr hsp
 exact⟨t,h.nox,q⟩
theorem Fun.binds {x qual:Str}{st:Stmt}{f:Addr}{fd:FuncData}{ps:List Str}(F:Fun K x qual st f fd)
  (h:∀(kV doc pm:Value) (an:Option Addr) (cdv ct:Value) (us:List Value),us.length=ps.length->bindArgs (PySem.W.fnOf x qual (za9 st) (zaN st) (zae st) .none kV doc pm an cdv ct) ⟨us,[]⟩=pure (ps.zip us)):Binds K fd ps []:=by
 obtain⟨oc,od,kV,doc,pm,an,cdv,ct,osl,rfl,lk,hcd⟩:=F.ex
 exact .all (h kV doc pm an cdv ct)
theorem zkj {x qual:Str}{st:Stmt}{f:Addr}{oc:Value}{od an:Option Addr}{osl:Array (Option Value)}{kV doc pm cdv ct:Value}(l:K.lookup f=some ⟨oc,od,.func (PySem.W.fnOf x qual (za9 st) (zaN st) (zae st) .none kV doc pm an cdv ct),osl⟩)
  (c:PySem.W.codeIn K cdv qual=true) (k:PySem.W.keepIn K (.ref f)=true):Fun K x qual st f (PySem.W.fnOf x qual (za9 st) (zaN st) (zae st) .none kV doc pm an cdv ct):=⟨⟨oc,od,kV,doc,pm,an,cdv,ct,osl,rfl,l,c⟩,k⟩
end
theorem zl5 {A:Around}{k:Nat}(hr:Room k A):A.units+1<cLine:=Nat.lt_of_le_of_lt (Nat.add_le_add_left (by decide:1<=64) _) hr.units
section
variable {X:Cx}
theorem pv (i:Nat){x:Str}{pos:Pos}(hN:X.N[i]? =some x:=by rfl)(hv:Vis X.env.scope x:=by first|exact Or.inl rfl|exact Or.inr (Or.inl rfl)|exact Or.inr (Or.inr rfl))(hd:(x==("__debug__" :Str))=false:=by decide)
  (hcd:(x==("__classdict__" :Str))=false:=by decide):PE X (.Name x pos) (tVar i):=zlP hN hv hd hcd
end
theorem iteF {A B:Prop}(h:B):if false=true then A else B:=by
 rw[if_neg Bool.false_ne_true]
 exact h
theorem iteT {A B:Prop}(h:A):if true=true then A else B:=by
 rw[if_pos rfl]
 exact h
theorem ite2 {c A B:Prop}[Decidable c](h1:c->A)(h2:¬c->B):if c then A else B:=by
 by_cases h:c
 ·rw [if_pos h]
  exact h1 h
 ·rw [if_neg h]
  exact h2 h
noncomputable def Same (H H':Hp):Prop:=∀b o,H b=some o->H' b=some o
theorem Same.refl (H:Hp):Same H H:=fun _ _ h=>h
theorem Same.trans {H H1 H2:Hp}(a:Same H H1)(b:Same H1 H2):Same H H2:=fun c o h=>b c o (a c o h)
theorem Same.free {H H':Hp}(e:Same H H'){l:Addr}(h:H' l=Option.none):H l=Option.none:=by
 cases q:H l with
 |none=>rfl
 |some o=>
  rw[e l o q] at h
  cases h
theorem Same.seq {K:PySem.W.Frag}{H H':Hp}{a:Addr}{xs:List V}(e:Same H H')(h:SqL K H a xs):SqL K H' a xs:=by
 rcases h with (h|⟨o,h⟩)|h
 ·exact .inl (.inl (e _ _ h))
 ·exact .inl (.inr ⟨o,e _ _ h⟩)
 ·exact .inr h
theorem zbg {env:Env}{scope:Scope}(h:∀y∈scope.names,y.2=.free->∃c,env.cells.lookup y.1=some c):
  ∃cl,closureFor scope env=pure cl/\(∀x c,cl.lookup x=some c->env.cells.lookup x=some c)/\∀y∈scope.names,y.2=.free->cl.lookup y.1=env.cells.lookup y.1:=by
 have go:∀(names:List (Str×NameKind)) (acc:List (Str×Addr)),(∀y∈names,y.2=.free->∃c,env.cells.lookup y.1=some c)->
   (∀x c,acc.lookup x=some c->env.cells.lookup x=some c)->
   ∃cl,(forIn names acc (fun (y:Str×NameKind) (cs:List (Str×Addr))=>if (y.2==.free)=true then (do let c<-cellOf env y.1;pure (ForInStep.yield ((y.1,c)::cs))) else pure (ForInStep.yield cs)):Sem (List (Str×Addr)))=pure cl/\
    (∀x c,cl.lookup x=some c->env.cells.lookup x=some c)/\(∀x c,acc.lookup x=some c->cl.lookup x=some c)/\∀y∈names,y.2=.free->cl.lookup y.1=env.cells.lookup y.1:=by
  intro names
  induction names with
  |nil=>intro acc _ ha;exact⟨acc,rfl,ha,fun _ _ h=>h,fun y hy=>nomatch hy⟩
  | cons y r ih=>
   intro acc hn ha
   obtain⟨n,k⟩:=y
   by_cases hk:k=.free
   ·subst hk
    obtain⟨c,hc⟩:=hn (n,.free) List.mem_cons_self rfl
    have ha':∀x d,(((n,c)::acc:List (Str×Addr))).lookup x=some d->env.cells.lookup x=some d:=fun x d e=>by
     rw[List.lookup_cons] at e
     cases hx:x==n with
     |true=>
      rw[hx] at e
      have e1:x=n:=eq_of_beq hx
      subst e1
      cases e
      exact hc
     |false=>rw[hx] at e;exact ha x d e
    obtain⟨cl,e,h1,h2,h3⟩:=ih ((n,c)::acc) (fun y hy=>hn y (List.mem_cons_of_mem _ hy)) ha'
    refine⟨cl, ?_,h1,fun x d e=> ?_,fun y hy hf=> ?_⟩
    ·rw [List.forIn_cons]
     have ec:cellOf env n=pure c:=by unfold cellOf;rw[hc]
     simp only[beq_self_eq_true,if_true]
     rw[ec]
     exact e
    ·have e':=ha x d e
     by_cases hx:x=n
     ·subst hx
      rw[hc] at e';cases e'
      exact h2 x c (by rw[List.lookup_cons];simp)
     ·exact h2 x d (by rw[List.lookup_cons,beq_eq_false_iff_ne.mpr hx];exact e)
    ·rcases List.mem_cons.mp hy with rfl|hy
     ·show cl.lookup n=env.cells.lookup n
      rw[hc]
      exact h2 n c (by rw[List.lookup_cons];simp)
     ·exact h3 y hy hf
   ·obtain ⟨cl,e,h1,h2,h3⟩:=ih acc (fun y hy=>hn y (List.mem_cons_of_mem _ hy)) ha
    refine⟨cl, ?_,h1,h2,fun y hy hf=> ?_⟩
    ·rw [List.forIn_cons]
     have:(k==NameKind.free)=false:=by simpa using hk
     simp only[this,Bool.false_eq_true,if_false]
     exact e
    ·rcases List.mem_cons.mp hy with rfl|hy
     ·exact absurd hf hk
     ·exact h3 y hy hf
 obtain⟨cl,e,h1,_,h3⟩:=go scope.names [] h (fun x c e=>by simp at e)
 refine⟨cl, ?_,h1,h3⟩
 unfold closureFor
 exact (congrArg (fun m=>m >>= fun r=>pure r) e).trans rfl
noncomputable def zaX (n:Nat)(ix:List Nat)(σ:St):St:=List.replicate n none++ix.map fun i=>σ.getD i none
noncomputable def Cx.comp (X:Cx)(s₂:Shared)(H₂:Hp)(N':List Str)(scope:Scope)(cl:List (Str×Addr))(C:Addr)(fp:List Addr):Cx:=
 {X with N:=N',s₀:=s₂,H₀:=H₂,env:=compEnvC scope cl C X.env,outer:=X.stack,stack:=X.stack,ex:=fp,fn:=fun _=>false,pn:=[],xe:=fun _ _=>False}
structure CompScope (X:Cx) (scope:Scope) (N':List Str) (n:Nat) (ix:List Nat):Prop where
 kind:scope.kind=.function
 nocell:∀y∈scope.names,y.2≠.cell
 names:∀y∈scope.names,y.2=.local->scope.names.lookup y.1=some .local
 free:∀y∈scope.names,y.2=.free->X.env.scope.names.lookup y.1=some .cell∨X.env.scope.names.lookup y.1=some .free
 nodup:∀y:Str,(y,NameKind.free)∈scope.names->scope.names.lookup y=some .local->False
 len:N'.length=n+ix.length
 at_:∀(j i:Nat),ix[j]? =some i->∃x,N'[n+j]? =some x/\X.N[i]? =some x/\(x,NameKind.free)∈scope.names
theorem zaQ {env:Env}{scope:Scope}(x:Str):(relabel scope env).names.lookup x=(scope.names.lookup x).map fun k=>if (k==.free&&env.scope.kind==.function&&env.kindOf x==some .cell) then .cell else k:=by
 show (scope.names.map fun (n,k)=>if (k==NameKind.free&&env.scope.kind==.function&&env.kindOf n==some .cell) then (n,NameKind.cell) else (n,k)).lookup x=_
 generalize scope.names=l
 induction l with
 |nil=>rfl
 | cons y r ih=>
  obtain⟨n,k⟩:=y
  rw[List.map_cons,List.lookup_cons]
  cases hx:x==n with
  | true=>
   have e:x=n:=eq_of_beq hx
   subst e
   by_cases hc:(k==NameKind.free&&env.scope.kind==.function&&env.kindOf x==some .cell)=true
   ·rw [if_pos hc,List.lookup_cons]
    simp only[beq_self_eq_true]
    show some NameKind.cell=some (ite _ _ _)
    rw[if_pos hc]
   ·rw [if_neg hc,List.lookup_cons]
    simp only[beq_self_eq_true]
    show some k=some (ite _ _ _)
    rw[if_neg hc]
  |false=>
   by_cases hc:(k==NameKind.free&&env.scope.kind==.function&&env.kindOf n==some .cell)=true
   ·rw[if_pos hc,List.lookup_cons,hx];exact ih
   ·rw[if_neg hc,List.lookup_cons,hx];exact ih
section
variable {X:Cx}{pins:List (Addr×Obj)}{σ:St}{H:Hp}{s:Shared}
theorem zcV {env:Env}{scope:Scope}{x:Str}(h:scope.names.lookup x=some .free):(relabel scope env).names.lookup x=some .cell∨(relabel scope env).names.lookup x=some .free:=by
 rw[zaQ,h]
 by_cases hc:(NameKind.free==NameKind.free&&env.scope.kind==.function&&env.kindOf x==some .cell)=true
 ·exact .inl (by show some (ite _ _ _)=_;rw[if_pos hc])
 ·exact .inr (by show some (ite _ _ _)=_;rw[if_neg hc])
theorem zgT {env:Env}{scope:Scope}{x:Str}(hn:∀y∈scope.names,y.2≠.cell)(h:(relabel scope env).names.lookup x=some .cell∨(relabel scope env).names.lookup x=some .free):scope.names.lookup x=some .free:=by
 rw[zaQ] at h
 cases e:scope.names.lookup x with
 |none=>rw[e] at h;rcases h with h|h<;>cases h
 | some k=>
  rw[e] at h
  have hk:=hn _ (PySem.mem_of_lookup e)
  by_cases hf:k=.free
  ·rw[hf]
  ·have hb:(k==NameKind.free)=false:=by simpa using hf
   have hr:Option.map (fun k=>if (k==NameKind.free&&env.scope.kind==.function&&env.kindOf x==some .cell)=true then NameKind.cell else k) (some k)=some k:=by
    show some (ite _ _ _)=_
    rw[if_neg (by rw[hb];simp)]
   rw[hr] at h
   rcases h with h|h
   ·cases h;exact absurd rfl hk
   ·exact h
theorem zd1 {scope:Scope}{N':List Str}{n:Nat}{ix:List Nat}{cl:List (Str×Addr)}{fp:List Addr}{h₁:Heap}{acc C:Addr}{na:Nat}{m:Str->Option Value}{tk:Nat}
  (I:Inv X pins σ H s) (S:CompScope X scope N' n ix) (hcl1:∀x c,cl.lookup x=some c->X.env.cells.lookup x=some c) (hcl2:∀y∈scope.names,y.2=.free->cl.lookup y.1=X.env.cells.lookup y.1)
  (hf:∀b∈fp,FpOk X pins H b) (hlt:∀b∈fp,b<s.heap.objs.size) (ha:s.heap.objs.size<=acc) (hC:s.heap.objs.size<=C) (hne:C≠acc)
  (k:∀b u,s.heap.get? b=some u->h₁.get? b=some u) (hacc:h₁.get? acc=some {cls:=.type "list",data:=.seq ([]:List Value).toArray na}) (hns:h₁.Ns C m):
  Inv (X.comp s H N' scope cl C fp) [] (zaX n ix σ) (upd H acc (.lst [])) {s with heap:=h₁,toks:=tk}:=by
 have fr:∀b:Addr,s.heap.objs.size<=b->H b=none:=fun b hb=>I.hok.fresh hb
 have cellLt:∀x c,cl.lookup x=some c->c<s.heap.objs.size:=fun x c e=>by
  obtain⟨v,q⟩:=I.cell x c (hcl1 x c e)
  exact q.lt
 refine⟨⟨I.ok.mod,S.kind,I.ok.glob,I.ok.blt,hC,fun x y c e1 e2=>I.ok.inj x y c (hcl1 x c e1) (hcl1 y c e2),fun x hx=> ?_,fun x c e _=>absurd e Bool.false_ne_true,I.ok.hd,I.ok.frames,.inl rfl,fun b hb=>⟨Nat.ne_of_lt (Nat.lt_of_lt_of_le (hlt b hb) hC),fun x c e=>(hf b hb).2.2.2.2.1 x c (hcl1 x c e)⟩,
   I.bs,Nat.le_trans I.ok.bsz I.sz,fun b o e hb=> ?_,fun b hb hs=> ?_,I.stack,I.stkFree⟩,
  rfl,I.bare,Un.laid k ha (fr acc ha),⟨m,hns,fun i x v e1 e2 e3=> ?_⟩,fun x c e=> ?_, ?_,fun x c e=> ?_,fun p hp=>absurd (show p∈([]:List (Addr×Obj)) from hp) (by simp),I.hok.laid k ha ⟨Nat.zero_le _,[],na,.nil,hacc⟩, ?_⟩
 ·have hx':scope.names.lookup x=some .free:=zgT (env:=X.env) S.nocell hx
  have hm:=PySem.mem_of_lookup hx'
  obtain⟨c,e⟩:=I.ok.has x (S.free _ hm rfl)
  exact⟨c,(hcl2 _ hm rfl).trans e⟩
 ·rcases (hf b hb).2.2.2.1 with z|z
  ·exact I.ok.noex b o e z
  ·exact absurd (Nat.lt_of_lt_of_le (Heap.lt_size e) (Nat.le_trans I.ok.bsz z)) (Nat.lt_irrefl _)
 ·rcases List.mem_cons.mp (I.stkSub b hs) with z|z
  ·exact (hf b hb).2.1 z
  ·exact (hf b hb).2.2.1 z
 ·-- a name of the frame,seen through its cell
  have hi:n<=i:=by
   by_cases hi:n<=i
   ·exact hi
   ·unfold zaX at e2
    rw[List.getElem?_append_left (by simp;lia),List.getElem?_replicate] at e2
    split at e2<;>cases e2
  obtain⟨j,rfl⟩:∃j,i=n+j:=⟨i-n,by lia⟩
  unfold zaX at e2
  rw[List.getElem?_append_right (by simp),List.length_replicate,Nat.add_sub_cancel_left,List.getElem?_map] at e2
  cases ej:ix[j]? with
  |none=>rw[ej] at e2;cases e2
  | some q=>
   rw[ej] at e2
   have e2':σ.getD q none=some v:=Option.some.inj e2
   have e2'':σ[q]? =some (some v):=by
    rw[List.getD_eq_getElem?_getD] at e2'
    cases eq:σ[q]? with
    |none=>rw[eq] at e2';cases e2'
    |some z=>rw[eq] at e2';exact congrArg some e2'
   obtain⟨y,h1,h2,h3⟩:=S.at_ j q ej
   have ey:y=x:=Option.some.inj (h1.symm.trans e1)
   subst ey
   have hk:=S.free _ h3 rfl
   obtain⟨mX,_,hl⟩:=I.loc
   obtain⟨u,r,l⟩:=hl q y v h2 e2'' (.inr hk)
   refine⟨u,r,.inr ?_⟩
   have hkc:X.env.kindOf y=some .cell∨X.env.kindOf y=some .free:=hk
   have l':∃c,X.env.cells.lookup y=some c/\s.heap.IsCell c (some u):=by
    rcases l with⟨z,_⟩|⟨_,c,ec,hc⟩
    ·rcases hkc with q|q<;>(rw[q] at z;cases z)
    ·exact⟨c,ec,hc⟩
   obtain⟨c,ec,o,ho,hd⟩:=l'
   have e3':Vis (relabel scope X.env) y:=e3
   refine⟨?_,c,(hcl2 _ h3 rfl).trans ec,o,k _ _ ho,hd⟩
   have nl:scope.names.lookup y≠some .local:=fun z=> ?_
   ·cases el:scope.names.lookup y with
    |none=>
     have:(relabel scope X.env).names.lookup y=none:=by rw[zaQ,el];rfl
     rcases e3' with z|z|z<;>(rw[this] at z;cases z)
    | some kk=>
     have hmem:=PySem.mem_of_lookup el
     have ncell:=S.nocell _ hmem
     have hr:(relabel scope X.env).names.lookup y=some (if (kk==NameKind.free&&X.env.scope.kind==.function&&X.env.kindOf y==some .cell)=true then .cell else kk):=by rw[zaQ,el];rfl
     by_cases hkf:kk=.free
     ·subst hkf
      exact zcV (env:=X.env) el
     ·have hb:(kk==NameKind.free)=false:=by simpa using hkf
      have hr':(relabel scope X.env).names.lookup y=some kk:=by rw[hr,hb];rfl
      rcases e3' with z|z|z
      ·rw[hr'] at z;cases z;exact absurd el nl
      ·rw[hr'] at z;cases z;exact absurd rfl ncell
      ·rw[hr'] at z;cases z;exact absurd rfl hkf
   ·exact S.nodup _ h3 z
 ·obtain ⟨v,o,ho,hd⟩:=I.cell x c (hcl1 x c e)
  exact⟨v,o,k _ _ ho,hd⟩
 ·show upd H acc (.lst []) C=none
  rw[zaj hne];exact fr C hC
 ·show upd H acc (.lst []) c=none
  have:=cellLt x c e
  rw[zaj (Nat.ne_of_lt (Nat.lt_of_lt_of_le this ha))]
  exact I.freeC x c (hcl1 x c e)
 ·show (zaX n ix σ).length=N'.length
  unfold zaX
  rw[List.length_append,List.length_replicate,List.length_map,S.len]
end
noncomputable def Wk (σ σ':St):Prop:=σ.length=σ'.length/\∀(i:Nat) v,σ[i]? =some (some v)->σ'[i]? =some (some v)
noncomputable def PTs (Y:Cx)(ifs:List Expr)(t:TT):Prop:=
 ∀(pins:List (Addr×Obj)) (s:Shared) (σ:St) (H:Hp) (Q:Bool->Hp->Prop),Inv Y pins σ H s->t σ H Q->
  wpAny (model Y.prog Y.w) Y.A (forIn ifs true fun c r=>if r=true then do let ok<-isTrue c Y.env (eval c Y.env);pure (ForInStep.yield ok) else pure (ForInStep.yield r)) (TP Y pins σ Q) Y.xe s
noncomputable def zaG:TT:=fun _ H Q=>Q true H
theorem zax {Y:Cx}:PTs Y [] zaG:=fun _ _ _ H _ I h=>wpAny_tests_nil ⟨H,I,h⟩
theorem zbV {Y:Cx}{c:Expr}{t:TT}(h:PT Y c t):PTs Y [c] t:=fun pins s σ H Q I q=>wpAny_tests_one (h pins s σ H Q I q)
theorem zcW {prog:Program}{w:World}{A:Around}{R:Result->Shared->Prop}{s:Shared}{elt target iter:Expr}{ifs:List Expr}{scope:Scope}{pos:Pos}{it acc:Value}{env:Env}(I:Nat->Shared->Prop)
  (turn:∀n s,I n s->wpAny (model prog w) A (pyNext it) (fun r s₁=>match r with
   |none=>R (.ok .next) s₁
   | some v=>wpAny (model prog w) A (letOwnedTupleGo target it v) (fun _ s₂=>wpAny (model prog w) A (assign target env v) (fun _ s₃=>
     wpAny (model prog w) A (forIn ifs true fun c r=>if r=true then do let ok<-isTrue c env (eval c env);pure (ForInStep.yield ok) else pure (ForInStep.yield r)) (fun ok s₄=>
      if ok=true then wpAny (model prog w) A (eval elt env) (fun x s₅=>
       wpAny (model prog w) A (call (.builtin "list.append") [acc,x]) (fun _ s₆=>∃m,m<n/\I m s₆) (fun _ _=>False) s₅) (fun _ _=>False) s₄
      else ∃m,m<n/\I m s₄) (fun _ _=>False) s₃) (fun _ _=>False) s₂) (fun _ _=>False) s₁) (fun _ _=>False) s)
  (n:Nat) (h:I n s):
  codeAny (model prog w) A (.compLoop (.ListComp elt [⟨target,iter,ifs,0⟩] scope pos) 0 it acc env) R s:=by
 refine codeAny_loop rfl I (fun n s hI=> ?_) n h
 show wpAny _ A ((compTurn (.ListComp elt [⟨target,iter,ifs,0⟩] scope pos) 0 it acc env).onRaise (fun x=>do noteFrame x env;theTreesLotGoes x)) _ _ s
 refine wpAny_noted (wpAny_noRaise ?_)
 rw[compTurn_list]
 refine wpAny_bind (wpAny_standAt (wpAny_bind (thn (turn n s hI) fun r s₁ h₁=> ?_)))
 cases r with
 |none=>exact wpAny_pure h₁
 |some v=>
  refine wpAny_bind (thn h₁ fun _ s₂ h₂=>wpAny_bind (thn h₂ fun _ s₃ h₃=>wpAny_bind (thn h₃ fun ok s₄ h₄=> ?_)))
  cases ok with
  |false=>exact wpAny_pure ⟨rfl,h₄⟩
  |true=>exact wpAny_bind (wpAny_bind (thn h₄ fun x s₅ h₅=>wpAny_bind (thn h₅ fun _ s₆ h₆=>wpAny_pure (wpAny_pure ⟨rfl,h₆⟩))))
noncomputable def LcW (J:It)(H1:Hp)(g:TG)(tt:TT)(te:TE)(n:Nat)(ix:List Nat)(σ:St)(Q:VK):Prop:=∀acc,H1 acc=none->
 ∃ W:Nat->Nat->Hp->Prop,(∃m,W 0 m (upd H1 acc (.lst [])))/\∀i m H,W i m H->
  (J.stop i H/\Q (.ref acc) H)∨(J.go i H/\∀x H',J.yld i H x H'->g x (zaX n ix σ) H' fun σ2 H2=>Wk (zaX n ix σ) σ2/\tt σ2 H2 fun b H3=>
   if b=true then te σ2 H3 fun v H4=>∃ys,H4 acc=some (.lst ys)/\ys.length<sizeLine/\∃m',m'<m/\W (i+1) m' (upd H4 acc (.lst (ys++[v])))
   else ∃m',m'<m/\W (i+1) m' H3)
noncomputable def tLc (wi:TI)(g:TG)(tt:TT)(te:TE)(n:Nat)(ix:List Nat):TE:=fun σ H Q=>wi σ H fun J H1=>LcW J H1 g tt te n ix σ Q
section
variable {X:Cx}{elt tg iter:Expr}{ifs:List Expr}{scope:Scope}{pos:Pos}{wi:TI}{g:TG}{tt:TT}{te:TE}{N':List Str}{n:Nat}{ix:List Nat}
theorem zhJ {pins:List (Addr×Obj)}{σ:St}{H2:Hp}{s2:Shared}{cl:List (Str×Addr)}{it:Addr}{fp:List Addr}{tn:Nat->Heap->Prop}{J:It}{Q:VK}{R:Value->Addr->Result->Shared->Prop}
  (hc:X.calm=true) (S:CompScope X scope N' n ix)
  (hY:∀s₂ H₂ cl C fp,PG (X.comp s₂ H₂ N' scope cl C fp) tg g/\PTs (X.comp s₂ H₂ N' scope cl C fp) ifs tt/\PE (X.comp s₂ H₂ N' scope cl C fp) elt te)
  (I2:Inv X pins σ H2 s2) (hcl1:∀x c,cl.lookup x=some c->X.env.cells.lookup x=some c) (hcl2:∀y∈scope.names,y.2=.free->cl.lookup y.1=X.env.cells.lookup y.1)
  (T:Turn X.prog X.w X.K tg J fp it tn) (st2:tn 0 s2.heap) (f2:∀b∈fp,FpOk X pins H2 b)
  (hW:LcW J H2 g tt te n ix σ Q)
  (hR:∀acc C s' H' m,s'.heap.Ns C m->Inv X pins σ H' s'->H' C=none->C≠X.env.locals->(C∈X.ex∨X.s₀.heap.objs.size<=C)->(∀x c,X.env.cells.lookup x=some c->c≠C)->(∀p∈X.pn++pins,p.1≠C)->C∉X.fs->Q (.ref acc) H'->R (.ref acc) C (.ok .next) s'):
  wpAny (model X.prog X.w) X.A (newList []) (fun acc s₃=>wpAny (model X.prog X.w) X.A (newFunctionEnv scope X.env.globals cl [] X.env.qual none .none (some X.env)) (fun cenv s₄=>
   codeAny (model X.prog X.w) X.A (.compStart (.ListComp elt [⟨tg,iter,ifs,0⟩] scope pos) 0 (.ref it) acc {cenv with scope:=relabel scope X.env}) (R acc cenv.locals) s₄) X.xe s₃) X.xe s2:=by
 refine wpAny_newObj_type (wpAny_newFunctionEnv S.nocell (by intro y hy;simp at hy) (fun h₁ hns₁ hsb₁=> ?_) S.kind)
 dsimp only at hns₁ hsb₁ ⊢
 generalize hH2:s2.heap.push {cls:=.type "list",dict:=none,data:=.seq ([]:List Value).toArray}=G at hns₁ hsb₁ ⊢
 have hC:G.objs.size=s2.heap.objs.size+1:=by rw[<-hH2,Heap.size_push]
 have hlt:∀b∈fp,b<s2.heap.objs.size:=fun b hb=>by
  obtain⟨o,e,_⟩:=T.obj _ _ st2 b hb
  exact Heap.lt_size e
 have old:∀b o,s2.heap.get? b=some o->h₁.get? b=some o:=fun b o e=>hsb₁.extBut b o (by rw[hC];exact Nat.ne_of_lt (Nat.lt_succ_of_lt (Heap.lt_size e))) (Heap.get?_push_of_some _ (hH2▸Heap.get?_push_of_some _ e))
 have hacc:h₁.get? s2.heap.objs.size=some {cls:=.type "list",dict:=none,data:=.seq ([]:List Value).toArray}:=hsb₁.extBut _ _ (by rw[hC];exact Nat.ne_of_lt (Nat.lt_succ_self _)) (Heap.get?_push_of_some _ (hH2▸Heap.get?_push_size _ rfl))
 obtain⟨W,⟨m0,w0⟩,turn⟩:=hW s2.heap.objs.size (I2.hok.fresh (Nat.le_refl _))
 obtain⟨hYg,hYt,hYe⟩:=hY s2 H2 cl G.objs.size fp
 have fpY:∀{H':Hp},(∀b∈fp,H' b=none)->∀b∈fp,FpOk (X.comp s2 H2 N' scope cl G.objs.size fp) [] H' b:=fun {H'} hn b hb=>by
  obtain⟨_,q1,q2,q3,q4,q5⟩:=f2 b hb
  refine⟨hn b hb, ?_,fun z=> ?_,.inl hb,fun x c e=>q4 x c (hcl1 x c e),fun p hp=>absurd (show p∈([]:List (Addr×Obj)) from hp) (by simp)⟩
  ·show b≠G.objs.size
   rw[hC]
   exact Nat.ne_of_lt (Nat.lt_succ_of_lt (hlt b hb))
  ·rcases List.mem_cons.mp (I2.stkSub b z) with y|y
   ·exact q1 y
   ·exact q2 y
 have loop:∀s₃:Shared,s₃={s2 with heap:=h₁,toks:=s2.toks+([]:List (Str×Value)).length}->
   codeAny (model X.prog X.w) X.A (.compLoop (.ListComp elt [⟨tg,iter,ifs,0⟩] scope pos) 0 (.ref it) (.ref s2.heap.objs.size) (compEnvC scope cl G.objs.size X.env)) (R (.ref s2.heap.objs.size) G.objs.size) s₃:=by
  rintro s₃ rfl
  have I4:=zd1 (tk:=s2.toks+([]:List (Str×Value)).length) I2 S hcl1 hcl2 f2 hlt (Nat.le_refl _) (by rw[hC];exact Nat.le_succ _) (by rw[hC];exact Nat.ne_of_gt (Nat.lt_succ_self _)) old hacc hns₁
  refine zcW (fun n' s'=>∃i H',Inv (X.comp s2 H2 N' scope cl G.objs.size fp) [] (zaX n ix σ) H' s'/\tn i s'.heap/\(∀b∈fp,H' b=none)/\W i n' H') ?_ m0
   ⟨0,_,I4,T.keep _ _ _ st2 fun b hb o e=>old b o e,fun b hb=> ?_,w0⟩
  ·rintro n' s3 ⟨i,H3,I3,st3,fr3,w3⟩
   rcases turn i n' H3 w3 with⟨stop,q⟩|⟨go,step⟩
   ·refine thn (T.done (X.comp s2 H2 N' scope cl G.objs.size fp) rfl rfl rfl hc i [] s3 _ H3 _ I3 (fpY fr3) st3 stop) fun r s4 zq=> ?_
    obtain⟨hr,I5⟩:=zq
    subst hr
    obtain⟨mC,hnC,_⟩:=I5.loc
    have IX:Inv X pins σ H3 s4:=I2.call' I5.os I5.base I5.hok I5.bare fun b hb=>by
     obtain⟨_,q1,q2,q3,q4,q5⟩:=f2 b hb
     exact⟨q3,q1,q4,q5⟩
    refine hR _ _ s4 H3 mC hnC IX I5.free ?_ (.inr ?_) (fun x c e z=> ?_) (fun p hp z=> ?_) (I2.nofs (by rw[hC];exact Nat.le_succ _)) q
    ·rw [hC]
     exact Nat.ne_of_gt (Nat.lt_succ_of_lt I2.lt)
    ·rw [hC]
     exact Nat.le_succ_of_le I2.sz
    ·obtain ⟨v,q⟩:=I2.cell x c e
     rw[hC] at z
     exact absurd z (Nat.ne_of_lt (Nat.lt_succ_of_lt q.lt))
    ·rw [hC] at z
     exact absurd z (Nat.ne_of_lt (Nat.lt_succ_of_lt (Heap.lt_size (I2.pin p hp).1)))
   ·refine thn (T.item (X.comp s2 H2 N' scope cl G.objs.size fp) rfl rfl rfl hc i [] s3 _ H3 _ I3 (fpY fr3) st3 go) fun r s4 zq=> ?_
    obtain⟨u,hr,h4⟩:=zq
    subst hr
    refine thn h4 fun _ s5 zq=> ?_
    obtain⟨x,H5,I5,r5,y5,st5,fr5⟩:=zq
    have I5':=I5.pinned (fpY fr5) (T.obj _ _ st5)
    refine thn (hYg _ s5 _ H5 x u _ I5' r5 (step x H5 y5)) fun _ s6 zq=> ?_
    obtain⟨σ6,H6,I6,wk,q6⟩:=zq
    have back:∀{H':Hp} {s':Shared},Inv (X.comp s2 H2 N' scope cl G.objs.size fp) ([]++zaR fp s5.heap) σ6 H' s'->
      Inv (X.comp s2 H2 N' scope cl G.objs.size fp) [] (zaX n ix σ) H' s'/\tn (i+1) s'.heap/\∀b∈fp,H' b=none:=fun {H' s'} I7=>by
     refine⟨I7.unpinned.weak wk.1 wk.2,T.keep _ _ _ st5 fun b hb o e=>(I7.pin (b,o) (List.mem_append_right _ (List.mem_append_right _ (zay hb e)))).1,fun b hb=> ?_⟩
     obtain⟨o,e,d⟩:=T.obj _ _ st5 b hb
     exact (I7.pin (b,o) (List.mem_append_right _ (List.mem_append_right _ (zay hb e)))).2.1
    refine thn (hYt _ s6 σ6 H6 _ I6 q6) fun ok s7 zq=> ?_
    obtain⟨H7,I7,q7⟩:=zq
    cases ok with
    |false=>
     rw[if_neg Bool.false_ne_true] at q7 ⊢
     obtain⟨m',hm,w7⟩:=q7
     obtain⟨b1,b2,b3⟩:=back I7
     exact⟨m',hm,i+1,H7,b1,b2,b3,w7⟩
    |true=>
     rw[if_pos rfl] at q7 ⊢
     refine thn (hYe _ s7 σ6 H7 _ I7 q7) fun xv s8 zq=> ?_
     obtain⟨v8,H8,I8,r8,ys,ha,hz,m',hm,w8⟩:=zq
     refine thn (zbi _ s8 σ6 H8 (.ref s2.heap.objs.size) [v8] (.ref s2.heap.objs.size) [xv] (fun _ H'=>H'=upd H8 s2.heap.objs.size (.lst (ys++[v8]))) I8 rfl (.cons r8 .nil) ⟨_,ys,v8,rfl,rfl,ha,hz,rfl⟩) fun _ s9 zq=> ?_
     obtain⟨_,H9,I9,_,e9⟩:=zq
     subst e9
     obtain⟨b1,b2,b3⟩:=back I9
     exact⟨m',hm,i+1,_,b1,b2,b3,w8⟩
  ·rw [zaj (Nat.ne_of_lt (hlt b hb))]
   exact (f2 b hb).1
 exact codeAny_compStart_list (loop _ rfl) (T.self _ 0 _ _ _ (T.keep _ _ _ st2 fun b hb o e=>old b o e) (loop _ rfl))
theorem zbF (hc:X.calm=true)(S:CompScope X scope N' n ix)(hi:PI X tg iter wi)
  (hY:∀s₂ H₂ cl C fp,PG (X.comp s₂ H₂ N' scope cl C fp) tg g/\PTs (X.comp s₂ H₂ N' scope cl C fp) ifs tt/\PE (X.comp s₂ H₂ N' scope cl C fp) elt te)
  (hs:∀x,foldedSetIterable iter X.env x=pure x:=by intro _;rfl):PE X (.ListComp elt [⟨tg,iter,ifs,0⟩] scope pos) (tLc wi g tt te n ix):=by
 intro pins s σ H Q I h
 obtain⟨cl,hcl,hcl1,hcl2⟩:=zbg (env:=X.env) (scope:=scope) fun y hy hf=>I.ok.has _ (S.free y hy hf)
 rw[eval_ListComp]
 refine wpAny_comprehension_free (use:=none) rfl hs hcl S.kind S.names (thn (hi pins s σ H _ I h) fun v s1 h1=>thn h1 fun itv s2 h2=> ?_)
 obtain⟨it,fp,tn,J,H2,rfl,I2,T,st2,f2,hW⟩:=h2
 refine zhJ (R:=fun acc C=>compPost (model X.prog X.w) X.A X.xe none (EP X pins σ Q) acc C) hc S hY I2 hcl1 hcl2 T st2 f2 hW ?_
 intro acc C s' H' m hn IX hf hL h1 h2 h3 h4 q
 exact⟨m,hn,fun h' sb=>⟨.ref acc,H',IX.turned (t':=s'.toks) (fun b o hb e=>sb.extBut b o hb e) hf hL h1 h2 h3,rfl,q⟩⟩
theorem zbz {x:Str}{i:Nat}{pos' spos:Pos}(hsw:swapsWith (.ListComp elt [⟨tg,iter,ifs,0⟩] scope pos) (some (.Name x pos')) spos.line X.env=pure true)(hN:X.N.Nodup)(hi':X.N[i]? =some x)(hx:X.env.scope.names.lookup x=some .local)
  (hc:X.calm=true) (S:CompScope X scope N' n ix) (hi:PI X tg iter wi)
  (hY:∀s₂ H₂ cl C fp,PG (X.comp s₂ H₂ N' scope cl C fp) tg g/\PTs (X.comp s₂ H₂ N' scope cl C fp) ifs tt/\PE (X.comp s₂ H₂ N' scope cl C fp) elt te)
  (hs:∀x,foldedSetIterable iter X.env x=pure x:=by intro _;rfl):PS X (.Assign [.Name x pos'] (.ListComp elt [⟨tg,iter,ifs,0⟩] scope pos) spos) (tAsg (tLc wi g tt te n ix) (zaU i)):=by
 intro pins s σ H D I h
 obtain⟨cl,hcl,hcl1,hcl2⟩:=zbg (env:=X.env) (scope:=scope) fun y hy hf=>I.ok.has _ (S.free y hy hf)
 rw[exec_Assign_Name_used _ _ _ _ hsw]
 refine wpAny_bind (wpAny_standAt (wpAny_bind ?_))
 show wpAny _ _ (do let _<-comprehension (.ListComp elt [⟨tg,iter,ifs,0⟩] scope pos) scope X.env _ (newList []) false (eval iter X.env) (some (assign (.Name x pos') X.env))) _ _ s
 refine wpAny_bind (thn (wpAny_comprehension_free (use:=some (assign (.Name x pos') X.env)) (Q:=fun _ s'=>SP X pins D .next s') rfl hs hcl S.kind S.names (thn (hi pins s σ H _ I h) fun v s1 h1=>thn h1 fun itv s2 h2=> ?_)) fun _ s' hq=>wpAny_pure (wpAny_pure hq))
 obtain⟨it,fp,tn,J,H2,rfl,I2,T,st2,f2,hW⟩:=h2
 refine zhJ (Q:=fun x H1=>zaU i x σ H1 D.nx) (R:=fun acc C=>compPost (model X.prog X.w) X.A X.xe (some (assign (.Name x pos') X.env)) (fun _ s'=>SP X pins D .next s') acc C) hc S hY I2 hcl1 hcl2 T st2 f2 hW ?_
 intro acc C s' H' m hn IX hf hL h1 h2 h3 h4 q
 show wpAny _ _ (assign (.Name x pos') X.env (.ref acc)) _ _ _
 obtain⟨oC,esC,epC,hoC,hdC,rC⟩:=id hn
 have IP:Inv X (pins++[(C,oC)]) σ H' s':=IX.pins_of fun p hp=>by
  rcases List.mem_append.mp hp with z|z
  ·exact IX.pin p (List.mem_append_right _ z)
  ·have e:p=(C,oC):=by simpa using z
   subst e
   exact⟨hoC,hf,hL,h4,fun v z=>by rw[hdC] at z;cases z⟩
 refine thn (zah hN hi' (.inl hx) (.inr hx) _ s' σ H' (.ref acc) (.ref acc) D.nx IP rfl q) fun _ s'' zq=> ?_
 obtain⟨σ',H'',I'',q''⟩:=zq
 obtain⟨e1,e2,_⟩:=I''.pin (C,oC) (List.mem_append_right _ (List.mem_append_right _ (by simp)))
 refine⟨m,⟨oC,esC,epC,e1,hdC,rC⟩,fun h' sb=>⟨σ',H'', ?_,q''⟩⟩
 exact I''.unpinned.turned (t':=s''.toks) (fun b o hb e=>sb.extBut b o hb e) e2 hL h1 h2 h3
end
theorem PE.mono {X:Cx}{e:Expr}{t t':TE}(h:PE X e t)(m:∀σ H Q,t' σ H Q->t σ H Q):PE X e t':=fun pins s σ H Q I q=>h pins s σ H Q I (m σ H Q q)
theorem zad {H:Hp}{a:Addr}{o:HO}(h:H a=none):Same H (upd H a o):=fun b u e=>by
 rw[zaj (zaJ e h)];exact e
theorem zaW {H H':Hp}{a:Addr}{o:HO}(s:Same H H')(h:H a=none):Same H (upd H' a o):=fun b u e=>by
 rw[zaj (zaJ e h)];exact s b u e
noncomputable def SameT (H H':Hp):Prop:=∀b xs,H b=some (.tup xs)->H' b=some (.tup xs)
theorem Same.t {H H':Hp}(h:Same H H'):SameT H H':=fun b xs e=>h b _ e
theorem SameT.trans {H H1 H2:Hp}(a:SameT H H1)(b:SameT H1 H2):SameT H H2:=fun c o h=>b c o (a c o h)
theorem zbG {H:Hp}{a:Addr}{xs ys:List V}(h:H a=some (.lst xs)):SameT H (upd H a (.lst ys)):=fun b zs e=>by
 rw[zaj (zkK e h (by intro z;cases z))];exact e
structure Yields (J:It) (Ok:Hp->Prop) (xs:List V):Prop where
 go:∀i H,Ok H->i<xs.length->J.go i H
 yld:∀i H x H',Ok H->i<xs.length->J.yld i H x H'->H'=H/\xs[i]? =some x
 stop:∀H,Ok H->J.stop xs.length H
theorem za3 {K:PySem.W.Frag}{a:Addr}{xs:List V}:Yields (Itl K a) (fun H=>SqL K H a xs) xs:=
 ⟨fun i H q h=>⟨xs,xs[i],q,by simp[h]⟩,fun i H x H' q _ y=>⟨y.1,y.2 xs q⟩,fun H q=>⟨xs,q,Nat.le_refl _⟩⟩
theorem zbt {K:PySem.W.Frag}{a:Addr}{xs:List V}:Yields (Itt K a) (fun H=>SqT K H a xs) xs:=
 ⟨fun i H q h=>⟨xs,xs[i],q,by simp[h]⟩,fun i H x H' q _ y=>⟨y.1,y.2 xs q⟩,fun H q=>⟨xs,q,Nat.le_refl _⟩⟩
noncomputable def zaY (lo:Int)(n:Nat):List V:=(List.range n).map fun (i:Nat)=>V.int (lo+(i:Int))
theorem zan (lo:Int)(n:Nat):(zaY lo n).length=n:=by simp[zaY]
theorem zgU {lo:Int}{n i:Nat}(h:i<n):(zaY lo n)[i]? =some (V.int (lo+(i:Int))):=by
 simp[zaY,h]
theorem zao {lo:Int}{n:Nat}:Yields (Itr lo n) (fun _=>True) (zaY lo n):=by
 refine⟨fun i H _ h=> ?_,fun i H x H' _ h y=> ?_,fun H _=> ?_⟩
 ·rw[zan] at h;exact h
 ·obtain ⟨y1,y2⟩:=y
  rw[zan] at h
  exact⟨y1,by rw[zgU h,y2]⟩
 ·rw[zan];exact Nat.le_refl _
section
variable {J:It}{Ok:Hp->Prop}{xs:List V}{tt:TT}{te:TE}{ix:List Nat}{σ:St}{H1:Hp}{Q:VK}
theorem zd2 (Y:Yields J Ok xs)(small:xs.length<sizeLine)(p:V->Bool)(f:V->V)(hok:∀H,Same H1 H->Ok H)
  (ht:∀x∈xs,∀H,Same H1 H->∀Q':Bool->Hp->Prop,Q' (p x) H->tt (some x::ix.map fun i=>σ.getD i none) H Q')
  (he:∀x∈xs,p x=true->∀H,Same H1 H->∀Q':VK,Q' (f x) H->te (some x::ix.map fun i=>σ.getD i none) H Q')
  (fin:∀acc,H1 acc=none->Q (.ref acc) (upd H1 acc (.lst ((xs.filter p).map f)))):
  LcW J H1 (zaU 0) tt te 1 ix σ Q:=by
 intro acc ha
 refine⟨fun i m H=>m=xs.length-i/\i<=xs.length/\H=upd H1 acc (.lst (((xs.take i).filter p).map f)),⟨xs.length,by simp,Nat.zero_le _,rfl⟩, ?_⟩
 rintro i m H ⟨rfl,hi,rfl⟩
 have sm:Same H1 (upd H1 acc (.lst (((xs.take i).filter p).map f))):=zad ha
 have o:=hok _ sm
 by_cases hlt:i<xs.length
 ·refine .inr ⟨Y.go i _ o hlt,fun x H' y=> ?_⟩
  obtain⟨rfl,hx⟩:=Y.yld i _ x H' o hlt y
  have hmem:x∈xs:=List.mem_of_getElem? hx
  have htk:xs.take (i+1)=xs.take i++[x]:=by
   rw[List.take_succ,hx];rfl
  refine⟨⟨rfl,fun j v e=> ?_⟩, ?_⟩
  ·cases j with
   |zero=>cases e
   |succ j=>exact e
  ·refine ht x hmem _ sm _ ?_
   cases hp:p x with
   |false=>
    rw[if_neg Bool.false_ne_true]
    refine⟨xs.length-(i+1),by lia,rfl,hlt, ?_⟩
    rw[htk,List.filter_append]
    simp[hp]
   | true=>
    rw[if_pos rfl]
    refine he x hmem hp _ sm _ ?_
    refine⟨_,zab, ?_,xs.length-(i+1),by lia,rfl,hlt, ?_⟩
    ·rw [List.length_map]
     refine Nat.lt_of_le_of_lt (List.length_filter_le _ _) ?_
     rw[List.length_take];lia
    ·rw [zkJ,htk,List.filter_append,List.map_append]
     simp[hp]
 ·have e:i=xs.length:=by lia
  subst e
  refine .inl ⟨Y.stop _ o, ?_⟩
  rw[List.take_length]
  exact fin acc ha
theorem zdk (Y:Yields J Ok xs)(small:xs.length<sizeLine)(R:V->V->Hp->Prop)(hR:∀x v H H',SameT H H'->R x v H->R x v H')(hok:∀H,Same H1 H->Ok H)
  (he:∀x∈xs,∀H,Same H1 H->∀Q':VK,(∀v H',Same H H'->R x v H'->Q' v H')->te (some x::ix.map fun i=>σ.getD i none) H Q')
  (fin:∀acc ys H',H1 acc=none->Same H1 H'->H' acc=some (.lst ys)->Paired (fun x v=>R x v H') xs ys->Q (.ref acc) H'):
  LcW J H1 (zaU 0) zaG te 1 ix σ Q:=by
 intro acc ha
 refine⟨fun i m H=>m=xs.length-i/\i<=xs.length/\Same H1 H/\∃ys,H acc=some (.lst ys)/\Paired (fun x v=>R x v H) (xs.take i) ys,⟨xs.length,by simp,Nat.zero_le _,zad ha,[],zab,.nil⟩, ?_⟩
 rintro i m H ⟨rfl,hi,sm,ys,hacc,pr⟩
 have o:=hok _ sm
 have hlen:ys.length=i:=by rw[<-Paired.length pr,List.length_take];lia
 by_cases hlt:i<xs.length
 ·refine .inr ⟨Y.go i _ o hlt,fun x H' y=> ?_⟩
  obtain⟨rfl,hx⟩:=Y.yld i _ x H' o hlt y
  have hmem:x∈xs:=List.mem_of_getElem? hx
  have htk:xs.take (i+1)=xs.take i++[x]:=by
   rw[List.take_succ,hx];rfl
  refine⟨⟨rfl,fun j v e=> ?_⟩, ?_⟩
  ·cases j with
   |zero=>cases e
   |succ j=>exact e
  ·unfold zaG
   dsimp only
   rw[if_pos rfl]
   refine he x hmem _ sm _ fun v H4 s4 r4=> ?_
   have h4:H4 acc=some (.lst ys):=s4 _ _ hacc
   refine⟨ys,h4,by lia,xs.length-(i+1),by lia,rfl,hlt,zaW (sm.trans s4) ha,ys++[v],zab, ?_⟩
   rw[htk]
   have st:SameT H4 (upd H4 acc (.lst (ys++[v]))):=zbG h4
   exact Paired.snoc (Paired.mapP pr fun x' v' r'=>hR _ _ _ _ (s4.t.trans st) r') (hR _ _ _ _ st r4)
 ·have e:i=xs.length:=by lia
  subst e
  refine .inl ⟨Y.stop _ o, ?_⟩
  rw[List.take_length] at pr
  exact fin acc ys H ha sm hacc pr
end
section
variable {prog:Program}{w:World}{A:Around}{E:Value->Shared->Prop}{s:Shared}
theorem zcI {it t:Addr}{i:Nat}{its:Array Value}{x:Value}{Q:Value->Shared->Prop}(hi:s.heap.IsTupleIter it t i)(ht:s.heap.IsTuple t its)(hx:its[i]? =some x)
  (q:∀h',h'.IsTupleIter it t (i+1)->Heap.SameBut it s.heap h'->Q x {s with heap:=h'}):wpAny (model prog w) A (Builtin.SmallTypes.nextOf (.ref it)) Q E s:=by
 obtain⟨o,e1,e2,e3⟩:=id hi
 obtain⟨u,f1,f2,nu,f3⟩:=ht
 unfold Builtin.SmallTypes.nextOf
 refine wpAny_bind (wpAny_callSpecial?_slot (name:=Str.ofString "__next__") hi.typeIs F.slot_tuple_iterator_next (wpAny_call_entry F.slot_tuple_iterator_next hi.typeIs F.entry_tuple_iterator_next ?_ (F.args_tuple_iterator_next_1 _)))
 show wpAny _ _ (field (.ref it) 0 >>= _) _ _ s
 refine wpAny_bind (wpAny_field e1 e3 (x:=.ref t) rfl ?_)
 show wpAny _ _ (if (Value.ref t==Value.none)=true then _ else _) _ _ s
 rw[if_neg (show ¬((Value.ref t==Value.none)=true) from Bool.false_ne_true)]
 show wpAny _ _ (field (.ref it) 1 >>= _) _ _ s
 refine wpAny_bind (wpAny_field e1 e3 (x:=.int i 0) rfl ?_)
 show wpAny _ _ (seqItems? (.ref t) >>= _) _ _ s
 refine wpAny_bind (wpAny_seqItems f1 f3 ?_)
 simp only[Int.toNat_natCast,hx]
 refine wpAny_bind (wpAny_setField e1 e3 (by simp) (wpAny_pure ⟨x,rfl,wpAny_pure (q _ ⟨_,Heap.get?_update_self _ e1 (Obj.isFreed_of_fields (Obj.data_mapFields e3 _)),(Obj.cls_mapFields ..).trans e2, ?_⟩ (Heap.SameBut.update ..))⟩))
 rw[Obj.data_mapFields e3]
 simp[rawInt]
theorem zeV {it t:Addr}{i:Nat}{its:Array Value}{Q:Value->Shared->Prop}(hh:A.handled=none)(hi:s.heap.IsTupleIter it t i)(ht:s.heap.IsTuple t its)(hx:its[i]? =none)
  (q:∀h' e,Heap.ExtBut it s.heap h'->(∃o,h'.get? e=some o/\o.cls=.type "StopIteration")->E (.ref e) {s with heap:=h'}):wpAny (model prog w) A (Builtin.SmallTypes.nextOf (.ref it)) Q E s:=by
 obtain⟨o,e1,e2,e3⟩:=id hi
 obtain⟨u,f1,f2,nu,f3⟩:=ht
 unfold Builtin.SmallTypes.nextOf
 refine wpAny_bind (wpAny_callSpecial?_slot (name:=Str.ofString "__next__") hi.typeIs F.slot_tuple_iterator_next (wpAny_call_entry F.slot_tuple_iterator_next hi.typeIs F.entry_tuple_iterator_next ?_ (F.args_tuple_iterator_next_1 _)))
 show wpAny _ _ (field (.ref it) 0 >>= _) _ _ s
 refine wpAny_bind (wpAny_field e1 e3 (x:=.ref t) rfl ?_)
 show wpAny _ _ (if (Value.ref t==Value.none)=true then _ else _) _ _ s
 rw[if_neg (show ¬((Value.ref t==Value.none)=true) from Bool.false_ne_true)]
 show wpAny _ _ (field (.ref it) 1 >>= _) _ _ s
 refine wpAny_bind (wpAny_field e1 e3 (x:=.int i 0) rfl ?_)
 show wpAny _ _ (seqItems? (.ref t) >>= _) _ _ s
 refine wpAny_bind (wpAny_seqItems f1 f3 ?_)
 simp only[Int.toNat_natCast,hx]
 refine wpAny_bind (wpAny_rule (wpAny_bind (wpAny_setField e1 e3 (by simp) ?_)))
 show wpAny _ _ (newExc (.type "StopIteration") [] >>= _) _ _ _
 refine wpAny_bind ?_
 simp only[newExc,newTuple]
 refine wpAny_bind (wpAny_newObj_type ?_ (by size_fits))
 refine wpAny_bind (m:=firstArgMember _ _) (wpAny_of_eq (a:=Value.none) (by first|rfl|(simp only[firstArgMember];rfl)) ?_)
 refine wpAny_newObj_type ?_ (by size_fits)
 simp only[raiseNew]
 refine wpAny_bind (wpAny_handled ?_)
 first|rw[show A.in1.handled=none from hh]|rw[hh]
 refine wpAny_bind (wpAny_pure (wpAny_throw ?_))
 exact q _ _ (((Heap.SameBut.update ..).extBut.push _).push _) ⟨_,Heap.get?_push_size _ rfl,rfl⟩
end
theorem zkk {prog:Program}{w:World}{A:Around}(hh:A.handled=none)(it t:Addr)(hne:t≠it)(its:Array Value):
  Draws prog w A it [it,t] its.size (fun i v=>its[i]? =some v) (fun i h=>h.IsTupleIter it t i/\h.IsTuple t its) where
 live:=fun _ _ st=>let ⟨o,ho,_⟩:=st.1;⟨o,ho⟩
 frame:=fun _ _ _ st hk=>⟨let ⟨o,ho,r⟩:=st.1;⟨o,hk it (by simp) o ho,r⟩,let ⟨o,ho,r⟩:=st.2;⟨o,hk t (by simp) o ho,r⟩⟩
 item:=fun i s Q E hi st hQ=>zcI st.1 st.2 (x:=its[i]) (by simp[hi]) fun h' a b=>hQ _ h' s.toks (by simp[hi]) ⟨a,st.2.extBut b.extBut hne⟩ b
 done:=fun s Q E st hE=>zeV hh st.1 st.2 (by simp) hE
theorem zhK (l:Addr)(items:Array Value)(n:Nat)(dct:Option Addr)(sl:Array (Option Value)):
  Meets (Builtin.«enumerate.__new__» ⟨[.type "enumerate",.ref l],[]⟩) (fun _ R s=>s.heap.get? l=some {cls:=.type "tuple",dict:=dct,data:=.seq items n,slots:=sl}/\
   R (.ok (.ret (.ref (s.heap.push {cls:=.type "tuple_iterator",data:=.fields #[.ref l,.int 0 0]}).objs.size)))
    {s with heap:=(s.heap.push {cls:=.type "tuple_iterator",data:=.fields #[.ref l,.int 0 0]}).push {cls:=.type "enumerate",data:=.fields #[.none,.bool false,.ref s.heap.objs.size,rawInt 0,.none,.none]}}):=
 .of_wp fun prog w A R s h=>by
  obtain⟨hp,g,d,tk,os⟩:=s;obtain⟨hl,h⟩:=h
  have hsub:=sub_enumerate
  have hL:Heap.IsTuple (Shared.heap ⟨hp,g,d,tk,os⟩) l items:=⟨_,hl,rfl,n,rfl⟩
  wp_walk using AutoSeq1.wpAny_loadPart' hl
  refine wpAny_stack_any fun st=>wpAny_pure ?_
  split
  ·rename_i c _ _ _ _ _
   cases (c==Value.type "enumerate")<;>(wp_walk using AutoSeq1.wpAny_loadPart' hl,wpAny_pyIter_tuple hL;exact⟨_,rfl,h⟩)
  ·wp_walk using AutoSeq1.wpAny_loadPart' hl,wpAny_pyIter_tuple hL
   exact⟨_,rfl,h⟩
theorem zgV {prog:Program}{w:World}{A:Around}{E:Value->Shared->Prop}{s:Shared}{l:Addr}{items:Array Value}{Q:Value->Shared->Prop}(hL:s.heap.IsTuple l items)
  (h:∀h',IsEnum h' (s.heap.objs.size+1) s.heap.objs.size 0 .none->h'.IsTupleIter s.heap.objs.size l 0->h'.objs.size=s.heap.objs.size+2->
   (∀b o,s.heap.get? b=some o->h'.get? b=some o)->Q (.ref (s.heap.objs.size+1)) {s with heap:=h'}):
  wpAny (model prog w) A (call (.type "enumerate") [.ref l]) Q E s:=by
 obtain⟨⟨c,dct,dt,sl⟩,hl,hc,n,hd⟩:=hL
 replace hc:c=.type "tuple" :=hc
 replace hd:dt=.seq items n:=hd
 subst hc hd
 refine callType_new F.called_enumerate (by decide) (F.typeCall_enumerate_1 _) (F.newCall_enumerate_1 _) (fun obj=>F.args_object_init_2 obj _) F.entry_enumerate_new (zhK l items n dct sl) ⟨hl, ?_⟩
 have hz:(s.heap.push {cls:=.type "tuple_iterator",data:=.fields #[.ref l,.int 0 0]}).objs.size=s.heap.objs.size+1:=Heap.size_push ..
 show _/\_
 rw[hz]
 have he:=Heap.get?_push_size (s.heap.push {cls:=.type "tuple_iterator",data:=.fields #[.ref l,.int 0 0]}) (o:={cls:=.type "enumerate",data:=.fields #[.none,.bool false,.ref s.heap.objs.size,rawInt 0,.none,.none]}) rfl
 rw[hz] at he
 exact⟨⟨_,he,rfl⟩,h _ he ⟨_,Heap.get?_push_of_some _ (Heap.get?_push_size _ rfl),rfl,rfl⟩ (by rw[Heap.size_push,hz]) fun b o x=>Heap.get?_push_of_some _ (Heap.get?_push_of_some _ x)⟩
section
variable {X:Cx}{pins:List (Addr×Obj)}{σ:St}{H:Hp}{s:Shared}{h':Heap}
theorem Inv.turnedN {t':Nat}{fp:List Addr}(I:Inv X pins σ H s)(hf:∀b∈fp,FpOk X pins H b)(k:∀b o,b∉fp->s.heap.get? b=some o->h'.get? b=some o):Inv X pins σ H {s with heap:=h',toks:=t'}:=by
 have nit:∀b u,H b=some u->b∉fp:=fun b u e z=>by rw[(hf b z).1] at e;cases e
 refine I.step (g':=s.gens) (d':=s.drawn) (ch:=fp) (fun b hb=> ?_) (fun b o _ _ hc e _=>k b o hc e) (fun b o _ _ hc e _=>⟨o.slots,k b o hc e⟩) (fun _ _ _ _ n=>n)
  (fun b o hc e=>⟨o,k b o hc e⟩) (fun _ _ e=>e) (fun _ _ _ e=>e) (fun b ps e=>⟨#[],by rw[e];simp⟩) (fun m hm=> ?_) (fun b u e=> ?_) I.bare
 ·obtain ⟨_,q1,q2,q3,q4,q5⟩:=hf b hb
  exact⟨q3,q1,q4,q5⟩
 ·obtain ⟨o,es,ep,ho,r⟩:=hm
  exact⟨o,es,ep,k _ o (fun z=>(hf _ z).2.1 rfl) ho,r⟩
 ·refine (I.hok b u e).stay (fun c v hc q=>k c v ?_ q) (fun _ q=>q) fun _ _ q=>q
  rcases hc with z|z
  ·rw[z];exact nit b u e
  ·exact nit c _ z
theorem Inv.trackT {a:Addr}{xs:List V}{its:List Value}(I:Inv X pins σ H s)(hn:H a=none)(hs:X.s₀.heap.objs.size<=a)(hL:a≠X.env.locals)(hc:∀x c,X.env.cells.lookup x=some c->c≠a)(hp:∀p∈X.pn++pins,p.1≠a)
  (rv:Vals xs its) (ht:PTup s.heap a its.toArray) (hz:xs.length<=sizeLine):Inv X pins σ (upd H a (.tup xs)) s:=by
 have ne:∀{b u},H b=some u->b≠a:=fun e=>zaJ e hn
 refine⟨I.ok,I.os,I.bare,⟨I.base.keep,I.base.slot,fun b o e n hx=> ?_,I.base.there,fun b ys e=> ?_,fun b o u e=> ?_,fun b ps e=> ?_⟩,I.loc,I.cell, ?_,fun x c e=> ?_,fun p hp'=> ?_,fun b u e=> ?_,I.len⟩
 ·rw [zaj (Nat.ne_of_lt (Nat.lt_of_lt_of_le (Heap.lt_size e) hs))]
  exact I.base.free b o e n hx
 ·have q:=I.base.tups b ys e
  rw[zaj (ne q)];exact q
 ·have q:=I.base.frzs b o u e
  rw[zaj (ne q)];exact q
 ·obtain ⟨m,q⟩:=I.base.tbls b ps e
  exact⟨m,by rw[zaj (ne q)];exact q⟩
 ·rw[zaj (Ne.symm hL)];exact I.free
 ·rw[zaj (hc x c e)];exact I.freeC x c e
 ·obtain ⟨q1,q2,q3⟩:=I.pin p hp'
  exact⟨q1,by rw[zaj (hp p hp')];exact q2,q3⟩
 ·by_cases hb:b=a
  ·subst hb
   rw[zab] at e;cases e
   exact⟨hz,its,rv,ht⟩
  ·rw [zaj hb] at e
   exact (I.hok b u e).stay (fun _ _ _ q=>q) (fun c q=>by rw[zaj (ne q)];exact q) fun c ys q=>by rw[zaj (ne q)];exact q
theorem Inv.turnedT {t':Nat}{fp:List Addr}{xs:List V}{its:List Value}(I:Inv X pins σ H s)(hf:∀b∈fp,FpOk X pins H b)(k:∀b o,b∉fp->s.heap.get? b=some o->h'.get? b=some o)
  (rv:Vals xs its) (ht:PTup h' s.heap.objs.size its.toArray) (hz:xs.length<=sizeLine):Inv X pins σ (upd H s.heap.objs.size (.tup xs)) {s with heap:=h',toks:=t'}:=by
 refine (I.turnedN (t':=t') hf k).trackT (I.hok.fresh (Nat.le_refl _)) I.sz (Nat.ne_of_gt I.lt) (fun x c e=> ?_) (fun p hp=> ?_) rv ht hz
 ·obtain ⟨v,q⟩:=I.cell x c e
  exact Nat.ne_of_lt q.lt
 ·exact Nat.ne_of_lt (Heap.lt_size (I.pin p hp).1)
end
noncomputable def Ite (K:PySem.W.Frag)(a:Addr):It:=
 ⟨fun i H=>∃xs x,SqT K H a xs/\xs[i]? =some x,fun i H v H'=>∃t x,H t=none/\v=.ref t/\H'=upd H t (.tup [.int i,x])/\∀xs,SqT K H a xs->xs[i]? =some x,fun i H=>∃xs,SqT K H a xs/\xs.length=i⟩
theorem zgW {P:Program}{w:World}{K:PySem.W.Frag}{els:List Expr}{kx}{tp:Pos}(a e it:Addr)(hne:e≠it):Turn P w K (.Tuple els kx tp) (Ite K a) [e,it] e (fun i h=>(∃old,IsEnum h e it i old)/\h.IsTupleIter it a i) where
 mem:=by simp
 obj:=fun i h st b hb=>by
  obtain⟨⟨old,he⟩,o,ho,hc,hd⟩:=st
  rcases List.mem_cons.mp hb with rfl|hb
  ·exact⟨_,he,fun v z=>by cases z⟩
  ·rw [List.mem_singleton.mp hb]
   exact⟨o,ho,fun v z=>by rw[hd] at z;cases z⟩
 keep:=fun i h h' st k=>by
  obtain⟨⟨old,he⟩,o,ho,r⟩:=st
  exact⟨⟨old,k e (by simp) _ he⟩,o,k it (by simp) _ ho,r⟩
 item:=by
  intro X hP hw hK hc i pins s σ H E I hf st hg
  subst hP hw hK
  obtain⟨xs,x,hq,hx⟩:=hg
  obtain⟨its,rv,p,hz⟩:=I.tuple hq
  obtain⟨u,hu,ru⟩:=rv.get hx
  obtain⟨⟨old,he⟩,hi⟩:=st
  obtain⟨o,ho,hcl,hd⟩:=id hi
  have hT:s.heap.IsTuple a its.toArray:=p
  have hai:a≠it:=fun z=>by
   obtain⟨o',e1,e2,_⟩:=p
   rw[z,ho] at e1;cases e1;rw[hcl] at e2;injection e2 with z2;revert z2;decide
  have hae:e≠a:=fun z=>by
   obtain⟨o',e1,e2,_⟩:=p
   rw[<-z,he] at e1;cases e1;injection e2 with z2;revert z2;decide
  have hlt:i<its.toArray.size:=by
   have:=(List.getElem?_eq_some_iff.mp hu).1
   simpa using this
  have hh:X.A.in1.handled=none:=I.ok.hd hc
  refine wpAny_pyNext_enum_itemD (zkk hh it a hai its.toArray) he ⟨hi,hT⟩ hlt hne (by simp[hne,hae]) fun x' h1 tk hP1 ho1 hs1 hT1 hz1 hk1=> ?_
  have ex:x'=u:=by
   have q:its[i]? =some x':=by simpa using hP1
   rw[hu] at q;exact (Option.some.inj q).symm
  subst ex
  refine⟨_,rfl,wpAny_letOwnedTupleGo_enum ho1 fun h2 he2 hs2=> ?_⟩
  have hne0:s.heap.objs.size≠e:=Nat.ne_of_gt (Heap.lt_size he)
  have keep:∀b o,b∉[e,it]->s.heap.get? b=some o->h2.get? b=some o:=fun b o hb e0=>(hs2.2 b fun z=>hb (by simp[z])).trans (hk1 b o (fun z=>hb (by simp[z])) (fun z=>hb (by simp[z])) e0)
  refine⟨.ref s.heap.objs.size,_,I.turnedT (h':=h2) (t':=tk+1) (xs:=[.int i,x]) hf keep (.cons ⟨tk,rfl⟩ (.cons ru .nil)) ⟨_,(hs2.2 _ hne0).trans hT1,rfl,⟨_,rfl⟩,rfl,rfl⟩ (by show 2<=sizeLine;decide),rfl,⟨_,x,I.hok.fresh (Nat.le_refl _),rfl,rfl,fun ys hy=>by rw[I.tuple_inj hy hq];exact hx⟩,⟨⟨_,by simpa using he2⟩, ?_⟩,fun b hb=> ?_⟩
  ·obtain ⟨⟨o1,e1,r1⟩,_⟩:=hs1
   exact⟨o1,(hs2.2 it (Ne.symm hne)).trans e1,r1⟩
  ·rcases List.mem_cons.mp hb with rfl|hb'
   ·rw[zaj (Nat.ne_of_lt (Heap.lt_size he))];exact (hf _ hb).1
   ·have e9:=List.mem_singleton.mp hb'
    subst e9
    rw[zaj (Nat.ne_of_lt (Heap.lt_size ho))];exact (hf _ hb).1
 done:=by
  intro X hP hw hK hc i pins s σ H E I hf st hg
  subst hP hw hK
  obtain⟨xs,hq,hx⟩:=hg
  obtain⟨its,rv,p,hz⟩:=I.tuple hq
  obtain⟨⟨old,he⟩,hi⟩:=st
  obtain⟨o,ho,hcl,hd⟩:=id hi
  have hT:s.heap.IsTuple a its.toArray:=p
  have hai:a≠it:=fun z=>by
   obtain⟨o',e1,e2,_⟩:=p
   rw[z,ho] at e1;cases e1;rw[hcl] at e2;injection e2 with z2;revert z2;decide
  have hh:X.A.in1.handled=none:=I.ok.hd hc
  have hl:its.toArray.size=i:=by rw[List.size_toArray,<-rv.length,hx]
  refine wpAny_pyNext_enum_endD (zkk hh it a hai its.toArray) he (by rw[hl];exact⟨hi,hT⟩) fun h1 hk=>⟨rfl, ?_⟩
  exact I.turnedN (t':=s.toks) hf fun b o hb e0=>hk b o (fun z=>hb (by simp[z])) e0
 self:=fun _ _ _ _ _ st h=>by
  obtain⟨⟨old,he⟩,_⟩:=st
  exact wpAny_pyIter_enum he h
section
variable {X:Cx}
noncomputable def zmV (K:PySem.W.Frag)(ta:TA):TI:=fun σ H R=>ta σ H fun vs H1=>∃a,vs=[.ref a]/\(∃xs,SqT K H1 a xs)/\R (Ite K a) H1
theorem zje {els:List Expr}{kx}{tp:Pos}{l:Expr}{ta:TA}{p pos:Pos}(hg:Gl X "enumerate")(hm:X.mg "enumerate" =none)(ha:PA X [l] ta)(hs:starEach [l] X.env=[(false,eval l X.env)]:=by rfl):
  PI X (.Tuple els kx tp) (.Call (.Name "enumerate" p) [l] [] pos) (zmV X.K ta):=by
 intro pins s σ H R I h
 refine Call_ (zcT I hg hm boot_enumerate (PyProof.Rows.callWith_type1 (thn (ha pos pins s σ H _ I h) fun us s1 zq=> ?_) hs rfl))
 obtain⟨vs,H1,I1,r1,q1⟩:=zq
 obtain⟨a,rfl,⟨xs,hq⟩,q⟩:=q1
 obtain⟨u,rfl,ru⟩:=zcf r1
 cases (show u=Value.ref a from ru)
 obtain⟨its,rv,p',hz⟩:=I1.tuple hq
 refine zgV (show s1.heap.IsTuple a its.toArray from p') fun h' he hi hsz hk=>wpAny_pyIter_enum he ?_
 have I2:Inv X pins σ H1 {s1 with heap:=h'}:=I1.kept (t':=s1.toks) hk
 refine⟨s1.heap.objs.size+1,[s1.heap.objs.size+1,s1.heap.objs.size],_,_,H1,rfl,I2,zgW a _ _ (Nat.ne_of_gt (Nat.lt_succ_self _)),⟨⟨_,he⟩,hi⟩,fun b hb=> ?_,q⟩
 rcases List.mem_cons.mp hb with rfl|hb
 ·exact I1.fpOk (Nat.le_succ _) (I1.hok.fresh (Nat.le_succ _))
 ·rw [List.mem_singleton.mp hb]
  exact I1.fpOk (Nat.le_refl _) (I1.hok.fresh (Nat.le_refl _))
end
structure ZipT (h:Heap) (z TI TO i1 i2 a b:Addr) (i:Nat):Prop where
 z:IsZip h z TI TO .none
 ti:IsPair h TI (.ref i1) (.ref i2)
 to:∃x y,IsPair h TO x y
 one:h.IsTupleIter i1 a i
 two:h.IsTupleIter i2 b i
structure ZipNe (z TI TO i1 i2:Addr):Prop where
 az:TI≠z
 bz:TO≠z
 cz:i1≠z
 dz:i2≠z
 ab:TI≠TO
 ac:TI≠i1
 ad:TI≠i2
 bc:TO≠i1
 bd:TO≠i2
 cd:i1≠i2
section
variable {prog:Program}{w:World}{A:Around}{E:Value->Shared->Prop}{s:Shared}{z TI TO i1 i2 a b:Addr}{i:Nat}{xs ys:Array Value}
theorem zcJ {T:Addr}{p q x:Value}{k:Nat}{Q:Unit->Shared->Prop}(hT:IsPair s.heap T p q)(h:∀h',h'.get? T=some {cls:=.type "tuple",data:=.seq ((#[p,q]:Array Value).setIfInBounds k x)}->Heap.SameBut T s.heap h'->Q () {s with heap:=h'}):
  wpAny (model prog w) A (updateSeq T (·.setIfInBounds k x)) Q E s:=wpAny_updateSeq_pair hT h
end
theorem SqT.fpNe {X:Cx}{pins:List (Addr×Obj)}{σ:St}{H:Hp}{s:Shared}{t c:Addr}{zs:List V}(I:Inv X pins σ H s)(hq:SqT X.K H t zs)(f:FpOk X pins H c):t≠c:=by
 rintro rfl
 rcases hq with (h|⟨o,h⟩)|h
 ·rw[f.1] at h;cases h
 ·rw[f.1] at h;cases h
 ·obtain ⟨o,_,_,hl,_⟩:=h
  have e:=I.ok.mod.kin _ _ hl
  rcases f.2.2.2.1 with z|z
  ·exact I.ok.noex _ _ e z
  ·exact absurd (Nat.lt_of_lt_of_le (Heap.lt_size e) (Nat.le_trans I.ok.bsz z)) (Nat.lt_irrefl _)
section
variable {X:Cx}
end
section
variable {X:Cx}{e:Expr}{te:TE}{p2 pos:Pos}
end
section
variable {X:Cx}
end
mutual
inductive Is (H:Hp):V->PyData->Prop
 |non:Is H .non .none
 |bl (b:Bool):Is H (.bl b) (.bool b)
 |int (i:Int):Is H (.int i) (.int i)
 |str (x:Str):Is H (.str x) (.str x)
 |tup {a:Addr} {vs:List V} {ds:List PyData}:H a=some (.tup vs)->IsAll H vs ds->Is H (.ref a) (.tuple ds)
 |lst {a:Addr} {vs:List V} {ds:List PyData}:H a=some (.lst vs)->IsAll H vs ds->Is H (.ref a) (.list ds)
inductive IsAll (H:Hp):List V->List PyData->Prop
 |nil:IsAll H [] []
 |cons {v:V} {vs:List V} {d:PyData} {ds:List PyData}:Is H v d->IsAll H vs ds->IsAll H (v::vs) (d::ds)
end
theorem IsAll.ints {H:Hp}:∀ns:List Int,IsAll H (ns.map V.int) (ns.map PyData.int)
 |[]=>.nil
 |n::r=>.cons (.int n) (IsAll.ints r)
theorem Is.ints {H:Hp}{a:Addr}{ns:List Int}(h:H a=some (.tup (ns.map V.int))):Is H (.ref a) (.tuple (ns.map PyData.int)):=.tup h (IsAll.ints ns)
section
variable {X:Cx}{pins:List (Addr×Obj)}{σ:St}{H:Hp}{s:Shared}
mutual
theorem Inv.reads (I:Inv X pins σ H s):∀{v:V} {d:PyData} {u:Value},Is H v d->RelV v u->∃as,Reads s.heap u d as
 |_,_,_,.non,r=>by cases (show _=Value.none from r);exact⟨_,.none⟩
 |_,_,_,.bl b,r=>by cases (show _=Value.bool b from r);exact⟨_,.bool b⟩
 |_,_,_,.int i,r=>by obtain⟨t,rfl⟩:=r;exact⟨_,.int i t⟩
 |_,_,_,.str x,r=>by obtain⟨t,rfl⟩:=r;exact⟨_,.str x t⟩
 |_,_,_,.tup (a:=a) (vs:=vs) h al,r=>by
  cases (show _=Value.ref a from r)
  obtain⟨_,its,rv,o,ho,hc,⟨n,hd⟩,_⟩:=(show ObjOk X.prog X.w H s.heap a (.tup vs) from I.hok a _ h)
  obtain⟨as,q⟩:=Inv.readsAll I al rv
  exact⟨as,.tuple ho hc hd (by simpa using q)⟩
 |_,_,_,.lst (a:=a) (vs:=vs) h al,r=>by
  cases (show _=Value.ref a from r)
  obtain⟨_,its,n,rv,ho⟩:=(show ObjOk X.prog X.w H s.heap a (.lst vs) from I.hok a _ h)
  obtain⟨as,q⟩:=Inv.readsAll I al rv
  exact⟨_,.list ho rfl rfl (by simpa using q)⟩
theorem Inv.readsAll (I:Inv X pins σ H s):∀{vs:List V} {ds:List PyData} {us:List Value},IsAll H vs ds->Vals vs us->∃as,ReadsAll s.heap us ds as
 |_,_,_,.nil,.nil=>⟨_,.nil⟩
 |_,_,_,.cons h al,.cons r rs=>by
  obtain⟨as,q⟩:=Inv.reads I h r
  obtain⟨bs,q'⟩:=Inv.readsAll I al rs
  exact⟨_,.cons q q'⟩
end
noncomputable def rEqD:R2:=fun x y H Q=>∃d e,Is H x d/\Is H y e/\SeqAt.shaped d=true/\SeqAt.shaped e=true/\Q (.bl (PyData.eqv d e)) H
noncomputable def rNeD:R2:=fun x y H Q=>∃d e,Is H x d/\Is H y e/\SeqAt.shaped d=true/\SeqAt.shaped e=true/\Q (.bl (!PyData.eqv d e)) H
theorem zl6 (hu:X.A.units+64<cLine):OpR X (compareOp .Eq) rEqD:=by
 intro pins s σ H x y v u Q I rx ry h
 obtain⟨d,e,hd,he,sd,se,q⟩:=h
 obtain⟨as,ra⟩:=I.reads hd rx
 obtain⟨bs,rb⟩:=I.reads he ry
 exact eq_dataH ra rb sd se hu ⟨.bl _,H,I,rfl,q⟩
theorem zhL (hu:X.A.units+64<cLine):OpR X (compareOp .NotEq) rNeD:=by
 intro pins s σ H x y v u Q I rx ry h
 obtain⟨d,e,hd,he,sd,se,q⟩:=h
 obtain⟨as,ra⟩:=I.reads hd rx
 obtain⟨bs,rb⟩:=I.reads he ry
 exact ne_dataH ra rb sd se hu ⟨.bl _,H,I,rfl,q⟩
end
theorem zd3:∀ns:List Int,PyData.canLayAll0 (ns.map PyData.int)=true
 |[]=>rfl
 |_::r=>by simp[PyData.canLayAll0,PyData.canLay0,zd3 r]
theorem zdl:∀ns:List Int,PyData.depthAll (ns.map PyData.int)=0
 |[]=>rfl
 |_::r=>by simp[PyData.depthAll,PyData.depth,zdl r]
theorem zd4:∀ns ms:List Int,PyData.eqvAll (ns.map PyData.int) (ms.map PyData.int)=decide (ns=ms)
 |[],[]=>by simp[PyData.eqvAll]
 |[],_::_=>by simp[PyData.eqvAll]
 |_::_,[]=>by simp[PyData.eqvAll]
 |a::r,b::t=>by
  simp only[List.map_cons,PyData.eqvAll,PyData.eqv,zd4 r t]
  by_cases h:a=b<;>by_cases h':r=t<;>simp[h,h']
noncomputable def zhM (sc:Scope)(N:List Str)(scope:Scope)(N':List Str)(n:Nat)(ix:List Nat):Bool:=
 scope.kind==.function&&scope.names.all (fun y=>y.2 != .cell)&&scope.names.all (fun y=>y.2 != .local||scope.names.lookup y.1==some .local)&&
 scope.names.all (fun y=>y.2 != .free||(sc.names.lookup y.1==some .cell||sc.names.lookup y.1==some .free))&&scope.names.all (fun y=>y.2 != .free||scope.names.lookup y.1 != some .local)&&
 N'.length==n+ix.length&&(List.range ix.length).all fun j=>match ix[j]?,N'[n+j]? with
  |some i,some x=>N[i]? ==some x&&scope.names.contains (x,.free)
  |_,_=>false
theorem CompScope.of {X:Cx}{sc:Scope}{N:List Str}{scope:Scope}{N':List Str}{n:Nat}{ix:List Nat}(h:zhM sc N scope N' n ix=true)(hs:X.env.scope=sc)(hN:X.N=N):CompScope X scope N' n ix:=by
 unfold zhM at h
 simp only[Bool.and_eq_true,List.all_eq_true] at h
 obtain⟨⟨⟨⟨⟨⟨h1,h2⟩,h3⟩,h4⟩,h5⟩,h6⟩,h7⟩:=h
 subst hs hN
 refine⟨eq_of_beq h1,fun y hy=>by simpa using h2 y hy,fun y hy hl=> ?_,fun y hy hf=> ?_,fun y hy hl=> ?_,eq_of_beq h6,fun j i e=> ?_⟩
 ·have:=h3 y hy
  rw[hl] at this
  simpa using this
 ·have:=h4 y hy
  rw[hf] at this
  simpa using this
 ·have:=h5 _ hy
  rw[hl] at this
  simp at this
 ·have hj:j<ix.length:=(List.getElem?_eq_some_iff.mp e).1
  have:=h7 j (List.mem_range.mpr hj)
  rw[e] at this
  cases hx:N'[n+j]? with
  |none=>rw[hx] at this;simp at this
  |some x=>
   rw[hx] at this
   simp only[Bool.and_eq_true] at this
   exact⟨x,rfl,eq_of_beq this.1,by simpa using this.2⟩
structure Cal (P:Program) (w:World) (K:PySem.W.Frag) (mg:Str->Option Value) (base:Heap) (k:Nat) (x:Str) (ps:List Str) (sp:Sp):Prop where
 ex:∃f fd,FnOk P w K mg base CX0 k f fd ps sp/\mg x=some (.ref f)/\PySem.W.keepIn K (.ref f)=true/\Binds K fd ps []
section
variable {X:Cx}{k:Nat}{ps:List Str}{sp:Sp}{x:Str}{p pos:Pos}{e:Expr}{es:List Expr}{t:TA}
theorem zak (C:Cal X.prog X.w X.K X.mg X.base k x ps sp)(hr:Room k X.A)(hg:Gl X x)(ha:PA X (e::es) t)(hdb:(x==("__debug__" :Str))=false:=by decide)(he:starEach (e::es) X.env=(false,eval e X.env)::starEach es X.env:=by rfl)
  (hpl:(backTo pos (starEach es X.env)).any (·.1)=false:=by rfl):PE X (.Call (.Name x p) (e::es) [] pos) (fun σ H Q=>t σ H fun vs H1=>sp vs H1 Q E0):=by
 obtain⟨f,fd,F,hm,hk,hb⟩:=C.ex
 exact (zkS F hr hg hm hk hb .nil zl4 ha hdb he hpl).mono fun σ H Q q=>by
  have e:(fun (vs:List V) (H1:Hp)=>sp (vs++[]) H1 Q E0)=fun vs H1=>sp vs H1 Q E0:=by funext vs H1;rw[List.append_nil]
  show t σ H fun vs H1=>sp (vs++[]) H1 Q E0
  rw[e]
  exact q
end
structure Top (mg:Str->Option Value):Prop where
 n_len:mg "len" =none
 n_tuple:mg "tuple" =none
 n_list:mg "list" =none
 n_range:mg "range" =none
 n_int:mg "int" =none
 n_bool:mg "bool" =none
 n_isinstance:mg "isinstance" =none
 n_all:mg "all" =none
 n_zip:mg "zip" =none
 n_enumerate:mg "enumerate" =none
 n_min:mg "min" =none
 n_sum:mg "sum" =none
 n_max:mg "max" =none
 n_abs:mg "abs" =none
 n_sorted:mg "sorted" =none
section
variable {X:Cx}
noncomputable def zmW:R2:=fun x y H Q=>∃a b xs ys,x=.ref a/\y=.ref b/\H a=some (.tup xs)/\H b=some (.tup ys)/\xs.length+ys.length<=sizeLine/\∀p H',Same H H'->H' p=some (.tup (xs++ys))->Q (.ref p) H'
theorem zfD:OpR X (binaryOp .Add) zmW:=by
 intro pins s σ H x y v u Q I rx ry h
 obtain⟨a,b,xs,ys,rfl,rfl,ha,hb,hz,q⟩:=h
 have ha':SqT X.K H a xs:=SqT.of ha
 have hb':SqT X.K H b ys:=SqT.of hb
 by_cases hx:xs=[]
 ·subst hx
  cases rx
  cases ry
  obtain⟨its,r1,p1,_⟩:=I.tuple ha'
  obtain⟨its2,r2,p2,_⟩:=I.tuple hb'
  cases r1
  obtain⟨⟨cls,dd,data,sl⟩,ho,hc,n,hd⟩:=id p1
  obtain⟨⟨cls2,dd2,data2,sl2⟩,ho2,hc2,n2,hd2⟩:=id p2
  simp only at hc hd hc2 hd2
  subst hc hd hc2 hd2
  exact concat_meets ⟨_,ho,rfl⟩ ⟨_,ho2,rfl⟩ noFill_tuple_add seq_tuple_add PySem.F.slot_tuple_add PySem.F.entry_tuple_add (PySem.F.args_tuple_add_2 _ _)
   (tuple_addW0 a b #[] its2.toArray n n2 dd dd2 sl sl2 rfl) ⟨ho,ho2,⟨.ref b,H,I,rfl,q b H (Same.refl H) hb⟩⟩
 ·refine zkU pins s σ H _ _ v u Q I rx ry ⟨a,b,xs,ys,rfl,rfl,ha',hb',hx,hz,fun hy=> ?_,fun _ p hp=> ?_⟩
  ·subst hy
   exact q a H (Same.refl H) (by rw[List.append_nil];exact ha)
  ·exact q p _ (zad hp) zab
end
theorem zaS {n:Nat}(h:n<=1000):n<sizeLine:=Nat.lt_of_le_of_lt h (by decide)
theorem zaq (ns:List Int):(ns.map V.int).length=ns.length:=List.length_map ..
theorem zfE {α:Type}(l:List α):l.filter (fun _=>true)=l:=by simp
noncomputable def Keep (p q:Addr)(H H':Hp):Prop:=∀b o,H b=some o->b≠p->b≠q->H' b=some o
theorem Keep.refl (p q:Addr)(H:Hp):Keep p q H H:=fun _ _ h _ _=>h
theorem Keep.trans {p q:Addr}{H H1 H2:Hp}(a:Keep p q H H1)(b:Keep p q H1 H2):Keep p q H H2:=fun c o h h1 h2=>b c o (a c o h h1 h2) h1 h2
theorem Same.keep {p q:Addr}{H H':Hp}(s:Same H H'):Keep p q H H':=fun b o h _ _=>s b o h
noncomputable def num0 (n:Nat):List Int:=(List.range n).map fun (i:Nat)=>(i:Int)
theorem za0 (n:Nat):zaY 0 n=(num0 n).map V.int:=by
 unfold zaY num0
 rw[List.map_map]
 apply List.map_congr_left
 intro i _
 show V.int (0+(i:Int))=V.int (i:Int)
 rw[Int.zero_add]
theorem zc2 {n:Nat}{x:Int}(h:x∈num0 n):0<=x/\x<n:=by
 unfold num0 at h
 obtain⟨i,hi,rfl⟩:=List.mem_map.mp h
 have:=List.mem_range.mp hi
 lia
theorem zbW {X:Cx}{i j:Nat}{x y:Str}{px py pt:Pos}{kt:Nat}(hc:X.calm=true)(hN:X.N.Nodup)(hi:X.N[i]? =some x)(hj:X.N[j]? =some y)(hx:Loc X.env.scope x)(hy:Loc X.env.scope y)(fx:X.fn x=true∨X.env.scope.names.lookup x=some .local)(fy:X.fn y=true∨X.env.scope.names.lookup y=some .local):
  PG X (.Tuple [.Name x px,.Name y py] kt pt) (gTup X.K 2 (zce (zaU i) (zce (zaU j) gNil))):=zdc hc (zaA (zah hN hi hx fx) (zaA (zah hN hj hy fy) zbU))
theorem zgf {X:Cx}(K:PySem.W.Frag){i j:Nat}{x y:Str}{px py pt:Pos}{kt:Nat}(hK:X.K=K)(hc:X.calm=true)(hN:X.N.Nodup)(hi:X.N[i]? =some x)(hj:X.N[j]? =some y)(hx:Loc X.env.scope x)(hy:Loc X.env.scope y)(fx:X.fn x=true∨X.env.scope.names.lookup x=some .local)(fy:X.fn y=true∨X.env.scope.names.lookup y=some .local):
  PG X (.Tuple [.Name x px,.Name y py] kt pt) (gTup K 2 (zce (zaU i) (zce (zaU j) gNil))):=hK▸zdc hc (zaA (zah hN hi hx fx) (zaA (zah hN hj hy fy) zbU))
theorem zbl {X:Cx}(K:PySem.W.Frag)(hK:X.K=K):IxR X (rIxT K):=hK▸zbE
theorem zd5 {X:Cx}(K:PySem.W.Frag)(hK:X.K=K):IxR X (rIxL K):=hK▸zbe
theorem zdm {ys:List Int}{i:Int}(h0:0<=i)(h1:i<ys.length):atI (ys.map V.int) i=some (.int (ys.getD i.toNat 0)):=by
 have hlt:i.toNat<ys.length:=by lia
 have e:((i.toNat:Nat):Int)=i:=by lia
 have:=zav (xs:=ys.map V.int) (j:=i.toNat) (v:=.int (ys.getD i.toNat 0)) (by rw[List.getElem?_map,List.getD_eq_getElem?_getD,List.getElem?_eq_getElem hlt];rfl)
 rwa [e] at this
theorem za5 {n:Nat}{x:V}(h:x∈zaY 0 n):∃k:Int,x=.int k/\0<=k/\k<n:=by
 rw[za0] at h
 obtain⟨k,hk,rfl⟩:=List.mem_map.mp h
 exact⟨k,rfl,zc2 hk⟩
structure Def (K:PySem.W.Frag) (x:Str) (st:Stmt):Prop where
 ex:∃(f:Addr) (oc:Value) (od an:Option Addr) (kV doc pm cdv ct:Value) (osl:Array (Option Value)),PySem.W.nsIn K mainGlobals x=some (some (.ref f))/\
  K.lookup f=some ⟨oc,od,.func (PySem.W.fnOf x x (za9 st) (zaN st) (zae st) .none kV doc pm an cdv ct),osl⟩/\PySem.W.codeIn K cdv x=true/\PySem.W.keepIn K (.ref f)=true
section
variable {K:PySem.W.Frag}{h:Heap}{mg:Str->Option Value}{x:Str}{st:Stmt}
theorem Def.of {f:Addr}{oc:Value}{od an:Option Addr}{kV doc pm cdv ct:Value}{osl:Array (Option Value)}(a:PySem.W.nsIn K mainGlobals x=some (some (.ref f)))
  (l:K.lookup f=some ⟨oc,od,.func (PySem.W.fnOf x x (za9 st) (zaN st) (zae st) .none kV doc pm an cdv ct),osl⟩) (c:PySem.W.codeIn K cdv x=true) (k:PySem.W.keepIn K (.ref f)=true):Def K x st:=
 ⟨f,oc,od,an,kV,doc,pm,cdv,ct,osl,a,l,c,k⟩
theorem Def.fn (D:Def K x st)(X:K.In h)(G:h.Ns mainGlobals mg):∃f fd,Fun K x x st f fd/\mg x=some (.ref f):=by
 obtain⟨f,oc,od,an,kV,doc,pm,cdv,ct,osl,a,l,c,k⟩:=D.ex
 exact⟨f,_,zkj (st:=st) l c k,PySem.W.mg_of X G a⟩
end
structure TopK (K:PySem.W.Frag):Prop where
 k_len:PySem.W.nsIn K mainGlobals "len" =some none
 k_tuple:PySem.W.nsIn K mainGlobals "tuple" =some none
 k_list:PySem.W.nsIn K mainGlobals "list" =some none
 k_range:PySem.W.nsIn K mainGlobals "range" =some none
 k_int:PySem.W.nsIn K mainGlobals "int" =some none
 k_bool:PySem.W.nsIn K mainGlobals "bool" =some none
 k_isinstance:PySem.W.nsIn K mainGlobals "isinstance" =some none
 k_all:PySem.W.nsIn K mainGlobals "all" =some none
 k_zip:PySem.W.nsIn K mainGlobals "zip" =some none
 k_enumerate:PySem.W.nsIn K mainGlobals "enumerate" =some none
 k_min:PySem.W.nsIn K mainGlobals "min" =some none
 k_sum:PySem.W.nsIn K mainGlobals "sum" =some none
 k_max:PySem.W.nsIn K mainGlobals "max" =some none
 k_abs:PySem.W.nsIn K mainGlobals "abs" =some none
 k_sorted:PySem.W.nsIn K mainGlobals "sorted" =some none
theorem TopK.top {K:PySem.W.Frag}{h:Heap}{mg:Str->Option Value}(T:TopK K)(X:K.In h)(G:h.Ns mainGlobals mg):Top mg:=
  ⟨PySem.W.mg_none_of X G T.k_len,PySem.W.mg_none_of X G T.k_tuple,PySem.W.mg_none_of X G T.k_list,PySem.W.mg_none_of X G T.k_range,PySem.W.mg_none_of X G T.k_int,PySem.W.mg_none_of X G T.k_bool,PySem.W.mg_none_of X G T.k_isinstance,
   PySem.W.mg_none_of X G T.k_all,PySem.W.mg_none_of X G T.k_zip,PySem.W.mg_none_of X G T.k_enumerate,PySem.W.mg_none_of X G T.k_min,PySem.W.mg_none_of X G T.k_sum,PySem.W.mg_none_of X G T.k_max,PySem.W.mg_none_of X G T.k_abs,PySem.W.mg_none_of X G T.k_sorted⟩
open Sem (wp)
open AutoSeq1 (wpAny_loadPart')
section
variable {prog:Program}{w:World}{A:Around}{E:Value->Shared->Prop}{s:Shared}
end
section
variable {X:Cx}
end
open Sem (wp)
open AutoSeq1 (wpAny_loadPart')
section
variable {prog:Program}{w:World}{A:Around}{E:Value->Shared->Prop}{s:Shared}
theorem zgg {it t:Addr}{items:Array Value}(hne:t≠it):∀(n i:Nat) (s:Shared) (Q:List Value->Shared->Prop),s.heap.IsListIter it t i->s.heap.IsList t items->i+n<=items.size->
  (∀h',h'.IsListIter it t (i+n)->Heap.SameBut it s.heap h'->Q ((items.toList.drop i).take n) {s with heap:=h'})->wpAny (model prog w) A (draw (.ref it) n) Q E s
 |0,i,s,Q,hit,_,_,hQ=>by
  show wpAny _ _ (pure []) Q E s
  exact wpAny_pure (by simpa using hQ s.heap hit (Heap.SameBut.refl ..))
 | n+1,i,s,Q,hit,ht,hle,hQ=>by
  have hlt:i<items.size:=by lia
  show wpAny _ _ (pyNext (.ref it) >>= _) Q E s
  refine wpAny_bind (wpAny_pyNext_list_item hit ht (x:=items[i]) (by simp[hlt]) fun h₁ hit₁ hs₁=> ?_)
  have ht':h₁.IsList t items:=by
   obtain⟨o,e,r⟩:=ht
   exact⟨o,(hs₁.2 t hne).trans e,r⟩
  refine wpAny_bind (wpAny_holding (zgg hne n (i+1) _ _ hit₁ ht' (by lia) fun h₂ hit₂ hs₂=>wpAny_pure ?_))
  have hd:items.toList.drop i=items[i]::items.toList.drop (i+1):=by simp[List.drop_eq_getElem_cons,hlt]
  have:=hQ h₂ (by rw[show i+(n+1)=i+1+n by lia];exact hit₂) (hs₁.trans hs₂)
  rw[hd,List.take_succ_cons] at this
  exact this
theorem zc1 {env:Env}{elts:List Expr}{x1}{pos:Pos}{t:Addr}{items:Array Value}{Q:Unit->Shared->Prop}(hh:A.handled=none)(ht:s.heap.IsList t items)
  (hn:(assignEach elts env).length=items.size) (hstar:(assignEach elts env).findIdx? (·.1)=none)
  (h:∀h',Heap.ExtBut s.heap.objs.size s.heap h'->wpAny (model prog w) A (assignInOrder ((assignEach elts env).map (·.2)) items.toList) Q E {s with heap:=h'}):
  wpAny (model prog w) A (assign (.Tuple elts x1 pos) env (.ref t)) Q E s:=by
 rw[assign_Tuple]
 refine wpAny_bind (wpAny_standAt ?_)
 unfold unpack
 rw[hn,hstar]
 have hlt:t≠s.heap.objs.size:=by obtain⟨o,ho,_⟩:=ht;exact Nat.ne_of_lt (Heap.lt_size ho)
 have hty:s.TypeIs (.ref t) "list" :=by obtain⟨o,ho,hc,_⟩:=ht;exact⟨o,ho,hc⟩
 have kp:∀{h':Heap},Heap.ExtBut s.heap.objs.size s.heap h'->h'.IsList t items:=fun k=>by
  obtain⟨o,e,r⟩:=ht
  exact⟨o,k t o hlt e,r⟩
 refine wpAny_bind (wpAny_holding ?_)
 unfold unpackItems
 refine wpAny_bind ?_
 unfold notIterableAtAll
 refine wpAny_bind (wpAny_specialOf hty PySem.F.slot_list_iter.lookup ?_)
 refine wpAny_pure ?_
 simp only[Bool.false_eq_true,if_false]
 refine wpAny_bind (wpAny_holding (wpAny_pyIter_list ht ?_))
 have ht0:(s.heap.push {cls:=.type "list_iterator",data:=.fields #[.ref t,.int 0 0]}).IsList t items:=by
  obtain⟨o,e,r⟩:=ht
  exact⟨o,Heap.get?_push_of_some _ e,r⟩
 refine wpAny_bind (wpAny_holding (zgg hlt items.size 0 _ _ ⟨_,Heap.get?_push_size _ rfl,rfl,rfl⟩ ht0 (by lia) fun h₁ hit₁ hs₁=> ?_))
 have hall:List.take items.size (List.drop 0 items.toList)=items.toList:=by
  rw[List.drop_zero];exact List.take_of_length_le (by simp)
 rw[hall]
 rw[if_neg (by simp)]
 have ht₁:h₁.IsList t items:=by
  obtain⟨o,e,r⟩:=ht0
  exact⟨o,(hs₁.2 t hlt).trans e,r⟩
 refine wpAny_bind (wpAny_holding (wpAny_pyNext_list_end hh hit₁ ht₁ (by simp) fun h₂ he₂=> ?_))
 simp only[Option.isSome_none,Bool.false_eq_true,if_false]
 exact wpAny_pure (h h₂ fun b o hb e=>he₂ b o hb (hs₁.extBut b o hb (Heap.get?_push_of_some _ e)))
end
section
variable {X:Cx}{pos:Pos}
noncomputable def gLst (K:PySem.W.Frag)(n:Nat)(t:TGs):TG:=fun v σ H Q=>∃a xs,v=.ref a/\SqL K H a xs/\xs.length=n/\t xs σ H Q
theorem zl7 {es:List Expr}{k:Nat}{t:TGs}{n:Nat}(hc:X.calm=true)(h:PGs X es t)
  (hn:(assignEach es X.env).length=n:=by rfl) (hst:(assignEach es X.env).findIdx? (·.1)=none:=by rfl):PG X (.Tuple es k pos) (gLst X.K n t):=by
 intro pins s σ H v u Q I r hw
 obtain⟨a,xs,e1,hq,hl,hw⟩:=hw
 subst e1
 cases r
 obtain⟨its,rv,ht,hz⟩:=I.list hq
 refine zc1 (I.ok.hd hc) ht.isList (by simp[hn,<-hl,rv.length]) hst fun h' hx=> ?_
 have I1:Inv X pins σ H {s with heap:=h'}:=I.kept (t':=s.toks) fun b o e=>hx b o (Nat.ne_of_lt (Heap.lt_size e)) e
 exact h pins _ σ H xs _ Q I1 (by simpa using rv) hw
end
section
variable {prog:Program}{w:World}{A:Around}{E:Value->Shared->Prop}{s:Shared}
end
section
variable {X:Cx}
end
noncomputable def atO (ns:List Int)(x:Int):Int:=ns.getD x.toNat 0
noncomputable def Ord (m:Nat)(ns:List Int):Prop:=ns.Perm (num0 m)
theorem zbj (n:Nat):(num0 n).length=n:=by simp[num0]
theorem zbm (n:Nat):(num0 n).Nodup:=by
 unfold num0
 refine List.Pairwise.map _ (fun a b (h:a≠b)=> ?_) (List.nodup_range (n:=n))
 show (a:Int)≠(b:Int)
 lia
theorem mem_num0 {n:Nat}{x:Int}:x∈num0 n↔0<=x/\x<n:=by
 refine⟨zc2,fun zq=> ?_⟩
 obtain⟨h0,h1⟩:=zq
 unfold num0
 exact List.mem_map.mpr ⟨x.toNat,List.mem_range.mpr (by lia),by lia⟩
theorem zjf {n i:Nat}(h:i<n):(num0 n)[i]? =some (i:Int):=by simp[num0,h]
section
variable {m:Nat}{ns ms ks:List Int}{x:Int}
theorem Ord.len (h:Ord m ns):ns.length=m:=by rw[List.Perm.length_eq h,zbj]
theorem Ord.nodup (h:Ord m ns):ns.Nodup:=h.symm.nodup (zbm m)
end
theorem zjg {K:PySem.W.Frag}{a:Addr}{xs:List V}{g:TG}{tb:TS}{D:Ends}{σ:L2.St}{H:Hp}(Pv:Nat->L2.St->Hp->Prop)(h0:Pv 0 σ H)(hl:∀i σ H,i<=xs.length->Pv i σ H->SqT K H a xs)
  (hs:∀i x t σ H,xs[i]? =some x->Pv i σ H->H t=none->g (.ref t) σ (upd H t (.tup [.int i,x])) fun σ2 H2=>tb {D with nx:=Pv (i+1),ct:=Pv (i+1),bk:=D.nx} σ2 H2) (hd:∀σ H,Pv xs.length σ H->D.nx σ H):
  ∃W:Nat->Nat->L2.St->Hp->Prop,(∃m,W 0 m σ H)/\∀i m σ H,W i m σ H->
   ((Ite K a).stop i H/\D.nx σ H)∨((Ite K a).go i H/\∃N:L2.St->Hp->Prop,(∀σ' H',N σ' H'->∃m',m'<m/\W (i+1) m' σ' H')/\∀x H',(Ite K a).yld i H x H'->g x σ H' fun σ2 H2=>tb {D with nx:=N,ct:=N,bk:=D.nx} σ2 H2):=by
 refine⟨fun i m σ H=>m=xs.length-i/\i<=xs.length/\Pv i σ H,⟨xs.length,by simp,Nat.zero_le _,h0⟩, ?_⟩
 rintro i m σ H ⟨rfl,hi,p⟩
 have q:=hl i σ H hi p
 by_cases hlt:i<xs.length
 ·refine .inr ⟨⟨xs,xs[i],q,by simp[hlt]⟩,Pv (i+1),fun σ' H' p'=>⟨xs.length-(i+1),by lia,rfl,hlt,p'⟩,fun x H' y=> ?_⟩
  obtain⟨t,x',ht,rfl,rfl,y⟩:=y
  exact hs i x' t σ _ (y xs q) p ht
 ·have e:i=xs.length:=by lia
  subst e
  exact .inl ⟨⟨xs,q,rfl⟩,hd σ H p⟩
noncomputable def itO (ns:List Int)(x:Int):Nat->Int
 |0=>x
 |k+1=>atO ns (itO ns x k)
noncomputable def orbO (ns:List Int)(x:Int)(k:Nat):List Int:=(List.range k).map (itO ns x)
structure IsRound (ns:List Int) (x:Int) (row:List Int):Prop where
 ex:∃k,row=orbO ns x (k+1)/\itO ns x (k+1)=x
 nd:row.Nodup
theorem zkl {α:Type}[DecidableEq α]:∀{l L:List α},l.Nodup->(∀y∈l,y∈L)->l.length<=L.length
 |[],_,_,_=>Nat.zero_le _
 | a::t,L,h,s=>by
  have ha:=s a (by simp)
  have hn:=List.nodup_cons.mp h
  have h1:t.length<=(L.erase a).length:=zkl hn.2 fun y hy=>by
   have hne:y≠a:=fun e=>hn.1 (e▸hy)
   exact (List.mem_erase_of_ne hne).mpr (s y (by simp[hy]))
  have h2:=List.length_erase_of_mem ha
  have h3:0<L.length:=List.length_pos_of_mem ha
  simp only[List.length_cons]
  lia
section
variable {m:Nat}{ns:List Int}{x y:Int}
open Classical in
noncomputable def rowO (ns:List Int)(x:Int):List Int:=if h:∃row,IsRound ns x row then choose h else []
structure MetO (ns:List Int) (m:Nat) (rows:List (List Int)):Prop where
 nd:rows.flatten.Nodup
 rng:∀y∈rows.flatten,0<=y/\y<m
 clo:∀y∈rows.flatten,atO ns y∈rows.flatten
 row:∀r∈rows,∃f:Int,0<=f/\f<m/\r=rowO ns f
theorem zcK {l L:List Int}(hl:l.Nodup)(hL:L.Nodup)(e:∀y,y∈l↔y∈L):l.Perm L:=(List.perm_ext_iff_of_nodup hl hL).mpr e
end
section
variable {X:Cx}
end
section
variable {prog:Program}{w:World}{A:Around}{E:Value->Shared->Prop}{s:Shared}
theorem zcg {t sl:Addr}{items:Array Value}{vl vu:Value}{lo hi:Option Int}{Q:Value->Shared->Prop}(ht:IsTup s.heap t items)(hs:s.heap.IsSliceOf sl vl vu .none)(pl:IsPart vl lo)(pu:IsPart vu hi)
  (hw:HT.sIx items.size 0 lo=0/\HT.sIx items.size items.size hi=items.size) (h:Q (.ref t) s):wpAny (model prog w) A (getItem (.ref t) (.ref sl)) Q E s:=by
 obtain⟨os,hos,hcs,hds⟩:=id hs
 have hTs:s.TypeIs (.ref sl) "slice" :=⟨os,hos,hcs⟩
 unfold getItem
 try with_reducible refine wpAny_holding ?_
 first|refine wpAny_bind (wpAny_pure ?_)|skip
 refine wpAny_bind (wpAny_sequenceKey ht.typeIs (by decide) ?_)
 refine wpAny_bind (wpAny_callSpecial?_slot (name:=Str.ofString "__getitem__") ht.typeIs PyProof.Rows.slot_tuple_getitem
  (wpAny_call_entry PyProof.Rows.slot_tuple_getitem ht.typeIs entry_tuple_getitem ?_ (args_tuple_getitem _ _)))
 show wpAny _ _ (Builtin.Tuple.tupleItemsOf (.ref t) >>= _) _ _ s
 refine wpAny_bind (tupleItemsOf_ ht ?_)
 refine wpAny_bind (wpAny_typeOf hTs ?_)
 rw[if_pos (by decide)]
 refine wpAny_bind (HT.sliceApplied_gen hs pl pu ?_)
 show wpAny _ _ (if (((HT.sIx items.size 0 lo:Nat):Int)==0&&(1:Int)==1&&(HT.sIx items.size items.size hi-HT.sIx items.size 0 lo)==items.size)=true then _ else _) _ _ s
 rw[if_pos (by rw[hw.1,hw.2];simp)]
 unfold Builtin.Tuple.tupleIsExact
 refine wpAny_bind (wpAny_bind (wpAny_typeOf ht.typeIs (wpAny_pure ?_)))
 rw[if_pos (by decide)]
 refine wpAny_bind (wpAny_rule ?_)
 exact wpAny_pure ⟨_,rfl,wpAny_pure h⟩
end
section
variable {X:Cx}{e:Expr}{te:TE}{p2 pos:Pos}
end
noncomputable abbrev RowsAt (H:Hp)(zs:List Addr)(rows:List (List Int)):Prop:=Paired (fun (z:Addr) (r:List Int)=>H z=some (.tup (r.map V.int))) zs rows
theorem RowsAt.sameT {H H':Hp}{zs:List Addr}{rows:List (List Int)}(h:RowsAt H zs rows)(s:SameT H H'):RowsAt H' zs rows:=Paired.mapP h fun _ _ q=>s _ _ q
theorem RowsAt.same {H H':Hp}{zs:List Addr}{rows:List (List Int)}(h:RowsAt H zs rows)(s:Same H H'):RowsAt H' zs rows:=h.sameT s.t
theorem RowsAt.data {H:Hp}:∀{zs:List Addr} {rows:List (List Int)},RowsAt H zs rows->IsAll H (zs.map V.ref) (rows.map fun r=>PyData.tuple (r.map PyData.int))
 |_,_,.nil=>.nil
 |_,_,.cons r t=>.cons (Is.ints r) (RowsAt.data t)
theorem zd6:∀rows:List (List Int),PyData.canLayAll0 (rows.map fun r=>PyData.tuple (r.map PyData.int))=true
 |[]=>rfl
 |r::t=>by
  simp only[List.map_cons,PyData.canLayAll0,PyData.canLay0,zd3,zd6 t]
  rfl
theorem zdn:∀rows:List (List Int),PyData.depthAll (rows.map fun r=>PyData.tuple (r.map PyData.int))<=1
 |[]=>Nat.zero_le _
 |r::t=>by
  have:=zdn t
  simp only[List.map_cons,PyData.depthAll,PyData.depth,zdl]
  lia
theorem zd7:∀rows:List (List Int),PyData.eqvAll (rows.map fun r=>PyData.tuple (r.map PyData.int)) (rows.map fun r=>PyData.tuple (r.map PyData.int))=true
 |[]=>rfl
 |r::t=>by
  simp[PyData.eqvAll,PyData.eqv,zd4,zd7 t]
structure Bits (bs:List Bool) (m:Nat) (S:List Int):Prop where
 len:bs.length=m
 bit:∀i,i<m->bs[i]? =some (decide ((i:Int)∈S))
theorem zaC (zs:List Addr):(zs.map V.ref).length=zs.length:=List.length_map ..
inductive Ents (P:Params):List DictEntry->List (Str×Addr)->Prop
 |nil:Ents P [] []
 |cons {x:Str} {t:Tok} {f:Addr} {es:List DictEntry} {kvs:List (Str×Addr)}:Ents P es kvs->Ents P (⟨PyData.keyHash P x,.str x t,.ref f⟩::es) ((x,f)::kvs)
structure GDict (K:PySem.W.Frag) (P:Params) (C:Addr) (kvs:List (Str×Addr)):Prop where
 ex:∃es n,K.lookup C=some {cls:=.type "dict",data:=.dict es n}/\Ents P es.toList kvs
 nd:(kvs.map (·.1)).Nodup
section
variable {X:Cx}
end
structure CalF (P:Program) (w:World) (K:PySem.W.Frag) (mg:Str->Option Value) (base:Heap) (k:Nat) (f:Addr) (ps:List Str) (sp:Sp):Prop where
 ex:∃fd,FnOk P w K mg base CX0 k f fd ps sp/\PySem.W.keepIn K (.ref f)=true/\Binds K fd ps []
section
variable {X:Cx}{k:Nat}{x:Str}{p pos:Pos}{e:Expr}{es:List Expr}{t:TA}{tf:TE}
noncomputable def zmX:List V->Hp->VK->Prop:=fun xs H Q=>∃(l:Addr) (ns:List Int),xs=[.ref l]/\H l=some (.lst (ns.map V.int))/\Q (.int ns.sum) H
theorem zbp (hc:X.calm=true):zbQ X (.builtin "sum") zmX:=by
 intro pins s σ H xs us Q I rs h
 obtain⟨l,ns,rfl,hH,q⟩:=h
 obtain⟨u,rfl,ru⟩:=zcf rs
 cases (show u=Value.ref l from ru)
 obtain⟨z,its,n,r,hl,e⟩:=I.lstM hH
 have hI:=zbs r
 obtain⟨xs,hxs⟩:=hI.allInts.items
 have hnum:(numsOf its.toArray.toList)=ns:=hI.numsOf
 refine sum_intListG (xs:=xs) (I.ok.hd hc) (by rw[<-hxs];exact⟨_,e,rfl,n,rfl⟩) fun h' tk t' hk=> ?_
 have hs:preSum (numAt xs) xs.size=ns.sum:=by
  rw[preSum_eq,List.take_of_length_le (by simp)]
  rw[<-nums_intItems,<-hxs,hnum]
 rw[hs]
 exact⟨.int ns.sum,H,I.kept (t':=tk) hk,⟨_,rfl⟩,q⟩
end
noncomputable abbrev lc2 (elt tg iter:Expr)(ifs:List Expr)(tg2 iter2:Expr)(ifs2:List Expr)(scope:Scope)(pos:Pos):Expr:=.ListComp elt [⟨tg,iter,ifs,0⟩,⟨tg2,iter2,ifs2,0⟩] scope pos
theorem zfF (elt tg iter:Expr)(ifs:List Expr)(tg2 iter2:Expr)(ifs2:List Expr)(scope:Scope)(pos:Pos)(it acc:Value)(env:Env):
  compTurn (lc2 elt tg iter ifs tg2 iter2 ifs2 scope pos) 1 it acc env=(do
   standAt iter2.pos
   match<-pyNext it with
   |none=>pure (.done .next)
   | some v=>
    letOwnedTupleGo tg2 it v
    assign tg2 env v
    let mut ok:=true
    for c in ifs2 do
     if ok then ok<-isTrue c env (eval c env)
    if ok then
     (do let _<-call (.builtin "list.append") [acc,<-eval elt env])
    again (.compLoop (lc2 elt tg iter ifs tg2 iter2 ifs2 scope pos) 1 it acc env)):=by rfl
theorem zeW (elt tg iter:Expr)(ifs:List Expr)(tg2 iter2:Expr)(ifs2:List Expr)(scope:Scope)(pos:Pos)(it acc:Value)(env:Env):
  compTurn (lc2 elt tg iter ifs tg2 iter2 ifs2 scope pos) 0 it acc env=(do
   standAt iter.pos
   match<-pyNext it with
   |none=>pure (.done .next)
   | some v=>
    letOwnedTupleGo tg it v
    assign tg env v
    let mut ok:=true
    for c in ifs do
     if ok then ok<-isTrue c env (eval c env)
    if ok then
     let x<-eval iter2 env
     standAt iter2.pos
     let x<-foldedSetIterable iter2 env x
     let _<-runOwn (.compStart (lc2 elt tg iter ifs tg2 iter2 ifs2 scope pos) 1 (<-holding [x] (pyIter x)) acc env) env
    again (.compLoop (lc2 elt tg iter ifs tg2 iter2 ifs2 scope pos) 0 it acc env)):=by rfl
section
variable {prog:Program}{w:World}{A:Around}{R:Result->Shared->Prop}{s:Shared}{elt tg iter tg2 iter2:Expr}{ifs ifs2:List Expr}{scope:Scope}{pos:Pos}{it acc:Value}{env:Env}
theorem zfG (I:Nat->Shared->Prop)
  (turn:∀n s,I n s->wpAny (model prog w) A (pyNext it) (fun r s₁=>match r with
   |none=>R (.ok .next) s₁
   | some v=>wpAny (model prog w) A (letOwnedTupleGo tg2 it v) (fun _ s₂=>wpAny (model prog w) A (assign tg2 env v) (fun _ s₃=>
     wpAny (model prog w) A (forIn ifs2 true fun c r=>if r=true then do let ok<-isTrue c env (eval c env);pure (ForInStep.yield ok) else pure (ForInStep.yield r)) (fun ok s₄=>
      if ok=true then wpAny (model prog w) A (eval elt env) (fun x s₅=>
       wpAny (model prog w) A (call (.builtin "list.append") [acc,x]) (fun _ s₆=>∃m,m<n/\I m s₆) (fun _ _=>False) s₅) (fun _ _=>False) s₄
      else ∃m,m<n/\I m s₄) (fun _ _=>False) s₃) (fun _ _=>False) s₂) (fun _ _=>False) s₁) (fun _ _=>False) s)
  (n:Nat) (h:I n s):
  codeAny (model prog w) A (.compLoop (lc2 elt tg iter ifs tg2 iter2 ifs2 scope pos) 1 it acc env) R s:=by
 refine codeAny_loop rfl I (fun n s hI=> ?_) n h
 show wpAny _ A ((compTurn (lc2 elt tg iter ifs tg2 iter2 ifs2 scope pos) 1 it acc env).onRaise (fun x=>do noteFrame x env;theTreesLotGoes x)) _ _ s
 refine wpAny_noted (wpAny_noRaise ?_)
 rw[zfF]
 refine wpAny_bind (wpAny_standAt (wpAny_bind (thn (turn n s hI) fun r s₁ h₁=> ?_)))
 cases r with
 |none=>exact wpAny_pure h₁
 |some v=>
  refine wpAny_bind (thn h₁ fun _ s₂ h₂=>wpAny_bind (thn h₂ fun _ s₃ h₃=>wpAny_bind (thn h₃ fun ok s₄ h₄=> ?_)))
  cases ok with
  |false=>exact wpAny_pure ⟨rfl,h₄⟩
  |true=>exact wpAny_bind (wpAny_bind (thn h₄ fun x s₅ h₅=>wpAny_bind (thn h₅ fun _ s₆ h₆=>wpAny_pure (wpAny_pure ⟨rfl,h₆⟩))))
theorem zeX (hs2:∀x,foldedSetIterable iter2 env x=pure x)(I:Nat->Shared->Prop)
  (turn:∀n s,I n s->wpAny (model prog w) A (pyNext it) (fun r s₁=>match r with
   |none=>R (.ok .next) s₁
   | some v=>wpAny (model prog w) A (letOwnedTupleGo tg it v) (fun _ s₂=>wpAny (model prog w) A (assign tg env v) (fun _ s₃=>
     wpAny (model prog w) A (forIn ifs true fun c r=>if r=true then do let ok<-isTrue c env (eval c env);pure (ForInStep.yield ok) else pure (ForInStep.yield r)) (fun ok s₄=>
      if ok=true then wpAny (model prog w) A (eval iter2 env) (fun x s₅=>wpAny (model prog w) A (pyIter x) (fun it2 s₆=>
       codeAny (model prog w) A (.compStart (lc2 elt tg iter ifs tg2 iter2 ifs2 scope pos) 1 it2 acc env) (fun r s₇=>r=.ok .next/\∃m,m<n/\I m s₇) s₆) (fun _ _=>False) s₅) (fun _ _=>False) s₄
      else ∃m,m<n/\I m s₄) (fun _ _=>False) s₃) (fun _ _=>False) s₂) (fun _ _=>False) s₁) (fun _ _=>False) s)
  (n:Nat) (h:I n s):
  codeAny (model prog w) A (.compLoop (lc2 elt tg iter ifs tg2 iter2 ifs2 scope pos) 0 it acc env) R s:=by
 refine codeAny_loop rfl I (fun n s hI=> ?_) n h
 show wpAny _ A ((compTurn (lc2 elt tg iter ifs tg2 iter2 ifs2 scope pos) 0 it acc env).onRaise (fun x=>do noteFrame x env;theTreesLotGoes x)) _ _ s
 refine wpAny_noted (wpAny_noRaise ?_)
 rw[zeW]
 refine wpAny_bind (wpAny_standAt (wpAny_bind (thn (turn n s hI) fun r s₁ h₁=> ?_)))
 cases r with
 |none=>exact wpAny_pure h₁
 | some v=>
  refine wpAny_bind (thn h₁ fun _ s₂ h₂=>wpAny_bind (thn h₂ fun _ s₃ h₃=>wpAny_bind (thn h₃ fun ok s₄ h₄=> ?_)))
  cases ok with
  |false=>exact wpAny_pure ⟨rfl,h₄⟩
  |true=>
   refine wpAny_bind (thn h₄ fun x s₅ h₅=>wpAny_bind (wpAny_standAt (wpAny_bind (wpAny_of_eq (hs2 x) (wpAny_bind (wpAny_holding (thn h₅ fun it2 s₆ h₆=> ?_)))))))
   refine wpAny_bind (wpAny_runOwn (codeAny_mono h₆ fun r s₇ hr=> ?_))
   obtain⟨rfl,hr⟩:=hr
   exact wpAny_pure ⟨rfl,hr⟩
theorem zb9
  (h0:codeAny (model prog w) A (.compLoop (lc2 elt tg iter ifs tg2 iter2 ifs2 scope pos) 1 it acc env) R s)
  (h:wpAny (model prog w) A (pyIter it) (fun it' s'=>codeAny (model prog w) A (.compLoop (lc2 elt tg iter ifs tg2 iter2 ifs2 scope pos) 1 it' acc env) R s')
   (notedBy (model prog w) A env fun x s'=>R (.error x) s') s):
  codeAny (model prog w) A (.compStart (lc2 elt tg iter ifs tg2 iter2 ifs2 scope pos) 1 it acc env) R s:=by
 refine codeAny_of_tree ?_
 show wpAny _ _ ((compStart (lc2 elt tg iter ifs tg2 iter2 ifs2 scope pos) 1 it acc env).onRaise (fun x=>do noteFrame x env;standAt theWindowsPlace)) _ _ s
 refine wpAny_notedAt ?_
 unfold compStart
 show wpAny _ _ (ask >>= _) _ _ s
 refine wpAny_bind (wpAny_askSetting (wpAny_ite ?_))
 split
 ·first
   |exact wpAny_bind (wpAny_pure (wpAny_pure (And.intro rfl h0)))
   |exact wpAny_pure (And.intro rfl h0)
 ·refine wpAny_bind (wpAny_rule (wpAny_bind (wpAny_standAt (wpAny_bind (wpAny_mono h (fun it' s' h'=>wpAny_pure (And.intro rfl h')) fun _ _ e=>e)))))
end
noncomputable def InW (J:It)(H1:Hp)(g:TG)(tt:TT)(te:TE)(acc:Addr)(σ:St)(Kt:Hp->Prop):Prop:=
 ∃ V:Nat->Nat->Hp->Prop,(∃m,V 0 m H1)/\∀i m H,V i m H->
  (J.stop i H/\Kt H)∨(J.go i H/\∀x H',J.yld i H x H'->g x σ H' fun σ2 H2=>Wk σ σ2/\tt σ2 H2 fun b H3=>
   if b=true then te σ2 H3 fun v H4=>∃ys,H4 acc=some (.lst ys)/\ys.length<sizeLine/\∃m',m'<m/\V (i+1) m' (upd H4 acc (.lst (ys++[v])))
   else ∃m',m'<m/\V (i+1) m' H3)
noncomputable def LcW2 (J:It)(H1:Hp)(g:TG)(tt:TT)(wi2:TI)(g2:TG)(tt2:TT)(te:TE)(n:Nat)(ix:List Nat)(σ:St)(Q:VK):Prop:=∀acc,H1 acc=none->
 ∃ W:Nat->Nat->Hp->Prop,(∃m,W 0 m (upd H1 acc (.lst [])))/\∀i m H,W i m H->
  (J.stop i H/\Q (.ref acc) H)∨(J.go i H/\∀x H',J.yld i H x H'->g x (zaX n ix σ) H' fun σ2 H2=>Wk (zaX n ix σ) σ2/\tt σ2 H2 fun b H3=>
   if b=true then wi2 σ2 H3 fun J2 H4=>InW J2 H4 g2 tt2 te acc σ2 fun H5=>∃m',m'<m/\W (i+1) m' H5
   else ∃m',m'<m/\W (i+1) m' H3)
noncomputable def tLc2 (wi:TI)(g:TG)(tt:TT)(wi2:TI)(g2:TG)(tt2:TT)(te:TE)(n:Nat)(ix:List Nat):TE:=fun σ H Q=>wi σ H fun J H1=>LcW2 J H1 g tt wi2 g2 tt2 te n ix σ Q
section
variable {X:Cx}{elt tg iter tg2 iter2:Expr}{ifs ifs2:List Expr}{scope:Scope}{pos:Pos}{wi wi2:TI}{g g2:TG}{tt tt2:TT}{te:TE}{N':List Str}{n:Nat}{ix:List Nat}
theorem zgh {pins:List (Addr×Obj)}{σ:St}{H2:Hp}{s2:Shared}{cl:List (Str×Addr)}{it:Addr}{fp:List Addr}{tn:Nat->Heap->Prop}{J:It}{Q:VK}{R:Value->Addr->Result->Shared->Prop}
  (hc:X.calm=true) (S:CompScope X scope N' n ix)
  (hY:∀s₂ H₂ cl C fp,PG (X.comp s₂ H₂ N' scope cl C fp) tg g/\PTs (X.comp s₂ H₂ N' scope cl C fp) ifs tt/\PI (X.comp s₂ H₂ N' scope cl C fp) tg2 iter2 wi2/\PG (X.comp s₂ H₂ N' scope cl C fp) tg2 g2/\PTs (X.comp s₂ H₂ N' scope cl C fp) ifs2 tt2/\
   PE (X.comp s₂ H₂ N' scope cl C fp) elt te)
  (hs2:∀env x,foldedSetIterable iter2 env x=pure x)
  (I2:Inv X pins σ H2 s2) (hcl1:∀x c,cl.lookup x=some c->X.env.cells.lookup x=some c) (hcl2:∀y∈scope.names,y.2=.free->cl.lookup y.1=X.env.cells.lookup y.1)
  (T:Turn X.prog X.w X.K tg J fp it tn) (st2:tn 0 s2.heap) (f2:∀b∈fp,FpOk X pins H2 b)
  (hW:LcW2 J H2 g tt wi2 g2 tt2 te n ix σ Q)
  (hR:∀acc C s' H' m,s'.heap.Ns C m->Inv X pins σ H' s'->H' C=none->C≠X.env.locals->(C∈X.ex∨X.s₀.heap.objs.size<=C)->(∀x c,X.env.cells.lookup x=some c->c≠C)->(∀p∈X.pn++pins,p.1≠C)->C∉X.fs->Q (.ref acc) H'->R (.ref acc) C (.ok .next) s'):
  wpAny (model X.prog X.w) X.A (newList []) (fun acc s₃=>wpAny (model X.prog X.w) X.A (newFunctionEnv scope X.env.globals cl [] X.env.qual none .none (some X.env)) (fun cenv s₄=>
   codeAny (model X.prog X.w) X.A (.compStart (lc2 elt tg iter ifs tg2 iter2 ifs2 scope pos) 0 (.ref it) acc {cenv with scope:=relabel scope X.env}) (R acc cenv.locals) s₄) X.xe s₃) X.xe s2:=by
 refine wpAny_newObj_type (wpAny_newFunctionEnv S.nocell (by intro y hy;simp at hy) (fun h₁ hns₁ hsb₁=> ?_) S.kind)
 dsimp only at hns₁ hsb₁ ⊢
 generalize hH2:s2.heap.push {cls:=.type "list",dict:=none,data:=.seq ([]:List Value).toArray}=G at hns₁ hsb₁ ⊢
 have hC:G.objs.size=s2.heap.objs.size+1:=by rw[<-hH2,Heap.size_push]
 have hlt:∀b∈fp,b<s2.heap.objs.size:=fun b hb=>by
  obtain⟨o,e,_⟩:=T.obj _ _ st2 b hb
  exact Heap.lt_size e
 have old:∀b o,s2.heap.get? b=some o->h₁.get? b=some o:=fun b o e=>hsb₁.extBut b o (by rw[hC];exact Nat.ne_of_lt (Nat.lt_succ_of_lt (Heap.lt_size e))) (Heap.get?_push_of_some _ (hH2▸Heap.get?_push_of_some _ e))
 have hacc:h₁.get? s2.heap.objs.size=some {cls:=.type "list",dict:=none,data:=.seq ([]:List Value).toArray}:=hsb₁.extBut _ _ (by rw[hC];exact Nat.ne_of_lt (Nat.lt_succ_self _)) (Heap.get?_push_of_some _ (hH2▸Heap.get?_push_size _ rfl))
 obtain⟨W,⟨m0,w0⟩,turn⟩:=hW s2.heap.objs.size (I2.hok.fresh (Nat.le_refl _))
 obtain⟨hYg,hYt,hYi,hYg2,hYt2,hYe⟩:=hY s2 H2 cl G.objs.size fp
 have fpY:∀{H':Hp},(∀b∈fp,H' b=none)->∀b∈fp,FpOk (X.comp s2 H2 N' scope cl G.objs.size fp) [] H' b:=fun {H'} hn b hb=>by
  obtain⟨_,q1,q2,q3,q4,q5⟩:=f2 b hb
  refine⟨hn b hb, ?_,fun z=> ?_,.inl hb,fun x c e=>q4 x c (hcl1 x c e),fun p hp=>absurd (show p∈([]:List (Addr×Obj)) from hp) (by simp)⟩
  ·show b≠G.objs.size
   rw[hC]
   exact Nat.ne_of_lt (Nat.lt_succ_of_lt (hlt b hb))
  ·rcases List.mem_cons.mp (I2.stkSub b z) with y|y
   ·exact q1 y
   ·exact q2 y
 have loop:∀s₃:Shared,s₃={s2 with heap:=h₁,toks:=s2.toks+([]:List (Str×Value)).length}->
   codeAny (model X.prog X.w) X.A (.compLoop (lc2 elt tg iter ifs tg2 iter2 ifs2 scope pos) 0 (.ref it) (.ref s2.heap.objs.size) (compEnvC scope cl G.objs.size X.env)) (R (.ref s2.heap.objs.size) G.objs.size) s₃:=by
  rintro s₃ rfl
  have I4:=zd1 (tk:=s2.toks+([]:List (Str×Value)).length) I2 S hcl1 hcl2 f2 hlt (Nat.le_refl _) (by rw[hC];exact Nat.le_succ _) (by rw[hC];exact Nat.ne_of_gt (Nat.lt_succ_self _)) old hacc hns₁
  refine zeX (fun x=>hs2 _ x) (fun n' s'=>∃i H',Inv (X.comp s2 H2 N' scope cl G.objs.size fp) [] (zaX n ix σ) H' s'/\tn i s'.heap/\(∀b∈fp,H' b=none)/\W i n' H') ?_ m0
   ⟨0,_,I4,T.keep _ _ _ st2 fun b hb o e=>old b o e,fun b hb=> ?_,w0⟩
  ·rintro n' s3 ⟨i,H3,I3,st3,fr3,w3⟩
   rcases turn i n' H3 w3 with⟨stop,q⟩|⟨go,step⟩
   ·refine thn (T.done (X.comp s2 H2 N' scope cl G.objs.size fp) rfl rfl rfl hc i [] s3 _ H3 _ I3 (fpY fr3) st3 stop) fun r s4 zq=> ?_
    obtain⟨hr,I5⟩:=zq
    subst hr
    obtain⟨mC,hnC,_⟩:=I5.loc
    have IX:Inv X pins σ H3 s4:=I2.call' I5.os I5.base I5.hok I5.bare fun b hb=>by
     obtain⟨_,q1,q2,q3,q4,q5⟩:=f2 b hb
     exact⟨q3,q1,q4,q5⟩
    refine hR _ _ s4 H3 mC hnC IX I5.free ?_ (.inr ?_) (fun x c e z=> ?_) (fun p hp z=> ?_) (I2.nofs (by rw[hC];exact Nat.le_succ _)) q
    ·rw [hC]
     exact Nat.ne_of_gt (Nat.lt_succ_of_lt I2.lt)
    ·rw [hC]
     exact Nat.le_succ_of_le I2.sz
    ·obtain ⟨v,q⟩:=I2.cell x c e
     rw[hC] at z
     exact absurd z (Nat.ne_of_lt (Nat.lt_succ_of_lt q.lt))
    ·rw [hC] at z
     exact absurd z (Nat.ne_of_lt (Nat.lt_succ_of_lt (Heap.lt_size (I2.pin p hp).1)))
   ·refine thn (T.item (X.comp s2 H2 N' scope cl G.objs.size fp) rfl rfl rfl hc i [] s3 _ H3 _ I3 (fpY fr3) st3 go) fun r s4 zq=> ?_
    obtain⟨u,hr,h4⟩:=zq
    subst hr
    refine thn h4 fun _ s5 zq=> ?_
    obtain⟨x,H5,I5,r5,y5,st5,fr5⟩:=zq
    have I5':=I5.pinned (fpY fr5) (T.obj _ _ st5)
    refine thn (hYg _ s5 _ H5 x u _ I5' r5 (step x H5 y5)) fun _ s6 zq=> ?_
    obtain⟨σ6,H6,I6,wk,q6⟩:=zq
    have back:∀{H':Hp} {s':Shared},Inv (X.comp s2 H2 N' scope cl G.objs.size fp) ([]++zaR fp s5.heap) σ6 H' s'->
      Inv (X.comp s2 H2 N' scope cl G.objs.size fp) [] (zaX n ix σ) H' s'/\tn (i+1) s'.heap/\∀b∈fp,H' b=none:=fun {H' s'} I7=>by
     refine⟨I7.unpinned.weak wk.1 wk.2,T.keep _ _ _ st5 fun b hb o e=>(I7.pin (b,o) (List.mem_append_right _ (List.mem_append_right _ (zay hb e)))).1,fun b hb=> ?_⟩
     obtain⟨o,e,d⟩:=T.obj _ _ st5 b hb
     exact (I7.pin (b,o) (List.mem_append_right _ (List.mem_append_right _ (zay hb e)))).2.1
    refine thn (hYt _ s6 σ6 H6 _ I6 q6) fun ok s7 zq=> ?_
    obtain⟨H7,I7,q7⟩:=zq
    cases ok with
    |false=>
     rw[if_neg Bool.false_ne_true] at q7 ⊢
     obtain⟨m',hm,w7⟩:=q7
     obtain⟨b1,b2,b3⟩:=back I7
     exact⟨m',hm,i+1,H7,b1,b2,b3,w7⟩
    | true=>
     rw[if_pos rfl] at q7 ⊢
     refine thn (hYi _ s7 σ6 H7 _ I7 q7) fun xv s8 h8=>thn h8 fun itv s9 h9=> ?_
     obtain⟨it2,fp2,tn2,J2,H9,rfl,I9,T2,st9,f9,V,⟨m1,v0⟩,turn2⟩:=h9
     have stat2:∀{H':Hp},(∀b∈fp2,H' b=none)->∀b∈fp2,FpOk (X.comp s2 H2 N' scope cl G.objs.size fp) ([]++zaR fp s5.heap) H' b:=fun hn b hb=>⟨hn b hb,(f9 b hb).2⟩
     have loop2:codeAny (model X.prog X.w) X.A (.compLoop (lc2 elt tg iter ifs tg2 iter2 ifs2 scope pos) 1 (.ref it2) (.ref s2.heap.objs.size) (compEnvC scope cl G.objs.size X.env))
       (fun r s₇=>r=.ok .next/\∃m,m<n'/\∃i H',Inv (X.comp s2 H2 N' scope cl G.objs.size fp) [] (zaX n ix σ) H' s₇/\tn i s₇.heap/\(∀b∈fp,H' b=none)/\W i m H') s9:=by
      refine zfG (fun n'' s'=>∃j H',Inv (X.comp s2 H2 N' scope cl G.objs.size fp) ([]++zaR fp s5.heap) σ6 H' s'/\tn2 j s'.heap/\(∀b∈fp2,H' b=none)/\V j n'' H') ?_ m1 ⟨0,H9,I9,st9,fun b hb=>(f9 b hb).1,v0⟩
      rintro n'' s10 ⟨j,H10,I10,st10,fr10,v10⟩
      rcases turn2 j n'' H10 v10 with⟨stop2,q10⟩|⟨go2,step2⟩
      ·refine thn (T2.done (X.comp s2 H2 N' scope cl G.objs.size fp) rfl rfl rfl hc j _ s10 _ H10 _ I10 (stat2 fr10) st10 stop2) fun r s11 zq=> ?_
       obtain⟨hr,I11⟩:=zq
       subst hr
       obtain⟨m',hm,w10⟩:=q10
       obtain⟨b1,b2,b3⟩:=back I11
       exact⟨rfl,m',hm,i+1,H10,b1,b2,b3,w10⟩
      ·refine thn (T2.item (X.comp s2 H2 N' scope cl G.objs.size fp) rfl rfl rfl hc j _ s10 _ H10 _ I10 (stat2 fr10) st10 go2) fun r s11 zq=> ?_
       obtain⟨u2,hr,h11⟩:=zq
       subst hr
       refine thn h11 fun _ s12 zq=> ?_
       obtain⟨y,H12,I12,r12,y12,st12,fr12⟩:=zq
       have I12':=I12.pinned (stat2 fr12) (T2.obj _ _ st12)
       refine thn (hYg2 _ s12 _ H12 y u2 _ I12' r12 (step2 y H12 y12)) fun _ s13 zq=> ?_
       obtain⟨σ13,H13,I13,wk2,q13⟩:=zq
       have back2:∀{H':Hp} {s':Shared},Inv (X.comp s2 H2 N' scope cl G.objs.size fp) (([]++zaR fp s5.heap)++zaR fp2 s12.heap) σ13 H' s'->
         Inv (X.comp s2 H2 N' scope cl G.objs.size fp) ([]++zaR fp s5.heap) σ6 H' s'/\tn2 (j+1) s'.heap/\∀b∈fp2,H' b=none:=fun {H' s'} I7=>by
        refine⟨I7.unpinned.weak wk2.1 wk2.2,T2.keep _ _ _ st12 fun b hb o e=>(I7.pin (b,o) (List.mem_append_right _ (List.mem_append_right _ (zay hb e)))).1,fun b hb=> ?_⟩
        obtain⟨o,e,d⟩:=T2.obj _ _ st12 b hb
        exact (I7.pin (b,o) (List.mem_append_right _ (List.mem_append_right _ (zay hb e)))).2.1
       refine thn (hYt2 _ s13 σ13 H13 _ I13 q13) fun ok2 s14 zq=> ?_
       obtain⟨H14,I14,q14⟩:=zq
       cases ok2 with
       |false=>
        rw[if_neg Bool.false_ne_true] at q14 ⊢
        obtain⟨m',hm,v14⟩:=q14
        obtain⟨b1,b2,b3⟩:=back2 I14
        exact⟨m',hm,j+1,H14,b1,b2,b3,v14⟩
       |true=>
        rw[if_pos rfl] at q14 ⊢
        refine thn (hYe _ s14 σ13 H14 _ I14 q14) fun xv s15 zq=> ?_
        obtain⟨v15,H15,I15,r15,ys,ha,hz,m',hm,w15⟩:=zq
        refine thn (zbi _ s15 σ13 H15 (.ref s2.heap.objs.size) [v15] (.ref s2.heap.objs.size) [xv] (fun _ H'=>H'=upd H15 s2.heap.objs.size (.lst (ys++[v15]))) I15 rfl (.cons r15 .nil) ⟨_,ys,v15,rfl,rfl,ha,hz,rfl⟩) fun _ s16 zq=> ?_
        obtain⟨_,H16,I16,_,e16⟩:=zq
        subst e16
        obtain⟨b1,b2,b3⟩:=back2 I16
        exact⟨m',hm,j+1,_,b1,b2,b3,w15⟩
     exact zb9 loop2 (T2.self _ 0 _ _ _ st9 loop2)
  ·rw [zaj (Nat.ne_of_lt (hlt b hb))]
   exact (f2 b hb).1
 exact codeAny_compStart_list (loop _ rfl) (T.self _ 0 _ _ _ (T.keep _ _ _ st2 fun b hb o e=>old b o e) (loop _ rfl))
theorem zl8 (hc:X.calm=true)(S:CompScope X scope N' n ix)(hi:PI X tg iter wi)
  (hY:∀s₂ H₂ cl C fp,PG (X.comp s₂ H₂ N' scope cl C fp) tg g/\PTs (X.comp s₂ H₂ N' scope cl C fp) ifs tt/\PI (X.comp s₂ H₂ N' scope cl C fp) tg2 iter2 wi2/\PG (X.comp s₂ H₂ N' scope cl C fp) tg2 g2/\PTs (X.comp s₂ H₂ N' scope cl C fp) ifs2 tt2/\
   PE (X.comp s₂ H₂ N' scope cl C fp) elt te)
  (hs:∀x,foldedSetIterable iter X.env x=pure x:=by intro _;rfl) (hs2:∀env x,foldedSetIterable iter2 env x=pure x:=by intro _ _;rfl):
  PE X (.ListComp elt [⟨tg,iter,ifs,0⟩,⟨tg2,iter2,ifs2,0⟩] scope pos) (tLc2 wi g tt wi2 g2 tt2 te n ix):=by
 intro pins s σ H Q I h
 obtain⟨cl,hcl,hcl1,hcl2⟩:=zbg (env:=X.env) (scope:=scope) fun y hy hf=>I.ok.has _ (S.free y hy hf)
 rw[eval_ListComp]
 refine wpAny_comprehension_free (use:=none) rfl hs hcl S.kind S.names (thn (hi pins s σ H _ I h) fun v s1 h1=>thn h1 fun itv s2 h2=> ?_)
 obtain⟨it,fp,tn,J,H2,rfl,I2,T,st2,f2,hW⟩:=h2
 refine zgh (R:=fun acc C=>compPost (model X.prog X.w) X.A X.xe none (EP X pins σ Q) acc C) hc S hY hs2 I2 hcl1 hcl2 T st2 f2 hW ?_
 intro acc C s' H' m hn IX hf hL h1 h2 h3 h4 q
 exact⟨m,hn,fun h' sb=>⟨.ref acc,H',IX.turned (t':=s'.toks) (fun b o hb e=>sb.extBut b o hb e) hf hL h1 h2 h3,rfl,q⟩⟩
end
noncomputable def Itel (K:PySem.W.Frag)(a:Addr):It:=
 ⟨fun i H=>∃xs x,SqL K H a xs/\xs[i]? =some x,fun i H v H'=>∃t x,H t=none/\v=.ref t/\H'=upd H t (.tup [.int i,x])/\∀xs,SqL K H a xs->xs[i]? =some x,fun i H=>∃xs,SqL K H a xs/\xs.length=i⟩
theorem zgX {P:Program}{w:World}{K:PySem.W.Frag}{els:List Expr}{kx}{tp:Pos}(a e it:Addr)(hne:e≠it):Turn P w K (.Tuple els kx tp) (Itel K a) [e,it] e (fun i h=>(∃old,IsEnum h e it i old)/\h.IsListIter it a i) where
 mem:=by simp
 obj:=fun i h st b hb=>by
  obtain⟨⟨old,he⟩,o,ho,hc,hd⟩:=st
  rcases List.mem_cons.mp hb with rfl|hb
  ·exact⟨_,he,fun v z=>by cases z⟩
  ·rw [List.mem_singleton.mp hb]
   exact⟨o,ho,fun v z=>by rw[hd] at z;cases z⟩
 keep:=fun i h h' st k=>by
  obtain⟨⟨old,he⟩,o,ho,r⟩:=st
  exact⟨⟨old,k e (by simp) _ he⟩,o,k it (by simp) _ ho,r⟩
 item:=by
  intro X hP hw hK hc i pins s σ H E I hf st hg
  subst hP hw hK
  obtain⟨xs,x,hq,hx⟩:=hg
  obtain⟨its,rv,p,hz⟩:=I.list hq
  obtain⟨u,hu,ru⟩:=rv.get hx
  obtain⟨⟨old,he⟩,hi⟩:=st
  obtain⟨o,ho,hcl,hd⟩:=id hi
  have hT:s.heap.IsList a its.toArray:=p.isList
  have hai:a≠it:=fun z=>by
   obtain⟨o',e1,e2,_⟩:=p.isList
   rw[z,ho] at e1;cases e1;rw[hcl] at e2;injection e2 with z2;revert z2;decide
  have hae:e≠a:=fun z=>by
   obtain⟨o',e1,e2,_⟩:=p.isList
   rw[<-z,he] at e1;cases e1;injection e2 with z2;revert z2;decide
  have hlt:i<its.toArray.size:=by
   have:=(List.getElem?_eq_some_iff.mp hu).1
   simpa using this
  have hh:X.A.in1.handled=none:=I.ok.hd hc
  refine wpAny_pyNext_enum_itemD (Draws.list hh it a hai its.toArray) he ⟨hi,hT⟩ hlt hne (by simp[hne,hae]) fun x' h1 tk hP1 ho1 hs1 hT1 hz1 hk1=> ?_
  have ex:x'=u:=by
   have q:its[i]? =some x':=by simpa using hP1
   rw[hu] at q;exact (Option.some.inj q).symm
  subst ex
  refine⟨_,rfl,wpAny_letOwnedTupleGo_enum ho1 fun h2 he2 hs2=> ?_⟩
  have hne0:s.heap.objs.size≠e:=Nat.ne_of_gt (Heap.lt_size he)
  have keep:∀b o,b∉[e,it]->s.heap.get? b=some o->h2.get? b=some o:=fun b o hb e0=>(hs2.2 b fun z=>hb (by simp[z])).trans (hk1 b o (fun z=>hb (by simp[z])) (fun z=>hb (by simp[z])) e0)
  refine⟨.ref s.heap.objs.size,_,I.turnedT (h':=h2) (t':=tk+1) (xs:=[.int i,x]) hf keep (.cons ⟨tk,rfl⟩ (.cons ru .nil)) ⟨_,(hs2.2 _ hne0).trans hT1,rfl,⟨_,rfl⟩,rfl,rfl⟩ (by show 2<=sizeLine;decide),rfl,⟨_,x,I.hok.fresh (Nat.le_refl _),rfl,rfl,fun ys hy=>by rw[I.list_inj hy hq];exact hx⟩,⟨⟨_,by simpa using he2⟩, ?_⟩,fun b hb=> ?_⟩
  ·obtain ⟨⟨o1,e1,r1⟩,_⟩:=hs1
   exact⟨o1,(hs2.2 it (Ne.symm hne)).trans e1,r1⟩
  ·rcases List.mem_cons.mp hb with rfl|hb'
   ·rw[zaj (Nat.ne_of_lt (Heap.lt_size he))];exact (hf _ hb).1
   ·have e9:=List.mem_singleton.mp hb'
    subst e9
    rw[zaj (Nat.ne_of_lt (Heap.lt_size ho))];exact (hf _ hb).1
 done:=by
  intro X hP hw hK hc i pins s σ H E I hf st hg
  subst hP hw hK
  obtain⟨xs,hq,hx⟩:=hg
  obtain⟨its,rv,p,hz⟩:=I.list hq
  obtain⟨⟨old,he⟩,hi⟩:=st
  obtain⟨o,ho,hcl,hd⟩:=id hi
  have hT:s.heap.IsList a its.toArray:=p.isList
  have hai:a≠it:=fun z=>by
   obtain⟨o',e1,e2,_⟩:=p.isList
   rw[z,ho] at e1;cases e1;rw[hcl] at e2;injection e2 with z2;revert z2;decide
  have hh:X.A.in1.handled=none:=I.ok.hd hc
  have hl:its.toArray.size=i:=by rw[List.size_toArray,<-rv.length,hx]
  refine wpAny_pyNext_enum_endD (Draws.list hh it a hai its.toArray) he (by rw[hl];exact⟨hi,hT⟩) fun h1 hk=>⟨rfl, ?_⟩
  exact I.turnedN (t':=s.toks) hf fun b o hb e0=>hk b o (fun z=>hb (by simp[z])) e0
 self:=fun _ _ _ _ _ st h=>by
  obtain⟨⟨old,he⟩,_⟩:=st
  exact wpAny_pyIter_enum he h
section
variable {X:Cx}
noncomputable def zl9 (K:PySem.W.Frag)(ta:TA):TI:=fun σ H R=>ta σ H fun vs H1=>∃a,vs=[.ref a]/\(∃xs,SqL K H1 a xs)/\R (Itel K a) H1
theorem zd8 {els:List Expr}{kx}{tp:Pos}{l:Expr}{ta:TA}{p pos:Pos}(hg:Gl X "enumerate")(hm:X.mg "enumerate" =none)(ha:PA X [l] ta)(hs:starEach [l] X.env=[(false,eval l X.env)]:=by rfl):
  PI X (.Tuple els kx tp) (.Call (.Name "enumerate" p) [l] [] pos) (zl9 X.K ta):=by
 intro pins s σ H R I h
 refine Call_ (zcT I hg hm boot_enumerate (PyProof.Rows.callWith_type1 (thn (ha pos pins s σ H _ I h) fun us s1 zq=> ?_) hs rfl))
 obtain⟨vs,H1,I1,r1,q1⟩:=zq
 obtain⟨a,rfl,⟨xs,hq⟩,q⟩:=q1
 obtain⟨u,rfl,ru⟩:=zcf r1
 cases (show u=Value.ref a from ru)
 obtain⟨its,rv,p',hz⟩:=I1.list hq
 refine call_enumerate_list p'.isList fun h' he hi hsz hk=>wpAny_pyIter_enum he ?_
 have I2:Inv X pins σ H1 {s1 with heap:=h'}:=I1.kept (t':=s1.toks) hk
 refine⟨s1.heap.objs.size+1,[s1.heap.objs.size+1,s1.heap.objs.size],_,_,H1,rfl,I2,zgX a _ _ (Nat.ne_of_gt (Nat.lt_succ_self _)),⟨⟨_,he⟩,hi⟩,fun b hb=> ?_,q⟩
 rcases List.mem_cons.mp hb with rfl|hb
 ·exact I1.fpOk (Nat.le_succ _) (I1.hok.fresh (Nat.le_succ _))
 ·rw [List.mem_singleton.mp hb]
  exact I1.fpOk (Nat.le_refl _) (I1.hok.fresh (Nat.le_refl _))
end
noncomputable def zaF (xs:List V)(ys:V->List V)(p:V->V->Bool):List (V×V):=xs.flatMap fun x=>((ys x).filter (p x)).map fun y=>(x,y)
theorem zjh {J:It}{Ok:Hp->Prop}{xs:List V}{wi2:TI}{tt2:TT}{te:TE}{ix:List Nat}{σ:L2.St}{H1:Hp}{Q:VK}(Y:Yields J Ok xs)(ys:V->List V)(p:V->V->Bool)(R:V×V->V->Hp->Prop)
  (small:(zaF xs ys p).length<sizeLine) (hR:∀xy v H H',SameT H H'->R xy v H->R xy v H') (hok:∀H,Same H1 H->Ok H)
  (hin:∀x∈xs,∀H,Same H1 H->∀Rr:It->Hp->Prop,(∀J2 Ok2 H',Same H H'->Yields J2 Ok2 (ys x)->(∀G,SameT H' G->Same H1 G->Ok2 G)->Rr J2 H')->wi2 (some x::none::ix.map fun i=>σ.getD i none) H Rr)
  (ht:∀x∈xs,∀y∈ys x,∀H,Same H1 H->∀Q':Bool->Hp->Prop,Q' (p x y) H->tt2 (some x::some y::ix.map fun i=>σ.getD i none) H Q')
  (he:∀x∈xs,∀y∈ys x,p x y=true->∀H,Same H1 H->∀Q':VK,(∀v H',Same H H'->R (x,y) v H'->Q' v H')->te (some x::some y::ix.map fun i=>σ.getD i none) H Q')
  (fin:∀acc vs H',H1 acc=none->Same H1 H'->H' acc=some (.lst vs)->Paired (fun xy v=>R xy v H') (zaF xs ys p) vs->Q (.ref acc) H'):
  LcW2 J H1 (zaU 0) zaG wi2 (zaU 1) tt2 te 2 ix σ Q:=by
 intro acc ha
 refine⟨fun i m H=>m=xs.length-i/\i<=xs.length/\Same H1 H/\∃vs,H acc=some (.lst vs)/\Paired (fun xy v=>R xy v H) (zaF (xs.take i) ys p) vs,⟨xs.length,by simp,Nat.zero_le _,zad ha,[],zab,.nil⟩, ?_⟩
 rintro i m H ⟨rfl,hi,sm,vs,hacc,pr⟩
 have o:=hok _ sm
 by_cases hlt:i<xs.length
 ·refine .inr ⟨Y.go i _ o hlt,fun x H' y=> ?_⟩
  obtain⟨rfl,hx⟩:=Y.yld i _ x H' o hlt y
  have hmem:x∈xs:=List.mem_of_getElem? hx
  have htk:zaF (xs.take (i+1)) ys p=zaF (xs.take i) ys p++((ys x).filter (p x)).map fun y=>(x,y):=by
   unfold zaF
   rw[List.take_succ,hx]
   simp
  have hle:(zaF (xs.take (i+1)) ys p).length<=(zaF xs ys p).length:=by
   have e:zaF xs ys p=zaF (xs.take (i+1)) ys p++zaF (xs.drop (i+1)) ys p:=by
    unfold zaF
    conv=>lhs;rw[<-List.take_append_drop (i+1) xs]
    rw[List.flatMap_append]
   rw[e,List.length_append]
   lia
  refine⟨⟨rfl,fun j v e=> ?_⟩, ?_⟩
  ·cases j with
   |zero=>cases e
   |succ j=>exact e
  ·unfold zaG
   dsimp only
   rw[if_pos rfl]
   refine hin x hmem _ sm _ fun J2 Ok2 H4 s4 Y2 hok2=> ?_
   refine⟨fun j m2 G=>m2=(ys x).length-j/\j<=(ys x).length/\SameT H4 G/\Same H1 G/\∃us,G acc=some (.lst us)/\Paired (fun xy v=>R xy v G) (zaF (xs.take i) ys p++(((ys x).take j).filter (p x)).map fun y=>(x,y)) us,
    ⟨(ys x).length,by simp,Nat.zero_le _,fun _ _ e=>e,sm.trans s4,vs,s4 _ _ hacc,by simpa using Paired.mapP pr fun xy v r=>hR xy v _ _ s4.t r⟩, ?_⟩
   rintro j m2 G ⟨rfl,hj,st,sm5,us,hus,pr5⟩
   have o2:=hok2 G st sm5
   by_cases hjl:j<(ys x).length
   ·refine .inr ⟨Y2.go j _ o2 hjl,fun y G' yy=> ?_⟩
    obtain⟨rfl,hy⟩:=Y2.yld j _ y G' o2 hjl yy
    have hymem:y∈ys x:=List.mem_of_getElem? hy
    have htk2:(ys x).take (j+1)=(ys x).take j++[y]:=by rw[List.take_succ,hy];rfl
    refine⟨⟨rfl,fun k v e=> ?_⟩, ?_⟩
    ·cases k with
     |zero=>exact e
     |succ k=>
      cases k with
      |zero=>cases e
      |succ k=>exact e
    ·refine ht x hmem y hymem _ sm5 _ ?_
     cases hp:p x y with
     |false=>
      rw[if_neg Bool.false_ne_true]
      refine⟨(ys x).length-(j+1),by lia,rfl,hjl,st,sm5,us,hus, ?_⟩
      rw[htk2,List.filter_append]
      simpa [hp] using pr5
     | true=>
      rw[if_pos rfl]
      refine he x hmem y hymem hp _ sm5 _ fun v G4 t4 r4=> ?_
      have hus4:G4 acc=some (.lst us):=t4 _ _ hus
      have st6:SameT G4 (upd G4 acc (.lst (us++[v]))):=zbG hus4
      have hlen:us.length<sizeLine:=by
       have e1:=Paired.length pr5
       rw[List.length_append,List.length_map] at e1
       have e2:(((ys x).take j).filter (p x)).length<=((ys x).filter (p x)).length:=by
        conv=>rhs;rw[<-List.take_append_drop j (ys x),List.filter_append,List.length_append]
        lia
       rw[htk,List.length_append,List.length_map] at hle
       lia
      refine⟨us,hus4,hlen,(ys x).length-(j+1),by lia,rfl,hjl,(st.trans t4.t).trans st6,zaW (sm5.trans t4) ha,us++[v],zab, ?_⟩
      rw[htk2,List.filter_append,List.map_append,<-List.append_assoc]
      simp only[List.filter_cons,hp,if_true,List.filter_nil,List.map_cons,List.map_nil]
      exact Paired.snoc (Paired.mapP pr5 fun xy v r=>hR xy v _ _ (t4.t.trans st6) r) (hR _ _ _ _ st6 r4)
   ·have e:j=(ys x).length:=by lia
    subst e
    refine .inl ⟨Y2.stop _ o2,xs.length-(i+1),by lia,rfl,hlt,sm5,us,hus, ?_⟩
    rw[List.take_length] at pr5
    rw[htk]
    exact pr5
 ·have e:i=xs.length:=by lia
  subst e
  refine .inl ⟨Y.stop _ o, ?_⟩
  rw[List.take_length] at pr
  exact fin acc vs H ha sm hacc pr
section
variable {X:Cx}
noncomputable def rSlA:V->Option Int->Option Int->Hp->VK->Prop:=fun x lo hi H Q=>∃a xs,x=.ref a/\H a=some (.tup xs)/\∀p H',Same H H'->H' p=some (.tup (cutV xs lo hi))->Q (.ref p) H'
theorem zfH:SlR X rSlA:=by
 intro pins s σ H x v vl vu lo hi sl Q I rx hs pl pu h
 obtain⟨a,xs,rfl,ha,q⟩:=h
 by_cases hw:HT.sIx xs.length 0 lo=0/\HT.sIx xs.length xs.length hi=xs.length
 ·cases rx
  obtain⟨its,r,ht,hz⟩:=I.tuple (SqT.of (K:=X.K) ha)
  have hl:its.toArray.size=xs.length:=by rw[List.size_toArray];exact r.length.symm
  refine⟨"tuple",_,PyProof.Rows.slot_tuple_getitem.lookup,ht.typeIs, ?_⟩
  refine zcg ht hs pl pu (by rw[hl];exact hw) ⟨.ref a,H,I,rfl,q a H (Same.refl H) ?_⟩
  unfold cutV
  rw[hw.1,hw.2,List.drop_zero,Nat.sub_zero,List.take_length]
  exact ha
 ·exact zkg pins s σ H _ v vl vu lo hi sl Q I rx hs pl pu ⟨a,xs,rfl,SqT.of ha,hw,fun p hp=>q p _ (zad hp) zab⟩
end
theorem zeY {K:PySem.W.Frag}{a:Addr}{xs:List V}{g:TG}{tb:TS}{D:Ends}{σ:L2.St}{H:Hp}(Pv:Nat->L2.St->Hp->Prop)(h0:Pv 0 σ H)(hl:∀i σ H,i<=xs.length->Pv i σ H->SqL K H a xs)
  (hs:∀i x t σ H,xs[i]? =some x->Pv i σ H->H t=none->g (.ref t) σ (upd H t (.tup [.int i,x])) fun σ2 H2=>tb {D with nx:=Pv (i+1),ct:=Pv (i+1),bk:=D.nx} σ2 H2) (hd:∀σ H,Pv xs.length σ H->D.nx σ H):
  ∃W:Nat->Nat->L2.St->Hp->Prop,(∃m,W 0 m σ H)/\∀i m σ H,W i m σ H->
   ((Itel K a).stop i H/\D.nx σ H)∨((Itel K a).go i H/\∃N:L2.St->Hp->Prop,(∀σ' H',N σ' H'->∃m',m'<m/\W (i+1) m' σ' H')/\∀x H',(Itel K a).yld i H x H'->g x σ H' fun σ2 H2=>tb {D with nx:=N,ct:=N,bk:=D.nx} σ2 H2):=by
 refine⟨fun i m σ H=>m=xs.length-i/\i<=xs.length/\Pv i σ H,⟨xs.length,by simp,Nat.zero_le _,h0⟩, ?_⟩
 rintro i m σ H ⟨rfl,hi,p⟩
 have q:=hl i σ H hi p
 by_cases hlt:i<xs.length
 ·refine .inr ⟨⟨xs,xs[i],q,by simp[hlt]⟩,Pv (i+1),fun σ' H' p'=>⟨xs.length-(i+1),by lia,rfl,hlt,p'⟩,fun x H' y=> ?_⟩
  obtain⟨t,x',ht,rfl,rfl,y⟩:=y
  exact hs i x' t σ _ (y xs q) p ht
 ·have e:i=xs.length:=by lia
  subst e
  exact .inl ⟨⟨xs,q,rfl⟩,hd σ H p⟩
section
variable {X:Cx}{elt tg iter tg2 iter2:Expr}{ifs ifs2:List Expr}{scope:Scope}{pos:Pos}{wi wi2:TI}{g g2:TG}{tt tt2:TT}{te:TE}{N':List Str}{n:Nat}{ix:List Nat}
theorem zhN {x:Str}{i:Nat}{pos' spos:Pos}(hsw:swapsWith (.ListComp elt [⟨tg,iter,ifs,0⟩,⟨tg2,iter2,ifs2,0⟩] scope pos) (some (.Name x pos')) spos.line X.env=pure true)(hN:X.N.Nodup)(hi':X.N[i]? =some x)(hx:X.env.scope.names.lookup x=some .local)
  (hc:X.calm=true) (S:CompScope X scope N' n ix) (hi:PI X tg iter wi)
  (hY:∀s₂ H₂ cl C fp,PG (X.comp s₂ H₂ N' scope cl C fp) tg g/\PTs (X.comp s₂ H₂ N' scope cl C fp) ifs tt/\PI (X.comp s₂ H₂ N' scope cl C fp) tg2 iter2 wi2/\PG (X.comp s₂ H₂ N' scope cl C fp) tg2 g2/\PTs (X.comp s₂ H₂ N' scope cl C fp) ifs2 tt2/\
   PE (X.comp s₂ H₂ N' scope cl C fp) elt te)
  (hs:∀x,foldedSetIterable iter X.env x=pure x:=by intro _;rfl) (hs2:∀env x,foldedSetIterable iter2 env x=pure x:=by intro _ _;rfl):
  PS X (.Assign [.Name x pos'] (.ListComp elt [⟨tg,iter,ifs,0⟩,⟨tg2,iter2,ifs2,0⟩] scope pos) spos) (tAsg (tLc2 wi g tt wi2 g2 tt2 te n ix) (zaU i)):=by
 intro pins s σ H D I h
 obtain⟨cl,hcl,hcl1,hcl2⟩:=zbg (env:=X.env) (scope:=scope) fun y hy hf=>I.ok.has _ (S.free y hy hf)
 rw[exec_Assign_Name_used _ _ _ _ hsw]
 refine wpAny_bind (wpAny_standAt (wpAny_bind ?_))
 show wpAny _ _ (do let _<-comprehension (.ListComp elt [⟨tg,iter,ifs,0⟩,⟨tg2,iter2,ifs2,0⟩] scope pos) scope X.env _ (newList []) false (eval iter X.env) (some (assign (.Name x pos') X.env))) _ _ s
 refine wpAny_bind (thn (wpAny_comprehension_free (use:=some (assign (.Name x pos') X.env)) (Q:=fun _ s'=>SP X pins D .next s') rfl hs hcl S.kind S.names (thn (hi pins s σ H _ I h) fun v s1 h1=>thn h1 fun itv s2 h2=> ?_)) fun _ s' hq=>wpAny_pure (wpAny_pure hq))
 obtain⟨it,fp,tn,J,H2,rfl,I2,T,st2,f2,hW⟩:=h2
 refine zgh (Q:=fun x H1=>zaU i x σ H1 D.nx) (R:=fun acc C=>compPost (model X.prog X.w) X.A X.xe (some (assign (.Name x pos') X.env)) (fun _ s'=>SP X pins D .next s') acc C) hc S hY hs2 I2 hcl1 hcl2 T st2 f2 hW ?_
 intro acc C s' H' m hn IX hf hL h1 h2 h3 h4 q
 show wpAny _ _ (assign (.Name x pos') X.env (.ref acc)) _ _ _
 obtain⟨oC,esC,epC,hoC,hdC,rC⟩:=id hn
 have IP:Inv X (pins++[(C,oC)]) σ H' s':=IX.pins_of fun p hp=>by
  rcases List.mem_append.mp hp with z|z
  ·exact IX.pin p (List.mem_append_right _ z)
  ·have e:p=(C,oC):=by simpa using z
   subst e
   exact⟨hoC,hf,hL,h4,fun v z=>by rw[hdC] at z;cases z⟩
 refine thn (zah hN hi' (.inl hx) (.inr hx) _ s' σ H' (.ref acc) (.ref acc) D.nx IP rfl q) fun _ s'' zq=> ?_
 obtain⟨σ',H'',I'',q''⟩:=zq
 obtain⟨e1,e2,_⟩:=I''.pin (C,oC) (List.mem_append_right _ (List.mem_append_right _ (by simp)))
 refine⟨m,⟨oC,esC,epC,e1,hdC,rC⟩,fun h' sb=>⟨σ',H'', ?_,q''⟩⟩
 exact I''.unpinned.turned (t':=s''.toks) (fun b o hb e=>sb.extBut b o hb e) e2 hL h1 h2 h3
end
noncomputable def zaB (m:Nat)(b:List Int):List Int:=(num0 m).filter fun x=>decide (x∉b)
noncomputable def zbR (m:Nat)(L:List (List Int)):List (List Int):=L.flatMap fun b=>(zaB m b).map fun x=>b++[x]
noncomputable def zaw (m:Nat)(L:List (List Int)):Nat->List (List Int)
 |0=>L
 |k+1=>zbR m (zaw m L k)
theorem zcL (m:Nat)(L:List (List Int)):∀k,zaw m L k=L.flatMap fun b=>zaw m [b] k
 |0=>by show L=L.flatMap fun b=>[b];simp
 |k+1=>by
  show zbR m (zaw m L k)=L.flatMap fun b=>zbR m (zaw m [b] k)
  rw[zcL m L k]
  unfold zbR
  rw[List.flatMap_assoc]
theorem zch (m:Nat)(L:List (List Int)):∀k,zaw m L (k+1)=zaw m (zbR m L) k
 |0=>rfl
 |k+1=>by
  show zbR m (zaw m L (k+1))=zbR m (zaw m (zbR m L) k)
  rw[zch m L k]
theorem zdL (m:Nat)(b:List Int):(zaB m b).Nodup:=List.Nodup.sublist List.filter_sublist (zbm m)
theorem zeZ (m:Nat)(b:List Int)(x:Int):zaB m (b++[x])=(zaB m b).filter fun y=>decide (y≠x):=by
 unfold zaB
 rw[List.filter_filter]
 apply List.filter_congr
 intro y _
 simp[List.mem_append]
 exact Bool.and_comm _ _
theorem zd9 {A B:List Int}{x:Int}(nd:(A++x::B).Nodup):(A++x::B).filter (fun y=>decide (y≠x))=A++B:=by
 obtain⟨n1,n2,n3⟩:=List.nodup_append.mp nd
 have hx1:∀y∈A,y≠x:=fun y hy=>n3 y hy x (by simp)
 have hx2:∀y∈B,y≠x:=fun y hy z=>(List.nodup_cons.mp n2).1 (z▸hy)
 rw[List.filter_append,List.filter_cons]
 simp only[ne_eq,not_true_eq_false,decide_false,Bool.false_eq_true,if_false]
 rw[List.filter_eq_self.mpr fun y hy=>by simpa using hx1 y hy,List.filter_eq_self.mpr fun y hy=>by simpa using hx2 y hy]
theorem zcX {L:List Int}(nd:L.Nodup){k:Nat}(hk:k<L.length):L.filter (fun y=>decide (y≠L[k]))=L.take k++L.drop (k+1):=by
 have e:L.take k++L[k]::L.drop (k+1)=L:=by rw[<-List.drop_eq_getElem_cons hk,List.take_append_drop]
 have:=zd9 (A:=L.take k) (B:=L.drop (k+1)) (x:=L[k]) (by rw[e];exact nd)
 rwa [e] at this
noncomputable def allA (m:Nat):List (List Int):=zaw m [[]] m
theorem zji (m:Nat):zaB m []=num0 m:=by
 unfold zaB
 exact List.filter_eq_self.mpr fun y _=>by simp
structure Beg (m k:Nat) (b:List Int):Prop where
 len:b.length=k
 nd:b.Nodup
 rng:∀y∈b,0<=y/\y<m
 free:(zaB m b).length+k=m
theorem beg0 (m:Nat):Beg m 0 []:=⟨rfl,by simp,by simp,by rw[zji,zbj];lia⟩
theorem Beg.more {m k:Nat}{b:List Int}(B:Beg m k b){x:Int}(hx:x∈zaB m b):Beg m (k+1) (b++[x]):=by
 have hx':=List.mem_filter.mp hx
 have hxb:x∉b:=by simpa using hx'.2
 have hxr:=zc2 hx'.1
 refine⟨by rw[List.length_append,B.len];rfl,List.nodup_append.mpr ⟨B.nd,by simp,fun a ha c hc e=> ?_⟩,fun y hy=> ?_, ?_⟩
 ·rw [List.mem_singleton] at hc
  subst hc e
  exact hxb ha
 ·rcases List.mem_append.mp hy with hy|hy
  ·exact B.rng y hy
  ·rw[List.mem_singleton.mp hy];exact hxr
 ·obtain ⟨i,hi⟩:=List.getElem?_of_mem hx
  obtain⟨hi1,hi2⟩:=List.getElem?_eq_some_iff.mp hi
  have:=zcX (zdL m b) hi1
  rw[zeZ,<-hi2,this,List.length_append,List.length_take,List.length_drop]
  have:=B.free
  lia
noncomputable def facD (m:Nat):Nat->Nat
 |0=>1
 |k+1=>facD m k*(m-k)
theorem zcv (m:Nat):∀k,(∀b∈zaw m [[]] k,Beg m k b)/\(zaw m [[]] k).length=facD m k
 |0=>⟨fun b hb=>by rw[List.mem_singleton.mp hb];exact beg0 m,rfl⟩
 | k +1=>by
  obtain⟨h1,h2⟩:=zcv m k
  refine⟨fun b hb=> ?_, ?_⟩
  ·obtain ⟨c,hc,hb⟩:=List.mem_flatMap.mp hb
   obtain⟨x,hx,rfl⟩:=List.mem_map.mp hb
   exact (h1 c hc).more hx
  ·show (zbR m (zaw m [[]] k)).length=facD m k*(m-k)
   have key:∀L:List (List Int),(∀b∈L,Beg m k b)->(zbR m L).length=L.length*(m-k):=fun L=>by
    induction L with
    |nil=>intro _;simp[zbR]
    |cons b t ih=>
     intro h
     have hb:=(h b (by simp)).free
     have:=ih fun c hc=>h c (by simp[hc])
     have e:zbR m (b::t)=((zaB m b).map fun x=>b++[x])++zbR m t:=by simp[zbR]
     rw[e,List.length_append,List.length_map,this,List.length_cons,Nat.succ_mul]
     lia
   rw[key _ h1,h2]
theorem Beg.ord {m:Nat}{b:List Int}(B:Beg m m b):Ord m b:=by
 refine zcK B.nd (zbm m) fun y=>⟨fun hy=>mem_num0.mpr (B.rng y hy),fun hy=> ?_⟩
 by_cases h:y∈b
 ·exact h
 ·have:=zkl (l:=y::b) (L:=num0 m) (List.nodup_cons.mpr ⟨h,B.nd⟩) fun z hz=>by
   rcases List.mem_cons.mp hz with rfl|hz
   ·exact hy
   ·exact mem_num0.mpr (B.rng z hz)
  rw[zbj,List.length_cons,B.len] at this
  lia
theorem za1 (n:Int):∀S:List Int,inV (.int n) (S.map V.int)=decide (n∈S)
 |[]=>by simp[inV]
 | a::t=>by
  have ih:=za1 n t
  have e:inV (.int n) ((a::t).map V.int)=((a==n)||inV (.int n) (t.map V.int)):=rfl
  rw[e,ih]
  by_cases h:a=n
  ·subst h
   simp
  ·have h':¬n=a:=fun z=>h z.symm
   rw[beq_eq_false_iff_ne.mpr h,Bool.false_or,decide_eq_decide]
   rw[List.mem_cons]
   exact⟨.inr,fun z=>z.resolve_left h'⟩
theorem ze0 (S:List Int):(S.map V.int).all zcH=true:=by
 rw[List.all_eq_true]
 intro x hx
 obtain⟨n,_,rfl⟩:=List.mem_map.mp hx
 rfl
theorem RowsAt.get {H:Hp}:∀{zs:List Addr} {rows:List (List Int)},RowsAt H zs rows->∀{i:Nat} {z:Addr},zs[i]? =some z->∃r,rows[i]? =some r/\H z=some (.tup (r.map V.int))
 |_,_,.nil,_,_,h=>by simp at h
 |_,_,.cons r _,0,_,h=>by simp at h;subst h;exact⟨_,rfl,r⟩
 |_,_,.cons _ t,i+1,_,h=>RowsAt.get t (i:=i) (by simpa using h)
section
variable {X:Cx}
noncomputable def zmY:List V->Hp->VK->Prop:=fun xs H Q=>∃(l:Addr) (ns:List Int),xs=[.ref l]/\H l=some (.tup (ns.map V.int))/\ns≠[]/\∀M,M∈ns->(∀a∈ns,a<=M)->Q (.int M) H
theorem zfI {xs:Array (Int×Tok)}{ns:List Int}(hnum:xs.toList.map (·.1)=ns)(hsz:0<xs.size):
  numAt xs (argBest (fun i j=>decide (numAt xs i>numAt xs j)) (xs.size-1))∈ns/\∀a∈ns,a<=numAt xs (argBest (fun i j=>decide (numAt xs i>numAt xs j)) (xs.size-1)):=by
 obtain⟨h1,h2⟩:=argBest_gt (numAt xs) (xs.size-1)
 subst hnum
 refine⟨?_,fun a ha=> ?_⟩
 ·rw[numAt_eq];exact getD_mem (by rw[List.length_map,Array.length_toList];lia)
 ·obtain ⟨j,hj,rfl⟩:=mem_getD ha
  rw[List.length_map,Array.length_toList] at hj
  rw[<-numAt_eq];exact h2 j (by lia)
theorem ze1 (hc:X.calm=true):zbQ X (.builtin "max") zmY:=by
 intro pins s σ H xs us Q I rs h
 obtain⟨l,ns,rfl,hH,hne,q⟩:=h
 obtain⟨u,rfl,ru⟩:=zcf rs
 cases (show u=Value.ref l from ru)
 obtain⟨its,r,ht,hz⟩:=I.tuple (SqT.of (K:=X.K) hH)
 have hI:=zbs r
 obtain⟨xs,hxs⟩:=hI.allInts.items
 have hnum:xs.toList.map (·.1)=ns:=by rw[<-nums_intItems,<-hxs];exact hI.numsOf
 have hsz:0<xs.size:=by
  have:ns.length=xs.size:=by rw[<-hnum,List.length_map,Array.length_toList]
  have:=List.length_pos_iff.mpr hne
  lia
 obtain⟨b1,b2⟩:=zfI hnum hsz
 have hT:s.heap.IsTuple l (intItems xs):=by rw[<-hxs];exact ht
 have hlt:l<s.heap.objs.size:=by obtain⟨_,e,_⟩:=hT;exact Heap.lt_size e
 have hT2:(s.heap.push {cls:=.type "tuple_iterator",data:=.fields #[.ref l,.int 0 0]}).IsTuple l (intItems xs):=by
  obtain⟨o,e,r⟩:=hT
  exact⟨o,Heap.get?_push_of_some _ e,r⟩
 have hh:X.A.handled=none:=I.ok.hd hc
 refine call_max_walk (wpAny_pyIter_tuple hT ?_)
 refine⟨_,_,_,_,_,_,_,rfl,Walks.tuple (A:=X.A.in1) hh s.heap.objs.size l (Nat.ne_of_lt hlt) (intItems xs),⟨⟨_,Heap.get?_push_size _ rfl,rfl,rfl⟩,hT2⟩,fun b hb=> ?_,by simpa [intItems] using hsz,CmpOf.ints_gt (numAt xs) (fun _ _=>intItems_at),fun v h' tk hP hk=> ?_⟩
 ·show b<(s.heap.push _).objs.size
  rw[Heap.size_push]
  rcases List.mem_cons.mp hb with rfl|hb
  ·exact Nat.lt_succ_self _
  ·rw [List.mem_singleton.mp hb]
   exact Nat.lt_succ_of_lt hlt
 ·have hv:(intItems xs)[argBest (fun i j=>decide (numAt xs i>numAt xs j)) (xs.size-1)]? =some v:=by simpa [intItems] using hP
  obtain⟨t,rfl⟩:=intItems_at hv
  refine⟨.int _,H,I.kept (t':=tk) (fun b o e=>hk b o (fun hm=> ?_) (Heap.get?_push_of_some _ e)),⟨_,rfl⟩,q _ b1 b2⟩
  rw[List.mem_singleton.mp hm] at e
  exact absurd (Heap.lt_size e) (Nat.lt_irrefl _)
end
noncomputable def enF (p:Nat->V->Bool)(f:Nat->V->V):Nat->List V->List V
 |_,[]=>[]
 |i,x::t=>(if p i x then [f i x] else [])++enF p f (i+1) t
theorem zdM (p:Nat->V->Bool)(f:Nat->V->V):∀(i:Nat) (a b:List V),enF p f i (a++b)=enF p f i a++enF p f (i+a.length) b
 |_,[],_=>by simp[enF]
 |i,x::t,b=>by
  show (if p i x then [f i x] else [])++enF p f (i+1) (t++b)=_
  rw[zdM p f (i+1) t b]
  simp only[enF,List.append_assoc,List.length_cons]
  rw[show i+1+t.length=i+(t.length+1) by lia]
theorem zhO (p:Nat->V->Bool)(f:Nat->V->V):∀(i:Nat) (a:List V),(enF p f i a).length<=a.length
 |_,[]=>Nat.le_refl _
 |i,x::t=>by
  have:=zhO p f (i+1) t
  simp only[enF,List.length_append,List.length_cons]
  split<;>simp<;>lia
theorem zjj (n:Nat):(List.replicate n (1:Int)).sum=n:=by
 induction n with
 |zero=>rfl
 |succ n ih=>rw[List.replicate_succ,List.sum_cons,ih];push_cast;lia
structure Heaps (ns:List Int) (L:List Int) (es:List Int):Prop where
 inc:L.Pairwise (·<·)
 len:es.length=ns.length
 up:∀(j:Nat) a,L[j]? =some a->∃k:Nat,ns[k]? =some a/\es[k]? =some ((j:Int)+1)
 dn:∀(k:Nat) e,es[k]? =some e->∃(j:Nat) (a b:Int),e=(j:Int)+1/\L[j]? =some a/\ns[k]? =some b/\a<=b
noncomputable def Cx.compZ (X:Cx)(s₂:Shared)(H₂:Hp)(N':List Str)(scope:Scope)(cl:List (Str×Addr))(C:Addr)(fp:List Addr)(z:Str)(Z:Addr):Cx:=
 {X with N:=N',s₀:=s₂,H₀:=H₂,env:=compEnvC scope ((z,Z)::cl) C X.env,outer:=X.stack,stack:=X.stack,ex:=fp,fn:=fun x=>x==z,pn:=[],xe:=fun _ _=>False}
structure CompScopeZ (X:Cx) (scope:Scope) (N':List Str) (n:Nat) (ix:List Nat) (z:Str):Prop where
 kind:scope.kind=.function
 onecell:∀y∈scope.names,y.2=.cell->y.1=z
 nz:∀y:Str,(y,NameKind.free)∈scope.names->y≠z
 cf:∀(a:Addr) (cl:List (Str×Addr)),cellsFrom a scope.names cl=(z,a)::cl
 pc:∀h:Heap,pushCells h scope.names=h.push {cls:=.type "cell",data:=.cell none}
 names:∀y∈scope.names,y.2=.local->scope.names.lookup y.1=some .local
 free:∀y∈scope.names,y.2=.free->X.env.scope.names.lookup y.1=some .cell∨X.env.scope.names.lookup y.1=some .free
 nodup:∀y:Str,(y,NameKind.free)∈scope.names->scope.names.lookup y=some .local->False
 len:N'.length=n+ix.length
 at_:∀(j i:Nat),ix[j]? =some i->∃x,N'[n+j]? =some x/\X.N[i]? =some x/\(x,NameKind.free)∈scope.names
theorem zkY {M:Model}{A:Around}{E:Value->Shared->Prop}{s:Shared}{z:Str}{scope:Scope}{globals:Addr}{cl:List (Str×Addr)}{qual:Str}{env:Env}{Q:Env->Shared->Prop}(hcf:∀a,cellsFrom a scope.names cl=(z,a)::cl)
  (hpc:∀h:Heap,pushCells h scope.names=h.push {cls:=.type "cell",data:=.cell none})
  (hQ:∀env':Env,env'={scope,locals:=s.heap.objs.size,globals,cells:=(z,s.heap.objs.size+1)::cl,qual,func:=none,code:=env.code,frame:=env.frame,builtins:=env.builtins}->
   Q env' {s with heap:=(s.heap.push {cls:=.type "dict",data:=.dict #[]}).push {cls:=.type "cell",data:=.cell none}}):
  wpAny M A (newFunctionEnv scope globals cl [] qual none .none (some env)) Q E s:=by
 simp only[newFunctionEnv,Option.isSome_some,if_true]
 refine wpAny_bind (wpAny_alloc ?_)
 refine wpAny_bind (wpAny_layCells _ (fun name kind cells=>by cases hkc:kind==NameKind.cell<;>simp[hkc]) _ _ _ _ ?_)
 rw[hcf,hpc]
 simp only[List.forIn_nil]
 have hz:(s.heap.push {cls:=.type "dict",data:=.dict #[]}).objs.size=s.heap.objs.size+1:=Heap.size_push ..
 refine wpAny_bind (wpAny_pure (wpAny_pure ?_))
 exact hQ _ (by simp only[hz])
section
variable {X:Cx}{pins:List (Addr×Obj)}{σ:St}{H:Hp}{s:Shared}
theorem zfJ {env:Env}{scope:Scope}{x z:Str}(hn:∀y∈scope.names,y.2=.cell->y.1=z)(hxz:x≠z)(h:(relabel scope env).names.lookup x=some .cell∨(relabel scope env).names.lookup x=some .free):scope.names.lookup x=some .free:=by
 rw[zaQ] at h
 cases e:scope.names.lookup x with
 |none=>rw[e] at h;rcases h with h|h<;>cases h
 | some k=>
  rw[e] at h
  have hk:k≠.cell:=fun q=>hxz (hn _ (PySem.mem_of_lookup e) q)
  by_cases hf:k=.free
  ·rw[hf]
  ·have hb:(k==NameKind.free)=false:=by simpa using hf
   have hr:Option.map (fun k=>if (k==NameKind.free&&env.scope.kind==.function&&env.kindOf x==some .cell)=true then NameKind.cell else k) (some k)=some k:=by
    show some (ite _ _ _)=_
    rw[if_neg (by rw[hb];simp)]
   rw[hr] at h
   rcases h with h|h
   ·cases h;exact absurd rfl hk
   ·exact h
theorem zhP {z:Str}{Z:Addr}{scope:Scope}{N':List Str}{n:Nat}{ix:List Nat}{cl:List (Str×Addr)}{fp:List Addr}{h₁:Heap}{acc C:Addr}{na:Nat}{m:Str->Option Value}{tk:Nat}
  (I:Inv X pins σ H s) (S:CompScopeZ X scope N' n ix z) (hcl1:∀x c,cl.lookup x=some c->X.env.cells.lookup x=some c) (hcl2:∀y∈scope.names,y.2=.free->cl.lookup y.1=X.env.cells.lookup y.1)
  (hf:∀b∈fp,FpOk X pins H b) (hlt:∀b∈fp,b<s.heap.objs.size) (ha:s.heap.objs.size<=acc) (hC:s.heap.objs.size<=C) (hne:C≠acc) (hZ:s.heap.objs.size<=Z) (hZC:Z≠C) (hZa:Z≠acc) (hZc:h₁.IsCell Z none)
  (k:∀b u,s.heap.get? b=some u->h₁.get? b=some u) (hacc:h₁.get? acc=some {cls:=.type "list",data:=.seq ([]:List Value).toArray na}) (hns:h₁.Ns C m):
  Inv (X.compZ s H N' scope cl C fp z Z) [] (zaX n ix σ) (upd H acc (.lst [])) {s with heap:=h₁,toks:=tk}:=by
 have fr:∀b:Addr,s.heap.objs.size<=b->H b=none:=fun b hb=>I.hok.fresh hb
 have cellLt:∀x c,cl.lookup x=some c->c<s.heap.objs.size:=fun x c e=>by
  obtain⟨v,q⟩:=I.cell x c (hcl1 x c e)
  exact q.lt
 have look:∀x c,List.lookup x ((z,Z)::cl)=some c->(x=z/\c=Z)∨(x≠z/\cl.lookup x=some c):=fun x c e=>by
  rw[List.lookup_cons] at e
  cases hb:x==z with
  |true=>
   rw[hb] at e
   exact .inl ⟨eq_of_beq hb,(Option.some.inj e).symm⟩
  |false=>
   rw[hb] at e
   exact .inr ⟨fun q=>by (rw[q,beq_self_eq_true] at hb;cases hb),e⟩
 have look2:∀x,x≠z->List.lookup x ((z,Z)::cl)=cl.lookup x:=fun x hx=>by
  rw[List.lookup_cons]
  have hb:(x==z)=false:=beq_eq_false_iff_ne.mpr hx
  rw[hb]
 have nZ:∀x c,cl.lookup x=some c->c≠Z:=fun x c e q=>absurd (cellLt x c e) (by rw[q];exact Nat.not_lt.mpr hZ)
 refine⟨⟨I.ok.mod,S.kind,I.ok.glob,I.ok.blt,hC,fun x y c e1 e2=> ?inj,fun x hx=> ?has,fun x c e e'=> ?cab,I.ok.hd,I.ok.frames,.inl rfl,fun b hb=>⟨Nat.ne_of_lt (Nat.lt_of_lt_of_le (hlt b hb) hC),fun x c e=> ?exf⟩,
   I.bs,Nat.le_trans I.ok.bsz I.sz,fun b o e hb=> ?noex,fun b hb hs=> ?exfs,I.stack,I.stkFree⟩,
  rfl,I.bare,Un.laid k ha (fr acc ha),⟨m,hns,fun i x v e1 e2 e3=> ?loc⟩,fun x c e=> ?cell, ?free,fun x c e=> ?freeC,fun p hp=>absurd (show p∈([]:List (Addr×Obj)) from hp) (by simp),I.hok.laid k ha ⟨Nat.zero_le _,[],na,.nil,hacc⟩, ?len⟩
 case inj=>
  rcases look x c e1 with⟨h1,h2⟩|⟨h1,h2⟩<;>rcases look y c e2 with⟨h3,h4⟩|⟨h3,h4⟩
  ·rw[h1,h3]
  ·exact absurd h2 (nZ y c h4)
  ·exact absurd h4 (nZ x c h2)
  ·exact I.ok.inj x y c (hcl1 x c h2) (hcl1 y c h4)
 case has=>
  by_cases hxz:x=z
  ·exact⟨Z,by show List.lookup x ((z,Z)::cl)=_;rw[hxz,List.lookup_cons,beq_self_eq_true]⟩
  ·have hx':scope.names.lookup x=some .free:=zfJ (env:=X.env) S.onecell hxz hx
   have hm:=PySem.mem_of_lookup hx'
   obtain⟨c,e⟩:=I.ok.has x (S.free _ hm rfl)
   exact⟨c,by show List.lookup x ((z,Z)::cl)=_;rw[look2 x hxz];exact (hcl2 _ hm rfl).trans e⟩
 case cab=>
  rcases look x c e' with⟨_,h2⟩|⟨h1,_⟩
  ·rw[h2];exact hZ
  ·exact absurd (eq_of_beq (show (x==z)=true from e)) h1
 case exf=>
  rcases look x c e with⟨_,h2⟩|⟨_,h2⟩
  ·rw[h2];exact Nat.ne_of_gt (Nat.lt_of_lt_of_le (hlt b hb) hZ)
  ·exact (hf b hb).2.2.2.2.1 x c (hcl1 x c h2)
 case noex=>
  rcases (hf b hb).2.2.2.1 with z|z
  ·exact I.ok.noex b o e z
  ·exact absurd (Nat.lt_of_lt_of_le (Heap.lt_size e) (Nat.le_trans I.ok.bsz z)) (Nat.lt_irrefl _)
 case exfs=>
  rcases List.mem_cons.mp (I.stkSub b hs) with z|z
  ·exact (hf b hb).2.1 z
  ·exact (hf b hb).2.2.1 z
 case loc=>
  have hi:n<=i:=by
   by_cases hi:n<=i
   ·exact hi
   ·unfold zaX at e2
    rw[List.getElem?_append_left (by simp;lia),List.getElem?_replicate] at e2
    split at e2<;>cases e2
  obtain⟨j,rfl⟩:∃j,i=n+j:=⟨i-n,by lia⟩
  unfold zaX at e2
  rw[List.getElem?_append_right (by simp),List.length_replicate,Nat.add_sub_cancel_left,List.getElem?_map] at e2
  cases ej:ix[j]? with
  |none=>rw[ej] at e2;cases e2
  | some q=>
   rw[ej] at e2
   have e2':σ.getD q none=some v:=Option.some.inj e2
   have e2'':σ[q]? =some (some v):=by
    rw[List.getD_eq_getElem?_getD] at e2'
    cases eq:σ[q]? with
    |none=>rw[eq] at e2';cases e2'
    |some z=>rw[eq] at e2';exact congrArg some e2'
   obtain⟨y,h1,h2,h3⟩:=S.at_ j q ej
   have ey:y=x:=Option.some.inj (h1.symm.trans e1)
   subst ey
   have hk:=S.free _ h3 rfl
   obtain⟨mX,_,hl⟩:=I.loc
   obtain⟨u,r,l⟩:=hl q y v h2 e2'' (.inr hk)
   refine⟨u,r,.inr ?_⟩
   have hkc:X.env.kindOf y=some .cell∨X.env.kindOf y=some .free:=hk
   have l':∃c,X.env.cells.lookup y=some c/\s.heap.IsCell c (some u):=by
    rcases l with⟨z,_⟩|⟨_,c,ec,hc⟩
    ·rcases hkc with q|q<;>(rw[q] at z;cases z)
    ·exact⟨c,ec,hc⟩
   obtain⟨c,ec,o,ho,hd⟩:=l'
   have e3':Vis (relabel scope X.env) y:=e3
   have hyz:y≠z:=S.nz y h3
   refine⟨?_,c,by show List.lookup y ((z,Z)::cl)=_;rw[look2 y hyz];exact (hcl2 _ h3 rfl).trans ec,o,k _ _ ho,hd⟩
   have nl:scope.names.lookup y≠some .local:=fun z=> ?_
   ·cases el:scope.names.lookup y with
    |none=>
     have:(relabel scope X.env).names.lookup y=none:=by rw[zaQ,el];rfl
     rcases e3' with z|z|z<;>(rw[this] at z;cases z)
    | some kk=>
     have hmem:=PySem.mem_of_lookup el
     have ncell:kk≠.cell:=fun q=>hyz (S.onecell _ hmem q)
     have hr:(relabel scope X.env).names.lookup y=some (if (kk==NameKind.free&&X.env.scope.kind==.function&&X.env.kindOf y==some .cell)=true then .cell else kk):=by rw[zaQ,el];rfl
     by_cases hkf:kk=.free
     ·subst hkf
      exact zcV (env:=X.env) el
     ·have hb:(kk==NameKind.free)=false:=by simpa using hkf
      have hr':(relabel scope X.env).names.lookup y=some kk:=by rw[hr,hb];rfl
      rcases e3' with z|z|z
      ·rw[hr'] at z;cases z;exact absurd el nl
      ·rw[hr'] at z;cases z;exact absurd rfl ncell
      ·rw[hr'] at z;cases z;exact absurd rfl hkf
   ·exact S.nodup _ h3 z
 case cell=>
  rcases look x c e with⟨_,h2⟩|⟨_,h2⟩
  ·rw[h2];exact⟨none,hZc⟩
  ·obtain ⟨v,o,ho,hd⟩:=I.cell x c (hcl1 x c h2)
   exact⟨v,o,k _ _ ho,hd⟩
 case free=>
  show upd H acc (.lst []) C=none
  rw[zaj hne];exact fr C hC
 case freeC=>
  show upd H acc (.lst []) c=none
  rcases look x c e with⟨_,h2⟩|⟨_,h2⟩
  ·rw[h2,zaj hZa];exact fr Z hZ
  ·have:=cellLt x c h2
   rw[zaj (Nat.ne_of_lt (Nat.lt_of_lt_of_le this ha))]
   exact I.freeC x c (hcl1 x c h2)
 case len=>
  show (zaX n ix σ).length=N'.length
  unfold zaX
  rw[List.length_append,List.length_replicate,List.length_map,S.len]
end
section
variable {X:Cx}{elt tg iter:Expr}{ifs:List Expr}{scope:Scope}{pos:Pos}{wi:TI}{g:TG}{tt:TT}{te:TE}{N':List Str}{n:Nat}{ix:List Nat}
theorem zgi {z:Str}{pins:List (Addr×Obj)}{σ:St}{H2:Hp}{s2:Shared}{cl:List (Str×Addr)}{it:Addr}{fp:List Addr}{tn:Nat->Heap->Prop}{J:It}{Q:VK}{R:Value->Addr->Result->Shared->Prop}
  (hc:X.calm=true) (S:CompScopeZ X scope N' n ix z)
  (hY:∀s₂ H₂ cl C fp Z,PG (X.compZ s₂ H₂ N' scope cl C fp z Z) tg g/\PTs (X.compZ s₂ H₂ N' scope cl C fp z Z) ifs tt/\PE (X.compZ s₂ H₂ N' scope cl C fp z Z) elt te)
  (I2:Inv X pins σ H2 s2) (hcl1:∀x c,cl.lookup x=some c->X.env.cells.lookup x=some c) (hcl2:∀y∈scope.names,y.2=.free->cl.lookup y.1=X.env.cells.lookup y.1)
  (T:Turn X.prog X.w X.K tg J fp it tn) (st2:tn 0 s2.heap) (f2:∀b∈fp,FpOk X pins H2 b)
  (hW:LcW J H2 g tt te n ix σ Q)
  (hR:∀acc C s' H' m,s'.heap.Ns C m->Inv X pins σ H' s'->H' C=none->C≠X.env.locals->(C∈X.ex∨X.s₀.heap.objs.size<=C)->(∀x c,X.env.cells.lookup x=some c->c≠C)->(∀p∈X.pn++pins,p.1≠C)->C∉X.fs->Q (.ref acc) H'->R (.ref acc) C (.ok .next) s'):
  wpAny (model X.prog X.w) X.A (newList []) (fun acc s₃=>wpAny (model X.prog X.w) X.A (newFunctionEnv scope X.env.globals cl [] X.env.qual none .none (some X.env)) (fun cenv s₄=>
   codeAny (model X.prog X.w) X.A (.compStart (.ListComp elt [⟨tg,iter,ifs,0⟩] scope pos) 0 (.ref it) acc {cenv with scope:=relabel scope X.env}) (R acc cenv.locals) s₄) X.xe s₃) X.xe s2:=by
 refine wpAny_newObj_type (zkY (z:=z) (fun a=>S.cf a cl) S.pc fun env' he'=> ?_)
 subst he'
 dsimp only
 generalize hH2:s2.heap.push {cls:=.type "list",dict:=none,data:=.seq ([]:List Value).toArray}=G
 have hC:G.objs.size=s2.heap.objs.size+1:=by rw[<-hH2,Heap.size_push]
 generalize hh1:(G.push {cls:=.type "dict",data:=.dict #[]}).push {cls:=.type "cell",data:=.cell none}=h₁
 have hkp:∀b o,G.get? b=some o->h₁.get? b=some o:=fun b o e=>hh1▸Heap.get?_push_of_some _ (Heap.get?_push_of_some _ e)
 have hns₁:h₁.Ns G.objs.size fun _=>none:=hh1▸(Heap.Ns.new G (.type "dict")).keeps fun b o e=>Heap.get?_push_of_some _ e
 have hZc:h₁.IsCell (G.objs.size+1) none:=by
  rw[<-hh1]
  refine⟨{cls:=.type "cell",data:=.cell none}, ?_,rfl⟩
  have:=Heap.get?_push_size (G.push {cls:=.type "dict",data:=.dict #[]}) (o:={cls:=.type "cell",data:=.cell none}) rfl
  rwa [Heap.size_push] at this
 have hlt:∀b∈fp,b<s2.heap.objs.size:=fun b hb=>by
  obtain⟨o,e,_⟩:=T.obj _ _ st2 b hb
  exact Heap.lt_size e
 have old:∀b o,s2.heap.get? b=some o->h₁.get? b=some o:=fun b o e=>hkp b o (hH2▸Heap.get?_push_of_some _ e)
 have hacc:h₁.get? s2.heap.objs.size=some {cls:=.type "list",dict:=none,data:=.seq ([]:List Value).toArray}:=hkp _ _ (hH2▸Heap.get?_push_size _ rfl)
 obtain⟨W,⟨m0,w0⟩,turn⟩:=hW s2.heap.objs.size (I2.hok.fresh (Nat.le_refl _))
 obtain⟨hYg,hYt,hYe⟩:=hY s2 H2 cl G.objs.size fp (G.objs.size+1)
 have fpY:∀{H':Hp},(∀b∈fp,H' b=none)->∀b∈fp,FpOk (X.compZ s2 H2 N' scope cl G.objs.size fp z (G.objs.size+1)) [] H' b:=fun {H'} hn b hb=>by
  obtain⟨_,q1,q2,q3,q4,q5⟩:=f2 b hb
  refine⟨hn b hb, ?_,fun z=> ?_,.inl hb,fun x c e=> ?_,fun p hp=>absurd (show p∈([]:List (Addr×Obj)) from hp) (by simp)⟩
  ·show b≠G.objs.size
   rw[hC]
   exact Nat.ne_of_lt (Nat.lt_succ_of_lt (hlt b hb))
  ·rcases List.mem_cons.mp (I2.stkSub b z) with y|y
   ·exact q1 y
   ·exact q2 y
  ·have e':List.lookup x ((z,G.objs.size+1)::cl)=some c:=e
   rw[List.lookup_cons] at e'
   cases hb':x==z with
   |true=>
    rw[hb'] at e'
    have e2:G.objs.size+1=c:=Option.some.inj e'
    rw[<-e2,hC]
    have:=hlt b hb
    exact Nat.ne_of_gt (Nat.lt_of_lt_of_le this (Nat.le_trans (Nat.le_succ _) (Nat.le_succ _)))
   |false=>
    rw[hb'] at e'
    exact q4 x c (hcl1 x c e')
 have loop:∀s₃:Shared,s₃={s2 with heap:=h₁}->
   codeAny (model X.prog X.w) X.A (.compLoop (.ListComp elt [⟨tg,iter,ifs,0⟩] scope pos) 0 (.ref it) (.ref s2.heap.objs.size) (compEnvC scope ((z,G.objs.size+1)::cl) G.objs.size X.env)) (R (.ref s2.heap.objs.size) G.objs.size) s₃:=by
  rintro s₃ rfl
  have I4:=zhP (Z:=G.objs.size+1) (tk:=s2.toks) I2 S hcl1 hcl2 f2 hlt (Nat.le_refl _) (by rw[hC];exact Nat.le_succ _) (by rw[hC];exact Nat.ne_of_gt (Nat.lt_succ_self _)) (by rw[hC];exact Nat.le_trans (Nat.le_succ _) (Nat.le_succ _)) (Nat.ne_of_gt (Nat.lt_succ_self _)) (by rw[hC];exact Nat.ne_of_gt (Nat.lt_succ_of_lt (Nat.lt_succ_self _))) hZc old hacc hns₁
  refine zcW (fun n' s'=>∃i H',Inv (X.compZ s2 H2 N' scope cl G.objs.size fp z (G.objs.size+1)) [] (zaX n ix σ) H' s'/\tn i s'.heap/\(∀b∈fp,H' b=none)/\W i n' H') ?_ m0
   ⟨0,_,I4,T.keep _ _ _ st2 fun b hb o e=>old b o e,fun b hb=> ?_,w0⟩
  ·rintro n' s3 ⟨i,H3,I3,st3,fr3,w3⟩
   rcases turn i n' H3 w3 with⟨stop,q⟩|⟨go,step⟩
   ·refine thn (T.done (X.compZ s2 H2 N' scope cl G.objs.size fp z (G.objs.size+1)) rfl rfl rfl hc i [] s3 _ H3 _ I3 (fpY fr3) st3 stop) fun r s4 zq=> ?_
    obtain⟨hr,I5⟩:=zq
    subst hr
    obtain⟨mC,hnC,_⟩:=I5.loc
    have IX:Inv X pins σ H3 s4:=I2.call' I5.os I5.base I5.hok I5.bare fun b hb=>by
     obtain⟨_,q1,q2,q3,q4,q5⟩:=f2 b hb
     exact⟨q3,q1,q4,q5⟩
    refine hR _ _ s4 H3 mC hnC IX I5.free ?_ (.inr ?_) (fun x c e z=> ?_) (fun p hp z=> ?_) (I2.nofs (by rw[hC];exact Nat.le_succ _)) q
    ·rw [hC]
     exact Nat.ne_of_gt (Nat.lt_succ_of_lt I2.lt)
    ·rw [hC]
     exact Nat.le_succ_of_le I2.sz
    ·obtain ⟨v,q⟩:=I2.cell x c e
     rw[hC] at z
     exact absurd z (Nat.ne_of_lt (Nat.lt_succ_of_lt q.lt))
    ·rw [hC] at z
     exact absurd z (Nat.ne_of_lt (Nat.lt_succ_of_lt (Heap.lt_size (I2.pin p hp).1)))
   ·refine thn (T.item (X.compZ s2 H2 N' scope cl G.objs.size fp z (G.objs.size+1)) rfl rfl rfl hc i [] s3 _ H3 _ I3 (fpY fr3) st3 go) fun r s4 zq=> ?_
    obtain⟨u,hr,h4⟩:=zq
    subst hr
    refine thn h4 fun _ s5 zq=> ?_
    obtain⟨x,H5,I5,r5,y5,st5,fr5⟩:=zq
    have I5':=I5.pinned (fpY fr5) (T.obj _ _ st5)
    refine thn (hYg _ s5 _ H5 x u _ I5' r5 (step x H5 y5)) fun _ s6 zq=> ?_
    obtain⟨σ6,H6,I6,wk,q6⟩:=zq
    have back:∀{H':Hp} {s':Shared},Inv (X.compZ s2 H2 N' scope cl G.objs.size fp z (G.objs.size+1)) ([]++zaR fp s5.heap) σ6 H' s'->
      Inv (X.compZ s2 H2 N' scope cl G.objs.size fp z (G.objs.size+1)) [] (zaX n ix σ) H' s'/\tn (i+1) s'.heap/\∀b∈fp,H' b=none:=fun {H' s'} I7=>by
     refine⟨I7.unpinned.weak wk.1 wk.2,T.keep _ _ _ st5 fun b hb o e=>(I7.pin (b,o) (List.mem_append_right _ (List.mem_append_right _ (zay hb e)))).1,fun b hb=> ?_⟩
     obtain⟨o,e,d⟩:=T.obj _ _ st5 b hb
     exact (I7.pin (b,o) (List.mem_append_right _ (List.mem_append_right _ (zay hb e)))).2.1
    refine thn (hYt _ s6 σ6 H6 _ I6 q6) fun ok s7 zq=> ?_
    obtain⟨H7,I7,q7⟩:=zq
    cases ok with
    |false=>
     rw[if_neg Bool.false_ne_true] at q7 ⊢
     obtain⟨m',hm,w7⟩:=q7
     obtain⟨b1,b2,b3⟩:=back I7
     exact⟨m',hm,i+1,H7,b1,b2,b3,w7⟩
    |true=>
     rw[if_pos rfl] at q7 ⊢
     refine thn (hYe _ s7 σ6 H7 _ I7 q7) fun xv s8 zq=> ?_
     obtain⟨v8,H8,I8,r8,ys,ha,hz,m',hm,w8⟩:=zq
     refine thn (zbi _ s8 σ6 H8 (.ref s2.heap.objs.size) [v8] (.ref s2.heap.objs.size) [xv] (fun _ H'=>H'=upd H8 s2.heap.objs.size (.lst (ys++[v8]))) I8 rfl (.cons r8 .nil) ⟨_,ys,v8,rfl,rfl,ha,hz,rfl⟩) fun _ s9 zq=> ?_
     obtain⟨_,H9,I9,_,e9⟩:=zq
     subst e9
     obtain⟨b1,b2,b3⟩:=back I9
     exact⟨m',hm,i+1,_,b1,b2,b3,w8⟩
  ·rw [zaj (Nat.ne_of_lt (hlt b hb))]
   exact (f2 b hb).1
 exact codeAny_compStart_list (loop _ rfl) (T.self _ 0 _ _ _ (T.keep _ _ _ st2 fun b hb o e=>old b o e) (loop _ rfl))
theorem zma {z:Str}(hc:X.calm=true)(S:CompScopeZ X scope N' n ix z)(hi:PI X tg iter wi)
  (hY:∀s₂ H₂ cl C fp Z,PG (X.compZ s₂ H₂ N' scope cl C fp z Z) tg g/\PTs (X.compZ s₂ H₂ N' scope cl C fp z Z) ifs tt/\PE (X.compZ s₂ H₂ N' scope cl C fp z Z) elt te)
  (hs:∀x,foldedSetIterable iter X.env x=pure x:=by intro _;rfl):PE X (.ListComp elt [⟨tg,iter,ifs,0⟩] scope pos) (tLc wi g tt te n ix):=by
 intro pins s σ H Q I h
 obtain⟨cl,hcl,hcl1,hcl2⟩:=zbg (env:=X.env) (scope:=scope) fun y hy hf=>I.ok.has _ (S.free y hy hf)
 rw[eval_ListComp]
 refine wpAny_comprehension_free (use:=none) rfl hs hcl S.kind S.names (thn (hi pins s σ H _ I h) fun v s1 h1=>thn h1 fun itv s2 h2=> ?_)
 obtain⟨it,fp,tn,J,H2,rfl,I2,T,st2,f2,hW⟩:=h2
 refine zgi (R:=fun acc C=>compPost (model X.prog X.w) X.A X.xe none (EP X pins σ Q) acc C) hc S hY I2 hcl1 hcl2 T st2 f2 hW ?_
 intro acc C s' H' m hn IX hf hL h1 h2 h3 h4 q
 exact⟨m,hn,fun h' sb=>⟨.ref acc,H',IX.turned (t':=s'.toks) (fun b o hb e=>sb.extBut b o hb e) hf hL h1 h2 h3,rfl,q⟩⟩
end
mutual
inductive IsK (K:PySem.W.Frag) (H:Hp):V->PyData->Prop
 |non:IsK K H .non .none
 |bl (b:Bool):IsK K H (.bl b) (.bool b)
 |int (i:Int):IsK K H (.int i) (.int i)
 |str (x:Str):IsK K H (.str x) (.str x)
 |tup {a:Addr} {vs:List V} {ds:List PyData}:SqT K H a vs->IsAllK K H vs ds->IsK K H (.ref a) (.tuple ds)
 |lst {a:Addr} {vs:List V} {ds:List PyData}:H a=some (.lst vs)->IsAllK K H vs ds->IsK K H (.ref a) (.list ds)
inductive IsAllK (K:PySem.W.Frag) (H:Hp):List V->List PyData->Prop
 |nil:IsAllK K H [] []
 |cons {v:V} {vs:List V} {d:PyData} {ds:List PyData}:IsK K H v d->IsAllK K H vs ds->IsAllK K H (v::vs) (d::ds)
end
section
variable {X:Cx}{pins:List (Addr×Obj)}{σ:St}{H:Hp}{s:Shared}
end
theorem zhQ {X:Cx}:OpR X (binaryOp .Mult) (rI (fun i j=>IntMulOk i j) fun i j=>.int (i*j)):=opI fun _ _ _ _ _ _ _ hc q=>mul_int q hc
section
variable {X:Cx}
end
theorem zcM {g:Int->Int}:∀{l:List Int} {ys:List V},Paired (fun x v=>∀k,x=V.int k->v=V.int (g k)) (l.map V.int) ys->ys=(l.map g).map V.int
 |[],_,.nil=>rfl
 |a::l,_,.cons h t=>by
  rw[List.map_cons,List.map_cons,<-zcM t,h a rfl]
theorem zkZ {n:Nat}{te:TE}{ix:List Nat}{σ:L2.St}{H1:Hp}{Q:VK}(g:Int->Int)(small:n<=1000)(he:∀k:Int,0<=k->k<n->∀H,Same H1 H->∀Q':VK,(∀H',Same H H'->Q' (.int (g k)) H')->te (some (.int k)::ix.map fun i=>σ.getD i none) H Q')
  (fin:∀acc H',H1 acc=none->Same H1 H'->H' acc=some (.lst (((num0 n).map g).map V.int))->Q (.ref acc) H'):LcW (Itr 0 n) H1 (zaU 0) zaG te 1 ix σ Q:=by
 refine zdk (zao (lo:=0) (n:=n)) (zaS (by rw[zan];exact small)) (fun x v _=>∀k,x=V.int k->v=V.int (g k)) (fun _ _ _ _ _ h=>h) (fun _ _=>trivial) (fun x hx H' s' Q' q=> ?_) fun acc ys H' hacc sm hys pr=> ?_
 ·obtain ⟨k,rfl,k0,k1⟩:=za5 hx
  exact he k k0 k1 H' s' Q' fun H2 s2=>q _ H2 s2 fun k' e=>by cases e;rfl
 ·rw [za0] at pr
  rw[zcM pr] at hys
  exact fin acc H' hacc sm hys
end L2
namespace L2
theorem zea {α:Type}{xs:List α}(h:0<xs.length):atI xs (-1)=xs[xs.length-1]? :=by
 unfold atI ixN
 rw[if_neg (by decide),if_pos (by lia)]
 show xs[((-1:Int)+xs.length).toNat]? =_
 rw[show ((-1:Int)+xs.length).toNat=xs.length-1 by lia]
end L2
namespace L2
theorem sqT_ofK {K:PySem.W.Frag}{a:Addr}{xs:List V}{its:Array Value}{n:Nat}(l:K.lookup a=some {cls:=.type "tuple",data:=.seq its n})(hz:its.size<=sizeLine)(r:Vals xs its.toList):∀H,SqT K H a xs:=fun _=>.inr ⟨_,its,n,l,rfl,rfl,hz,r⟩
structure TopX (mg:Str->Option Value):Prop where
 n_str:mg "str" =none
 n_repr:mg "repr" =none
 n_divmod:mg "divmod" =none
structure TopXK (K:PySem.W.Frag):Prop where
 k_str:PySem.W.nsIn K mainGlobals "str" =some none
 k_repr:PySem.W.nsIn K mainGlobals "repr" =some none
 k_divmod:PySem.W.nsIn K mainGlobals "divmod" =some none
theorem zgj {J:It}{Ok:Hp->Prop}{xs:List V}{tt:TT}{te:TE}{ix:List Nat}{σ:L2.St}{H1:Hp}{Q:VK}(Y:Yields J Ok xs)(small:xs.length<sizeLine)(p:V->Bool)(R:V->V->Hp->Prop)(hR:∀x v H H',SameT H H'->R x v H->R x v H')(hok:∀H,Same H1 H->Ok H)
  (ht:∀x∈xs,∀H,Same H1 H->∀Q':Bool->Hp->Prop,Q' (p x) H->tt (some x::ix.map fun i=>σ.getD i none) H Q')
  (he:∀x∈xs,p x=true->∀H,Same H1 H->∀Q':VK,(∀v H',Same H H'->R x v H'->Q' v H')->te (some x::ix.map fun i=>σ.getD i none) H Q')
  (fin:∀acc ys H',H1 acc=none->Same H1 H'->H' acc=some (.lst ys)->Paired (fun x v=>R x v H') (xs.filter p) ys->Q (.ref acc) H'):
  LcW J H1 (zaU 0) tt te 1 ix σ Q:=by
 intro acc ha
 refine⟨fun i m H=>m=xs.length-i/\i<=xs.length/\Same H1 H/\∃ys,H acc=some (.lst ys)/\Paired (fun x v=>R x v H) ((xs.take i).filter p) ys,⟨xs.length,by simp,Nat.zero_le _,zad ha,[],zab,.nil⟩, ?_⟩
 rintro i m H ⟨rfl,hi,sm,ys,hacc,pr⟩
 have o:=hok _ sm
 have hlen:ys.length<=i:=by
  rw[<-Paired.length pr]
  exact Nat.le_trans (List.length_filter_le _ _) (by rw[List.length_take];lia)
 by_cases hlt:i<xs.length
 ·refine .inr ⟨Y.go i _ o hlt,fun x H' y=> ?_⟩
  obtain⟨rfl,hx⟩:=Y.yld i _ x H' o hlt y
  have hmem:x∈xs:=List.mem_of_getElem? hx
  have htk:xs.take (i+1)=xs.take i++[x]:=by
   rw[List.take_succ,hx];rfl
  refine⟨⟨rfl,fun j v e=> ?_⟩, ?_⟩
  ·cases j with
   |zero=>cases e
   |succ j=>exact e
  ·refine ht x hmem _ sm _ ?_
   cases hp:p x with
   |false=>
    rw[if_neg Bool.false_ne_true]
    refine⟨xs.length-(i+1),by lia,rfl,hlt,sm,ys,hacc, ?_⟩
    rw[htk,List.filter_append]
    simpa [hp] using pr
   |true=>
    rw[if_pos rfl]
    refine he x hmem hp _ sm _ fun v H4 s4 r4=> ?_
    have h4:H4 acc=some (.lst ys):=s4 _ _ hacc
    refine⟨ys,h4,by lia,xs.length-(i+1),by lia,rfl,hlt,zaW (sm.trans s4) ha,ys++[v],zab, ?_⟩
    have st:SameT H4 (upd H4 acc (.lst (ys++[v]))):=zbG h4
    rw[htk,List.filter_append,show [x].filter p=[x] by simp[hp]]
    exact Paired.snoc (Paired.mapP pr fun x' v' r'=>hR _ _ _ _ (s4.t.trans st) r') (hR _ _ _ _ st r4)
 ·have e:i=xs.length:=by lia
  subst e
  refine .inl ⟨Y.stop _ o, ?_⟩
  rw[List.take_length] at pr
  exact fin acc ys H ha sm hacc pr
noncomputable def numF (lo:Int)(n:Nat):List Int:=(List.range n).map fun (i:Nat)=>lo+(i:Int)
theorem zdo (lo:Int)(n:Nat):zaY lo n=(numF lo n).map V.int:=by
 unfold zaY numF
 rw[List.map_map]
 rfl
noncomputable def rowP (kj:Int×Int):List Int:=[kj.1,kj.2]
noncomputable def RPrs (xy:V×V)(v:V)(H:Hp):Prop:=∃(k j:Int) (z:Addr),xy=(.int k,.int j)/\v=.ref z/\H z=some (.tup [.int k,.int j])
theorem zgk {H:Hp}:∀{ks:List (Int×Int)} {vs:List V},Paired (fun x v=>RPrs x v H) (ks.map fun kj=>(V.int kj.1,V.int kj.2)) vs->∃zs:List Addr,vs=zs.map V.ref/\RowsAt H zs (ks.map rowP)
 |[],_,.nil=>⟨[],rfl,.nil⟩
 |k::ks,_,.cons p t=>by
  obtain⟨k',j',z,e1,rfl,h⟩:=p
  cases e1
  obtain⟨zs,rfl,R⟩:=zgk t
  exact⟨z::zs,rfl,.cons h R⟩
theorem Paired.append {α β:Type}{F:α->β->Prop}:∀{l1 l2:List α} {v1 v2:List β},Paired F l1 v1->Paired F l2 v2->Paired F (l1++l2) (v1++v2)
 |_,_,_,_,.nil,h=>h
 |_,_,_,_,.cons r t,h=>.cons r (Paired.append t h)
theorem zjk {X:Cx}:OpR X (binaryOp .FloorDiv) (rI (fun _ j=>0<j/\j<10000000000000000000000000000000000000000) fun i j=>.int (i/j)):=opI fun i j _ _ _ _ _ hc q=>by
 have e:i/j=i.fdiv j:=(Int.fdiv_eq_ediv_of_nonneg _ (Int.le_of_lt hc.1)).symm
 rw[e] at q
 refine floordiv_int (by lia) q (.inl (PyProof.noPylong_of_log2 ?_))
 have h0:j.natAbs≠0:=by lia
 rw[Nat.log2_lt h0]
 have h3:(2:Nat)^133<=2^9000:=Nat.pow_le_pow_right (by decide) (by decide)
 refine Nat.lt_of_lt_of_le ?_ h3
 have h1:=hc.2
 have e2:(2:Nat)^133=10889035741470030830827987437816582766592:=by decide
 lia
noncomputable def Pot3 (H:Hp)(p:Addr)(n:Nat):Prop:=∃own seed turn:Int,H p=some (.lst [.int own,.int seed,.int turn])/\0<=own/\0<=seed/\seed<2305843009222000000/\0<=turn/\turn<=n
theorem Pot3.same {p:Addr}{n:Nat}{H H':Hp}(h:Pot3 H p n)(s:Same H H'):Pot3 H' p n:=by
 obtain⟨o,m,t,h1,h2⟩:=h
 exact⟨o,m,t,s _ _ h1,h2⟩
theorem Pot3.more {p:Addr}{n m:Nat}{H:Hp}(h:Pot3 H p n)(l:n<=m):Pot3 H p m:=by
 obtain⟨o,s,t,h1,h2,h3,h4,h5,h6⟩:=h
 exact⟨o,s,t,h1,h2,h3,h4,h5,by lia⟩
theorem Pot3.ne_new {p l:Addr}{n:Nat}{H:Hp}(h:Pot3 H p n)(hl:H l=none):l≠p:=by
 obtain⟨o,m,t,h1,h2⟩:=h
 intro e
 rw[e,h1] at hl
 cases hl
noncomputable def zdp:Sp:=fun vs H Q _=>∃(p:Addr) (m:Int) (n:Nat),vs=[.ref p,.int m]/\0<m/\m<10000000000000000000000000000000000000000/\Pot3 H p n/\n<1000000/\∀d H',0<=d->d<m->Pot3 H' p (n+1)->Keep p p H H'->Q (.int d) H'
theorem zjl {α:Type}(l:List α)(k:Nat):l.take (min k l.length)=l.take k:=by
 by_cases h:k<=l.length
 ·rw[Nat.min_eq_left h]
 ·rw[Nat.min_eq_right (by lia),List.take_length,List.take_of_length_le (by lia)]
theorem zdN (ns:List Int)(k:Nat):cutV (ns.map V.int) none (some (k:Int))=(ns.take k).map V.int:=by
 unfold cutV
 rw[HT.sIx_none,HT.sIx_nat,List.drop_zero,Nat.sub_zero,zjl,List.map_take]
section
variable {X:Cx}{tg:Expr}
end
section
variable {X:Cx}
end
theorem zgl {ns:List Int}{i:Nat}{x:V}(h:(ns.map V.int)[i]? =some x):i<ns.length/\x=.int (ns.getD i 0):=by
 rw[List.getElem?_map] at h
 cases e:ns[i]? with
 |none=>rw[e] at h;cases h
 |some n=>
  rw[e] at h
  refine⟨(List.getElem?_eq_some_iff.mp e).1, ?_⟩
  rw[List.getD_eq_getElem?_getD,e]
  exact (Option.some.inj h).symm
end L2
namespace PyProof.Rows
open PySem PySem.Spec
section
variable {prog:Program}{w:World}{A:Around}{E:Value->Shared->Prop}{s:Shared}
end
end PyProof.Rows
namespace L2
noncomputable def zhR (sc:Scope)(N:List Str)(scope:Scope)(N':List Str)(n:Nat)(ix:List Nat)(z:Str):Bool:=
 scope.kind==.function&&scope.names.all (fun y=>y.2 != .cell||y.1==z)&&scope.names.all (fun y=>y.2 != .free||y.1 != z)&&scope.names.all (fun y=>y.2 != .local||scope.names.lookup y.1==some .local)&&
 scope.names.all (fun y=>y.2 != .free||(sc.names.lookup y.1==some .cell||sc.names.lookup y.1==some .free))&&scope.names.all (fun y=>y.2 != .free||scope.names.lookup y.1 != some .local)&&
 N'.length==n+ix.length&&(List.range ix.length).all fun j=>match ix[j]?,N'[n+j]? with
  |some i,some x=>N[i]? ==some x&&scope.names.contains (x,.free)
  |_,_=>false
theorem CompScopeZ.of {X:Cx}{sc:Scope}{N:List Str}{scope:Scope}{N':List Str}{n:Nat}{ix:List Nat}{z:Str}(h:zhR sc N scope N' n ix z=true)(hs:X.env.scope=sc)(hN:X.N=N)(hcf:∀(a:Addr) (cl:List (Str×Addr)),cellsFrom a scope.names cl=(z,a)::cl)
  (hpc:∀h:Heap,pushCells h scope.names=h.push {cls:=.type "cell",data:=.cell none}):CompScopeZ X scope N' n ix z:=by
 unfold zhR at h
 simp only[Bool.and_eq_true,List.all_eq_true] at h
 obtain⟨⟨⟨⟨⟨⟨⟨h1,h2⟩,h2'⟩,h3⟩,h4⟩,h5⟩,h6⟩,h7⟩:=h
 subst hs hN
 refine⟨eq_of_beq h1,fun y hy hc=> ?_,fun y hy=> ?_,hcf,hpc,fun y hy hl=> ?_,fun y hy hf=> ?_,fun y hy hl=> ?_,eq_of_beq h6,fun j i e=> ?_⟩
 ·have:=h2 y hy
  rw[hc] at this
  simpa using this
 ·have:=h2' _ hy
  simpa using this
 ·have:=h3 y hy
  rw[hl] at this
  simpa using this
 ·have:=h4 y hy
  rw[hf] at this
  simpa using this
 ·have:=h5 _ hy
  rw[hl] at this
  simp at this
 ·have hj:j<ix.length:=(List.getElem?_eq_some_iff.mp e).1
  have:=h7 j (List.mem_range.mpr hj)
  rw[e] at this
  cases hx:N'[n+j]? with
  |none=>rw[hx] at this;simp at this
  |some x=>
   rw[hx] at this
   simp only[Bool.and_eq_true] at this
   exact⟨x,rfl,eq_of_beq this.1,by simpa using this.2⟩
section
variable {X:Cx}
noncomputable def zmZ:List V->Hp->VK->Prop:=fun xs H Q=>∃(l:Addr) (ns:List Int),xs=[.ref l]/\H l=some (.tup (ns.map V.int))/\ns≠[]/\∀M,M∈ns->(∀a∈ns,M<=a)->Q (.int M) H
theorem zfK {xs:Array (Int×Tok)}{ns:List Int}(hnum:xs.toList.map (·.1)=ns)(hsz:0<xs.size):
  numAt xs (argBest (fun i j=>decide (numAt xs i<numAt xs j)) (xs.size-1))∈ns/\∀a∈ns,numAt xs (argBest (fun i j=>decide (numAt xs i<numAt xs j)) (xs.size-1))<=a:=by
 obtain⟨h1,h2⟩:=argBest_lt (numAt xs) (xs.size-1)
 subst hnum
 refine⟨?_,fun a ha=> ?_⟩
 ·rw[numAt_eq];exact getD_mem (by rw[List.length_map,Array.length_toList];lia)
 ·obtain ⟨j,hj,rfl⟩:=mem_getD ha
  rw[List.length_map,Array.length_toList] at hj
  rw[<-numAt_eq];exact h2 j (by lia)
theorem ze2 (hc:X.calm=true):zbQ X (.builtin "min") zmZ:=by
 intro pins s σ H xs us Q I rs h
 obtain⟨l,ns,rfl,hH,hne,q⟩:=h
 obtain⟨u,rfl,ru⟩:=zcf rs
 cases (show u=Value.ref l from ru)
 obtain⟨its,r,ht,hz⟩:=I.tuple (SqT.of (K:=X.K) hH)
 have hI:=zbs r
 obtain⟨xs,hxs⟩:=hI.allInts.items
 have hnum:xs.toList.map (·.1)=ns:=by rw[<-nums_intItems,<-hxs];exact hI.numsOf
 have hsz:0<xs.size:=by
  have:ns.length=xs.size:=by rw[<-hnum,List.length_map,Array.length_toList]
  have:=List.length_pos_iff.mpr hne
  lia
 obtain⟨b1,b2⟩:=zfK hnum hsz
 have hT:s.heap.IsTuple l (intItems xs):=by rw[<-hxs];exact ht
 have hlt:l<s.heap.objs.size:=by obtain⟨_,e,_⟩:=hT;exact Heap.lt_size e
 have hT2:(s.heap.push {cls:=.type "tuple_iterator",data:=.fields #[.ref l,.int 0 0]}).IsTuple l (intItems xs):=by
  obtain⟨o,e,r⟩:=hT
  exact⟨o,Heap.get?_push_of_some _ e,r⟩
 have hh:X.A.handled=none:=I.ok.hd hc
 refine call_min_walk (wpAny_pyIter_tuple hT ?_)
 refine⟨_,_,_,_,_,_,_,rfl,Walks.tuple (A:=X.A.in1) hh s.heap.objs.size l (Nat.ne_of_lt hlt) (intItems xs),⟨⟨_,Heap.get?_push_size _ rfl,rfl,rfl⟩,hT2⟩,fun b hb=> ?_,by simpa [intItems] using hsz,CmpOf.ints_lt (numAt xs) (fun _ _=>intItems_at),fun v h' tk hP hk=> ?_⟩
 ·show b<(s.heap.push _).objs.size
  rw[Heap.size_push]
  rcases List.mem_cons.mp hb with rfl|hb
  ·exact Nat.lt_succ_self _
  ·rw [List.mem_singleton.mp hb]
   exact Nat.lt_succ_of_lt hlt
 ·have hv:(intItems xs)[argBest (fun i j=>decide (numAt xs i<numAt xs j)) (xs.size-1)]? =some v:=by simpa [intItems] using hP
  obtain⟨t,rfl⟩:=intItems_at hv
  refine⟨.int _,H,I.kept (t':=tk) (fun b o e=>hk b o (fun hm=> ?_) (Heap.get?_push_of_some _ e)),⟨_,rfl⟩,q _ b1 b2⟩
  rw[List.mem_singleton.mp hm] at e
  exact absurd (Heap.lt_size e) (Nat.lt_irrefl _)
end
noncomputable def zbr (os:List Int)(p:Nat):Int:=
 if (os.take p).all (fun a=>decide (a<os.getD p 0)) then 3 else if (os.take p).all (fun a=>decide (os.getD p 0<a)) then 0 else if os.getD (p-1) 0<os.getD p 0 then 2 else 1
noncomputable def zal (os:List Int):List Int:=(numF 1 (os.length-1)).map fun k=>zbr os k.toNat
theorem ze3 (lo:Int)(n:Nat):numF lo (n+1)=numF lo n++[lo+(n:Int)]:=by
 unfold numF
 rw[List.range_succ,List.map_append]
 rfl
theorem zhS {os:List Int}{p:Nat}{M:Int}(hm:M∈os.take p)(ha:∀a∈os.take p,a<=M):(os.take p).all (fun a=>decide (a<os.getD p 0))=decide (M<os.getD p 0):=by
 rw[Bool.eq_iff_iff,List.all_eq_true,decide_eq_true_eq]
 refine⟨fun h=>of_decide_eq_true (h M hm),fun h a hb=>decide_eq_true ?_⟩
 have:=ha a hb
 lia
theorem zhT {os:List Int}{p:Nat}{M:Int}(hm:M∈os.take p)(ha:∀a∈os.take p,M<=a):(os.take p).all (fun a=>decide (os.getD p 0<a))=decide (os.getD p 0<M):=by
 rw[Bool.eq_iff_iff,List.all_eq_true,decide_eq_true_eq]
 refine⟨fun h=>of_decide_eq_true (h M hm),fun h a hb=>decide_eq_true ?_⟩
 have:=ha a hb
 lia
theorem zgm {os:List Int}{p:Nat}(h0:1<=p)(h1:p<os.length):os.getD (p-1) 0∈os.take p:=by
 rw[List.getD_eq_getElem?_getD,List.getElem?_eq_getElem (by lia)]
 refine List.mem_iff_getElem.mpr ⟨p-1,by rw[List.length_take];lia, ?_⟩
 rw[List.getElem_take]
 rfl
theorem zhU {os:List Int}{p:Nat}(h0:1<=p)(h1:p<=os.length):atI ((os.take p).map V.int) (-1)=some (.int (os.getD (p-1) 0)):=by
 have hl:(os.take p).length=p:=by rw[List.length_take];lia
 rw[zea (by rw[zaq,hl];lia),zaq,hl,List.getElem?_map,List.getElem?_take,if_pos (by lia),List.getD_eq_getElem?_getD,List.getElem?_eq_getElem (by lia)]
 rfl
noncomputable def zhV:Sp:=fun vs H Q _=>∃(a:Addr) (os:List Int) (p:Int),vs=[.ref a,.int p]/\H a=some (.tup (os.map V.int))/\1<=p/\p<os.length/\∀H',Same H H'->Q (.int (zbr os p.toNat)) H'
noncomputable def zjm (K:PySem.W.Frag):Sp:=fun vs H Q _=>∃(a:Addr) (ns:List Int),vs=[.ref a]/\SqL K H a (ns.map V.int)/\∀p H',Same H H'->Pot3 H' p 0->H p=none->Q (.ref p) H'
theorem zk0 (i:Nat)(hi:i<=63):IntMulOk (((10:Int)^(60:Int).toNat)^i) ((10:Int)^(60:Int).toNat):=by
 have h10:Builtin.Int.intBits (10:Int)<=4:=intBits_le_iff.mpr (by decide)
 have h1:Builtin.Int.intBits ((10:Int)^(60:Int).toNat)<=241:=intBits_pow_le h10 60
 have h2:Builtin.Int.intBits (((10:Int)^(60:Int).toNat)^i)<=241*i+1:=intBits_pow_le h1 i
 exact IntMulOk.of_le h2 h1 (by lia)
theorem zjn (x:Int)(i:Nat)(hi:i<=63):IntMulOk (x%(10:Int)^(60:Int).toNat) (((10:Int)^(60:Int).toNat)^i):=by
 have h10:Builtin.Int.intBits (10:Int)<=4:=intBits_le_iff.mpr (by decide)
 have h1:Builtin.Int.intBits ((10:Int)^(60:Int).toNat)<=241:=intBits_pow_le h10 60
 have h2:Builtin.Int.intBits (((10:Int)^(60:Int).toNat)^i)<=241*i+1:=intBits_pow_le h1 i
 have h3:Builtin.Int.intBits (x%(10:Int)^(60:Int).toNat)<=241:=by
  have hp:(0:Int)<(10:Int)^(60:Int).toNat:=by decide
  have a0:=Int.emod_nonneg x (Int.ne_of_gt hp)
  have a1:=Int.emod_lt_of_pos x hp
  have b:=intBits_le_iff.mp h1
  refine intBits_le_iff.mpr ?_
  generalize x%(10:Int)^(60:Int).toNat=y at*
  generalize (10:Int)^(60:Int).toNat=F at*
  lia
 exact IntMulOk.of_le h3 h2 (by lia)
section
variable {X:Cx}{elt tg iter:Expr}{ifs:List Expr}{scope:Scope}{pos:Pos}{wi:TI}{g:TG}{tt:TT}{te:TE}{N':List Str}{n:Nat}{ix:List Nat}
theorem zhW {x z:Str}{i:Nat}{pos' spos:Pos}(hsw:swapsWith (.ListComp elt [⟨tg,iter,ifs,0⟩] scope pos) (some (.Name x pos')) spos.line X.env=pure true)(hN:X.N.Nodup)(hi':X.N[i]? =some x)(hx:X.env.scope.names.lookup x=some .local)
  (hc:X.calm=true) (S:CompScopeZ X scope N' n ix z) (hi:PI X tg iter wi)
  (hY:∀s₂ H₂ cl C fp Z,PG (X.compZ s₂ H₂ N' scope cl C fp z Z) tg g/\PTs (X.compZ s₂ H₂ N' scope cl C fp z Z) ifs tt/\PE (X.compZ s₂ H₂ N' scope cl C fp z Z) elt te)
  (hs:∀x,foldedSetIterable iter X.env x=pure x:=by intro _;rfl):PS X (.Assign [.Name x pos'] (.ListComp elt [⟨tg,iter,ifs,0⟩] scope pos) spos) (tAsg (tLc wi g tt te n ix) (zaU i)):=by
 intro pins s σ H D I h
 obtain⟨cl,hcl,hcl1,hcl2⟩:=zbg (env:=X.env) (scope:=scope) fun y hy hf=>I.ok.has _ (S.free y hy hf)
 rw[exec_Assign_Name_used _ _ _ _ hsw]
 refine wpAny_bind (wpAny_standAt (wpAny_bind ?_))
 show wpAny _ _ (do let _<-comprehension (.ListComp elt [⟨tg,iter,ifs,0⟩] scope pos) scope X.env _ (newList []) false (eval iter X.env) (some (assign (.Name x pos') X.env))) _ _ s
 refine wpAny_bind (thn (wpAny_comprehension_free (use:=some (assign (.Name x pos') X.env)) (Q:=fun _ s'=>SP X pins D .next s') rfl hs hcl S.kind S.names (thn (hi pins s σ H _ I h) fun v s1 h1=>thn h1 fun itv s2 h2=> ?_)) fun _ s' hq=>wpAny_pure (wpAny_pure hq))
 obtain⟨it,fp,tn,J,H2,rfl,I2,T,st2,f2,hW⟩:=h2
 refine zgi (Q:=fun x H1=>zaU i x σ H1 D.nx) (R:=fun acc C=>compPost (model X.prog X.w) X.A X.xe (some (assign (.Name x pos') X.env)) (fun _ s'=>SP X pins D .next s') acc C) hc S hY I2 hcl1 hcl2 T st2 f2 hW ?_
 intro acc C s' H' m hn IX hf hL h1 h2 h3 h4 q
 show wpAny _ _ (assign (.Name x pos') X.env (.ref acc)) _ _ _
 obtain⟨oC,esC,epC,hoC,hdC,rC⟩:=id hn
 have IP:Inv X (pins++[(C,oC)]) σ H' s':=IX.pins_of fun p hp=>by
  rcases List.mem_append.mp hp with z|z
  ·exact IX.pin p (List.mem_append_right _ z)
  ·have e:p=(C,oC):=by simpa using z
   subst e
   exact⟨hoC,hf,hL,h4,fun v z=>by rw[hdC] at z;cases z⟩
 refine thn (zah hN hi' (.inl hx) (.inr hx) _ s' σ H' (.ref acc) (.ref acc) D.nx IP rfl q) fun _ s'' zq=> ?_
 obtain⟨σ',H'',I'',q''⟩:=zq
 obtain⟨e1,e2,_⟩:=I''.pin (C,oC) (List.mem_append_right _ (List.mem_append_right _ (by simp)))
 refine⟨m,⟨oC,esC,epC,e1,hdC,rC⟩,fun h' sb=>⟨σ',H'', ?_,q''⟩⟩
 exact I''.unpinned.turned (t':=s''.toks) (fun b o hb e=>sb.extBut b o hb e) e2 hL h1 h2 h3
end
theorem Pot3.upd {H:Hp}{p a:Addr}{n:Nat}{o:HO}(h:Pot3 H p n)(e:a≠p):Pot3 (upd H a o) p n:=by
 obtain⟨u,s,t,h1,h2⟩:=h
 exact⟨u,s,t,by rw[zaj (Ne.symm e)];exact h1,h2⟩
theorem Keep.upd {p q a:Addr}{H H':Hp}{o:HO}(k:Keep p q H H')(e:H a=none):Keep p q H (upd H' a o):=fun b o' h h1 h2=>by
 have:b≠a:=fun z=>by rw[z,e] at h;cases h
 rw[zaj this]
 exact k b o' h h1 h2
theorem zfL {J:It}{Ok:Hp->Prop}{xs:List V}{tt:TT}{te:TE}{ix:List Nat}{σ:L2.St}{H1:Hp}{Q:VK}(Y:Yields J Ok xs)(small:xs.length<sizeLine){p:Addr}{c k:Nat}(hp:Pot3 H1 p c)(full:Bool)(D:Int->Prop)(hok:∀H,Keep p p H1 H->Ok H)
  (he:∀i x H,xs[i]? =some x->Keep p p H1 H->Pot3 H p (c+k*i)->∀(QF:Hp->Prop) (QT:VK),(full=false->∀H',Keep p p H H'->Pot3 H' p (c+k*(i+1))->QF H')->(∀(d:Int) H',Keep p p H H'->Pot3 H' p (c+k*(i+1))->D d->QT (.int d) H')->
   tt (some x::ix.map fun i=>σ.getD i none) H fun b H3=>if b=true then te (some x::ix.map fun i=>σ.getD i none) H3 QT else QF H3)
  (fin:∀acc (ds:List Int) H',H1 acc=none->acc≠p->Keep p p H1 H'->Pot3 H' p (c+k*xs.length)->H' acc=some (.lst (ds.map V.int))->ds.length<=xs.length->(full=true->ds.length=xs.length)->(∀d∈ds,D d)->Q (.ref acc) H'):
  LcW J H1 (zaU 0) tt te 1 ix σ Q:=by
 intro acc ha
 have hap:=hp.ne_new ha
 refine⟨fun i m H=>m=xs.length-i/\i<=xs.length/\Keep p p H1 H/\Pot3 H p (c+k*i)/\∃ds:List Int,H acc=some (.lst (ds.map V.int))/\ds.length<=i/\(full=true->ds.length=i)/\∀d∈ds,D d,⟨xs.length,by simp,Nat.zero_le _,(zad ha).keep,hp.same (zad ha),[],zab,Nat.le_refl _,fun _=>rfl,fun _ h=>by cases h⟩, ?_⟩
 rintro i m H ⟨rfl,hi,kp,hpot,ds,hacc,hl,hf,hD⟩
 have o:=hok _ kp
 by_cases hlt:i<xs.length
 ·refine .inr ⟨Y.go i _ o hlt,fun x H' y=> ?_⟩
  obtain⟨rfl,hx⟩:=Y.yld i _ x H' o hlt y
  refine⟨⟨rfl,fun j v e=> ?_⟩, ?_⟩
  ·cases j with
   |zero=>cases e
   |succ j=>exact e
  ·refine he i x H' hx kp hpot (fun H3=>∃m',m'<xs.length-i/\_) (fun v H4=>∃ys,H4 acc=some (.lst ys)/\ys.length<sizeLine/\∃m',m'<xs.length-i/\_) (fun hF H3 k3 p3=> ?_) (fun d H4 k4 p4 hd=> ?_)
   ·exact⟨xs.length-(i+1),by lia,rfl,hlt,kp.trans k3,p3,ds,k3 _ _ hacc hap hap,by lia,(fun z=>by rw[hF] at z;cases z),hD⟩
   ·have h4:=k4 _ _ hacc hap hap
    refine⟨_,h4,by rw[zaq];lia,xs.length-(i+1),by lia,rfl,hlt,(kp.trans k4).upd ha,p4.upd hap,ds++[d],by rw[zab,List.map_append];rfl,by simp;lia,(fun z=>by have:=hf z;simp;lia),fun d' hd'=> ?_⟩
    rcases List.mem_append.mp hd' with h|h
    ·exact hD d' h
    ·rw[List.mem_singleton.mp h];exact hd
 ·have e:i=xs.length:=by lia
  subst e
  exact .inl ⟨Y.stop _ o,fin acc ds H ha hap kp hpot hacc hl hf hD⟩
theorem zci {α β:Type}{F G:α->β->Prop}:∀{l₁:List α} {l₂:List β},Paired F l₁ l₂->(∀a b,a∈l₁->F a b->G a b)->Paired G l₁ l₂
 |_,_,.nil,_=>.nil
 |_,_,.cons p q,h=>.cons (h _ _ (List.mem_cons_self) p) (zci q fun a b m f=>h a b (List.mem_cons_of_mem _ m) f)
noncomputable def zhX (H:Hp)(zs:List Addr)(rows:List (List Int)):Prop:=Paired (fun z r=>H z=some (.lst (r.map V.int))) zs rows
theorem zfM {J:It}{Ok:Hp->Prop}{xs:List V}{te:TE}{ix:List Nat}{σ:L2.St}{H1:Hp}{Q:VK}(Y:Yields J Ok xs)(small:xs.length<sizeLine){p:Addr}{c k:Nat}(hp:Pot3 H1 p c)(D:List Int->Prop)(hok:∀H,Keep p p H1 H->Ok H)
  (he:∀i x H,xs[i]? =some x->Keep p p H1 H->Pot3 H p (c+k*i)->∀(QT:VK),(∀(a:Addr) (r:List Int) H',H a=none->H' a=some (.lst (r.map V.int))->Keep p p H H'->Pot3 H' p (c+k*(i+1))->D r->QT (.ref a) H')->te (some x::ix.map fun i=>σ.getD i none) H QT)
  (fin:∀acc (zs:List Addr) (rows:List (List Int)) H',H1 acc=none->acc≠p->Keep p p H1 H'->Pot3 H' p (c+k*xs.length)->H' acc=some (.lst (zs.map V.ref))->zhX H' zs rows->(∀z∈zs,z≠p)->rows.length=xs.length->(∀r∈rows,D r)->Q (.ref acc) H'):
  LcW J H1 (zaU 0) zaG te 1 ix σ Q:=by
 intro acc ha
 have hap:=hp.ne_new ha
 refine⟨fun i m H=>m=xs.length-i/\i<=xs.length/\Keep p p H1 H/\Pot3 H p (c+k*i)/\∃(zs:List Addr) (rows:List (List Int)),H acc=some (.lst (zs.map V.ref))/\zhX H zs rows/\(∀z∈zs,z≠p/\z≠acc)/\rows.length=i/\∀d∈rows,D d,⟨xs.length,by simp,Nat.zero_le _,(zad ha).keep,hp.same (zad ha),[],[],zab,.nil,fun _ h=>(by cases h),rfl,fun _ h=>by cases h⟩, ?_⟩
 rintro i m H ⟨rfl,hi,kp,hpot,zs,rows,hacc,hr,hz,hl,hD⟩
 have o:=hok _ kp
 have hzl:=Paired.length hr
 by_cases hlt:i<xs.length
 ·refine .inr ⟨Y.go i _ o hlt,fun x H' y=> ?_⟩
  obtain⟨rfl,hx⟩:=Y.yld i _ x H' o hlt y
  refine⟨⟨rfl,fun j v e=> ?_⟩, ?_⟩
  ·cases j with
   |zero=>cases e
   |succ j=>exact e
  ·unfold zaG
   dsimp only
   rw[if_pos rfl]
   refine he i x H' hx kp hpot _ (fun a r H4 a0 a4 k4 p4 hd=> ?_)
   have h4:=k4 _ _ hacc hap hap
   have haa:a≠acc:=fun e=>by rw[e,hacc] at a0;cases a0
   have hap':a≠p:=hpot.ne_new a0
   refine⟨_,h4,by rw[List.length_map];lia,xs.length-(i+1),by lia,rfl,hlt,(kp.trans k4).upd ha,p4.upd hap,zs++[a],rows++[r],by rw[zab,List.map_append];rfl, ?_,fun z h=> ?_,by simp;lia,fun d' hd'=> ?_⟩
   ·refine Paired.snoc (zci hr fun z r' hzm h=> ?_) ?_
    ·obtain ⟨q1,q2⟩:=hz z hzm
     rw[zaj q2]
     exact k4 _ _ h q1 q1
    ·rw[zaj haa];exact a4
   ·rcases List.mem_append.mp h with h|h
    ·exact hz z h
    ·rw[List.mem_singleton.mp h];exact⟨hap',haa⟩
   ·rcases List.mem_append.mp hd' with h|h
    ·exact hD d' h
    ·rw[List.mem_singleton.mp h];exact hd
 ·have e:i=xs.length:=by lia
  subst e
  exact .inl ⟨Y.stop _ o,fin acc zs rows H ha hap kp hpot hacc hr (fun z h=>(hz z h).1) hl hD⟩
noncomputable def IsMach (H:Hp)(z:Addr)(N:Nat)(rows:List (List Int))(ends:List Int):Prop:=∃(R E:Addr) (zs:List Addr),H z=some (.tup [.ref R,.ref E])/\H R=some (.tup (zs.map V.ref))/\RowsAt H zs rows/\H E=some (.tup (ends.map V.int))/\rows.length=N/\0<N/\∀r∈rows,r.length=4/\∀d∈r,0<=d/\d<N
theorem IsMach.sameT {H H':Hp}{z:Addr}{N:Nat}{rows:List (List Int)}{ends:List Int}(h:IsMach H z N rows ends)(s:SameT H H'):IsMach H' z N rows ends:=by
 obtain⟨R,E,zs,h1,h2,h3,h4,h5⟩:=h
 exact⟨R,E,zs,s _ _ h1,s _ _ h2,h3.sameT s,s _ _ h4,h5⟩
noncomputable def goZ (rows:List (List Int))(ms:List Int):Int:=ms.foldl (fun s m=>(rows.getD s.toNat []).getD m.toNat 0) 0
theorem zeb {rows:List (List Int)}{ms:List Int}{i:Nat}{d:Int}(h:ms[i]? =some d):goZ rows (ms.take (i+1))=(rows.getD (goZ rows (ms.take i)).toNat []).getD d.toNat 0:=by
 unfold goZ
 rw[List.take_succ,h,List.foldl_append]
 rfl
noncomputable def Mrk (ms:List Int):Prop:=∀m∈ms,0<=m/\m<4
theorem zec {rows:List (List Int)}{N:Nat}(hl:rows.length=N)(hN:0<N)(hr:∀r∈rows,r.length=4/\∀d∈r,0<=d/\d<(N:Int)){ms:List Int}(hm:Mrk ms):∀i,i<=ms.length->0<=goZ rows (ms.take i)/\goZ rows (ms.take i)<N
 |0,_=>by rw[List.take_zero];exact⟨Int.le_refl 0,by show (0:Int)<N;lia⟩
 | i+1,hi=>by
  obtain⟨a,b⟩:=zec hl hN hr hm i (by lia)
  have hg:ms[i]? =some ms[i]:=List.getElem?_eq_getElem (by lia)
  rw[zeb hg]
  have hs:(goZ rows (ms.take i)).toNat<rows.length:=by lia
  have e1:rows.getD (goZ rows (ms.take i)).toNat []=rows[(goZ rows (ms.take i)).toNat]:=by
   rw[List.getD_eq_getElem?_getD,List.getElem?_eq_getElem hs];rfl
  have q:=hr _ (List.getElem_mem hs)
  have md:=hm _ (List.getElem_mem (show i<ms.length by lia))
  rw[e1]
  generalize rows[(goZ rows (ms.take i)).toNat]=r at q
  have ht:(ms[i]).toNat<r.length:=by lia
  have e2:r.getD (ms[i]).toNat 0=r[(ms[i]).toNat]:=by
   rw[List.getD_eq_getElem?_getD,List.getElem?_eq_getElem ht];rfl
  rw[e2]
  exact q.2 _ (List.getElem_mem ht)
theorem zb0 (os:List Int):Mrk (zal os):=by
 intro m hm
 unfold zal at hm
 obtain⟨k,_,rfl⟩:=List.mem_map.mp hm
 show 0<=zbr os k.toNat/\zbr os k.toNat<4
 unfold zbr
 split
 ·decide
 ·split
  ·decide
  ·split<;>decide
noncomputable def metB (rows:List (List Int))(ends os:List Int):Bool:=inV (.int (goZ rows (zal os))) (ends.map V.int)
noncomputable def zhY:Sp:=fun vs H Q _=>∃(z a:Addr) (N:Nat) (rows:List (List Int)) (ends ms:List Int),vs=[.ref z,.ref a]/\IsMach H z N rows ends/\H a=some (.tup (ms.map V.int))/\Mrk ms/\∀H',Same H H'->Q (.int (goZ rows ms)) H'
noncomputable def zjo:Sp:=fun vs H Q _=>∃(z a:Addr) (N:Nat) (rows:List (List Int)) (ends os:List Int) (m:Nat),vs=[.ref z,.ref a]/\IsMach H z N rows ends/\H a=some (.tup (os.map V.int))/\Ord m os/\m<=100/\∀H',Same H H'->Q (.bl (metB rows ends os)) H'
noncomputable def prZ (n1 n2:Nat):List (Int×Int):=(num0 n1).flatMap fun a=>(num0 n2).map fun b=>(a,b)
theorem zgn (n1 n2:Nat):prZ (n1+1) n2=prZ n1 n2++(num0 n2).map fun b=>((n1:Int),b):=by
 unfold prZ num0
 rw[List.range_succ,List.map_append,List.flatMap_append]
 simp
theorem zcj (n2:Nat):∀n1,(prZ n1 n2).length=n1*n2
 |0=>by simp[prZ,num0]
 |n1+1=>by rw[zgn,List.length_append,zcj n2 n1,List.length_map,zbj,Nat.add_mul,Nat.one_mul]
theorem zfN {n2 b:Nat}(hb:b<n2):∀(n1 a:Nat),a<n1->(prZ n1 n2)[a*n2+b]? =some ((a:Int),(b:Int))
 | n1+1,a,h=>by
  rw[zgn]
  by_cases c:a<n1
  ·have:a*n2+b<n1*n2:=by
    have:(a+1)*n2<=n1*n2:=Nat.mul_le_mul_right _ c
    rw[Nat.add_mul,Nat.one_mul] at this
    lia
   rw[List.getElem?_append_left (by rw[zcj];exact this),zfN hb n1 a c]
  ·have e:a=n1:=by lia
   subst e
   rw[List.getElem?_append_right (by rw[zcj];lia),zcj,show a*n2+b-a*n2=b by lia,List.getElem?_map,zjf hb]
   rfl
noncomputable def zfO (r1 r2:List Int)(n2:Nat):List Int:=([0,1,2,3]:List Int).map fun m=>r1.getD m.toNat 0*n2+r2.getD m.toNat 0
noncomputable def zba (rows1 rows2:List (List Int)):List (List Int):=(prZ rows1.length rows2.length).map fun ab=>zfO (rows1.getD ab.1.toNat []) (rows2.getD ab.2.toNat []) rows2.length
noncomputable def oppE (N:Nat)(ends:List Int):List Int:=(num0 N).filter fun s=> !decide (s∈ends)
noncomputable def zbu (n1 n2:Nat)(e1 e2:List Int):List Int:=(num0 (n1*n2)).filter fun s=>decide (s/n2∈e1)&&decide (s%n2∈e2)
noncomputable def Rws (N:Nat)(rows:List (List Int)):Prop:=rows.length=N/\0<N/\∀r∈rows,r.length=4/\∀d∈r,0<=d/\d<(N:Int)
theorem ze4 {N:Nat}{rows:List (List Int)}(h:Rws N rows){s m:Int}(hs:0<=s/\s<N)(hm:0<=m/\m<4):0<=(rows.getD s.toNat []).getD m.toNat 0/\(rows.getD s.toNat []).getD m.toNat 0<N:=by
 have l:=h.1
 have hlt:s.toNat<rows.length:=by lia
 have e1:rows.getD s.toNat []=rows[s.toNat]:=by
  rw[List.getD_eq_getElem?_getD,List.getElem?_eq_getElem hlt];rfl
 have q:=h.2.2 _ (List.getElem_mem hlt)
 rw[e1]
 generalize rows[s.toNat]=r at q
 have ht:m.toNat<r.length:=by lia
 have e2:r.getD m.toNat 0=r[m.toNat]:=by
  rw[List.getD_eq_getElem?_getD,List.getElem?_eq_getElem ht];rfl
 rw[e2]
 exact q.2 _ (List.getElem_mem ht)
theorem zhZ (r1 r2:List Int)(n2:Nat){m:Int}(hm:0<=m/\m<4):(zfO r1 r2 n2).getD m.toNat 0=r1.getD m.toNat 0*n2+r2.getD m.toNat 0:=by
 have:m=0∨m=1∨m=2∨m=3:=by lia
 rcases this with rfl|rfl|rfl|rfl<;>rfl
theorem zh0 {n1 n2:Nat}{rows1 rows2:List (List Int)}(h1:Rws n1 rows1)(h2:Rws n2 rows2){s1 s2:Int}(hs1:0<=s1/\s1<n1)(hs2:0<=s2/\s2<n2):(zba rows1 rows2).getD (s1*n2+s2).toNat []=zfO (rows1.getD s1.toNat []) (rows2.getD s2.toNat []) n2:=by
 obtain⟨a,rfl⟩:∃a:Nat,s1=(a:Int):=⟨s1.toNat,by lia⟩
 obtain⟨b,rfl⟩:∃b:Nat,s2=(b:Int):=⟨s2.toNat,by lia⟩
 have e:((a:Int)*(n2:Int)+(b:Int)).toNat=a*n2+b:=by
  rw[<-Int.natCast_mul,<-Int.natCast_add,Int.toNat_natCast]
 unfold zba
 rw[e,List.getD_eq_getElem?_getD,List.getElem?_map,h1.1,h2.1,zfN (by lia) n1 a (by lia)]
 rfl
theorem zkm {N:Nat}{rows:List (List Int)}(h:Rws N rows):∀(ms:List Int),Mrk ms->∀s:Int,0<=s/\s<N->0<=ms.foldl (fun s m=>(rows.getD s.toNat []).getD m.toNat 0) s/\ms.foldl (fun s m=>(rows.getD s.toNat []).getD m.toNat 0) s<N
 |[],_,s,hs=>hs
 |m::t,hm,s,hs=>zkm h t (fun x hx=>hm x (List.mem_cons_of_mem _ hx)) _ (ze4 h hs (hm m List.mem_cons_self))
theorem zh1 {n1 n2:Nat}{rows1 rows2:List (List Int)}(h1:Rws n1 rows1)(h2:Rws n2 rows2):∀(ms:List Int),Mrk ms->∀s1 s2:Int,0<=s1/\s1<n1->0<=s2/\s2<n2->
  ms.foldl (fun s m=>((zba rows1 rows2).getD s.toNat []).getD m.toNat 0) (s1*n2+s2)=ms.foldl (fun s m=>(rows1.getD s.toNat []).getD m.toNat 0) s1*n2+ms.foldl (fun s m=>(rows2.getD s.toNat []).getD m.toNat 0) s2
 |[],_,_,_,_,_=>rfl
 |m::t,hm,s1,s2,hs1,hs2=>by
  have hm0:=hm m List.mem_cons_self
  show t.foldl _ (((zba rows1 rows2).getD (s1*n2+s2).toNat []).getD m.toNat 0)=t.foldl _ ((rows1.getD s1.toNat []).getD m.toNat 0)*n2+t.foldl _ ((rows2.getD s2.toNat []).getD m.toNat 0)
  rw[zh0 h1 h2 hs1 hs2,zhZ _ _ _ hm0]
  exact zh1 h1 h2 t (fun x hx=>hm x (List.mem_cons_of_mem _ hx)) _ _ (ze4 h1 hs1 hm0) (ze4 h2 hs2 hm0)
theorem zjp {n1 n2:Nat}{rows1 rows2:List (List Int)}(h1:Rws n1 rows1)(h2:Rws n2 rows2){ms:List Int}(hm:Mrk ms):goZ (zba rows1 rows2) ms=goZ rows1 ms*n2+goZ rows2 ms:=by
 have:=zh1 h1 h2 ms hm 0 0 ⟨by decide,by have:=h1.2.1;lia⟩ ⟨by decide,by have:=h2.2.1;lia⟩
 rw[Int.zero_mul,Int.zero_add] at this
 exact this
theorem zbA {n1 n2:Nat}{rows1 rows2:List (List Int)}(h1:Rws n1 rows1)(h2:Rws n2 rows2):Rws (n1*n2) (zba rows1 rows2):=by
 refine⟨?_,Nat.mul_pos h1.2.1 h2.2.1,fun r hr=> ?_⟩
 ·unfold zba
  rw[List.length_map,zcj,h1.1,h2.1]
 ·unfold zba at hr
  obtain⟨⟨a,b⟩,hab,rfl⟩:=List.mem_map.mp hr
  unfold prZ at hab
  obtain⟨a',ha',hb'⟩:=List.mem_flatMap.mp hab
  obtain⟨b',hc',e⟩:=List.mem_map.mp hb'
  injection e with e1 e2
  subst e1
  subst e2
  have ha:=mem_num0.mp ha'
  have hb:=mem_num0.mp hc'
  rw[h1.1] at ha
  rw[h2.1] at hb
  refine⟨rfl,fun d hd=> ?_⟩
  unfold zfO at hd
  obtain⟨m,hm,rfl⟩:=List.mem_map.mp hd
  have hm4:0<=m/\m<4:=by
   have:m=0∨m=1∨m=2∨m=3:=by simpa using hm
   lia
  have q1:=ze4 h1 ha hm4
  have q2:=ze4 h2 hb hm4
  rw[h2.1]
  show 0<=(rows1.getD a'.toNat []).getD m.toNat 0*(n2:Int)+(rows2.getD b'.toNat []).getD m.toNat 0/\(rows1.getD a'.toNat []).getD m.toNat 0*(n2:Int)+(rows2.getD b'.toNat []).getD m.toNat 0<((n1*n2:Nat):Int)
  generalize (rows1.getD a'.toNat []).getD m.toNat 0=x at q1
  generalize (rows2.getD b'.toNat []).getD m.toNat 0=y at q2
  have p0:0<=x*(n2:Int):=Int.mul_nonneg q1.1 (by lia)
  have p1:(x+1)*(n2:Int)<=(n1:Int)*n2:=Int.mul_le_mul_of_nonneg_right (by lia) (by lia)
  rw[Int.add_mul,Int.one_mul] at p1
  rw[Int.natCast_mul]
  lia
theorem zjq {N:Nat}{rows:List (List Int)}(h:Rws N rows)(os:List Int):0<=goZ rows (zal os)/\goZ rows (zal os)<N:=zkm h _ (zb0 os) 0 ⟨by decide,by have:=h.2.1;lia⟩
theorem zbX {N:Nat}{rows:List (List Int)}(h:Rws N rows)(ends os:List Int):metB rows (oppE N ends) os= !metB rows ends os:=by
 have g:=zjq h os
 unfold metB
 rw[za1,za1]
 unfold oppE
 apply Bool.eq_iff_iff.mpr
 simp[List.mem_filter,mem_num0,g.1,g.2]
theorem zc3 {n1 n2:Nat}{rows1 rows2:List (List Int)}(h1:Rws n1 rows1)(h2:Rws n2 rows2)(e1 e2 os:List Int):metB (zba rows1 rows2) (zbu n1 n2 e1 e2) os=(metB rows1 e1 os&&metB rows2 e2 os):=by
 have g1:=zjq h1 os
 have g2:=zjq h2 os
 have g:=zjq (zbA h1 h2) os
 have e:=zjp h1 h2 (zb0 os)
 unfold metB
 rw[za1,za1,za1]
 unfold zbu
 rw[e] at g ⊢
 generalize goZ rows1 (zal os)=x at g1 g
 generalize goZ rows2 (zal os)=y at g2 g
 have q1:(x*(n2:Int)+y)/n2=x:=by
  rw[Int.add_comm,Int.add_mul_ediv_right _ _ (by lia),Int.ediv_eq_zero_of_lt g2.1 g2.2,Int.zero_add]
 have q2:(x*(n2:Int)+y)%n2=y:=by
  rw[Int.add_comm,Int.add_mul_emod_self_right,Int.emod_eq_of_lt g2.1 g2.2]
 apply Bool.eq_iff_iff.mpr
 rw[decide_eq_true_iff,List.mem_filter,mem_num0,q1,q2]
 exact⟨fun z=>z.2,fun z=>⟨g,z⟩⟩
theorem zk1 (n:Nat):(num0 n).Pairwise (·<·):=by
 unfold num0
 refine List.Pairwise.map _ (fun a b (h:a<b)=> ?_) (List.pairwise_lt_range (n:=n))
 show (a:Int)<(b:Int)
 lia
noncomputable def sT (f:Nat->Int):Nat->Int
 |0=>0
 |n+1=>sT f n+f n
theorem zb1 {f g:Nat->Int}:∀{n:Nat},(∀k,k<n->f k=g k)->sT f n=sT g n
 |0,_=>rfl
 |n+1,h=>by
  show sT f n+f n=sT g n+g n
  rw[zb1 fun k hk=>h k (by lia),h n (by lia)]
theorem zkn (f g:Nat->Int):∀n,sT (fun k=>f k+g k) n=sT f n+sT g n
 |0=>rfl
 |n+1=>by
  show sT (fun k=>f k+g k) n+(f n+g n)=sT f n+f n+(sT g n+g n)
  rw[zkn f g n];lia
theorem zed:∀n,sT (fun _=>0) n=0
 |0=>rfl
 |n+1=>by
  show sT (fun _=>0) n+0=0
  rw[zed n];rfl
noncomputable def sL {α:Type}(F:α->Int):List α->Int
 |[]=>0
 |a::t=>F a+sL F t
theorem zko {α:Type}(F:α->Int):∀l m:List α,sL F (l++m)=sL F l+sL F m
 |[],m=>by show sL F m=0+sL F m;lia
 |a::t,m=>by
  show F a+sL F (t++m)=F a+sL F t+sL F m
  rw[zko F t m];lia
theorem zh2 {α β:Type}(F:β->Int)(g:α->β):∀l:List α,sL F (l.map g)=sL (fun a=>F (g a)) l
 |[]=>rfl
 |a::t=>by
  show F (g a)+sL F (t.map g)=_
  rw[zh2 F g t];rfl
theorem zh3 {α β:Type}(F:β->Int)(g:α->List β):∀l:List α,sL F (l.flatMap g)=sL (fun a=>sL F (g a)) l
 |[]=>rfl
 |a::t=>by
  rw[List.flatMap_cons,zko,zh3 F g t];rfl
theorem za6 {α:Type}{F G:α->Int}:∀{l:List α},(∀a∈l,F a=G a)->sL F l=sL G l
 |[],_=>rfl
 |a::t,h=>by
  show F a+sL F t=G a+sL G t
  rw[h a (by simp),za6 fun x hx=>h x (by simp[hx])]
theorem zgo {α:Type}(F G:α->Int):∀l:List α,sL (fun a=>F a+G a) l=sL F l+sL G l
 |[]=>rfl
 |a::t=>by
  show F a+G a+sL (fun a=>F a+G a) t=F a+sL F t+(G a+sL G t)
  rw[zgo F G t];lia
theorem zcN {α:Type}:∀l:List α,sL (fun _=>0) l=0
 |[]=>rfl
 |a::t=>by show 0+sL (fun _=>0) t=0;rw[zcN t];rfl
theorem zjr {α:Type}(F:Nat->α->Int)(l:List α):∀n,sT (fun i=>sL (F i) l) n=sL (fun a=>sT (fun i=>F i a) n) l
 |0=>(zcN l).symm
 |n+1=>by
  show sT (fun i=>sL (F i) l) n+sL (F n) l=_
  rw[zjr F l n,<-zgo];rfl
theorem zk2 {α β:Type}(F:α->β->Int)(m:List β):∀l:List α,sL (fun a=>sL (F a) m) l=sL (fun b=>sL (fun a=>F a b) l) m
 |[]=>(zcN m).symm
 |a::t=>by
  show sL (F a) m+sL (fun a=>sL (F a) m) t=_
  rw[zk2 F m t,<-zgo];rfl
theorem zh4 (x:Int)(F:Nat->Int):∀{n:Nat},0<=x->x<n->sT (fun i=>if x=(i:Int) then F i else 0) n=F x.toNat
 |0,h0,h1=>by lia
 |n+1,h0,h1=>by
  show sT (fun i=>if x=(i:Int) then F i else 0) n+(if x=(n:Int) then F n else 0)=_
  by_cases e:x=(n:Int)
  ·rw[if_pos e,zb1 (g:=fun _=>0) (fun k hk=>if_neg (by lia)),zed,show x.toNat=n by lia];lia
  ·rw[if_neg e,zh4 x F h0 (by lia)];lia
noncomputable def stp (m:Int)(n:Nat)(f:Nat->Int)(r:Nat):Int:=
 if m=0 then (if r=0 then sT f n else 0) else if m=3 then (if r=n then sT f n else 0) else if m=2 then (if 1<=r/\r<n then sT f r else 0) else (if 1<=r/\r<n then sT f n-sT f r else 0)
theorem zk3 (m:Int)(n:Nat)(f g:Nat->Int)(r:Nat):stp m n (fun k=>f k+g k) r=stp m n f r+stp m n g r:=by
 unfold stp
 simp only[zkn]
 (repeat' split)<;>lia
theorem zgp (m:Int)(n r:Nat):stp m n (fun _=>0) r=0:=by
 unfold stp
 simp only[zed]
 (repeat' split)<;>lia
theorem zh5 {m:Int}{n:Nat}{f g:Nat->Int}(h:∀k,k<n->f k=g k)(r:Nat):stp m n f r=stp m n g r:=by
 have e:sT f n=sT g n:=zb1 h
 unfold stp
 rw[e]
 by_cases hr:r<n
 ·rw[zb1 (n:=r) fun k hk=>h k (by lia)]
 ·simp[hr]
theorem zkp {α:Type}(m:Int)(n:Nat)(F:α->Nat->Int)(r:Nat):∀l:List α,stp m n (fun k=>sL (fun a=>F a k) l) r=sL (fun a=>stp m n (F a) r) l
 |[]=>zgp m n r
 |a::t=>by
  show stp m n (fun k=>F a k+sL (fun a=>F a k) t) r=_
  rw[zk3,zkp m n F r t];rfl
theorem zmb (m:Int)(n:Nat)(c:Prop)[Decidable c](f:Nat->Int)(r:Nat):stp m n (fun k=>if c then f k else 0) r=if c then stp m n f r else 0:=by
 by_cases h:c
 ·simp only[if_pos h]
 ·simp only[if_neg h];exact zgp m n r
theorem zh6 {m:Int}{n:Nat}{f:Nat->Int}{r:Nat}(h:n<r):stp m n f r=0:=by
 unfold stp
 rw[if_neg (show ¬r=0 by lia),if_neg (show ¬r=n by lia),if_neg (show ¬(1<=r/\r<n) by lia),if_neg (show ¬(1<=r/\r<n) by lia)]
 simp
noncomputable def mk4:List Int:=[0,1,2,3]
noncomputable def atZr (rows:List (List Int))(i:Nat)(m:Int):Int:=(rows.getD i []).getD m.toNat 0
noncomputable def cF (rows:List (List Int))(n:Nat)(g:Nat->Nat->Int)(i s r:Nat):Int:=sL (fun m=>if atZr rows i m=(s:Int) then stp m n (g i) r else 0) mk4
noncomputable def dpZ (rows:List (List Int))(N:Nat):Nat->Nat->Nat->Int
 |0,s,r=>if s=0/\r=0 then 1 else 0
 |n+1,s,r=>sT (fun i=>cF rows (n+1) (dpZ rows N n) i s r) N
noncomputable def stpL (m:Int)(n:Nat)(w:List Int):List Int:=(List.range (n+1)).map fun r=>stp m n (fun k=>w.getD k 0) r
theorem zh7 (m:Int)(n:Nat)(w:List Int)(r:Nat):(stpL m n w).getD r 0=stp m n (fun k=>w.getD k 0) r:=by
 unfold stpL
 by_cases h:r<n+1
 ·rw[List.getD_eq_getElem?_getD,List.getElem?_map,List.getElem?_range h];rfl
 ·rw[List.getD_eq_getElem?_getD,List.getElem?_eq_none (by simp;lia),zh6 (by lia)];rfl
noncomputable def mks:Nat->List (List Int×List Int)
 |0=>[([],[1])]
 |n+1=>(mks n).flatMap fun p=>mk4.map fun m=>(p.1++[m],stpL m (n+1) p.2)
theorem zgq (rows:List (List Int))(ms:List Int)(m:Int):goZ rows (ms++[m])=atZr rows (goZ rows ms).toNat m:=by
 unfold goZ atZr
 rw[List.foldl_append]
 rfl
theorem zk4:∀m∈mk4,0<=m/\m<4:=by decide
theorem zh8:∀(n:Nat) (p:List Int×List Int),p∈mks n->Mrk p.1/\p.1.length=n
 |0,p,h=>by
  rw[List.mem_singleton.mp h]
  exact⟨fun _ h=>(by cases h),rfl⟩
 |n+1,p,h=>by
  obtain⟨q,hq,h⟩:=List.mem_flatMap.mp h
  obtain⟨m,hm,rfl⟩:=List.mem_map.mp h
  obtain⟨a,b⟩:=zh8 n q hq
  refine⟨fun x hx=> ?_,by simp[b]⟩
  rcases List.mem_append.mp hx with hx|hx
  ·exact a x hx
  ·rw[List.mem_singleton.mp hx];exact zk4 m hm
theorem zkq {rows:List (List Int)}{N:Nat}(hl:rows.length=N)(hN:0<N)(hr:∀r∈rows,r.length=4/\∀d∈r,0<=d/\d<(N:Int)){ms:List Int}(hm:Mrk ms):0<=goZ rows ms/\goZ rows ms<N:=by
 have:=zec hl hN hr hm ms.length (Nat.le_refl _)
 rwa [List.take_length] at this
theorem zmc {rows:List (List Int)}{N:Nat}(hl:rows.length=N)(hN:0<N)(hr:∀r∈rows,r.length=4/\∀d∈r,0<=d/\d<(N:Int)):∀(n s r:Nat),dpZ rows N n s r=sL (fun p=>if goZ rows p.1=(s:Int) then p.2.getD r 0 else 0) (mks n)
 | 0,s,r=>by
  show (if s=0/\r=0 then (1:Int) else 0)=(if (0:Int)=(s:Int) then ([1]:List Int).getD r 0 else 0)+0
  by_cases hs:s=0
  ·subst hs
   by_cases h:r=0
   ·subst h;rfl
   ·obtain ⟨k,rfl⟩:∃k,r=k+1:=⟨r-1,by lia⟩
    simp
  ·rw[if_neg (by lia),if_neg (by lia)];rfl
 | n+1,s,r=>by
  show sT (fun i=>cF rows (n+1) (dpZ rows N n) i s r) N=_
  have e1:∀i,cF rows (n+1) (dpZ rows N n) i s r=sL (fun p=>sL (fun m=>if goZ rows p.1=(i:Int) then (if atZr rows i m=(s:Int) then stp m (n+1) (fun k=>p.2.getD k 0) r else 0) else 0) mk4) (mks n):=fun i=>by
   unfold cF
   rw[zk2]
   refine za6 fun m _=> ?_
   rw[show dpZ rows N n i=fun k=>sL (fun p=>if goZ rows p.1=(i:Int) then p.2.getD k 0 else 0) (mks n) from funext fun k=>zmc hl hN hr n i k,zkp]
   by_cases c:atZr rows i m=(s:Int)
   ·simp only[if_pos c]
    refine za6 fun p _=> ?_
    exact zmb m (n+1) _ _ r
   ·simp only[if_neg c]
    rw[za6 (G:=fun _=>0) (fun p _=>by split<;>rfl),zcN]
  rw[zb1 fun i _=>e1 i,zjr]
  show _=sL _ ((mks n).flatMap fun p=>mk4.map fun m=>(p.1++[m],stpL m (n+1) p.2))
  rw[zh3]
  refine za6 fun p hp=> ?_
  obtain⟨g0,g1⟩:=zkq hl hN hr (zh8 n p hp).1
  rw[zjr,zh2]
  refine za6 fun m _=> ?_
  rw[zh4 (goZ rows p.1) (fun i=>if atZr rows i m=(s:Int) then stp m (n+1) (fun k=>p.2.getD k 0) r else 0) g0 g1]
  dsimp only
  rw[zgq,zh7]
noncomputable def wZ (n:Nat)(w:List Int):Int:=sT (fun k=>w.getD k 0) n
noncomputable def metZ (rows:List (List Int))(N:Nat)(ends:List Int)(n:Nat):Int:=sL (fun s=>sT (dpZ rows N (n-1) s.toNat) (n-1+1)) ends
theorem zmd {rows:List (List Int)}{N:Nat}(hl:rows.length=N)(hN:0<N)(hr:∀r∈rows,r.length=4/\∀d∈r,0<=d/\d<(N:Int)){ends:List Int}(he:∀s∈ends,0<=s)(hd:ends.Nodup)(n:Nat):
  metZ rows N ends n=sL (fun p=>if goZ rows p.1∈ends then wZ (n-1+1) p.2 else 0) (mks (n-1)):=by
 unfold metZ
 generalize n-1=k
 have e1:∀s∈ends,sT (dpZ rows N k s.toNat) (k+1)=sL (fun p=>if goZ rows p.1=s then wZ (k+1) p.2 else 0) (mks k):=fun s hs=>by
  rw[show dpZ rows N k s.toNat=fun r=>sL (fun p=>if goZ rows p.1=((s.toNat:Nat):Int) then p.2.getD r 0 else 0) (mks k) from funext fun r=>zmc hl hN hr k _ r,zjr]
  refine za6 fun p _=> ?_
  rw[Int.toNat_of_nonneg (he s hs)]
  by_cases c:goZ rows p.1=s
  ·simp only[if_pos c];rfl
  ·simp only[if_neg c];exact zed _
 rw[za6 e1,zk2]
 refine za6 fun p _=> ?_
 generalize goZ rows p.1=x
 generalize wZ (k+1) p.2=y
 clear e1 he
 induction ends with
 |nil=>rfl
 | cons a t ih=>
  obtain⟨h1,h2⟩:=List.nodup_cons.mp hd
  show (if x=a then y else 0)+sL _ t=_
  rw[ih h2]
  by_cases c:x=a
  ·subst c
   rw[if_pos rfl,if_neg h1,if_pos (by simp)];lia
  ·rw [if_neg c]
   by_cases c2:x∈t
   ·rw[if_pos c2,if_pos (by simp[c2])];lia
   ·rw[if_neg c2,if_neg (by simp[c,c2])];rfl
noncomputable abbrev G4:=Nat×Nat×Nat×Nat
noncomputable def zaO (b:List Int)(y:Int):Bool:=b.all fun a=>decide (y<a)
noncomputable def zaM (b:List Int)(y:Int):Bool:=b.all fun a=>decide (a<y)
noncomputable def zat (b:List Int):Int:=b.getD (b.length-1) 0
noncomputable def zee (b:List Int)(x:Int):Int:=if zaM b x then 3 else if zaO b x then 0 else if zat b<x then 2 else 1
noncomputable def zbN (b F:List Int):G4:=
 (F.countP (zaO b),F.countP (fun y=>decide (y<zat b))-F.countP (zaO b),F.length-F.countP (fun y=>decide (y<zat b))-F.countP (zaM b),F.countP (zaM b))
noncomputable def goG (g:G4):List (Int×G4):=
 ((List.range g.1).map fun p=>(0,(p,0,g.1-1-p+(g.2.1+g.2.2.1),g.2.2.2)))++((List.range g.2.1).map fun p=>(1,(g.1,p,g.2.1+g.2.2.1-1-p,g.2.2.2)))++
 ((List.range g.2.2.1).map fun p=>(2,(g.1,g.2.1+p,g.2.2.1-1-p,g.2.2.2)))++((List.range g.2.2.2).map fun p=>(3,(g.1,g.2.1+g.2.2.1+p,0,g.2.2.2-1-p)))
theorem zb2 {P:Int->Bool}:∀{F:List Int},F.Pairwise (·<·)->(∀x y,x<y->P y=true->P x=true)->∀(i:Nat) (x:Int),F[i]? =some x->(P x=true↔i<F.countP P)
 |[],_,_,i,x,h=>by cases h
 | y::F,hp,hd,0,x,h=>by
  cases h
  rw[List.countP_cons]
  constructor
  ·intro z
   rw[if_pos z]
   lia
  ·intro z
   by_cases c:P y=true
   ·exact c
   ·rw [if_neg c,Nat.add_zero] at z
    obtain⟨w,hw,hP⟩:=List.countP_pos_iff.mp z
    exact hd _ _ ((List.pairwise_cons.mp hp).1 w hw) hP
 | y::F,hp,hd,i+1,x,h=>by
  have h:F[i]? =some x:=h
  have ih:=zb2 (List.pairwise_cons.mp hp).2 hd i x h
  rw[List.countP_cons]
  have hm:=List.mem_of_getElem? h
  have hlt:=(List.pairwise_cons.mp hp).1 x hm
  constructor
  ·intro z
   rw[if_pos (hd _ _ hlt z)]
   have:=ih.mp z
   lia
  ·intro z
   by_cases c:P y=true
   ·rw [if_pos c] at z
    exact ih.mpr (by lia)
   ·rw [if_neg c] at z
    exact ih.mpr (by lia)
theorem zfP (P:Int->Bool)(F:List Int):F.countP (fun y=> !P y)+F.countP P=F.length:=by
 induction F with
 |nil=>rfl
 |cons y F ih=>
  rw[List.countP_cons,List.countP_cons,List.length_cons]
  cases P y<;>simp<;>lia
theorem zme {Q:Int->Bool}{F:List Int}(hp:F.Pairwise (·<·))(hu:∀x y,x<y->Q x=true->Q y=true){i:Nat}{x:Int}(h:F[i]? =some x):Q x=true↔F.length<=i+F.countP Q:=by
 have k:=zb2 (P:=fun y=> !Q y) hp (fun x y hxy hy=>by
  cases c:Q x with
  |false=>rfl
  |true=>
   have:=hu x y hxy c
   rw[this] at hy
   cases hy) i x h
 have n:=zfP Q F
 constructor
 ·intro z
  rw[z] at k
  have:¬i<F.countP fun y=> !Q y:=fun e=>by have:=k.mpr e;cases this
  lia
 ·intro z
  cases c:Q x with
  |true=>rfl
  |false=>
   rw[c] at k
   have:=k.mp rfl
   lia
theorem zkr {F:List Int}(hp:F.Pairwise (·<·)){i:Nat}{x:Int}(h:F[i]? =some x):F.countP (fun y=>decide (y<x))=i:=by
 have d:=zb2 (P:=fun y=>decide (y<x)) hp (fun a b hab hb=>decide_eq_true (by have:=of_decide_eq_true hb;lia)) i x h
 have e:¬i<F.countP fun y=>decide (y<x):=fun z=>by
  have:=of_decide_eq_true (d.mpr z)
  lia
 cases i with
 |zero=>lia
 | succ j=>
  have hj:j<F.length:=by have:=(List.getElem?_eq_some_iff.mp h).1;lia
  have hxj:F[j]<x:=by
   obtain⟨hi,hx⟩:=List.getElem?_eq_some_iff.mp h
   rw[<-hx]
   exact (List.pairwise_iff_getElem.mp hp) j (j+1) hj hi (by lia)
  have:=(zb2 (P:=fun y=>decide (y<x)) hp (fun a b hab hb=>decide_eq_true (by have:=of_decide_eq_true hb;lia)) j F[j] (List.getElem?_eq_getElem hj)).mp (decide_eq_true hxj)
  lia
theorem zmf {F:List Int}(hp:F.Pairwise (·<·)){i:Nat}{x:Int}(h:F[i]? =some x):F.countP (fun y=>decide (x<y))+i+1=F.length:=by
 have hl:=zkr hp h
 have n:=zfP (fun y=>decide (y<x)) F
 have nd:F.Nodup:=List.nodup_iff_pairwise_ne.mpr (hp.imp fun h=>Int.ne_of_lt h)
 have e:F.countP (fun y=> !decide (y<x))=F.countP (fun y=>decide (x<y))+F.count x:=by
  rw[List.count_eq_countP]
  clear nd n hl h hp
  induction F with
  |nil=>rfl
  | cons y F ih=>
   rw[List.countP_cons,List.countP_cons,List.countP_cons,ih]
   by_cases c:y<x
   ·rw [if_neg (by simp;lia),if_neg (by simp;lia),if_neg (by simp;lia)]
    lia
   ·by_cases d:y=x
    ·subst d
     rw[if_pos (by simp),if_neg (by simp),if_pos (by simp)]
     lia
    ·rw [if_pos (by simp;lia),if_pos (by simp;lia),if_neg (by simpa using d)]
     lia
 have c1:=(List.nodup_iff_count.mp nd) x
 have c2:=List.count_pos_iff.mpr (List.mem_of_getElem? h)
 lia
theorem zc4 {b:List Int}(hb:b≠[]):zat b∈b:=by
 have:b.length≠0:=fun z=>hb (List.eq_nil_of_length_eq_zero z)
 unfold zat
 rw[List.getD_eq_getElem?_getD,List.getElem?_eq_getElem (by lia)]
 exact List.getElem_mem _
theorem below_iff {b:List Int}{y:Int}:zaO b y=true↔∀a∈b,y<a:=by
 unfold zaO
 rw[List.all_eq_true]
 exact⟨fun h a ha=>of_decide_eq_true (h a ha),fun h a ha=>decide_eq_true (h a ha)⟩
theorem above_iff {b:List Int}{y:Int}:zaM b y=true↔∀a∈b,a<y:=by
 unfold zaM
 rw[List.all_eq_true]
 exact⟨fun h a ha=>of_decide_eq_true (h a ha),fun h a ha=>decide_eq_true (h a ha)⟩
theorem zef (b:List Int)(x:Int):zat (b++[x])=x:=by
 unfold zat
 rw[List.getD_eq_getElem?_getD,List.length_append,List.getElem?_append_right (by simp)]
 simp
theorem ze5 (b:List Int)(x y:Int):zaO (b++[x]) y=(zaO b y&&decide (y<x)):=by
 unfold zaO
 rw[List.all_append]
 simp
theorem ze6 (b:List Int)(x y:Int):zaM (b++[x]) y=(zaM b y&&decide (x<y)):=by
 unfold zaM
 rw[List.all_append]
 simp
theorem zbH {P Q:Int->Bool}{F:List Int}(h:∀y∈F,P y=true↔Q y=true):F.countP P=F.countP Q:=List.countP_congr h
section
variable {b F:List Int}
theorem zdq (hb:b≠[]):F.countP (zaO b)<=F.countP (fun y=>decide (y<zat b))/\F.countP (fun y=>decide (y<zat b))+F.countP (zaM b)<=F.length:=by
 have hm:=zc4 hb
 refine⟨List.countP_mono_left fun y _ hy=>decide_eq_true (below_iff.mp hy _ hm), ?_⟩
 have n:=zfP (fun y=>decide (y<zat b)) F
 have:F.countP (zaM b)<=F.countP (fun y=> !decide (y<zat b)):=List.countP_mono_left fun y _ hy=>by
  have:=above_iff.mp hy _ hm
  simp
  lia
 lia
theorem zk5 (hb:b≠[])(hp:F.Pairwise (·<·))(hd:∀y∈F,y∉b){i:Nat}{x:Int}(h:F[i]? =some x):
  (zaO b x=true↔i<F.countP (zaO b))/\(x<zat b↔i<F.countP fun y=>decide (y<zat b))/\(zaM b x=true↔F.length<=i+F.countP (zaM b))/\
  zbN (b++[x]) (F.filter fun y=>decide (y≠x))=((if i<F.countP (zaO b) then i else F.countP (zaO b)),i-(if i<F.countP (zaO b) then i else F.countP (zaO b)),
   F.length-1-i-(if F.length<=i+F.countP (zaM b) then F.length-1-i else F.countP (zaM b)),if F.length<=i+F.countP (zaM b) then F.length-1-i else F.countP (zaM b)):=by
 have hm:=zc4 hb
 have hx:=List.mem_of_getElem? h
 have hi:=(List.getElem?_eq_some_iff.mp h).1
 have nd:F.Nodup:=List.nodup_iff_pairwise_ne.mpr (hp.imp fun h=>Int.ne_of_lt h)
 have a1:=zb2 (P:=zaO b) hp (fun x y hxy hy=>below_iff.mpr fun a ha=>by have:=below_iff.mp hy a ha;lia) i x h
 have a2:=zb2 (P:=fun y=>decide (y<zat b)) hp (fun x y hxy hy=>decide_eq_true (by have:=of_decide_eq_true hy;lia)) i x h
 have a3:=zme (Q:=zaM b) hp (fun x y hxy hy=>above_iff.mpr fun a ha=>by have:=above_iff.mp hy a ha;lia) h
 rw[decide_eq_true_eq] at a2
 refine⟨a1,a2,a3, ?_⟩
 have clt:=zkr hp h
 have cgt:=zmf hp h
 have e0:(F.filter fun y=>decide (y≠x)).length=F.length-1:=by
  have e:x=F[i]:=((List.getElem?_eq_some_iff.mp h).2).symm
  rw[e,zcX nd hi,List.length_append,List.length_take,List.length_drop]
  lia
 have e1:(F.filter fun y=>decide (y≠x)).countP (zaO (b++[x]))=if i<F.countP (zaO b) then i else F.countP (zaO b):=by
  rw[List.countP_filter]
  split
  ·rename_i c
   rw[<-clt]
   have hbx:=below_iff.mp (a1.mpr c)
   refine zbH fun y hy=> ?_
   rw[ze5,Bool.and_eq_true,Bool.and_eq_true,decide_eq_true_eq,decide_eq_true_eq,below_iff]
   exact⟨fun z=>z.1.2,fun z=>⟨⟨fun a ha=>by have:=hbx a ha;lia,z⟩,by lia⟩⟩
  ·rename_i c
   refine zbH fun y hy=> ?_
   rw[ze5,Bool.and_eq_true,Bool.and_eq_true,decide_eq_true_eq,decide_eq_true_eq]
   refine⟨fun z=>z.1.1,fun z=> ?_⟩
   have hyx:y<x:=by
    apply Classical.byContradiction
    intro hh
    refine c (a1.mp (below_iff.mpr fun a ha=> ?_))
    have:=below_iff.mp z a ha
    lia
   exact⟨⟨z,hyx⟩,by lia⟩
 have e2:(F.filter fun y=>decide (y≠x)).countP (fun y=>decide (y<zat (b++[x])))=i:=by
  rw[List.countP_filter,zef]
  refine Eq.trans (zbH fun y hy=> ?_) clt
  rw[Bool.and_eq_true,decide_eq_true_eq,decide_eq_true_eq]
  exact⟨fun z=>z.1,fun z=>⟨z,by lia⟩⟩
 have e3:(F.filter fun y=>decide (y≠x)).countP (zaM (b++[x]))=if F.length<=i+F.countP (zaM b) then F.length-1-i else F.countP (zaM b):=by
  rw[List.countP_filter]
  split
  ·rename_i c
   have hbx:=above_iff.mp (a3.mpr c)
   have:F.countP (fun y=>decide (x<y))=F.length-1-i:=by lia
   rw[<-this]
   refine zbH fun y hy=> ?_
   rw[ze6,Bool.and_eq_true,Bool.and_eq_true,decide_eq_true_eq,decide_eq_true_eq,above_iff]
   exact⟨fun z=>z.1.2,fun z=>⟨⟨fun a ha=>by have:=hbx a ha;lia,z⟩,by lia⟩⟩
  ·rename_i c
   refine zbH fun y hy=> ?_
   rw[ze6,Bool.and_eq_true,Bool.and_eq_true,decide_eq_true_eq,decide_eq_true_eq]
   refine⟨fun z=>z.1.1,fun z=> ?_⟩
   have hyx:x<y:=by
    apply Classical.byContradiction
    intro hh
    refine c (a3.mp (above_iff.mpr fun a ha=> ?_))
    have:=above_iff.mp z a ha
    lia
   exact⟨⟨z,hyx⟩,by lia⟩
 unfold zbN
 rw[e0,e1,e2,e3]
theorem zh9 (hb:b≠[])(hp:F.Pairwise (·<·))(hd:∀y∈F,y∉b):
  F.map (fun x=>(zee b x,zbN (b++[x]) (F.filter fun y=>decide (y≠x))))=goG (zbN b F):=by
 obtain⟨s1,s2⟩:=zdq (F:=F) hb
 refine List.ext_getElem? fun i=> ?_
 unfold goG zbN
 dsimp only
 generalize hB:F.countP (zaO b)=B at*
 generalize hL:F.countP (fun y=>decide (y<zat b))=L at*
 generalize hA:F.countP (zaM b)=A at*
 rw[List.getElem?_map]
 cases h:F[i]? with
 |none=>
  have hl:=List.getElem?_eq_none_iff.mp h
  rw[List.getElem?_eq_none (by simp;lia)]
  rfl
 | some x=>
  have hi:=(List.getElem?_eq_some_iff.mp h).1
  obtain⟨a1,a2,a3,a4⟩:=zk5 hb hp hd h
  rw[hB] at a1 a4
  rw[hL] at a2
  rw[hA] at a3 a4
  have hne:x≠zat b:=fun z=>hd x (List.mem_of_getElem? h) (by rw[z];exact zc4 hb)
  show some (zee b x,zbN (b++[x]) (F.filter fun y=>decide (y≠x)))=_
  rw[a4]
  unfold zee
  by_cases c1:i<B
  ·rw [List.getElem?_append_left (by simp;lia),List.getElem?_append_left (by simp;lia),List.getElem?_append_left (by simp;lia),List.getElem?_map,List.getElem?_range c1]
   rw[if_neg (fun z=>by have:=a3.mp z;lia),if_pos (a1.mpr c1),if_pos c1,if_neg (by lia)]
   simp only[Option.map_some]
   refine congrArg some (Prod.ext rfl (Prod.ext rfl (Prod.ext ?_ (Prod.ext ?_ rfl))))
   ·show i-i=0
    lia
   ·show F.length-1-i-A=B-1-i+(L-B+(F.length-L-A))
    lia
  ·by_cases c2:i<L
   ·rw [List.getElem?_append_left (by simp;lia),List.getElem?_append_left (by simp;lia),List.getElem?_append_right (by simp;lia),List.getElem?_map,List.length_map,List.length_range,List.getElem?_range (by lia)]
    rw[if_neg (fun z=>by have:=a3.mp z;lia),if_neg (fun z=>c1 (a1.mp z)),if_neg (by have:=a2.mpr c2;lia),if_neg c1,if_neg (by lia)]
    simp only[Option.map_some]
    refine congrArg some (Prod.ext rfl (Prod.ext rfl (Prod.ext rfl (Prod.ext ?_ rfl))))
    show F.length-1-i-A=L-B+(F.length-L-A)-1-(i-B)
    lia
   ·by_cases c3:i<F.length-A
    ·rw [List.getElem?_append_left (by simp;lia),List.getElem?_append_right (by simp;lia),List.getElem?_map,List.length_append,List.length_map,List.length_map,List.length_range,List.length_range,List.getElem?_range (by lia)]
     rw[if_neg (fun z=>by have:=a3.mp z;lia),if_neg (fun z=>c1 (a1.mp z)),if_pos (by have:¬x<zat b:=fun z=>c2 (a2.mp z);lia),if_neg c1,if_neg (by lia)]
     simp only[Option.map_some]
     refine congrArg some (Prod.ext rfl (Prod.ext rfl (Prod.ext ?_ (Prod.ext ?_ rfl))))
     ·show i-B=L-B+(i-(B+(L-B)))
      lia
     ·show F.length-1-i-A=F.length-L-A-1-(i-(B+(L-B)))
      lia
    ·rw [List.getElem?_append_right (by simp;lia),List.getElem?_map,List.length_append,List.length_append,List.length_map,List.length_map,List.length_map,List.length_range,List.length_range,List.length_range,List.getElem?_range (by lia)]
     rw[if_pos (a3.mpr (by lia)),if_neg c1,if_pos (by lia)]
     simp only[Option.map_some]
     refine congrArg some (Prod.ext rfl (Prod.ext rfl (Prod.ext ?_ (Prod.ext ?_ ?_))))
     ·show i-B=L-B+(F.length-L-A)+(i-(B+(L-B)+(F.length-L-A)))
      lia
     ·show F.length-1-i-(F.length-1-i)=0
      lia
     ·show F.length-1-i=A-1-(i-(B+(L-B)+(F.length-L-A)))
      lia
end
theorem ze7 (b:List Int)(x:Int){k:Nat}(h:k<=b.length):(b++[x]).take k=b.take k:=List.take_append_of_le_length h
theorem zdr (b:List Int)(x:Int){k:Nat}(h:k<b.length):(b++[x]).getD k 0=b.getD k 0:=by
 rw[List.getD_eq_getElem?_getD,List.getD_eq_getElem?_getD,List.getElem?_append_left h]
theorem ze8 {b:List Int}(hb:b≠[])(x:Int):zal (b++[x])=zal b++[zee b x]:=by
 have hl:b.length≠0:=fun z=>hb (List.eq_nil_of_length_eq_zero z)
 unfold zal
 obtain⟨n,hn⟩:∃n,b.length=n+1:=⟨b.length-1,by lia⟩
 rw[List.length_append,hn,show n+1+[x].length-1=n+1 from rfl,ze3,List.map_append,show n+1-1=n from rfl]
 congr 1
 ·refine List.map_congr_left fun k hk=> ?_
  obtain⟨j,hj,rfl⟩:=List.mem_map.mp hk
  have hj:=List.mem_range.mp hj
  have e:(1+(j:Int)).toNat=j+1:=by lia
  rw[e]
  unfold zbr
  rw[ze7 b x (by lia),zdr b x (by lia),zdr b x (by lia)]
 ·show [zbr (b++[x]) (1+(n:Int)).toNat]=[zee b x]
  have e:(1+(n:Int)).toNat=b.length:=by lia
  rw[e]
  unfold zbr zee zaM zaO zat
  rw[ze7 b x (Nat.le_refl _),List.take_length,zdr b x (k:=b.length-1) (by lia)]
  have:(b++[x]).getD b.length 0=x:=by
   rw[List.getD_eq_getElem?_getD,List.getElem?_append_right (Nat.le_refl _),Nat.sub_self]
   rfl
  rw[this]
noncomputable def cG (rows:List (List Int))(ends:List Int):Nat->G4->Int->Int
 |0,_,s=>if s∈ends then 1 else 0
 |l+1,g,s=>((goG g).map fun q=>cG rows ends l q.2 (atZr rows s.toNat q.1)).sum
theorem zdO {α β:Type}(p:β->Bool)(f:α->List β):∀L:List α,(((L.flatMap f).countP p:Nat):Int)=(L.map fun a=>(((f a).countP p:Nat):Int)).sum
 |[]=>rfl
 |a::L=>by
  rw[List.flatMap_cons,List.countP_append,List.map_cons,List.sum_cons,<-zdO p f L]
  push_cast
  rfl
theorem zia (m:Nat)(b:List Int):(zaB m b).Pairwise (·<·):=by
 unfold zaB
 refine List.Pairwise.sublist (List.filter_sublist) ?_
 unfold num0
 exact List.Pairwise.map _ (fun a b (h:a<b)=>by lia) List.pairwise_lt_range
theorem zgr (m:Nat)(b:List Int):zbR m [b]=(zaB m b).map fun x=>b++[x]:=by
 unfold zbR
 rw[List.flatMap_cons]
 exact List.append_nil _
theorem ze9 (rows:List (List Int))(ends:List Int){m:Nat}:∀(l:Nat) (b:List Int),b≠[]->
  (((zaw m [b] l).countP fun o=>decide (goZ rows (zal o)∈ends):Nat):Int)=(if l=0 then cG rows ends 0 (0,0,0,0) (goZ rows (zal b)) else cG rows ends l (zbN b (zaB m b)) (goZ rows (zal b)))
 | 0,b,hb=>by
  show (([b].countP fun o=>decide (goZ rows (zal o)∈ends):Nat):Int)=(if goZ rows (zal b)∈ends then 1 else 0)
  rw[List.countP_cons,List.countP_nil]
  by_cases c:goZ rows (zal b)∈ends
  ·rw [if_pos c,if_pos (decide_eq_true c)]
   rfl
  ·rw [if_neg c,if_neg (by simpa using c)]
   rfl
 | l+1,b,hb=>by
  rw[zch,zcL,zgr,List.flatMap_map,zdO,if_neg (by lia)]
  show _=((goG (zbN b (zaB m b))).map fun q=>cG rows ends l q.2 (atZr rows (goZ rows (zal b)).toNat q.1)).sum
  rw[<-zh9 hb (zia m b) (fun y hy=>by
   have:=(List.mem_filter.mp hy).2
   simpa using this),List.map_map]
  refine congrArg List.sum (List.map_congr_left fun x hx=> ?_)
  rw[ze9 rows ends l (b++[x]) (by simp),ze8 hb,zgq,zeZ]
  show _=cG rows ends l (zbN (b++[x]) ((zaB m b).filter fun y=>decide (y≠x))) (atZr rows (goZ rows (zal b)).toNat (zee b x))
  by_cases c:l=0
  ·subst c
   rw[if_pos rfl]
   rfl
  ·rw[if_neg c]
theorem zeg (m:Nat):∀k,(zaw m [[]] k).Nodup
 |0=>by
  show ([[]]:List (List Int)).Nodup
  simp
 | k+1=>by
  have ih:=zeg m k
  show ((zaw m [[]] k).flatMap fun b=>(zaB m b).map fun x=>b++[x]).Nodup
  rw[List.nodup_iff_pairwise_ne,List.pairwise_flatMap]
  refine⟨fun b _=> ?_, ?_⟩
  ·rw [List.pairwise_map]
   exact (List.nodup_iff_pairwise_ne.mp (zdL m b)).imp fun h e=>h (List.cons.inj (List.append_cancel_left e)).1
  ·refine (List.nodup_iff_pairwise_ne.mp ih).imp fun {b c} h x hx y hy e=>h ?_
   obtain⟨u,_,rfl⟩:=List.mem_map.mp hx
   obtain⟨v,_,rfl⟩:=List.mem_map.mp hy
   have:=congrArg List.dropLast e
   simpa using this
theorem zgs {m:Nat}{o:List Int}(h:Ord m o):∀k,k<=m->o.take k∈zaw m [[]] k
 |0,_=>List.mem_singleton.mpr rfl
 | k+1,hk=>by
  have hl:=h.len
  have e1:o.take (k+1)=o.take k++[o.getD k 0]:=by
   rw[List.take_succ,List.getD_eq_getElem?_getD,List.getElem?_eq_getElem (by lia)]
   rfl
  have hm:o.getD k 0∈o:=by
   rw[List.getD_eq_getElem?_getD,List.getElem?_eq_getElem (by lia)]
   exact List.getElem_mem _
  have hn:o.getD k 0∉o.take k:=fun z=>by
   have nd:=h.nodup.sublist (List.take_sublist (k+1) o)
   rw[e1] at nd
   exact (List.nodup_append.mp nd).2.2 _ z _ List.mem_cons_self rfl
  rw[e1]
  refine List.mem_flatMap.mpr ⟨o.take k,zgs h k (by lia),List.mem_map.mpr ⟨_,List.mem_filter.mpr ⟨h.mem_iff.mp hm,by simpa using hn⟩,rfl⟩⟩
theorem iter_iff {m:Nat}{o:List Int}:o∈zaw m [[]] m↔Ord m o:=
 ⟨fun h=>((zcv m m).1 o h).ord,fun h=>by
  have:=zgs h m (Nat.le_refl m)
  rwa [List.take_of_length_le (by rw[h.len];exact Nat.le_refl _)] at this⟩
noncomputable def upI (r v:Int):Int:=if r<=v then v+1 else v
noncomputable def dnI (r v:Int):Int:=if r<v then v-1 else v
theorem zm0 {r a b:Int}:upI r a<upI r b↔a<b:=by unfold upI;(repeat' split)<;>lia
theorem zks {r a b:Int}(h:upI r a=upI r b):a=b:=by unfold upI at h;(repeat' split at h)<;>lia
theorem zmg (r v:Int):upI r v≠r:=by unfold upI;split<;>lia
theorem zmh {r v:Int}(h:v≠r):upI r (dnI r v)=v:=by unfold upI dnI;(repeat' split)<;>lia
theorem zmi {n:Nat}{p:List Int}(h:Ord n p){r:Int}(r0:0<=r)(r1:r<=n):Ord (n+1) (p.map (upI r)++[r]):=by
 refine zcK ?_ (zbm _) fun y=> ?_
 ·refine List.nodup_append.mpr ⟨?_,by simp,fun a ha c hc e=> ?_⟩
  ·rw [List.nodup_iff_pairwise_ne,List.pairwise_map]
   exact (List.nodup_iff_pairwise_ne.mp h.nodup).imp fun hn e=>hn (zks e)
  ·rw [List.mem_singleton] at hc
   obtain⟨v,_,rfl⟩:=List.mem_map.mp ha
   exact zmg r v (e.trans hc)
 ·rw [List.mem_append,List.mem_singleton,mem_num0]
  have hmem:∀v:Int,v∈p↔0<=v/\v<n:=fun v=>h.mem_iff.trans mem_num0
  constructor
  ·rintro (hy|rfl)
   ·obtain ⟨v,hv,rfl⟩:=List.mem_map.mp hy
    have:=(hmem v).mp hv
    unfold upI
    split<;>lia
   ·lia
  ·intro hy
   by_cases c:y=r
   ·exact .inr c
   ·refine .inl (List.mem_map.mpr ⟨dnI r y,(hmem _).mpr ?_,zmh c⟩)
    unfold dnI
    split<;>lia
theorem zmj {n:Nat}{q:List Int}{r:Int}(h:Ord (n+1) (q++[r])):Ord n (q.map (dnI r))/\(q.map (dnI r)).map (upI r)=q/\0<=r/\r<=n:=by
 have hn:=h.nodup
 obtain⟨n1,_,n3⟩:=List.nodup_append.mp hn
 have hr:=mem_num0.mp (h.mem_iff.mp (List.mem_append_right q List.mem_cons_self))
 have hne:∀v∈q,v≠r:=fun v hv=>n3 v hv r List.mem_cons_self
 have back:(q.map (dnI r)).map (upI r)=q:=by
  rw[List.map_map]
  exact (List.map_congr_left fun v hv=>zmh (hne v hv)).trans (List.map_id' q)
 refine⟨?_,back,by lia,by lia⟩
 refine zcK ?_ (zbm _) fun y=> ?_
 ·have:=n1
  rw[<-back,List.nodup_iff_pairwise_ne,List.pairwise_map] at this
  exact List.nodup_iff_pairwise_ne.mpr (this.imp fun hn e=>hn (by rw[e]))
 ·rw [mem_num0]
  have hmem:∀v:Int,v∈q++[r]↔0<=v/\v<(n+1:Nat):=fun v=>h.mem_iff.trans mem_num0
  constructor
  ·intro hy
   obtain⟨v,hv,rfl⟩:=List.mem_map.mp hy
   have h1:=(hmem v).mp (List.mem_append_left _ hv)
   have h2:=hne v hv
   unfold dnI
   split<;>lia
  ·intro hy
   have h1:upI r y∈q++[r]:=(hmem _).mpr (by unfold upI;split<;>lia)
   rcases List.mem_append.mp h1 with h2|h2
   ·refine List.mem_map.mpr ⟨_,h2, ?_⟩
    unfold upI dnI
    (repeat' split)<;>lia
   ·exact absurd (List.mem_singleton.mp h2) (zmg r y)
theorem zjs (n:Nat){r:Int}(r0:0<=r)(r1:r<=n):((zaw (n+1) [[]] (n+1)).filter fun o=>decide (zat o=r)).Perm ((zaw n [[]] n).map fun p=>p.map (upI r)++[r]):=by
 refine (List.perm_ext_iff_of_nodup ?_ ?_).mpr fun o=> ?_
 ·exact (zeg _ _).sublist List.filter_sublist
 ·rw [List.nodup_iff_pairwise_ne,List.pairwise_map]
  refine (List.nodup_iff_pairwise_ne.mp (zeg n n)).imp fun {a b} h e=>h ?_
  have:=List.append_cancel_right e
  exact List.map_inj_right (fun {x y} h=>zks h) |>.mp this
 ·rw [List.mem_filter,iter_iff,decide_eq_true_eq,List.mem_map]
  constructor
  ·rintro ⟨h,e⟩
   have hl:=h.len
   obtain⟨q,x,rfl⟩:∃q x,o=q++[x]:=⟨o.dropLast,o.getLast (by intro z;rw[z] at hl;cases hl),(List.dropLast_concat_getLast _).symm⟩
   rw[zef] at e
   subst e
   obtain⟨a,b,_,_⟩:=zmj h
   exact⟨_,iter_iff.mpr a,by rw[b]⟩
  ·rintro ⟨p,hp,rfl⟩
   exact⟨zmi (iter_iff.mp hp) r0 r1,zef _ _⟩
theorem zjt {g:Int->Int}(hg:∀a b,g a<g b↔a<b){p:List Int}{k:Nat}(hk:k<p.length):zbr (p.map g) k=zbr p k:=by
 have at_:∀j,j<p.length->(p.map g).getD j 0=g (p.getD j 0):=fun j hj=>by
  rw[List.getD_eq_getElem?_getD,List.getD_eq_getElem?_getD,List.getElem?_map,List.getElem?_eq_getElem hj]
  rfl
 unfold zbr
 rw[at_ k hk,at_ (k-1) (by lia),<-List.map_take,List.all_map,List.all_map]
 simp only[Function.comp_def,hg]
theorem zib {g:Int->Int}(hg:∀a b,g a<g b↔a<b)(p:List Int):zal (p.map g)=zal p:=by
 unfold zal
 rw[List.length_map]
 refine List.map_congr_left fun k hk=> ?_
 obtain⟨j,hj,rfl⟩:=List.mem_map.mp hk
 have:=List.mem_range.mp hj
 exact zjt hg (by lia)
theorem zju {g:Int->Int}{p:List Int}(h:p≠[]):zat (p.map g)=g (zat p):=by
 have:p.length≠0:=fun z=>h (List.eq_nil_of_length_eq_zero z)
 unfold zat
 rw[List.length_map,List.getD_eq_getElem?_getD,List.getD_eq_getElem?_getD,List.getElem?_map,List.getElem?_eq_getElem (by lia)]
 rfl
theorem zk6 {n:Nat}{p:List Int}(h:Ord (n+1) p){r:Int}(r0:0<=r)(r1:r<=(n+1:Nat)):
  zee (p.map (upI r)) r=if r=(n+1:Nat) then 3 else if r=0 then 0 else if zat p<r then 2 else 1:=by
 have hmem:∀v:Int,v∈p↔0<=v/\v<(n+1:Nat):=fun v=>h.mem_iff.trans mem_num0
 have hp:p≠[]:=fun z=>by have:=h.len;rw[z] at this;cases this
 have a1:zaM (p.map (upI r)) r=true↔r=(n+1:Nat):=by
  rw[above_iff]
  constructor
  ·intro z
   have:=z (upI r (n:Int)) (List.mem_map.mpr ⟨_,(hmem _).mpr (by lia),rfl⟩)
   unfold upI at this
   split at this<;>lia
  ·intro z a ha
   obtain⟨v,hv,rfl⟩:=List.mem_map.mp ha
   have:=(hmem v).mp hv
   unfold upI
   split<;>lia
 have a2:zaO (p.map (upI r)) r=true↔r=0:=by
  rw[below_iff]
  constructor
  ·intro z
   have:=z (upI r 0) (List.mem_map.mpr ⟨_,(hmem _).mpr (by lia),rfl⟩)
   unfold upI at this
   split at this<;>lia
  ·intro z a ha
   obtain⟨v,hv,rfl⟩:=List.mem_map.mp ha
   have:=(hmem v).mp hv
   unfold upI
   split<;>lia
 have a3:zat (p.map (upI r))<r↔zat p<r:=by
  rw[zju hp]
  unfold upI
  split<;>lia
 unfold zee
 by_cases c1:r=(n+1:Nat)
 ·rw[if_pos (a1.mpr c1),if_pos c1]
 ·rw [if_neg (fun z=>c1 (a1.mp z)),if_neg c1]
  by_cases c2:r=0
  ·rw[if_pos (a2.mpr c2),if_pos c2]
  ·rw [if_neg (fun z=>c2 (a2.mp z)),if_neg c2]
   by_cases c3:zat p<r
   ·rw[if_pos (a3.mpr c3),if_pos c3]
   ·rw[if_neg (fun z=>c3 (a3.mp z)),if_neg c3]
noncomputable def cnM (k:Nat)(ms:List Int)(r:Nat):Int:=((zaw (k+1) [[]] (k+1)).countP fun o=>decide (zal o=ms)&&decide (zat o=(r:Int)):Nat)
theorem zds (P:List Int->Bool)(L:List (List Int))(h:∀o∈L,0<=zat o):∀t:Nat,sT (fun r=>((L.countP fun o=>P o&&decide (zat o=(r:Int)):Nat):Int)) t=((L.countP fun o=>P o&&decide (zat o<(t:Int)):Nat):Int)
 | 0=>by
  show (0:Int)=_
  have:L.countP (fun o=>P o&&decide (zat o<((0:Nat):Int)))=0:=by
   rw[List.countP_eq_zero]
   intro o ho
   have:=h o ho
   simp
   lia
  rw[this]
  rfl
 | t + 1=>by
  show sT _ t+_=_
  rw[zds P L h t]
  have :∀M:List (List Int),M.countP (fun o=>P o&&decide (zat o<(t:Int)))+M.countP (fun o=>P o&&decide (zat o=(t:Int)))=M.countP fun o=>P o&&decide (zat o<((t+1:Nat):Int)):=fun M=>by
   induction M with
   |nil=>rfl
   | cons o M ih=>
    rw[List.countP_cons,List.countP_cons,List.countP_cons,<-ih]
    by_cases c:P o=true
    ·rw [c]
     simp only[Bool.true_and,decide_eq_true_eq]
     by_cases d:zat o<(t:Int)
     ·rw [if_pos d,if_neg (by lia),if_pos (by lia)]
      lia
     ·by_cases e:zat o=(t:Int)
      ·rw [if_neg d,if_pos e,if_pos (by lia)]
       lia
      ·rw [if_neg d,if_neg e,if_neg (by lia)]
       lia
    ·have c:P o=false:=by cases hP:P o<;>simp_all
     rw[c]
     simp
  rw[<-this L]
  push_cast
  rfl
theorem zcw {k:Nat}{o:List Int}(h:o∈zaw (k+1) [[]] (k+1)):0<=zat o/\zat o<(k+1:Nat):=by
 have hO:=iter_iff.mp h
 have hne:o≠[]:=fun z=>by have:=hO.len;rw[z] at this;cases this
 exact mem_num0.mp (hO.mem_iff.mp (zc4 hne))
noncomputable def mkI (k r:Nat)(p:List Int):Int:=if (r:Int)=(k+1:Nat) then 3 else if (r:Int)=0 then 0 else if zat p<(r:Int) then 2 else 1
theorem zk7 (k:Nat)(ms:List Int){m:Int}(hm:m∈mk4)(r:Nat):stp m (k+1) (cnM k ms) r=cnM (k+1) (ms++[m]) r:=by
 by_cases hr:k+1<r
 ·rw [zh6 hr]
  unfold cnM
  have:(zaw (k+1+1) [[]] (k+1+1)).countP (fun o=>decide (zal o=ms++[m])&&decide (zat o=(r:Int)))=0:=by
   rw[List.countP_eq_zero]
   intro o ho
   have:=(zcw ho).2
   simp
   intro _
   lia
  rw[this]
  rfl
 ·have r1:(r:Int)<=(k+1:Nat):=by lia
  have e1:cnM (k+1) (ms++[m]) r=((zaw (k+1) [[]] (k+1)).countP fun p=>decide (zal p=ms)&&decide (mkI k r p=m):Nat):=by
   unfold cnM
   rw[<-List.countP_filter,(zjs (k+1) (by lia:(0:Int)<=r) r1).countP_eq,List.countP_map]
   refine congrArg Nat.cast (List.countP_congr fun p hp=> ?_)
   have hO:=iter_iff.mp hp
   have hne:p.map (upI r)≠[]:=fun z=>by have:=hO.len;rw[List.map_eq_nil_iff.mp z] at this;cases this
   show decide (zal (p.map (upI r)++[(r:Int)])=ms++[m])=true↔_
   rw[ze8 hne,zib (fun a b=>zm0),zk6 hO (by lia) r1,decide_eq_true_eq,Bool.and_eq_true,decide_eq_true_eq,decide_eq_true_eq]
   constructor
   ·intro z
    have:=List.append_inj' z rfl
    exact⟨this.1,(List.cons.inj this.2).1⟩
   ·rintro ⟨rfl,rfl⟩
    rfl
  rw[e1]
  have h0:∀o∈zaw (k+1) [[]] (k+1),0<=zat o:=fun o ho=>(zcw ho).1
  have cb:=zds (fun o=>decide (zal o=ms)) (zaw (k+1) [[]] (k+1)) h0
  have all_:((zaw (k+1) [[]] (k+1)).countP fun o=>decide (zal o=ms)&&decide (zat o<((k+1:Nat):Int)))=(zaw (k+1) [[]] (k+1)).countP fun o=>decide (zal o=ms):=
   List.countP_congr fun o ho=>by
    have:=(zcw ho).2
    rw[Bool.and_eq_true]
    exact⟨fun z=>z.1,fun z=>⟨z,decide_eq_true this⟩⟩
  have cball:=(cb (k+1)).trans (congrArg Nat.cast all_)
  have hcn:cnM k ms=fun r:Nat=>(((zaw (k+1) [[]] (k+1)).countP fun o=>decide (zal o=ms)&&decide (zat o=(r:Int)):Nat):Int):=rfl
  unfold stp
  rw[hcn,cball,cb r]
  generalize zaw (k+1) [[]] (k+1)=L
  have zero:∀{Q:List Int->Prop} [DecidablePred Q],(∀o,¬Q o)->((L.countP fun o=>decide (zal o=ms)&&decide (Q o):Nat):Int)=0:=fun {Q} _ hQ=>by
   rw[List.countP_eq_zero.mpr fun o _=>by simp[hQ o]]
   rfl
  have full:∀{Q:List Int->Prop} [DecidablePred Q],(∀o,Q o)->((L.countP fun o=>decide (zal o=ms)&&decide (Q o):Nat):Int)=(L.countP fun o=>decide (zal o=ms):Nat):=fun {Q} _ hQ=>
   congrArg Nat.cast (List.countP_congr fun o _=>by simp[hQ o])
  have diff:((L.countP fun o=>decide (zal o=ms):Nat):Int)-((L.countP fun o=>decide (zal o=ms)&&decide (zat o<(r:Int)):Nat):Int)=((L.countP fun o=>decide (zal o=ms)&&decide (¬zat o<(r:Int)):Nat):Int):=by
   have:∀M:List (List Int),M.countP (fun o=>decide (zal o=ms)&&decide (zat o<(r:Int)))+M.countP (fun o=>decide (zal o=ms)&&decide (¬zat o<(r:Int)))=M.countP fun o=>decide (zal o=ms):=fun M=>by
    induction M with
    |nil=>rfl
    |cons o M ih=>
     rw[List.countP_cons,List.countP_cons,List.countP_cons,<-ih]
     by_cases c:zal o=ms
     ·by_cases d:zat o<(r:Int)<;>simp[c,d]<;>lia
     ·simp[c]
   have:=this L
   lia
  have hm:m=0∨m=1∨m=2∨m=3:=by
   unfold mk4 at hm
   simpa using hm
  by_cases c1:(r:Int)=(k+1:Nat)
  ·have cr:r=k+1:=by lia
   have ev:∀o,mkI k r o=3:=fun o=>if_pos c1
   rcases hm with rfl|rfl|rfl|rfl
   ·rw[zero (Q:=fun o=>mkI k r o=0) fun o=>by rw[ev];decide];simp[cr]
   ·rw[zero (Q:=fun o=>mkI k r o=1) fun o=>by rw[ev];decide];simp[cr]
   ·rw[zero (Q:=fun o=>mkI k r o=2) fun o=>by rw[ev];decide];simp[cr]
   ·rw[full (Q:=fun o=>mkI k r o=3) ev];simp[cr]
  ·by_cases c2:(r:Int)=0
   ·have cr:r=0:=by lia
    have ev:∀o,mkI k r o=0:=fun o=>by unfold mkI;rw[if_neg c1,if_pos c2]
    rcases hm with rfl|rfl|rfl|rfl
    ·rw[full (Q:=fun o=>mkI k r o=0) ev];simp[cr]
    ·rw[zero (Q:=fun o=>mkI k r o=1) fun o=>by rw[ev];decide];simp[cr]
    ·rw[zero (Q:=fun o=>mkI k r o=2) fun o=>by rw[ev];decide];simp[cr]
    ·rw[zero (Q:=fun o=>mkI k r o=3) fun o=>by rw[ev];decide];simp[cr]
   ·have rr:1<=r/\r<k+1:=by lia
    have ev:∀o,mkI k r o=if zat o<(r:Int) then 2 else 1:=fun o=>by unfold mkI;rw[if_neg c1,if_neg c2]
    rcases hm with rfl|rfl|rfl|rfl
    ·rw[zero (Q:=fun o=>mkI k r o=0) fun o=>by rw[ev];split<;>decide];simp;lia
    ·rw [if_neg (by decide),if_neg (by decide),if_neg (by decide),if_pos rr,diff]
     refine congrArg Nat.cast (List.countP_congr fun o _=> ?_)
     rw[ev]
     by_cases d:zat o<(r:Int)<;>simp[d]
    ·rw [if_neg (by decide),if_neg (by decide),if_pos rfl,if_pos rr]
     refine congrArg Nat.cast (List.countP_congr fun o _=> ?_)
     rw[ev]
     by_cases d:zat o<(r:Int)<;>simp[d]
    ·rw[zero (Q:=fun o=>mkI k r o=3) fun o=>by rw[ev];split<;>decide];simp;lia
theorem zkt:∀(k:Nat) (p:List Int×List Int),p∈mks k->∀r,p.2.getD r 0=cnM k p.1 r
 | 0,p,hp,r=>by
  rw[List.mem_singleton.mp hp]
  have e:zaw (0+1) [[]] (0+1)=[[0]]:=by decide
  unfold cnM
  rw[e]
  cases r with
  |zero=>decide
  | succ r=>
   show (0:Int)=_
   have:([[0]]:List (List Int)).countP (fun o=>decide (zal o=[])&&decide (zat o=((r+1:Nat):Int)))=0:=by
    rw[List.countP_eq_zero]
    intro o ho
    rw[List.mem_singleton.mp ho]
    have:zat [0]=0:=rfl
    rw[this]
    simp
    intro _
    lia
   rw[this]
   rfl
 |k+1,p,hp,r=>by
  obtain⟨q,hq,hp⟩:=List.mem_flatMap.mp hp
  obtain⟨m,hm,rfl⟩:=List.mem_map.mp hp
  show (stpL m (k+1) q.2).getD r 0=_
  rw[zh7,<-zk7 k q.1 hm r]
  exact zh5 (fun j _=>zkt k q hq j) r
noncomputable def mkL (n:Nat):List (List Int):=(allA (n+1)).map zal
theorem zfa:∀n:Nat,((mks n).map (·.1)).Nodup
 |0=>by simp[mks]
 | n+1=>by
  have ih:=zfa n
  show (((mks n).flatMap fun p=>mk4.map fun m=>(p.1++[m],stpL m (n+1) p.2)).map (·.1)).Nodup
  rw[List.map_flatMap]
  refine List.pairwise_flatMap.mpr ⟨fun p _=> ?_, ?_⟩
  ·rw [List.map_map]
   show (mk4.map fun m=>p.1++[m]).Nodup
   simp[mk4,List.nodup_cons]
  ·have ih':(mks n).Pairwise fun a b=>a.1≠b.1:=List.pairwise_map.mp ih
   refine ih'.imp fun {a b} hab x hx y hy e=> ?_
   obtain⟨x',hx',rfl⟩:=List.mem_map.mp hx
   obtain⟨y',hy',rfl⟩:=List.mem_map.mp hy
   obtain⟨m,_,rfl⟩:=List.mem_map.mp hx'
   obtain⟨m',_,rfl⟩:=List.mem_map.mp hy'
   exact hab (List.append_inj_left' e rfl)
theorem zic:∀(n:Nat) (ms:List Int),ms.length=n->Mrk ms->ms∈(mks n).map (·.1)
 |0,ms,h,_=>by
  rw[List.eq_nil_of_length_eq_zero h]
  simp[mks]
 | n+1,ms,h,hm=>by
  have hne:ms≠[]:=fun e=>by rw[e] at h;cases h
  have e:=List.dropLast_concat_getLast hne
  have ih:=zic n ms.dropLast (by rw[List.length_dropLast];lia) fun x hx=>hm x ((List.dropLast_sublist _).subset hx)
  have hq:=hm _ (List.getLast_mem hne)
  obtain⟨p,hp,e1⟩:=List.mem_map.mp ih
  refine List.mem_map.mpr ⟨(p.1++[ms.getLast hne],stpL (ms.getLast hne) (n+1) p.2),List.mem_flatMap.mpr ⟨p,hp,List.mem_map.mpr ⟨ms.getLast hne, ?_,rfl⟩⟩, ?_⟩
  ·generalize ms.getLast hne=x at hq
   have:x=0∨x=1∨x=2∨x=3:=by lia
   simpa [mk4] using this
  ·show p.1++[ms.getLast hne]=ms
   rw[show p.1=ms.dropLast from e1,e]
theorem zm1 {S:List (List Int)}(x:List Int)(c:Int)(g:List Int->Int)(hg:g x=c)(nd:S.Nodup)(hx:x∈S):sL (fun s=>if x=s then g s else 0) S=c:=by
 induction S with
 |nil=>cases hx
 | cons a t ih=>
  obtain⟨h1,h2⟩:=List.nodup_cons.mp nd
  show (if x=a then g a else 0)+sL _ t=c
  by_cases e:x=a
  ·subst e
   rw[if_pos rfl,hg,za6 (G:=fun _=>0) (fun s hs=>if_neg fun (z:x=s)=>h1 (z▸hs)),zcN];lia
  ·rcases List.mem_cons.mp hx with h|h
   ·exact absurd h e
   ·rw[if_neg e,ih h2 h];lia
theorem zfb {S:List (List Int)}(f:List Int->Bool)(nd:S.Nodup):∀M:List (List Int),(∀x∈M,x∈S)->(M.countP f:Int)=sL (fun s=>if f s=true then (M.count s:Int) else 0) S
 |[],_=>by
  rw[za6 (G:=fun _=>0) (fun s _=>by simp),zcN];rfl
 | x::t,h=>by
  have ih:=zfb f nd t fun y hy=>h y (by simp[hy])
  have hp:=zm1 x (if f x=true then 1 else 0) (fun s=>if f s=true then 1 else 0) rfl nd (h x (by simp))
  rw[List.countP_cons,show (((t.countP f+if f x=true then 1 else 0:Nat)):Int)=(t.countP f:Int)+(if f x=true then 1 else 0) by split<;>simp,ih,<-hp,<-zgo]
  refine za6 fun s _=> ?_
  rw[List.count_cons]
  by_cases c:f s=true
  ·by_cases e:x=s
   ·subst e
    simp[c]
   ·simp[c,e]
  ·simp[c]
theorem zid {n:Nat}{o:List Int}(h:o.length=n+1):(zal o).length=n:=by
 unfold zal numF
 rw[List.length_map,List.length_map,List.length_range,h];lia
theorem zjv {n:Nat}{p:List Int×List Int}(hp:p∈mks n):wZ (n+1) p.2=((mkL n).count p.1:Int):=by
 have e1:wZ (n+1) p.2=sT (cnM n p.1) (n+1):=zb1 fun r _=>zkt n p hp r
 have h0:∀o∈zaw (n+1) [[]] (n+1),0<=zat o:=fun o ho=>(zcw ho).1
 have e2:=zds (fun o=>decide (zal o=p.1)) (zaw (n+1) [[]] (n+1)) h0 (n+1)
 rw[e1]
 refine e2.trans ?_
 unfold mkL
 rw[List.count_eq_countP,List.countP_map]
 refine congrArg Nat.cast ?_
 show _=(zaw (n+1) [[]] (n+1)).countP _
 refine List.countP_congr fun o ho=> ?_
 have:=(zcw ho).2
 show (decide (zal o=p.1)&&decide (zat o<((n+1:Nat):Int)))=true↔(zal o==p.1)=true
 rw[Bool.and_eq_true,decide_eq_true_eq,decide_eq_true_eq,beq_iff_eq]
 exact⟨fun z=>z.1,fun z=>⟨z,this⟩⟩
theorem zbh {rows:List (List Int)}{N:Nat}(hl:rows.length=N)(hN:0<N)(hr:∀r∈rows,r.length=4/\∀d∈r,0<=d/\d<(N:Int)){ends:List Int}(he:∀s∈ends,0<=s)(hd:ends.Nodup)(n:Nat):
  (((allA n).countP fun o=>metB rows ends o:Nat):Int)=metZ rows N ends n:=by
 rw[zmd hl hN hr he hd]
 have hb:∀o,metB rows ends o=decide (goZ rows (zal o)∈ends):=fun o=>za1 _ _
 by_cases h0:n=0
 ·subst h0
  show (([([]:List Int)].countP fun o=>metB rows ends o:Nat):Int)=(if goZ rows []∈ends then (wZ 1 [1]) else 0)+0
  rw[List.countP_cons,List.countP_nil,hb []]
  by_cases c:goZ rows (zal [])∈ends
  ·have c':goZ rows []∈ends:=c
   rw[if_pos (decide_eq_true c),if_pos c'];rfl
  ·have c':¬goZ rows []∈ends:=c
   rw[if_neg (by simp[c]),if_neg c'];rfl
 ·obtain ⟨k,rfl⟩:∃k,n=k+1:=⟨n-1,by lia⟩
  show _=sL (fun p=>if goZ rows p.1∈ends then wZ (k+1) p.2 else 0) (mks k)
  have hlen:∀l∈mkL k,l.length=k:=fun l hl'=>by
   obtain⟨o,ho,rfl⟩:=List.mem_map.mp hl'
   exact zid ((zcv (k+1) (k+1)).1 o ho).len
  have h1:=zfb (S:=(mks k).map (·.1)) (fun ms=>decide (goZ rows ms∈ends)) (zfa k) (mkL k) fun x hx=>zic k x (hlen x hx) (by obtain⟨o,_,rfl⟩:=List.mem_map.mp hx;exact zb0 o)
  rw[zh2] at h1
  have h2:(mkL k).countP (fun ms=>decide (goZ rows ms∈ends))=(allA (k+1)).countP fun o=>metB rows ends o:=by
   unfold mkL
   rw[List.countP_map]
   refine List.countP_congr fun o _=> ?_
   rw[hb o];rfl
  rw[<-h2,h1]
  refine za6 fun p hp=> ?_
  rw[<-zjv hp]
  by_cases c:goZ rows p.1∈ends
  ·rw[if_pos (decide_eq_true c),if_pos c]
  ·rw[if_neg (by simp[c]),if_neg c]
noncomputable def cdP (c:Addr)(q:Str):HO:=.ext fun h=>∃o vs t,h.get? c=some o/\o.data=.fields vs/\vs[1]? =some (.str q t)
noncomputable def lmP (f:Addr)(q:Str)(params:Arguments)(body:Expr)(scope:Scope)(clos:List (Str×Addr))(c:Addr):HO:=.ext fun h=>∃pm ct,h.get? f=some (PySem.W.kla_obj "<lambda>" q params body scope clos pm c ct)
structure TbOk (H:Hp) (T:Addr) (q:Str) (ps:Array Value):Prop where
 at_:H T=some (.tbl ps)
 tri:TriplesOk ps.toList
 hit:∀pos cv,codeAmong pos ps.toList=some cv->∃c,cv=.ref c/\H c=some (cdP c q)
noncomputable def unt (H:Hp)(f:Addr):Hp:=fun b=>if b=f then none else H b
theorem zcb {H:Hp}{f b:Addr}(h:b≠f):unt H f b=H b:=if_neg h
theorem zjw {H:Hp}{f b:Addr}{o:HO}(e:unt H f b=some o):b≠f/\H b=some o:=by
 unfold unt at e
 by_cases h:b=f
 ·rw[if_pos h] at e;cases e
 ·rw[if_neg h] at e;exact⟨h,e⟩
theorem zcx {H:Hp}{f b:Addr}(e:H b=none):unt H f b=none:=by
 unfold unt
 split
 ·rfl
 ·exact e
theorem zgY {pos:Pos}{a b:Int}{c cv:Value}:∀{l:List Value},TriplesOk l->codeAmong pos (l++[rawInt a,rawInt b,c])=some cv->codeAmong pos l=some cv∨cv=c:=by
 intro l
 induction l using TriplesOk.induct with
 | case1=>
  intro _ h
  refine .inr ?_
  rw[List.nil_append] at h
  unfold rawInt at h
  rw[codeAmong.eq_1] at h
  split at h
  ·exact (Option.some.inj h).symm
  ·rw [codeAmong.eq_2 pos [] (fun _ _ _ _ _ _ z=>by cases z)] at h
   cases h
 | case2 i t j u v r ih=>
  intro ht h
  rw[TriplesOk.eq_2] at ht
  rw[List.cons_append,List.cons_append,List.cons_append,codeAmong.eq_1] at h
  rw[codeAmong.eq_1]
  split at h
  ·rename_i hc
   rw[if_pos hc]
   exact .inl h
  ·rename_i hc
   rw[if_neg hc]
   exact ih ht h
 |case3 t h1 h2=>
  intro ht
  rw[TriplesOk.eq_3 t h1 h2] at ht
  exact ht.elim
noncomputable def tLam (X:Cx)(T:Addr)(q:Str)(params:Arguments)(body:Expr)(scope:Scope):TE:=fun _ H Q=>
 ∃ps,TbOk H T q ps/\∀(f c:Addr) (clos:List (Str×Addr)) (ps':Array Value) (H':Hp),H f=none->f≠T->f≠c->TbOk (unt H' f) T q ps'->H' f=some (lmP f q params body scope clos c)->H' c=some (cdP c q)->(∀b o,H b=some o->b≠T->H' b=some o)->
  (∀x a,clos.lookup x=some a->X.env.cells.lookup x=some a)->(∀y∈scope.names,y.2=.free->clos.lookup y.1=X.env.cells.lookup y.1)->Q (.ref f) H'
theorem zie {c:Addr}{q:Str}{h:Heap}{o:Obj}{vs:Array Value}{t:Tok}(h1:h.get? c=some o)(h2:o.data=.fields vs)(h3:vs[1]? =some (.str q t)){P:Program}{w:World}{H:Hp}:ObjOk P w H h c (cdP c q):=
 ⟨⟨o,vs,t,h1,h2,h3⟩,⟨o,h1⟩,fun _ _ ⟨o',vs',t',g1,g2,g3⟩ k=>⟨o',vs',t',k _ g1,g2,g3⟩⟩
theorem zku {X:Cx}{params:Arguments}{body:Expr}{scope:Scope}{pos:Pos}{q:Str}{c T:Addr}{sc:Scope}(hd:defaultsOf params X.env=([],[]))(hq:X.env.qual++ "<lambda>" =q)
  (hsc:X.env.scope=sc) (S:∀y∈scope.names,y.2=.free->sc.names.lookup y.1=some .cell) (hc:X.env.code=.ref c) (hC:∀h:Heap,X.K.In h->PySem.W.CodeHd h c T) (hB:X.base.BuiltinsAt X.mg T) (hT:mainGlobals≠T):
  PE X (.Lambda params body scope pos) (tLam X T q params body scope):=by
 intro pins s σ H Q I h
 obtain⟨ps,hTb,k⟩:=h
 subst hq
 obtain⟨cl,hcl,hcl1,hcl2⟩:=zbg (env:=X.env) (scope:=scope) fun y hy hf=>I.ok.has _ (.inl (by show X.env.scope.names.lookup y.1=_;rw[hsc];exact S y hy hf))
 have tab:s.heap.get? T=some (PySem.W.tabObj ps):=I.hok T _ hTb.at_
 have hTl:T<s.heap.objs.size:=Heap.lt_size tab
 have nsG:s.heap.Ns mainGlobals X.mg:=I.mod.glob.keeps I.bk
 refine PySem.W.kla_eval hd ?_
 cases e:codeAmong pos ps.toList with
 | none=>
  refine PySem.W.kla_makeFunction hcl I.ok.glob nsG hc (hC _ I.kIn) tab hTb.tri e hT (hB.keeps I.bk) fun c' ctv h' tk hk hc1 hc2 hcr hP=> ?_
  have hf1:s.heap.objs.size<=h'.objs.size:=by lia
  generalize hF:PySem.W.kla_obj "<lambda>" (X.env.qual++ "<lambda>") params body scope cl ((X.mg "__name__").getD .none) c' ctv=fo
  have kp:∀b o,b≠T->s.heap.get? b=some o->(h'.push fo).get? b=some o:=fun b o hb e=>Heap.get?_push_of_some _ (hk b o hb e)
  have hTf:T≠h'.objs.size:=Nat.ne_of_lt (Nat.lt_of_lt_of_le hTl hf1)
  have hTc:T≠c':=Nat.ne_of_lt (Nat.lt_of_lt_of_le hTl hc1)
  have hfc:h'.objs.size≠c':=Nat.ne_of_gt hc2
  have nf:H h'.objs.size=none:=I.hok.fresh hf1
  have nc:H c'=none:=I.hok.fresh hc1
  obtain⟨cc,co,cvs,ct,ec,g1,g2,g3⟩:=hcr
  cases ec
  have gT:(h'.push fo).get? T=some (PySem.W.tabObj (ps++#[rawInt ↑pos.line,rawInt ↑pos.col,.ref c'])):=Heap.get?_push_of_some _ hP
  have gc:=Heap.get?_push_of_some fo g1
  have gf:(h'.push fo).get? h'.objs.size=some fo:=Heap.get?_push_size _ (by rw[<-hF];rfl)
  let H':Hp:=upd (upd (upd H T (.tbl (ps++#[rawInt ↑pos.line,rawInt ↑pos.col,.ref c']))) c' (cdP c' (X.env.qual++ "<lambda>"))) h'.objs.size (lmP h'.objs.size (X.env.qual++ "<lambda>") params body scope cl c')
  have old:∀b o,H b=some o->b≠T->H' b=some o:=fun b o e hb=>by
   show upd _ _ _ b=_
   rw[zaj (fun z=>by rw[z,nf] at e;cases e),zaj (fun z=>by rw[z,nc] at e;cases e),zaj hb]
   exact e
  have hT':H' T=some (.tbl (ps++#[rawInt ↑pos.line,rawInt ↑pos.col,.ref c'])):=by
   show upd _ _ _ T=_
   rw[zaj hTf,zaj hTc,zab]
  have hc':H' c'=some (cdP c' (X.env.qual++ "<lambda>")):=by
   show upd _ _ _ c'=_
   rw[zaj (Ne.symm hfc),zab]
  have hf':H' h'.objs.size=some (lmP h'.objs.size (X.env.qual++ "<lambda>") params body scope cl c'):=zab
  have other:∀b,b≠h'.objs.size->b≠c'->b≠T->H' b=H b:=fun b h1 h2 h3=>by
   show upd _ _ _ b=_
   rw[zaj h1,zaj h2,zaj h3]
  refine⟨.ref h'.objs.size,H',I.un ⟨fun b o e n _ _=>kp b o (fun z=>by rw[z,hTb.at_] at n;cases n) e,fun b o e n _ _=>⟨o.slots,kp b o (fun z=>by rw[z,hTb.at_] at n;cases n) e⟩,fun b o e n _=> ?_,fun b o e _=> ?_,fun b xs e=>old b _ e (fun z=>by rw[z,hTb.at_] at e;cases e),fun b o u e=>old b _ e (fun z=>by rw[z,hTb.at_] at e;cases e),fun b qs e=> ?_⟩ ?_,rfl,k _ c' cl _ H' nf (Ne.symm hTf) hfc ⟨by rw[zcb hTf];exact hT', ?_, ?_⟩ hf' hc' old hcl1 hcl2⟩
  ·have hb:=Heap.lt_size e
   rw[other b (Nat.ne_of_lt (Nat.lt_of_lt_of_le hb hf1)) (Nat.ne_of_lt (Nat.lt_of_lt_of_le hb hc1)) fun z=>by rw[z,hTb.at_] at n;cases n]
   exact n
  ·by_cases hb:b=T
   ·subst hb
    exact⟨_,gT⟩
   ·exact⟨_,kp b o hb e⟩
  ·by_cases hb:b=T
   ·subst hb
    rw[hTb.at_] at e
    cases e
    exact⟨_,hT'⟩
   ·exact⟨#[],by rw[old b _ e hb];simp⟩
  ·intro a o e
   by_cases h1:a=h'.objs.size
   ·subst h1
    rw[hf'] at e
    cases e
    refine⟨⟨(X.mg "__name__").getD .none,ctv, ?_⟩,⟨fo,gf⟩,fun _ _ ⟨pm,ct,g⟩ k=>⟨pm,ct,k _ g⟩⟩
    rw[gf,<-hF]
   ·by_cases h2:a=c'
    ·subst h2
     rw[hc'] at e
     cases e
     exact zie gc g2 g3
    ·by_cases h3:a=T
     ·subst h3
      rw[hT'] at e
      cases e
      exact gT
     ·rw [other a h1 h2 h3] at e
      refine (I.hok a o e).stay (fun b u hb q=>kp b u (fun z=> ?_) q) (fun b hb=>old b _ hb fun z=>by rw[z,hTb.at_] at hb;cases hb) fun b xs hb=>old b _ hb fun z=>by rw[z,hTb.at_] at hb;cases hb
      rcases hb with rfl|hb
      ·exact h3 z
      ·rw [z,hTb.at_] at hb
       cases hb
  ·rw [Array.toList_append]
   exact TriplesOk_snoc _ _ _ _ hTb.tri
  ·intro pos' cv hcv
   rw[Array.toList_append] at hcv
   rcases zgY hTb.tri hcv with h|h
   ·obtain ⟨d,rfl,hd⟩:=hTb.hit _ _ h
    exact⟨d,rfl,by rw[zcb fun z=>by rw[z,nf] at hd;cases hd];exact old d _ hd fun z=>by rw[z,hTb.at_] at hd;cases hd⟩
   ·exact⟨c',h,by rw[zcb (Ne.symm hfc)];exact hc'⟩
 | some cv=>
  obtain⟨c',rfl,hc0⟩:=hTb.hit _ _ e
  refine PySem.W.kla_makeFunctionHit hcl I.ok.glob nsG hc (hC _ I.kIn) tab hTb.tri e (hB.keeps I.bk) fun ctv h' tk hk hf1=> ?_
  generalize hF:(⟨.type "function",none,.func (PySem.W.kla_fn "<lambda>" (X.env.qual++ "<lambda>") params body scope cl ((X.mg "__name__").getD .none) (.ref c') ctv),#[]⟩:Obj)=fo
  have kp:∀b o,s.heap.get? b=some o->(h'.push fo).get? b=some o:=fun b o e=>Heap.get?_push_of_some _ (hk b o e)
  have nf:H h'.objs.size=none:=I.hok.fresh hf1
  have gf:(h'.push fo).get? h'.objs.size=some fo:=Heap.get?_push_size _ (by rw[<-hF];rfl)
  have hfc:h'.objs.size≠c':=fun z=>by rw[<-z,nf] at hc0;cases hc0
  have hTf:h'.objs.size≠T:=Nat.ne_of_gt (Nat.lt_of_lt_of_le hTl hf1)
  refine⟨.ref h'.objs.size,_,I.laid (a:=h'.objs.size) (o:=lmP h'.objs.size (X.env.qual++ "<lambda>") params body scope cl c') (t':=tk) kp hf1 ?_,rfl,k _ c' cl ps _ nf hTf hfc ⟨by rw[zcb (Ne.symm hTf),zaj (Ne.symm hTf)];exact hTb.at_,hTb.tri,fun pos' cv' h'=> ?_⟩ zab (by rw[zaj (Ne.symm hfc)];exact hc0) (fun b o e _=>by rw[zaj (fun z=>by rw[z,nf] at e;cases e)];exact e) hcl1 hcl2⟩
  ·refine ⟨⟨(X.mg "__name__").getD .none,ctv, ?_⟩,⟨fo,gf⟩,fun _ _ ⟨pm,ct,g⟩ k=>⟨pm,ct,k _ g⟩⟩
   rw[gf,<-hF]
  ·obtain ⟨d,rfl,hd⟩:=hTb.hit _ _ h'
   have hdf:d≠_:=fun z=>by rw[z,nf] at hd;cases hd
   exact⟨d,rfl,by rw[zcb hdf,zaj hdf];exact hd⟩
noncomputable abbrev zdt (q:Str)(scope:Scope)(n:Nat)(f:Addr)(clos:List (Str×Addr))(cd:Value):Env:=newEnv scope n mainGlobals clos (q++ ".<locals>.") (some f) cd none builtinsNs
noncomputable def cxL (CX:CXT)(P:Program)(w:World)(K:PySem.W.Frag)(mg:Str->Option Value)(base:Heap)(N:List Str)(q:Str)(scope:Scope)(f:Addr)(clos:List (Str×Addr))(cd:Value)(A:Around)(outer:List Env)(s:Shared)(H:Hp)(E:XK):Cx where
 prog:=P
 w:=w
 K:=K
 mg:=mg
 base:=base
 A:=A.deeper (zdt q scope s.heap.objs.size f clos cd)
 N:=N
 s₀:=s
 H₀:=H
 env:=zdt q scope s.heap.objs.size f clos cd
 outer:=outer
 stack:=zdt q scope s.heap.objs.size f clos cd::outer
 ex:=[]
 calm:=true
 fn:=fun _=>false
 pn:=[]
 xe:=fun e s'=>wpAny (model P w) (A.deeper (zdt q scope s.heap.objs.size f clos cd)) (leaving (zdt q scope s.heap.objs.size f clos cd) e) (fun _ s''=>CX outer H s E e s'') (fun e' s''=>CX outer H s E e' s'') s'
structure LamScope (ps fr:List Str) (scope:Scope):Prop where
 nd:(ps++fr).Nodup
 kind:scope.kind=.function
 nocell:∀y∈scope.names,y.2≠.cell
 par:∀x∈ps,scope.names.lookup x=some .local
 fre:∀x∈fr,scope.names.lookup x=some .free
 co:scope.isCoroutine=false
 gen:scope.isGenerator=false
theorem zgZ {x:Str}{v:Value}:∀{ps:List Str} {us:List Value} {i:Nat},ps.Nodup->ps[i]? =some x->us[i]? =some v->(ps.zip us).reverse.lookup x=some v:=by
 intro ps us i nd h1 h2
 have hl:∀(l:List (Str×Value)),(l.map (·.1)).Nodup->(x,v)∈l->l.lookup x=some v:=by
  intro l
  induction l with
  |nil=>intro _ h;cases h
  | cons y r ih=>
   intro nd h
   obtain⟨a,b⟩:=y
   rw[List.map_cons,List.nodup_cons] at nd
   rw[List.lookup_cons]
   rcases List.mem_cons.mp h with h|h
   ·cases h
    simp
   ·have:x≠a:=fun z=>nd.1 (List.mem_map.mpr ⟨_,h,z⟩)
    have e:(x==a)=false:=beq_eq_false_iff_ne.mpr this
    rw[e]
    exact ih nd.2 h
 refine hl _ ?_ ?_
 ·rw [List.map_reverse]
  refine (List.reverse_perm _).nodup_iff.mpr ?_
  have:((ps.zip us).map (·.1)).Sublist ps:=by
   clear h1 h2 hl nd
   induction ps generalizing us with
   |nil=>exact .slnil
   |cons p r ih=>
    cases us with
    |nil=>exact List.nil_sublist _
    |cons u us=>exact .cons₂ _ ih
  exact nd.sublist this
 ·rw [List.mem_reverse]
  refine List.mem_of_getElem? (i:=i) ?_
  rw[List.getElem?_zip_eq_some]
  exact⟨h1,h2⟩
theorem zmk {P:Program}{w:World}{K:PySem.W.Frag}{mg:Str->Option Value}{base:Heap}{k:Nat}{f c:Addr}{q:Str}{params:Arguments}{body:Expr}{scope:Scope}{clos:List (Str×Addr)}{pm ct:Value}{ps fr:List Str}{fvs:List V}{sp:Sp}
  (hf:base.get? f=some (PySem.W.kla_obj "<lambda>" q params body scope clos pm c ct)) (S:LamScope ps fr scope)
  (hcl:∀x,scope.names.lookup x=some .free->∃a,clos.lookup x=some a) (hinj:∀x y a,clos.lookup x=some a->clos.lookup y=some a->x=y) (hcell:∀x a,clos.lookup x=some a->∃v,base.IsCell a v)
  (hval:∀(i:Nat) (x:Str) (v:V),fr[i]? =some x->fvs[i]? =some v->∃a u,clos.lookup x=some a/\base.IsCell a (some u)/\RelV v u) (hlen:fvs.length=fr.length)
  (len:∀vs H Q E,sp vs H Q E->vs.length=ps.length/\H c=some (cdP c q))
  (hbody:∀(A:Around) (outer:List Env) (s:Shared) (H:Hp) (vs:List V) (Q:VK) (E:XK),Room k (A.deeper (zdt q scope s.heap.objs.size f clos (.ref c)))->sp vs H Q E->
   ∃t,PE (cxL CX0 P w K mg base (ps++fr) q scope f clos (.ref c) A outer s H E).nox body t/\t ((vs++fvs).map some) H Q):
  FnOk P w K mg base CX0 (k+1) f (PySem.W.kla_fn "<lambda>" q params body scope clos pm (.ref c) ct) ps sp:=by
 refine⟨fun vs H Q E h=>(len vs H Q E h).1,fun A outer s H args us vs Q E hr e0 hb r hsp=> ?_⟩
 obtain⟨hl,hcd⟩:=len _ _ _ _ hsp
 have lim:s.heap.NoLimit:=e0.mod.nolimit.keeps fun b o e=>(e0.bs b o e).1
 have kb:∀b o,base.get? b=some o->s.heap.get? b=some o:=fun b o e=>(e0.bs b o e).1
 have hcr':s.heap.CodeRec (.ref c) q:=by
  obtain⟨⟨o,cvs,t,e2,e3,e4⟩,_⟩:=e0.hok c _ hcd
  exact⟨c,o,cvs,t,rfl,e2,e3,e4⟩
 refine PySem.W.kla_callFunE hr.depth (kb _ _ hf) rfl S.co S.gen rfl hcr' (hb _ _ _ _ ?_)
 refine wpAny_newFunctionEnv S.nocell (fun x hx=>S.par _ (List.of_mem_zip hx).1) (fun h' hns hsb=> ?_) S.kind
 have kp:∀b o,s.heap.get? b=some o->h'.get? b=some o:=fun b o e=>(hsb.2 b (Nat.ne_of_lt (Heap.lt_size e))).trans (Heap.get?_push_of_some _ e)
 refine⟨lim.keeps kp,PySem.W.kla_codeExpr ?_⟩
 obtain⟨t,ht,hq⟩:=hbody A outer s H vs Q E (hr.deeper _) hsp
 have noA:∀b:Addr,b∉(cxL CX0 P w K mg base (ps++fr) q scope f clos (.ref c) A outer s H E).ex:=fun b z=>absurd (show b∈([]:List Addr) from z) (by simp)
 have I:Inv (cxL CX0 P w K mg base (ps++fr) q scope f clos (.ref c) A outer s H E) [] ((vs++fvs).map some) H {heap:=h',gens:=s.gens,drawn:=s.drawn,toks:=s.toks+(ps.zip us).length,os:=s.os}:=by
  refine⟨⟨e0.mod,S.kind,rfl,rfl,Nat.le_refl _,hinj,fun y hy=> ?_,(fun y c h=>by cases h),fun _=>hr.hd,Around.frames_deeper e0.frames,.inr ⟨rfl,rfl⟩,fun b z=>absurd z (noA b),e0.bs,e0.bsz,fun b _ _=>noA b,fun b z=>absurd z (noA b),e0.funs,e0.frf⟩,
   rfl,e0.bare,Un.kept kp,⟨_,hns,fun i y v h1 h2 h3=> ?_⟩,fun y a h=> ?_,e0.hok.fresh (Nat.le_refl _),fun y a h=> ?_,fun p hp=>absurd (show p∈([]:List (Addr×Obj)) from hp) (by simp),e0.hok.kept kp, ?_⟩
  ·have hy:scope.names.lookup y=some .cell∨scope.names.lookup y=some .free:=hy
   rcases hy with hy|hy
   ·exact absurd rfl (S.nocell _ (PySem.mem_of_lookup hy))
   ·exact hcl y hy
  ·have h1:(ps++fr)[i]? =some y:=h1
   rw[List.getElem?_map] at h2
   obtain⟨v',hv',e⟩:=Option.map_eq_some_iff.mp h2
   cases e
   by_cases hi:i<ps.length
   ·rw [List.getElem?_append_left hi] at h1
    rw[List.getElem?_append_left (by lia)] at hv'
    obtain⟨u,hu,rv⟩:=r.get hv'
    exact⟨u,rv,.inl ⟨S.par y (List.mem_of_getElem? h1),zgZ (S.nd.sublist (List.sublist_append_left _ _)) h1 hu⟩⟩
   ·rw [List.getElem?_append_right (by lia)] at h1 hv'
    rw[hl] at hv'
    obtain⟨a,u,g1,g2,g3⟩:=hval _ y v h1 hv'
    exact⟨u,g3,.inr ⟨.inr (S.fre y (List.mem_of_getElem? h1)),a,g1,(fun ⟨o,e,d⟩=>⟨o,kp _ _ (kb _ _ e),d⟩:base.IsCell a (some u)->h'.IsCell a (some u)) g2⟩⟩
  ·obtain ⟨v,hv⟩:=hcell y a h
   obtain⟨o,e,d⟩:=hv
   exact⟨v,o,kp _ _ (kb _ _ e),d⟩
  ·obtain ⟨v,hv⟩:=hcell y a h
   obtain⟨o,ho,_⟩:=hv
   exact (e0.bs a o ho).2
  ·show ((vs++fvs).map some).length=(ps++fr).length
   rw[List.length_map,List.length_append,List.length_append,hl,hlen]
 refine wpAny_mono (ht.nox [] _ _ H _ I hq) (fun u s' hs=> ?_) fun e s' hs=>hs
 obtain⟨v,H',J,rv,q'⟩:=hs
 exact⟨v,H',J.os,J.bare,J.base,J.hok,rv,q'⟩
structure CalL (P:Program) (w:World) (K:PySem.W.Frag) (mg:Str->Option Value) (base:Heap) (k:Nat) (f:Addr) (ps:List Str) (sp:Sp):Prop where
 ex:∃fd o,base.get? f=some o/\o.data=.func fd/\FnOk P w K mg base CX0 k f fd ps sp/\Binds K fd ps []
noncomputable def zkv (P:Program)(w:World)(K:PySem.W.Frag)(mg:Str->Option Value)(base:Heap)(k:Nat)(tf:TE)(t:TA):TE:=fun σ H Q=>tf σ H fun v H1=>∃f ps sp,v=.ref f/\CalL P w K mg base k f ps sp/\t σ H1 fun vs H2=>sp vs H2 Q E0
theorem zeh {X:Cx}{k:Nat}{x:Str}{p pos:Pos}{e:Expr}{es:List Expr}{t:TA}{tf:TE}(hf:PE X (.Name x p) tf)(hr:Room k X.A)(ha:PA X (e::es) t)(he:starEach (e::es) X.env=(false,eval e X.env)::starEach es X.env:=by rfl)
  (hpl:(backTo pos (starEach es X.env)).any (·.1)=false:=by rfl):PE X (.Call (.Name x p) (e::es) [] pos) (zkv X.prog X.w X.K X.mg X.base k tf t):=by
 intro pins s σ H Q I h
 refine wpAny_Call_Name_kw (thn (hf pins s σ H _ I h) fun v s1 z=> ?_)
 obtain⟨y,H1,I1,r1,f,ps,sp,ey,⟨fd,o,ho,hd,F,hb⟩,q1⟩:=z
 subst ey
 cases (show v=Value.ref f from r1)
 have kin:∀{h:Heap},h.get? f=some o->PySem.W.Frag.In [(f,o)] h:=fun {h} e b o' e'=>by
  rw[List.lookup_cons] at e'
  split at e'
  ·rename_i hb
   cases e'
   rw[eq_of_beq hb]
   exact e
  ·cases e'
 have hk:PySem.W.keepIn [(f,o)] (.ref f)=true:=by
  unfold PySem.W.keepIn
  show (match List.lookup f [(f,o)] with|_=>_)=true
  rw[List.lookup_cons_self]
  obtain⟨oc,od,dt,osl⟩:=o
  cases hd
  rfl
 refine PySem.W.callWith_K (K:=[(f,o)]) (h₀:=X.base) (kin ho) hk (thn (ha pos pins s1 σ H1 _ I1 q1) fun us s2 z=> ?_) he hpl
 obtain⟨vs,H2,I2,r2,q2⟩:=z
 refine⟨kin (I2.bk _ _ ho), ?_⟩
 exact zkf F hr hb .nil zl4 I2 r2 (by rw[List.append_nil];exact q2)
section
variable {K:PySem.W.Frag}{x qual:Str}{st:Stmt}{f:Addr}{fd:FuncData}
theorem Fun.b1 {p0:Str}(F:Fun K x qual st f fd)(h:∀(kV doc pm:Value) (an:Option Addr) (cdv ct:Value) (a0:Value),bindArgs (PySem.W.fnOf x qual (za9 st) (zaN st) (zae st) .none kV doc pm an cdv ct) ⟨[a0],[]⟩=pure (([p0]:List Str).zip [a0])):Binds K fd [p0] []:=
 F.binds fun kV doc pm an cdv ct us hl=>match us,hl with|[a0],_=>h kV doc pm an cdv ct a0
theorem Fun.b2 {p0 p1:Str}(F:Fun K x qual st f fd)(h:∀(kV doc pm:Value) (an:Option Addr) (cdv ct:Value) (a0 a1:Value),bindArgs (PySem.W.fnOf x qual (za9 st) (zaN st) (zae st) .none kV doc pm an cdv ct) ⟨[a0,a1],[]⟩=pure (([p0,p1]:List Str).zip [a0,a1])):Binds K fd [p0,p1] []:=
 F.binds fun kV doc pm an cdv ct us hl=>match us,hl with|[a0,a1],_=>h kV doc pm an cdv ct a0 a1
theorem Fun.b3 {p0 p1 p2:Str}(F:Fun K x qual st f fd)(h:∀(kV doc pm:Value) (an:Option Addr) (cdv ct:Value) (a0 a1 a2:Value),bindArgs (PySem.W.fnOf x qual (za9 st) (zaN st) (zae st) .none kV doc pm an cdv ct) ⟨[a0,a1,a2],[]⟩=pure (([p0,p1,p2]:List Str).zip [a0,a1,a2])):Binds K fd [p0,p1,p2] []:=
 F.binds fun kV doc pm an cdv ct us hl=>match us,hl with|[a0,a1,a2],_=>h kV doc pm an cdv ct a0 a1 a2
theorem Fun.b4 {p0 p1 p2 p3:Str}(F:Fun K x qual st f fd)(h:∀(kV doc pm:Value) (an:Option Addr) (cdv ct:Value) (a0 a1 a2 a3:Value),bindArgs (PySem.W.fnOf x qual (za9 st) (zaN st) (zae st) .none kV doc pm an cdv ct) ⟨[a0,a1,a2,a3],[]⟩=pure (([p0,p1,p2,p3]:List Str).zip [a0,a1,a2,a3])):Binds K fd [p0,p1,p2,p3] []:=
 F.binds fun kV doc pm an cdv ct us hl=>match us,hl with|[a0,a1,a2,a3],_=>h kV doc pm an cdv ct a0 a1 a2 a3
theorem Fun.b5 {p0 p1 p2 p3 p4:Str}(F:Fun K x qual st f fd)(h:∀(kV doc pm:Value) (an:Option Addr) (cdv ct:Value) (a0 a1 a2 a3 a4:Value),bindArgs (PySem.W.fnOf x qual (za9 st) (zaN st) (zae st) .none kV doc pm an cdv ct) ⟨[a0,a1,a2,a3,a4],[]⟩=pure (([p0,p1,p2,p3,p4]:List Str).zip [a0,a1,a2,a3,a4])):Binds K fd [p0,p1,p2,p3,p4] []:=
 F.binds fun kV doc pm an cdv ct us hl=>match us,hl with|[a0,a1,a2,a3,a4],_=>h kV doc pm an cdv ct a0 a1 a2 a3 a4
end
theorem zkw {K:PySem.W.Frag}{fd:FuncData}{p:Str}(h:∀a:Value,bindArgs fd ⟨[a],[]⟩=pure (([p]:List Str).zip [a])):Binds K fd [p] []:=.all fun us hl=>match us,hl with|[a],_=>h a
theorem fr3 {N:List Str}{σ:L2.St}{x1 x2 x3:Str}{v1 v2 v3:V}(h1:∃j:Nat,N[j]? =some x1/\σ[j]? =some (some v1))(h2:∃j:Nat,N[j]? =some x2/\σ[j]? =some (some v2))(h3:∃j:Nat,N[j]? =some x3/\σ[j]? =some (some v3)):
  ∀(i:Nat) (x:Str) (v:V),[x1,x2,x3][i]? =some x->[v1,v2,v3][i]? =some v->∃j:Nat,N[j]? =some x/\σ[j]? =some (some v):=by
 intro i x v e1 e2
 match i,e1,e2 with
 |0,e1,e2=>cases e1;cases e2;exact h1
 |1,e1,e2=>cases e1;cases e2;exact h2
 |2,e1,e2=>cases e1;cases e2;exact h3
 |i+3,e1,e2=>cases e1
theorem zdu {h b1 b2:Heap}:∀{l:List Env},h.FunFrames b1 l->(∀a∈frs l,b2.get? a=none)->h.FunFrames b2 l
 |[],_,_=>trivial
 |e::l,hf,hn=>by
  obtain⟨hk,⟨L,o,e1,_,e3,e4⟩,r⟩:=hf
  have ef:frs (e::l)=L::frs l:=by unfold frs;rw[List.filterMap_cons,e1]
  rw[ef] at hn
  exact⟨hk,⟨L,o,e1,hn L List.mem_cons_self,e3,e4⟩,zdu r fun a ha=>hn a (List.mem_cons_of_mem _ ha)⟩
theorem zcY {h b:Heap}:∀{l:List Env},h.FunFrames b l->∀a∈frs l,∃o,h.get? a=some o
 |[],_,a,ha=>by cases ha
 |e::l,hf,a,ha=>by
  obtain⟨_,⟨L,o,e1,_,e3,_⟩,r⟩:=hf
  have ef:frs (e::l)=L::frs l:=by unfold frs;rw[List.filterMap_cons,e1]
  rw[ef] at ha
  rcases List.mem_cons.mp ha with rfl|ha
  ·exact⟨o,e3⟩
  ·exact zcY r a ha
theorem Inv.unt {X:Cx}{pins:List (Addr×Obj)}{σ:St}{H:Hp}{s:Shared}{f:Addr}{φ:Heap->Prop}(I:Inv X pins σ H s)(hf:H f=some (.ext φ)):Inv X pins σ (L2.unt H f) s:=by
 have keep:∀{b:Addr} {o:HO},H b=some o->(∀ψ,o≠.ext ψ)->L2.unt H f b=some o:=fun {b o} e n=>by
  rw[zcb fun z=>by rw[z,hf] at e;cases e;exact n _ rfl]
  exact e
 refine⟨I.ok,I.os,I.bare,⟨I.base.keep,I.base.slot,fun b o e n x=>zcx (I.base.free b o e n x),I.base.there,fun b xs e=>keep (I.base.tups b xs e) (fun _ z=>by cases z),fun b o u e=>keep (I.base.frzs b o u e) (fun _ z=>by cases z),fun b ps e=> ?_⟩,I.loc,I.cell,zcx I.free,fun x c e=>zcx (I.freeC x c e),fun p hp=> ?_,fun a o e=> ?_,I.len⟩
 ·obtain ⟨more,e'⟩:=I.base.tbls b ps e
  exact⟨more,keep e' fun _ z=>by cases z⟩
 ·obtain ⟨h1,h2,h3⟩:=I.pin p hp
  exact⟨h1,zcx h2,h3⟩
 ·obtain ⟨_,e'⟩:=zjw e
  exact (I.hok a o e').stay (fun b u _ q=>q) (fun b q=>keep q fun _ z=>by cases z) fun b xs q=>keep q fun _ z=>by cases z
noncomputable def zm2 (X:Cx)(kL:Nat)(q:Str)(params:Arguments)(body:Expr)(scope:Scope)(psL fr:List Str)(spN:Heap->Sp)(t:TA):TE:=fun σ H Q=>t σ H fun vs H1=>∃(f c:Addr) (clos:List (Str×Addr)) (fvs:List V) (spL:Sp),
 H1 f=some (lmP f q params body scope clos c)/\(∀x a,clos.lookup x=some a->X.env.cells.lookup x=some a)/\(∀y∈scope.names,y.2=.free->clos.lookup y.1=X.env.cells.lookup y.1)/\fvs.length=fr.length/\
 (∀(i:Nat) (x:Str) (v:V),fr[i]? =some x->fvs[i]? =some v->∃j:Nat,X.N[j]? =some x/\σ[j]? =some (some v))/\(∀vs H Q E,spL vs H Q E->vs.length=psL.length/\H c=some (cdP c q))/\
 (∀base',X.K.In base'->base'.Ns mainGlobals X.mg->∀(A:Around) (outer:List Env) (s:Shared) (H:Hp) (vs:List V) (Q:VK) (E:XK),Room kL (A.deeper (zdt q scope s.heap.objs.size f clos (.ref c)))->spL vs H Q E->
   ∃t,PE (cxL CX0 X.prog X.w X.K X.mg base' (psL++fr) q scope f clos (.ref c) A outer s H E).nox body t/\t ((vs++fvs).map some) H Q)/\
 ∀base',CalL X.prog X.w X.K X.mg base' (kL+1) f psL spL->spN base' vs (unt H1 f) Q E0
theorem zif {X:Cx}{k kL:Nat}{x:Str}{p pos:Pos}{e:Expr}{es:List Expr}{t:TA}{q:Str}{params:Arguments}{body:Expr}{scope:Scope}{ps psL fr:List Str}{spN:Heap->Sp}{sc:Scope}
  (hN:∀base',X.K.In base'->base'.Ns mainGlobals X.mg->Cal X.prog X.w X.K X.mg base' k x ps (spN base')) (hr:Room k X.A) (hg:Gl X x) (S:LamScope psL fr scope) (hsc:X.env.scope=sc) (hfr:∀y∈scope.names,y.2=.free->sc.names.lookup y.1=some .cell) (hfn:∀x,X.fn x=true)
  (hbL:∀(clos:List (Str×Addr)) (pm:Value) (c:Addr) (ct:Value),Binds X.K (PySem.W.kla_fn "<lambda>" q params body scope clos pm (.ref c) ct) psL []) (ha:PA X (e::es) t)
  (hdb:(x==("__debug__" :Str))=false:=by decide) (he:starEach (e::es) X.env=(false,eval e X.env)::starEach es X.env:=by rfl) (hpl:(backTo pos (starEach es X.env)).any (·.1)=false:=by rfl):
  PE X (.Call (.Name x p) (e::es) [] pos) (zm2 X kL q params body scope psL fr spN t):=by
 have hfree:∀x,scope.names.lookup x=some .free->X.env.kindOf x=some .cell:=fun x hx=>by show X.env.scope.names.lookup x=_;rw[hsc];exact hfr (x,.free) (PySem.mem_of_lookup hx) rfl
 intro pins s σ H Q I h
 obtain⟨f0,fd0,_,hm,hk,_⟩:=(hN X.base I.mod.kin I.mod.glob).ex
 refine wpAny_Call_Name_kw (zfA I hg hm ?_ hdb)
 refine PySem.W.callWith_K (h₀:=X.base) I.ok.mod.kin hk (thn (ha pos pins s σ H _ I h) fun us s1 z=> ?_) he hpl
 obtain⟨vs,H1,I1,r,f,c,clos,fvs,spL,hf,hc1,hc2,hvl,hvs,hlen,hbody,hsp⟩:=z
 refine⟨I1.kIn, ?_⟩
 obtain⟨⟨pm,ct,hfo⟩,_,_⟩:=I1.hok f _ hf
 have I2:=I1.unt hf
 have E0':=I2.env0
 let base':Heap:=PySem.W.hideAll s1.heap (trk s1.heap (unt H1 f)++frs X.stack)
 have get':∀{b:Addr} {o:Obj},s1.heap.get? b=some o->unt H1 f b=none->b∉frs X.stack->base'.get? b=some o:=fun {b o} e n m=>PySem.W.hideAll_get _ e fun z=>by
  rcases List.mem_append.mp z with z|z
  ·unfold trk at z
   have:=(List.mem_filter.mp z).2
   rw[n] at this
   cases this
  ·exact m z
 have of':∀{b:Addr} {o:Obj},base'.get? b=some o->s1.heap.get? b=some o/\unt H1 f b=none/\b∉frs X.stack:=fun {b o} e=>by
  have e':=PySem.W.of_hideAll _ e
  refine⟨e', ?_,fun z=> ?_⟩
  ·cases q:unt H1 f b with
   |none=>rfl
   |some u=>
    have hm:b∈trk s1.heap (unt H1 f)++frs X.stack:=List.mem_append_left _ (List.mem_filter.mpr ⟨List.mem_range.mpr (Heap.lt_size e'),by rw[q];rfl⟩)
    have e2:base'.get? b=none:=PySem.W.hideAll_none _ hm
    rw[e2] at e
    cases e
  ·have e2:base'.get? b=none:=PySem.W.hideAll_none _ (List.mem_append_right _ z)
   rw[e2] at e
   cases e
 have noFr:∀{b:Addr} {o:Obj},X.base.get? b=some o->b∉frs X.stack:=fun {b o} e z=>by
  have key:∀{l:List Env},s1.heap.FunFrames X.base l->∀a∈frs l,X.base.get? a=none:=fun {l}=>by
   induction l with
   |nil=>intro _ a ha;cases ha
   |cons e l ih=>
    intro hf a ha
    obtain⟨_,⟨L,o,e1,e2,_,_⟩,r⟩:=hf
    have ef:frs (e::l)=L::frs l:=by unfold frs;rw[List.filterMap_cons,e1]
    rw[ef] at ha
    rcases List.mem_cons.mp ha with rfl|ha
    ·exact e2
    ·exact ih r a ha
  rw[key E0'.funs b z] at e
  cases e
 have kb:∀b o,X.base.get? b=some o->base'.get? b=some o:=fun b o e=>get' (E0'.bs b o e).1 (E0'.bs b o e).2 (noFr e)
 have hMod:Mod X.K X.mg base':=by
  obtain⟨mb,h1,h2⟩:=I.mod.blt
  exact⟨I.mod.kin.keeps kb,I.mod.glob.keeps kb,⟨mb,h1.keeps kb,h2⟩,I.mod.nolimit.keeps kb⟩
 have hE:Env0 X.prog X.w X.K X.mg base' X.A X.stack s1 (unt H1 f):=
  ⟨E0'.frames,hMod,fun b o e=>⟨(of' e).1,(of' e).2.1⟩,Nat.le_of_eq (PySem.W.hideAll_size _ _),zdu E0'.funs fun a ha=>PySem.W.hideAll_none _ (List.mem_append_right _ ha),E0'.frf,E0'.hok,E0'.bare⟩
 have hfb:base'.get? f=some (PySem.W.kla_obj "<lambda>" q params body scope clos pm c ct):=get' hfo (if_pos rfl) fun z=>by
  have:=I1.env0.frf f z
  rw[hf] at this
  cases this
 have cellB:∀{x:Str} {a:Addr} {v:Option Value},clos.lookup x=some a->s1.heap.IsCell a v->base'.IsCell a v:=fun {x a v} e hcel=>by
  obtain⟨o,ho,hd⟩:=hcel
  have hX:=hc1 x a e
  refine⟨o,get' ho (zcx (I1.freeC x a hX)) fun z=> ?_,hd⟩
  have hge:X.s₀.heap.objs.size<=a:=I1.ok.cab x a (hfn x) hX
  have stk:a∈frs X.outer∨a=X.env.locals:=by
   rcases I1.ok.stk with q|⟨q,q2⟩
   ·rw[q] at z;exact .inl z
   ·rw [q] at z
    have ef:frs (X.env::X.outer)=X.env.locals::frs X.outer:=by unfold frs;rw[List.filterMap_cons,q2]
    rw[ef] at z
    rcases List.mem_cons.mp z with z|z
    ·exact .inr z
    ·exact .inl z
  rcases stk with z|z
  ·obtain ⟨o',ho'⟩:=zcY I1.ok.funs a z
   exact absurd (Heap.lt_size ho') (Nat.not_lt.mpr hge)
  ·obtain ⟨m,⟨oL,es,ep,hoL,hdL,_⟩,_⟩:=I1.loc
   rw[z] at ho
   rw[ho] at hoL
   cases hoL
   rw[hd] at hdL
   cases hdL
 have FL:=zmk (mg:=X.mg) (K:=X.K) (P:=X.prog) (w:=X.w) (k:=kL) (fvs:=fvs) (sp:=spL) hfb S (fun x hx=> ?hcl) (fun x y a h1 h2=>I1.ok.inj x y a (hc1 x a h1) (hc1 y a h2)) (fun x a h=> ?hcell) (fun i x v h1 h2=> ?hval) hvl hlen (hbody base' hMod.kin hMod.glob)
 case hcl=>
  obtain⟨a,ha⟩:=I1.ok.has x (.inl (hfree x hx))
  exact⟨a,by rw[hc2 (x,.free) (PySem.mem_of_lookup hx) rfl];exact ha⟩
 case hcell=>
  obtain⟨v,hv⟩:=I1.cell x a (hc1 x a h)
  exact⟨v,cellB h hv⟩
 case hval=>
  obtain⟨j,hj1,hj2⟩:=hvs i x v h1 h2
  have hxf:=S.fre x (List.mem_of_getElem? h1)
  have hxk:=hfree x hxf
  obtain⟨m,_,hloc⟩:=I1.loc
  obtain⟨u,rv,lk⟩:=hloc j x v hj1 hj2 (.inr (.inl hxk))
  rcases lk with⟨z,_⟩|⟨_,a,ha,hcel⟩
  ·rw [hxk] at z
   cases z
  ·have hcx:clos.lookup x=some a:=by rw[hc2 (x,.free) (PySem.mem_of_lookup hxf) rfl];exact ha
   exact⟨a,u,hcx,cellB hcx hcel,rv⟩
 have C:=hsp base' ⟨_,_,hfb,rfl,FL,hbL clos pm c ct⟩
 obtain⟨f1,fd,F,hm1,hk1,hb1⟩:=(hN base' hMod.kin hMod.glob).ex
 rw[hm] at hm1
 cases hm1
 have hl:us.length=ps.length:=by rw[<-r.length];exact F.len _ _ _ _ C
 have hbt:=hb1 s1 us I1.kIn (by rw[List.append_nil];exact hl)
 rw[List.append_nil] at hbt
 refine wpAny_call (codeAny_mono (F.run X.A X.stack s1 (unt H1 f) ⟨[]++us,[]⟩ us vs Q E0 hr hE hbt r C) fun r' s' hq=> ?_)
 cases r' with
 |error e=>exact hq.elim
 |ok fl=>
  cases fl with
  |ret u=>exact I2.after hq
  |next=>exact False.elim hq
  |brk=>exact False.elim hq
  |cont=>exact False.elim hq
theorem zig {P:Program}{w:World}{K:PySem.W.Frag}{mg mb:Str->Option Value}{k:Nat}{fa a:Addr}{fd:FuncData}{x:Str}{sp:Sp}{s₁:Shared}{vs:List Value}{ns:List Int}{Ts:List Addr}
  (KX:K.In s₁.heap) (hns:s₁.heap.Ns mainGlobals mg) (hb:s₁.heap.Ns builtinsNs mb) (hbb:∀x:Str,x≠ "__name__" ->mb x=bootBuiltins x) (hlim:s₁.heap.NoLimit) (hg:s₁.gens=#[])
  (ha:s₁.heap.get? a=some {cls:=.type "list",data:=.seq vs.toArray}) (hi:IntsAre vs ns) (hl:ns.length<=sizeLine) (hr:Room k callerA)
  (hT:∀T∈Ts,s₁.heap.get? T=some (PySem.W.tabObj #[])/\isCodeTable s₁.heap T/\K.lookup T=none)
  (hB:∀T∈Ts,s₁.heap.BuiltinsAt mg T)
  (F:∀base:Heap,K.In base->base.Ns mainGlobals mg->(∀T∈Ts,base.BuiltinsAt mg T)->FnOk P w K mg base CX0 k fa fd [x] sp) (hbind:∀(s:Shared) (u:Value),BindsTo s fd ⟨[u],[]⟩ [(x,u)])
  (hsp:∀H:Hp,(∀T∈Ts,H T=some (.tbl #[]))->SqL K H a (ns.map V.int)->sp [.ref a] H (fun v _=>v=.bl true) E0):
  codeAny (model P w) callerA (.call (.ref fa) ⟨[.ref a],[]⟩) (fun r s'=>r=.ok (.ret (.bool true))/\OldK s₁.heap s'.heap/\s'.os=s₁.os/\AllBare s'.gens) s₁:=by
 have rv:=zdj hi
 have lenV:=hi.length
 have naT:∀T∈Ts,T≠a:=fun T hm z=>by
  have:=(hT T hm).1
  rw[z,ha] at this
  cases this
 have core:∀(own:Option HO),(own=none∨own=some (.frz {cls:=.type "list",data:=.seq vs.toArray} (.lst (ns.map V.int))))->(own≠none->K.lookup a=none)->
   SqL K (fun b=>if b=a then own else if b∈Ts then some (.tbl #[]) else none) a (ns.map V.int)->
   codeAny (model P w) callerA (.call (.ref fa) ⟨[.ref a],[]⟩) (fun r s'=>r=.ok (.ret (.bool true))/\OldK s₁.heap s'.heap/\s'.os=s₁.os/\AllBare s'.gens) s₁:=by
  intro own hown hK hS
  generalize hH:(fun b=>if b=a then own else if b∈Ts then some (.tbl #[]) else none:Hp)=H at hS
  have Ha:H a=own:=by rw[<-hH];exact if_pos rfl
  have HT:∀T∈Ts,H T=some (.tbl #[]):=fun T hm=>by
   rw[<-hH]
   show (if T=a then own else if T∈Ts then some (HO.tbl #[]) else none)=_
   rw[if_neg (naT T hm),if_pos hm]
  have Hn:∀b,b≠a->b∉Ts->H b=none:=fun b h1 h2=>by
   rw[<-hH]
   show (if b=a then own else if b∈Ts then some (HO.tbl #[]) else none)=_
   rw[if_neg h1,if_neg h2]
  have hok:HOk P w H s₁.heap:=fun b u e=>by
   by_cases h1:b=a
   ·subst h1
    rw[Ha] at e
    rcases hown with z|z
    ·rw[z] at e;cases e
    ·rw [z] at e
     cases e
     exact⟨ha,by rw[List.length_map];exact hl,vs,_,rv,ha⟩
   ·by_cases h2:b∈Ts
    ·rw [HT b h2] at e
     cases e
     exact (hT b h2).1
    ·rw [Hn b h1 h2] at e
     cases e
  have base_of:∀{b:Addr} {o:Obj},s₁.heap.get? b=some o->H b=none->(hidT s₁.heap H).get? b=some o:=fun e n=>zi7 e n
  have noA:∀{b:Addr} {o:Obj} {es:Array DictEntry} {ep:Nat},s₁.heap.get? b=some o->o.data=.dict es ep->H b=none:=fun {b o es ep} e d=>by
   refine Hn b (fun z=> ?_) (fun z=> ?_)
   ·rw [z,ha] at e
    cases e
    have d':Data.seq vs.toArray _=Data.dict es ep:=d
    cases d'
   ·rw [(hT b z).1] at e
    cases e
    cases d
  have nsK:∀{b:Addr} {m:Str->Option Value},s₁.heap.Ns b m->(hidT s₁.heap H).Ns b m:=fun {b m} ⟨o,es,ep,e,d,r⟩=>⟨o,es,ep,base_of e (noA e d),d,r⟩
  have hKb:K.In (hidT s₁.heap H):=fun b o e=>base_of (KX b o e) (by
   by_cases h1:b=a
   ·rw [h1,Ha]
    rcases hown with z|z
    ·exact z
    ·have:=hK (by rw[z];simp)
     rw[h1,this] at e
     cases e
   ·refine Hn b h1 fun h2=> ?_
    rw[(hT b h2).2.2] at e
    cases e)
  have hBb:∀T∈Ts,(hidT s₁.heap H).BuiltinsAt mg T:=fun T hm=>by
   obtain⟨bm,o,b1,b2,b3,b4,b5,b6,b7,b8⟩:=hB T hm
   refine⟨bm,o,b1,b2,b3,b4,base_of b5 (Hn bm (fun z=> ?_) fun z=> ?_),b6,b7,b8⟩
   ·rw [z,ha] at b5
    cases b5
    cases b8
   ·rw [(hT bm z).1] at b5
    cases b5
    cases b8
  have hM:Mod K mg (hidT s₁.heap H):=⟨hKb,nsK hns,⟨mb,nsK hb,hbb⟩,let ⟨mc,h1,h2⟩:=hlim;⟨mc,nsK h1,h2⟩⟩
  have e0:Env0 P w K mg (hidT s₁.heap H) callerA [] s₁ H:=⟨rfl,hM,fun b o e=>zkL e,Nat.le_of_eq (zhl _ _),trivial,fun b hb=>absurd (show b∈([]:List Addr) from hb) (by simp),hok,.of_eq hg⟩
  refine codeAny_mono ((F _ hKb (nsK hns) hBb).run callerA [] s₁ H ⟨[.ref a],[]⟩ [.ref a] [.ref a] _ _ hr e0 (hbind s₁ (.ref a)) (.cons rfl .nil) (hsp H HT hS)) fun r s' h=> ?_
  cases r with
  |error e=>exact h.elim
  | ok fl=>
   cases fl with
   |next=>exact False.elim h
   |brk=>exact False.elim h
   |cont=>exact False.elim h
   | ret u=>
    obtain⟨v,H',os,bare,un,hok',r',q⟩:=h
    have q':v=.bl true:=q
    subst q'
    obtain rfl:u=Value.bool true:=r'
    have nofs:∀b:Addr,b∉frs ([]:List Env):=fun b z=>absurd (show b∈([]:List Addr) from z) (by simp)
    refine⟨rfl,⟨fun b o e=> ?_,fun b o e=>un.there b o e (by simp)⟩,os,bare⟩
    by_cases h2:b∈Ts
    ·obtain ⟨more,hm⟩:=un.tbls b #[] (HT b h2)
     have g:s'.heap.get? b=some {cls:=.none,data:=.fields (#[]++more)}:=hok' b _ hm
     rw[(hT b h2).1] at e
     cases e
     exact .inr (.inl ⟨(hT b h2).2.1,rfl,#[],more,rfl,g⟩)
    ·refine .inl ?_
     by_cases h1:b=a
     ·rcases hown with z|z
      ·exact un.keep b o e (by rw[h1,Ha];exact z) (nofs b) (by simp)
      ·have hz:H b=some (.frz {cls:=.type "list",data:=.seq vs.toArray} (.lst (ns.map V.int))):=by rw[h1,Ha];exact z
       have z2:=un.frzs b _ _ hz
       obtain⟨e2,_⟩:=hok' b _ z2
       rw[h1,ha] at e
       cases e
       rw[h1] at e2 ⊢
       exact e2
     ·exact un.keep b o e (Hn b h1 h2) (nofs b) (by simp)
 cases hk:K.lookup a with
 |some o=>
  have e:=KX a o hk
  rw[ha] at e
  cases e
  exact core none (.inl rfl) (fun z=>absurd rfl z) (.inr ⟨_,vs.toArray,_,hk,rfl,rfl,rfl,by rw[List.size_toArray,lenV];exact hl,by simpa using rv⟩)
 |none=>exact core _ (.inr rfl) (fun _=>hk) (.inl (.inr ⟨{cls:=.type "list",data:=.seq vs.toArray},if_pos rfl⟩))
theorem zjx {l:PySem.W.OpenLaw}{n k:Nat}{q:Program}{loose:List Str}{XP:(Str->Option Value)->Heap->Prop}{YP:World->Heap->Prop}{d:DefRec}{K:Params->PySem.W.Frag}{sp:World->Sp}{x:Str}{Ts:List Addr}
  (hn:l.most=some n) (hn2:n<=sizeLine) (hdf:d.params.defaults=[]) (hr:Room k callerA)
  (hY:∀(w:World) (h:Heap),YP w h->(K w.params).In h/\∀T∈Ts,h.get? T=some (PySem.W.tabObj #[])/\isCodeTable h T/\(K w.params).lookup T=none)
  (F:∀(w:World) (mg:Str->Option Value) (fa:Addr) (h:Heap),(K w.params).In h->h.Ns mainGlobals mg->mg d.name=some (.ref fa)->
   ∃fd:FuncData,(∀(s:Shared) (u:Value),BindsTo s fd ⟨[u],[]⟩ [(x,u)])/\
    ∀base:Heap,(K w.params).In base->base.Ns mainGlobals mg->(∀T∈Ts,base.BuiltinsAt mg T)->FnOk l.prog w (K w.params) mg base CX0 k fa fd [x] (sp w))
  (hsp:∀(w:World) (H:Hp) (a:Addr) (ns:List Int),ns.length<=n->(∀T∈Ts,H T=some (.tbl #[]))->SqL (K w.params) H a (ns.map V.int)->sp w [.ref a] H (fun v _=>v=.bl true) E0):
  PySem.W.WalkO q loose XP YP l.row.toRowW d [] (fun f vs=>PySem.call f vs):=by
 refine Att.attach_call hn hdf fun w s₀ s₁ mg mb fa o pm cd doc a vs ns G Y ho hd hcd hmg hobj hints hlen hg=> ?_
 obtain⟨KX,hT⟩:=hY w _ Y
 obtain⟨fd,hb,hF⟩:=F w mg fa _ KX G.T.g hmg
 have hB:∀T∈Ts,s₁.heap.BuiltinsAt mg T:=fun T hm=>by
  obtain⟨bm,ob,b1,b2,b3,b4,b5,b6⟩:=G.T.bmain
  refine⟨bm,ob,b1,b2,fun z=> ?_,fun z=> ?_,b3,b4,b5,b6⟩
  ·obtain ⟨o',es,ep,e1,e2,_⟩:=G.T.g
   rw[<-z,b3] at e1
   cases e1
   rw[b6] at e2
   cases e2
  ·rw [z,(hT T hm).1] at b3
   cases b3
   cases b6
 exact zig KX G.T.g G.T.b G.T.builtins G.T.nolimit hg hobj hints (Nat.le_trans hlen hn2) hr hT hB hF hb (fun H hTs hS=>hsp w H a ns hlen hTs hS)
structure Wt (m:Nat) (W:List Int->Int) (L:List Int->List (List Int)):Prop where
 cnt:∀(k:Nat) (b:List Int),k<=m->b∈zaw m [[]] k->W b=((L b).length:Int)
 stp:∀(k:Nat) (b:List Int),k<m->b∈zaw m [[]] k->L b=(zaB m b).flatMap fun x=>L (b++[x])
 fin:∀b:List Int,b∈zaw m [[]] m->L b=[b]∨L b=[]
 pre:∀(k:Nat) (b o:List Int),k<=m->b∈zaw m [[]] k->o∈L b->o.take k=b
theorem zcy {m k:Nat}{b:List Int}(h:b∈zaw m [[]] k){x:Int}(hx:x∈zaB m b):b++[x]∈zaw m [[]] (k+1):=
 List.mem_flatMap.mpr ⟨b,h,List.mem_map.mpr ⟨x,hx,rfl⟩⟩
theorem zaL {m:Nat}:∀{k:Nat} {b:List Int},b∈zaw m [[]] k->b.length=k
 |0,b,h=>by rw[List.mem_singleton.mp h];rfl
 |k+1,b,h=>by
  obtain⟨c,hc,hb⟩:=List.mem_flatMap.mp h
  obtain⟨x,_,rfl⟩:=List.mem_map.mp hb
  rw[List.length_append,zaL hc]
  rfl
theorem zcz {m:Nat}:∀{n:Nat} {o:List Int},o∈zaw m [[]] n->∀k,k<=n->o.take k∈zaw m [[]] k/\(k<n->o.take (k+1)=o.take k++[o.getD k 0]/\o.getD k 0∈zaB m (o.take k))
 |0,o,h,k,hk=>by
  have:k=0:=by lia
  subst this
  rw[List.mem_singleton.mp h]
  exact⟨List.mem_singleton.mpr rfl,fun z=>by lia⟩
 | n +1,o,h,k,hk=>by
  obtain⟨c,hc,hb⟩:=List.mem_flatMap.mp h
  obtain⟨x,hx,rfl⟩:=List.mem_map.mp hb
  have hl:=zaL hc
  have hl2:=zaL h
  have ht:∀j,j<=n->(c++[x]).take j=c.take j:=fun j hj=>List.take_append_of_le_length (by lia)
  by_cases hkn:k<=n
  ·obtain ⟨i1,i2⟩:=zcz hc k hkn
   rw[ht k hkn]
   refine⟨i1,fun _=> ?_⟩
   by_cases e:k=n
   ·subst e
    have eg:(c++[x]).getD k 0=x:=by
     rw[List.getD_eq_getElem?_getD,List.getElem?_append_right (by lia),hl,Nat.sub_self]
     rfl
    rw[eg,List.take_of_length_le (by lia),List.take_of_length_le (by lia)]
    exact⟨rfl,hx⟩
   ·obtain ⟨j1,j2⟩:=i2 (by lia)
    have eg:(c++[x]).getD k 0=c.getD k 0:=by
     rw[List.getD_eq_getElem?_getD,List.getD_eq_getElem?_getD,List.getElem?_append_left (by lia)]
    rw[eg,ht (k+1) (by lia)]
    exact⟨j1,j2⟩
  ·have:k=n+1:=by lia
   subst this
   rw[List.take_of_length_le (by lia)]
   exact⟨h,fun z=>by lia⟩
theorem zfc {m:Nat}{b:List Int}{y:Int}(hy:y∈zaB m b):∃zs,zaB m b=zaB y.toNat b++y::zs/\∀z∈zs,y<z:=by
 obtain⟨h1,h2⟩:=List.mem_filter.mp hy
 obtain⟨j,hj,rfl⟩:=List.mem_map.mp h1
 have hj:=List.mem_range.mp hj
 obtain⟨r,rfl⟩:∃r,m=j+(1+r):=⟨m-j-1,by lia⟩
 have e:num0 (j+(1+r))=num0 j++(j:Int)::(List.range r).map fun i=>((j+(1+i):Nat):Int):=by
  unfold num0
  rw[List.range_add,List.range_add,List.map_append]
  simp
 refine⟨((List.range r).map fun i=>((j+(1+i):Nat):Int)).filter fun x=>decide (x∉b), ?_,fun z hz=> ?_⟩
 ·unfold zaB
  rw[e,List.filter_append,List.filter_cons,if_pos h2,Int.toNat_natCast]
 ·obtain ⟨i,_,rfl⟩:=List.mem_map.mp (List.mem_filter.mp hz).1
  lia
noncomputable def plS (W:List Int->Int)(o:List Int)(p:Nat):Int:=((zaB (o.getD p 0).toNat (o.take p)).map fun x=>W (o.take p++[x])).sum
theorem zkx {m:Nat}{W:List Int->Int}{L:List Int->List (List Int)}(h:Wt m W L){k:Nat}{b:List Int}(hk:k<m)(hb:b∈zaw m [[]] k):∀ys:List Int,(∀y∈ys,y∈zaB m b)->((ys.flatMap fun x=>L (b++[x])).length:Int)=(ys.map fun x=>W (b++[x])).sum
 |[],_=>rfl
 |y::ys,hy=>by
  rw[List.flatMap_cons,List.length_append,List.map_cons,List.sum_cons,<-zkx h hk hb ys fun z hz=>hy z (List.mem_cons_of_mem _ hz),h.cnt (k+1) _ hk (zcy hb (hy y List.mem_cons_self))]
  lia
theorem zgt {m:Nat}{W:List Int->Int}{L:List Int->List (List Int)}(h:Wt m W L){o:List Int}(ho:o∈zaw m [[]] m):∀(j k:Nat),k+j=m->∀a:Nat,(L (o.take k))[a]? =some o->(a:Int)=((List.range j).map fun i=>plS W o (k+i)).sum
 | 0,k,hkj,a,ha=>by
  have hk:k=m:=by lia
  subst hk
  rw[List.take_of_length_le (by rw[zaL ho];exact Nat.le_refl _)] at ha
  have:a=0:=by
   rcases h.fin o ho with e|e
   ·rw [e] at ha
    have:=(List.getElem?_eq_some_iff.mp ha).1
    simpa using this
   ·rw [e] at ha
    cases ha
  subst this
  rfl
 | j +1,k,hkj,a,ha=>by
  have hk:k<m:=by lia
  obtain⟨hb,h2⟩:=zcz ho k (by lia)
  obtain⟨e1,e2⟩:=h2 hk
  obtain⟨zs,ez,hz⟩:=zfc e2
  have hst:=h.stp k _ hk hb
  rw[ez,List.flatMap_append,List.flatMap_cons] at hst
  rw[hst] at ha
  have inY:∀x∈zaB (o.getD k 0).toNat (o.take k),x∈zaB m (o.take k):=fun x hx=>by rw[ez];exact List.mem_append_left _ hx
  have inZ:∀x∈zs,x∈zaB m (o.take k):=fun x hx=>by rw[ez];exact List.mem_append_right _ (List.mem_cons_of_mem _ hx)
  have notx:∀x,x∈zaB m (o.take k)->o∈L (o.take k++[x])->x=o.getD k 0:=fun x hx hm=>by
   have:=h.pre (k+1) _ o hk (zcy hb hx) hm
   rw[e1] at this
   have:=List.append_cancel_left this
   exact (List.cons.inj this).1.symm
  have hlen:=zkx h hk hb _ inY
  have step:∃a':Nat,a=((zaB (o.getD k 0).toNat (o.take k)).flatMap fun x=>L (o.take k++[x])).length+a'/\(L (o.take (k+1)))[a']? =some o:=by
   by_cases c:a<((zaB (o.getD k 0).toNat (o.take k)).flatMap fun x=>L (o.take k++[x])).length
   ·rw [List.getElem?_append_left c] at ha
    obtain⟨x,hx,hm⟩:=List.mem_flatMap.mp (List.mem_of_getElem? ha)
    have ex:=notx x (inY x hx) hm
    obtain⟨g1,_⟩:=List.mem_filter.mp hx
    obtain⟨i,hi,hxi⟩:=List.mem_map.mp g1
    have:=List.mem_range.mp hi
    lia
   ·rw [List.getElem?_append_right (by lia)] at ha
    by_cases c2:a-((zaB (o.getD k 0).toNat (o.take k)).flatMap fun x=>L (o.take k++[x])).length<(L (o.take k++[o.getD k 0])).length
    ·rw [List.getElem?_append_left c2] at ha
     exact⟨a-((zaB (o.getD k 0).toNat (o.take k)).flatMap fun x=>L (o.take k++[x])).length,by lia,by rw[e1];exact ha⟩
    ·rw [List.getElem?_append_right (by lia)] at ha
     obtain⟨x,hx,hm⟩:=List.mem_flatMap.mp (List.mem_of_getElem? ha)
     have ex:=notx x (inZ x hx) hm
     have:=hz x hx
     lia
  obtain⟨a',ea,ha'⟩:=step
  have ih:=zgt h ho j (k+1) (by lia) a' ha'
  rw[List.range_succ_eq_map,List.map_cons,List.sum_cons,List.map_map]
  have e3:((List.range j).map ((fun i=>plS W o (k+i))∘Nat.succ))=(List.range j).map fun i=>plS W o (k+1+i):=List.map_congr_left fun i _=>by
   show plS W o (k+(i+1))=_
   rw[show k+(i+1)=k+1+i by lia]
  rw[e3,<-ih,Nat.add_zero]
  show (a:Int)=((zaB (o.getD k 0).toNat (o.take k)).map fun x=>W (o.take k++[x])).sum+(a':Int)
  rw[<-hlen,ea]
  lia
noncomputable def spWy (m:Nat)(W:List Int->Int)(c:Addr)(q:Str)(G:Hp->Prop):Sp:=fun vs H Q _=>∃(k:Nat) (a:Addr) (b:List Int),vs=[.ref a]/\H a=some (.tup (b.map V.int))/\k<=m/\b∈zaw m [[]] k/\H c=some (cdP c q)/\G H/\∀H',Same H H'->Q (.int (W b)) H'
noncomputable def zei (P:Program)(w:World)(K:PySem.W.Frag)(mg:Str->Option Value)(base:Heap):Sp:=fun vs H Q _=>∃(f c:Addr) (q:Str) (m:Nat) (at_:Int) (W:List Int->Int) (L:List Int->List (List Int)) (G:Hp->Prop),
 vs=[.ref f,.int m,.int at_]/\CalL P w K mg base 8 f ["begun"] (spWy m W c q G)/\(∀H',Same H H'->G H')/\Wt m W L/\m<=24/\0<=at_/\H c=some (cdP c q)/\
 (((L []).length:Int)<=at_->∀H',Same H H'->Q .non H')/\∀(o:List Int) (t:Addr) (H':Hp),(L [])[at_.toNat]? =some o->Same H H'->H' t=some (.tup (o.map V.int))->Q (.ref t) H'
noncomputable def zcA (P:Program)(w:World)(K:PySem.W.Frag)(mg:Str->Option Value)(base:Heap):Sp:=fun vs H Q _=>∃(f c a:Addr) (q:Str) (m:Nat) (o:List Int) (W:List Int->Int) (G:Hp->Prop),
 vs=[.ref f,.ref a]/\CalL P w K mg base 8 f ["begun"] (spWy m W c q G)/\(∀H',Same H H'->G H')/\m<=24/\H a=some (.tup (o.map V.int))/\o∈zaw m [[]] m/\H c=some (cdP c q)/\∀H',Same H H'->Q (.int ((List.range m).map fun i=>plS W o i).sum) H'
noncomputable def zk8 (d:Addr)(H H':Hp):Prop:=∀b o,H b=some o->b≠d->H' b=some o
theorem zih {X:Cx}{k:Nat}{x:Str}{p pos:Pos}{e:Expr}{es:List Expr}{t:TA}{tf:TE}{P:Program}{w:World}{K:PySem.W.Frag}{mg:Str->Option Value}{base:Heap}(hX:X.prog=P/\X.w=w/\X.K=K/\X.mg=mg/\X.base=base)
  (hf:PE X (.Name x p) tf) (hr:Room k X.A) (ha:PA X (e::es) t) (he:starEach (e::es) X.env=(false,eval e X.env)::starEach es X.env:=by rfl)
  (hpl:(backTo pos (starEach es X.env)).any (·.1)=false:=by rfl):PE X (.Call (.Name x p) (e::es) [] pos) (zkv P w K mg base k tf t):=by
 obtain⟨rfl,rfl,rfl,rfl,rfl⟩:=hX
 exact zeh hf hr ha he hpl
theorem zii {J:It}{Ok:Hp->Prop}{xs:List V}{wi2:TI}{tt2:TT}{te:TE}{ix:List Nat}{σ:L2.St}{H1:Hp}{Q:VK}(Y:Yields J Ok xs)(ys:V->List V)(p:V->V->Bool)(R:V×V->V->Hp->Prop)
  (small:(zaF xs ys p).length<sizeLine) (hR:∀xy v H H',SameT H H'->R xy v H->R xy v H') (hok:∀H,Same H1 H->Ok H)
  (hin:∀x∈xs,∀(acc:Addr) H,(∃us,H acc=some (.lst us))->Same H1 H->∀Rr:It->Hp->Prop,(∀J2 Ok2 H',Same H H'->Yields J2 Ok2 (ys x)->(∀G,zk8 acc H' G->Same H1 G->Ok2 G)->Rr J2 H')->wi2 (some x::none::ix.map fun i=>σ.getD i none) H Rr)
  (ht:∀x∈xs,∀y∈ys x,∀H,Same H1 H->∀Q':Bool->Hp->Prop,Q' (p x y) H->tt2 (some x::some y::ix.map fun i=>σ.getD i none) H Q')
  (he:∀x∈xs,∀y∈ys x,p x y=true->∀H,Same H1 H->∀Q':VK,(∀v H',Same H H'->R (x,y) v H'->Q' v H')->te (some x::some y::ix.map fun i=>σ.getD i none) H Q')
  (fin:∀acc vs H',H1 acc=none->Same H1 H'->H' acc=some (.lst vs)->Paired (fun xy v=>R xy v H') (zaF xs ys p) vs->Q (.ref acc) H'):
  LcW2 J H1 (zaU 0) zaG wi2 (zaU 1) tt2 te 2 ix σ Q:=by
 intro acc ha
 refine⟨fun i m H=>m=xs.length-i/\i<=xs.length/\Same H1 H/\∃vs,H acc=some (.lst vs)/\Paired (fun xy v=>R xy v H) (zaF (xs.take i) ys p) vs,⟨xs.length,by simp,Nat.zero_le _,zad ha,[],zab,.nil⟩, ?_⟩
 rintro i m H ⟨rfl,hi,sm,vs,hacc,pr⟩
 have o:=hok _ sm
 by_cases hlt:i<xs.length
 ·refine .inr ⟨Y.go i _ o hlt,fun x H' y=> ?_⟩
  obtain⟨rfl,hx⟩:=Y.yld i _ x H' o hlt y
  have hmem:x∈xs:=List.mem_of_getElem? hx
  have htk:zaF (xs.take (i+1)) ys p=zaF (xs.take i) ys p++((ys x).filter (p x)).map fun y=>(x,y):=by
   unfold zaF
   rw[List.take_succ,hx]
   simp
  have hle:(zaF (xs.take (i+1)) ys p).length<=(zaF xs ys p).length:=by
   have e:zaF xs ys p=zaF (xs.take (i+1)) ys p++zaF (xs.drop (i+1)) ys p:=by
    unfold zaF
    conv=>lhs;rw[<-List.take_append_drop (i+1) xs]
    rw[List.flatMap_append]
   rw[e,List.length_append]
   lia
  refine⟨⟨rfl,fun j v e=> ?_⟩, ?_⟩
  ·cases j with
   |zero=>cases e
   |succ j=>exact e
  ·unfold zaG
   dsimp only
   rw[if_pos rfl]
   refine hin x hmem acc _ ⟨vs,hacc⟩ sm _ fun J2 Ok2 H4 s4 Y2 hok2=> ?_
   refine⟨fun j m2 G=>m2=(ys x).length-j/\j<=(ys x).length/\zk8 acc H4 G/\Same H1 G/\∃us,G acc=some (.lst us)/\Paired (fun xy v=>R xy v G) (zaF (xs.take i) ys p++(((ys x).take j).filter (p x)).map fun y=>(x,y)) us,
    ⟨(ys x).length,by simp,Nat.zero_le _,fun _ _ e _=>e,sm.trans s4,vs,s4 _ _ hacc,by simpa using Paired.mapP pr fun xy v r=>hR xy v _ _ s4.t r⟩, ?_⟩
   rintro j m2 G ⟨rfl,hj,st,sm5,us,hus,pr5⟩
   have o2:=hok2 G st sm5
   by_cases hjl:j<(ys x).length
   ·refine .inr ⟨Y2.go j _ o2 hjl,fun y G' yy=> ?_⟩
    obtain⟨rfl,hy⟩:=Y2.yld j _ y G' o2 hjl yy
    have hymem:y∈ys x:=List.mem_of_getElem? hy
    have htk2:(ys x).take (j+1)=(ys x).take j++[y]:=by rw[List.take_succ,hy];rfl
    refine⟨⟨rfl,fun k v e=> ?_⟩, ?_⟩
    ·cases k with
     |zero=>exact e
     |succ k=>
      cases k with
      |zero=>cases e
      |succ k=>exact e
    ·refine ht x hmem y hymem _ sm5 _ ?_
     cases hp:p x y with
     |false=>
      rw[if_neg Bool.false_ne_true]
      refine⟨(ys x).length-(j+1),by lia,rfl,hjl,st,sm5,us,hus, ?_⟩
      rw[htk2,List.filter_append]
      simpa [hp] using pr5
     | true=>
      rw[if_pos rfl]
      refine he x hmem y hymem hp _ sm5 _ fun v G4 t4 r4=> ?_
      have hus4:G4 acc=some (.lst us):=t4 _ _ hus
      have st6:SameT G4 (upd G4 acc (.lst (us++[v]))):=zbG hus4
      have hlen:us.length<sizeLine:=by
       have e1:=Paired.length pr5
       rw[List.length_append,List.length_map] at e1
       have e2:(((ys x).take j).filter (p x)).length<=((ys x).filter (p x)).length:=by
        conv=>rhs;rw[<-List.take_append_drop j (ys x),List.filter_append,List.length_append]
        lia
       rw[htk,List.length_append,List.length_map] at hle
       lia
      refine⟨us,hus4,hlen,(ys x).length-(j+1),by lia,rfl,hjl,(fun b o e n=>by rw[zaj n];exact t4 _ _ (st b o e n)),zaW (sm5.trans t4) ha,us++[v],zab, ?_⟩
      rw[htk2,List.filter_append,List.map_append,<-List.append_assoc]
      simp only[List.filter_cons,hp,if_true,List.filter_nil,List.map_cons,List.map_nil]
      exact Paired.snoc (Paired.mapP pr5 fun xy v r=>hR xy v _ _ (t4.t.trans st6) r) (hR _ _ _ _ st6 r4)
   ·have e:j=(ys x).length:=by lia
    subst e
    refine .inl ⟨Y2.stop _ o2,xs.length-(i+1),by lia,rfl,hlt,sm5,us,hus, ?_⟩
    rw[List.take_length] at pr5
    rw[htk]
    exact pr5
 ·have e:i=xs.length:=by lia
  subst e
  refine .inl ⟨Y.stop _ o, ?_⟩
  rw[List.take_length] at pr
  exact fin acc vs H ha sm hacc pr
noncomputable def zm3:Expr->Option (Arguments×Scope)
 | .Call _ (.Lambda p _ sc _::_) _ _=>some (p,sc)
 |_=>none
noncomputable def zml (st:Stmt):Option (Arguments×Scope):=match (zaN st).getLast? with
 |some (.Return (some e) _)=>zm3 e
 |_=>none
noncomputable def zej (st:Stmt):Expr:=match (zaN st).getLast? with
 |some (.Return (some (.Call _ (.Lambda _ b _ _::_) _ _)) _)=>b
 |_=>.Name "" ⟨0,0,0,0⟩
noncomputable def zc5 (st:Stmt):Scope:=match zml st with
 |some (_,sc)=>sc
 |none=>zae st
noncomputable def zek (st:Stmt):Arguments:=match zml st with
 |some (p,_)=>p
 |none=>za9 st
structure FunL (K:PySem.W.Frag) (x qual:Str) (st:Stmt) (f:Addr) (fd:FuncData) (c T:Addr):Prop where
 ex:∃(oc:Value) (od:Option Addr) (kV doc pm:Value) (an:Option Addr) (ct:Value) (osl:Array (Option Value)),
  fd=PySem.W.fnOf x qual (za9 st) (zaN st) (zae st) .none kV doc pm an (.ref c) ct/\K.lookup f=some ⟨oc,od,.func fd,osl⟩/\PySem.W.codeIn K (.ref c) qual=true
 kp:PySem.W.keepIn K (.ref f)=true
 cd:∃(od:Option Addr) (vs:Array Value) (osl:Array (Option Value)) (file:Str) (tf:Tok) (flags:Int) (tg:Tok) (inF:Bool) (text:Int) (tt:Tok),
  K.lookup c=some ⟨.type "code",od,.fields vs,osl⟩/\vs[11]? =some (.ref T)/\vs.getD 11 .none=.ref T/\vs.getD 18 .none=.str file tf/\vs.getD 7 .none=.int flags tg/\vs.getD 9 .none=.bool inF/\vs.getD 10 .none=.int text tt/\c≠T
theorem FunL.code {K:PySem.W.Frag}{x qual:Str}{st:Stmt}{f:Addr}{fd:FuncData}{c T:Addr}(F:FunL K x qual st f fd c T):∀h:Heap,K.In h->PySem.W.CodeHd h c T:=fun h hk=>by
 obtain⟨od,vs,osl,file,tf,flags,tg,inF,text,tt,e,r⟩:=F.cd
 exact⟨_,vs,file,tf,flags,tg,inF,text,tt,hk _ _ e,rfl,rfl,r⟩
section
variable {P:Program}{w:World}{K:PySem.W.Frag}{mg:Str->Option Value}{base:Heap}
theorem FunL.ok {x qual:Str}{st:Stmt}{f:Addr}{fd:FuncData}{c T:Addr}{N ps:List Str}{k:Nat}{sp:Sp}(F:FunL K x qual st f fd c T)(S:FnScope N ps (zae st))(len:∀vs H Q E,sp vs H Q E->vs.length=ps.length)
  (hbody:∀(A:Around) (outer:List Env) (s:Shared) (H:Hp) (vs:List V) (Q:VK) (E:XK),Room k (A.deeper (envOfC qual (zae st) s.heap.objs.size f (.ref c)))->sp vs H Q E->
   ∃t,PSs (cxOf CX0 P w K mg base N qual (zae st) f (.ref c) A outer s H E).nox (zaN st) t/\t {nx:=fun _ H'=>Q .non H',rt:=Q} (start N vs) H):FnOk P w K mg base CX0 (k+1) f fd ps sp:=by
 obtain⟨oc,od,kV,doc,pm,an,ct,osl,rfl,lk,hcd⟩:=F.ex
 refine zl0 lk hcd S len fun A outer s H vs Q E hr hsp=> ?_
 obtain⟨t,h,q⟩:=hbody A outer s H vs Q E hr hsp
 exact⟨t,h.nox,q⟩
end
noncomputable def SameB (T:Addr)(H H':Hp):Prop:=∀b o,H b=some o->b≠T->H' b=some o
theorem TbOk.same {H H':Hp}{T:Addr}{q:Str}{ps:Array Value}(h:TbOk H T q ps)(s:Same H H'):TbOk H' T q ps:=⟨s _ _ h.at_,h.tri,fun pos cv e=>by obtain⟨c,h1,h2⟩:=h.hit pos cv e;exact⟨c,h1,s _ _ h2⟩⟩
theorem TbOk.start {H:Hp}{T:Addr}{q:Str}(h:H T=some (.tbl #[])):TbOk H T q #[]:=⟨h,by show TriplesOk [];rw[TriplesOk.eq_1];trivial,fun pos cv e=>by
 rw[codeAmong.eq_2 pos [] (fun _ _ _ _ _ _ z=>by cases z)] at e
 cases e⟩
section
variable {X:Cx}
noncomputable def gIxU:V->V->Hp->VK->Prop:=fun o i H Q=>∃(l:Addr) (xs:List V) (k:Nat) (x:V),o=.ref l/\i=.int k/\H l=some (.lst xs)/\xs[k]? =some x/\Q x H
theorem zcB:PGet X gIxU:=by
 intro pins s σ H o i ov iv Q I ro ri h
 obtain⟨l,xs,k,x,rfl,rfl,hl,hx,q⟩:=h
 cases ro
 obtain⟨t,rfl⟩:=ri
 obtain⟨z,its,n,r,hlen,e⟩:=I.lstM hl
 obtain⟨w,ew,rw'⟩:=r.get hx
 have hk:=(List.getElem?_eq_some_iff.mp ew).1
 have hn:=zdJ
 have hL:s.heap.IsList l its.toArray:=⟨_,e,rfl,_,rfl⟩
 exact wpAny_getItem_list hL (by lia) (by lia) (by simpa using ew) ⟨x,H,I,rw',q⟩
end
noncomputable def rwL (m:Nat)(f:Nat->Int):List Int:=(List.range m).map f
theorem zck (m:Nat)(f:Nat->Int):(rwL m f).length=m:=by unfold rwL;rw[List.length_map,List.length_range]
theorem zij {m:Nat}{f:Nat->Int}{r:Nat}(h:r<m):(rwL m f)[r]? =some (f r):=by
 unfold rwL
 rw[List.getElem?_map,List.getElem?_range h];rfl
theorem zk9 {m:Nat}{f:Nat->Int}{r:Nat}(x:Int)(h:r<m):(rwL m f).set r x=rwL m fun k=>if k=r then x else f k:=by
 apply List.ext_getElem?
 intro i
 rw[List.getElem?_set]
 by_cases hi:i<m
 ·rw [zij hi,zij (f:=fun k=>if k=r then x else f k) hi]
  by_cases e:r=i
  ·subst e
   rw[if_pos rfl,if_pos (by rw[zck];exact h),if_pos rfl]
  ·rw[if_neg e,if_neg (Ne.symm e)]
 ·rw[List.getElem?_eq_none (by rw[zck];lia),if_neg (by lia),List.getElem?_eq_none (by rw[zck];lia)]
theorem zfQ (f:Nat->Int):∀m,(rwL m f).sum=sT f m
 |0=>rfl
 |m+1=>by
  unfold rwL
  rw[List.range_succ,List.map_append,List.sum_append]
  have:=zfQ f m
  unfold rwL at this
  rw[this]
  show sT f m+(f m+0)=sT f m+f m
  lia
theorem zdv {m:Nat}{f g:Nat->Int}(h:∀k,k<m->f k=g k):rwL m f=rwL m g:=List.map_congr_left fun k hk=>h k (List.mem_range.mp hk)
noncomputable def addF (g:Nat->Nat->Int)(s r:Nat)(x:Int):Nat->Nat->Int:=fun s' r'=>if s'=s/\r'=r then g s' r'+x else g s' r'
structure TabAt (H:Hp) (L:Addr) (zs:List Addr) (N m:Nat) (g:Nat->Nat->Int):Prop where
 top:H L=some (.lst (zs.map V.ref))
 len:zs.length=N
 nd:zs.Nodup
 out:L∉zs
 at_:∀(s:Nat) (z:Addr),zs[s]? =some z->H z=some (.lst ((rwL m (g s)).map V.int))
theorem TabAt.same {H H':Hp}{L:Addr}{zs:List Addr}{N m:Nat}{g:Nat->Nat->Int}(h:TabAt H L zs N m g)(s:Same H H'):TabAt H' L zs N m g:=⟨s _ _ h.top,h.len,h.nd,h.out,fun i z e=>s _ _ (h.at_ i z e)⟩
theorem TabAt.congr {H:Hp}{L:Addr}{zs:List Addr}{N m:Nat}{g g':Nat->Nat->Int}(h:TabAt H L zs N m g)(e:∀s r,s<N->r<m->g s r=g' s r):TabAt H L zs N m g':=⟨h.top,h.len,h.nd,h.out,fun i z q=>by
 have hi:=(List.getElem?_eq_some_iff.mp q).1
 rw[<-zdv fun k hk=>e i k (by rw[<-h.len];exact hi) hk]
 exact h.at_ i z q⟩
theorem TabAt.addr {H:Hp}{L:Addr}{zs:List Addr}{N m:Nat}{g:Nat->Nat->Int}(h:TabAt H L zs N m g){s:Nat}(hs:s<N):∃z,zs[s]? =some z/\H z=some (.lst ((rwL m (g s)).map V.int)):=⟨zs[s]'(by rw[h.len];exact hs),List.getElem?_eq_getElem _,h.at_ s _ (List.getElem?_eq_getElem _)⟩
theorem TabAt.put {H:Hp}{L:Addr}{zs:List Addr}{N m:Nat}{g:Nat->Nat->Int}(h:TabAt H L zs N m g){s r:Nat}{z:Addr}(hz:zs[s]? =some z)(hr:r<m)(x:Int):TabAt (upd H z (.lst (((rwL m (g s)).map V.int).set r (.int (g s r+x))))) L zs N m (addF g s r x):=by
 have hzL:z≠L:=fun e=>h.out (e▸List.mem_of_getElem? hz)
 refine⟨by rw[zaj (Ne.symm hzL)];exact h.top,h.len,h.nd,h.out,fun i y hy=> ?_⟩
 by_cases e:i=s
 ·subst e
  rw[hz] at hy
  cases hy
  rw[zab,show (V.int (g i r+x))=V.int (g i r+x) from rfl,<-List.map_set,zk9 _ hr]
  congr 2
  refine congrArg (List.map V.int) (zdv fun k _=> ?_)
  unfold addF
  by_cases c:k=r
  ·subst c
   rw[if_pos rfl,if_pos ⟨rfl,rfl⟩]
  ·rw[if_neg c,if_neg (fun q=>c q.2)]
 ·have hyz:y≠z:=fun q=>by
   obtain⟨h1,e1⟩:=List.getElem?_eq_some_iff.mp hz
   obtain⟨h2,e2⟩:=List.getElem?_eq_some_iff.mp hy
   exact e ((List.getElem_inj h.nd).mp (e2.trans (q.trans e1.symm)))
  rw[zaj hyz,h.at_ i y hy]
  congr 2
  refine congrArg (List.map V.int) (zdv fun k _=> ?_)
  unfold addF
  rw[if_neg (fun q=>e q.1)]
structure RwsAt (H:Hp) (R:Addr) (rs:List Addr) (N:Nat) (rows:List (List Int)):Prop where
 top:H R=some (.tup (rs.map V.ref))
 at_:RowsAt H rs rows
 len:rows.length=N
 pos:0<N
 rng:∀r∈rows,r.length=4/\∀d∈r,0<=d/\d<(N:Int)
theorem RwsAt.same {H H':Hp}{R:Addr}{rs:List Addr}{N:Nat}{rows:List (List Int)}(h:RwsAt H R rs N rows)(s:Same H H'):RwsAt H' R rs N rows:=⟨s _ _ h.top,h.at_.same s,h.len,h.pos,h.rng⟩
theorem RwsAt.row {H:Hp}{R:Addr}{rs:List Addr}{N:Nat}{rows:List (List Int)}(h:RwsAt H R rs N rows){i:Nat}(hi:i<N):∃z,rs[i]? =some z/\H z=some (.tup ((rows.getD i []).map V.int))/\∀m:Int,0<=m->m<4->(rows.getD i [])[m.toNat]? =some (atZr rows i m)/\0<=atZr rows i m/\atZr rows i m<N:=by
 have hl:rs.length=N:=by rw[Paired.length h.at_,h.len]
 have e:rows.getD i []=rows[i]'(by rw[h.len];exact hi):=by rw[List.getD_eq_getElem?_getD,List.getElem?_eq_getElem (by rw[h.len];exact hi)];rfl
 have hz:rs[i]? =some (rs[i]'(by lia)):=List.getElem?_eq_getElem _
 obtain⟨r,hr0,hr2⟩:=h.at_.get hz
 rw[List.getElem?_eq_getElem (by rw[h.len];exact hi)] at hr0
 cases hr0
 obtain⟨q1,q2⟩:=h.rng _ (List.getElem_mem (l:=rows) (n:=i) (by rw[h.len];exact hi))
 refine⟨_,hz,by rw[e];exact hr2,fun m m0 m4=> ?_⟩
 unfold atZr
 rw[e]
 have hm:m.toNat<(rows[i]'(by rw[h.len];exact hi)).length:=by lia
 rw[List.getD_eq_getElem?_getD,List.getElem?_eq_getElem hm]
 exact⟨rfl,q2 _ (List.getElem_mem hm)⟩
noncomputable def zik:Sp:=fun vs H Q _=>∃(R L:Addr) (rs zs:List Addr) (N m:Nat) (rows:List (List Int)) (g:Nat->Nat->Int),vs=[.ref R,.ref L,.int m]/\RwsAt H R rs N rows/\TabAt H L zs N m g/\1<=m/\m<=100/\N<=100/\
 ∀L' zs' H',Same H H'->TabAt H' L' zs' N (m+1) (fun s r=>sT (fun i=>cF rows m g i s r) N)->Q (.ref L') H'
noncomputable def zcZ:Sp:=fun vs H Q _=>∃(z:Addr) (N n:Nat) (rows:List (List Int)) (ends:List Int),vs=[.ref z,.int n]/\IsMach H z N rows ends/\N<=100/\n<=100/\(∀s∈ends,0<=s/\s<(N:Int))/\ends.length<=100/\∀H',Same H H'->Q (.int (metZ rows N ends n)) H'
theorem IsMach.rwsAt {H:Hp}{z:Addr}{N:Nat}{rows:List (List Int)}{ends:List Int}(h:IsMach H z N rows ends):∃R E rs,H z=some (.tup [.ref R,.ref E])/\H E=some (.tup (ends.map V.int))/\RwsAt H R rs N rows:=by
 obtain⟨R,E,rs,h1,h2,h3,h4,h5,h6,h7⟩:=h
 exact⟨R,E,rs,h1,h4,⟨h2,h3,h5,h6,h7⟩⟩
theorem zla (rows:List (List Int))(m:Nat)(g:Nat->Nat->Int)(i s r:Nat):cF rows m g i s r=(if atZr rows i 0=(s:Int) then (if r=0 then sT (g i) m else 0) else 0)+(if atZr rows i 1=(s:Int) then (if 1<=r/\r<m then sT (g i) m-sT (g i) r else 0) else 0)+(if atZr rows i 2=(s:Int) then (if 1<=r/\r<m then sT (g i) r else 0) else 0)+(if atZr rows i 3=(s:Int) then (if r=m then sT (g i) m else 0) else 0):=by
 show (if atZr rows i 0=(s:Int) then stp 0 m (g i) r else 0)+((if atZr rows i 1=(s:Int) then stp 1 m (g i) r else 0)+((if atZr rows i 2=(s:Int) then stp 2 m (g i) r else 0)+((if atZr rows i 3=(s:Int) then stp 3 m (g i) r else 0)+0)))=_
 unfold stp
 simp only[reduceIte,show ¬(1:Int)=0 by decide,show ¬(1:Int)=3 by decide,show ¬(1:Int)=2 by decide,show ¬(2:Int)=0 by decide,show ¬(2:Int)=3 by decide,show ¬(3:Int)=0 by decide]
 lia
theorem zfd {J:It}{Ok:Hp->Prop}{xs:List V}{te:TE}{ix:List Nat}{σ:L2.St}{H1:Hp}{Q:VK}(Y:Yields J Ok xs)(small:xs.length<sizeLine)(f:Nat->List V)(hok:∀H,Same H1 H->Ok H)
  (he:∀(i:Nat) (x:V) (H:Hp),xs[i]? =some x->Same H1 H->∀(QT:VK),(∀(a:Addr) (H':Hp),H a=none->H' a=some (.lst (f i))->Same H H'->QT (.ref a) H')->te (some x::ix.map fun i=>σ.getD i none) H QT)
  (fin:∀acc (zs:List Addr) H',H1 acc=none->Same H1 H'->H' acc=some (.lst (zs.map V.ref))->zs.length=xs.length->zs.Nodup->(∀(i:Nat) (z:Addr),zs[i]? =some z->H' z=some (.lst (f i))/\H1 z=none/\z≠acc)->Q (.ref acc) H'):
  LcW J H1 (zaU 0) zaG te 1 ix σ Q:=by
 intro acc ha
 refine⟨fun i m H=>m=xs.length-i/\i<=xs.length/\Same H1 H/\∃(zs:List Addr),H acc=some (.lst (zs.map V.ref))/\zs.length=i/\zs.Nodup/\∀(j:Nat) (z:Addr),zs[j]? =some z->H z=some (.lst (f j))/\H1 z=none/\z≠acc,⟨xs.length,by simp,Nat.zero_le _,zad ha,[],zab,rfl,List.nodup_nil,fun _ _ h=>by cases h⟩, ?_⟩
 rintro i m H ⟨rfl,hi,kp,zs,hacc,hl,hnd,hD⟩
 have o:=hok _ kp
 by_cases hlt:i<xs.length
 ·refine .inr ⟨Y.go i _ o hlt,fun x H' y=> ?_⟩
  obtain⟨rfl,hx⟩:=Y.yld i _ x H' o hlt y
  refine⟨⟨rfl,fun j v e=> ?_⟩, ?_⟩
  ·cases j with
   |zero=>cases e
   |succ j=>exact e
  ·unfold zaG
   dsimp only
   rw[if_pos rfl]
   refine he i x H' hx kp _ (fun a H4 a0 a4 k4=> ?_)
   have h4:=k4 _ _ hacc
   have haa:a≠acc:=fun e=>by rw[e,hacc] at a0;cases a0
   have hnot:a∉zs:=fun hm=>by
    obtain⟨j,hj⟩:=List.getElem?_of_mem hm
    rw[(hD j a hj).1] at a0
    cases a0
   refine⟨_,h4,by rw[List.length_map];lia,xs.length-(i+1),by lia,rfl,hlt,zaW (kp.trans k4) ha,zs++[a],by rw[zab,List.map_append];rfl,by simp;lia,List.nodup_append.mpr ⟨hnd,by simp,fun u hu c hc e=> ?_⟩,fun j z hj=> ?_⟩
   ·rw [List.mem_singleton] at hc
    subst hc e
    exact hnot hu
   by_cases c:j<zs.length
   ·rw [List.getElem?_append_left c] at hj
    obtain⟨q1,q2,q3⟩:=hD j z hj
    exact⟨by rw[zaj q3];exact k4 _ _ q1,q2,q3⟩
   ·rw [List.getElem?_append_right (by lia)] at hj
    have hj0:j-zs.length=0:=by
     have:=(List.getElem?_eq_some_iff.mp hj).1
     simp at this
     lia
    rw[hj0] at hj
    simp at hj
    subst hj
    have:j=i:=by lia
    subst this
    exact⟨by rw[zaj haa];exact a4,kp.free a0,haa⟩
 ·have e:i=xs.length:=by lia
  subst e
  exact .inl ⟨Y.stop _ o,fin acc zs H ha kp hacc hl hnd hD⟩
structure ZipM (h:Heap) (z TI TO i1 i2 a b:Addr) (i:Nat):Prop where
 z:IsZip h z TI TO .none
 ti:IsPair h TI (.ref i1) (.ref i2)
 to:∃x y,IsPair h TO x y
 one:h.IsTupleIter i1 a i
 two:h.IsListIter i2 b i
theorem zmm {h:Heap}{t j:Addr}{k:Nat}{its:Array Value}{u:Addr}(ht:h.IsList t its)(hj:h.IsTupleIter j u k):t≠j:=fun e=>by
 obtain⟨o,e1,e2,_⟩:=ht
 obtain⟨o',f1,f2,_⟩:=hj
 rw[e,f1] at e1;cases e1;rw[f2] at e2;injection e2 with z2;revert z2;decide
section
variable {prog:Program}{w:World}{A:Around}{E:Value->Shared->Prop}{s:Shared}{z TI TO i1 i2 a b:Addr}{i:Nat}{xs ys:Array Value}
theorem zil {x y:Value}{Q:Option Value->Shared->Prop}(D:ZipNe z TI TO i1 i2)(S:ZipM s.heap z TI TO i1 i2 a b i)(ha:s.heap.IsTuple a xs)(hb:s.heap.IsList b ys)(haz:a≠z/\a≠TO)(hbz:b≠z/\b≠TO)(hx:xs[i]? =some x)(hy:ys[i]? =some y)
  (q:∀h',IsZip h' z TI TO (rawInt s.heap.objs.size)->IsPair h' TI (.ref i1) (.ref i2)->IsPair h' TO x y->h'.IsTupleIter i1 a (i+1)->h'.IsListIter i2 b (i+1)->IsPair h' s.heap.objs.size x y->
   (∀c o,c≠z->c≠TO->c≠i1->c≠i2->s.heap.get? c=some o->h'.get? c=some o)->Q (some (.ref s.heap.objs.size)) {s with heap:=h'}):
  wpAny (model prog w) A (pyNext (.ref z)) Q E s:=by
 obtain⟨hz,hti,⟨p0,p1,hto⟩,h1,h2⟩:=S
 have bi1:=zmm hb h1
 have hT:s.TypeIs (.ref z) "zip" :=⟨_,hz,rfl⟩
 unfold pyNext
 refine wpAny_bind (wpAny_attempt (wpAny_callSpecial?_slot (name:=Str.ofString "__next__") hT F.slot_zip_next (wpAny_call_entry F.slot_zip_next hT F.entry_zip_next ?_ (F.args_zip_next_1 _))))
 show wpAny _ _ (field (.ref z) 2 >>= _) _ _ _
 refine wpAny_bind (wpAny_field hz rfl (x:=.bool false) rfl ?_);show wpAny _ _ (field (.ref z) 3 >>= _) _ _ _
 refine wpAny_bind (wpAny_field hz rfl (x:=.ref TI) rfl (wpAny_bind (wpAny_seqItems hti rfl ?_)))
 show wpAny _ _ (Builtin.SmallTypes.ownedTupleIsFree (.ref z) >>= _) _ _ _
 refine wpAny_bind ?_
 unfold Builtin.SmallTypes.ownedTupleIsFree
 refine wpAny_bind (wpAny_field hz rfl (x:=.none) rfl (wpAny_pure ?_));simp only[if_true]
 refine wpAny_bind (wpAny_rule (wpAny_bind (wpAny_field hz rfl (x:=.ref TO) rfl (wpAny_bind (wpAny_setField_rec hz (by simp) fun g1 k1 s1=> ?_)))))
 replace k1:IsZip g1 z TI TO .ellipsis:=k1
 refine wpAny_bind ?_
 simp only[List.zipIdx_cons,List.zipIdx_nil,List.forIn_cons,List.forIn_nil]
 refine wpAny_bind (wpAny_bind (wpAny_onRaise ?_));show wpAny _ _ (Builtin.SmallTypes.nextOf (.ref i1) >>= _) _ _ _
 refine wpAny_bind (zcI (h1.extBut s1.extBut D.cz) (ha.extBut s1.extBut haz.1) hx fun g2 j2 s2=>wpAny_pure ?_)
 have t2:IsPair g2 TO p0 p1:=s2.extBut _ _ D.bc (s1.extBut _ _ D.bz hto)
 refine wpAny_bind (wpAny_seqItems t2 rfl (wpAny_bind (zcJ t2 fun g3 t3 s3=> ?_)))
 replace t3:IsPair g3 TO x p1:=t3
 refine wpAny_bind (wpAny_letGo (wpAny_pure ?_))
 refine wpAny_bind (wpAny_bind (wpAny_onRaise ?_));show wpAny _ _ (Builtin.SmallTypes.nextOf (.ref i2) >>= _) _ _ _
 have e3:∀c o,c≠z->c≠i1->c≠TO->s.heap.get? c=some o->g3.get? c=some o:=fun c o c1 c2 c3 e=>s3.extBut _ _ c3 (s2.extBut _ _ c2 (s1.extBut _ _ c1 e))
 have h23:g3.IsListIter i2 b i:=let ⟨o,ho,r⟩:=h2;⟨o,e3 _ _ D.dz D.cd.symm D.bd.symm ho,r⟩
 have hb3:g3.IsList b ys:=let ⟨o,ho,r⟩:=hb;⟨o,e3 _ _ hbz.1 bi1 hbz.2 ho,r⟩
 refine wpAny_bind (wpAny_nextOf_list_item h23 hb3 hy fun g4 j4 s4=>wpAny_pure ?_)
 have t4:IsPair g4 TO x p1:=s4.extBut _ _ D.bd t3
 refine wpAny_bind (wpAny_seqItems t4 rfl (wpAny_bind (zcJ t4 fun g5 t5 s5=> ?_)))
 replace t5:IsPair g5 TO x y:=t5
 refine wpAny_bind (wpAny_letGo (wpAny_pure (wpAny_pure ?_)))
 refine wpAny_bind (wpAny_seqItems t5 rfl (wpAny_bind (wpAny_newTuple ?_)))
 have z5:g5.objs.size=s.heap.objs.size:=by rw[s5.1,s4.1,s3.1,s2.1,s1.1]
 have e5:∀c o,c≠z->c≠TO->c≠i1->c≠i2->s.heap.get? c=some o->g5.get? c=some o:=fun c o c1 c2 c3 c4 e=>s5.extBut _ _ c2 (s4.extBut _ _ c4 (e3 c o c1 c3 c2 e))
 have k5:IsZip g5 z TI TO .ellipsis:=s5.extBut _ _ D.bz.symm (s4.extBut _ _ D.dz.symm (s3.extBut _ _ D.bz.symm (s2.extBut _ _ D.cz.symm k1)))
 have m1:g5.IsTupleIter i1 a (i+1):=((j2.extBut s3.extBut D.bc.symm).extBut s4.extBut D.cd).extBut s5.extBut D.bc.symm
 have m2:g5.IsListIter i2 b (i+1):=j4.extBut s5.extBut D.bd.symm
 have zlt:z<g5.objs.size:=Heap.lt_size k5
 show wpAny _ _ (Builtin.SmallTypes.ownedTupleHandOut (.ref z) (.ref g5.objs.size) >>= _) _ _ _
 refine wpAny_bind ?_
 unfold Builtin.SmallTypes.ownedTupleHandOut
 have k6:IsZip (g5.push {cls:=.type "tuple",data:=.seq #[x,y]}) z TI TO .ellipsis:=Heap.get?_push_of_some _ k5
 refine wpAny_bind (wpAny_setField_rec k6 (by simp) fun g7 k7 s7=> ?_)
 replace k7:IsZip g7 z TI TO (rawInt g5.objs.size):=k7
 refine wpAny_setField_rec k7 (by simp) fun g8 k8 s8=> ?_
 replace k8:IsZip g8 z TI TO (rawInt g5.objs.size):=k8
 have up:∀c o,c≠z->g5.get? c=some o->g8.get? c=some o:=fun c o c1 e=>s8.extBut _ _ c1 (s7.extBut _ _ c1 (Heap.get?_push_of_some _ e))
 have t8:IsPair g8 g5.objs.size x y:=s8.extBut _ _ (Nat.ne_of_gt zlt) (s7.extBut _ _ (Nat.ne_of_gt zlt) (Heap.get?_push_size _ rfl))
 rw[z5] at k8 t8
 refine wpAny_pure ⟨_,rfl,wpAny_pure ?_⟩
 show Q (some (.ref g5.objs.size)) _
 rw[z5]
 exact q g8 k8 (up _ _ D.az (e5 _ _ D.az D.ab D.ac D.ad hti)) (up _ _ D.bz t5) (let ⟨o,ho,r⟩:=m1;⟨o,up _ _ D.cz ho,r⟩) (let ⟨o,ho,r⟩:=m2;⟨o,up _ _ D.dz ho,r⟩) t8 fun c o c1 c2 c3 c4 e=>up c o c1 (e5 c o c1 c2 c3 c4 e)
theorem zjy {Q:Option Value->Shared->Prop}(hh:A.in1.handled=none)(D:ZipNe z TI TO i1 i2)(S:ZipM s.heap z TI TO i1 i2 a b i)(ha:s.heap.IsTuple a xs)(hb:s.heap.IsList b ys)(haz:a≠z/\a≠TO)(hbz:b≠z/\b≠TO)(hend:xs[i]? =none∨ys[i]? =none)
  (q:∀h',(∀c o,c≠z->c≠TO->c≠i1->c≠i2->s.heap.get? c=some o->h'.get? c=some o)->Q none {s with heap:=h'}):
  wpAny (model prog w) A (pyNext (.ref z)) Q E s:=by
 obtain⟨hz,hti,⟨p0,p1,hto⟩,h1,h2⟩:=S
 have bi1:=zmm hb h1
 have hT:s.TypeIs (.ref z) "zip" :=⟨_,hz,rfl⟩
 unfold pyNext
 refine wpAny_bind (wpAny_attempt (wpAny_callSpecial?_slot (name:=Str.ofString "__next__") hT F.slot_zip_next (wpAny_call_entry F.slot_zip_next hT F.entry_zip_next ?_ (F.args_zip_next_1 _))))
 show wpAny _ _ (field (.ref z) 2 >>= _) _ _ _
 refine wpAny_bind (wpAny_field hz rfl (x:=.bool false) rfl ?_);show wpAny _ _ (field (.ref z) 3 >>= _) _ _ _
 refine wpAny_bind (wpAny_field hz rfl (x:=.ref TI) rfl (wpAny_bind (wpAny_seqItems hti rfl ?_)))
 show wpAny _ _ (Builtin.SmallTypes.ownedTupleIsFree (.ref z) >>= _) _ _ _
 refine wpAny_bind ?_
 unfold Builtin.SmallTypes.ownedTupleIsFree
 refine wpAny_bind (wpAny_field hz rfl (x:=.none) rfl (wpAny_pure ?_));simp only[if_true]
 refine wpAny_bind (wpAny_rule (wpAny_bind (wpAny_field hz rfl (x:=.ref TO) rfl (wpAny_bind (wpAny_setField_rec hz (by simp) fun g1 k1 s1=> ?_)))))
 replace k1:IsZip g1 z TI TO .ellipsis:=k1
 refine wpAny_bind ?_
 simp only[List.zipIdx_cons,List.zipIdx_nil,List.forIn_cons,List.forIn_nil]
 have fin:∀(g:Heap) (e:Addr),IsZip g z TI TO .ellipsis->(∀c o,c≠z->c≠TO->c≠i1->c≠i2->s.heap.get? c=some o->g.get? c=some o)->(∃o,g.get? e=some o/\o.cls=.type "StopIteration")->
   wpAny (model prog w) A.in1 (setField (.ref z) 0 .none) (fun _ s'=>wpAny (model prog w) A (do if<-isInstance (.ref e) (.type "StopIteration") then pure none else throw (Value.ref e)) Q E s') (fun e' s'=>wpAny (model prog w) A (do if<-isInstance e' (.type "StopIteration") then pure none else throw e') Q E s') {s with heap:=g}:=by
  rintro g e kz kk ⟨oe,f1,f2⟩
  have ez:e≠z:=fun y=>by subst y;rw[kz] at f1;cases f1;injection f2 with z2;revert z2;decide
  refine wpAny_setField_rec kz (by simp) fun g' _ s'=> ?_
  refine wpAny_bind (wpAny_isInstance (T:= "StopIteration") (b:=true) ⟨oe,s'.extBut _ _ ez f1,f2⟩ isSubtype_stop ?_)
  exact wpAny_pure (q g' fun c o c1 c2 c3 c4 y=>s'.extBut _ _ c1 (kk c o c1 c2 c3 c4 y))
 refine wpAny_bind (wpAny_bind (wpAny_onRaise ?_));show wpAny _ _ (Builtin.SmallTypes.nextOf (.ref i1) >>= _) _ _ _
 cases hx:xs[i]? with
 |none=>
  refine wpAny_bind (zeV hh (h1.extBut s1.extBut D.cz) (ha.extBut s1.extBut haz.1) hx fun g2 e s2 he=> ?_)
  exact fin g2 e (s2 _ _ D.cz.symm k1) (fun c o c1 _ c3 _ y=>s2 _ _ c3 (s1.extBut _ _ c1 y)) he
 |some x=>
  have hy:ys[i]? =none:=by rcases hend with h|h;rw[hx] at h;cases h;exact h
  refine wpAny_bind (zcI (h1.extBut s1.extBut D.cz) (ha.extBut s1.extBut haz.1) hx fun g2 j2 s2=>wpAny_pure ?_)
  have t2:IsPair g2 TO p0 p1:=s2.extBut _ _ D.bc (s1.extBut _ _ D.bz hto)
  refine wpAny_bind (wpAny_seqItems t2 rfl (wpAny_bind (zcJ t2 fun g3 t3 s3=> ?_)))
  refine wpAny_bind (wpAny_letGo (wpAny_pure ?_))
  refine wpAny_bind (wpAny_bind (wpAny_onRaise ?_));show wpAny _ _ (Builtin.SmallTypes.nextOf (.ref i2) >>= _) _ _ _
  have e3:∀c o,c≠z->c≠i1->c≠TO->s.heap.get? c=some o->g3.get? c=some o:=fun c o c1 c2 c3 e=>s3.extBut _ _ c3 (s2.extBut _ _ c2 (s1.extBut _ _ c1 e))
  have h23:g3.IsListIter i2 b i:=let ⟨o,ho,r⟩:=h2;⟨o,e3 _ _ D.dz D.cd.symm D.bd.symm ho,r⟩
  have hb3:g3.IsList b ys:=let ⟨o,ho,r⟩:=hb;⟨o,e3 _ _ hbz.1 bi1 hbz.2 ho,r⟩
  refine wpAny_bind (wpAny_nextOf_list_end hh h23 hb3 hy fun g4 e s4 he=> ?_)
  exact fin g4 e (s4 _ _ D.dz.symm (s3.extBut _ _ D.bz.symm (s2.extBut _ _ D.cz.symm k1))) (fun c o c1 c2 c3 c4 y=>s4 _ _ c4 (e3 c o c1 c3 c2 y)) he
noncomputable abbrev zM1 (h:Heap)(l1:Addr):Heap:=h.push {cls:=.type "tuple_iterator",data:=.fields #[.ref l1,.int 0 0]}
noncomputable abbrev zM2 (h:Heap)(l1 l2:Addr):Heap:=(zM1 h l1).push {cls:=.type "list_iterator",data:=.fields #[.ref l2,.int 0 0]}
noncomputable abbrev zM3 (h:Heap)(l1 l2:Addr):Heap:=(zM2 h l1 l2).push {cls:=.type "tuple",data:=.seq #[.ref h.objs.size,.ref (zM1 h l1).objs.size]}
noncomputable abbrev zM4 (h:Heap)(l1 l2:Addr):Heap:=(zM3 h l1 l2).push {cls:=.type "tuple",data:=.seq #[.none,.none]}
noncomputable abbrev zM5 (h:Heap)(l1 l2:Addr):Heap:=(zM4 h l1 l2).push {cls:=.type "zip",data:=.fields #[.none,.bool false,.bool false,.ref (zM2 h l1 l2).objs.size,.ref (zM3 h l1 l2).objs.size]}
theorem zjz (l1 l2:Addr)(xs ys:Array Value):
  Meets (Builtin.«zip.__new__» ⟨[.type "zip",.ref l1,.ref l2],[]⟩) (fun _ R s=>s.heap.IsTuple l1 xs/\s.heap.IsList l2 ys/\R (.ok (.ret (.ref (zM4 s.heap l1 l2).objs.size))) {s with heap:=zM5 s.heap l1 l2}):=
 .of_wp fun prog w A R s h=>by
  obtain⟨hp,g,d,tk,os⟩:=s;obtain⟨hl1,hl2,h⟩:=h
  have hsub:=sub_zip
  have hL1:Heap.IsTuple (Shared.heap ⟨hp,g,d,tk,os⟩) l1 xs:=hl1
  have hL2:Heap.IsList (Shared.heap ⟨hp.push {cls:=.type "tuple_iterator",data:=.fields #[.ref l1,.int 0 0]},g,d,tk,os⟩) l2 ys:=Heap.IsList.push hl2 _
  wp_walk using wpAny_pyIter_tuple hL1,wpAny_pyIter_list hL2
  exact⟨_,rfl,h⟩
theorem zim {l1 l2:Addr}{Q:Value->Shared->Prop}(hl1:s.heap.IsTuple l1 xs)(hl2:s.heap.IsList l2 ys)
  (h:∀h',ZipM h' (s.heap.objs.size+4) (s.heap.objs.size+2) (s.heap.objs.size+3) s.heap.objs.size (s.heap.objs.size+1) l1 l2 0->(∀c o,s.heap.get? c=some o->h'.get? c=some o)->Q (.ref (s.heap.objs.size+4)) {s with heap:=h'}):
  wpAny (model prog w) A (call (.type "zip") [.ref l1,.ref l2]) Q E s:=by
 refine callType_new F.called_zip (by decide) (F.typeCall_zip_2 _ _) (F.newCall_zip_2 _ _) (fun obj=>F.args_object_init_3 obj _ _) F.entry_zip_new (zjz l1 l2 xs ys) ⟨hl1,hl2, ?_⟩
 have z1:(zM1 s.heap l1).objs.size=s.heap.objs.size+1:=Heap.size_push ..
 have z2:(zM2 s.heap l1 l2).objs.size=s.heap.objs.size+2:=by rw[Heap.size_push,z1]
 have z3:(zM3 s.heap l1 l2).objs.size=s.heap.objs.size+3:=by rw[Heap.size_push,z2]
 have z4:(zM4 s.heap l1 l2).objs.size=s.heap.objs.size+4:=by rw[Heap.size_push,z3]
 have p1:∀{g:Heap} {c o u},g.get? c=some o->(g.push u).get? c=some o:=fun e=>Heap.get?_push_of_some _ e
 have g5:(zM5 s.heap l1 l2).get? (zM4 s.heap l1 l2).objs.size=some _:=Heap.get?_push_size _ rfl
 have g4:(zM5 s.heap l1 l2).get? (zM3 s.heap l1 l2).objs.size=some _:=p1 (Heap.get?_push_size _ rfl)
 have g3:(zM5 s.heap l1 l2).get? (zM2 s.heap l1 l2).objs.size=some _:=p1 (p1 (Heap.get?_push_size _ rfl))
 have g2:(zM5 s.heap l1 l2).get? (zM1 s.heap l1).objs.size=some _:=p1 (p1 (p1 (Heap.get?_push_size _ rfl)))
 have g1:(zM5 s.heap l1 l2).get? s.heap.objs.size=some _:=p1 (p1 (p1 (p1 (Heap.get?_push_size _ rfl))))
 show _/\_
 rw[z2,z3,z4] at g5
 rw[z1,z2] at g3
 rw[z3] at g4
 rw[z1] at g2
 rw[z4]
 exact⟨⟨_,g5,rfl⟩,h _ ⟨g5,g3,⟨_,_,g4⟩,⟨_,g1,rfl,rfl⟩,⟨_,g2,rfl,rfl⟩⟩ fun c o x=>p1 (p1 (p1 (p1 (p1 x))))⟩
end
noncomputable def Itm (K:PySem.W.Frag)(a b:Addr):It:=
 ⟨fun i H=>∃xs ys x y,SqT K H a xs/\SqL K H b ys/\xs[i]? =some x/\ys[i]? =some y,fun i H v H'=>∃t x y,H t=none/\v=.ref t/\H'=upd H t (.tup [x,y])/\∀xs ys,SqT K H a xs->SqL K H b ys->xs[i]? =some x/\ys[i]? =some y,
  fun i H=>∃xs ys,SqT K H a xs/\SqL K H b ys/\(xs[i]? =none∨ys[i]? =none)⟩
theorem zfe {z TI TO i1 i2:Addr}{h:Heap}{a b:Addr}{i:Nat}(S:ZipM h z TI TO i1 i2 a b i)(h1:TI≠TO)(h2:i1≠i2):ZipNe z TI TO i1 i2:=by
 obtain⟨hz,hti,⟨p0,p1,hto⟩,⟨o1,e1,c1,d1⟩,⟨o2,e2,c2,d2⟩⟩:=S
 refine⟨fun e=> ?_,fun e=> ?_,fun e=> ?_,fun e=> ?_,h1,fun e=> ?_,fun e=> ?_,fun e=> ?_,fun e=> ?_,h2⟩
 ·have q:=(show h.get? TI=_ from hti);rw[e,show h.get? z=_ from hz] at q;injection q with q;injection q with q1;injection q1 with q2;revert q2;decide
 ·have q:=(show h.get? TO=_ from hto);rw[e,show h.get? z=_ from hz] at q;injection q with q;injection q with q1;injection q1 with q2;revert q2;decide
 ·rw[e,hz] at e1;cases e1;injection c1 with q2;revert q2;decide
 ·rw[e,hz] at e2;cases e2;injection c2 with q2;revert q2;decide
 ·rw[<-e,hti] at e1;cases e1;injection c1 with q2;revert q2;decide
 ·rw[<-e,hti] at e2;cases e2;injection c2 with q2;revert q2;decide
 ·rw[<-e,hto] at e1;cases e1;injection c1 with q2;revert q2;decide
 ·rw[<-e,hto] at e2;cases e2;injection c2 with q2;revert q2;decide
theorem SqL.fpNe {X:Cx}{pins:List (Addr×Obj)}{σ:St}{H:Hp}{s:Shared}{t c:Addr}{zs:List V}(I:Inv X pins σ H s)(hq:SqL X.K H t zs)(f:FpOk X pins H c):t≠c:=by
 rintro rfl
 rcases hq with (h|⟨o,h⟩)|h
 ·rw[f.1] at h;cases h
 ·rw[f.1] at h;cases h
 ·obtain ⟨o,_,_,hl,_⟩:=h
  have e:=I.ok.mod.kin _ _ hl
  rcases f.2.2.2.1 with z|z
  ·exact I.ok.noex _ _ e z
  ·exact absurd (Nat.lt_of_lt_of_le (Heap.lt_size e) (Nat.le_trans I.ok.bsz z)) (Nat.lt_irrefl _)
theorem zin {P:Program}{w:World}{K:PySem.W.Frag}{els:List Expr}{kx}{tp:Pos}(a b z TI TO i1 i2:Addr)(h1:TI≠TO)(h2:i1≠i2):Turn P w K (.Tuple els kx tp) (Itm K a b) [z,TI,TO,i1,i2] z (fun i h=>ZipM h z TI TO i1 i2 a b i) where
 mem:=by simp
 obj:=fun i h st c hc=>by
  obtain⟨hz,hti,⟨p0,p1,hto⟩,⟨o1,e1,c1,d1⟩,⟨o2,e2,c2,d2⟩⟩:=st
  simp only[List.mem_cons,List.not_mem_nil,or_false] at hc
  rcases hc with rfl|rfl|rfl|rfl|rfl
  ·exact⟨_,hz,fun v q=>by cases q⟩
  ·exact⟨_,hti,fun v q=>by cases q⟩
  ·exact⟨_,hto,fun v q=>by cases q⟩
  ·exact⟨_,e1,fun v q=>by rw[d1] at q;cases q⟩
  ·exact⟨_,e2,fun v q=>by rw[d2] at q;cases q⟩
 keep:=fun i h h' st k=>by
  obtain⟨hz,hti,⟨p0,p1,hto⟩,⟨o1,e1,r1⟩,⟨o2,e2,r2⟩⟩:=st
  exact⟨k _ (by simp) _ hz,k _ (by simp) _ hti,⟨p0,p1,k _ (by simp) _ hto⟩,⟨o1,k _ (by simp) _ e1,r1⟩,⟨o2,k _ (by simp) _ e2,r2⟩⟩
 item:=by
  intro X hP hw hK hc i pins s σ H E I hf st hg
  subst hP hw hK
  obtain⟨xs,ys,x,y,hqa,hqb,hx,hy⟩:=hg
  obtain⟨its,rv,p,_⟩:=I.tuple hqa
  obtain⟨jts,rw',p',_⟩:=I.list hqb
  obtain⟨u,hu,ru⟩:=rv.get hx
  obtain⟨v,hv,rvv⟩:=rw'.get hy
  have D:=zfe st h1 h2
  obtain⟨hz,hti,⟨p0,p1,hto⟩,hi1,hi2⟩:=id st
  have apart:∀{t:Addr} {zs:List V},SqT X.K H t zs->t≠z/\t≠TO:=fun hq=>⟨SqT.fpNe I hq (hf z (by simp)),SqT.fpNe I hq (hf TO (by simp))⟩
  have apart':∀{t:Addr} {zs:List V},SqL X.K H t zs->t≠z/\t≠TO:=fun hq=>⟨SqL.fpNe I hq (hf z (by simp)),SqL.fpNe I hq (hf TO (by simp))⟩
  refine zil D st p p'.isList (apart hqa) (apart' hqb) (by simpa using hu) (by simpa using hv) fun g k1 k2 k3 k4 k5 k6 k7=> ?_
  refine⟨_,rfl,wpAny_letOwnedTupleGo_zip k1 fun g2 l1 s2=> ?_⟩
  have hne0:s.heap.objs.size≠z:=Nat.ne_of_gt (Heap.lt_size hz)
  have keep:∀c o,c∉[z,TI,TO,i1,i2]->s.heap.get? c=some o->g2.get? c=some o:=fun c o hc e=>s2.extBut _ _ (fun q=>hc (by simp[q])) (k7 c o (fun q=>hc (by simp[q])) (fun q=>hc (by simp[q])) (fun q=>hc (by simp[q])) (fun q=>hc (by simp[q])) e)
  refine⟨.ref s.heap.objs.size,_,I.turnedT (h':=g2) (t':=s.toks) (xs:=[x,y]) hf keep (.cons ru (.cons rvv .nil)) ⟨_,s2.extBut _ _ hne0 k6,rfl,⟨_,rfl⟩,rfl,rfl⟩ (by show 2<=sizeLine;decide),rfl,
   ⟨_,x,y,I.hok.fresh (Nat.le_refl _),rfl,rfl,fun as bs ha hb=>⟨by rw[I.tuple_inj ha hqa];exact hx,by rw[I.list_inj hb hqb];exact hy⟩⟩,⟨l1,s2.extBut _ _ D.az k2,⟨_,_,s2.extBut _ _ D.bz k3⟩,k4.extBut s2.extBut D.cz,k5.extBut s2.extBut D.dz⟩,fun c hc=> ?_⟩
  have:c<s.heap.objs.size:=by
   obtain⟨o1,e1,_⟩:=hi1
   obtain⟨o2,e2,_⟩:=hi2
   simp only[List.mem_cons,List.not_mem_nil,or_false] at hc
   rcases hc with rfl|rfl|rfl|rfl|rfl
   ·exact Heap.lt_size hz
   ·exact Heap.lt_size hti
   ·exact Heap.lt_size hto
   ·exact Heap.lt_size e1
   ·exact Heap.lt_size e2
  rw[zaj (Nat.ne_of_lt this)]
  exact (hf c hc).1
 done:=by
  intro X hP hw hK hc i pins s σ H E I hf st hg
  subst hP hw hK
  obtain⟨xs,ys,hqa,hqb,hx⟩:=hg
  obtain⟨its,rv,p,_⟩:=I.tuple hqa
  obtain⟨jts,rw',p',_⟩:=I.list hqb
  have D:=zfe st h1 h2
  have apart:∀{t:Addr} {zs:List V},SqT X.K H t zs->t≠z/\t≠TO:=fun hq=>⟨SqT.fpNe I hq (hf z (by simp)),SqT.fpNe I hq (hf TO (by simp))⟩
  have apart':∀{t:Addr} {zs:List V},SqL X.K H t zs->t≠z/\t≠TO:=fun hq=>⟨SqL.fpNe I hq (hf z (by simp)),SqL.fpNe I hq (hf TO (by simp))⟩
  refine zjy (I.ok.hd hc) D st p p'.isList (apart hqa) (apart' hqb) (hx.elim (fun q=>.inl (by simpa using rv.none_of q)) fun q=>.inr (by simpa using rw'.none_of q)) fun g k=>⟨rfl, ?_⟩
  exact I.turnedN (t':=s.toks) hf fun c o hc e=>k c o (fun q=>hc (by simp[q])) (fun q=>hc (by simp[q])) (fun q=>hc (by simp[q])) (fun q=>hc (by simp[q])) e
 self:=fun _ _ _ _ _ st h=>wpAny_pyIter_zip st.z h
section
variable {X:Cx}
noncomputable def zm4 (K:PySem.W.Frag)(ta:TA):TI:=fun σ H R=>ta σ H fun vs H1=>∃a b,vs=[.ref a,.ref b]/\(∃xs,SqT K H1 a xs)/\(∃ys,SqL K H1 b ys)/\R (Itm K a b) H1
theorem zlb {els:List Expr}{kx}{tp:Pos}{l l':Expr}{ta:TA}{p pos:Pos}(hg:Gl X "zip")(hm:X.mg "zip" =none)(ha:PA X [l,l'] ta)(hs:starEach [l,l'] X.env=[(false,eval l X.env),(false,eval l' X.env)]:=by rfl)(hs2:starEach [l'] X.env=[(false,eval l' X.env)]:=by rfl):
  PI X (.Tuple els kx tp) (.Call (.Name "zip" p) [l,l'] [] pos) (zm4 X.K ta):=by
 intro pins s σ H R I h
 refine Call_ (zcT I hg hm boot_zip (PyProof.Rows.callWith_type1 (thn (ha pos pins s σ H _ I h) fun us s1 zq=> ?_) (by rw[hs,hs2]) (by rw[hs2];rfl)))
 obtain⟨vs,H1,I1,r1,q1⟩:=zq
 obtain⟨a,b,rfl,⟨xs,hqa⟩,⟨ys,hqb⟩,q⟩:=q1
 obtain⟨u,v,rfl,ru,rv⟩:=zjb r1
 cases (show u=Value.ref a from ru)
 cases (show v=Value.ref b from rv)
 obtain⟨its,_,p1,_⟩:=I1.tuple hqa
 obtain⟨jts,_,p2,_⟩:=I1.list hqb
 refine zim (show s1.heap.IsTuple a its.toArray from p1) (show s1.heap.IsList b jts.toArray from p2.isList) fun h' S hk=>wpAny_pyIter_zip S.z ?_
 have I2:Inv X pins σ H1 {s1 with heap:=h'}:=I1.kept (t':=s1.toks) hk
 refine⟨_,_,_,_,H1,rfl,I2,zin a b _ _ _ _ _ (Nat.ne_of_lt (Nat.lt_succ_self _)) (Nat.ne_of_lt (Nat.lt_succ_self _)),S,fun c hc=> ?_,q⟩
 have:s1.heap.objs.size<=c:=by
  simp only[List.mem_cons,List.not_mem_nil,or_false] at hc
  rcases hc with rfl|rfl|rfl|rfl|rfl<;>first|exact Nat.le_refl _|exact Nat.le_add_right _ _|exact Nat.le_succ _|exact Nat.le_succ_of_le (Nat.le_add_right _ _)
 exact I1.fpOk this (I1.hok.fresh this)
end
theorem zjA {K:PySem.W.Frag}{a b:Addr}{xs ys:List V}{g:TG}{tb:TS}{D:Ends}{σ:L2.St}{H:Hp}(Pv:Nat->L2.St->Hp->Prop)(h0:Pv 0 σ H)(he:xs.length=ys.length)(hl:∀i σ H,i<=xs.length->Pv i σ H->SqT K H a xs/\SqL K H b ys)
  (hs:∀i x y t σ H,xs[i]? =some x->ys[i]? =some y->Pv i σ H->H t=none->g (.ref t) σ (upd H t (.tup [x,y])) fun σ2 H2=>tb {D with nx:=Pv (i+1),ct:=Pv (i+1),bk:=D.nx} σ2 H2) (hd:∀σ H,Pv xs.length σ H->D.nx σ H):
  ∃W:Nat->Nat->L2.St->Hp->Prop,(∃m,W 0 m σ H)/\∀i m σ H,W i m σ H->
   ((Itm K a b).stop i H/\D.nx σ H)∨((Itm K a b).go i H/\∃N:L2.St->Hp->Prop,(∀σ' H',N σ' H'->∃m',m'<m/\W (i+1) m' σ' H')/\∀x H',(Itm K a b).yld i H x H'->g x σ H' fun σ2 H2=>tb {D with nx:=N,ct:=N,bk:=D.nx} σ2 H2):=by
 refine⟨fun i m σ H=>m=xs.length-i/\i<=xs.length/\Pv i σ H,⟨xs.length,by simp,Nat.zero_le _,h0⟩, ?_⟩
 rintro i m σ H ⟨rfl,hi,p⟩
 obtain⟨q1,q2⟩:=hl i σ H hi p
 by_cases hlt:i<xs.length
 ·refine .inr ⟨⟨xs,ys,xs[i],ys[i],q1,q2,by simp[hlt],by simp[<-he,hlt]⟩,Pv (i+1),fun σ' H' p'=>⟨xs.length-(i+1),by lia,rfl,hlt,p'⟩,fun x H' y=> ?_⟩
  obtain⟨t,x',y',ht,rfl,rfl,y⟩:=y
  obtain⟨e1,e2⟩:=y xs ys q1 q2
  exact hs i x' y' t σ _ e1 e2 p ht
 ·have e:i=xs.length:=by lia
  subst e
  exact .inl ⟨⟨xs,ys,q1,q2,.inl (by simp)⟩,hd σ H p⟩
theorem zgu {K:PySem.W.Frag}{J:It}{Ok:Hp->Prop}{xs:List V}{te:TE}{ix:List Nat}{σ:L2.St}{H1:Hp}{Q:VK}(Y:Yields J Ok xs)(small:xs.length<sizeLine)(R:V->V->Hp->Prop)(hR:∀x v H H',SameT H H'->R x v H->R x v H')(hok:∀H,Same H1 H->Ok H)
  (hp:∀x∈xs,∃(a:Addr) (u v:V),x=.ref a/\H1 a=some (.tup [u,v]))
  (he:∀x∈xs,∀(a:Addr) (u v:V),x=.ref a->H1 a=some (.tup [u,v])->∀H,Same H1 H->∀Q':VK,(∀w H',Same H H'->R x w H'->Q' w H')->te (some u::some v::ix.map fun i=>σ.getD i none) H Q')
  (fin:∀acc ys H',H1 acc=none->Same H1 H'->H' acc=some (.lst ys)->Paired (fun x v=>R x v H') xs ys->Q (.ref acc) H'):
  LcW J H1 (gTup K 2 (zce (zaU 0) (zce (zaU 1) gNil))) zaG te 2 ix σ Q:=by
 intro acc ha
 refine⟨fun i m H=>m=xs.length-i/\i<=xs.length/\Same H1 H/\∃ys,H acc=some (.lst ys)/\Paired (fun x v=>R x v H) (xs.take i) ys,⟨xs.length,by simp,Nat.zero_le _,zad ha,[],zab,.nil⟩, ?_⟩
 rintro i m H ⟨rfl,hi,sm,ys,hacc,pr⟩
 have o:=hok _ sm
 have hlen:ys.length=i:=by rw[<-Paired.length pr,List.length_take];lia
 by_cases hlt:i<xs.length
 ·refine .inr ⟨Y.go i _ o hlt,fun x H' y=> ?_⟩
  obtain⟨rfl,hx⟩:=Y.yld i _ x H' o hlt y
  have hmem:x∈xs:=List.mem_of_getElem? hx
  have htk:xs.take (i+1)=xs.take i++[x]:=by
   rw[List.take_succ,hx];rfl
  obtain⟨a,u,v,rfl,hav⟩:=hp x hmem
  refine⟨a,_,rfl,SqT.of (sm _ _ hav),rfl,u,_,rfl,v,_,rfl,rfl,⟨rfl,fun j v e=> ?_⟩, ?_⟩
  ·match j,e with
   |0,e=>cases e
   |1,e=>cases e
   |j+2,e=>exact e
  ·unfold zaG
   dsimp only
   rw[if_pos rfl]
   refine he _ hmem a u v rfl hav _ sm _ fun w H4 s4 r4=> ?_
   have h4:H4 acc=some (.lst ys):=s4 _ _ hacc
   refine⟨ys,h4,by lia,xs.length-(i+1),by lia,rfl,hlt,zaW (sm.trans s4) ha,ys++[w],zab, ?_⟩
   rw[htk]
   have st:SameT H4 (upd H4 acc (.lst (ys++[w]))):=zbG h4
   exact Paired.snoc (Paired.mapP pr fun x' v' r'=>hR _ _ _ _ (s4.t.trans st) r') (hR _ _ _ _ st r4)
 ·have e:i=xs.length:=by lia
  subst e
  refine .inl ⟨Y.stop _ o, ?_⟩
  rw[List.take_length] at pr
  exact fin acc ys H ha sm hacc pr
theorem zjB {K:PySem.W.Frag}{a:Addr}{xs:List V}{tt:TT}{te:TE}{ix:List Nat}{σ:L2.St}{H1:Hp}{Q:VK}(Fx:∀{H},Same H1 H->SqL K H a xs)(small:xs.length<=1000)(p:Nat->V->Bool)(f:Nat->V->V)
  (hp:∀x∈xs,∃(b:Addr) (u v:V),x=.ref b/\H1 b=some (.tup [u,v]))
  (ht:∀(i:Nat) x (b:Addr) (u v:V),xs[i]? =some x->x=.ref b->H1 b=some (.tup [u,v])->∀H,Same H1 H->∀Q':Bool->Hp->Prop,Q' (p i x) H->tt (some (.int i)::some u::some v::ix.map fun i=>σ.getD i none) H Q')
  (he:∀(i:Nat) x (b:Addr) (u v:V),xs[i]? =some x->x=.ref b->H1 b=some (.tup [u,v])->p i x=true->∀H,Same H1 H->∀Q':VK,Q' (f i x) H->te (some (.int i)::some u::some v::ix.map fun i=>σ.getD i none) H Q')
  (fin:∀acc H',H1 acc=none->Same H1 H'->H' acc=some (.lst (enF p f 0 xs))->Q (.ref acc) H'):
  LcW (Itel K a) H1 (gTup K 2 (zce (zaU 0) (zce (gTup K 2 (zce (zaU 1) (zce (zaU 2) gNil))) gNil))) tt te 3 ix σ Q:=by
 intro acc ha
 refine⟨fun i m H=>m=xs.length-i/\i<=xs.length/\Same H1 H/\H acc=some (.lst (enF p f 0 (xs.take i))),⟨xs.length,by simp,Nat.zero_le _,zad ha,zab⟩, ?_⟩
 rintro i m H ⟨rfl,hi,sm,hacc⟩
 by_cases hlt:i<xs.length
 ·refine .inr ⟨⟨xs,xs[i],Fx sm,List.getElem?_eq_getElem hlt⟩,fun v H' y=> ?_⟩
  obtain⟨t,x,hn,rfl,rfl,hv⟩:=y
  have e1:=hv xs (Fx sm)
  obtain⟨b,u,v,rfl,hb⟩:=hp x (List.mem_of_getElem? e1)
  have htk:enF p f 0 (xs.take (i+1))=enF p f 0 (xs.take i)++(if p i (.ref b) then [f i (.ref b)] else []):=by
   have hl:(xs.take i).length=i:=by rw[List.length_take];lia
   rw[List.take_succ,e1,zdM,hl]
   simp[enF]
  have sm2:=sm.trans (zad (o:=.tup [.int i,.ref b]) hn)
  refine⟨t,_,rfl,SqT.of zab,rfl,_,_,rfl,.ref b,_,rfl,b,_,rfl,SqT.of (sm2 _ _ hb),rfl,u,_,rfl,v,_,rfl,rfl,rfl,⟨rfl,fun j v e=> ?_⟩, ?_⟩
  ·match j,e with
   |0,e=>cases e
   |1,e=>cases e
   |2,e=>cases e
   |j+3,e=>exact e
  ·have hacc2:(upd H t (.tup [.int i,.ref b])) acc=some (.lst (enF p f 0 (xs.take i))):=zad hn _ _ hacc
   refine ht i _ b u v e1 rfl hb _ sm2 _ ?_
   cases hq:p i (.ref b) with
   |false=>
    rw[if_neg Bool.false_ne_true]
    refine⟨xs.length-(i+1),by lia,rfl,hlt,sm2, ?_⟩
    rw[htk,hq,if_neg Bool.false_ne_true,List.append_nil]
    exact hacc2
   |true=>
    rw[if_pos rfl]
    refine he i _ b u v e1 rfl hb hq _ sm2 _ ⟨_,hacc2,zaS (Nat.le_trans (zhO _ _ _ _) (by rw[List.length_take];lia)),xs.length-(i+1),by lia,rfl,hlt,zaW sm2 ha, ?_⟩
    rw[zab,htk,hq,if_pos rfl]
 ·have e:i=xs.length:=by lia
  subst e
  rw[List.take_length] at hacc
  exact .inl ⟨⟨xs,Fx sm,rfl⟩,fin acc H ha sm hacc⟩
theorem zjC {X:Cx}(K:PySem.W.Frag){i j l:Nat}{x y z:Str}{px py pz pt pt2:Pos}{kt kt2:Nat}(hK:X.K=K)(hc:X.calm=true)(hN:X.N.Nodup)(hi:X.N[i]? =some x)(hj:X.N[j]? =some y)(hl:X.N[l]? =some z)(hx:Loc X.env.scope x)(hy:Loc X.env.scope y)(hz:Loc X.env.scope z)
  (fx:X.fn x=true∨X.env.scope.names.lookup x=some .local) (fy:X.fn y=true∨X.env.scope.names.lookup y=some .local) (fz:X.fn z=true∨X.env.scope.names.lookup z=some .local):
  PG X (.Tuple [.Name x px,.Tuple [.Name y py,.Name z pz] kt2 pt2] kt pt) (gTup K 2 (zce (zaU i) (zce (gTup K 2 (zce (zaU j) (zce (zaU l) gNil))) gNil))):=
 hK▸zdc hc (zaA (zah hN hi hx fx) (zaA (zdc hc (zaA (zah hN hj hy fy) (zaA (zah hN hl hz fz) zbU))) zbU))
structure CodeV (vs:Array Value) (c T:Addr):Prop where
 ex:∃(file:Str) (tf:Tok) (flags:Int) (tg:Tok) (inF:Bool) (text:Int) (tt:Tok),
  vs[11]? =some (.ref T)/\vs.getD 11 .none=.ref T/\vs.getD 18 .none=.str file tf/\vs.getD 7 .none=.int flags tg/\vs.getD 9 .none=.bool inF/\vs.getD 10 .none=.int text tt/\c≠T
structure DefL (K:PySem.W.Frag) (x:Str) (st:Stmt) (c T:Addr):Prop where
 ex:∃(f:Addr) (oc:Value) (od an:Option Addr) (kV doc pm ct:Value) (osl:Array (Option Value)),PySem.W.nsIn K mainGlobals x=some (some (.ref f))/\
  K.lookup f=some ⟨oc,od,.func (PySem.W.fnOf x x (za9 st) (zaN st) (zae st) .none kV doc pm an (.ref c) ct),osl⟩/\PySem.W.codeIn K (.ref c) x=true/\PySem.W.keepIn K (.ref f)=true
 cd:∃(od:Option Addr) (vs:Array Value) (osl:Array (Option Value)),K.lookup c=some ⟨.type "code",od,.fields vs,osl⟩/\CodeV vs c T
section
variable {K:PySem.W.Frag}{h:Heap}{mg:Str->Option Value}{x:Str}{st:Stmt}{c T:Addr}
theorem DefL.of {f:Addr}{oc:Value}{od an:Option Addr}{kV doc pm ct:Value}{osl:Array (Option Value)}{od2:Option Addr}{vs:Array Value}{osl2:Array (Option Value)}(a:PySem.W.nsIn K mainGlobals x=some (some (.ref f)))
  (l:K.lookup f=some ⟨oc,od,.func (PySem.W.fnOf x x (za9 st) (zaN st) (zae st) .none kV doc pm an (.ref c) ct),osl⟩) (c1:PySem.W.codeIn K (.ref c) x=true) (k:PySem.W.keepIn K (.ref f)=true)
  (l2:K.lookup c=some ⟨.type "code",od2,.fields vs,osl2⟩) (v:CodeV vs c T):DefL K x st c T:=
 ⟨⟨f,oc,od,an,kV,doc,pm,ct,osl,a,l,c1,k⟩,od2,vs,osl2,l2,v⟩
theorem DefL.fn (D:DefL K x st c T)(X:K.In h)(G:h.Ns mainGlobals mg):∃f fd,FunL K x x st f fd c T/\Fun K x x st f fd/\mg x=some (.ref f):=by
 obtain⟨f,oc,od,an,kV,doc,pm,ct,osl,a,l,c1,k⟩:=D.ex
 obtain⟨od2,vs,osl2,l2,⟨file,tf,flags,tg,inF,text,tt,v⟩⟩:=D.cd
 exact⟨f,_,⟨⟨oc,od,kV,doc,pm,an,ct,osl,rfl,l,c1⟩,k,⟨od2,vs,osl2,file,tf,flags,tg,inF,text,tt,l2,v⟩⟩,zkj (st:=st) l c1 k,PySem.W.mg_of X G a⟩
theorem DefL.tab {h':Heap}(D:DefL K x st c T)(X:K.In h'):isCodeTable h' T:=by
 obtain⟨od2,vs,osl2,l2,⟨file,tf,flags,tg,inF,text,tt,v⟩⟩:=D.cd
 exact⟨c,_,vs,X _ _ l2,rfl,rfl,v.1⟩
end
end L2
namespace K52
open L2
noncomputable def top (i:Nat):Stmt:=PySem.Challenge.pw_shuffletold_k52_told_machines_again.main.body.getD i (.Pass ⟨0,0,0,0⟩)
noncomputable abbrev zcO:Stmt:=top 24
noncomputable abbrev zcl:Stmt:=top 25
section
variable {P:Program}{w:World}{K:PySem.W.Frag}{mg:Str->Option Value}{base:Heap}
theorem sc__law_urn:FnScope ["_law_script", "_law_digits", "_law_weight", "_law_mixed", "_law_k", "_law_cell"] ["_law_script"] (zae zcO):=⟨rfl,rfl,rfl,by decide+kernel,rfl,by decide+kernel,by decide+kernel⟩
theorem zfR {f:Addr}{fd:FuncData}(F:Fun K "_law_urn" "_law_urn" zcO f fd)(T:Top mg):FnOk P w K mg base CX0 1 f fd ["_law_script"] (zjm K):=by
 refine F.ok sc__law_urn (fun vs H Q E h=> ?_) (fun cdv A outer s H vs Q E hr h=> ?_)
 ·obtain ⟨a,ns,rfl,_⟩:=h
  rfl
 ·obtain ⟨a,ns,rfl,hS,k⟩:=h
  refine⟨_,(zaf (zca (za7 (zaa zag (zaa zag (zaa zag zac)))) (zdc rfl (zaA (zah (i:=1) sc__law_urn.nd rfl (Or.inl rfl) (Or.inl rfl)) (zaA (zah (i:=2) sc__law_urn.nd rfl (Or.inl rfl) (Or.inl rfl)) (zaA (zah (i:=3) sc__law_urn.nd rfl (Or.inl rfl) (Or.inl rfl)) zbU)))))
   (zaf (zby PassesOwn.never rfl (zd8 rfl T.n_enumerate (zaa (zct zkW (pv 0) zdd (zde zag)) zac)) (zbW (i:=4) (j:=5) rfl sc__law_urn.nd rfl rfl (Or.inl rfl) (Or.inl rfl) (Or.inl rfl) (Or.inl rfl))
    (zaf (zau (i:=3) sc__law_urn.nd rfl (Or.inl rfl) (zap zcU (zap zeL (zap za2 (zap za2 (zap za2 (zap zeK (pv 3) zag) (zap zcU (pv 5) zag)) (zap zeK zag (pv 4))) zag) zag) zag))
    (zai (zbK (zar zlX (zam zgc (by rfl) T.n_abs boot_abs (zaa (pv 5) zac)) (zap zeL zag zag) (zaH _))
     (zaf (zau (i:=1) sc__law_urn.nd rfl (Or.inl rfl) (zap za2 (pv 1) (zap zhQ (zap zcU (zam zgc (by rfl) T.n_abs boot_abs (zaa (pv 5) zac)) (zap zeL zag zag)) (pv 2))))
     (zai (zau (i:=2) sc__law_urn.nd rfl (Or.inl rfl) (zap zhQ (pv 2) (zap zeL zag zag)))))
     zbd))))
   (zai (zaz (zbD (zaa (pv 1) (zaa (pv 3) (zaa zag zac)))))))), ?_⟩
  refine⟨by show 3<=sizeLine;decide,fun t0 ht0=>⟨t0,_,rfl,SqT.of zab,rfl,_,_,rfl,_,_,rfl,_,_,rfl,rfl, ?_⟩⟩
  have s0:=zad (o:=.tup [.int 0,.int 1,.int 5]) ht0
  refine⟨_,rfl,63,rfl,a,_,rfl,s0.seq hS,fun l hl=>⟨l,rfl,⟨_,SqL.of zab⟩, ?_⟩⟩
  have s1:=zad (o:=.lst (cutV (ns.map V.int) none (some 63))) hl
  have ecut:cutV (ns.map V.int) none (some 63)=(ns.take 63).map V.int:=zdN ns 63
  have Ft:(0:Int)<(10:Int)^(60:Int).toNat:=by decide
  refine zeY (K:=K) (xs:=(ns.take 63).map V.int) (fun i σ G=>∃(dg mx:Int) (j:Nat) (c4 c5:Option V),σ=[some (.ref a),some (.int dg),some (.int (((10:Int)^(60:Int).toNat)^j)),some (.int mx),c4,c5]/\Same H G/\G l=some (.lst ((ns.take 63).map V.int))/\0<=dg/\0<=mx/\mx<2305843009213693951/\j<=i) ?_ ?_ ?_ ?_
  ·exact⟨0,5,0,none,none,by rw[Int.pow_zero];rfl,s0.trans s1,by rw[zab,ecut],by decide,by decide,by decide,Nat.le_refl _⟩
  ·rintro i σ G _ ⟨dg,mx,j,c4,c5,rfl,_,hG,_⟩
   exact SqL.of hG
  ·rintro i x t σ G hx ⟨dg,mx,j,c4,c5,rfl,sm,hG,d0,m0,m1,hj⟩ ht'
   obtain⟨hi,rfl⟩:=zgl hx
   have hi63:i<63:=by rw[List.length_take] at hi;lia
   generalize (ns.take 63).getD i 0=c
   have st:=zad (o:=.tup [.int (i:Int),.int c]) ht'
   have r0:=Int.emod_nonneg c (by decide:(2305843009213693951:Int)≠0)
   have r1:=Int.emod_lt_of_pos c (by decide:(0:Int)<2305843009213693951)
   refine⟨t,_,rfl,SqT.of zab,rfl,_,_,rfl,_,_,rfl,rfl, ?_⟩
   refine⟨_,rfl,_,_,rfl,rfl,.inr ⟨by decide,by decide⟩,_,rfl,_,_,rfl,rfl,(by show (0:Int)<2305843009213693951;decide),_,_,rfl,rfl,_,rfl,_,_,rfl,rfl,.inl ⟨by decide,by decide⟩,_,_,rfl,rfl,_,_,rfl,rfl,_,_,rfl,rfl,⟨by decide,by decide, ?_⟩,_,_,rfl,rfl,(by show (0:Int)<2305843009213693951;decide), ?_⟩
   ·generalize c%2305843009213693951=r at*
    lia
   have q0:=Int.emod_nonneg ((mx*3+c%2305843009213693951+97*(i:Int)+1)^(3:Int).toNat) (by decide:(2305843009213693951:Int)≠0)
   have q1:=Int.emod_lt_of_pos ((mx*3+c%2305843009213693951+97*(i:Int)+1)^(3:Int).toNat) (by decide:(0:Int)<2305843009213693951)
   refine⟨_,rfl,c,rfl,_,_,rfl,rfl,⟨by decide,by decide,by decide⟩,_,_,rfl,rfl,_,rfl, ?_⟩
   refine ite2 (fun _=> ?_) (fun _=> ?_)
   ·refine ⟨_,rfl,_,rfl,c,rfl,_,_,rfl,rfl,⟨by decide,by decide,by decide⟩,_,_,rfl,rfl,Ft,_,rfl,_,_,rfl,rfl,zjn _ j (by lia),_,_,rfl,rfl, ?_⟩
    refine⟨_,rfl,_,_,rfl,rfl,⟨by decide,by decide,by decide⟩,_,_,rfl,rfl,zk0 j (by lia), ?_⟩
    refine⟨dg+(if c<0 then-c else c)%(10:Int)^(60:Int).toNat*((10:Int)^(60:Int).toNat)^j,_,j+1,some (.int (i:Int)),some (.int c), ?_,sm.trans st,st _ _ hG, ?_,q0,q1,by lia⟩
    ·rw [Int.pow_succ]
     rfl
    ·exact Int.add_nonneg d0 (Int.mul_nonneg (Int.emod_nonneg _ (Int.ne_of_gt Ft)) (Int.le_of_lt (Int.pow_pos Ft)))
   ·exact⟨_,_,j,_,_,rfl,sm.trans st,st _ _ hG,d0,q0,q1,by lia⟩
  ·rintro σ G ⟨dg,mx,j,c4,c5,rfl,sm,hG,d0,m0,m1,hj⟩
   refine⟨_,rfl,_,rfl,by show 3<=sizeLine;decide,fun p hp=> ?_⟩
   exact k p _ (sm.trans (zad hp)) ⟨_,_,_,zab,d0,m0,by lia,Int.le_refl _,Int.le_refl _⟩ (sm.free hp)
theorem sc__law_take:FnScope ["_law_urn_here", "_law_many", "_law_digit"] ["_law_urn_here", "_law_many"] (zae zcl):=⟨rfl,rfl,rfl,by decide+kernel,rfl,by decide+kernel,by decide+kernel⟩
theorem zff {f:Addr}{fd:FuncData}(F:Fun K "_law_take" "_law_take" zcl f fd):FnOk P w K mg base CX0 1 f fd ["_law_urn_here", "_law_many"] zdp:=by
 refine F.ok sc__law_take (fun vs H Q E h=> ?_) (fun cdv A outer s H vs Q E hr h=> ?_)
 ·obtain ⟨p,m,n,rfl,_⟩:=h
  rfl
 ·obtain ⟨p,m,n,rfl,hm0,hm1,⟨own,seed,turn,hp,o0,s0,s1,t0,t1⟩,hn,k⟩:=h
  refine⟨_,(zaf (zbK (zar zfC (zaT zbe (pv 0) zag (fun _ _=>rfl)) zag (zaH _))
    (zaf (zau (i:=2) sc__law_take.nd rfl (Or.inl rfl) (zap zcU (zaT zbe (pv 0) zag (fun _ _=>rfl)) (pv 1)))
    (zaf (zca (zap zjk (zaT zbe (pv 0) zag (fun _ _=>rfl)) (pv 1)) (zhq (pv 0) zag zbM))
    (zai (zaz (pv 2)))))
    zbd)
   (zaf (zca (zap za2 (zaT zbe (pv 0) zag (fun _ _=>rfl)) zag) (zhq (pv 0) zag zbM))
   (zaf (zca (zap zcU (zap zeL (zap za2 (zaT zbe (pv 0) zag (fun _ _=>rfl)) (zap zeK zag (zaT zbe (pv 0) zag (fun _ _=>rfl)))) zag) zag) (zhq (pv 0) zag zbM))
   (zai (zaz (zap zcU (zap zkR (zaT zbe (pv 0) zag (fun _ _=>rfl)) zag) (pv 1))))))), ?_⟩
  refine⟨_,rfl,p,_,0,_,rfl,rfl,SqL.of hp,zav (j:=0) rfl,_,_,rfl,rfl,_,rfl, ?_⟩
  refine ite2 (fun _=> ?_) (fun _=> ?_)
  ·refine ⟨_,rfl,p,_,0,_,rfl,rfl,SqL.of hp,zav (j:=0) rfl,_,rfl,_,_,rfl,rfl,hm0, ?_⟩
   refine⟨_,rfl,p,_,0,_,rfl,rfl,SqL.of hp,zav (j:=0) rfl,_,rfl,_,_,rfl,rfl,⟨hm0,hm1⟩,_,rfl,p,_,0,0,rfl,rfl,hp,rfl, ?_⟩
   refine⟨_,rfl, ?_⟩
   refine k _ _ (Int.emod_nonneg _ (by lia)) (Int.emod_lt_of_pos _ hm0) ⟨_,_,_,zab,Int.ediv_nonneg o0 (by lia),s0,s1,t0,by lia⟩ fun b o hb h1 _=> ?_
   rw[zaj h1]
   exact hb
  ·refine ⟨_,rfl,p,_,2,_,rfl,rfl,SqL.of hp,zav (j:=2) rfl,_,_,rfl,rfl,_,rfl,p,_,2,2,rfl,rfl,hp,rfl, ?_⟩
   have hp2:(upd H p (.lst ([V.int own,V.int seed,V.int turn].set 2 (V.int (turn+1))))) p=some (.lst [V.int own,V.int seed,V.int (turn+1)]):=by rw[zab];rfl
   refine⟨_,rfl,p,_,1,_,rfl,rfl,SqL.of hp2,zav (j:=1) rfl,_,rfl,p,_,2,_,rfl,rfl,SqL.of hp2,zav (j:=2) rfl,_,_,rfl,rfl,.inl ⟨by decide,by decide⟩,_,_,rfl,rfl,_,_,rfl,rfl,⟨by decide,by decide,by lia⟩,_,_,rfl,rfl,(by show (0:Int)<2305843009213693951;decide),_,rfl,p,_,1,1,rfl,rfl,hp2,rfl, ?_⟩
   have q0:=Int.emod_nonneg ((seed+982451653*(turn+1))^(3:Int).toNat) (by decide:(2305843009213693951:Int)≠0)
   have q1:=Int.emod_lt_of_pos ((seed+982451653*(turn+1))^(3:Int).toNat) (by decide:(0:Int)<2305843009213693951)
   refine⟨_,rfl,p,_,1,_,rfl,rfl,SqL.of zab,zav (j:=1) rfl,_,_,rfl,rfl,⟨by decide,by decide⟩,_,rfl,_,_,rfl,rfl,hm0, ?_⟩
   refine k _ _ (Int.emod_nonneg _ (by lia)) (Int.emod_lt_of_pos _ hm0) ⟨_,_,_,zab,o0,q0,by lia,by lia,by lia⟩ fun b o hb h1 _=> ?_
   rw[zaj h1,zaj h1]
   exact hb
end
end K52
namespace L2
noncomputable def zlc (i j l:Nat)(ta:TA):TS:=fun D σ H=>ta σ H fun vs H1=>∃v w u,vs=[v,w,u]/\D.nx (((σ.set i (some v)).set j (some w)).set l (some u)) H1
theorem zld {X:Cx}{pos:Pos}{i j l:Nat}{x y z:Str}{a b c:Expr}{ta:TA}{px py pz pt:Pos}{kt k2 pt2}(hc:X.calm=true)(hN:X.N.Nodup)(hi:X.N[i]? =some x)(hj:X.N[j]? =some y)(hl:X.N[l]? =some z)(hij:i≠j)(hil:i≠l)(hjl:j≠l)
  (hx:X.env.scope.names.lookup x=some .local) (hy:X.env.scope.names.lookup y=some .local) (hz:X.env.scope.names.lookup z=some .local) (ha:PA X [a,b,c] ta)
  (hw:swappedStores [.Tuple [.Name x px,.Name y py,.Name z pz] kt pt] (.Tuple [a,b,c] k2 pt2) X.env=pure (some [x,y,z]))
  (hs:swapsWithSole [.Tuple [.Name x px,.Name y py,.Name z pz] kt pt] (.Tuple [a,b,c] k2 pt2) pos.line X.env=pure false:=by rfl):
  PS X (.Assign [.Tuple [.Name x px,.Name y py,.Name z pz] kt pt] (.Tuple [a,b,c] k2 pt2) pos) (zlc i j l ta):=by
 intro pins s σ H D I h
 rw[exec_Assign_arm]
 refine wpAny_bind (wpAny_standAt ?_)
 rw[hs]
 refine wpAny_bind (wpAny_pure ?_)
 rw[if_neg (by decide)]
 refine wpAny_bind (Tuple_ (thn (ha _ pins s σ H _ I h) fun us s1 zq=> ?_))
 obtain⟨vs,H1,I1,r1,q1⟩:=zq
 obtain⟨v,w,u,e1,q1⟩:=q1
 subst e1
 obtain⟨u1,u2,u3,rfl,rv,rw',ru⟩:∃u1 u2 u3,us=[u1,u2,u3]/\RelV v u1/\RelV w u2/\RelV u u3:=by
  cases r1 with
  | cons p q=>
   cases q with
   | cons p' q'=>
    cases q' with
    |cons p'' q''=>
     cases q''
     exact⟨_,_,_,rfl,p,p',p''⟩
 refine wpAny_newObj_type ?_ (by show 3<=sizeLine;decide)
 have I2:Inv X pins σ H1 {s1 with heap:=s1.heap.push {cls:=.type "tuple",data:=.seq [u1,u2,u3].toArray}}:=I1.kept (t':=s1.toks) fun b o e=>Heap.get?_push_of_some _ e
 rw[hw]
 refine wpAny_bind (wpAny_pure ?_)
 show wpAny (model X.prog X.w) X.A (do rule "assign.swapped-stores";let items<-unpackItems (.ref s1.heap.objs.size) 3 none;assignInOrder [fun v=>bindName X.env z v,fun v=>bindName X.env y v,fun v=>bindName X.env x v] items.reverse;pure Flow.next) _ _ _
 refine wpAny_bind (wpAny_rule (wpAny_bind (unpackItems_tuple (items:=#[u1,u2,u3]) (I.ok.hd hc) (IsTup.new s1.heap _) fun h' hx'=> ?_)))
 have I3:=I2.kept (h':=h') (t':=s1.toks) fun b o e=>hx' b o (Nat.ne_of_lt (Heap.lt_size e)) e
 show wpAny _ _ (assignInOrder [fun v=>bindName X.env z v,fun v=>bindName X.env y v,fun v=>bindName X.env x v] [u3,u2,u1] >>= fun _=>pure Flow.next) _ _ _
 refine wpAny_bind (assignInOrder_cons (wpAny_bindName (zbx I3 hN hl (.inl hz) ru (fun s2 I4=> ?_) (.inr hz))))
 refine assignInOrder_cons (wpAny_bindName (zbx I4 hN hj (.inl hy) rw' (fun s3 I5=> ?_) (.inr hy)))
 refine assignInOrder_cons (wpAny_bindName (zbx I5 hN hi (.inl hx) rv (fun s4 I6=>assignInOrder_nil (wpAny_pure ?_)) (.inr hx)))
 rw[List.set_comm _ _ (Ne.symm hij),List.set_comm _ _ (Ne.symm hil),List.set_comm _ _ (Ne.symm hjl)] at I6
 exact⟨_,H1,I6,q1⟩
noncomputable def spMk:Sp:=fun vs H Q _=>∃(a:Addr) (os:List Int),vs=[.ref a]/\H a=some (.tup (os.map V.int))/\os.length<=100/\∀z H',Same H H'->H' z=some (.tup ((zal os).map V.int))->Q (.ref z) H'
noncomputable def zle:Sp:=fun vs H Q _=>∃(z a:Addr) (N:Nat) (rows:List (List Int)) (ends os:List Int),vs=[.ref z,.ref a]/\IsMach H z N rows ends/\H a=some (.tup (os.map V.int))/\os.length<=100/\∀H',Same H H'->Q (.int (goZ rows (zal os))) H'
end L2
namespace K52
open L2
noncomputable abbrev zel:Stmt:=top 6
noncomputable abbrev zdw:Stmt:=top 7
noncomputable abbrev zbY:Stmt:=top 26
section
variable {P:Program}{w:World}{K:PySem.W.Frag}{mg:Str->Option Value}{base:Heap}
theorem sc_mark_at:FnScope ["order", "place", "ahead"] ["order", "place"] (zae zdw):=⟨rfl,rfl,rfl,by decide+kernel,rfl,by decide+kernel,by decide+kernel⟩
theorem zg0 {f:Addr}{fd:FuncData}(F:Fun K "mark_at" "mark_at" zdw f fd)(T:Top mg):FnOk P w K mg base CX0 1 f fd ["order", "place"] zhV:=by
 refine F.ok sc_mark_at (fun vs H Q E h=> ?_) (fun cdv A outer s H vs Q E hr h=> ?_)
 ·obtain ⟨a,os,p,rfl,_⟩:=h
  rfl
 ·obtain ⟨a,os,p,rfl,ha,p0,p1,k⟩:=h
  refine⟨_,(zaf (zau (i:=2) sc_mark_at.nd rfl (Or.inl rfl) (zct zfH (pv 0) zdd (zde (pv 1))))
   (zaf (zbK (zar zfC (zaT zbE (pv 0) (pv 1) (fun _ _=>rfl)) (zam (ze1 rfl) (by rfl) T.n_max boot_max (zaa (pv 2) zac)) (zaH _))
    (zai (zaz zag))
    zbd)
   (zaf (zbK (zar zhy (zaT zbE (pv 0) (pv 1) (fun _ _=>rfl)) (zam (ze2 rfl) (by rfl) T.n_min boot_min (zaa (pv 2) zac)) (zaH _))
    (zai (zaz zag))
    zbd)
   (zai (zaz (zcp (zar zfC (zaT zbE (pv 0) (pv 1) (fun _ _=>rfl)) (zaT zbE (pv 2) (zkQ zhu zag) (fun _ _=>rfl)) (zaH _)) zag zag)))))), ?_⟩
  refine⟨_,rfl,_,rfl,p,rfl,a,_,rfl,ha,fun b G sG hb=> ?_⟩
  rw[show p=((p.toNat:Nat):Int) by lia,zdN] at hb
  have hne:os.take p.toNat≠[]:=fun e=>by
   have:=zgm (os:=os) (p:=p.toNat) (by lia) (by lia)
   rw[e] at this
   cases this
  have ha':=sG _ _ ha
  have hat:=zdm (ys:=os) (i:=p) (by lia) p1
  have hlast:=zhU (os:=os) (p:=p.toNat) (by lia) (by lia)
  refine⟨_,rfl,_,rfl,a,_,_,_,rfl,rfl,SqT.of ha',hat,_,rfl,b,_,rfl,hb,hne,fun M hM1 hM2=>⟨_,_,rfl,rfl,_,rfl, ?_⟩⟩
  have e3:=zhS hM1 hM2
  have fin:=k G sG
  unfold zbr at fin
  rw[e3] at fin
  refine ite2 (fun h=> ?_) (fun h=> ?_)
  ·rw [if_pos h] at fin
   exact fin
  ·rw [if_neg h] at fin
   refine⟨_,rfl,_,rfl,a,_,_,_,rfl,rfl,SqT.of ha',hat,_,rfl,b,_,rfl,hb,hne,fun M' hM1' hM2'=>⟨_,_,rfl,rfl,_,rfl, ?_⟩⟩
   rw[zhT hM1' hM2'] at fin
   refine ite2 (fun h2=> ?_) (fun h2=> ?_)
   ·rw [if_pos h2] at fin
    exact fin
   ·rw [if_neg h2] at fin
    refine⟨_,rfl,_,rfl,a,_,_,_,rfl,rfl,SqT.of ha',hat,_,rfl,_,rfl,b,_,_,_,rfl,rfl,SqT.of hb,hlast,_,_,rfl,rfl,_,rfl, ?_⟩
    refine ite2 (fun h3=> ?_) (fun h3=> ?_)
    ·rw [if_pos (of_decide_eq_true h3)] at fin
     exact fin
    ·rw [if_neg (fun z=>h3 (decide_eq_true z))] at fin
     exact fin
theorem zjD:FnScope ["order"] ["order"] (zae zel):=⟨rfl,rfl,rfl,by decide+kernel,rfl,by decide+kernel,by decide+kernel⟩
theorem zjE {f:Addr}{fd:FuncData}(F:Fun K "marks" "marks" zel f fd)(T:Top mg)(Cmark_at:Cal P w K mg base 1 "mark_at" ["order", "place"] zhV):FnOk P w K mg base CX0 2 f fd ["order"] spMk:=by
 refine F.ok zjD (fun vs H Q E h=> ?_) (fun cdv A outer s H vs Q E hr h=> ?_)
 ·obtain ⟨a,os,rfl,_⟩:=h
  rfl
 ·obtain ⟨a,os,rfl,ha,hm,k⟩:=h
  obtain⟨m,ln⟩:∃m,os.length=m:=⟨_,rfl⟩
  rw[ln] at hm
  refine⟨_,(zai (zaz (zaV zaI (by rfl) T.n_tuple boot_tuple (zaa (zbF (N':=["place", "order"]) (n:=1) (ix:=[0]) rfl (CompScope.of (sc:=zae zel) (N:=["order"]) (by decide+kernel) rfl rfl) (zcr rfl T.n_range (zaa zag (zaa (zam zaE (by rfl) T.n_len PySem.boot_len (zaa (pv 0) zac)) zac))) (fun _ _ _ _ _=>⟨(zah (i:=0) (show (["place", "order"]:List Str).Nodup by decide+kernel) rfl (Or.inl rfl)),zax,(zak Cmark_at (hr.mono (by decide)) rfl (zaa (pv 1) (zaa (pv 0) zac)))⟩)) zac)))), ?_⟩
  refine⟨_,rfl,a,_,rfl,.inr (SqT.of ha),_,_,rfl,⟨by decide,by decide, ?_, ?_⟩, ?_⟩
  ·rw[zaq];lia
  ·rw[zaq];lia
  rw[zaq,show ((os.length:Int)-1).toNat=os.length-1 by lia]
  refine zdk (zao (lo:=1) (n:=os.length-1)) (zaS (by rw[zan];lia)) (fun x v _=>∀k,x=V.int k->v=V.int (zbr os k.toNat)) (fun _ _ _ _ _ h=>h) (fun _ _=>trivial) (fun x hx G sG Q' q=> ?_) fun acc ys G hacc sG hys pr=> ?_
  ·rw [zdo] at hx
   obtain⟨p,hp,rfl⟩:=List.mem_map.mp hx
   unfold numF at hp
   obtain⟨i,hi,rfl⟩:=List.mem_map.mp hp
   have hi':i<os.length-1:=List.mem_range.mp hi
   exact⟨_,rfl,_,rfl,a,os,_,rfl,sG _ _ ha,by lia,by lia,fun G2 s2=>q _ G2 s2 fun k' e=>by cases e;rfl⟩
  ·rw [zdo] at pr
   rw[zcM (g:=fun k=>zbr os k.toNat) pr] at hys
   refine⟨acc,_,rfl,.inl ⟨SqL.of hys,fun z hz=> ?_⟩⟩
   exact k z _ (sG.trans (zad hz)) zab
theorem sc__law_marks:FnScope ["_law_order", "_law_found", "_law_low", "_law_last", "_law_high", "_law_place", "_law_number"] ["_law_order"] (zae zbY):=⟨rfl,rfl,rfl,by decide+kernel,rfl,by decide+kernel,by decide+kernel⟩
theorem zem {f:Addr}{fd:FuncData}(F:Fun K "_law_marks" "_law_marks" zbY f fd)(T:Top mg):FnOk P w K mg base CX0 1 f fd ["_law_order"] spMk:=by
 refine F.ok sc__law_marks (fun vs H Q E h=> ?_) (fun cdv A outer s H vs Q E hr h=> ?_)
 ·obtain ⟨a,os,rfl,_⟩:=h
  rfl
 ·obtain ⟨a,os,rfl,ha,hm,k⟩:=h
  obtain⟨m,ln⟩:∃m,os.length=m:=⟨_,rfl⟩
  rw[ln] at hm
  refine⟨_,(zaf (zau (i:=1) sc__law_marks.nd rfl (Or.inl rfl) (zbD zac))
   (zaf (zca (za7 (zaa zag (zaa zag (zaa zag zac)))) (zdc rfl (zaA (zah (i:=2) sc__law_marks.nd rfl (Or.inl rfl) (Or.inl rfl)) (zaA (zah (i:=3) sc__law_marks.nd rfl (Or.inl rfl) (Or.inl rfl)) (zaA (zah (i:=4) sc__law_marks.nd rfl (Or.inl rfl) (Or.inl rfl)) zbU)))))
   (zaf (zby PassesOwn.never rfl (zje rfl T.n_enumerate (zaa (pv 0) zac)) (zbW (i:=5) (j:=6) rfl sc__law_marks.nd rfl rfl (Or.inl rfl) (Or.inl rfl) (Or.inl rfl) (Or.inl rfl))
    (zaf (zbK (zar zdC (pv 5) zag (zaH _))
     (zai (zhr (i:=2) (j:=4) rfl sc__law_marks.nd rfl rfl (by decide) rfl rfl (zaa (pv 6) (zaa (pv 6) zac)) rfl))
     (zai (zbK (zar zfC (pv 6) (pv 4) (zaH _))
      (zai (zdb (zhF PySem.F.plainAttrs_list PySem.F.slot_list_append PySem.F.type_list_append zbi (pv 1) (zaa zag zac))))
      (zai (zbK (zar zfC (pv 6) (pv 3) (zaH _))
       (zai (zdb (zhF PySem.F.plainAttrs_list PySem.F.slot_list_append PySem.F.type_list_append zbi (pv 1) (zaa zag zac))))
       (zai (zbK (zar zhy (pv 6) (pv 2) (zaH _))
        (zai (zdb (zhF PySem.F.plainAttrs_list PySem.F.slot_list_append PySem.F.type_list_append zbi (pv 1) (zaa zag zac))))
        (zai (zdb (zhF PySem.F.plainAttrs_list PySem.F.slot_list_append PySem.F.type_list_append zbi (pv 1) (zaa zag zac)))))))))))
    (zai (zld (i:=2) (j:=3) (l:=4) rfl sc__law_marks.nd rfl rfl rfl (by decide) (by decide) (by decide) rfl rfl rfl (zaa (zam (zeM rfl) (by rfl) T.n_min boot_min (zaa (pv 2) (zaa (pv 6) zac))) (zaa (pv 6) (zaa (zam (zhz rfl) (by rfl) T.n_max boot_max (zaa (pv 4) (zaa (pv 6) zac))) zac))) rfl))))
   (zai (zaz (zaV zaI (by rfl) T.n_tuple boot_tuple (zaa (pv 1) zac))))))), ?_⟩
  refine⟨Nat.zero_le _,fun L hL=> ?_⟩
  have s0:=zad (o:=.lst []) hL
  refine⟨by show 3<=sizeLine;decide,fun t0 ht0=>⟨t0,_,rfl,SqT.of zab,rfl,_,_,rfl,_,_,rfl,_,_,rfl,rfl, ?_⟩⟩
  have s1:=zad (o:=.tup [.int 0,.int 0,.int 0]) ht0
  refine⟨_,rfl,a,rfl,⟨_,SqT.of (s1 _ _ (s0 _ _ ha))⟩, ?_⟩
  refine zjg (K:=K) (xs:=os.map V.int) (fun i σ G=>∃(lo la hi:Int) (c5 c6:Option V),σ=[some (.ref a),some (.ref L),some (.int lo),some (.int la),some (.int hi),c5,c6]/\Same H G/\G L=some (.lst (((numF 1 (i-1)).map fun k=>zbr os k.toNat).map V.int))/\(1<=i->lo∈os.take i/\(∀b∈os.take i,lo<=b)/\hi∈os.take i/\(∀b∈os.take i,b<=hi)/\la=os.getD (i-1) 0)) ?_ ?_ ?_ ?_
  ·exact⟨0,0,0,none,none,rfl,s0.trans s1,s1 _ _ zab,fun z=>absurd z (by lia)⟩
  ·rintro i σ G _ ⟨lo,la,hi,c5,c6,rfl,sm,_⟩
   exact SqT.of (sm _ _ ha)
  ·rintro i x t σ G hx ⟨lo,la,hi,c5,c6,rfl,sm,hG,hinv⟩ ht'
   obtain⟨hil,rfl⟩:=zgl hx
   have st:=zad (o:=.tup [.int (i:Int),.int (os.getD i 0)]) ht'
   have hG1:=st _ _ hG
   have htk:os.take (i+1)=os.take i++[os.getD i 0]:=by
    rw[List.take_succ,List.getElem?_eq_getElem hil,List.getD_eq_getElem?_getD,List.getElem?_eq_getElem hil]
    rfl
   have three:∀(lo hi la:Int) (G2:Hp) (D:Ends),(i=0->lo=os.getD i 0/\hi=os.getD i 0)->(1<=i->lo∈os.take i/\(∀b∈os.take i,lo<=b)/\hi∈os.take i/\(∀b∈os.take i,b<=hi))->
     (∀(lo2 hi2:Int),(lo2∈os.take (i+1)/\(∀b∈os.take (i+1),lo2<=b)/\hi2∈os.take (i+1)/\(∀b∈os.take (i+1),b<=hi2))->D.nx [some (.ref a),some (.ref L),some (.int lo2),some (.int (os.getD i 0)),some (.int hi2),some (.int (i:Int)),some (.int (os.getD i 0))] G2)->
     (zlc 2 3 4 (zb8 (tCB (fun xs H Q=>∃i j,xs=[.int i,.int j]/\Q (.int (if j<i then j else i)) H) (zb8 (tVar 2) (zb8 (tVar 6) tNil))) (zb8 (tVar 6) (zb8 (tCB (fun xs H Q=>∃i j,xs=[.int i,.int j]/\Q (.int (if j>i then j else i)) H) (zb8 (tVar 4) (zb8 (tVar 6) tNil))) tNil)))) D [some (.ref a),some (.ref L),some (.int lo),some (.int la),some (.int hi),some (.int (i:Int)),some (.int (os.getD i 0))] G2:=by
    intro lo hi la G2 D h0 h1 kk
    refine⟨_,rfl,_,rfl,_,_,rfl,_,rfl,_,rfl,_,rfl,_,_,rfl,_,_,_,rfl, ?_⟩
    refine kk _ _ ?_
    rw[htk]
    by_cases hi0:i=0
    ·obtain ⟨rfl,rfl⟩:=h0 hi0
     subst hi0
     simp
    ·obtain ⟨q1,q2,q3,q4⟩:=h1 (by lia)
     refine⟨?_,fun b hb=> ?_, ?_,fun b hb=> ?_⟩
     ·split
      ·exact List.mem_append_right _ (List.mem_singleton_self _)
      ·exact List.mem_append_left _ q1
     ·rcases List.mem_append.mp hb with hb|hb
      ·have:=q2 b hb;split<;>lia
      ·rw[List.mem_singleton.mp hb];split<;>lia
     ·split
      ·exact List.mem_append_right _ (List.mem_singleton_self _)
      ·exact List.mem_append_left _ q3
     ·rcases List.mem_append.mp hb with hb|hb
      ·have:=q4 b hb;split<;>lia
      ·rw[List.mem_singleton.mp hb];split<;>lia
   refine⟨t,_,rfl,SqT.of zab,rfl,_,_,rfl,_,_,rfl,rfl, ?_⟩
   refine⟨_,rfl,rfl,_,rfl, ?_⟩
   by_cases hi0:i=0
   ·rw [decide_eq_true (by rw[hi0];rfl)]
    refine iteT ⟨_,rfl,_,rfl,_,_,rfl, ?_⟩
    refine three _ _ _ _ _ (fun _=>⟨rfl,rfl⟩) (fun z=>absurd z (by lia)) fun lo2 hi2 h2=> ?_
    refine⟨lo2,_,hi2,_,_,rfl,sm.trans st, ?_,fun _=>⟨h2.1,h2.2.1,h2.2.2.1,h2.2.2.2,rfl⟩⟩
    have:=hG1
    rw[hi0] at this ⊢
    exact this
   ·rw [decide_eq_false (fun e=>by have:=V.int.inj e;lia)]
    refine iteF ?_
    obtain⟨q1,q2,q3,q4,q5⟩:=hinv (by lia)
    have e3:=zhS q3 q4
    have e0:=zhT q1 q2
    have hlast:la∈os.take i:=by rw[q5];exact zgm (by lia) hil
    have hlo:=q2 la hlast
    have app:∀v:Int,zbr os i=v->∀D:Ends,(∀G2,Same H G2->G2 L=some (.lst (((numF 1 (i+1-1)).map fun k=>zbr os k.toNat).map V.int))->D.nx [some (.ref a),some (.ref L),some (.int lo),some (.int la),some (.int hi),some (.int (i:Int)),some (.int (os.getD i 0))] G2)->
      (zlU (tBM K "list" zhG (tVar 1) (zb8 (tC (.int v)) tNil))) D [some (.ref a),some (.ref L),some (.int lo),some (.int la),some (.int hi),some (.int (i:Int)),some (.int (os.getD i 0))] (upd G t (.tup [.int (i:Int),.int (os.getD i 0)])):=by
     intro v hv D kk
     refine⟨_,rfl,.inl ⟨rfl,_,SqL.of hG1⟩,L,_,_,rfl,rfl,hG1,zaS (by rw[zaq,List.length_map];unfold numF;simp;lia), ?_⟩
     refine kk _ (zaW (sm.trans st) hL) ?_
     rw[zab,show i+1-1=(i-1)+1 by lia,ze3,List.map_append,List.map_append]
     show some (HO.lst (_++[V.int v]))=some (HO.lst (_++[V.int (zbr os (1+((i-1:Nat):Int)).toNat)]))
     rw[show (1+((i-1:Nat):Int)).toNat=i by lia,hv]
    have nxt:∀(G2:Hp) (D:Ends),Same H G2->G2 L=some (.lst (((numF 1 (i+1-1)).map fun k=>zbr os k.toNat).map V.int))->(∀σ G3,(∃(lo la hi:Int) (c5 c6:Option V),σ=[some (.ref a),some (.ref L),some (.int lo),some (.int la),some (.int hi),c5,c6]/\Same H G3/\G3 L=some (.lst (((numF 1 (i+1-1)).map fun k=>zbr os k.toNat).map V.int))/\(1<=i+1->lo∈os.take (i+1)/\(∀b∈os.take (i+1),lo<=b)/\hi∈os.take (i+1)/\(∀b∈os.take (i+1),b<=hi)/\la=os.getD (i+1-1) 0))->D.nx σ G3)->
      (zlc 2 3 4 (zb8 (tCB (fun xs H Q=>∃i j,xs=[.int i,.int j]/\Q (.int (if j<i then j else i)) H) (zb8 (tVar 2) (zb8 (tVar 6) tNil))) (zb8 (tVar 6) (zb8 (tCB (fun xs H Q=>∃i j,xs=[.int i,.int j]/\Q (.int (if j>i then j else i)) H) (zb8 (tVar 4) (zb8 (tVar 6) tNil))) tNil)))) D [some (.ref a),some (.ref L),some (.int lo),some (.int la),some (.int hi),some (.int (i:Int)),some (.int (os.getD i 0))] G2:=by
     intro G2 D hs2 hL2 kk
     refine three lo hi la G2 D (fun z=>absurd z hi0) (fun _=>⟨q1,q2,q3,q4⟩) fun lo2 hi2 h2=> ?_
     exact kk _ _ ⟨lo2,_,hi2,_,_,rfl,hs2,hL2,fun _=>⟨h2.1,h2.2.1,h2.2.2.1,h2.2.2.2,rfl⟩⟩
    refine⟨_,rfl,_,rfl,_,_,rfl,rfl,_,rfl, ?_⟩
    refine ite2 (fun h=> ?_) (fun h=> ?_)
    ·refine app 3 (by unfold zbr;rw[e3,if_pos h]) _ fun G2 hs2 hL2=>nxt G2 _ hs2 hL2 fun σ G3 hh=>hh
    ·refine ⟨_,rfl,_,rfl,_,_,rfl,rfl,_,rfl, ?_⟩
     refine ite2 (fun h2=> ?_) (fun h2=> ?_)
     ·have h2':la<os.getD i 0:=of_decide_eq_true h2
      refine app 2 (by unfold zbr;rw[e3,if_neg h,e0,if_neg (fun z=>by have:=of_decide_eq_true z;lia),<-q5,if_pos h2']) _ fun G2 hs2 hL2=>nxt G2 _ hs2 hL2 fun σ G3 hh=>hh
     ·have h2':¬la<os.getD i 0:=fun z=>h2 (decide_eq_true z)
      refine⟨_,rfl,_,rfl,_,_,rfl,rfl,_,rfl, ?_⟩
      refine ite2 (fun h3=> ?_) (fun h3=> ?_)
      ·refine app 0 (by unfold zbr;rw[e3,if_neg h,e0,if_pos h3]) _ fun G2 hs2 hL2=>nxt G2 _ hs2 hL2 fun σ G3 hh=>hh
      ·refine app 1 (by unfold zbr;rw[e3,if_neg h,e0,if_neg h3,<-q5,if_neg h2']) _ fun G2 hs2 hL2=>nxt G2 _ hs2 hL2 fun σ G3 hh=>hh
  ·rintro σ G ⟨lo,la,hi,c5,c6,rfl,sm,hG,_⟩
   rw[zaq] at hG
   refine⟨_,rfl,L,_,rfl,.inl ⟨SqL.of hG,fun z hz=> ?_⟩⟩
   exact k z _ (sm.trans (zad hz)) zab
end
noncomputable abbrev zbO:Stmt:=top 8
theorem zky {rows:List (List Int)}{zs:List Addr}{H:Hp}{N:Nat}(hr:RowsAt H zs rows)(hl:rows.length=N){d:Int}(h0:0<=d)(h1:d<N):∃z,atI (zs.map V.ref) d=some (.ref z)/\H z=some (.tup ((rows.getD d.toNat []).map V.int))/\rows.getD d.toNat []∈rows:=by
 have hzl:=Paired.length hr
 have hz:d.toNat<zs.length:=by lia
 have hd:d.toNat<rows.length:=by lia
 obtain⟨r,e,hh⟩:=RowsAt.get hr (i:=d.toNat) (z:=zs[d.toNat]) (List.getElem?_eq_getElem hz)
 refine⟨zs[d.toNat], ?_, ?_, ?_⟩
 ·have:=zav (xs:=zs.map V.ref) (j:=d.toNat) (v:=.ref zs[d.toNat]) (by rw[List.getElem?_map,List.getElem?_eq_getElem hz];rfl)
  rwa [show ((d.toNat:Nat):Int)=d by lia] at this
 ·rw[List.getD_eq_getElem?_getD,e];exact hh
 ·rw [List.getD_eq_getElem?_getD,List.getElem?_eq_getElem hd]
  exact List.getElem_mem hd
section
variable {P:Program}{w:World}{K:PySem.W.Frag}{mg:Str->Option Value}{base:Heap}
theorem sc_state_after:FnScope ["machine", "begun", "rows", "state", "mark"] ["machine", "begun"] (zae zbO):=⟨rfl,rfl,rfl,by decide+kernel,rfl,by decide+kernel,by decide+kernel⟩
theorem zdD {f:Addr}{fd:FuncData}(F:Fun K "state_after" "state_after" zbO f fd)(Cmarks:Cal P w K mg base 2 "marks" ["order"] spMk):FnOk P w K mg base CX0 3 f fd ["machine", "begun"] zle:=by
 refine F.ok sc_state_after (fun vs H Q E h=> ?_) (fun cdv A outer s H vs Q E hr h=> ?_)
 ·obtain ⟨z,a,N,rows,ends,os,rfl,_⟩:=h
  rfl
 ·obtain ⟨z,a,N,rows,ends,os,rfl,hM,ha,hm,k⟩:=h
  refine⟨_,(zaf (zau (i:=2) sc_state_after.nd rfl (Or.inl rfl) (zaT zbE (pv 0) zag (fun _ _=>rfl)))
   (zaf (zau (i:=3) sc_state_after.nd rfl (Or.inl rfl) zag)
   (zaf (zby PassesOwn.never rfl (zcq (zak Cmarks (hr.mono (by decide)) rfl (zaa (pv 1) zac))) (zah (i:=4) sc_state_after.nd rfl (Or.inl rfl))
    (zai (zau (i:=3) sc_state_after.nd rfl (Or.inl rfl) (zaT zbE (zaT zbE (pv 2) (pv 3) (fun _ _=>rfl)) (pv 4) (fun _ _=>rfl)))))
   (zai (zaz (pv 3)))))), ?_⟩
  obtain⟨R,E',zs,hz,hR,hrw,hE,hN,hN0,hv⟩:=hM
  refine⟨_,rfl,z,_,0,_,rfl,rfl,SqT.of hz,zav (j:=0) rfl, ?_⟩
  refine⟨_,rfl,a,os,rfl,ha,hm,fun q G1 s1 hq=>⟨q,rfl,⟨_,SqT.of hq⟩, ?_⟩⟩
  have hmk:=zb0 os
  generalize zal os=ms at hq hmk k
  refine zfB (K:=K) (xs:=ms.map V.int) (fun i σ G=>∃c4,σ=[some (.ref z),some (.ref a),some (.ref R),some (.int (goZ rows (ms.take i))),c4]/\Same H G/\G q=some (.tup (ms.map V.int))) ?_ ?_ ?_ ?_
  ·exact⟨none,rfl,s1,hq⟩
  ·rintro i σ G _ ⟨c4,rfl,_,h⟩
   exact SqT.of h
  ·rintro i x σ G hx ⟨c4,rfl,sm,h⟩
   have hx':=hx
   rw[List.getElem?_map] at hx'
   obtain⟨d,hd,rfl⟩:=Option.map_eq_some_iff.mp hx'
   have hil:i<ms.length:=(List.getElem?_eq_some_iff.mp hd).1
   obtain⟨r0,r1⟩:=zec hN hN0 hv hmk i (by lia)
   obtain⟨zr,e1,h1,hmem⟩:=zky (hrw.same sm) hN r0 r1
   obtain⟨d0,d1⟩:=hmk d (List.mem_of_getElem? hd)
   have q4:=(hv _ hmem).1
   refine⟨_,rfl,_,rfl,R,_,_,_,rfl,rfl,SqT.of (sm _ _ hR),e1,_,rfl,zr,_,_,_,rfl,rfl,SqT.of h1,zdm d0 (by lia), ?_⟩
   refine⟨some (.int d), ?_,sm,h⟩
   rw[zeb hd]
   rfl
  ·rintro σ G ⟨c4,rfl,sm,h⟩
   rw[zaq,List.take_length]
   exact⟨_,rfl,k G sm⟩
end
noncomputable abbrev zcm:Stmt:=top 27
noncomputable abbrev zcP:Stmt:=top 28
section
variable {P:Program}{w:World}{K:PySem.W.Frag}{mg:Str->Option Value}{base:Heap}
theorem sc__law_goes:FnScope ["_law_machine_here", "_law_seen", "_law_state", "_law_mark"] ["_law_machine_here", "_law_seen"] (zae zcm):=⟨rfl,rfl,rfl,by decide+kernel,rfl,by decide+kernel,by decide+kernel⟩
theorem zfg {f:Addr}{fd:FuncData}(F:Fun K "_law_goes" "_law_goes" zcm f fd):FnOk P w K mg base CX0 1 f fd ["_law_machine_here", "_law_seen"] zhY:=by
 refine F.ok sc__law_goes (fun vs H Q E h=> ?_) (fun cdv A outer s H vs Q E hr h=> ?_)
 ·obtain ⟨z,a,N,rows,ends,ms,rfl,_⟩:=h
  rfl
 ·obtain ⟨z,a,N,rows,ends,ms,rfl,hM,ha,hmk,k⟩:=h
  refine⟨_,(zaf (zau (i:=2) sc__law_goes.nd rfl (Or.inl rfl) zag)
   (zaf (zby PassesOwn.never rfl (zcq (pv 1)) (zah (i:=3) sc__law_goes.nd rfl (Or.inl rfl))
    (zai (zau (i:=2) sc__law_goes.nd rfl (Or.inl rfl) (zaT zbE (zaT zbE (zaT zbE (pv 0) zag (fun _ _=>rfl)) (pv 2) (fun _ _=>rfl)) (pv 3) (fun _ _=>rfl)))))
   (zai (zaz (pv 2))))), ?_⟩
  obtain⟨R,E',zs,hz,hR,hrw,hE,hN,hN0,hv⟩:=hM
  refine⟨_,rfl,a,rfl,⟨_,SqT.of ha⟩, ?_⟩
  refine zfB (K:=K) (xs:=ms.map V.int) (fun i σ G=>∃c3,σ=[some (.ref z),some (.ref a),some (.int (goZ rows (ms.take i))),c3]/\Same H G) ?_ ?_ ?_ ?_
  ·exact⟨none,rfl,Same.refl H⟩
  ·rintro i σ G _ ⟨c4,rfl,sm⟩
   exact SqT.of (sm _ _ ha)
  ·rintro i x σ G hx ⟨c4,rfl,sm⟩
   have hx':=hx
   rw[List.getElem?_map] at hx'
   obtain⟨d,hd,rfl⟩:=Option.map_eq_some_iff.mp hx'
   have hil:i<ms.length:=(List.getElem?_eq_some_iff.mp hd).1
   obtain⟨r0,r1⟩:=zec hN hN0 hv hmk i (by lia)
   obtain⟨zr,e1,h1,hmem⟩:=zky (hrw.same sm) hN r0 r1
   obtain⟨d0,d1⟩:=hmk d (List.mem_of_getElem? hd)
   have q4:=(hv _ hmem).1
   refine⟨_,rfl,z,_,0,_,rfl,rfl,SqT.of (sm _ _ hz),zav (j:=0) rfl,_,rfl,R,_,_,_,rfl,rfl,SqT.of (sm _ _ hR),e1,_,rfl,zr,_,_,_,rfl,rfl,SqT.of h1,zdm d0 (by lia), ?_⟩
   refine⟨some (.int d), ?_,sm⟩
   rw[zeb hd]
   rfl
  ·rintro σ G ⟨c4,rfl,sm⟩
   rw[zaq,List.take_length]
   exact⟨_,rfl,k G sm⟩
theorem zfS:FnScope ["_law_machine_here", "_law_order"] ["_law_machine_here", "_law_order"] (zae zcP):=⟨rfl,rfl,rfl,by decide+kernel,rfl,by decide+kernel,by decide+kernel⟩
theorem zfT {f:Addr}{fd:FuncData}(F:Fun K "_law_met" "_law_met" zcP f fd)(C_law_goes:Cal P w K mg base 1 "_law_goes" ["_law_machine_here", "_law_seen"] zhY)(C_law_marks:Cal P w K mg base 1 "_law_marks" ["_law_order"] spMk):FnOk P w K mg base CX0 2 f fd ["_law_machine_here", "_law_order"] zjo:=by
 refine F.ok zfS (fun vs H Q E h=> ?_) (fun cdv A outer s H vs Q E hr h=> ?_)
 ·obtain ⟨z,a,N,rows,ends,os,m,rfl,_⟩:=h
  rfl
 ·obtain ⟨z,a,N,rows,ends,os,m,rfl,hM,ha,ho,hm,k⟩:=h
  refine⟨_,(zai (zaz (zcG zdh (zak C_law_goes (hr.mono (by decide)) rfl (zaa (pv 0) (zaa (zak C_law_marks (hr.mono (by decide)) rfl (zaa (pv 1) zac)) zac))) (zaT zbE (pv 0) zag (fun _ _=>rfl)) (by rfl)))), ?_⟩
  refine⟨_,rfl,_,rfl,a,os,rfl,ha,(by have:=ho.length_eq;rw[zbj] at this;lia),fun q G1 s1 hq=> ?_⟩
  refine⟨z,q,N,rows,ends,_,rfl,hM.sameT s1.t,hq,zb0 os,fun G2 s2=> ?_⟩
  obtain⟨R,E',zs,hz,hR,hrw,hE,hN,hN0,hv⟩:=hM
  have s12:=s1.trans s2
  refine⟨_,rfl,z,_,1,_,rfl,rfl,SqT.of (s12 _ _ hz),zav (j:=1) rfl, ?_⟩
  exact⟨E',_,rfl,.inr (SqT.of (s12 _ _ hE)),rfl,ze0 _,k G2 s12⟩
end
end K52
namespace L2
theorem zmn {X:Cx}(K:PySem.W.Frag)(hK:X.K=K):OpR X (compareOp .In) (rIn K false):=hK▸zdh
theorem zio {X:Cx}(K:PySem.W.Frag)(hK:X.K=K):zbQ X (.type "tuple") (fun xs H Q=>∃p ys,xs=[.ref p]/\((SqL K H p ys/\∀l,H l=none->Q (.ref l) (upd H l (.tup ys)))∨(SqT K H p ys/\Q (.ref p) H))):=hK▸zaI
theorem zbP {n i:Nat}{x:V}(h:(zaY 0 n)[i]? =some x):x=.int (i:Int)/\i<n:=by
 have hi:=(List.getElem?_eq_some_iff.mp h).1
 rw[zan] at hi
 unfold zaY at h
 rw[List.getElem?_map,List.getElem?_range hi] at h
 cases h
 exact⟨by show V.int (0+(i:Int))=_;rw[Int.zero_add],hi⟩
theorem zdP {α β:Type}{F:α->β->Prop}:∀{l₁:List α} {l₂:List β},Paired F l₁ l₂->∀{a:α},a∈l₁->∃b,F a b
 |_,_,.nil,_,h=>by cases h
 |_,_,.cons p q,a,h=>by
  rcases List.mem_cons.mp h with rfl|h
  ·exact⟨_,p⟩
  ·exact zdP q h
noncomputable def RTup (H0:Hp)(x v:V)(H:Hp):Prop:=∀z (r:List Int),x=.ref z->H0 z=some (.lst (r.map V.int))->∃b,v=.ref b/\H b=some (.tup (r.map V.int))
theorem zgv {H0 H:Hp}:∀{zs:List Addr} {rows:List (List Int)} {ys:List V},zhX H0 zs rows->Paired (fun x v=>RTup H0 x v H) (zs.map V.ref) ys->∃zs',ys=zs'.map V.ref/\RowsAt H zs' rows
 |[],[],[],_,_=>⟨[],rfl,.nil⟩
 |z::zs,r::rows,v::ys,.cons p q,.cons p' q'=>by
  obtain⟨b,rfl,hb⟩:=p' z r rfl p
  obtain⟨zs',rfl,h'⟩:=zgv q q'
  exact⟨b::zs',rfl,.cons hb h'⟩
noncomputable def zen:Sp:=fun vs H Q _=>∃(p:Addr) (n:Nat) (most:Int),vs=[.ref p,.int most]/\0<most/\most<=40/\Pot3 H p n/\n<900000/\∀(z:Addr) (N:Nat) (rows:List (List Int)) (ends:List Int) (H':Hp),IsMach H' z N rows ends->(N:Int)<=most->ends.Sublist (num0 N)->Pot3 H' p (n+1000)->Keep p p H H'->Q (.ref z) H'
theorem zlf {J:It}{Ok:Hp->Prop}{ns:List Int}{tt:TT}{te:TE}{ix:List Nat}{σ:L2.St}{H1:Hp}{Q:VK}(Y:Yields J Ok (ns.map V.int))(small:ns.length<sizeLine){p:Addr}{c k:Nat}(hp:Pot3 H1 p c)(hok:∀H,Keep p p H1 H->Ok H)
  (he:∀i n H,ns[i]? =some n->Keep p p H1 H->Pot3 H p (c+k*i)->∀(QF:Hp->Prop) (QT:VK),(∀H',Keep p p H H'->Pot3 H' p (c+k*(i+1))->QF H')->(∀H',Keep p p H H'->Pot3 H' p (c+k*(i+1))->QT (.int n) H')->
   tt (some (.int n)::ix.map fun i=>σ.getD i none) H fun b H3=>if b=true then te (some (.int n)::ix.map fun i=>σ.getD i none) H3 QT else QF H3)
  (fin:∀acc (ds:List Int) H',H1 acc=none->acc≠p->Keep p p H1 H'->Pot3 H' p (c+k*ns.length)->H' acc=some (.lst (ds.map V.int))->ds.Sublist ns->Q (.ref acc) H'):
  LcW J H1 (zaU 0) tt te 1 ix σ Q:=by
 intro acc ha
 have hap:=hp.ne_new ha
 have el:(ns.map V.int).length=ns.length:=zaq ns
 refine⟨fun i m H=>m=ns.length-i/\i<=ns.length/\Keep p p H1 H/\Pot3 H p (c+k*i)/\∃ds:List Int,H acc=some (.lst (ds.map V.int))/\ds.Sublist (ns.take i),⟨ns.length,by simp,Nat.zero_le _,(zad ha).keep,hp.same (zad ha),[],zab,List.nil_sublist _⟩, ?_⟩
 rintro i m H ⟨rfl,hi,kp,hpot,ds,hacc,hs⟩
 have o:=hok _ kp
 by_cases hlt:i<ns.length
 ·refine .inr ⟨Y.go i _ o (by rw[el];exact hlt),fun x H' y=> ?_⟩
  obtain⟨rfl,hx⟩:=Y.yld i _ x H' o (by rw[el];exact hlt) y
  have hn:ns[i]? =some ns[i]:=List.getElem?_eq_getElem hlt
  rw[List.getElem?_map,hn] at hx
  cases hx
  have htk:ns.take (i+1)=ns.take i++[ns[i]]:=by rw[List.take_succ,hn];rfl
  have hdl:ds.length<=i:=by
   have:=hs.length_le
   rw[List.length_take] at this
   lia
  refine⟨⟨rfl,fun j v e=> ?_⟩, ?_⟩
  ·cases j with
   |zero=>cases e
   |succ j=>exact e
  ·refine he i ns[i] H' hn kp hpot (fun H3=>∃m',m'<ns.length-i/\_) (fun v H4=>∃ys,H4 acc=some (.lst ys)/\ys.length<sizeLine/\∃m',m'<ns.length-i/\_) (fun H3 k3 p3=> ?_) (fun H4 k4 p4=> ?_)
   ·exact⟨ns.length-(i+1),by lia,rfl,hlt,kp.trans k3,p3,ds,k3 _ _ hacc hap hap,htk▸hs.trans (List.sublist_append_left _ _)⟩
   ·have h4:=k4 _ _ hacc hap hap
    refine⟨_,h4,by rw[zaq];lia,ns.length-(i+1),by lia,rfl,hlt,(kp.trans k4).upd ha,p4.upd hap,ds++[ns[i]],by rw[zab,List.map_append];rfl,htk▸List.Sublist.append hs (List.Sublist.refl _)⟩
 ·have e:i=ns.length:=by lia
  subst e
  rw[List.take_length] at hs
  exact .inl ⟨el▸Y.stop _ o,fin acc ds H ha hap kp hpot hacc hs⟩
end L2
namespace K52
open L2
noncomputable abbrev zaD:Stmt:=top 29
section
variable {P:Program}{w:World}{K:PySem.W.Frag}{mg:Str->Option Value}{base:Heap}
theorem sc__law_machine:FnScope ["_law_urn_here", "_law_most", "_law_way", "_law_many", "_law_rows", "_law_kept", "_law_ends"] ["_law_urn_here", "_law_most"] (zae zaD):=⟨rfl,rfl,rfl,by decide+kernel,rfl,by decide+kernel,by decide+kernel⟩
theorem zdx {f:Addr}{fd:FuncData}(F:Fun K "_law_machine" "_law_machine" zaD f fd)(T:Top mg)(C_law_take:Cal P w K mg base 1 "_law_take" ["_law_urn_here", "_law_many"] zdp):FnOk P w K mg base CX0 2 f fd ["_law_urn_here", "_law_most"] zen:=by
 refine F.ok sc__law_machine (fun vs H Q E h=> ?_) (fun cdv A outer s H vs Q E hr h=> ?_)
 ·obtain ⟨p,n,most,rfl,_⟩:=h
  rfl
 ·obtain ⟨p,n,most,rfl,m0,m1,hp,hn,k⟩:=h
  refine⟨_,(zaf (zau (i:=2) sc__law_machine.nd rfl (Or.inl rfl) (zak C_law_take (hr.mono (by decide)) rfl (zaa (pv 0) (zaa zag zac))))
   (zaf (zau (i:=3) sc__law_machine.nd rfl (Or.inr rfl) (zap za2 zag (zak C_law_take (hr.mono (by decide)) rfl (zaa (pv 0) (zaa (pv 1) zac)))))
   (zaf (zau (i:=4) sc__law_machine.nd rfl (Or.inl rfl) (zcp (zar zfC (pv 2) zag (zaH _)) (zbF (N':=["_law_state", "_law_urn_here", "_law_many"]) (n:=1) (ix:=[0,3]) rfl (CompScope.of (sc:=zae zaD) (N:=["_law_urn_here", "_law_most", "_law_way", "_law_many", "_law_rows", "_law_kept", "_law_ends"]) (by decide+kernel) rfl rfl) (zas rfl T.n_range (zaa (pv 3) zac)) (fun _ _ _ _ _=>⟨(zah (i:=0) (show (["_law_state", "_law_urn_here", "_law_many"]:List Str).Nodup by decide+kernel) rfl (Or.inl rfl)),zax,(zbF (N':=["_law_mark", "_law_urn_here", "_law_many"]) (n:=1) (ix:=[1,2]) rfl (CompScope.of (N:=["_law_state", "_law_urn_here", "_law_many"]) rfl rfl rfl) (zas rfl T.n_range (zaa zag zac)) (fun _ _ _ _ _=>⟨(zah (i:=0) (show (["_law_mark", "_law_urn_here", "_law_many"]:List Str).Nodup by decide+kernel) rfl (Or.inl rfl)),zax,(zak C_law_take (hr.mono (by decide)) rfl (zaa (pv 1) (zaa (pv 2) zac)))⟩))⟩)) (zbD zac)))
   (zaf (zau (i:=5) sc__law_machine.nd rfl (Or.inr rfl) (zcp (zar zdC (pv 2) zag (zaH _)) (zbF (N':=["_law_mark", "_law_urn_here"]) (n:=1) (ix:=[0]) rfl (CompScope.of (sc:=zae zaD) (N:=["_law_urn_here", "_law_most", "_law_way", "_law_many", "_law_rows", "_law_kept", "_law_ends"]) (by decide+kernel) rfl rfl) (zas rfl T.n_range (zaa zag zac)) (fun _ _ _ _ _=>⟨(zah (i:=0) (show (["_law_mark", "_law_urn_here"]:List Str).Nodup by decide+kernel) rfl (Or.inl rfl)),(zbV (zar zdC (zak C_law_take (hr.mono (by decide)) rfl (zaa (pv 1) (zaa zag zac))) zag (zaH _))),(pv 0)⟩)) (zbD zac)))
   (zaf (zbK (zar zdC (pv 2) zag (zaH _))
    (zai (zhW (i:=4) (z:= "_law_state") rfl sc__law_machine.nd rfl rfl (N':=["_law_state", "_law_kept", "_law_many"]) (n:=1) (ix:=[5,3]) rfl (CompScopeZ.of (sc:=zae zaD) (N:=["_law_urn_here", "_law_most", "_law_way", "_law_many", "_law_rows", "_law_kept", "_law_ends"]) (by decide+kernel) rfl rfl (fun _ _=>rfl) (fun _=>rfl)) (zas rfl T.n_range (zaa (pv 3) zac)) (fun _ _ _ _ _ _=>⟨(zah (i:=0) (show (["_law_state", "_law_kept", "_law_many"]:List Str).Nodup by decide+kernel) rfl (Or.inr rfl) (Or.inl rfl)),zax,(zbF (N':=["_law_mark", "_law_state", "_law_kept", "_law_many"]) (n:=1) (ix:=[0,1,2]) rfl (CompScope.of (N:=["_law_state", "_law_kept", "_law_many"]) rfl rfl rfl) (zas rfl T.n_range (zaa zag zac)) (fun _ _ _ _ _=>⟨(zah (i:=0) (show (["_law_mark", "_law_state", "_law_kept", "_law_many"]:List Str).Nodup by decide+kernel) rfl (Or.inl rfl)),zax,(zcp (zar (zmn K rfl) (pv 0) (pv 2) (by rfl)) (zam (zeM rfl) (by rfl) T.n_min boot_min (zaa (zap zbf (pv 3) zag) (zaa (zap za2 (pv 1) zag) zac))) (pv 1))⟩))⟩)))
    zbd)
   (zaf (zbK (zar zdC (pv 2) zag (zaH _))
    (zai (zbz (i:=4) rfl sc__law_machine.nd rfl rfl (N':=["_law_state", "_law_many"]) (n:=1) (ix:=[3]) rfl (CompScope.of (sc:=zae zaD) (N:=["_law_urn_here", "_law_most", "_law_way", "_law_many", "_law_rows", "_law_kept", "_law_ends"]) (by decide+kernel) rfl rfl) (zas rfl T.n_range (zaa (pv 3) zac)) (fun _ _ _ _ _=>⟨(zah (i:=0) (show (["_law_state", "_law_many"]:List Str).Nodup by decide+kernel) rfl (Or.inl rfl)),zax,(zap zki (zbD (zaa (zap zcU (zap za2 (pv 0) zag) (pv 1)) zac)) zag)⟩)))
    zbd)
   (zaf (zbz (i:=6) rfl sc__law_machine.nd rfl rfl (N':=["_law_state", "_law_urn_here"]) (n:=1) (ix:=[0]) rfl (CompScope.of (sc:=zae zaD) (N:=["_law_urn_here", "_law_most", "_law_way", "_law_many", "_law_rows", "_law_kept", "_law_ends"]) (by decide+kernel) rfl rfl) (zas rfl T.n_range (zaa (pv 3) zac)) (fun _ _ _ _ _=>⟨(zah (i:=0) (show (["_law_state", "_law_urn_here"]:List Str).Nodup by decide+kernel) rfl (Or.inl rfl)),(zbV (zar zdC (zak C_law_take (hr.mono (by decide)) rfl (zaa (pv 1) (zaa zag zac))) zag (zaH _))),(pv 0)⟩))
   (zai (zaz (za7 (zaa (zaV zaI (by rfl) T.n_tuple boot_tuple (zaa (zbF (N':=["_law_row"]) (n:=1) (ix:=[]) rfl (CompScope.of (sc:=zae zaD) (N:=["_law_urn_here", "_law_most", "_law_way", "_law_many", "_law_rows", "_law_kept", "_law_ends"]) (by decide+kernel) rfl rfl) (zbL (pv 4)) (fun _ _ _ _ _=>⟨(zah (i:=0) (show (["_law_row"]:List Str).Nodup by decide+kernel) rfl (Or.inl rfl)),zax,(zaV (zio K rfl) (by rfl) T.n_tuple boot_tuple (zaa (pv 0) zac))⟩)) zac)) (zaa (zaV zaI (by rfl) T.n_tuple boot_tuple (zaa (pv 6) zac)) zac)))))))))))), ?fin⟩
  case fin=>
   refine⟨_,rfl,p,5,n,rfl,by decide,by decide,hp,by lia,fun way H1 a1 b1 hp1 kp1=> ?_⟩
   refine⟨_,rfl,_,rfl,p,most,n+1,rfl,m0,by lia,hp1,by lia,fun d2 H2 a2 b2 hp2 kp2=> ?_⟩
   refine⟨1,d2,rfl,rfl, ?_⟩
   show zaU 3 (V.int (1+d2)) _ _ _
   obtain⟨N,hN⟩:∃N:Nat,1+d2=(N:Int):=⟨(1+d2).toNat,by lia⟩
   rw[hN]
   have N0:0<N:=by lia
   have N40:N<=40:=by lia
   have K2:=kp1.trans kp2
   refine⟨_,rfl,_,_,rfl,rfl,_,rfl, ?_⟩
   have hway:1<way∨way=0∨way=1:=by lia
   rcases hway with hw|rfl|rfl
   case' inl=>
    rw[decide_eq_true hw]
    refine iteT ⟨_,rfl,_,rfl,by lia,by lia, ?_⟩
    rw[Int.toNat_natCast]
    refine zfM (zao (lo:=0) (n:=N)) (zaS (by rw[zan];lia)) (c:=n+2) (k:=4) hp2 (fun r=>r.length=4/\∀d∈r,0<=d/\d<(N:Int)) (fun _ _=>trivial) (fun i x G hx kG pG QT q=> ?_) fun L zs rows G L0 Lp kG pG hL hR hzp hl hD=> ?_
    ·have hi:=(zbP hx).2
     refine⟨_,rfl,by decide,by decide, ?_⟩
     refine zfL (zao (lo:=0) (n:=4)) (zaS (by decide)) (k:=1) pG true (fun d=>0<=d/\d<(N:Int)) (fun _ _=>trivial) (fun j y G2 hy kG2 pG2 QF QT2 _ q2=> ?_) fun acc ds G2 acc0 _ kG2 pG2 hG2 _ hfull hD=> ?_
     ·unfold zaG
      dsimp only
      rw[if_pos rfl]
      have hj:=(zbP hy).2
      refine⟨_,rfl,_,rfl,p,N,_,rfl,by lia,by lia,pG2,by lia,fun d G3 d0 d1 hp3 kp3=> ?_⟩
      exact q2 d G3 kp3 (hp3.more (by lia)) ⟨d0,d1⟩
     ·refine q acc ds G2 acc0 hG2 kG2 (pG2.more (by rw[zan];lia)) ⟨?_,hD⟩
      rw[hfull rfl,zan]
    rw[zan] at pG hl
    refine⟨_,rfl,rfl,_,rfl, ?_⟩
    rw[decide_eq_false (fun e=>by have:=V.int.inj e;lia)]
    refine iteF ⟨Nat.zero_le _,fun kk hkk=> ?_⟩
    refine⟨_,rfl,rfl,_,rfl, ?_⟩
    rw[decide_eq_false (fun e=>by have:=V.int.inj e;lia)]
    refine iteF ?_
    refine⟨_,rfl,rfl,_,rfl, ?_⟩
    rw[decide_eq_false (fun e=>by have:=V.int.inj e;lia)]
    refine iteF ?_
    have hL':=zad (o:=.lst []) hkk _ _ hL
    have hR':zhX (upd G kk (.lst [])) zs rows:=Paired.mapP hR fun _ _ h=>zad hkk _ _ h
    have pG':Pot3 (upd G kk (.lst [])) p (n+200):=(pG.same (zad hkk)).more (by lia)
    have kG':Keep p p H (upd G kk (.lst [])):=(K2.trans kG).trans (zad hkk).keep
    generalize upd G kk (.lst [])=G' at hL' hR' pG' kG' ⊢
   case' inr.inl=>
    rw[decide_eq_false (by decide)]
    refine iteF ⟨Nat.zero_le _,fun l0 hl0=> ?_⟩
    refine⟨_,rfl,rfl,_,rfl, ?_⟩
    rw[decide_eq_true rfl]
    refine iteT ⟨_,rfl,by decide,by decide, ?_⟩
    refine zfL (zao (lo:=0) (n:=4)) (zaS (by decide)) (c:=n+2) (k:=1) (hp2.same (zad hl0)) false (fun _=>True) (fun _ _=>trivial) (fun j y G2 hy kG2 pG2 QF QT2 q1 q2=> ?_) fun kk ks G2 acc0 hkp kG2 pG2 hG2 hkl _ _=> ?_
    ·obtain ⟨rfl,hj⟩:=zbP hy
     refine⟨_,rfl,p,2,_,rfl,by decide,by decide,pG2,by lia,fun d G3 d0 d1 hp3 kp3=>⟨rfl,_,rfl, ?_⟩⟩
     refine ite2 (fun _=>⟨_,rfl, ?_⟩) (fun _=> ?_)
     ·exact q2 _ G3 kp3 (hp3.more (by lia)) trivial
     ·exact q1 rfl G3 kp3 (hp3.more (by lia))
    rw[zan] at pG2 hkl
    refine⟨_,rfl,rfl,_,rfl, ?_⟩
    rw[decide_eq_true rfl]
    refine iteT ⟨_,rfl,_,rfl,by lia,by lia, ?_⟩
    rw[Int.toNat_natCast]
    refine zfM (zao (lo:=0) (n:=N)) (zaS (by rw[zan];lia)) (k:=0) pG2 (fun r=>r.length=4/\∀d∈r,0<=d/\d<(N:Int)) (fun _ _=>trivial) (fun i x G hx kG pG QT q=> ?_) fun L zs rows G L0 Lp kG pG hL hR hzp hl hD=> ?_
    ·obtain ⟨rfl,hi⟩:=zbP hx
     have hkk:=kG _ _ hG2 hkp hkp
     refine⟨_,rfl,by decide,by decide, ?_⟩
     refine zfL (zao (lo:=0) (n:=4)) (zaS (by decide)) (k:=0) pG true (fun d=>0<=d/\d<(N:Int)) (fun _ _=>trivial) (fun j y G3 hy kG3 pG3 QF QT2 _ q2=> ?_) fun acc ds G3 acc0' _ kG3 pG3 hG3 _ hfull hD=> ?_
     ·unfold zaG
      dsimp only
      rw[if_pos rfl]
      obtain⟨rfl,hj⟩:=zbP hy
      refine⟨_,rfl,_,rfl,kk,_,rfl,.inl (SqL.of (kG3 _ _ hkk hkp hkp)),rfl,ze0 _,_,rfl, ?_⟩
      refine ite2 (fun _=> ?_) (fun _=> ?_)
      ·refine ⟨_,rfl,_,_,rfl,rfl,_,rfl,_,_,rfl,rfl,_,_,rfl, ?_⟩
       refine q2 _ G3 (Keep.refl _ _ _) (pG3.more (by lia)) ?_
       constructor<;>split<;>lia
      ·exact⟨_,rfl,q2 _ G3 (Keep.refl _ _ _) (pG3.more (by lia)) ⟨by lia,by lia⟩⟩
     ·refine q acc ds G3 acc0' hG3 kG3 (pG3.more (by lia)) ⟨?_,hD⟩
      rw[hfull rfl,zan]
    rw[zan] at pG hl
    refine⟨_,rfl,rfl,_,rfl, ?_⟩
    rw[decide_eq_false (by decide)]
    refine iteF ?_
    have hL':=hL
    have hR':=hR
    have pG':Pot3 G p (n+200):=pG.more (by lia)
    have kG':Keep p p H G:=((K2.trans (zad hl0).keep).trans kG2).trans kG
    generalize G=G' at hL' hR' pG' kG' ⊢
   case' inr.inr=>
    rw[decide_eq_false (by decide)]
    refine iteF ⟨Nat.zero_le _,fun l0 hl0=> ?_⟩
    refine⟨_,rfl,rfl,_,rfl, ?_⟩
    rw[decide_eq_false (by decide)]
    refine iteF ⟨Nat.zero_le _,fun kk hkk=> ?_⟩
    refine⟨_,rfl,rfl,_,rfl, ?_⟩
    rw[decide_eq_false (by decide)]
    refine iteF ?_
    refine⟨_,rfl,rfl,_,rfl, ?_⟩
    rw[decide_eq_true rfl]
    refine iteT ⟨_,rfl,_,rfl,by lia,by lia, ?_⟩
    rw[Int.toNat_natCast]
    refine zfM (zao (lo:=0) (n:=N)) (zaS (by rw[zan];lia)) (c:=n+2) (k:=0) ((hp2.same (zad hl0)).same (zad hkk)) (fun r=>r.length=4/\∀d∈r,0<=d/\d<(N:Int)) (fun _ _=>trivial) (fun i x G hx kG pG QT q=> ?_) fun L zs rows G L0 Lp kG pG hL hR hzp hl hD=> ?_
    ·obtain ⟨rfl,hi⟩:=zbP hx
     have e0:=Int.emod_nonneg ((i:Int)+1) (show (N:Int)≠0 by lia)
     have e1:=Int.emod_lt_of_pos ((i:Int)+1) (show (0:Int)<N by lia)
     refine⟨_,rfl,_,_,rfl,rfl,_,rfl,_,_,rfl,rfl,by show (0:Int)<N;lia,by show 1<=sizeLine;decide,fun t ht=> ?_⟩
     refine⟨t,4,_,rfl,rfl,zab,by decide,by decide,by show 1*4<=sizeLine;decide,fun a ha=> ?_⟩
     refine q a [((i:Int)+1)%N,((i:Int)+1)%N,((i:Int)+1)%N,((i:Int)+1)%N] _ ((zad ht).free ha) zab ((zad ht).trans (zad ha)).keep (((pG.same (zad ht)).same (zad ha)).more (by lia)) ⟨rfl,fun d hd=> ?_⟩
     have:d=((i:Int)+1)%N:=by simpa using hd
     rw[this]
     exact⟨e0,e1⟩
    rw[zan] at pG hl
    have hL':=hL
    have hR':=hR
    have pG':Pot3 G p (n+200):=pG.more (by lia)
    have kG':Keep p p H G:=((K2.trans (zad hl0).keep).trans (zad hkk).keep).trans kG
    generalize G=G' at hL' hR' pG' kG' ⊢
   all_goals
    refine⟨_,rfl,_,rfl,by lia,by lia, ?_⟩
    rw[Int.toNat_natCast]
    refine zlf (ns:=num0 N) (za0 N▸zao (lo:=0) (n:=N)) (zaS (by rw[zbj];lia)) (k:=1) pG' (fun _ _=>trivial) (fun j y G2 hy kG2 pG2 QF QT2 q1 q2=> ?_) fun ea es G2 ea0 eap kG2 pG2 hes hsub=> ?_
    ·have hj:j<N:=by
      have:=(List.getElem?_eq_some_iff.mp hy).1
      rwa [zbj] at this
     refine⟨_,rfl,p,2,_,rfl,by decide,by decide,pG2,by lia,fun d G3 d0 d1 hp3 kp3=>⟨rfl,_,rfl, ?_⟩⟩
     refine ite2 (fun _=>⟨_,rfl, ?_⟩) (fun _=> ?_)
     ·exact q2 G3 kp3 (hp3.more (by lia))
     ·exact q1 G3 kp3 (hp3.more (by lia))
    rw[zbj] at pG2
    have hL2:=kG2 _ _ hL' Lp Lp
    have hR2:zhX G2 zs rows:=zci hR' fun z r hz h=>kG2 _ _ h (hzp z hz) (hzp z hz)
    refine⟨_,rfl,L,rfl,⟨_,SqL.of hL2⟩, ?_⟩
    have hzl:=Paired.length hR2
    refine zdk (za3 (xs:=zs.map V.ref)) (zaS (by rw[List.length_map];lia)) (RTup G2) (fun x v Ha Hb s h z r e e'=> ?_) (fun Ga sa=>SqL.of (sa _ _ hL2)) (fun x hx Ga sa Q' q=> ?_) fun acc ys G3 acc0 s3 hacc pr=> ?_
    ·obtain ⟨b,q1,q2⟩:=h z r e e'
     exact⟨b,q1,s _ _ q2⟩
    ·obtain ⟨z,hz,rfl⟩:=List.mem_map.mp hx
     obtain⟨r,hr'⟩:=zdP hR2 hz
     refine⟨_,rfl,z,_,rfl,.inl ⟨SqL.of (sa _ _ hr'),fun b hb=> ?_⟩⟩
     refine q _ _ (zad hb) fun z' r' e e'=> ?_
     cases e
     have e2:r.map V.int=r'.map V.int:=by
      have e3:=hr'.symm.trans e'
      injection e3 with e3
      injection e3
     exact⟨b,rfl,by rw[<-e2];exact zab⟩
    ·obtain ⟨zs',rfl,hrows⟩:=zgv hR2 pr
     refine⟨acc,_,rfl,.inl ⟨SqL.of hacc,fun R hR0=> ?_⟩⟩
     refine⟨_,rfl,ea,_,rfl,.inl ⟨SqL.of (zad hR0 _ _ (s3 _ _ hes)),fun E' hE0=> ?_⟩⟩
     refine⟨by show 2<=sizeLine;decide,fun z hz=> ?_⟩
     have t1:=zad (o:=.tup (zs'.map V.ref)) hR0
     have t2:=zad (o:=.tup (es.map V.int)) hE0
     have t3:=zad (o:=.tup [.ref R,.ref E']) hz
     refine k z N rows es _ ⟨R,E',zs',zab,(t2.trans t3) _ _ zab,hrows.same (t1.trans (t2.trans t3)),t3 _ _ zab,hl,N0,hD⟩ (by lia) hsub ((pG2.same (s3.trans (t1.trans (t2.trans t3)))).more (by lia)) ((kG'.trans kG2).trans (s3.trans (t1.trans (t2.trans t3))).keep)
end
end K52
namespace L2
theorem zcC {X:Cx}(K:PySem.W.Frag)(hK:X.K=K):OpR X (compareOp .NotIn) (rIn K true):=hK▸zeT
noncomputable def ziq:Sp:=fun vs H Q _=>∃(z:Addr) (N:Nat) (rows:List (List Int)) (ends:List Int),vs=[.ref z]/\IsMach H z N rows ends/\N<=900/\∀z' H',Same H H'->IsMach H' z' N rows (oppE N ends)->Q (.ref z') H'
theorem IsMach.rws {H:Hp}{z:Addr}{N:Nat}{rows:List (List Int)}{ends:List Int}(h:IsMach H z N rows ends):Rws N rows:=by
 obtain⟨R,E,zs,h1,h2,h3,h4,h5⟩:=h
 exact h5
theorem zjF (N:Nat)(ends:List Int):(((num0 N).map V.int).filter fun v=>match v with| .int k=> !inV (.int k) (ends.map V.int)|_=>false)=(oppE N ends).map V.int:=by
 unfold oppE
 rw[List.filter_map]
 congr 1
 refine List.filter_congr fun k _=> ?_
 show (!inV (.int k) (ends.map V.int))=_
 rw[za1]
end L2
namespace K52
open L2
noncomputable abbrev zb3:Stmt:=top 9
section
variable {P:Program}{w:World}{K:PySem.W.Frag}{mg:Str->Option Value}{base:Heap}
theorem sc_opposite:FnScope ["machine", "rows", "ends"] ["machine"] (zae zb3):=⟨rfl,rfl,rfl,by decide+kernel,rfl,by decide+kernel,by decide+kernel⟩
theorem zfU {f:Addr}{fd:FuncData}(F:Fun K "opposite" "opposite" zb3 f fd)(T:Top mg):FnOk P w K mg base CX0 1 f fd ["machine"] ziq:=by
 refine F.ok sc_opposite (fun vs H Q E h=> ?_) (fun cdv A outer s H vs Q E hr h=> ?_)
 ·obtain ⟨z,N,rows,ends,rfl,_⟩:=h
  rfl
 ·obtain ⟨z,N,rows,ends,rfl,hM,hN,k⟩:=h
  refine⟨_,(zaf (zca (pv 0) (zbW (i:=1) (j:=2) rfl sc_opposite.nd rfl rfl (Or.inl rfl) (Or.inr rfl) (Or.inl rfl) (Or.inl rfl)))
   (zai (zaz (za7 (zaa (pv 1) (zaa (zaV zaI (by rfl) T.n_tuple boot_tuple (zaa (zbF (N':=["state", "ends"]) (n:=1) (ix:=[2]) rfl (CompScope.of (sc:=zae zb3) (N:=["machine", "rows", "ends"]) (by decide+kernel) rfl rfl) (zas rfl T.n_range (zaa (zam zaE (by rfl) T.n_len PySem.boot_len (zaa (pv 1) zac)) zac)) (fun _ _ _ _ _=>⟨(zah (i:=0) (show (["state", "ends"]:List Str).Nodup by decide+kernel) rfl (Or.inl rfl)),(zbV (zar (zcC K rfl) (pv 0) (pv 1) (by rfl))),(pv 0)⟩)) zac)) zac)))))), ?_⟩
  obtain⟨R,E,zs,hz,hR,hrows,hE,hl,h0,hr4⟩:=id hM
  have lR:((zs.map V.ref).length:Int)=N:=by rw[zaC,Paired.length hrows,hl]
  refine⟨_,rfl,z,_,rfl,SqT.of hz,rfl,_,_,rfl,_,_,rfl,rfl, ?_⟩
  refine⟨_,rfl,_,rfl,R,_,rfl,.inr (SqT.of hR),_,rfl, ?_⟩
  rw[lR]
  refine⟨by lia,by lia, ?_⟩
  rw[Int.toNat_natCast]
  refine zd2 (zao (lo:=0) (n:=N)) (zaS (by rw[zan];lia)) (fun v=>match v with| .int k=> !inV (.int k) (ends.map V.int)|_=>false) (fun v=>v) (fun _ _=>trivial) (fun x hx H' s' Q' q=> ?_) (fun x hx _ H' s' Q' q=> ?_) fun acc hacc=> ?_
  ·obtain ⟨n,rfl,n0,n1⟩:=za5 hx
   exact⟨_,rfl,_,rfl,E,_,rfl,.inr (SqT.of (s' _ _ hE)),rfl,by rw[List.all_map];simp[zcH],_,rfl,q⟩
  ·exact⟨_,rfl,q⟩
  rw[List.map_id'' (fun _=>rfl),za0,zjF]
  refine⟨acc,_,rfl,.inl ⟨SqL.of zab,fun E' hE'=>⟨by show 2<=sizeLine;decide,fun z' hz'=> ?_⟩⟩⟩
  have sA:=zad (o:=.lst ((oppE N ends).map V.int)) hacc
  have sB:=zad (o:=.tup ((oppE N ends).map V.int)) hE'
  have sC:=zad (o:=.tup [.ref R,.ref E']) hz'
  refine k z' _ ((sA.trans sB).trans sC) ⟨R,E',zs,zab,((sA.trans sB).trans sC) _ _ hR,hrows.same ((sA.trans sB).trans sC),sC _ _ zab,hl,h0,hr4⟩
end
end K52
namespace L2
noncomputable def zir:Sp:=fun vs H Q _=>∃(a b:Addr) (r1 r2:List Int) (n2:Nat),vs=[.ref a,.ref b,.int n2]/\H a=some (.tup (r1.map V.int))/\H b=some (.tup (r2.map V.int))/\r1.length=4/\r2.length=4/\n2<=900/\∀p H',Same H H'->H' p=some (.tup ((zfO r1 r2 n2).map V.int))->Q (.ref p) H'
end L2
namespace K52
open L2
noncomputable abbrev zbB:Stmt:=top 11
section
variable {P:Program}{w:World}{K:PySem.W.Frag}{mg:Str->Option Value}{base:Heap}
theorem zeo:FnScope ["one", "other", "many"] ["one", "other", "many"] (zae zbB):=⟨rfl,rfl,rfl,by decide+kernel,rfl,by decide+kernel,by decide+kernel⟩
theorem zep {f:Addr}{fd:FuncData}(F:Fun K "joined_row" "joined_row" zbB f fd){M:Addr}(T:Top mg)(hMk:mg "MARKS" =some (.ref M))(hMs:∀H,SqT K H M (([0,1,2,3]:List Int).map V.int)):FnOk P w K mg base CX0 1 f fd ["one", "other", "many"] zir:=by
 refine F.ok zeo (fun vs H Q E h=> ?_) (fun cdv A outer s H vs Q E hr h=> ?_)
 ·obtain ⟨a,b,r1,r2,n2,rfl,_⟩:=h
  rfl
 ·obtain ⟨a,b,r1,r2,n2,rfl,ha,hb,h1,h2,hn,k⟩:=h
  refine⟨_,(zai (zaz (zaV zaI (by rfl) T.n_tuple boot_tuple (zaa (zbF (N':=["mark", "many", "other", "one"]) (n:=1) (ix:=[2,1,0]) rfl (CompScope.of (sc:=zae zbB) (N:=["one", "other", "many"]) (by decide+kernel) rfl rfl) (zcq (zkN (v:=.ref M) rfl hMk rfl)) (fun _ _ _ _ _=>⟨(zah (i:=0) (show (["mark", "many", "other", "one"]:List Str).Nodup by decide+kernel) rfl (Or.inl rfl)),zax,(zap za2 (zap zeK (zaT (zbl K rfl) (pv 3) (pv 0) (fun _ _=>rfl)) (pv 1)) (zaT (zbl K rfl) (pv 2) (pv 0) (fun _ _=>rfl)))⟩)) zac)))), ?_⟩
  refine⟨M,rfl,⟨_,hMs _⟩, ?_⟩
  have hat:∀{r:List Int} {x:Int},r.length=4->0<=x/\x<4->atI (r.map V.int) x=some (.int (r.getD x.toNat 0)):=fun h hx=>zdm hx.1 (by lia)
  refine zd2 (zbt (xs:=([0,1,2,3]:List Int).map V.int)) (zaS (by decide)) (fun _=>true) (fun v=>match v with| .int m=>.int (r1.getD m.toNat 0*n2+r2.getD m.toNat 0)|v=>v) (fun H' _=>hMs H') (fun _ _ _ _ _ q=>q) (fun x hx _ H' s' Q' q=> ?_) fun acc hacc=> ?_
  ·obtain ⟨m,hm,rfl⟩:=List.mem_map.mp hx
   have hm4:0<=m/\m<4:=by
    have:m=0∨m=1∨m=2∨m=3:=by simpa using hm
    lia
   exact⟨_,rfl,_,rfl,a,_,m,_,rfl,rfl,SqT.of (s' _ _ ha),hat h1 hm4,_,rfl,_,_,rfl,rfl,.inr ⟨by lia,by lia⟩,_,rfl,_,rfl,b,_,m,_,rfl,rfl,SqT.of (s' _ _ hb),hat h2 hm4,_,_,rfl,rfl,q⟩
  ·refine ⟨acc,_,rfl,.inl ⟨SqL.of zab,fun p hp=> ?_⟩⟩
   refine k p _ ((zad hacc).trans (zad hp)) ?_
   rw[zab]
   rfl
end
end K52
namespace L2
theorem zcc {X:Cx}(K:PySem.W.Frag)(hK:X.K=K):zbQ X (.builtin "len") (fun xs H Q=>∃p ys,xs=[.ref p]/\(SqL K H p ys∨SqT K H p ys)/\Q (.int ys.length) H):=hK▸zaE
theorem zcQ {X:Cx}(K:PySem.W.Frag)(hK:X.K=K):OpR X (compareOp .In) (rIn K false):=hK▸zdh
noncomputable def zfh:Sp:=fun vs H Q _=>∃(a b:Addr) (n1 n2:Nat) (rows1 rows2:List (List Int)) (e1 e2:List Int),vs=[.ref a,.ref b]/\IsMach H a n1 rows1 e1/\IsMach H b n2 rows2 e2/\n1*n2<=900/\∀z H',Same H H'->IsMach H' z (n1*n2) (zba rows1 rows2) (zbu n1 n2 e1 e2)->Q (.ref z) H'
theorem zdQ (n1 n2:Nat):zaF (zaY 0 n1) (fun _=>zaY 0 n2) (fun _ _=>true)=(prZ n1 n2).map fun kj=>(V.int kj.1,V.int kj.2):=by
 unfold zaF prZ
 rw[za0,za0,List.flatMap_map,List.map_flatMap]
 refine congrArg (fun f=>List.flatMap f (num0 n1)) (funext fun a=> ?_)
 rw[zfE,List.map_map,List.map_map]
 rfl
theorem zis (q:Nat->Bool):∀(k:Nat) (xs:List V),enF (fun i _=>q i) (fun i _=>.int (i:Int)) k xs=(((List.range xs.length).filter fun j=>q (k+j)).map fun j=>V.int ((k+j:Nat):Int))
 |_,[]=>rfl
 | k,x::t=>by
  show (if q k then [V.int (k:Int)] else [])++enF _ _ (k+1) t=_
  rw[zis q (k+1) t,List.length_cons,List.range_succ_eq_map,List.filter_cons,List.filter_map]
  have e:(fun j=>q (k+1+j))=(fun j=>q (k+j))∘Nat.succ:=funext fun j=>by
   show q (k+1+j)=q (k+(j+1))
   rw[show k+1+j=k+(j+1) by lia]
  rw[e]
  by_cases c:q k
  ·rw [if_pos c,if_pos (show q (k+0)=true from c),List.map_cons,List.map_map]
   show _::_=_::_
   congr 1
   refine List.map_congr_left fun j _=> ?_
   show V.int ((k+1+j:Nat):Int)=V.int ((k+(j+1):Nat):Int)
   rw[show k+1+j=k+(j+1) by lia]
  ·rw [if_neg c,if_neg (show ¬q (k+0)=true from c),List.map_map]
   show []++_=_
   rw[List.nil_append]
   refine List.map_congr_left fun j _=> ?_
   show V.int ((k+1+j:Nat):Int)=V.int ((k+(j+1):Nat):Int)
   rw[show k+1+j=k+(j+1) by lia]
theorem zg1 (n1 n2:Nat)(e1 e2:List Int){xs:List V}(hl:xs.length=n1*n2):enF (fun i _=>decide ((i:Int)/n2∈e1)&&decide ((i:Int)%n2∈e2)) (fun i _=>.int (i:Int)) 0 xs=(zbu n1 n2 e1 e2).map V.int:=by
 rw[zis (fun i=>decide ((i:Int)/n2∈e1)&&decide ((i:Int)%n2∈e2)),hl]
 unfold zbu num0
 rw[List.filter_map,List.map_map]
 simp only[Nat.zero_add]
 rfl
theorem zmo {n1 n2 i:Nat}(h:i<n1*n2):(prZ n1 n2)[i]? =some ((i:Int)/n2,(i:Int)%n2):=by
 have h2:0<n2:=Nat.pos_of_ne_zero fun e=>by rw[e,Nat.mul_zero] at h;lia
 have hb:=Nat.mod_lt i h2
 have ha:i/n2<n1:=(Nat.div_lt_iff_lt_mul h2).mpr h
 have:=zfN hb n1 (i/n2) ha
 rw[show i/n2*n2+i%n2=i by rw[Nat.mul_comm];exact Nat.div_add_mod i n2] at this
 rw[this]
 rfl
theorem zb4 {H:Hp}:∀{zs:List Addr} {rows:List (List Int)},RowsAt H zs rows->∀(i:Nat) z r,zs[i]? =some z->rows[i]? =some r->H z=some (.tup (r.map V.int))
 |_,_,.nil,_,_,_,h,_=>by cases h
 |_,_,.cons q t,0,z,r,h1,h2=>by
  simp at h1 h2
  subst h1
  subst h2
  exact q
 |_,_,.cons q t,i+1,z,r,h1,h2=>zb4 t i z r (by simpa using h1) (by simpa using h2)
theorem zfi {H0 H:Hp}(f:Int->Int->List Int):∀{ps:List Addr} {l:List (Int×Int)} {vs:List V},RowsAt H0 ps (l.map rowP)->Paired (fun x w=>∃(z r:Addr) (u v:Int),x=V.ref z/\H0 z=some (.tup [.int u,.int v])/\w=V.ref r/\H r=some (.tup ((f u v).map V.int))) (ps.map V.ref) vs->∃rs:List Addr,vs=rs.map V.ref/\RowsAt H rs (l.map fun ab=>f ab.1 ab.2)
 |_,[],_,.nil,.nil=>⟨[],rfl,.nil⟩
 |_,ab::l,_,.cons q t,.cons ⟨z,r,u,v,e1,e2,e3,e4⟩ pr=>by
  injection e1 with e1
  subst e1
  rw[q] at e2
  injection e2 with e2
  injection e2 with e2
  injection e2 with hu hv
  injection hv with hv _
  injection hu with hu
  injection hv with hv
  obtain⟨rs,rfl,R⟩:=zfi f t pr
  subst e3
  rw[<-hu,<-hv] at e4
  exact⟨r::rs,rfl,.cons e4 R⟩
end L2
namespace K52
open L2
noncomputable abbrev zdR:Stmt:=top 10
section
variable {P:Program}{w:World}{K:PySem.W.Frag}{mg:Str->Option Value}{base:Heap}
theorem sc_both:FnScope ["one", "other", "pairs", "rows", "ends"] ["one", "other"] (zae zdR):=⟨rfl,rfl,rfl,by decide+kernel,rfl,by decide+kernel,by decide+kernel⟩
theorem zlg {f:Addr}{fd:FuncData}(F:Fun K "both" "both" zdR f fd)(T:Top mg)(Cjoined_row:Cal P w K mg base 1 "joined_row" ["one", "other", "many"] zir):FnOk P w K mg base CX0 2 f fd ["one", "other"] zfh:=by
 refine F.ok sc_both (fun vs H Q E h=> ?_) (fun cdv A outer s H vs Q E hr h=> ?_)
 ·obtain ⟨a,b,n1,n2,rows1,rows2,e1,e2,rfl,_⟩:=h
  rfl
 ·obtain ⟨a,b,n1,n2,rows1,rows2,e1,e2,rfl,hM1,hM2,hN,k⟩:=h
  refine⟨_,(zaf (zhN (i:=2) rfl sc_both.nd rfl rfl (N':=["mine", "its", "other"]) (n:=2) (ix:=[1]) rfl (CompScope.of (sc:=zae zdR) (N:=["one", "other", "pairs", "rows", "ends"]) (by decide+kernel) rfl rfl) (zas rfl T.n_range (zaa (zam zaE (by rfl) T.n_len PySem.boot_len (zaa (zaT zbE (pv 0) zag (fun _ _=>rfl)) zac)) zac)) (fun _ _ _ _ _=>⟨(zah (i:=0) (show (["mine", "its", "other"]:List Str).Nodup by decide+kernel) rfl (Or.inl rfl)),zax,(zas rfl T.n_range (zaa (zam (zcc K rfl) (by rfl) T.n_len PySem.boot_len (zaa (zaT (zbl K rfl) (pv 2) zag (fun _ _=>rfl)) zac)) zac)),(zah (i:=1) (show (["mine", "its", "other"]:List Str).Nodup by decide+kernel) rfl (Or.inl rfl)),zax,(za7 (zaa (pv 0) (zaa (pv 1) zac)))⟩))
   (zaf (zau (i:=3) sc_both.nd rfl (Or.inl rfl) (zaV zaI (by rfl) T.n_tuple boot_tuple (zaa (zbF (N':=["mine", "its", "one", "other"]) (n:=2) (ix:=[0,1]) rfl (CompScope.of (sc:=zae zdR) (N:=["one", "other", "pairs", "rows", "ends"]) (by decide+kernel) rfl rfl) (zbL (pv 2)) (fun _ _ _ _ _=>⟨(zgf K (i:=0) (j:=1) rfl rfl (show (["mine", "its", "one", "other"]:List Str).Nodup by decide+kernel) rfl rfl (Or.inl rfl) (Or.inl rfl) (Or.inr rfl) (Or.inr rfl)),zax,(zak Cjoined_row (hr.mono (by decide)) rfl (zaa (zaT (zbl K rfl) (zaT (zbl K rfl) (pv 2) zag (fun _ _=>rfl)) (pv 0) (fun _ _=>rfl)) (zaa (zaT (zbl K rfl) (zaT (zbl K rfl) (pv 3) zag (fun _ _=>rfl)) (pv 1) (fun _ _=>rfl)) (zaa (zam (zcc K rfl) (by rfl) T.n_len PySem.boot_len (zaa (zaT (zbl K rfl) (pv 3) zag (fun _ _=>rfl)) zac)) zac))))⟩)) zac)))
   (zaf (zau (i:=4) sc_both.nd rfl (Or.inl rfl) (zaV zaI (by rfl) T.n_tuple boot_tuple (zaa (zbF (N':=["at", "mine", "its", "one", "other"]) (n:=3) (ix:=[0,1]) rfl (CompScope.of (sc:=zae zdR) (N:=["one", "other", "pairs", "rows", "ends"]) (by decide+kernel) rfl rfl) (zd8 rfl T.n_enumerate (zaa (pv 2) zac)) (fun _ _ _ _ _=>⟨(zjC K (i:=0) (j:=1) (l:=2) rfl rfl (show (["at", "mine", "its", "one", "other"]:List Str).Nodup by decide+kernel) rfl rfl rfl (Or.inl rfl) (Or.inl rfl) (Or.inl rfl) (Or.inr rfl) (Or.inr rfl) (Or.inr rfl)),(zbV (PW.pt (zlQ (zar (zcQ K rfl) (pv 1) (zaT (zbl K rfl) (pv 3) zag (fun _ _=>rfl)) (by rfl)) (zkO (zar (zcQ K rfl) (pv 2) (zaT (zbl K rfl) (pv 4) zag (fun _ _=>rfl)) (by rfl)))))),(pv 0)⟩)) zac)))
   (zai (zaz (za7 (zaa (pv 3) (zaa (pv 4) zac)))))))), ?_⟩
  obtain⟨R1,E1,zs1,hz1,hR1,hrows1,hE1,hl1,h01,hr1⟩:=id hM1
  obtain⟨R2,E2,zs2,hz2,hR2,hrows2,hE2,hl2,h02,hr2⟩:=id hM2
  have w1:=hM1.rws
  have w2:=hM2.rws
  have lR1:((zs1.map V.ref).length:Int)=n1:=by rw[zaC,Paired.length hrows1,hl1]
  have lR2:((zs2.map V.ref).length:Int)=n2:=by rw[zaC,Paired.length hrows2,hl2]
  have b1:n1<=900:=Nat.le_trans (Nat.le_mul_of_pos_right n1 h02) hN
  have b2:n2<=900:=Nat.le_trans (Nat.le_mul_of_pos_left n2 h01) hN
  refine⟨_,rfl,a,_,0,.ref R1,rfl,rfl,SqT.of hz1,rfl,R1,_,rfl,.inr (SqT.of hR1),_,rfl, ?_⟩
  rw[lR1]
  refine⟨by lia,by lia, ?_⟩
  rw[Int.toNat_natCast]
  refine zjh (zao (lo:=0) (n:=n1)) (fun _=>zaY 0 n2) (fun _ _=>true) RPrs ?_ (fun xy v G G' st ⟨k,j,z,e1,e2,e3⟩=>⟨k,j,z,e1,e2,st _ _ e3⟩) (fun _ _=>trivial) (fun x hx G s' Rr q'=> ?_) (fun x hx y hy G s' Q' q'=>q') (fun x hx y hy _ G s' Q' q'=> ?_) fun acc vs G hacc s' hvs pr=> ?_
  ·rw [zdQ,List.length_map,zcj]
   exact Nat.lt_of_le_of_lt hN (by decide)
  ·refine ⟨_,rfl,b,_,0,.ref R2,rfl,rfl,SqT.of (s' _ _ hz2),rfl,R2,_,rfl,.inr (SqT.of (s' _ _ hR2)),_,rfl, ?_⟩
   rw[lR2]
   refine⟨by lia,by lia, ?_⟩
   rw[Int.toNat_natCast]
   exact q' _ _ _ (Same.refl G) (zao (lo:=0) (n:=n2)) fun _ _ _=>trivial
  ·obtain ⟨n,rfl,n0,n1⟩:=za5 hx
   obtain⟨j,rfl,j0,j1⟩:=za5 hy
   exact⟨_,rfl,_,rfl,by show 2<=sizeLine;decide,fun t ht=>q' _ _ (zad ht) ⟨n,j,t,rfl,rfl,zab⟩⟩
  rw[zdQ] at pr
  obtain⟨ps,rfl,RP⟩:=zgk pr
  have lp:ps.length=n1*n2:=by rw[Paired.length RP,List.length_map,zcj]
  have at1:∀(i:Nat) (z:Addr),ps[i]? =some z->i<n1*n2/\G z=some (.tup [.int ((i:Int)/n2),.int ((i:Int)%n2)]):=fun i z h=>by
   have hi:i<n1*n2:=by rw[<-lp];exact (List.getElem?_eq_some_iff.mp h).1
   refine⟨hi,zb4 RP i z [(i:Int)/n2,(i:Int)%n2] h ?_⟩
   rw[List.getElem?_map,zmo hi]
   rfl
  have pair:∀x∈ps.map V.ref,∃(c:Addr) (u v:V),x=.ref c/\G c=some (.tup [u,v]):=fun x hx=>by
   obtain⟨z,hz,rfl⟩:=List.mem_map.mp hx
   obtain⟨i,hi⟩:=List.mem_iff_getElem?.mp hz
   exact⟨z,_,_,rfl,(at1 i z hi).2⟩
  refine⟨_,rfl,acc,rfl,⟨_,SqL.of hvs⟩, ?_⟩
  refine zgu (za3 (xs:=ps.map V.ref)) (Nat.lt_of_le_of_lt (by rw[zaC,lp];exact hN:(ps.map V.ref).length<=900) (by decide)) (fun x w H'=>∃(z r:Addr) (u v:Int),x=.ref z/\G z=some (.tup [.int u,.int v])/\w=.ref r/\H' r=some (.tup ((zfO (rows1.getD u.toNat []) (rows2.getD v.toNat []) n2).map V.int))) (fun x w H' H'' st ⟨z,r,u,v,e1,e2,e3,e4⟩=>⟨z,r,u,v,e1,e2,e3,st _ _ e4⟩) (fun _ s1=>SqL.of (s1 _ _ hvs)) pair (fun x hx c u v e hc G1 s1 Q' q'=> ?_) fun acc2 vs2 G2 hacc2 s2 hvs2 pr2=> ?_
  ·subst e
   obtain⟨z,hz,e⟩:=List.mem_map.mp hx
   injection e with e
   subst e
   obtain⟨i,hi⟩:=List.mem_iff_getElem?.mp hz
   obtain⟨hlt,hzi⟩:=at1 i z hi
   rw[hzi] at hc
   injection hc with hc
   injection hc with hc
   injection hc with hu hv
   injection hv with hv _
   subst hu
   subst hv
   have h2p:(0:Int)<n2:=by lia
   have u0:0<=(i:Int)/n2:=Int.ediv_nonneg (by lia) (by lia)
   have u1:(i:Int)/n2<n1:=Int.ediv_lt_of_lt_mul h2p (by rw[<-Int.natCast_mul];lia)
   have v0:=Int.emod_nonneg (i:Int) (by lia:(n2:Int)≠0)
   have v1:=Int.emod_lt_of_pos (i:Int) h2p
   have S1:=s'.trans s1
   have hu:((i:Int)/n2).toNat<zs1.length:=by have:=Paired.length hrows1;lia
   have hv:((i:Int)%n2).toNat<zs2.length:=by have:=Paired.length hrows2;lia
   have gu:rows1[((i:Int)/n2).toNat]? =some (rows1.getD ((i:Int)/n2).toNat []):=by rw[List.getD_eq_getElem?_getD,List.getElem?_eq_getElem (by lia)];rfl
   have gv:rows2[((i:Int)%n2).toNat]? =some (rows2.getD ((i:Int)%n2).toNat []):=by rw[List.getD_eq_getElem?_getD,List.getElem?_eq_getElem (by lia)];rfl
   have a1:atI (zs1.map V.ref) ((i:Int)/n2)=some (.ref zs1[((i:Int)/n2).toNat]):=by
    have:=zav (xs:=zs1.map V.ref) (j:=((i:Int)/n2).toNat) (v:=.ref zs1[((i:Int)/n2).toNat]) (by rw[List.getElem?_map,List.getElem?_eq_getElem hu];rfl)
    rwa [show ((((i:Int)/n2).toNat:Nat):Int)=(i:Int)/n2 by lia] at this
   have a2:atI (zs2.map V.ref) ((i:Int)%n2)=some (.ref zs2[((i:Int)%n2).toNat]):=by
    have:=zav (xs:=zs2.map V.ref) (j:=((i:Int)%n2).toNat) (v:=.ref zs2[((i:Int)%n2).toNat]) (by rw[List.getElem?_map,List.getElem?_eq_getElem hv];rfl)
    rwa [show ((((i:Int)%n2).toNat:Nat):Int)=(i:Int)%n2 by lia] at this
   have k1:=zb4 hrows1 _ _ _ (List.getElem?_eq_getElem hu) gu
   have k2:=zb4 hrows2 _ _ _ (List.getElem?_eq_getElem hv) gv
   refine⟨_,rfl,a,_,0,.ref R1,rfl,rfl,SqT.of (S1 _ _ hz1),rfl,_,rfl,R1,_,_,_,rfl,rfl,SqT.of (S1 _ _ hR1),a1, ?_⟩
   refine⟨_,rfl,b,_,0,.ref R2,rfl,rfl,SqT.of (S1 _ _ hz2),rfl,_,rfl,R2,_,_,_,rfl,rfl,SqT.of (S1 _ _ hR2),a2, ?_⟩
   refine⟨_,rfl,b,_,0,.ref R2,rfl,rfl,SqT.of (S1 _ _ hz2),rfl,R2,_,rfl,.inr (SqT.of (S1 _ _ hR2)), ?_⟩
   rw[lR2]
   refine⟨_,_,_,_,n2,rfl,S1 _ _ k1,S1 _ _ k2,(hr1 _ (List.mem_of_getElem? gu)).1,(hr2 _ (List.mem_of_getElem? gv)).1,b2,fun r G3 s3 hr3=>q' _ _ s3 ⟨z,r,_,_,rfl,hzi,rfl,hr3⟩⟩
  have hrow:∃rs:List Addr,vs2=rs.map V.ref/\RowsAt G2 rs (zba rows1 rows2):=by
   unfold zba
   rw[hl1,hl2]
   exact zfi (fun u v=>zfO (rows1.getD u.toNat []) (rows2.getD v.toNat []) n2) RP pr2
  obtain⟨rs,rfl,RB⟩:=hrow
  refine⟨acc2,_,rfl,.inl ⟨SqL.of hvs2,fun RR hRR=> ?_⟩⟩
  have sR:=zad (o:=.tup (rs.map V.ref)) hRR
  have s02:=s2.trans sR
  refine⟨_,rfl,acc,rfl,⟨_,SqL.of (s02 _ _ hvs)⟩, ?_⟩
  have S2:=s'.trans s02
  refine zjB (xs:=ps.map V.ref) (fun s1=>SqL.of (s1 _ _ (s02 _ _ hvs))) (by rw[zaC,lp];lia) (fun i _=>decide ((i:Int)/n2∈e1)&&decide ((i:Int)%n2∈e2)) (fun i _=>.int (i:Int)) (fun x hx=>by obtain⟨c,u,v,h1,h2⟩:=pair x hx;exact⟨c,u,v,h1,s02 _ _ h2⟩) (fun i x c u v hi e hc G3 s3 Q' q'=> ?_) (fun i x c u v hi e hc _ G3 s3 Q' q'=>⟨_,rfl,q'⟩) fun acc3 G3 hacc3 s3 hl3=> ?_
  ·subst e
   rw[List.getElem?_map] at hi
   obtain⟨z,hz,e⟩:=Option.map_eq_some_iff.mp hi
   injection e with e
   subst e
   obtain⟨hlt,hzi⟩:=at1 i z hz
   rw[s02 _ _ hzi] at hc
   injection hc with hc
   injection hc with hc
   injection hc with hu hv
   injection hv with hv _
   subst hu
   subst hv
   have S3:=S2.trans s3
   refine⟨_,rfl,_,rfl,a,_,1,.ref E1,rfl,rfl,SqT.of (S3 _ _ hz1),rfl,E1,_,rfl,.inr (SqT.of (S3 _ _ hE1)),rfl,by rw[List.all_map];simp[zcH],_,rfl, ?_⟩
   show if inV (.int ((i:Int)/n2)) (e1.map V.int)=true then _ else _
   rw[za1]
   by_cases c:(i:Int)/n2∈e1
   ·rw [decide_eq_true c]
    refine iteT ?_
    refine⟨_,rfl,_,rfl,b,_,1,.ref E2,rfl,rfl,SqT.of (S3 _ _ hz2),rfl,E2,_,rfl,.inr (SqT.of (S3 _ _ hE2)),rfl,by rw[List.all_map];simp[zcH],_,rfl, ?_⟩
    show Q' (inV (.int ((i:Int)%n2)) (e2.map V.int)) G3
    rw[za1]
    rw[decide_eq_true c,Bool.true_and] at q'
    exact q'
   ·rw [decide_eq_false c]
    refine iteF ?_
    rw[decide_eq_false c,Bool.false_and] at q'
    exact q'
  rw[zg1 n1 n2 e1 e2 (by rw[zaC,lp])] at hl3
  refine⟨acc3,_,rfl,.inl ⟨SqL.of hl3,fun EE hEE=> ?_⟩⟩
  have sE:=zad (o:=.tup ((zbu n1 n2 e1 e2).map V.int)) hEE
  refine⟨_,rfl,_,rfl,by show 2<=sizeLine;decide,fun z hz=> ?_⟩
  have sZ:=zad (o:=.tup [.ref RR,.ref EE]) hz
  have s3E:=(s3.trans sE).trans sZ
  have wB:=zbA w1 w2
  exact k z _ (S2.trans s3E) ⟨RR,EE,rs,zab,s3E _ _ zab,RB.same (sR.trans s3E),sZ _ _ zab,wB⟩
end
end K52
namespace L2
noncomputable def eitE (n1 n2:Nat)(e1 e2:List Int):List Int:=oppE (n1*n2) (zbu n1 n2 (oppE n1 e1) (oppE n2 e2))
noncomputable def zc6:Sp:=fun vs H Q _=>∃(a b:Addr) (n1 n2:Nat) (rows1 rows2:List (List Int)) (e1 e2:List Int),vs=[.ref a,.ref b]/\IsMach H a n1 rows1 e1/\IsMach H b n2 rows2 e2/\n1*n2<=900/\∀z H',Same H H'->IsMach H' z (n1*n2) (zba rows1 rows2) (eitE n1 n2 e1 e2)->Q (.ref z) H'
theorem zdS {n1 n2:Nat}{rows1 rows2:List (List Int)}(h1:Rws n1 rows1)(h2:Rws n2 rows2)(e1 e2 os:List Int):metB (zba rows1 rows2) (eitE n1 n2 e1 e2) os=(metB rows1 e1 os||metB rows2 e2 os):=by
 unfold eitE
 rw[zbX (zbA h1 h2),zc3 h1 h2,zbX h1,zbX h2]
 cases metB rows1 e1 os<;>cases metB rows2 e2 os<;>rfl
end L2
namespace K52
open L2
noncomputable abbrev zeq:Stmt:=top 12
section
variable {P:Program}{w:World}{K:PySem.W.Frag}{mg:Str->Option Value}{base:Heap}
theorem zit:FnScope ["one", "other"] ["one", "other"] (zae zeq):=⟨rfl,rfl,rfl,by decide+kernel,rfl,by decide+kernel,by decide+kernel⟩
theorem ziu {f:Addr}{fd:FuncData}(F:Fun K "either" "either" zeq f fd)(Copposite:Cal P w K mg base 1 "opposite" ["machine"] ziq)(Cboth:Cal P w K mg base 2 "both" ["one", "other"] zfh):FnOk P w K mg base CX0 3 f fd ["one", "other"] zc6:=by
 refine F.ok zit (fun vs H Q E h=> ?_) (fun cdv A outer s H vs Q E hr h=> ?_)
 ·obtain ⟨a,b,n1,n2,rows1,rows2,e1,e2,rfl,_⟩:=h
  rfl
 ·obtain ⟨a,b,n1,n2,rows1,rows2,e1,e2,rfl,hM1,hM2,hN,k⟩:=h
  refine⟨_,(zai (zaz (zak Copposite (hr.mono (by decide)) rfl (zaa (zak Cboth (hr.mono (by decide)) rfl (zaa (zak Copposite (hr.mono (by decide)) rfl (zaa (pv 0) zac)) (zaa (zak Copposite (hr.mono (by decide)) rfl (zaa (pv 1) zac)) zac))) zac)))), ?_⟩
  have p1:=hM1.rws.2.1
  have p2:=hM2.rws.2.1
  have b1:n1<=900:=Nat.le_trans (Nat.le_mul_of_pos_right n1 p2) hN
  have b2:n2<=900:=Nat.le_trans (Nat.le_mul_of_pos_left n2 p1) hN
  refine⟨_,rfl,a,n1,rows1,e1,rfl,hM1,b1,fun z1 H1 s1 m1=> ?_⟩
  refine⟨_,rfl,b,n2,rows2,e2,rfl,hM2.sameT s1.t,b2,fun z2 H2 s2 m2=> ?_⟩
  refine⟨z1,z2,n1,n2,rows1,rows2,_,_,rfl,m1.sameT s2.t,m2,hN,fun z3 H3 s3 m3=> ?_⟩
  exact⟨z3,_,_,_,rfl,m3,hN,fun z4 H4 s4 m4=>k z4 H4 ((s1.trans s2).trans (s3.trans s4)) m4⟩
end
end K52
namespace L2
theorem zfV {J:It}{Ok:Hp->Prop}{xs:List V}{tt:TT}{te:TE}{ix:List Nat}{σ:L2.St}{H1:Hp}{Q:VK}(Y:Yields J Ok xs)(small:xs.length<sizeLine)(p:V->Bool)(hok:∀H,Same H1 H->Ok H)
  (ht:∀x∈xs,∀H,Same H1 H->∀Q':Bool->Hp->Prop,Q' (p x) H->tt (some x::ix.map fun i=>σ.getD i none) H Q')
  (he:∀x∈xs,∀H,Same H1 H->∀Q':VK,Q' (.int 1) H->te (some x::ix.map fun i=>σ.getD i none) H Q')
  (fin:∀acc H',H1 acc=none->Same H1 H'->H' acc=some (.lst ((List.replicate (xs.filter p).length (1:Int)).map V.int))->Q (.ref acc) H'):
  LcW J H1 (zaU 0) tt te 1 ix σ Q:=by
 refine zgj Y small p (fun _ v _=>v=.int 1) (fun _ _ _ _ _ h=>h) hok ht (fun x hx _ H sm Q' q=>he x hx H sm Q' (q _ _ (Same.refl H) rfl)) fun acc ys H' hacc sm hys pr=> ?_
 refine fin acc H' hacc sm ?_
 rw[hys]
 congr 2
 have:∀{l:List V} {ys:List V},Paired (fun _ v=>v=V.int 1) l ys->ys=(List.replicate l.length (1:Int)).map V.int:=by
  intro l ys h
  induction h with
  |nil=>rfl
  |cons e _ ih=>rw[e,ih];rfl
 exact this pr
noncomputable def zfj:Sp:=fun vs H Q _=>∃(m:Nat) (a:Addr) (b:List Int),vs=[.int m,.ref a]/\H a=some (.tup (b.map V.int))/\m<=60/\∀p H',Same H H'->H p=none->H' p=some (.lst ((zaB m b).map V.int))->Q (.ref p) H'
theorem zfW {l ys:List V}(h:Paired (fun x v=>v=x) l ys):ys=l:=by
 induction h with
 |nil=>rfl
 |cons e _ ih=>rw[e,ih]
theorem zfX (m:Nat)(r:List Int):((zaY 0 m).filter fun v=>match v with| .int k=> !inV (.int k) (r.map V.int)|_=>false)=(zaB m r).map V.int:=by
 rw[za0,List.filter_map]
 unfold zaB
 congr 1
 refine List.filter_congr fun k _=> ?_
 show (!inV (.int k) (r.map V.int))=_
 rw[za1]
 by_cases c:k∈r
 ·rw[decide_eq_true c,decide_eq_false (fun z=>z c)];rfl
 ·rw[decide_eq_false c,decide_eq_true c];rfl
end L2
namespace K52
open L2
noncomputable abbrev zbo:Stmt:=top 1
section
variable {P:Program}{w:World}{K:PySem.W.Frag}{mg:Str->Option Value}{base:Heap}
theorem zdy:FnScope ["many", "begun"] ["many", "begun"] (zae zbo):=⟨rfl,rfl,rfl,by decide+kernel,rfl,by decide+kernel,by decide+kernel⟩
theorem zdz {f:Addr}{fd:FuncData}(F:Fun K "numbers_left" "numbers_left" zbo f fd)(T:Top mg):FnOk P w K mg base CX0 1 f fd ["many", "begun"] zfj:=by
 refine F.ok zdy (fun vs H Q E h=> ?_) (fun cdv A outer s H vs Q E hr h=> ?_)
 ·obtain ⟨m,a,b,rfl,_⟩:=h
  rfl
 ·obtain ⟨m,a,b,rfl,ha,hm,k⟩:=h
  refine⟨_,(zai (zaz (zbF (N':=["number", "begun"]) (n:=1) (ix:=[1]) rfl (CompScope.of (sc:=zae zbo) (N:=["many", "begun"]) (by decide+kernel) rfl rfl) (zas rfl T.n_range (zaa (pv 0) zac)) (fun _ _ _ _ _=>⟨(zah (i:=0) (show (["number", "begun"]:List Str).Nodup by decide+kernel) rfl (Or.inl rfl)),(zbV (zar (zcC K rfl) (pv 0) (pv 1) (by rfl))),(pv 0)⟩)))), ?_⟩
  refine⟨_,rfl,_,rfl,by lia,by lia, ?_⟩
  rw[Int.toNat_natCast]
  refine zgj (zao (lo:=0) (n:=m)) (zaS (by rw[zan];lia)) (fun v=>match v with| .int k=> !inV (.int k) (b.map V.int)|_=>false) (fun x v _=>v=x) (fun _ _ _ _ _ h=>h) (fun _ _=>trivial) (fun x hx G s' Q' q'=> ?_) (fun x hx _ G s' Q' q'=> ?_) fun acc ys G hacc s' hys pr=> ?_
  ·obtain ⟨n,rfl,n0,n1⟩:=za5 hx
   exact⟨_,rfl,_,rfl,a,_,rfl,.inr (SqT.of (s' _ _ ha)),rfl,by rw[List.all_map];simp[zcH],_,rfl,q'⟩
  ·exact⟨_,rfl,q' _ _ (Same.refl G) rfl⟩
  ·rw [zfX] at pr
   rw[zfW pr] at hys
   exact k acc G s' hacc hys
end
end K52
namespace L2
theorem zm5 (m:Nat):(List.replicate ((m:Int)+1).toNat [V.int 0]).flatten=(rwL (m+1) fun _=>0).map V.int:=by
 rw[show ((m:Int)+1).toNat=m+1 by lia]
 unfold rwL
 rw[List.map_map]
 generalize m+1=k
 induction k with
 |zero=>rfl
 |succ k ih=>rw[List.replicate_succ',List.flatten_append,ih,List.range_succ,List.map_append];rfl
theorem zer {n r:Nat}(h:r<n):ixN n (r:Int)=some r:=by
 unfold ixN
 rw[if_pos (by lia),if_pos (by lia)]
 simp
theorem zfk {m:Nat}{f:Nat->Int}{r:Nat}(h:r<m):((rwL m f).map V.int)[r]? =some (.int (f r)):=by
 rw[List.getElem?_map,zij h];rfl
noncomputable def pF (rows:List (List Int))(m:Nat)(g:Nat->Nat->Int)(i k s r:Nat):Int:=(if atZr rows i 0=(s:Int) then (if r=0 then sT (g i) m else 0) else 0)+(if atZr rows i 1=(s:Int) then (if 1<=r/\r<k then sT (g i) m-sT (g i) r else 0) else 0)+(if atZr rows i 2=(s:Int) then (if 1<=r/\r<k then sT (g i) r else 0) else 0)+(if atZr rows i 3=(s:Int) then (if r=m then sT (g i) m else 0) else 0)
end L2
namespace K52
open L2
noncomputable abbrev zbq:Stmt:=top 15
section
variable {P:Program}{w:World}{K:PySem.W.Frag}{mg:Str->Option Value}{base:Heap}
theorem sc_one_behind:FnScope ["rows", "ranks", "size", "longer", "row", "ways", "lowest", "fallen", "risen", "highest", "orders", "lesser", "rank"] ["rows", "ranks", "size"] (zae zbq):=⟨rfl,rfl,rfl,by decide+kernel,rfl,by decide+kernel,by decide+kernel⟩
theorem zes {f:Addr}{fd:FuncData}(F:Fun K "one_behind" "one_behind" zbq f fd)(T:Top mg):FnOk P w K mg base CX0 1 f fd ["rows", "ranks", "size"] zik:=by
 refine F.ok sc_one_behind (fun vs H Q E h=> ?_) (fun cdv A outer s H vs Q E hr h=> ?_)
 ·obtain ⟨R,L,rs,zs,N,m,rows,g,rfl,_⟩:=h
  rfl
 ·obtain ⟨R,L,rs,zs,N,m,rows,g,rfl,hR,hT,m1,m2,hN,k⟩:=h
  refine⟨_,(zaf (zau (i:=3) sc_one_behind.nd rfl (Or.inr rfl) (zbF (N':=["row", "size"]) (n:=1) (ix:=[2]) rfl (CompScope.of (sc:=zae zbq) (N:=["rows", "ranks", "size", "longer", "row", "ways", "lowest", "fallen", "risen", "highest", "orders", "lesser", "rank"]) (by decide+kernel) rfl rfl) (zcq (pv 0)) (fun _ _ _ _ _=>⟨(zah (i:=0) (show (["row", "size"]:List Str).Nodup by decide+kernel) rfl (Or.inl rfl)),zax,(zap zki (zbD (zaa zag zac)) (zap za2 (pv 1) zag))⟩)))
   (zaf (zby PassesOwn.never rfl (zlb rfl T.n_zip (zaa (pv 0) (zaa (pv 1) zac))) (zbW (i:=4) (j:=5) rfl sc_one_behind.nd rfl rfl (Or.inl rfl) (Or.inl rfl) (Or.inl rfl) (Or.inl rfl))
    (zaf (zca (zbF (N':=["state", "longer"]) (n:=1) (ix:=[3]) rfl (CompScope.of (sc:=zae zbq) (N:=["rows", "ranks", "size", "longer", "row", "ways", "lowest", "fallen", "risen", "highest", "orders", "lesser", "rank"]) (by decide+kernel) rfl rfl) (zcq (pv 4)) (fun _ _ _ _ _=>⟨(zah (i:=0) (show (["state", "longer"]:List Str).Nodup by decide+kernel) rfl (Or.inl rfl)),zax,(zaT (zd5 K rfl) (pv 1) (pv 0) (fun _ _=>rfl))⟩)) (zl7 rfl (zaA (zah (i:=6) sc_one_behind.nd rfl (Or.inl rfl) (Or.inl rfl)) (zaA (zah (i:=7) sc_one_behind.nd rfl (Or.inl rfl) (Or.inl rfl)) (zaA (zah (i:=8) sc_one_behind.nd rfl (Or.inl rfl) (Or.inl rfl)) (zaA (zah (i:=9) sc_one_behind.nd rfl (Or.inl rfl) (Or.inl rfl)) zbU))))))
    (zaf (zau (i:=10) sc_one_behind.nd rfl (Or.inl rfl) (zam (zbp rfl) (by rfl) T.n_sum boot_sum (zaa (pv 5) zac)))
    (zaf (zdZ (pv 6) zag zcB (pv 10) zeJ zbM)
    (zaf (zdZ (pv 9) (pv 2) zcB (pv 10) zeJ zbM)
    (zaf (zau (i:=11) sc_one_behind.nd rfl (Or.inl rfl) zag)
    (zai (zby PassesOwn.never rfl (zcr rfl T.n_range (zaa zag (zaa (pv 2) zac))) (zah (i:=12) sc_one_behind.nd rfl (Or.inl rfl))
     (zaf (zkd (i:=11) sc_one_behind.nd rfl (Or.inl rfl) (zaT zbe (pv 5) (zap zbf (pv 12) zag) (fun _ _=>rfl)) zeJ)
     (zaf (zdZ (pv 8) (pv 12) zcB (pv 11) zeJ zbM)
     (zai (zdZ (pv 7) (pv 12) zcB (zap zbf (pv 10) (pv 11)) zeJ zbM))))))))))))
   (zai (zaz (pv 3))))), ?_⟩
  have hrl:rs.length=N:=by rw[Paired.length hR.at_,hR.len]
  refine⟨_,rfl,R,rfl,⟨_,SqT.of hR.top⟩, ?_⟩
  refine zfd (zbt (xs:=rs.map V.ref)) (zaS (by rw[List.length_map];lia)) (fun _=>(rwL (m+1) fun _=>0).map V.int) (fun G s'=>SqT.of (s' _ _ hR.top)) (fun i x G hx s' QT q=> ?_) fun Lg zg G0 hLg sG hLG hzl hznd hzat=> ?_
  ·refine ⟨by show 1<=sizeLine;decide,fun l0 hl0=>⟨_,rfl,_,_,rfl,rfl, ?_⟩⟩
   refine⟨l0,_,_,rfl,rfl,zab,by lia,by lia, ?_,fun z hz=> ?_⟩
   ·rw [show ((m:Int)+1).toNat=m+1 by lia]
    exact Nat.le_trans (by show 1*(m+1)<=200;lia) (by decide)
   ·refine q z _ ((zad hl0).free hz) ?_ ((zad hl0).trans (zad hz))
    rw[zab]
    exact congrArg (fun x=>some (HO.lst x)) (zm5 m)
  rw[List.length_map,hrl] at hzl
  have hzH:∀(i:Nat) (z:Addr),zg[i]? =some z->H z=none:=fun i z hz=>(hzat i z hz).2.1
  have T0:TabAt G0 Lg zg N (m+1) fun _ _=>0:=⟨hLG,hzl,hznd,fun hm=>by
   obtain⟨j,hj⟩:=List.getElem?_of_mem hm
   exact (hzat j Lg hj).2.2 rfl,fun i z hz=>(hzat i z hz).1⟩
  refine⟨_,rfl,_,rfl,R,L,rfl,⟨_,SqT.of (sG _ _ hR.top)⟩,⟨_,SqL.of (sG _ _ hT.top)⟩, ?_⟩
  refine zjA (K:=K) (xs:=rs.map V.ref) (ys:=zs.map V.ref) (fun i σ G=>∃c4 c5 c6 c7 c8 c9 c10 c11 c12:Option V,σ=[some (.ref R),some (.ref L),some (.int m),some (.ref Lg),c4,c5,c6,c7,c8,c9,c10,c11,c12]/\Same H G/\TabAt G Lg zg N (m+1) fun s r=>sT (fun i=>cF rows m g i s r) i) ?_ (by rw[List.length_map,List.length_map,hrl,hT.len]) ?_ ?_ ?_
  ·exact⟨none,none,none,none,none,none,none,none,none,rfl,sG,T0⟩
  ·rintro i σ G hi ⟨c4,c5,c6,c7,c8,c9,c10,c11,c12,rfl,sm,tb⟩
   exact⟨SqT.of (sm _ _ hR.top),SqL.of (sm _ _ hT.top)⟩
  ·rintro i x y t σ G hx hy ⟨c4,c5,c6,c7,c8,c9,c10,c11,c12,rfl,sm,tb⟩ ht
   have hi:i<N:=by
    have:=(List.getElem?_eq_some_iff.mp hx).1
    rw[List.length_map] at this
    lia
   have S1:=sm.trans (zad (o:=.tup [x,y]) ht)
   have tb1:=tb.same (zad (o:=.tup [x,y]) ht)
   have ht1:=@zab G t (.tup [x,y])
   generalize upd G t (.tup [x,y])=G1 at S1 tb1 ht1 ⊢
   obtain⟨rz,hrz,hrow,hat⟩:=hR.row hi
   obtain⟨wz,hwz,hway⟩:=hT.addr hi
   rw[List.getElem?_map,hrz] at hx
   rw[List.getElem?_map,hwz] at hy
   cases hx
   cases hy
   refine⟨t,_,rfl,SqT.of ht1,rfl,_,_,rfl,_,_,rfl,rfl, ?_⟩
   obtain⟨a0,b0,d0⟩:=hat 0 (by decide) (by decide)
   obtain⟨a1,b1,d1⟩:=hat 1 (by decide) (by decide)
   obtain⟨a2,b2,d2⟩:=hat 2 (by decide) (by decide)
   obtain⟨a3,b3,d3⟩:=hat 3 (by decide) (by decide)
   have e4:rows.getD i []=[atZr rows i 0,atZr rows i 1,atZr rows i 2,atZr rows i 3]:=by
    have hl4:(rows.getD i []).length=4:=by
     have e:rows.getD i []=rows[i]'(by rw[hR.len];exact hi):=by rw[List.getD_eq_getElem?_getD,List.getElem?_eq_getElem (by rw[hR.len];exact hi)];rfl
     rw[e]
     exact (hR.rng _ (List.getElem_mem _)).1
    generalize rows.getD i []=l at hl4 a0 a1 a2 a3
    match l,hl4 with
    |[p,q,u,v],_=>
     have f0:p=atZr rows i 0:=by simpa using a0
     have f1:q=atZr rows i 1:=by simpa using a1
     have f2:u=atZr rows i 2:=by simpa using a2
     have f3:v=atZr rows i 3:=by simpa using a3
     rw[f0,f1,f2,f3]
   rw[e4] at hrow
   obtain⟨n0,h0⟩:∃n:Nat,atZr rows i 0=(n:Int):=⟨_,(Int.toNat_of_nonneg b0).symm⟩
   obtain⟨n1,h1⟩:∃n:Nat,atZr rows i 1=(n:Int):=⟨_,(Int.toNat_of_nonneg b1).symm⟩
   obtain⟨n2,h2⟩:∃n:Nat,atZr rows i 2=(n:Int):=⟨_,(Int.toNat_of_nonneg b2).symm⟩
   obtain⟨n3,h3⟩:∃n:Nat,atZr rows i 3=(n:Int):=⟨_,(Int.toNat_of_nonneg b3).symm⟩
   rw[h0,h1,h2,h3] at hrow
   have q0:n0<N:=by lia
   have q1:n1<N:=by lia
   have q2:n2<N:=by lia
   have q3:n3<N:=by lia
   obtain⟨z0,hz0,-⟩:=tb1.addr q0
   obtain⟨z1,hz1,-⟩:=tb1.addr q1
   obtain⟨z2,hz2,-⟩:=tb1.addr q2
   obtain⟨z3,hz3,-⟩:=tb1.addr q3
   refine⟨_,rfl,rz,rfl,⟨_,SqT.of (S1 _ _ hrow)⟩, ?_⟩
   refine zd2 (zbt (xs:=([(n0:Int),n1,n2,n3]).map V.int)) (zaS (by show 4<=1000;decide)) (fun _=>true) (fun v=>match v with| .int k=>.ref (zg.getD k.toNat 0)|_=>.non) (fun G' s'=>SqT.of (s' _ _ (S1 _ _ hrow))) (fun x hx G' s' Q' q=>q) (fun x hx _ G' s' Q' q=> ?_) fun acc hacc=> ?_
   ·have hx':x=.int n0∨x=.int n1∨x=.int n2∨x=.int n3:=by simpa using hx
    have hget:∀n:Nat,n<N->(zg.map V.ref)[n]? =some (.ref (zg.getD n 0)):=fun n hn=>by
     rw[List.getElem?_map,List.getD_eq_getElem?_getD,List.getElem?_eq_getElem (by lia)];rfl
    rcases hx' with rfl|rfl|rfl|rfl
    ·exact⟨_,rfl,_,rfl,Lg,_,_,_,rfl,rfl,SqL.of (s' _ _ tb1.top),zav (hget n0 q0),q⟩
    ·exact⟨_,rfl,_,rfl,Lg,_,_,_,rfl,rfl,SqL.of (s' _ _ tb1.top),zav (hget n1 q1),q⟩
    ·exact⟨_,rfl,_,rfl,Lg,_,_,_,rfl,rfl,SqL.of (s' _ _ tb1.top),zav (hget n2 q2),q⟩
    ·exact⟨_,rfl,_,rfl,Lg,_,_,_,rfl,rfl,SqL.of (s' _ _ tb1.top),zav (hget n3 q3),q⟩
   have g4:((([(n0:Int),n1,n2,n3]).map V.int).filter fun _=>true).map (fun v=>match v with| .int k=>V.ref (zg.getD k.toNat 0)|_=>.non)=[.ref z0,.ref z1,.ref z2,.ref z3]:=by
    have gd:∀{n:Nat} {z:Addr},zg[n]? =some z->zg.getD n 0=z:=fun h=>by rw[List.getD_eq_getElem?_getD,h];rfl
    rw[List.filter_eq_self.mpr fun _ _=>rfl]
    show [V.ref (zg.getD (n0:Int).toNat 0),V.ref (zg.getD (n1:Int).toNat 0),V.ref (zg.getD (n2:Int).toNat 0),V.ref (zg.getD (n3:Int).toNat 0)]=_
    rw[Int.toNat_natCast,Int.toNat_natCast,Int.toNat_natCast,Int.toNat_natCast,gd hz0,gd hz1,gd hz2,gd hz3]
   rw[g4]
   have S2:=S1.trans (zad (o:=.lst [.ref z0,.ref z1,.ref z2,.ref z3]) hacc)
   have tb2:=tb1.same (zad (o:=.lst [.ref z0,.ref z1,.ref z2,.ref z3]) hacc)
   have hac:=@zab G1 acc (.lst [.ref z0,.ref z1,.ref z2,.ref z3])
   generalize upd G1 acc (.lst [.ref z0,.ref z1,.ref z2,.ref z3])=G2 at S2 tb2 hac ⊢
   clear tb1 S1 hacc ht1 ht tb sm G1 G
   refine⟨acc,_,rfl,SqL.of hac,rfl,_,_,rfl,_,_,rfl,_,_,rfl,_,_,rfl,rfl, ?_⟩
   have hway2:=S2 _ _ hway
   refine⟨_,rfl,wz,_,rfl,hway2, ?_⟩
   rw[zfQ]
   refine⟨_,rfl,z0,_,0,_,rfl,rfl,tb2.at_ _ _ hz0,zfk (by lia),_,rfl,_,_,rfl,rfl,z0,_,_,0,rfl,rfl,tb2.at_ _ _ hz0,zer (r:=0) (by rw[List.length_map,zck];lia), ?_⟩
   have tb3:=tb2.put hz0 (r:=0) (by lia) (sT (g i) m)
   have S3:Same H _:=zaW S2 (hzH _ _ hz0) (o:=.lst (((rwL (m+1) fun r=>sT (fun i=>cF rows m g i n0 r) i).map V.int).set 0 (.int (sT (fun i=>cF rows m g i n0 0) i+sT (g i) m))))
   generalize upd G2 z0 (.lst (((rwL (m+1) fun r=>sT (fun i=>cF rows m g i n0 r) i).map V.int).set 0 (.int (sT (fun i=>cF rows m g i n0 0) i+sT (g i) m))))=G3 at tb3 S3 ⊢
   clear tb2 S2 hway2 hac G2
   refine⟨_,rfl,_,rfl,z3,_,m,_,rfl,rfl,tb3.at_ _ _ hz3,zfk (by lia),_,rfl,_,_,rfl,rfl,z3,_,_,m,rfl,rfl,tb3.at_ _ _ hz3,zer (by rw[List.length_map,zck];lia), ?_⟩
   have tb4:=(tb3.put hz3 (r:=m) (by lia) (sT (g i) m)).congr (g':=fun s r=>sT (fun i=>cF rows m g i s r) i+pF rows m g i 1 s r) fun s r hs hr=>by
    unfold addF pF
    rw[h0,h1,h2,h3]
    rw[show (if 1<=r/\r<1 then sT (g i) m-sT (g i) r else 0)=0 from if_neg (by lia),show (if 1<=r/\r<1 then sT (g i) r else 0)=0 from if_neg (by lia)]
    simp only[ite_self]
    by_cases c0:n0=s
    ·subst c0
     by_cases c3:n3=n0
     ·subst c3
      by_cases r0:r=0
      ·subst r0
       simp[show ¬(0=m) by lia]
      ·by_cases rm:r=m
       ·subst rm
        simp[r0]
       ·simp[r0,rm]
     ·by_cases r0:r=0
      ·subst r0
       simp[c3,show ¬((n3:Int)=n0) by lia,Ne.symm c3,show ¬(0=m) by lia]
      ·simp[r0,c3,show ¬((n3:Int)=n0) by lia,show ¬(n0=n3) from fun e=>c3 e.symm]
    ·by_cases c3:n3=s
     ·subst c3
      by_cases rm:r=m
      ·subst rm
       simp[c0,show ¬((n0:Int)=n3) by lia,show ¬(n3=n0) from fun e=>c0 e.symm]
      ·simp[rm,c0,show ¬((n0:Int)=n3) by lia,show ¬(n3=n0) from fun e=>c0 e.symm]
     ·simp[show ¬((n0:Int)=s) by lia,show ¬((n3:Int)=s) by lia,show ¬(s=n0) from fun e=>c0 e.symm,show ¬(s=n3) from fun e=>c3 e.symm]
   have S4:Same H _:=zaW S3 (hzH _ _ hz3) (o:=.lst (((rwL (m+1) (addF (fun s r=>sT (fun i=>cF rows m g i s r) i) n0 0 (sT (g i) m) n3)).map V.int).set m (.int (addF (fun s r=>sT (fun i=>cF rows m g i s r) i) n0 0 (sT (g i) m) n3 m+sT (g i) m))))
   generalize upd G3 z3 (.lst (((rwL (m+1) (addF (fun s r=>sT (fun i=>cF rows m g i s r) i) n0 0 (sT (g i) m) n3)).map V.int).set m (.int (addF (fun s r=>sT (fun i=>cF rows m g i s r) i) n0 0 (sT (g i) m) n3 m+sT (g i) m))))=G4 at tb4 S4 ⊢
   clear tb3 S3 G3
   refine⟨_,rfl,_,_,rfl,⟨by decide,by decide,by lia,by lia⟩, ?_⟩
   refine zcs (n:=((m:Int)-1).toNat) (fun j σ G=>∃c12:Option V,σ=[some (.ref R),some (.ref L),some (.int m),some (.ref Lg),some (.ref rz),some (.ref wz),some (.ref z0),some (.ref z1),some (.ref z2),some (.ref z3),some (.int (sT (g i) m)),some (.int (sT (g i) j)),c12]/\Same H G/\TabAt G Lg zg N (m+1) fun s r=>sT (fun i=>cF rows m g i s r) i+pF rows m g i (j+1) s r) ?_ ?_ ?_
   ·exact⟨c12,rfl,S4,tb4⟩
   ·rintro j σ G hj ⟨c12,rfl,sm,tb⟩
    have hjm:j+1<m:=by lia
    have hway3:=sm _ _ hway
    rw[show (1:Int)+(j:Int)=((j+1:Nat):Int) by lia]
    refine⟨_,rfl,_,rfl,_,rfl,_,_,rfl,rfl,wz,_,((j:Nat):Int),_,rfl,(congrArg V.int (show ((j+1:Nat):Int)-1=(j:Int) by lia)),SqL.of hway3,zav (zfk (by lia)),_,_,rfl,rfl, ?_⟩
    refine⟨_,rfl,_,rfl,z2,_,j+1,_,rfl,rfl,tb.at_ _ _ hz2,zfk (by lia),_,rfl,_,_,rfl,rfl,z2,_,_,j+1,rfl,rfl,tb.at_ _ _ hz2,zer (by rw[List.length_map,zck];lia), ?_⟩
    have tb5:=tb.put hz2 (r:=j+1) (by lia) (sT (g i) j+g i j)
    have S5:Same H _:=zaW sm (hzH _ _ hz2) (o:=.lst (((rwL (m+1) fun r=>sT (fun i=>cF rows m g i n2 r) i+pF rows m g i (j+1) n2 r).map V.int).set (j+1) (.int (sT (fun i=>cF rows m g i n2 (j+1)) i+pF rows m g i (j+1) n2 (j+1)+(sT (g i) j+g i j)))))
    generalize upd G z2 (.lst (((rwL (m+1) fun r=>sT (fun i=>cF rows m g i n2 r) i+pF rows m g i (j+1) n2 r).map V.int).set (j+1) (.int (sT (fun i=>cF rows m g i n2 (j+1)) i+pF rows m g i (j+1) n2 (j+1)+(sT (g i) j+g i j)))))=G5 at tb5 S5 ⊢
    refine⟨_,rfl,_,rfl,z1,_,j+1,_,rfl,rfl,tb5.at_ _ _ hz1,zfk (by lia),_,rfl,_,rfl,_,_,rfl,rfl,_,_,rfl,rfl,z1,_,_,j+1,rfl,rfl,tb5.at_ _ _ hz1,zer (by rw[List.length_map,zck];lia), ?_⟩
    refine⟨_,rfl,zaW S5 (hzH _ _ hz1),(tb5.put hz1 (r:=j+1) (by lia) (sT (g i) m-(sT (g i) j+g i j))).congr fun s r hs hr=> ?_⟩
    have ej:sT (g i) (j+1)=sT (g i) j+g i j:=rfl
    unfold addF pF
    rw[h1,h2]
    by_cases hrj:r=j+1
    ·subst hrj
     rw[ej]
     simp only[show (1<=j+1/\j+1<j+1)↔False from ⟨fun h=>by lia,False.elim⟩,show (1<=j+1/\j+1<j+1+1)↔True from ⟨fun _=>trivial,fun _=>by lia⟩,and_true,if_false,if_true,ite_self]
     by_cases c1:s=n1
     ·by_cases c2:s=n2
      ·rw[if_pos c1,if_pos c2,if_pos (by lia:(n1:Int)=s),if_pos (by lia:(n2:Int)=s)];lia
      ·rw[if_pos c1,if_neg c2,if_pos (by lia:(n1:Int)=s),if_neg (by lia:¬(n2:Int)=s)];lia
     ·by_cases c2:s=n2
      ·rw[if_neg c1,if_pos c2,if_neg (by lia:¬(n1:Int)=s),if_pos (by lia:(n2:Int)=s)];lia
      ·rw[if_neg c1,if_neg c2,if_neg (by lia:¬(n1:Int)=s),if_neg (by lia:¬(n2:Int)=s)]
    ·have e1:(1<=r/\r<j+1)↔(1<=r/\r<j+1+1):=by lia
     simp only[hrj,and_false,if_false,e1]
   ·rintro σ G ⟨c12',rfl,sm,tb⟩
    refine⟨_,_,_,_,_,_,_,_,_,rfl,sm,tb.congr fun s r hs hr=> ?_⟩
    rw[show ((m:Int)-1).toNat+1=m by lia]
    show _=sT (fun i=>cF rows m g i s r) i+cF rows m g i s r
    rw[zla rows m g i s r]
    rfl
  ·rintro σ G ⟨c4,c5,c6,c7,c8,c9,c10,c11,c12,rfl,sm,tb⟩
   rw[List.length_map,hrl] at tb
   exact⟨_,rfl,k Lg zg G sm tb⟩
end
end K52
namespace L2
theorem zg2 {n:Nat}{hi:Option Int}{m:Nat}(h:0<n):¬(HT.sIx n 0 (some (1:Int))=0/\HT.sIx n n hi=m):=fun z=>by
 have:=z.1
 rw[show (1:Int)=((1:Nat):Int) from rfl,HT.sIx_nat] at this
 lia
theorem zlh (xs:List V):cutV xs (some (1:Int)) none=xs.drop 1:=by
 unfold cutV
 rw[show (1:Int)=((1:Nat):Int) from rfl,HT.sIx_nat,HT.sIx_none]
 by_cases h:1<=xs.length
 ·rw[Nat.min_eq_left h,List.take_of_length_le (by simp)]
 ·rw[Nat.min_eq_right (by lia),List.drop_of_length_le (Nat.le_refl _),List.drop_of_length_le (by lia),List.take_nil]
theorem zkz {α:Type}(F:α->Int):∀l:List α,(l.map F).sum=sL F l
 |[]=>rfl
 |a::t=>by rw[List.map_cons,List.sum_cons,zkz F t];rfl
noncomputable def zmp (F:Nat->Int):V->V
 | .int k=>.int (F k.toNat)
 |_=>.non
theorem ziv (F:Nat->Int)(ends:List Int):(((ends.map V.int).filter fun _=>true).map (zmp F))=(ends.map fun s=>F s.toNat).map V.int:=by
 rw[List.filter_eq_self.mpr fun _ _=>rfl,List.map_map,List.map_map]
 rfl
theorem zli (rows:List (List Int))(N:Nat):rwL 1 (dpZ rows N 0 0)=[1]:=rfl
theorem zjG (rows:List (List Int))(N s:Nat):rwL 1 (dpZ rows N 0 (s+1))=[0]:=rfl
end L2
namespace K52
open L2
noncomputable abbrev ziw:Stmt:=top 14
section
variable {P:Program}{w:World}{K:PySem.W.Frag}{mg:Str->Option Value}{base:Heap}
theorem sc_met:FnScope ["machine", "many", "rows", "ends", "ranks", "size"] ["machine", "many"] (zae ziw):=⟨rfl,rfl,rfl,by decide+kernel,rfl,by decide+kernel,by decide+kernel⟩
theorem zmq {f:Addr}{fd:FuncData}(F:Fun K "met" "met" ziw f fd)(T:Top mg)(Cone_behind:Cal P w K mg base 1 "one_behind" ["rows", "ranks", "size"] zik):FnOk P w K mg base CX0 2 f fd ["machine", "many"] zcZ:=by
 refine F.ok sc_met (fun vs H Q E h=> ?_) (fun cdv A outer s H vs Q E hr h=> ?_)
 ·obtain ⟨z,N,n,rows,ends,rfl,_⟩:=h
  rfl
 ·obtain ⟨z,N,n,rows,ends,rfl,hM,hN,hn,hE,hel,k⟩:=h
  refine⟨_,(zaf (zca (pv 0) (zbW (i:=2) (j:=3) rfl sc_met.nd rfl rfl (Or.inl rfl) (Or.inl rfl) (Or.inl rfl) (Or.inl rfl)))
   (zaf (zau (i:=4) sc_met.nd rfl (Or.inr rfl) (zap zge (zbD (zaa (zbD (zaa zag zac)) zac)) (zbF (N':=["row"]) (n:=1) (ix:=[]) rfl (CompScope.of (sc:=zae ziw) (N:=["machine", "many", "rows", "ends", "ranks", "size"]) (by decide+kernel) rfl rfl) (zcq (zct zkg (pv 2) (zde zag) zdd)) (fun _ _ _ _ _=>⟨(zah (i:=0) (show (["row"]:List Str).Nodup by decide+kernel) rfl (Or.inl rfl)),zax,(zbD (zaa zag zac))⟩))))
   (zaf (zby PassesOwn.never rfl (zcr rfl T.n_range (zaa zag (zaa (pv 1) zac))) (zah (i:=5) sc_met.nd rfl (Or.inl rfl))
    (zai (zau (i:=4) sc_met.nd rfl (Or.inr rfl) (zak Cone_behind (hr.mono (by decide)) rfl (zaa (pv 2) (zaa (pv 4) (zaa (pv 5) zac)))))))
   (zai (zaz (zam (zbp rfl) (by rfl) T.n_sum boot_sum (zaa (zbF (N':=["state", "ranks"]) (n:=1) (ix:=[4]) rfl (CompScope.of (sc:=zae ziw) (N:=["machine", "many", "rows", "ends", "ranks", "size"]) (by decide+kernel) rfl rfl) (zcq (pv 3)) (fun _ _ _ _ _=>⟨(zah (i:=0) (show (["state", "ranks"]:List Str).Nodup by decide+kernel) rfl (Or.inl rfl)),zax,(zam (zbp rfl) (by rfl) T.n_sum boot_sum (zaa (zaT (zd5 K rfl) (pv 1) (pv 0) (fun _ _=>rfl)) zac))⟩)) zac))))))), ?_⟩
  obtain⟨R,Ea,rs,hz,hEa,hR⟩:=hM.rwsAt
  have hrl:rs.length=N:=by rw[Paired.length hR.at_,hR.len]
  have hN0:=hR.pos
  refine⟨_,rfl,z,_,rfl,SqT.of hz,rfl,_,_,rfl,_,_,rfl,rfl, ?_⟩
  refine⟨by show 1<=sizeLine;decide,fun l1 hl1=>⟨by show 1<=sizeLine;decide,fun l2 hl2=> ?_⟩⟩
  have s1:=zad (o:=.lst [.int 1]) hl1
  have s2:=zad (o:=.lst [.ref l1]) hl2
  refine⟨_,rfl,_,rfl,R,_,rfl,SqT.of ((s1.trans s2) _ _ hR.top),zg2 (by rw[List.length_map,hrl];exact hN0),fun c hc=> ?_⟩
  rw[zlh]
  have s3:=zad (o:=.tup ((rs.map V.ref).drop 1)) hc
  have hl1':(upd (upd (upd H l1 (.lst [.int 1])) l2 (.lst [.ref l1])) c (.tup ((rs.map V.ref).drop 1))) l1=some (.lst [.int 1]):=s3 _ _ (s2 _ _ zab)
  have hl2':(upd (upd (upd H l1 (.lst [.int 1])) l2 (.lst [.ref l1])) c (.tup ((rs.map V.ref).drop 1))) l2=some (.lst [.ref l1]):=s3 _ _ zab
  have hc':=@zab (upd (upd H l1 (.lst [.int 1])) l2 (.lst [.ref l1])) c (.tup ((rs.map V.ref).drop 1))
  have S3:=(s1.trans s2).trans s3
  generalize (upd (upd (upd H l1 (.lst [.int 1])) l2 (.lst [.ref l1])) c (.tup ((rs.map V.ref).drop 1)))=G at hl1' hl2' hc' S3 ⊢
  refine⟨c,rfl,⟨_,SqT.of hc'⟩, ?_⟩
  have hdl:((rs.map V.ref).drop 1).length=N-1:=by rw[List.length_drop,List.length_map,hrl]
  refine zfd (zbt (xs:=(rs.map V.ref).drop 1)) (zaS (by rw[hdl];lia)) (fun _=>[.int 0]) (fun G' s'=>SqT.of (s' _ _ hc')) (fun i x G' hx s' QT q=> ?_) fun La za G0 hLa sG hLG hzl hznd hzat=> ?_
  ·exact⟨by show 1<=sizeLine;decide,fun l0 hl0=>q l0 _ hl0 zab (zad hl0)⟩
  rw[hdl] at hzl
  refine⟨l2,La,_,_,rfl,rfl,sG _ _ hl2',hLG, ?_,fun L hL=> ?_⟩
  ·rw [List.length_map]
   exact Nat.le_trans (by show 1+za.length<=200;lia) (by decide)
  have sL':=zad (o:=.lst ([.ref l1]++za.map V.ref)) hL
  have hl1L:=(sG.trans sL') _ _ hl1'
  have T0:TabAt (upd G0 L (.lst ([.ref l1]++za.map V.ref))) L (l1::za) N 1 (dpZ rows N 0):=by
   have nL:∀z∈l1::za,z≠L:=fun z hz e=>by
    rcases List.mem_cons.mp hz with rfl|hz
    ·rw [e] at hl1'
     rw[sG _ _ hl1'] at hL
     cases hL
    ·obtain ⟨j,hj⟩:=List.getElem?_of_mem hz
     rw[e] at hj
     rw[(hzat j L hj).1] at hL
     cases hL
   refine⟨by rw[zab];rfl,by rw[List.length_cons,hzl];lia,List.nodup_cons.mpr ⟨fun hm=> ?_,hznd⟩,fun hm=>nL L hm rfl,fun i y hy=> ?_⟩
   ·obtain ⟨j,hj⟩:=List.getElem?_of_mem hm
    have:=(hzat j l1 hj).2.1
    rw[hl1'] at this
    cases this
   ·rw [zaj (nL y (List.mem_of_getElem? hy))]
    cases i with
    |zero=>
     cases hy
     rw[zli]
     exact sG _ _ hl1'
    |succ i=>
     rw[zjG]
     exact (hzat i y (by simpa using hy)).1
  have SL:=(S3.trans sG).trans sL'
  generalize upd G0 L (.lst ([.ref l1]++za.map V.ref))=GL at T0 SL ⊢
  clear hl1L sL' hL hLG hLa hzat sG hl1' hl2' hc' S3 s1 s2 s3
  refine⟨_,rfl,_,_,rfl,⟨by decide,by decide,by lia,by lia⟩, ?_⟩
  refine zcs (n:=((n:Int)-1).toNat) (fun j σ G=>∃(L:Addr) (zs:List Addr) (c5:Option V),σ=[some (.ref z),some (.int n),some (.ref R),some (.ref Ea),some (.ref L),c5]/\Same H G/\TabAt G L zs N (j+1) (dpZ rows N j)) ⟨L,_,_,rfl,SL,T0⟩ ?_ ?_
  ·rintro j σ G' hj ⟨L,zs,c5,rfl,sm,tb⟩
   rw[show (1:Int)+(j:Int)=((j+1:Nat):Int) by lia]
   refine⟨_,rfl,_,rfl,_,rfl,R,L,rs,zs,N,j+1,rows,_,rfl,hR.same sm,tb,by lia,by lia,hN,fun L' zs' H' s' tb'=> ?_⟩
   exact⟨L',zs',_,rfl,sm.trans s',tb'⟩
  ·rintro σ G' ⟨L,zs,c5,rfl,sm,tb⟩
   rw[show ((n:Int)-1).toNat=n-1 by lia] at tb
   refine⟨_,rfl,Ea,rfl,⟨_,SqT.of (sm _ _ hEa)⟩, ?_⟩
   refine zd2 (zbt (xs:=ends.map V.int)) (zaS (by rw[List.length_map];lia)) (fun _=>true) (zmp fun s=>sT (dpZ rows N (n-1) s) (n-1+1)) (fun G2 s'=>SqT.of (s' _ _ (sm _ _ hEa))) (fun x hx G2 s' Q' q=>q) (fun x hx _ G2 s' Q' q=> ?_) fun acc hacc=> ?_
   ·obtain ⟨d,hd,rfl⟩:=List.mem_map.mp hx
    obtain⟨d0,d1⟩:=hE d hd
    obtain⟨y,hy,hyy⟩:=tb.addr (s:=d.toNat) (by lia)
    refine⟨_,rfl,_,rfl,L,_,d,.ref y,rfl,rfl,SqL.of (s' _ _ tb.top), ?_,y,_,rfl,s' _ _ hyy, ?_⟩
    ·have:=zav (xs:=zs.map V.ref) (j:=d.toNat) (v:=.ref y) (by rw[List.getElem?_map,hy];rfl)
     rwa [Int.toNat_of_nonneg d0] at this
    ·rw [zfQ]
     exact q
   ·rw [ziv]
    refine⟨acc,_,rfl,zab, ?_⟩
    rw[zkz]
    exact k _ (sm.trans (zad hacc))
end
noncomputable abbrev zet:Stmt:=top 2
section
variable {P:Program}{w:World}{K:PySem.W.Frag}{mg:Str->Option Value}{base:Heap}
theorem sc_nth_by:FnScope ["ways", "many", "at", "begun", "ahead", "place", "number", "found"] ["ways", "many", "at"] (zae zet):=⟨rfl,rfl,rfl,by decide+kernel,rfl,by decide+kernel,by decide+kernel⟩
theorem zix {f:Addr}{fd:FuncData}(F:Fun K "nth_by" "nth_by" zet f fd)(T:Top mg)(Cnumbers_left:Cal P w K mg base 1 "numbers_left" ["many", "begun"] zfj):FnOk P w K mg base CX0 9 f fd ["ways", "many", "at"] (zei P w K mg base):=by
 refine F.ok sc_nth_by (fun vs H Q E h=> ?_) (fun cdv A outer s H vs Q E hr h=> ?_)
 ·obtain ⟨f,c,q,m,at_,W,L,G,rfl,_⟩:=h
  rfl
 ·obtain ⟨f,c,q,m,at_,W,L,Gd,rfl,C,hGd,hW,hm,h0,hc,kN,kT⟩:=h
  refine⟨_,(zaf (zau (i:=3) sc_nth_by.nd rfl (Or.inl rfl) (za7 zac))
   (zaf (zau (i:=4) sc_nth_by.nd rfl (Or.inl rfl) (pv 2))
   (zaf (zbK (zar zlX (pv 4) (zeh (k:=8) (pv 0) hr (zaa (pv 3) zac)) (zaH _))
    (zai (zaz zkc))
    zbd)
   (zaf (zby PassesOwn.never rfl (zas rfl T.n_range (zaa (pv 1) zac)) (zah (i:=5) sc_nth_by.nd rfl (Or.inl rfl))
    (zai (zby PassesOwn.never rfl (zbL (zak Cnumbers_left (hr.mono (by decide)) rfl (zaa (pv 1) (zaa (pv 3) zac)))) (zah (i:=6) sc_nth_by.nd rfl (Or.inl rfl))
     (zaf (zau (i:=7) sc_nth_by.nd rfl (Or.inl rfl) (zeh (k:=8) (pv 0) hr (zaa (zap zfD (pv 3) (za7 (zaa (pv 6) zac))) zac)))
     (zaf (zbK (zar zhy (pv 4) (pv 7) (zaH _))
      (zaf (zau (i:=3) sc_nth_by.nd rfl (Or.inl rfl) (zap zfD (pv 3) (za7 (zaa (pv 6) zac))))
      (zai zi8))
      zbd)
     (zai (zkd (i:=4) sc_nth_by.nd rfl (Or.inl rfl) (pv 7) zlV)))))))
   (zai (zaz (pv 3))))))), ?_⟩
  refine⟨Nat.zero_le _,fun t0 ht0=> ?_⟩
  have s0:=zad (o:=.tup []) ht0
  have h00:([]:List Int)∈zaw m [[]] 0:=List.mem_singleton.mpr rfl
  refine⟨_,rfl,_,rfl,_,rfl,f,_,_,rfl,C,_,rfl,0,t0,[],rfl,zab,Nat.zero_le _,h00,s0 _ _ hc,hGd _ s0,fun H1 s1=> ?_⟩
  have s01:=s0.trans s1
  have ht1:=s1 _ _ (@zab H t0 (.tup []))
  refine⟨_,_,rfl,rfl,_,rfl, ?_⟩
  rw[hW.cnt 0 [] (Nat.zero_le _) h00]
  refine ite2 (fun hge=> ?_) (fun hlt=> ?_)
  ·exact kN (by simpa using hge) _ s01
  ·have hlt':at_<((L []).length:Int):=by simpa using hlt
   obtain⟨o,ho⟩:∃o,(L [])[at_.toNat]? =some o:=⟨_,List.getElem?_eq_getElem (by lia)⟩
   clear hlt hlt'
   refine⟨_,rfl,(m:Int),rfl,by lia,by lia, ?_⟩
   rw[Int.toNat_natCast]
   refine zcs (n:=m) (fun k σ G=>∃(c5 c6 c7:Option V) (b:List Int) (tb:Addr) (a:Int),σ=[some (.ref f),some (.int m),some (.int at_),some (.ref tb),some (.int a),c5,c6,c7]/\Same H G/\G tb=some (.tup (b.map V.int))/\b∈zaw m [[]] k/\0<=a/\(L b)[a.toNat]? =some o) ⟨none,none,none,[],t0,at_,rfl,s01,ht1,h00,h0,ho⟩ ?_ ?_
   ·rintro k σ G hk ⟨c5,c6,c7,b,tb,a,rfl,sG,hb,hbI,a0,hao⟩
    have hbl:=zaL hbI
    refine⟨_,rfl,_,rfl,m,tb,b,rfl,hb,by lia,fun l G1 sl hl0 hl=>⟨l,rfl,⟨_,SqL.of hl⟩, ?_⟩⟩
    have hst:=hW.stp k b hk hbI
    refine zgb (K:=K) (a:=l) (xs:=(zaB m b).map V.int) (fun j σ G=>∃(c6 c7:Option V) (a':Int),σ=[some (.ref f),some (.int m),some (.int at_),some (.ref tb),some (.int a'),some (.int (0+(k:Int))),c6,c7]/\Same G1 G/\0<=a'/\(((zaB m b).drop j).flatMap fun x=>L (b++[x]))[a'.toNat]? =some o) ⟨c6,c7,a,rfl,.refl _,a0,by rw[List.drop_zero,<-hst];exact hao⟩ ?_ ?_ ?_
    ·rintro j σ G _ ⟨c6,c7,a',rfl,sG1,_⟩
     exact SqL.of (sG1 _ _ hl)
    ·rintro j x σ G' hx ⟨c6,c7,a',rfl,sG1,a0',hao'⟩
     rw[List.getElem?_map] at hx
     obtain⟨x,hx',rfl⟩:=Option.map_eq_some_iff.mp hx
     have hjl:=(List.getElem?_eq_some_iff.mp hx').1
     have hxm:x∈zaB m b:=List.mem_of_getElem? hx'
     have hbx:=zcy hbI hxm
     have hb':=sG1 _ _ (sl _ _ hb)
     have sHG:=(sG.trans sl).trans sG1
     have ed:(zaB m b).drop j=x::(zaB m b).drop (j+1):=by
      rw[List.drop_eq_getElem_cons hjl,(List.getElem?_eq_some_iff.mp hx').2]
     refine⟨_,rfl,f,_,_,rfl,C,_,rfl,_,rfl,by show 1<=sizeLine;decide,fun t1 ht1=> ?_⟩
     have u1:=zad (o:=.tup [.int x]) ht1
     refine⟨tb,t1,_,_,rfl,rfl,u1 _ _ hb',zab, ?_,fun t2 G2 s2 ht2=> ?_⟩
     ·rw [zaq,hbl]
      exact Nat.le_trans (by show k+1<=100;lia) (by decide)
     have e2:b.map V.int++[V.int x]=(b++[x]).map V.int:=by rw[List.map_append];rfl
     rw[e2] at ht2
     refine⟨k+1,t2,b++[x],rfl,ht2,by lia,hbx,s2 _ _ (u1 _ _ (sHG _ _ hc)),hGd _ ((sHG.trans u1).trans s2),fun G3 s3=> ?_⟩
     have sA:=(u1.trans s2).trans s3
     have hbA:=sA _ _ hb'
     rw[hW.cnt (k+1) (b++[x]) (by lia) hbx]
     refine⟨_,rfl,_,rfl,_,_,rfl,rfl,_,rfl, ?_⟩
     rw[ed,List.flatMap_cons] at hao'
     refine ite2 (fun hc1=> ?_) (fun hc1=> ?_)
     ·have hc2:a'<((L (b++[x])).length:Int):=by simpa using hc1
      rw[List.getElem?_append_left (by lia)] at hao'
      refine⟨_,rfl,_,rfl,by show 1<=sizeLine;decide,fun t3 ht3=> ?_⟩
      have u3:=zad (o:=.tup [.int x]) ht3
      refine⟨tb,t3,_,_,rfl,rfl,u3 _ _ hbA,zab, ?_,fun t4 G4 s4 ht4=> ?_⟩
      ·rw [zaq,hbl]
       exact Nat.le_trans (by show k+1<=100;lia) (by decide)
      rw[e2] at ht4
      exact⟨_,_,_,b++[x],t4,a',rfl,((sHG.trans sA).trans u3).trans s4,ht4,hbx,a0',hao'⟩
     ·have hc2:¬a'<((L (b++[x])).length:Int):=by simpa using hc1
      rw[List.getElem?_append_right (by lia)] at hao'
      refine⟨_,rfl,_,rfl,_,_,rfl,rfl, ?_⟩
      refine⟨_,_,a'-((L (b++[x])).length:Int),rfl,sG1.trans sA,by lia, ?_⟩
      rw[show (a'-((L (b++[x])).length:Int)).toNat=a'.toNat-(L (b++[x])).length by lia]
      exact hao'
    ·rintro σ G' ⟨c6,c7,a',rfl,sG1,a0',hao'⟩
     rw[zaq,List.drop_length] at hao'
     cases hao'
   ·rintro σ G ⟨c5,c6,c7,b,tb,a,rfl,sG,hb,hbI,a0,hao⟩
    have:o=b:=by
     rcases hW.fin b hbI with e|e
     ·rw [e] at hao
      have:=List.mem_of_getElem? hao
      exact List.mem_singleton.mp this
     ·rw [e] at hao
      cases hao
    subst this
    exact⟨_,rfl,kT o tb G ho sG hb⟩
end
end K52
namespace L2
theorem zgw {X:Cx}{tg l:Expr}{tl:TE}(K:PySem.W.Frag)(hK:X.K=K)(hl:PE X l tl):PI X tg l (zlW K tl):=hK▸zbL hl
theorem cutN (ns:List Int)(k:Nat)(h:k<=ns.length):cutV (ns.map V.int) none (some (k:Int))=(ns.take k).map V.int:=by
 unfold cutV
 rw[HT.sIx_nat,HT.sIx_none,List.drop_zero,Nat.sub_zero,zaq,Nat.min_eq_left h,List.map_take]
noncomputable def ysPl (o:List Int):V->List V
 | .int p=>(zaB (o.getD p.toNat 0).toNat (o.take p.toNat)).map V.int
 |_=>[]
theorem zlj (W:List Int->Int)(o:List Int)(R:V×V->V->Prop)(hR:∀(p x:Int) (v:V),R (.int p,.int x) v->v=.int (W (o.take p.toNat++[x]))):∀(n:Nat) (vs:List V),Paired R (zaF (zaY 0 n) (ysPl o) fun _ _=>true) vs->∃ns:List Int,vs=ns.map V.int/\ns.sum=((List.range n).map fun i=>plS W o i).sum:=by
 have row:∀(p:Int) (xs:List Int) (vs:List V),Paired R ((xs.map V.int).map fun y=>(V.int p,y)) vs->∃ns:List Int,vs=ns.map V.int/\ns.sum=(xs.map fun x=>W (o.take p.toNat++[x])).sum:=by
  intro p xs
  induction xs with
  |nil=>intro vs h;cases h;exact⟨[],rfl,rfl⟩
  | cons x xs ih=>
   intro vs h
   cases h with
   |cons h1 h2=>
    obtain⟨ns,rfl,hs⟩:=ih _ h2
    have:=hR p x _ h1
    subst this
    exact⟨W (o.take p.toNat++[x])::ns,rfl,by rw[List.sum_cons,List.map_cons,List.sum_cons,hs]⟩
 intro n
 induction n with
 |zero=>
  intro vs h
  cases h
  exact⟨[],rfl,rfl⟩
 | succ n ih=>
  intro vs h
  have e:zaF (zaY 0 (n+1)) (ysPl o) (fun _ _=>true)=zaF (zaY 0 n) (ysPl o) (fun _ _=>true)++((zaB (o.getD n 0).toNat (o.take n)).map V.int).map fun y=>(V.int (n:Int),y):=by
   have er:zaY 0 (n+1)=zaY 0 n++[.int (n:Int)]:=by
    rw[za0,za0]
    unfold num0
    rw[List.range_succ,List.map_append,List.map_append]
    rfl
   unfold zaF
   rw[er,List.flatMap_append]
   congr 1
   show ((ysPl o (.int (n:Int))).filter (fun _=>true)).map _++[]=_
   rw[List.append_nil,List.filter_eq_self.mpr fun _ _=>rfl]
   rfl
  rw[e] at h
  have split:∀{α β:Type} {R:α->β->Prop} (a b:List α) (vs:List β),Paired R (a++b) vs->∃v1 v2,vs=v1++v2/\Paired R a v1/\Paired R b v2:=fun {α β R} a=>by
   induction a with
   |nil=>intro b vs h;exact⟨[],vs,rfl,.nil,h⟩
   | cons x a iha=>
    intro b vs h
    cases h with
    |cons h1 h2=>
     obtain⟨v1,v2,rfl,g1,g2⟩:=iha b _ h2
     exact⟨_::v1,v2,rfl,.cons h1 g1,g2⟩
  obtain⟨v1,v2,rfl,g1,g2⟩:=split _ _ _ h
  obtain⟨n1,rfl,h1⟩:=ih v1 g1
  obtain⟨n2,rfl,h2⟩:=row _ _ v2 g2
  refine⟨n1++n2,by rw[List.map_append], ?_⟩
  rw[List.sum_append,h1,h2,List.range_succ,List.map_append,List.sum_append]
  show _=_+(plS W o n+0)
  rw[Int.add_zero]
  rfl
theorem zdT {B:Nat}(ys:V->List V)(p:V->V->Bool):∀xs:List V,(∀x∈xs,(ys x).length<=B)->(zaF xs ys p).length<=xs.length*B
 |[],_=>Nat.zero_le _
 |x::xs,h=>by
  have ih:=zdT ys p xs fun y hy=>h y (List.mem_cons_of_mem _ hy)
  have h1:=h x List.mem_cons_self
  have h2:=List.length_filter_le (p x) (ys x)
  show (((ys x).filter (p x)).map _++zaF xs ys p).length<=(xs.length+1)*B
  rw[List.length_append,List.length_map,Nat.add_mul,Nat.one_mul]
  lia
theorem zjH (m:Nat)(b:List Int):(zaB m b).length<=m:=by
 unfold zaB
 refine Nat.le_trans (List.length_filter_le _ _) ?_
 unfold num0
 rw[List.length_map,List.length_range]
 exact Nat.le_refl _
end L2
namespace K52
open L2
noncomputable abbrev zb5:Stmt:=top 3
section
variable {P:Program}{w:World}{K:PySem.W.Frag}{mg:Str->Option Value}{base:Heap}
theorem zfY:FnScope ["ways", "order"] ["ways", "order"] (zae zb5):=⟨rfl,rfl,rfl,by decide+kernel,rfl,by decide+kernel,by decide+kernel⟩
theorem zfZ {f:Addr}{fd:FuncData}(F:Fun K "place_by" "place_by" zb5 f fd)(T:Top mg)(Cnumbers_left:Cal P w K mg base 1 "numbers_left" ["many", "begun"] zfj):FnOk P w K mg base CX0 9 f fd ["ways", "order"] (zcA P w K mg base):=by
 refine F.ok zfY (fun vs H Q E h=> ?_) (fun cdv A outer s H vs Q E hr h=> ?_)
 ·obtain ⟨f,c,a,q,m,o,W,G,rfl,_⟩:=h
  rfl
 ·obtain ⟨f,c,a,q,m,o,W,Gd,rfl,C,hGd,hm,ha,ho,hc,k⟩:=h
  refine⟨_,(zai (zaz (zam (zbp rfl) (by rfl) T.n_sum boot_sum (zaa (zl8 (N':=["place", "number", "ways", "order"]) (n:=2) (ix:=[0,1]) rfl (CompScope.of (sc:=zae zb5) (N:=["ways", "order"]) (by decide+kernel) rfl rfl) (zas rfl T.n_range (zaa (zam zaE (by rfl) T.n_len PySem.boot_len (zaa (pv 1) zac)) zac))
   (fun _ _ _ _ _=>⟨(zah (i:=0) (show (["place", "number", "ways", "order"]:List Str).Nodup by decide+kernel) rfl (Or.inl rfl)),zax,
    (zgw K rfl (zak Cnumbers_left (hr.mono (by decide)) rfl (zaa (zaT (zbl K rfl) (pv 3) (pv 0) (fun _ _=>rfl)) (zaa (zct zfH (pv 3) zdd (zde (pv 0))) zac)))),
    (zah (i:=1) (show (["place", "number", "ways", "order"]:List Str).Nodup by decide+kernel) rfl (Or.inl rfl)),zax,
    (zih (P:=P) (w:=w) (K:=K) (mg:=mg) (base:=base) (k:=8) ⟨rfl,rfl,rfl,rfl,rfl⟩ (pv 2) hr (zaa (zap zfD (zct zfH (pv 3) zdd (zde (pv 0))) (za7 (zaa (pv 1) zac))) zac))⟩)) zac)))), ?_⟩
  have hl:=zaL ho
  refine⟨_,rfl,a,_,rfl,.inr (SqT.of ha), ?_⟩
  rw[zaq,hl]
  refine⟨_,rfl,by lia,by lia, ?_⟩
  rw[Int.toNat_natCast]
  have at_:∀n:Nat,n<m->o.getD n 0∈zaB m (o.take n)/\0<=o.getD n 0/\o.getD n 0<(m:Int):=fun n hn=>by
   have h:=((zcz ho n (by lia)).2 hn).2
   refine⟨h, ?_⟩
   obtain⟨j,hj,e⟩:=List.mem_map.mp (List.mem_filter.mp h).1
   have:=List.mem_range.mp hj
   lia
  refine zii (zao (lo:=0) (n:=m)) (ysPl o) (fun _ _=>true) (fun xy v _=>∀p x:Int,xy=(V.int p,V.int x)->v=V.int (W (o.take p.toNat++[x]))) ?_ (fun _ _ _ _ _ h=>h) (fun _ _=>trivial) (fun x hx acc H' hacc s' Rr q=> ?_) (fun x hx y hy G' s' Q' q'=>q') (fun x hx y hy _ G' s' Q' q'=> ?_) fun acc vs H' hacc sm hys pr=> ?_
  ·refine Nat.lt_of_le_of_lt (zdT (B:=24) (ysPl o) (fun _ _=>true) (zaY 0 m) fun x hx=> ?_) ?_
   ·obtain ⟨n,rfl,n0,n1⟩:=za5 hx
    show ((zaB (o.getD n.toNat 0).toNat (o.take n.toNat)).map V.int).length<=24
    have:=at_ n.toNat (by lia)
    have h2:=zjH (o.getD n.toNat 0).toNat (o.take n.toNat)
    rw[List.length_map]
    lia
   ·rw [zan]
    exact Nat.lt_of_le_of_lt (Nat.mul_le_mul_right 24 hm) (by decide)
  ·obtain ⟨n,rfl,n0,n1⟩:=za5 hx
   obtain⟨j,rfl⟩:∃j:Nat,n=(j:Int):=⟨n.toNat,by lia⟩
   have hj:j<m:=by lia
   obtain⟨h1,h2,h3⟩:=at_ j hj
   have ha':=s' _ _ ha
   obtain⟨us,hus⟩:=hacc
   have ea:atI (o.map V.int) (j:Int)=some (.int (o.getD j 0)):=zav (by rw[List.getElem?_map,List.getD_eq_getElem?_getD,List.getElem?_eq_getElem (by lia)];rfl)
   refine⟨_,rfl,_,rfl,a,_,_,_,rfl,rfl,SqT.of ha',ea,_,rfl,_,rfl,_,rfl,a,_,rfl,ha',fun q1 G1 g1 hq1=> ?_⟩
   rw[cutN _ _ (by lia)] at hq1
   refine⟨(o.getD j 0).toNat,q1,o.take j, ?_,hq1,by lia,fun l G2 g2 hl0 hl'=>⟨l,rfl,⟨_,SqL.of hl'⟩, ?_⟩⟩
   ·rw[Int.toNat_of_nonneg h2]
   ·have hne:l≠acc:=fun z=>by
     rw[z,g1 _ _ hus] at hl0
     cases hl0
    have hl2:G2 l=some (.lst (ysPl o (.int (j:Int)))):=hl'
    exact q _ _ G2 (g1.trans g2) (za3 (K:=K) (xs:=ysPl o (.int (j:Int)))) fun G sA _=>SqL.of (sA _ _ hl2 hne)
  ·obtain ⟨n,rfl,n0,n1⟩:=za5 hx
   obtain⟨j,rfl⟩:∃j:Nat,n=(j:Int):=⟨n.toNat,by lia⟩
   have hj:j<m:=by lia
   obtain⟨h1,h2,h3⟩:=at_ j hj
   obtain⟨z,hz,rfl⟩:=List.mem_map.mp (show y∈(zaB (o.getD j 0).toNat (o.take j)).map V.int from hy)
   obtain⟨zs,ez,_⟩:=zfc h1
   have hzm:z∈zaB m (o.take j):=by rw[ez];exact List.mem_append_left _ hz
   have ha':=s' _ _ ha
   refine⟨_,rfl,f,_,_,rfl,C,_,rfl,_,rfl,_,rfl,a,_,rfl,ha',fun q1 G1 g1 hq1=> ?_⟩
   rw[cutN _ _ (by lia)] at hq1
   refine⟨_,rfl,by show 1<=sizeLine;decide,fun t1 ht1=> ?_⟩
   have u1:=zad (o:=.tup [.int z]) ht1
   refine⟨q1,t1,_,_,rfl,rfl,u1 _ _ hq1,zab, ?_,fun t2 G2 g2 ht2=> ?_⟩
   ·rw [zaq,List.length_take]
    exact Nat.le_trans (by show min j o.length+1<=100;lia) (by decide)
   have e2:(o.take j).map V.int++[V.int z]=(o.take j++[z]).map V.int:=by rw[List.map_append];rfl
   rw[e2] at ht2
   refine⟨j+1,t2,o.take j++[z],rfl,ht2,by lia,zcy (zcz ho j (by lia)).1 hzm,g2 _ _ (u1 _ _ (g1 _ _ (s' _ _ hc))),hGd _ (((s'.trans g1).trans u1).trans g2),fun G3 g3=>q' _ G3 (((g1.trans u1).trans g2).trans g3) fun p x e=> ?_⟩
   cases e
   rfl
  ·obtain ⟨ns,rfl,hs⟩:=zlj W o (fun xy v=>∀p x:Int,xy=(V.int p,V.int x)->v=V.int (W (o.take p.toNat++[x]))) (fun p x v h=>h p x rfl) m vs pr
   refine⟨acc,ns,rfl,hys, ?_⟩
   rw[hs]
   exact k _ sm
end
end K52
namespace L2
noncomputable abbrev lc3 (elt tg iter:Expr)(ifs:List Expr)(tg2 iter2:Expr)(ifs2:List Expr)(tg3 iter3:Expr)(ifs3:List Expr)(scope:Scope)(pos:Pos):Expr:=.ListComp elt [⟨tg,iter,ifs,0⟩,⟨tg2,iter2,ifs2,0⟩,⟨tg3,iter3,ifs3,0⟩] scope pos
theorem zfl (elt tg iter:Expr)(ifs:List Expr)(tg2 iter2:Expr)(ifs2:List Expr)(tg3 iter3:Expr)(ifs3:List Expr)(scope:Scope)(pos:Pos)(it acc:Value)(env:Env):
  compTurn (lc3 elt tg iter ifs tg2 iter2 ifs2 tg3 iter3 ifs3 scope pos) 2 it acc env=(do
   standAt iter3.pos
   match<-pyNext it with
   |none=>pure (.done .next)
   | some v=>
    letOwnedTupleGo tg3 it v
    assign tg3 env v
    let mut ok:=true
    for c in ifs3 do
     if ok then ok<-isTrue c env (eval c env)
    if ok then
     (do let _<-call (.builtin "list.append") [acc,<-eval elt env])
    again (.compLoop (lc3 elt tg iter ifs tg2 iter2 ifs2 tg3 iter3 ifs3 scope pos) 2 it acc env)):=by rfl
theorem zeu (elt tg iter:Expr)(ifs:List Expr)(tg2 iter2:Expr)(ifs2:List Expr)(tg3 iter3:Expr)(ifs3:List Expr)(scope:Scope)(pos:Pos)(it acc:Value)(env:Env):
  compTurn (lc3 elt tg iter ifs tg2 iter2 ifs2 tg3 iter3 ifs3 scope pos) 1 it acc env=(do
   standAt iter2.pos
   match<-pyNext it with
   |none=>pure (.done .next)
   | some v=>
    letOwnedTupleGo tg2 it v
    assign tg2 env v
    let mut ok:=true
    for c in ifs2 do
     if ok then ok<-isTrue c env (eval c env)
    if ok then
     let x<-eval iter3 env
     standAt iter3.pos
     let x<-foldedSetIterable iter3 env x
     let _<-runOwn (.compStart (lc3 elt tg iter ifs tg2 iter2 ifs2 tg3 iter3 ifs3 scope pos) 2 (<-holding [x] (pyIter x)) acc env) env
    again (.compLoop (lc3 elt tg iter ifs tg2 iter2 ifs2 tg3 iter3 ifs3 scope pos) 1 it acc env)):=by rfl
theorem zev (elt tg iter:Expr)(ifs:List Expr)(tg2 iter2:Expr)(ifs2:List Expr)(tg3 iter3:Expr)(ifs3:List Expr)(scope:Scope)(pos:Pos)(it acc:Value)(env:Env):
  compTurn (lc3 elt tg iter ifs tg2 iter2 ifs2 tg3 iter3 ifs3 scope pos) 0 it acc env=(do
   standAt iter.pos
   match<-pyNext it with
   |none=>pure (.done .next)
   | some v=>
    letOwnedTupleGo tg it v
    assign tg env v
    let mut ok:=true
    for c in ifs do
     if ok then ok<-isTrue c env (eval c env)
    if ok then
     let x<-eval iter2 env
     standAt iter2.pos
     let x<-foldedSetIterable iter2 env x
     let _<-runOwn (.compStart (lc3 elt tg iter ifs tg2 iter2 ifs2 tg3 iter3 ifs3 scope pos) 1 (<-holding [x] (pyIter x)) acc env) env
    again (.compLoop (lc3 elt tg iter ifs tg2 iter2 ifs2 tg3 iter3 ifs3 scope pos) 0 it acc env)):=by rfl
section
variable {prog:Program}{w:World}{A:Around}{R:Result->Shared->Prop}{s:Shared}{elt tg iter tg2 iter2 tg3 iter3:Expr}{ifs ifs2 ifs3:List Expr}{scope:Scope}{pos:Pos}{it acc:Value}{env:Env}
theorem zfm (I:Nat->Shared->Prop)
  (turn:∀n s,I n s->wpAny (model prog w) A (pyNext it) (fun r s₁=>match r with
   |none=>R (.ok .next) s₁
   | some v=>wpAny (model prog w) A (letOwnedTupleGo tg3 it v) (fun _ s₂=>wpAny (model prog w) A (assign tg3 env v) (fun _ s₃=>
     wpAny (model prog w) A (forIn ifs3 true fun c r=>if r=true then do let ok<-isTrue c env (eval c env);pure (ForInStep.yield ok) else pure (ForInStep.yield r)) (fun ok s₄=>
      if ok=true then wpAny (model prog w) A (eval elt env) (fun x s₅=>
       wpAny (model prog w) A (call (.builtin "list.append") [acc,x]) (fun _ s₆=>∃m,m<n/\I m s₆) (fun _ _=>False) s₅) (fun _ _=>False) s₄
      else ∃m,m<n/\I m s₄) (fun _ _=>False) s₃) (fun _ _=>False) s₂) (fun _ _=>False) s₁) (fun _ _=>False) s)
  (n:Nat) (h:I n s):
  codeAny (model prog w) A (.compLoop (lc3 elt tg iter ifs tg2 iter2 ifs2 tg3 iter3 ifs3 scope pos) 2 it acc env) R s:=by
 refine codeAny_loop rfl I (fun n s hI=> ?_) n h
 show wpAny _ A ((compTurn (lc3 elt tg iter ifs tg2 iter2 ifs2 tg3 iter3 ifs3 scope pos) 2 it acc env).onRaise (fun x=>do noteFrame x env;theTreesLotGoes x)) _ _ s
 refine wpAny_noted (wpAny_noRaise ?_)
 rw[zfl]
 refine wpAny_bind (wpAny_standAt (wpAny_bind (thn (turn n s hI) fun r s₁ h₁=> ?_)))
 cases r with
 |none=>exact wpAny_pure h₁
 |some v=>
  refine wpAny_bind (thn h₁ fun _ s₂ h₂=>wpAny_bind (thn h₂ fun _ s₃ h₃=>wpAny_bind (thn h₃ fun ok s₄ h₄=> ?_)))
  cases ok with
  |false=>exact wpAny_pure ⟨rfl,h₄⟩
  |true=>exact wpAny_bind (wpAny_bind (thn h₄ fun x s₅ h₅=>wpAny_bind (thn h₅ fun _ s₆ h₆=>wpAny_pure (wpAny_pure ⟨rfl,h₆⟩))))
theorem zew (hs2:∀x,foldedSetIterable iter3 env x=pure x)(I:Nat->Shared->Prop)
  (turn:∀n s,I n s->wpAny (model prog w) A (pyNext it) (fun r s₁=>match r with
   |none=>R (.ok .next) s₁
   | some v=>wpAny (model prog w) A (letOwnedTupleGo tg2 it v) (fun _ s₂=>wpAny (model prog w) A (assign tg2 env v) (fun _ s₃=>
     wpAny (model prog w) A (forIn ifs2 true fun c r=>if r=true then do let ok<-isTrue c env (eval c env);pure (ForInStep.yield ok) else pure (ForInStep.yield r)) (fun ok s₄=>
      if ok=true then wpAny (model prog w) A (eval iter3 env) (fun x s₅=>wpAny (model prog w) A (pyIter x) (fun it2 s₆=>
       codeAny (model prog w) A (.compStart (lc3 elt tg iter ifs tg2 iter2 ifs2 tg3 iter3 ifs3 scope pos) 2 it2 acc env) (fun r s₇=>r=.ok .next/\∃m,m<n/\I m s₇) s₆) (fun _ _=>False) s₅) (fun _ _=>False) s₄
      else ∃m,m<n/\I m s₄) (fun _ _=>False) s₃) (fun _ _=>False) s₂) (fun _ _=>False) s₁) (fun _ _=>False) s)
  (n:Nat) (h:I n s):
  codeAny (model prog w) A (.compLoop (lc3 elt tg iter ifs tg2 iter2 ifs2 tg3 iter3 ifs3 scope pos) 1 it acc env) R s:=by
 refine codeAny_loop rfl I (fun n s hI=> ?_) n h
 show wpAny _ A ((compTurn (lc3 elt tg iter ifs tg2 iter2 ifs2 tg3 iter3 ifs3 scope pos) 1 it acc env).onRaise (fun x=>do noteFrame x env;theTreesLotGoes x)) _ _ s
 refine wpAny_noted (wpAny_noRaise ?_)
 rw[zeu]
 refine wpAny_bind (wpAny_standAt (wpAny_bind (thn (turn n s hI) fun r s₁ h₁=> ?_)))
 cases r with
 |none=>exact wpAny_pure h₁
 | some v=>
  refine wpAny_bind (thn h₁ fun _ s₂ h₂=>wpAny_bind (thn h₂ fun _ s₃ h₃=>wpAny_bind (thn h₃ fun ok s₄ h₄=> ?_)))
  cases ok with
  |false=>exact wpAny_pure ⟨rfl,h₄⟩
  |true=>
   refine wpAny_bind (thn h₄ fun x s₅ h₅=>wpAny_bind (wpAny_standAt (wpAny_bind (wpAny_of_eq (hs2 x) (wpAny_bind (wpAny_holding (thn h₅ fun it2 s₆ h₆=> ?_)))))))
   refine wpAny_bind (wpAny_runOwn (codeAny_mono h₆ fun r s₇ hr=> ?_))
   obtain⟨rfl,hr⟩:=hr
   exact wpAny_pure ⟨rfl,hr⟩
theorem zex (hs2:∀x,foldedSetIterable iter2 env x=pure x)(I:Nat->Shared->Prop)
  (turn:∀n s,I n s->wpAny (model prog w) A (pyNext it) (fun r s₁=>match r with
   |none=>R (.ok .next) s₁
   | some v=>wpAny (model prog w) A (letOwnedTupleGo tg it v) (fun _ s₂=>wpAny (model prog w) A (assign tg env v) (fun _ s₃=>
     wpAny (model prog w) A (forIn ifs true fun c r=>if r=true then do let ok<-isTrue c env (eval c env);pure (ForInStep.yield ok) else pure (ForInStep.yield r)) (fun ok s₄=>
      if ok=true then wpAny (model prog w) A (eval iter2 env) (fun x s₅=>wpAny (model prog w) A (pyIter x) (fun it2 s₆=>
       codeAny (model prog w) A (.compStart (lc3 elt tg iter ifs tg2 iter2 ifs2 tg3 iter3 ifs3 scope pos) 1 it2 acc env) (fun r s₇=>r=.ok .next/\∃m,m<n/\I m s₇) s₆) (fun _ _=>False) s₅) (fun _ _=>False) s₄
      else ∃m,m<n/\I m s₄) (fun _ _=>False) s₃) (fun _ _=>False) s₂) (fun _ _=>False) s₁) (fun _ _=>False) s)
  (n:Nat) (h:I n s):
  codeAny (model prog w) A (.compLoop (lc3 elt tg iter ifs tg2 iter2 ifs2 tg3 iter3 ifs3 scope pos) 0 it acc env) R s:=by
 refine codeAny_loop rfl I (fun n s hI=> ?_) n h
 show wpAny _ A ((compTurn (lc3 elt tg iter ifs tg2 iter2 ifs2 tg3 iter3 ifs3 scope pos) 0 it acc env).onRaise (fun x=>do noteFrame x env;theTreesLotGoes x)) _ _ s
 refine wpAny_noted (wpAny_noRaise ?_)
 rw[zev]
 refine wpAny_bind (wpAny_standAt (wpAny_bind (thn (turn n s hI) fun r s₁ h₁=> ?_)))
 cases r with
 |none=>exact wpAny_pure h₁
 | some v=>
  refine wpAny_bind (thn h₁ fun _ s₂ h₂=>wpAny_bind (thn h₂ fun _ s₃ h₃=>wpAny_bind (thn h₃ fun ok s₄ h₄=> ?_)))
  cases ok with
  |false=>exact wpAny_pure ⟨rfl,h₄⟩
  |true=>
   refine wpAny_bind (thn h₄ fun x s₅ h₅=>wpAny_bind (wpAny_standAt (wpAny_bind (wpAny_of_eq (hs2 x) (wpAny_bind (wpAny_holding (thn h₅ fun it2 s₆ h₆=> ?_)))))))
   refine wpAny_bind (wpAny_runOwn (codeAny_mono h₆ fun r s₇ hr=> ?_))
   obtain⟨rfl,hr⟩:=hr
   exact wpAny_pure ⟨rfl,hr⟩
theorem zbS
  (h0:codeAny (model prog w) A (.compLoop (lc3 elt tg iter ifs tg2 iter2 ifs2 tg3 iter3 ifs3 scope pos) 1 it acc env) R s)
  (h:wpAny (model prog w) A (pyIter it) (fun it' s'=>codeAny (model prog w) A (.compLoop (lc3 elt tg iter ifs tg2 iter2 ifs2 tg3 iter3 ifs3 scope pos) 1 it' acc env) R s')
   (notedBy (model prog w) A env fun x s'=>R (.error x) s') s):
  codeAny (model prog w) A (.compStart (lc3 elt tg iter ifs tg2 iter2 ifs2 tg3 iter3 ifs3 scope pos) 1 it acc env) R s:=by
 refine codeAny_of_tree ?_
 show wpAny _ _ ((compStart (lc3 elt tg iter ifs tg2 iter2 ifs2 tg3 iter3 ifs3 scope pos) 1 it acc env).onRaise (fun x=>do noteFrame x env;standAt theWindowsPlace)) _ _ s
 refine wpAny_notedAt ?_
 unfold compStart
 show wpAny _ _ (ask >>= _) _ _ s
 refine wpAny_bind (wpAny_askSetting (wpAny_ite ?_))
 split
 ·first
   |exact wpAny_bind (wpAny_pure (wpAny_pure (And.intro rfl h0)))
   |exact wpAny_pure (And.intro rfl h0)
 ·refine wpAny_bind (wpAny_rule (wpAny_bind (wpAny_standAt (wpAny_bind (wpAny_mono h (fun it' s' h'=>wpAny_pure (And.intro rfl h')) fun _ _ e=>e)))))
theorem zbT
  (h0:codeAny (model prog w) A (.compLoop (lc3 elt tg iter ifs tg2 iter2 ifs2 tg3 iter3 ifs3 scope pos) 2 it acc env) R s)
  (h:wpAny (model prog w) A (pyIter it) (fun it' s'=>codeAny (model prog w) A (.compLoop (lc3 elt tg iter ifs tg2 iter2 ifs2 tg3 iter3 ifs3 scope pos) 2 it' acc env) R s')
   (notedBy (model prog w) A env fun x s'=>R (.error x) s') s):
  codeAny (model prog w) A (.compStart (lc3 elt tg iter ifs tg2 iter2 ifs2 tg3 iter3 ifs3 scope pos) 2 it acc env) R s:=by
 refine codeAny_of_tree ?_
 show wpAny _ _ ((compStart (lc3 elt tg iter ifs tg2 iter2 ifs2 tg3 iter3 ifs3 scope pos) 2 it acc env).onRaise (fun x=>do noteFrame x env;standAt theWindowsPlace)) _ _ s
 refine wpAny_notedAt ?_
 unfold compStart
 show wpAny _ _ (ask >>= _) _ _ s
 refine wpAny_bind (wpAny_askSetting (wpAny_ite ?_))
 split
 ·first
   |exact wpAny_bind (wpAny_pure (wpAny_pure (And.intro rfl h0)))
   |exact wpAny_pure (And.intro rfl h0)
 ·refine wpAny_bind (wpAny_rule (wpAny_bind (wpAny_standAt (wpAny_bind (wpAny_mono h (fun it' s' h'=>wpAny_pure (And.intro rfl h')) fun _ _ e=>e)))))
end
noncomputable def MidW (J:It)(H1:Hp)(g:TG)(tt:TT)(wi3:TI)(g3:TG)(tt3:TT)(te:TE)(acc:Addr)(σ:L2.St)(Kt:Hp->Prop):Prop:=
 ∃ V:Nat->Nat->Hp->Prop,(∃m,V 0 m H1)/\∀i m H,V i m H->
  (J.stop i H/\Kt H)∨(J.go i H/\∀x H',J.yld i H x H'->g x σ H' fun σ2 H2=>Wk σ σ2/\tt σ2 H2 fun b H3=>
   if b=true then wi3 σ2 H3 fun J3 H4=>InW J3 H4 g3 tt3 te acc σ2 fun H5=>∃m',m'<m/\V (i+1) m' H5
   else ∃m',m'<m/\V (i+1) m' H3)
noncomputable def LcW3 (J:It)(H1:Hp)(g:TG)(tt:TT)(wi2:TI)(g2:TG)(tt2:TT)(wi3:TI)(g3:TG)(tt3:TT)(te:TE)(n:Nat)(ix:List Nat)(σ:L2.St)(Q:VK):Prop:=∀acc,H1 acc=none->
 ∃ W:Nat->Nat->Hp->Prop,(∃m,W 0 m (upd H1 acc (.lst [])))/\∀i m H,W i m H->
  (J.stop i H/\Q (.ref acc) H)∨(J.go i H/\∀x H',J.yld i H x H'->g x (zaX n ix σ) H' fun σ2 H2=>Wk (zaX n ix σ) σ2/\tt σ2 H2 fun b H3=>
   if b=true then wi2 σ2 H3 fun J2 H4=>MidW J2 H4 g2 tt2 wi3 g3 tt3 te acc σ2 fun H5=>∃m',m'<m/\W (i+1) m' H5
   else ∃m',m'<m/\W (i+1) m' H3)
noncomputable def tLc3 (wi:TI)(g:TG)(tt:TT)(wi2:TI)(g2:TG)(tt2:TT)(wi3:TI)(g3:TG)(tt3:TT)(te:TE)(n:Nat)(ix:List Nat):TE:=fun σ H Q=>wi σ H fun J H1=>LcW3 J H1 g tt wi2 g2 tt2 wi3 g3 tt3 te n ix σ Q
section
variable {X:Cx}{elt tg iter tg2 iter2 tg3 iter3:Expr}{ifs ifs2 ifs3:List Expr}{scope:Scope}{pos:Pos}{wi wi2 wi3:TI}{g g2 g3:TG}{tt tt2 tt3:TT}{te:TE}{N':List Str}{n:Nat}{ix:List Nat}
theorem zjI {pins:List (Addr×Obj)}{σ:St}{H2:Hp}{s2:Shared}{cl:List (Str×Addr)}{it:Addr}{fp:List Addr}{tn:Nat->Heap->Prop}{J:It}{Q:VK}{R:Value->Addr->Result->Shared->Prop}
  (hc:X.calm=true) (S:CompScope X scope N' n ix)
  (hY:∀s₂ H₂ cl C fp,PG (X.comp s₂ H₂ N' scope cl C fp) tg g/\PTs (X.comp s₂ H₂ N' scope cl C fp) ifs tt/\PI (X.comp s₂ H₂ N' scope cl C fp) tg2 iter2 wi2/\PG (X.comp s₂ H₂ N' scope cl C fp) tg2 g2/\PTs (X.comp s₂ H₂ N' scope cl C fp) ifs2 tt2/\
   PI (X.comp s₂ H₂ N' scope cl C fp) tg3 iter3 wi3/\PG (X.comp s₂ H₂ N' scope cl C fp) tg3 g3/\PTs (X.comp s₂ H₂ N' scope cl C fp) ifs3 tt3/\PE (X.comp s₂ H₂ N' scope cl C fp) elt te)
  (hs2:∀env x,foldedSetIterable iter2 env x=pure x) (hs3:∀env x,foldedSetIterable iter3 env x=pure x)
  (I2:Inv X pins σ H2 s2) (hcl1:∀x c,cl.lookup x=some c->X.env.cells.lookup x=some c) (hcl2:∀y∈scope.names,y.2=.free->cl.lookup y.1=X.env.cells.lookup y.1)
  (T:Turn X.prog X.w X.K tg J fp it tn) (st2:tn 0 s2.heap) (f2:∀b∈fp,FpOk X pins H2 b)
  (hW:LcW3 J H2 g tt wi2 g2 tt2 wi3 g3 tt3 te n ix σ Q)
  (hR:∀acc C s' H' m,s'.heap.Ns C m->Inv X pins σ H' s'->H' C=none->C≠X.env.locals->(C∈X.ex∨X.s₀.heap.objs.size<=C)->(∀x c,X.env.cells.lookup x=some c->c≠C)->(∀p∈X.pn++pins,p.1≠C)->C∉X.fs->Q (.ref acc) H'->R (.ref acc) C (.ok .next) s'):
  wpAny (model X.prog X.w) X.A (newList []) (fun acc s₃=>wpAny (model X.prog X.w) X.A (newFunctionEnv scope X.env.globals cl [] X.env.qual none .none (some X.env)) (fun cenv s₄=>
   codeAny (model X.prog X.w) X.A (.compStart (lc3 elt tg iter ifs tg2 iter2 ifs2 tg3 iter3 ifs3 scope pos) 0 (.ref it) acc {cenv with scope:=relabel scope X.env}) (R acc cenv.locals) s₄) X.xe s₃) X.xe s2:=by
 refine wpAny_newObj_type (wpAny_newFunctionEnv S.nocell (by intro y hy;simp at hy) (fun h₁ hns₁ hsb₁=> ?_) S.kind)
 dsimp only at hns₁ hsb₁ ⊢
 generalize hH2:s2.heap.push {cls:=.type "list",dict:=none,data:=.seq ([]:List Value).toArray}=G at hns₁ hsb₁ ⊢
 have hC:G.objs.size=s2.heap.objs.size+1:=by rw[<-hH2,Heap.size_push]
 have hlt:∀b∈fp,b<s2.heap.objs.size:=fun b hb=>by
  obtain⟨o,e,_⟩:=T.obj _ _ st2 b hb
  exact Heap.lt_size e
 have old:∀b o,s2.heap.get? b=some o->h₁.get? b=some o:=fun b o e=>hsb₁.extBut b o (by rw[hC];exact Nat.ne_of_lt (Nat.lt_succ_of_lt (Heap.lt_size e))) (Heap.get?_push_of_some _ (hH2▸Heap.get?_push_of_some _ e))
 have hacc:h₁.get? s2.heap.objs.size=some {cls:=.type "list",dict:=none,data:=.seq ([]:List Value).toArray}:=hsb₁.extBut _ _ (by rw[hC];exact Nat.ne_of_lt (Nat.lt_succ_self _)) (Heap.get?_push_of_some _ (hH2▸Heap.get?_push_size _ rfl))
 obtain⟨W,⟨m0,w0⟩,turn⟩:=hW s2.heap.objs.size (I2.hok.fresh (Nat.le_refl _))
 obtain⟨hYg,hYt,hYi,hYg2,hYt2,hYi3,hYg3,hYt3,hYe⟩:=hY s2 H2 cl G.objs.size fp
 have fpY:∀{H':Hp},(∀b∈fp,H' b=none)->∀b∈fp,FpOk (X.comp s2 H2 N' scope cl G.objs.size fp) [] H' b:=fun {H'} hn b hb=>by
  obtain⟨_,q1,q2,q3,q4,q5⟩:=f2 b hb
  refine⟨hn b hb, ?_,fun z=> ?_,.inl hb,fun x c e=>q4 x c (hcl1 x c e),fun p hp=>absurd (show p∈([]:List (Addr×Obj)) from hp) (by simp)⟩
  ·show b≠G.objs.size
   rw[hC]
   exact Nat.ne_of_lt (Nat.lt_succ_of_lt (hlt b hb))
  ·rcases List.mem_cons.mp (I2.stkSub b z) with y|y
   ·exact q1 y
   ·exact q2 y
 have loop:∀s₃:Shared,s₃={s2 with heap:=h₁,toks:=s2.toks+([]:List (Str×Value)).length}->
   codeAny (model X.prog X.w) X.A (.compLoop (lc3 elt tg iter ifs tg2 iter2 ifs2 tg3 iter3 ifs3 scope pos) 0 (.ref it) (.ref s2.heap.objs.size) (compEnvC scope cl G.objs.size X.env)) (R (.ref s2.heap.objs.size) G.objs.size) s₃:=by
  rintro s₃ rfl
  have I4:=zd1 (tk:=s2.toks+([]:List (Str×Value)).length) I2 S hcl1 hcl2 f2 hlt (Nat.le_refl _) (by rw[hC];exact Nat.le_succ _) (by rw[hC];exact Nat.ne_of_gt (Nat.lt_succ_self _)) old hacc hns₁
  refine zex (fun x=>hs2 _ x) (fun n' s'=>∃i H',Inv (X.comp s2 H2 N' scope cl G.objs.size fp) [] (zaX n ix σ) H' s'/\tn i s'.heap/\(∀b∈fp,H' b=none)/\W i n' H') ?_ m0
   ⟨0,_,I4,T.keep _ _ _ st2 fun b hb o e=>old b o e,fun b hb=> ?_,w0⟩
  ·rintro n' s3 ⟨i,H3,I3,st3,fr3,w3⟩
   rcases turn i n' H3 w3 with⟨stop,q⟩|⟨go,step⟩
   ·refine thn (T.done (X.comp s2 H2 N' scope cl G.objs.size fp) rfl rfl rfl hc i [] s3 _ H3 _ I3 (fpY fr3) st3 stop) fun r s4 zq=> ?_
    obtain⟨hr,I5⟩:=zq
    subst hr
    obtain⟨mC,hnC,_⟩:=I5.loc
    have IX:Inv X pins σ H3 s4:=I2.call' I5.os I5.base I5.hok I5.bare fun b hb=>by
     obtain⟨_,q1,q2,q3,q4,q5⟩:=f2 b hb
     exact⟨q3,q1,q4,q5⟩
    refine hR _ _ s4 H3 mC hnC IX I5.free ?_ (.inr ?_) (fun x c e z=> ?_) (fun p hp z=> ?_) (I2.nofs (by rw[hC];exact Nat.le_succ _)) q
    ·rw [hC]
     exact Nat.ne_of_gt (Nat.lt_succ_of_lt I2.lt)
    ·rw [hC]
     exact Nat.le_succ_of_le I2.sz
    ·obtain ⟨v,q⟩:=I2.cell x c e
     rw[hC] at z
     exact absurd z (Nat.ne_of_lt (Nat.lt_succ_of_lt q.lt))
    ·rw [hC] at z
     exact absurd z (Nat.ne_of_lt (Nat.lt_succ_of_lt (Heap.lt_size (I2.pin p hp).1)))
   ·refine thn (T.item (X.comp s2 H2 N' scope cl G.objs.size fp) rfl rfl rfl hc i [] s3 _ H3 _ I3 (fpY fr3) st3 go) fun r s4 zq=> ?_
    obtain⟨u,hr,h4⟩:=zq
    subst hr
    refine thn h4 fun _ s5 zq=> ?_
    obtain⟨x,H5,I5,r5,y5,st5,fr5⟩:=zq
    have I5':=I5.pinned (fpY fr5) (T.obj _ _ st5)
    refine thn (hYg _ s5 _ H5 x u _ I5' r5 (step x H5 y5)) fun _ s6 zq=> ?_
    obtain⟨σ6,H6,I6,wk,q6⟩:=zq
    have back:∀{H':Hp} {s':Shared},Inv (X.comp s2 H2 N' scope cl G.objs.size fp) ([]++zaR fp s5.heap) σ6 H' s'->
      Inv (X.comp s2 H2 N' scope cl G.objs.size fp) [] (zaX n ix σ) H' s'/\tn (i+1) s'.heap/\∀b∈fp,H' b=none:=fun {H' s'} I7=>by
     refine⟨I7.unpinned.weak wk.1 wk.2,T.keep _ _ _ st5 fun b hb o e=>(I7.pin (b,o) (List.mem_append_right _ (List.mem_append_right _ (zay hb e)))).1,fun b hb=> ?_⟩
     obtain⟨o,e,d⟩:=T.obj _ _ st5 b hb
     exact (I7.pin (b,o) (List.mem_append_right _ (List.mem_append_right _ (zay hb e)))).2.1
    refine thn (hYt _ s6 σ6 H6 _ I6 q6) fun ok s7 zq=> ?_
    obtain⟨H7,I7,q7⟩:=zq
    cases ok with
    |false=>
     rw[if_neg Bool.false_ne_true] at q7 ⊢
     obtain⟨m',hm,w7⟩:=q7
     obtain⟨b1,b2,b3⟩:=back I7
     exact⟨m',hm,i+1,H7,b1,b2,b3,w7⟩
    | true=>
     rw[if_pos rfl] at q7 ⊢
     refine thn (hYi _ s7 σ6 H7 _ I7 q7) fun xv s8 h8=>thn h8 fun itv s9 h9=> ?_
     obtain⟨it2,fp2,tn2,J2,H9,rfl,I9,T2,st9,f9,V,⟨m1,v0⟩,turn2⟩:=h9
     have stat2:∀{H':Hp},(∀b∈fp2,H' b=none)->∀b∈fp2,FpOk (X.comp s2 H2 N' scope cl G.objs.size fp) ([]++zaR fp s5.heap) H' b:=fun hn b hb=>⟨hn b hb,(f9 b hb).2⟩
     have loop2:codeAny (model X.prog X.w) X.A (.compLoop (lc3 elt tg iter ifs tg2 iter2 ifs2 tg3 iter3 ifs3 scope pos) 1 (.ref it2) (.ref s2.heap.objs.size) (compEnvC scope cl G.objs.size X.env))
       (fun r s₇=>r=.ok .next/\∃m,m<n'/\∃i H',Inv (X.comp s2 H2 N' scope cl G.objs.size fp) [] (zaX n ix σ) H' s₇/\tn i s₇.heap/\(∀b∈fp,H' b=none)/\W i m H') s9:=by
      refine zew (fun x=>hs3 _ x) (fun n'' s'=>∃j H',Inv (X.comp s2 H2 N' scope cl G.objs.size fp) ([]++zaR fp s5.heap) σ6 H' s'/\tn2 j s'.heap/\(∀b∈fp2,H' b=none)/\V j n'' H') ?_ m1 ⟨0,H9,I9,st9,fun b hb=>(f9 b hb).1,v0⟩
      rintro n'' s10 ⟨j,H10,I10,st10,fr10,v10⟩
      rcases turn2 j n'' H10 v10 with⟨stop2,q10⟩|⟨go2,step2⟩
      ·refine thn (T2.done (X.comp s2 H2 N' scope cl G.objs.size fp) rfl rfl rfl hc j _ s10 _ H10 _ I10 (stat2 fr10) st10 stop2) fun r s11 zq=> ?_
       obtain⟨hr,I11⟩:=zq
       subst hr
       obtain⟨m',hm,w10⟩:=q10
       obtain⟨b1,b2,b3⟩:=back I11
       exact⟨rfl,m',hm,i+1,H10,b1,b2,b3,w10⟩
      ·refine thn (T2.item (X.comp s2 H2 N' scope cl G.objs.size fp) rfl rfl rfl hc j _ s10 _ H10 _ I10 (stat2 fr10) st10 go2) fun r s11 zq=> ?_
       obtain⟨u2,hr,h11⟩:=zq
       subst hr
       refine thn h11 fun _ s12 zq=> ?_
       obtain⟨y,H12,I12,r12,y12,st12,fr12⟩:=zq
       have I12':=I12.pinned (stat2 fr12) (T2.obj _ _ st12)
       refine thn (hYg2 _ s12 _ H12 y u2 _ I12' r12 (step2 y H12 y12)) fun _ s13 zq=> ?_
       obtain⟨σ13,H13,I13,wk2,q13⟩:=zq
       have back2:∀{H':Hp} {s':Shared},Inv (X.comp s2 H2 N' scope cl G.objs.size fp) (([]++zaR fp s5.heap)++zaR fp2 s12.heap) σ13 H' s'->
         Inv (X.comp s2 H2 N' scope cl G.objs.size fp) ([]++zaR fp s5.heap) σ6 H' s'/\tn2 (j+1) s'.heap/\∀b∈fp2,H' b=none:=fun {H' s'} I7=>by
        refine⟨I7.unpinned.weak wk2.1 wk2.2,T2.keep _ _ _ st12 fun b hb o e=>(I7.pin (b,o) (List.mem_append_right _ (List.mem_append_right _ (zay hb e)))).1,fun b hb=> ?_⟩
        obtain⟨o,e,d⟩:=T2.obj _ _ st12 b hb
        exact (I7.pin (b,o) (List.mem_append_right _ (List.mem_append_right _ (zay hb e)))).2.1
       refine thn (hYt2 _ s13 σ13 H13 _ I13 q13) fun ok2 s14 zq=> ?_
       obtain⟨H14,I14,q14⟩:=zq
       cases ok2 with
       |false=>
        rw[if_neg Bool.false_ne_true] at q14 ⊢
        obtain⟨m',hm,v14⟩:=q14
        obtain⟨b1,b2,b3⟩:=back2 I14
        exact⟨m',hm,j+1,H14,b1,b2,b3,v14⟩
       | true=>
        rw[if_pos rfl] at q14 ⊢
        refine thn (hYi3 _ s14 σ13 H14 _ I14 q14) fun xv3 s15 h15=>thn h15 fun itv3 s16 h16=> ?_
        obtain⟨it3,fp3,tn3,J3,H16,rfl,I16,T3,st16,f16,V3,⟨m3,v03⟩,turn3⟩:=h16
        have stat3:∀{H':Hp},(∀b∈fp3,H' b=none)->∀b∈fp3,FpOk (X.comp s2 H2 N' scope cl G.objs.size fp) (([]++zaR fp s5.heap)++zaR fp2 s12.heap) H' b:=fun hn b hb=>⟨hn b hb,(f16 b hb).2⟩
        have loop3:codeAny (model X.prog X.w) X.A (.compLoop (lc3 elt tg iter ifs tg2 iter2 ifs2 tg3 iter3 ifs3 scope pos) 2 (.ref it3) (.ref s2.heap.objs.size) (compEnvC scope cl G.objs.size X.env))
          (fun r s₇=>r=.ok .next/\∃m,m<n''/\∃j H',Inv (X.comp s2 H2 N' scope cl G.objs.size fp) ([]++zaR fp s5.heap) σ6 H' s₇/\tn2 j s₇.heap/\(∀b∈fp2,H' b=none)/\V j m H') s16:=by
         refine zfm (fun n3 s'=>∃l H',Inv (X.comp s2 H2 N' scope cl G.objs.size fp) (([]++zaR fp s5.heap)++zaR fp2 s12.heap) σ13 H' s'/\tn3 l s'.heap/\(∀b∈fp3,H' b=none)/\V3 l n3 H') ?_ m3 ⟨0,H16,I16,st16,fun b hb=>(f16 b hb).1,v03⟩
         rintro n3 s17 ⟨l,H17,I17,st17,fr17,v17⟩
         rcases turn3 l n3 H17 v17 with⟨stop3,q17⟩|⟨go3,step3⟩
         ·refine thn (T3.done (X.comp s2 H2 N' scope cl G.objs.size fp) rfl rfl rfl hc l _ s17 _ H17 _ I17 (stat3 fr17) st17 stop3) fun r s18 zq=> ?_
          obtain⟨hr,I18⟩:=zq
          subst hr
          obtain⟨m',hm,w17⟩:=q17
          obtain⟨b1,b2,b3⟩:=back2 I18
          exact⟨rfl,m',hm,j+1,H17,b1,b2,b3,w17⟩
         ·refine thn (T3.item (X.comp s2 H2 N' scope cl G.objs.size fp) rfl rfl rfl hc l _ s17 _ H17 _ I17 (stat3 fr17) st17 go3) fun r s18 zq=> ?_
          obtain⟨u3,hr,h18⟩:=zq
          subst hr
          refine thn h18 fun _ s19 zq=> ?_
          obtain⟨z,H19,I19,r19,y19,st19,fr19⟩:=zq
          have I19':=I19.pinned (stat3 fr19) (T3.obj _ _ st19)
          refine thn (hYg3 _ s19 _ H19 z u3 _ I19' r19 (step3 z H19 y19)) fun _ s20 zq=> ?_
          obtain⟨σ20,H20,I20,wk3,q20⟩:=zq
          have back3:∀{H':Hp} {s':Shared},Inv (X.comp s2 H2 N' scope cl G.objs.size fp) ((([]++zaR fp s5.heap)++zaR fp2 s12.heap)++zaR fp3 s19.heap) σ20 H' s'->
            Inv (X.comp s2 H2 N' scope cl G.objs.size fp) (([]++zaR fp s5.heap)++zaR fp2 s12.heap) σ13 H' s'/\tn3 (l+1) s'.heap/\∀b∈fp3,H' b=none:=fun {H' s'} I7=>by
           refine⟨I7.unpinned.weak wk3.1 wk3.2,T3.keep _ _ _ st19 fun b hb o e=>(I7.pin (b,o) (List.mem_append_right _ (List.mem_append_right _ (zay hb e)))).1,fun b hb=> ?_⟩
           obtain⟨o,e,d⟩:=T3.obj _ _ st19 b hb
           exact (I7.pin (b,o) (List.mem_append_right _ (List.mem_append_right _ (zay hb e)))).2.1
          refine thn (hYt3 _ s20 σ20 H20 _ I20 q20) fun ok3 s21 zq=> ?_
          obtain⟨H21,I21,q21⟩:=zq
          cases ok3 with
          |false=>
           rw[if_neg Bool.false_ne_true] at q21 ⊢
           obtain⟨m',hm,v21⟩:=q21
           obtain⟨b1,b2,b3⟩:=back3 I21
           exact⟨m',hm,l+1,H21,b1,b2,b3,v21⟩
          |true=>
           rw[if_pos rfl] at q21 ⊢
           refine thn (hYe _ s21 σ20 H21 _ I21 q21) fun xv s22 zq=> ?_
           obtain⟨v22,H22,I22,r22,ys,ha,hz,m',hm,w22⟩:=zq
           refine thn (zbi _ s22 σ20 H22 (.ref s2.heap.objs.size) [v22] (.ref s2.heap.objs.size) [xv] (fun _ H'=>H'=upd H22 s2.heap.objs.size (.lst (ys++[v22]))) I22 rfl (.cons r22 .nil) ⟨_,ys,v22,rfl,rfl,ha,hz,rfl⟩) fun _ s23 zq=> ?_
           obtain⟨_,H23,I23,_,e23⟩:=zq
           subst e23
           obtain⟨b1,b2,b3⟩:=back3 I23
           exact⟨m',hm,l+1,_,b1,b2,b3,w22⟩
        exact zbT loop3 (T3.self _ 0 _ _ _ st16 loop3)
     exact zbS loop2 (T2.self _ 0 _ _ _ st9 loop2)
  ·rw [zaj (Nat.ne_of_lt (hlt b hb))]
   exact (f2 b hb).1
 exact codeAny_compStart_list (loop _ rfl) (T.self _ 0 _ _ _ (T.keep _ _ _ st2 fun b hb o e=>old b o e) (loop _ rfl))
theorem zmr (hc:X.calm=true)(S:CompScope X scope N' n ix)(hi:PI X tg iter wi)
  (hY:∀s₂ H₂ cl C fp,PG (X.comp s₂ H₂ N' scope cl C fp) tg g/\PTs (X.comp s₂ H₂ N' scope cl C fp) ifs tt/\PI (X.comp s₂ H₂ N' scope cl C fp) tg2 iter2 wi2/\PG (X.comp s₂ H₂ N' scope cl C fp) tg2 g2/\PTs (X.comp s₂ H₂ N' scope cl C fp) ifs2 tt2/\
   PI (X.comp s₂ H₂ N' scope cl C fp) tg3 iter3 wi3/\PG (X.comp s₂ H₂ N' scope cl C fp) tg3 g3/\PTs (X.comp s₂ H₂ N' scope cl C fp) ifs3 tt3/\PE (X.comp s₂ H₂ N' scope cl C fp) elt te)
  (hs:∀x,foldedSetIterable iter X.env x=pure x:=by intro _;rfl) (hs2:∀env x,foldedSetIterable iter2 env x=pure x:=by intro _ _;rfl) (hs3:∀env x,foldedSetIterable iter3 env x=pure x:=by intro _ _;rfl):
  PE X (.ListComp elt [⟨tg,iter,ifs,0⟩,⟨tg2,iter2,ifs2,0⟩,⟨tg3,iter3,ifs3,0⟩] scope pos) (tLc3 wi g tt wi2 g2 tt2 wi3 g3 tt3 te n ix):=by
 intro pins s σ H Q I h
 obtain⟨cl,hcl,hcl1,hcl2⟩:=zbg (env:=X.env) (scope:=scope) fun y hy hf=>I.ok.has _ (S.free y hy hf)
 rw[eval_ListComp]
 refine wpAny_comprehension_free (use:=none) rfl hs hcl S.kind S.names (thn (hi pins s σ H _ I h) fun v s1 h1=>thn h1 fun itv s2 h2=> ?_)
 obtain⟨it,fp,tn,J,H2,rfl,I2,T,st2,f2,hW⟩:=h2
 refine zjI (R:=fun acc C=>compPost (model X.prog X.w) X.A X.xe none (EP X pins σ Q) acc C) hc S hY hs2 hs3 I2 hcl1 hcl2 T st2 f2 hW ?_
 intro acc C s' H' m hn IX hf hL h1 h2 h3 h4 q
 exact⟨m,hn,fun h' sb=>⟨.ref acc,H',IX.turned (t':=s'.toks) (fun b o hb e=>sb.extBut b o hb e) hf hL h1 h2 h3,rfl,q⟩⟩
end
noncomputable abbrev T3:=Nat×Nat×Nat
noncomputable def tri2 (C:Nat->Nat->Nat)(a n:Nat):List T3:=(List.range n).flatMap fun b=>(List.range (C a b)).map fun c=>(a,b,c)
noncomputable def tri (B:Nat->Nat)(C:Nat->Nat->Nat)(n:Nat):List T3:=(List.range n).flatMap fun a=>tri2 C a (B a)
theorem zey (B:Nat->Nat)(C:Nat->Nat->Nat)(n:Nat):tri B C (n+1)=tri B C n++tri2 C n (B n):=by
 unfold tri
 rw[List.range_succ,List.flatMap_append,List.flatMap_cons,List.flatMap_nil,List.append_nil]
theorem zdA (C:Nat->Nat->Nat)(a n:Nat):tri2 C a (n+1)=tri2 C a n++(List.range (C a n)).map fun c=>(a,n,c):=by
 unfold tri2
 rw[List.range_succ,List.flatMap_append,List.flatMap_cons,List.flatMap_nil,List.append_nil]
theorem zms (B:Nat->Nat)(C:Nat->Nat->Nat):∀{n m:Nat},n<=m->(tri B C n).length<=(tri B C m).length:=by
 intro n m h
 obtain⟨d,rfl⟩:∃d,m=n+d:=⟨m-n,by lia⟩
 clear h
 induction d with
 |zero=>exact Nat.le_refl _
 |succ d ih=>
  rw[<-Nat.add_assoc,zey,List.length_append]
  lia
theorem zlk (C:Nat->Nat->Nat)(a:Nat):∀{n m:Nat},n<=m->(tri2 C a n).length<=(tri2 C a m).length:=by
 intro n m h
 obtain⟨d,rfl⟩:∃d,m=n+d:=⟨m-n,by lia⟩
 clear h
 induction d with
 |zero=>exact Nat.le_refl _
 |succ d ih=>
  rw[<-Nat.add_assoc,zdA,List.length_append]
  lia
theorem zll {A:Nat}{B:Nat->Nat}{C:Nat->Nat->Nat}{wi2 wi3:TI}{te:TE}{ix:List Nat}{σ:L2.St}{H1:Hp}{Q:VK}(R:T3->V->Hp->Prop)(hR:∀x v H H',SameT H H'->R x v H->R x v H')(small:(tri B C A).length<sizeLine)
  (h2:∀a,a<A->∀H,Same H1 H->∀Rr:It->Hp->Prop,Rr (Itr 0 (B a)) H->wi2 (some (.int (a:Int))::none::none::ix.map fun i=>σ.getD i none) H Rr)
  (h3:∀a b,a<A->b<B a->∀H,Same H1 H->∀Rr:It->Hp->Prop,Rr (Itr 0 (C a b)) H->wi3 (some (.int (a:Int))::some (.int (b:Int))::none::ix.map fun i=>σ.getD i none) H Rr)
  (he:∀a b c,a<A->b<B a->c<C a b->∀H,Same H1 H->∀Q':VK,(∀v H',Same H H'->R (a,b,c) v H'->Q' v H')->te (some (.int (a:Int))::some (.int (b:Int))::some (.int (c:Int))::ix.map fun i=>σ.getD i none) H Q')
  (fin:∀acc vs H',H1 acc=none->Same H1 H'->H' acc=some (.lst vs)->Paired (fun x v=>R x v H') (tri B C A) vs->Q (.ref acc) H'):
  LcW3 (Itr 0 A) H1 (zaU 0) zaG wi2 (zaU 1) zaG wi3 (zaU 2) zaG te 3 ix σ Q:=by
 intro acc ha
 refine⟨fun i m H=>m=A-i/\i<=A/\Same H1 H/\∃vs,H acc=some (.lst vs)/\Paired (fun x v=>R x v H) (tri B C i) vs,⟨A,by simp,Nat.zero_le _,zad ha,[],zab,.nil⟩, ?_⟩
 rintro i m H ⟨rfl,hi,sm,vs,hacc,pr⟩
 by_cases hlt:i<A
 ·refine .inr ⟨hlt,fun x H' y=> ?_⟩
  obtain⟨rfl,rfl⟩:=y
  rw[Int.zero_add]
  refine⟨⟨rfl,fun j v e=> ?_⟩, ?_⟩
  ·cases j with
   |zero=>cases e
   |succ j=>exact e
  ·unfold zaG
   dsimp only
   rw[if_pos rfl]
   refine h2 i hlt _ sm _ ?_
   refine⟨fun j m2 G=>m2=B i-j/\j<=B i/\Same H1 G/\∃us,G acc=some (.lst us)/\Paired (fun x v=>R x v G) (tri B C i++tri2 C i j) us,
    ⟨B i,by simp,Nat.zero_le _,sm,vs,hacc,by rw[show tri2 C i 0=[] from rfl,List.append_nil];exact pr⟩, ?_⟩
   rintro j m2 G ⟨rfl,hj,smG,us,hus,prG⟩
   by_cases hjl:j<B i
   ·refine .inr ⟨hjl,fun y G' yy=> ?_⟩
    obtain⟨rfl,rfl⟩:=yy
    rw[Int.zero_add]
    refine⟨⟨rfl,fun k v e=> ?_⟩, ?_⟩
    ·cases k with
     |zero=>exact e
     |succ k=>
      cases k with
      |zero=>cases e
      |succ k=>exact e
    ·dsimp only
     rw[if_pos rfl]
     refine h3 i j hlt hjl _ smG _ ?_
     refine⟨fun l m3 G2=>m3=C i j-l/\l<=C i j/\Same H1 G2/\∃ws,G2 acc=some (.lst ws)/\Paired (fun x v=>R x v G2) (tri B C i++tri2 C i j++(List.range l).map fun c=>(i,j,c)) ws,
      ⟨C i j,by simp,Nat.zero_le _,smG,us,hus,by rw[List.range_zero,List.map_nil,List.append_nil];exact prG⟩, ?_⟩
     rintro l m3 G2 ⟨rfl,hl,sm2,ws,hws,pr2⟩
     by_cases hll:l<C i j
     ·refine .inr ⟨hll,fun z G3 zz=> ?_⟩
      obtain⟨rfl,rfl⟩:=zz
      rw[Int.zero_add]
      refine⟨⟨rfl,fun k v e=> ?_⟩, ?_⟩
      ·match k,e with
       |0,e=>exact e
       |1,e=>exact e
       |2,e=>cases e
       |k+3,e=>exact e
      ·dsimp only
       rw[if_pos rfl]
       refine he i j l hlt hjl hll _ sm2 _ fun v G4 t4 r4=> ?_
       have hws4:=t4 _ _ hws
       have st6:SameT G4 (upd G4 acc (.lst (ws++[v]))):=zbG hws4
       refine⟨ws,hws4, ?_,C i j-(l+1),by lia,rfl,hll,zaW (sm2.trans t4) ha,ws++[v],zab, ?_⟩
       ·have e1:=Paired.length pr2
        rw[List.length_append,List.length_append,List.length_map,List.length_range] at e1
        have e2:=zms B C (show i+1<=A from hlt)
        rw[zey,List.length_append] at e2
        have e3:=zlk C i (show j+1<=B i from hjl)
        rw[zdA,List.length_append,List.length_map,List.length_range] at e3
        lia
       ·rw [List.range_succ,List.map_append,<-List.append_assoc]
        exact Paired.snoc (Paired.mapP pr2 fun x v r=>hR x v _ _ (t4.t.trans st6) r) (hR _ _ _ _ st6 r4)
     ·have e:l=C i j:=by lia
      subst e
      refine .inl ⟨Nat.le_refl _,B i-(j+1),by lia,rfl,hjl,sm2,ws,hws, ?_⟩
      rw[zdA,<-List.append_assoc]
      exact pr2
   ·have e:j=B i:=by lia
    subst e
    refine .inl ⟨Nat.le_refl _,A-(i+1),by lia,rfl,hlt,smG,us,hus, ?_⟩
    rw[zey]
    exact prG
 ·have e:i=A:=by lia
  subst e
  exact .inl ⟨Nat.le_refl _,fin acc vs H ha sm hacc pr⟩
theorem zez {xs:List V}{p:V->Bool}{q:Int->Bool}{l:List Int}(hx:xs=l.map V.int)(h:∀n,p (.int n)=q n):((List.replicate (xs.filter p).length (1:Int)).sum)=((l.filter q).length:Int):=by
 rw[zjj,hx,List.filter_map,List.length_map]
 congr 2
 exact List.filter_congr fun n _=>h n
theorem zjJ {b:List Int}(h:b≠[]):atI (b.map V.int) (-1)=some (.int (atO b ((b.length:Int)-1))):=by
 have hl:0<b.length:=List.length_pos_iff.mpr h
 rw[zea (by rw[zaq];exact hl),zaq,List.getElem?_map,List.getElem?_eq_getElem (by lia)]
 unfold atO
 rw[show ((b.length:Int)-1).toNat=b.length-1 by lia,List.getD_eq_getElem?_getD,List.getElem?_eq_getElem (by lia)]
 rfl
theorem Paired.split {α β:Type}{F:α->β->Prop}:∀{l1 l2:List α} {vs:List β},Paired F (l1++l2) vs->∃v1 v2,vs=v1++v2/\Paired F l1 v1/\Paired F l2 v2
 |[],_,vs,h=>⟨[],vs,rfl,.nil,h⟩
 |_::_,_,_,.cons r t=>by
  obtain⟨v1,v2,rfl,h1,h2⟩:=Paired.split t
  exact⟨_::v1,v2,rfl,.cons r h1,h2⟩
noncomputable def g4V (g:G4):List V:=[.int (g.1:Int),.int (g.2.1:Int),.int (g.2.2.1:Int),.int (g.2.2.2:Int)]
noncomputable def G4At (H:Hp)(t:Addr)(g:G4):Prop:=H t=some (.tup (g4V g))
noncomputable def GsAt (H:Hp)(zs:List Addr)(gs:List G4):Prop:=Paired (fun z g=>G4At H z g) zs gs
noncomputable def GoP (H:Hp)(z:Addr)(q:Int×G4):Prop:=∃t,H z=some (.tup [.int q.1,.ref t])/\G4At H t q.2
noncomputable def GoAt (H:Hp)(zs:List Addr)(qs:List (Int×G4)):Prop:=Paired (fun z q=>GoP H z q) zs qs
theorem GoP.same {H H':Hp}{z:Addr}{q:Int×G4}(h:GoP H z q)(s:SameT H H'):GoP H' z q:=let ⟨t,a,b⟩:=h;⟨t,s _ _ a,s _ _ b⟩
theorem GoAt.same {H H':Hp}{zs:List Addr}{qs:List (Int×G4)}(h:GoAt H zs qs)(s:SameT H H'):GoAt H' zs qs:=Paired.mapP h fun _ _ r=>r.same s
noncomputable def gAll (l:Nat):List G4:=(tri (fun a=>l-a+1) (fun a b=>l-a-b+1) (l+1)).map fun x=>(x.1,x.2.1,x.2.2,l-x.1-x.2.1-x.2.2)
noncomputable def gSum (g:G4):Nat:=g.1+g.2.1+g.2.2.1+g.2.2.2
theorem gAll_iff {l:Nat}{g:G4}:g∈gAll l↔gSum g=l:=by
 obtain⟨a,b,c,d⟩:=g
 unfold gAll tri tri2 gSum
 constructor
 ·intro h
  obtain⟨⟨x,y,z⟩,hx,e⟩:=List.mem_map.mp h
  obtain⟨x',hx',h2⟩:=List.mem_flatMap.mp hx
  obtain⟨y',hy',h3⟩:=List.mem_flatMap.mp h2
  obtain⟨z',hz',e2⟩:=List.mem_map.mp h3
  cases e2
  cases e
  have h1:x<l+1:=List.mem_range.mp hx'
  have h2:y<l-x+1:=List.mem_range.mp hy'
  have h3:z<l-x-y+1:=List.mem_range.mp hz'
  show x+y+z+(l-x-y-z)=l
  lia
 ·intro h
  have h:a+b+c+d=l:=h
  refine List.mem_map.mpr ⟨(a,b,c),List.mem_flatMap.mpr ⟨a,List.mem_range.mpr (by lia),List.mem_flatMap.mpr ⟨b,List.mem_range.mpr (by show b<l-a+1;lia),List.mem_map.mpr ⟨c,List.mem_range.mpr (by show c<l-a-b+1;lia),rfl⟩⟩⟩, ?_⟩
  show (a,b,c,l-a-b-c)=(a,b,c,d)
  rw[show l-a-b-c=d by lia]
theorem ziy:∀l<13,(tri (fun a=>l-a+1) (fun a b=>l-a-b+1) (l+1)).length<=1000:=by decide+kernel
noncomputable def zgx:Sp:=fun vs H Q _=>∃l:Nat,vs=[.int (l:Int)]/\l<=12/\∀p zs H',Same H H'->H p=none->H' p=some (.lst (zs.map V.ref))->GsAt H' zs (gAll l)->Q (.ref p) H'
noncomputable def zjK:Sp:=fun vs H Q _=>∃(t:Addr) (g:G4),vs=[.ref t]/\G4At H t g/\gSum g<=100/\∀p zs H',Same H H'->H p=none->H' p=some (.lst (zs.map V.ref))->GoAt H' zs (goG g)->Q (.ref p) H'
noncomputable def zlm:Sp:=fun vs H Q _=>∃(a l:Addr) (b F:List Int),vs=[.ref a,.ref l]/\H a=some (.tup (b.map V.int))/\b≠[]/\H l=some (.lst (F.map V.int))/\F.length<=100/\∀t H',Same H H'->G4At H' t (zbN b F)->Q (.ref t) H'
theorem zjL {n:Nat}{te:TE}{ix:List Nat}{σ:L2.St}{H1:Hp}{Q:VK}(f:Nat->Int×G4)(small:n<=1000)
  (he:∀k:Nat,k<n->∀H,Same H1 H->∀Q':VK,(∀z H',Same H H'->GoP H' z (f k)->Q' (.ref z) H')->te (some (.int (k:Int))::ix.map fun i=>σ.getD i none) H Q')
  (fin:∀acc zs H',H1 acc=none->Same H1 H'->H' acc=some (.lst (zs.map V.ref))->GoAt H' zs ((List.range n).map f)->Q (.ref acc) H'):LcW (Itr 0 n) H1 (zaU 0) zaG te 1 ix σ Q:=by
 refine zdk (zao (lo:=0) (n:=n)) (zaS (by rw[zan];exact small)) (fun x v H=>∀k:Nat,x=V.int (k:Int)->∃z,v=.ref z/\GoP H z (f k)) (fun x v G G' st h k e=>by obtain⟨z,e1,e2⟩:=h k e;exact⟨z,e1,e2.same st⟩) (fun _ _=>trivial) (fun x hx H' s' Q' q=> ?_) fun acc ys H' hacc sm hys pr=> ?_
 ·obtain ⟨k,rfl,k0,k1⟩:=za5 hx
  obtain⟨j,rfl⟩:∃j:Nat,k=(j:Int):=⟨k.toNat,by lia⟩
  refine he j (by lia) H' s' Q' fun z H2 s2 hz=>q _ H2 s2 fun k' e=> ?_
  have:j=k':=by have:=V.int.inj e;lia
  subst this
  exact⟨z,rfl,hz⟩
 ·have key:∀(m:Nat) (ys:List V),Paired (fun x v=>∀k:Nat,x=V.int (k:Int)->∃z,v=.ref z/\GoP H' z (f k)) (zaY 0 m) ys->∃zs,ys=zs.map V.ref/\GoAt H' zs ((List.range m).map f):=by
   intro m
   induction m with
   |zero=>
    intro ys h
    cases h
    exact⟨[],rfl,.nil⟩
   | succ m ih=>
    intro ys h
    have e:zaY 0 (m+1)=zaY 0 m++[V.int (m:Int)]:=by
     unfold zaY
     rw[List.range_succ,List.map_append]
     simp
    rw[e] at h
    obtain⟨y1,y2,rfl,h1,h2⟩:=Paired.split h
    obtain⟨zs,rfl,hz⟩:=ih y1 h1
    cases h2 with
    |cons a b=>
     cases b
     obtain⟨z,rfl,hq⟩:=a m rfl
     refine⟨zs++[z],by rw[List.map_append];rfl, ?_⟩
     rw[List.range_succ,List.map_append]
     exact Paired.append hz (.cons hq .nil)
  obtain⟨zs,rfl,hz⟩:=key n ys pr
  exact fin acc zs H' hacc sm hys hz
end L2
namespace K52
open L2
noncomputable abbrev zb6:Stmt:=top 21
noncomputable abbrev zbv:Stmt:=top 22
section
variable {P:Program}{w:World}{K:PySem.W.Frag}{mg:Str->Option Value}{base:Heap}
theorem zf0:FnScope ["left"] ["left"] (zae zb6):=⟨rfl,rfl,rfl,by decide+kernel,rfl,by decide+kernel,by decide+kernel⟩
theorem zf1 {f:Addr}{fd:FuncData}(F:Fun K "gaps_all" "gaps_all" zb6 f fd)(T:Top mg):FnOk P w K mg base CX0 1 f fd ["left"] zgx:=by
 refine F.ok zf0 (fun vs H Q E h=> ?_) (fun cdv A outer s H vs Q E hr h=> ?_)
 ·obtain ⟨l,rfl,_⟩:=h
  rfl
 ·obtain ⟨l,rfl,hl,k⟩:=h
  refine⟨_,(zai (zaz (zmr (N':=["below", "under", "over", "left"]) (n:=3) (ix:=[0]) rfl (CompScope.of (sc:=zae zb6) (N:=["left"]) (by decide+kernel) rfl rfl) (zas rfl T.n_range (zaa (zap za2 (pv 0) zag) zac))
    (fun _ _ _ _ _=>⟨(zah (i:=0) (show (["below", "under", "over", "left"]:List Str).Nodup by decide+kernel) rfl (Or.inl rfl)),zax,
     (zas rfl T.n_range (zaa (zap za2 (zap zbf (pv 3) (pv 0)) zag) zac)),(zah (i:=1) (show (["below", "under", "over", "left"]:List Str).Nodup by decide+kernel) rfl (Or.inl rfl)),zax,
     (zas rfl T.n_range (zaa (zap za2 (zap zbf (zap zbf (pv 3) (pv 0)) (pv 1)) zag) zac)),(zah (i:=2) (show (["below", "under", "over", "left"]:List Str).Nodup by decide+kernel) rfl (Or.inl rfl)),zax,
     (za7 (zaa (pv 0) (zaa (pv 1) (zaa (pv 2) (zaa (zap zbf (zap zbf (zap zbf (pv 3) (pv 0)) (pv 1)) (pv 2)) zac)))))⟩)))), ?_⟩
  refine⟨_,rfl,_,_,rfl,rfl,_,rfl,by lia,by lia, ?_⟩
  rw[show ((l:Int)+1).toNat=l+1 by lia]
  refine zll (B:=fun a=>l-a+1) (C:=fun a b=>l-a-b+1) (fun x v H=>∃z,v=.ref z/\G4At H z (x.1,x.2.1,x.2.2,l-x.1-x.2.1-x.2.2)) (fun x v H H' st ⟨z,e1,e2⟩=>⟨z,e1,st _ _ e2⟩) (zaS (ziy l (by lia))) (fun a ha G sm Rr q=> ?_) (fun a b ha hb G sm Rr q=> ?_) (fun a b c ha hb hc G sm Q' q=> ?_) fun acc vs G hacc sm hvs pr=> ?_
  ·refine ⟨_,rfl,_,rfl,_,_,rfl,rfl,_,_,rfl,rfl,_,rfl,by lia,by lia, ?_⟩
   rw[show ((l:Int)-(a:Int)+1).toNat=l-a+1 by lia]
   exact q
  ·refine ⟨_,rfl,_,rfl,_,_,rfl,rfl,_,rfl,_,_,rfl,rfl,_,_,rfl,rfl,_,rfl,by lia,by lia, ?_⟩
   rw[show ((l:Int)-(a:Int)-(b:Int)+1).toNat=l-a-b+1 by lia]
   exact q
  ·refine ⟨_,rfl,_,rfl,_,rfl,_,rfl,_,rfl,_,_,rfl,rfl,_,rfl,_,_,rfl,rfl,_,rfl,_,_,rfl,rfl,by show 4<=sizeLine;decide,fun t ht=>q _ _ (zad ht) ⟨t,rfl, ?_⟩⟩
   unfold G4At g4V
   rw[zab]
   have:((l-a-b-c:Nat):Int)=(l:Int)-a-b-c:=by lia
   dsimp only
   rw[this]
  ·have key:∀{xs:List T3} {vs:List V},Paired (fun x v=>∃z,v=V.ref z/\G4At G z (x.1,x.2.1,x.2.2,l-x.1-x.2.1-x.2.2)) xs vs->∃zs,vs=zs.map V.ref/\GsAt G zs (xs.map fun x=>(x.1,x.2.1,x.2.2,l-x.1-x.2.1-x.2.2)):=by
    intro xs vs h
    induction h with
    |nil=>exact⟨[],rfl,.nil⟩
    |cons a _ ih=>
     obtain⟨z,rfl,hz⟩:=a
     obtain⟨zs,rfl,hzs⟩:=ih
     exact⟨z::zs,rfl,.cons hz hzs⟩
   obtain⟨zs,rfl,hz⟩:=key pr
   exact k acc zs G sm hacc hvs hz
theorem sc_gaps_on:FnScope ["gaps", "below", "under", "over", "above", "inner", "lowest", "fallen", "risen", "highest"] ["gaps"] (zae zbv):=⟨rfl,rfl,rfl,by decide+kernel,rfl,by decide+kernel,by decide+kernel⟩
theorem zg3 {f:Addr}{fd:FuncData}(F:Fun K "gaps_on" "gaps_on" zbv f fd)(T:Top mg):FnOk P w K mg base CX0 1 f fd ["gaps"] zjK:=by
 refine F.ok sc_gaps_on (fun vs H Q E h=> ?_) (fun cdv A outer s H vs Q E hr h=> ?_)
 ·obtain ⟨t,g,rfl,_⟩:=h
  rfl
 ·obtain ⟨t,⟨a,b,c,d⟩,rfl,ht,hg,k⟩:=h
  have hg:a+b+c+d<=100:=hg
  refine⟨_,(zaf (zca (pv 0) (zdc rfl (zaA (zah (i:=1) sc_gaps_on.nd rfl (Or.inr rfl) (Or.inl rfl)) (zaA (zah (i:=2) sc_gaps_on.nd rfl (Or.inr rfl) (Or.inl rfl)) (zaA (zah (i:=3) sc_gaps_on.nd rfl (Or.inr rfl) (Or.inl rfl)) (zaA (zah (i:=4) sc_gaps_on.nd rfl (Or.inr rfl) (Or.inl rfl)) zbU))))))
   (zaf (zau (i:=5) sc_gaps_on.nd rfl (Or.inr rfl) (zap za2 (pv 2) (pv 3)))
   (zaf (zbz (i:=6) rfl sc_gaps_on.nd rfl rfl (N':=["passed", "above", "inner", "below"]) (n:=1) (ix:=[4,5,1]) rfl (CompScope.of (sc:=zae zbv) (N:=["gaps", "below", "under", "over", "above", "inner", "lowest", "fallen", "risen", "highest"]) (by decide+kernel) rfl rfl) (zas rfl T.n_range (zaa (pv 1) zac)) (fun _ _ _ _ _=>⟨(zah (i:=0) (show (["passed", "above", "inner", "below"]:List Str).Nodup by decide+kernel) rfl (Or.inl rfl)),zax,(za7 (zaa zag (zaa (za7 (zaa (pv 0) (zaa zag (zaa (zap za2 (zap zbf (zap zbf (pv 3) zag) (pv 0)) (pv 2)) (zaa (pv 1) zac))))) zac)))⟩))
   (zaf (zbz (i:=7) rfl sc_gaps_on.nd rfl rfl (N':=["passed", "below", "above", "inner"]) (n:=1) (ix:=[1,4,5]) rfl (CompScope.of (sc:=zae zbv) (N:=["gaps", "below", "under", "over", "above", "inner", "lowest", "fallen", "risen", "highest"]) (by decide+kernel) rfl rfl) (zas rfl T.n_range (zaa (pv 2) zac)) (fun _ _ _ _ _=>⟨(zah (i:=0) (show (["passed", "below", "above", "inner"]:List Str).Nodup by decide+kernel) rfl (Or.inl rfl)),zax,(za7 (zaa zag (zaa (za7 (zaa (pv 1) (zaa (pv 0) (zaa (zap zbf (zap zbf (pv 3) zag) (pv 0)) (zaa (pv 2) zac))))) zac)))⟩))
   (zaf (zbz (i:=8) rfl sc_gaps_on.nd rfl rfl (N':=["passed", "below", "above", "under", "over"]) (n:=1) (ix:=[1,4,2,3]) rfl (CompScope.of (sc:=zae zbv) (N:=["gaps", "below", "under", "over", "above", "inner", "lowest", "fallen", "risen", "highest"]) (by decide+kernel) rfl rfl) (zas rfl T.n_range (zaa (pv 3) zac)) (fun _ _ _ _ _=>⟨(zah (i:=0) (show (["passed", "below", "above", "under", "over"]:List Str).Nodup by decide+kernel) rfl (Or.inl rfl)),zax,(za7 (zaa zag (zaa (za7 (zaa (pv 1) (zaa (zap za2 (pv 3) (pv 0)) (zaa (zap zbf (zap zbf (pv 4) zag) (pv 0)) (zaa (pv 2) zac))))) zac)))⟩))
   (zaf (zbz (i:=9) rfl sc_gaps_on.nd rfl rfl (N':=["passed", "below", "inner", "above"]) (n:=1) (ix:=[1,5,4]) rfl (CompScope.of (sc:=zae zbv) (N:=["gaps", "below", "under", "over", "above", "inner", "lowest", "fallen", "risen", "highest"]) (by decide+kernel) rfl rfl) (zas rfl T.n_range (zaa (pv 4) zac)) (fun _ _ _ _ _=>⟨(zah (i:=0) (show (["passed", "below", "inner", "above"]:List Str).Nodup by decide+kernel) rfl (Or.inl rfl)),zax,(za7 (zaa zag (zaa (za7 (zaa (pv 1) (zaa (zap za2 (pv 2) (pv 0)) (zaa zag (zaa (zap zbf (zap zbf (pv 3) zag) (pv 0)) zac))))) zac)))⟩))
   (zai (zaz (zap zge (zap zge (zap zge (pv 6) (pv 7)) (pv 8)) (pv 9)))))))))), ?_⟩
  refine⟨_,rfl,t,_,rfl,SqT.of ht,rfl,_,_,rfl,_,_,rfl,_,_,rfl,_,_,rfl,rfl, ?_⟩
  refine⟨_,rfl,_,rfl,_,_,rfl,rfl, ?_⟩
  refine⟨_,rfl,(a:Int),rfl,by lia,by lia, ?_⟩
  rw[Int.toNat_natCast]
  refine zjL (fun p=>(0,(p,0,a-1-p+(b+c),d))) (by lia) (fun p hp G sm Q' q=> ?_) fun l1 zs1 G1 hn1 s1 h1 r1=> ?_
  ·refine ⟨_,rfl,_,rfl,_,_,rfl,rfl,_,rfl,_,_,rfl,rfl,_,rfl,_,_,rfl,rfl,_,rfl,by show 4<=sizeLine;decide,fun u hu=>⟨by show 2<=sizeLine;decide,fun z hz=> ?_⟩⟩
   refine q z _ ((zad hu).trans (zad hz)) ⟨u,zab, ?_⟩
   unfold G4At g4V
   rw[zad hz _ _ zab]
   dsimp only
   rw[show ((a-1-p+(b+c):Nat):Int)=(a:Int)-1-p+(b+c) by lia]
   rfl
  refine⟨_,rfl,(b:Int),rfl,by lia,by lia, ?_⟩
  rw[Int.toNat_natCast]
  refine zjL (fun p=>(1,(a,p,b+c-1-p,d))) (by lia) (fun p hp G sm Q' q=> ?_) fun l2 zs2 G2 hn2 s2 h2 r2=> ?_
  ·refine ⟨_,rfl,_,rfl,_,rfl,_,_,rfl,rfl,_,rfl,_,_,rfl,rfl,_,rfl,by show 4<=sizeLine;decide,fun u hu=>⟨by show 2<=sizeLine;decide,fun z hz=> ?_⟩⟩
   refine q z _ ((zad hu).trans (zad hz)) ⟨u,zab, ?_⟩
   unfold G4At g4V
   rw[zad hz _ _ zab]
   dsimp only
   rw[show ((b+c-1-p:Nat):Int)=(b:Int)+c-1-p by lia]
  refine⟨_,rfl,(c:Int),rfl,by lia,by lia, ?_⟩
  rw[Int.toNat_natCast]
  refine zjL (fun p=>(2,(a,b+p,c-1-p,d))) (by lia) (fun p hp G sm Q' q=> ?_) fun l3 zs3 G3 hn3 s3 h3 r3=> ?_
  ·refine ⟨_,rfl,_,rfl,_,rfl,_,_,rfl,rfl,_,rfl,_,_,rfl,rfl,_,rfl,_,_,rfl,rfl,_,rfl,by show 4<=sizeLine;decide,fun u hu=>⟨by show 2<=sizeLine;decide,fun z hz=> ?_⟩⟩
   refine q z _ ((zad hu).trans (zad hz)) ⟨u,zab, ?_⟩
   unfold G4At g4V
   rw[zad hz _ _ zab]
   dsimp only
   rw[show ((c-1-p:Nat):Int)=(c:Int)-1-p by lia,show ((b+p:Nat):Int)=(b:Int)+p by lia]
  refine⟨_,rfl,(d:Int),rfl,by lia,by lia, ?_⟩
  rw[Int.toNat_natCast]
  refine zjL (fun p=>(3,(a,b+c+p,0,d-1-p))) (by lia) (fun p hp G sm Q' q=> ?_) fun l4 zs4 G4 hn4 s4 h4 r4=> ?_
  ·refine ⟨_,rfl,_,rfl,_,rfl,_,_,rfl,rfl,_,rfl,_,_,rfl,rfl,_,rfl,_,_,rfl,rfl,by show 4<=sizeLine;decide,fun u hu=>⟨by show 2<=sizeLine;decide,fun z hz=> ?_⟩⟩
   refine q z _ ((zad hu).trans (zad hz)) ⟨u,zab, ?_⟩
   unfold G4At g4V
   rw[zad hz _ _ zab]
   dsimp only
   rw[show ((d-1-p:Nat):Int)=(d:Int)-1-p by lia,show ((b+c+p:Nat):Int)=(b:Int)+c+p by lia]
   rfl
  have len:∀{zs:List Addr} {f:Nat->Int×L2.G4} {n:Nat} {G:Hp},GoAt G zs ((List.range n).map f)->zs.length=n:=fun {zs f n G} r=>by
   rw[Paired.length r,List.length_map,List.length_range]
  have n1:=len r1
  have n2:=len r2
  have n3:=len r3
  have n4:=len r4
  have S2:=s2.trans (s3.trans s4)
  have S3:=s3.trans s4
  refine⟨_,rfl,_,rfl,l1,l2,_,_,rfl,rfl,S2 _ _ h1,S3 _ _ h2, ?_,fun m1 hm1=> ?_⟩
  ·rw [zaC,zaC]
   exact Nat.le_trans (by lia:zs1.length+zs2.length<=1000) (by decide)
  have t1:=zad (o:=.lst (zs1.map V.ref++zs2.map V.ref)) hm1
  refine⟨_,rfl,m1,l3,_,_,rfl,rfl,zab,t1 _ _ (s4 _ _ h3), ?_,fun m2 hm2=> ?_⟩
  ·rw [List.length_append,zaC,zaC,zaC]
   exact Nat.le_trans (by lia:zs1.length+zs2.length+zs3.length<=1000) (by decide)
  have t2:=zad (o:=.lst (zs1.map V.ref++zs2.map V.ref++zs3.map V.ref)) hm2
  refine⟨_,rfl,m2,l4,_,_,rfl,rfl,zab,t2 _ _ (t1 _ _ h4), ?_,fun m3 hm3=> ?_⟩
  ·rw [List.length_append,List.length_append,zaC,zaC,zaC,zaC]
   exact Nat.le_trans (by lia:zs1.length+zs2.length+zs3.length+zs4.length<=1000) (by decide)
  have t3:=zad (o:=.lst (zs1.map V.ref++zs2.map V.ref++zs3.map V.ref++zs4.map V.ref)) hm3
  have T:=(t1.trans t2).trans t3
  have SS:=(s1.trans s2).trans (s3.trans s4)
  refine k m3 (zs1++zs2++zs3++zs4) _ (SS.trans T) (SS.free ((t1.trans t2).free hm3)) ?_ ?_
  ·rw [zab]
   simp only[List.map_append]
  ·exact Paired.append (Paired.append (Paired.append (r1.same (S2.trans T).t) (r2.same (S3.trans T).t)) (r3.same (s4.trans T).t)) (r4.same T.t)
end
end K52
namespace L2
theorem ziz {b:List Int}{M n:Int}(h1:M∈b)(h2:∀a∈b,M<=a):decide (n<M)=zaO b n:=by
 apply Bool.eq_iff_iff.mpr
 rw[decide_eq_true_eq,below_iff]
 exact⟨fun z a ha=>by have:=h2 a ha;lia,fun z=>z M h1⟩
theorem ziA {b:List Int}{M n:Int}(h1:M∈b)(h2:∀a∈b,a<=M):decide (n>M)=zaM b n:=by
 apply Bool.eq_iff_iff.mpr
 rw[decide_eq_true_eq,above_iff]
 exact⟨fun z a ha=>by have:=h2 a ha;lia,fun z=>z M h1⟩
theorem zjM (b:List Int):atO b ((b.length:Int)-1)=zat b:=by
 unfold atO zat
 congr 1
 lia
end L2
namespace K52
open L2
noncomputable abbrev zbI:Stmt:=top 19
section
variable {P:Program}{w:World}{K:PySem.W.Frag}{mg:Str->Option Value}{base:Heap}
theorem sc_gaps_of:FnScope ["begun", "left", "below", "lesser", "above"] ["begun", "left"] (zae zbI):=⟨rfl,rfl,rfl,by decide+kernel,rfl,by decide+kernel,by decide+kernel⟩
theorem zg4 {f:Addr}{fd:FuncData}(F:Fun K "gaps_of" "gaps_of" zbI f fd)(T:Top mg):FnOk P w K mg base CX0 1 f fd ["begun", "left"] zlm:=by
 refine F.ok sc_gaps_of (fun vs H Q E h=> ?_) (fun cdv A outer s H vs Q E hr h=> ?_)
 ·obtain ⟨a,l,b,F,rfl,_⟩:=h
  rfl
 ·obtain ⟨a,l,b,F,rfl,ha,hb,hl,hF,k⟩:=h
  have hbm:b.map V.int≠[]:=fun z=>hb (List.map_eq_nil_iff.mp z)
  refine⟨_,(zaf (zau (i:=2) sc_gaps_of.nd rfl (Or.inl rfl) (zam (zbp rfl) (by rfl) T.n_sum boot_sum (zaa (zbF (N':=["number", "begun"]) (n:=1) (ix:=[0]) rfl (CompScope.of (sc:=zae zbI) (N:=["begun", "left", "below", "lesser", "above"]) (by decide+kernel) rfl rfl) (zbL (pv 1)) (fun _ _ _ _ _=>⟨(zah (i:=0) (show (["number", "begun"]:List Str).Nodup by decide+kernel) rfl (Or.inl rfl)),(zbV (zar zhy (pv 0) (zam (ze2 rfl) (by rfl) T.n_min boot_min (zaa (pv 1) zac)) (zaH _))),zag⟩)) zac)))
   (zaf (zau (i:=3) sc_gaps_of.nd rfl (Or.inl rfl) (zam (zbp rfl) (by rfl) T.n_sum boot_sum (zaa (zbF (N':=["number", "begun"]) (n:=1) (ix:=[0]) rfl (CompScope.of (sc:=zae zbI) (N:=["begun", "left", "below", "lesser", "above"]) (by decide+kernel) rfl rfl) (zbL (pv 1)) (fun _ _ _ _ _=>⟨(zah (i:=0) (show (["number", "begun"]:List Str).Nodup by decide+kernel) rfl (Or.inl rfl)),(zbV (zar zhy (pv 0) (zaT (zbl K rfl) (pv 1) (zkQ zhu zag) (fun _ _=>rfl)) (zaH _))),zag⟩)) zac)))
   (zaf (zau (i:=4) sc_gaps_of.nd rfl (Or.inl rfl) (zam (zbp rfl) (by rfl) T.n_sum boot_sum (zaa (zbF (N':=["number", "begun"]) (n:=1) (ix:=[0]) rfl (CompScope.of (sc:=zae zbI) (N:=["begun", "left", "below", "lesser", "above"]) (by decide+kernel) rfl rfl) (zbL (pv 1)) (fun _ _ _ _ _=>⟨(zah (i:=0) (show (["number", "begun"]:List Str).Nodup by decide+kernel) rfl (Or.inl rfl)),(zbV (zar zfC (pv 0) (zam (ze1 rfl) (by rfl) T.n_max boot_max (zaa (pv 1) zac)) (zaH _))),zag⟩)) zac)))
   (zai (zaz (za7 (zaa (pv 2) (zaa (zap zbf (pv 3) (pv 2)) (zaa (zap zbf (zap zbf (zam zaE (by rfl) T.n_len PySem.boot_len (zaa (pv 1) zac)) (pv 3)) (pv 4)) (zaa (pv 4) zac)))))))))), ?_⟩
  refine⟨_,rfl,l,rfl,⟨_,SqL.of hl⟩, ?_⟩
  refine zfV (za3 (K:=K) (a:=l) (xs:=F.map V.int)) (zaS (by rw[zaq];lia)) (fun v=>match v with| .int n=>zaO b n|_=>false) (fun G sm=>SqL.of (sm _ _ hl)) (fun x hx G s' Q' q'=> ?_) (fun x hx G s' Q' q'=>q') fun acc G1 hacc s1 hys=> ?_
  ·obtain ⟨n,hn,rfl⟩:=List.mem_map.mp hx
   refine⟨_,rfl,_,rfl,a,_,rfl,s' _ _ ha,hb,fun M h1 h2=>⟨_,_,rfl,rfl,_,rfl, ?_⟩⟩
   rw[ziz h1 h2]
   exact q'
  refine⟨acc,_,rfl,hys, ?_⟩
  rw[zez (q:=zaO b) (l:=F) rfl (fun _=>rfl)]
  refine⟨_,rfl,l,rfl,⟨_,SqL.of (s1 _ _ hl)⟩, ?_⟩
  refine zfV (za3 (K:=K) (a:=l) (xs:=F.map V.int)) (zaS (by rw[zaq];lia)) (fun v=>match v with| .int n=>decide (n<zat b)|_=>false) (fun G sm=>SqL.of (sm _ _ (s1 _ _ hl))) (fun x hx G s' Q' q'=> ?_) (fun x hx G s' Q' q'=>q') fun acc2 G2 hacc2 s2 hys2=> ?_
  ·obtain ⟨n,hn,rfl⟩:=List.mem_map.mp hx
   have hat:=zjJ hb
   rw[zjM] at hat
   exact⟨_,rfl,_,rfl,_,rfl,a,_,_,_,rfl,rfl,SqT.of (s' _ _ (s1 _ _ ha)),hat,_,_,rfl,rfl,_,rfl,q'⟩
  refine⟨acc2,_,rfl,hys2, ?_⟩
  rw[zez (q:=fun n=>decide (n<zat b)) (l:=F) rfl (fun _=>rfl)]
  have S2:=s1.trans s2
  refine⟨_,rfl,l,rfl,⟨_,SqL.of (S2 _ _ hl)⟩, ?_⟩
  refine zfV (za3 (K:=K) (a:=l) (xs:=F.map V.int)) (zaS (by rw[zaq];lia)) (fun v=>match v with| .int n=>zaM b n|_=>false) (fun G sm=>SqL.of (sm _ _ (S2 _ _ hl))) (fun x hx G s' Q' q'=> ?_) (fun x hx G s' Q' q'=>q') fun acc3 G3 hacc3 s3 hys3=> ?_
  ·obtain ⟨n,hn,rfl⟩:=List.mem_map.mp hx
   refine⟨_,rfl,_,rfl,a,_,rfl,s' _ _ (S2 _ _ ha),hb,fun M h1 h2=>⟨_,_,rfl,rfl,_,rfl, ?_⟩⟩
   rw[ziA h1 h2]
   exact q'
  refine⟨acc3,_,rfl,hys3, ?_⟩
  rw[zez (q:=zaM b) (l:=F) rfl (fun _=>rfl)]
  have S3:=S2.trans s3
  obtain⟨g1,g2⟩:=zdq (b:=b) (F:=F) hb
  have e1:((F.filter (zaO b)).length:Int)=(F.countP (zaO b):Nat):=by rw[List.countP_eq_length_filter]
  have e2:((F.filter fun n=>decide (n<zat b)).length:Int)=(F.countP (fun n=>decide (n<zat b)):Nat):=by rw[List.countP_eq_length_filter]
  have e3:((F.filter (zaM b)).length:Int)=(F.countP (zaM b):Nat):=by rw[List.countP_eq_length_filter]
  rw[e1,e2,e3]
  refine⟨_,rfl,_,rfl,_,rfl,_,_,rfl,rfl,_,rfl,l,_,rfl,.inl (SqL.of (S3 _ _ hl)),_,rfl,_,_,rfl,rfl,_,rfl,_,_,rfl,rfl,_,rfl,by show 4<=sizeLine;decide,fun t ht=>k t _ (S3.trans (zad ht)) ?_⟩
  unfold G4At g4V zbN
  rw[zab,zaq]
  dsimp only
  rw[show ((F.countP (fun y=>decide (y<zat b))-F.countP (zaO b):Nat):Int)=(F.countP (fun n=>decide (n<zat b)):Int)-F.countP (zaO b) by lia,
   show ((F.length-F.countP (fun y=>decide (y<zat b))-F.countP (zaM b):Nat):Int)=(F.length:Int)-F.countP (fun n=>decide (n<zat b))-F.countP (zaM b) by lia]
end
end K52
namespace L2
section
variable {κ:Type}[DecidableEq κ]
noncomputable def valV (kvs:List (κ×V))(k:κ):Option V:=(kvs.find? fun kv=>decide (kv.1=k)).map (·.2)
noncomputable def putK (kvs:List (κ×V))(k:κ)(v:V):List (κ×V):=
 if (kvs.any fun kv=>decide (kv.1=k))=true then kvs.map (fun kv=>if kv.1=k then (kv.1,v) else kv) else kvs++[(k,v)]
theorem zbb {p:κ×V}{r:List (κ×V)}{k:κ}(e:p.1=k):valV (p::r) k=some p.2:=by simp[valV,List.find?_cons,e]
theorem zbk {p:κ×V}{r:List (κ×V)}{k:κ}(e:¬p.1=k):valV (p::r) k=valV r k:=by simp[valV,List.find?_cons,e]
theorem zc7 (k:κ):∀kvs:List (κ×V),(kvs.any fun kv=>decide (kv.1=k))=(valV kvs k).isSome
 |[]=>rfl
 |p::r=>by
  rw[List.any_cons]
  by_cases e:p.1=k
  ·simp only[zbb e,decide_eq_true e,Bool.true_or,Option.isSome_some]
  ·rw[zbk e,decide_eq_false e,Bool.false_or];exact zc7 k r
theorem zgy (k j:κ)(y:V):∀kvs:List (κ×V),valV (kvs.map fun kv=>if kv.1=k then (kv.1,y) else kv) j=(valV kvs j).map fun x=>if j=k then y else x
 |[]=>rfl
 | p::r=>by
  have ih:=zgy k j y r
  rw[List.map_cons]
  by_cases h:p.1=k
  ·rw [if_pos h]
   by_cases e:p.1=j
   ·rw[zbb (p:=(p.1,y)) e,zbb e,Option.map_some,if_pos (e.symm.trans h)]
   ·rw[zbk (p:=(p.1,y)) e,zbk e,ih]
  ·rw [if_neg h]
   by_cases e:p.1=j
   ·rw[zbb (p:=p) e,zbb e,Option.map_some,if_neg (fun z=>h (e.trans z))]
   ·rw[zbk (p:=p) e,zbk e,ih]
theorem zfn (k j:κ)(y:V):∀kvs:List (κ×V),valV kvs k=none->valV (kvs++[(k,y)]) j=if j=k then some y else valV kvs j
 |[],_=>by
  by_cases e:k=j
  ·rw[if_pos e.symm];exact zbb (p:=(k,y)) e
  ·rw[if_neg (fun z=>e z.symm)];exact zbk (p:=(k,y)) e
 |p::r,hn=>by
  rw[List.cons_append]
  have hk:¬p.1=k:=fun z=>by rw[zbb z] at hn;cases hn
  rw[zbk hk] at hn
  have ih:=zfn k j y r hn
  by_cases e:p.1=j
  ·rw[zbb e,zbb e,if_neg (fun z=>hk (e.trans z))]
  ·rw[zbk e,zbk e,ih]
theorem zjN (kvs:List (κ×V))(k j:κ)(y:V):valV (putK kvs k y) j=if j=k then some y else valV kvs j:=by
 unfold putK
 by_cases a:(kvs.any fun kv=>decide (kv.1=k))=true
 ·rw [if_pos a,zgy]
  rw[zc7] at a
  by_cases e:j=k
  ·obtain ⟨x,hx⟩:=Option.isSome_iff_exists.mp a
   rw[if_pos e,e,hx,Option.map_some,if_pos rfl]
  ·rw [if_neg e]
   cases valV kvs j with
   |none=>rfl
   |some x=>rw[Option.map_some,if_neg e]
 ·rw [if_neg a]
  refine zfn k j y kvs ?_
  rw[zc7] at a
  cases q:valV kvs k with
  |none=>rfl
  |some x=>rw[q] at a;exact (a rfl).elim
theorem zdB (kvs:List (κ×V))(k:κ)(v:V):(putK kvs k v).length<=kvs.length+1:=by
 unfold putK
 split
 ·rw[List.length_map];lia
 ·rw[List.length_append,List.length_cons,List.length_nil];lia
theorem RelO.isSome_eq {o:Option V}{u:Option Value}(r:RelO o u):o.isSome=u.isSome:=by
 cases o with
 |none=>cases u with
  |none=>rfl
  |some _=>exact (show False from r).elim
 |some _=>cases u with
  |none=>exact (show False from r).elim
  |some _=>rfl
theorem KV.val {kvs:List (κ×V)}{vs:List (κ×Value)}(r:KV kvs vs)(k:κ):RelO (valV kvs k) (valueAt vs k):=by
 unfold KV at r
 induction r with
 |nil=>exact True.intro
 | @cons p q ps qs h t ih=>
  obtain⟨h1,h2⟩:=h
  by_cases e:p.1=k
  ·have e':q.1=k:=h1.symm.trans e
   have b:valueAt (q::qs) k=some q.2:=by simp[valueAt,List.find?_cons,e']
   rw[zbb e,b];exact h2
  ·have e':¬q.1=k:=fun z=>e (h1.trans z)
   have b:valueAt (q::qs) k=valueAt qs k:=by simp[valueAt,List.find?_cons,e']
   rw[zbk e,b];exact ih
theorem KV.any {kvs:List (κ×V)}{vs:List (κ×Value)}(r:KV kvs vs)(k:κ):(kvs.any fun kv=>decide (kv.1=k))=vs.any fun kv=>decide (kv.1=k):=by
 unfold KV at r
 induction r with
 |nil=>rfl
 |cons h t ih=>rw[List.any_cons,List.any_cons,ih,h.1]
theorem KV.repl {kvs:List (κ×V)}{vs:List (κ×Value)}(r:KV kvs vs)(k:κ){y:V}{u:Value}(ry:RelV y u):
  KV (kvs.map fun kv=>if kv.1=k then (kv.1,y) else kv) (vs.map fun kv=>if kv.1=k then (kv.1,u) else kv):=by
 unfold KV at r ⊢
 induction r with
 |nil=>exact .nil
 |@cons p q ps qs h t ih=>
  rw[List.map_cons,List.map_cons]
  refine .cons ?_ ih
  obtain⟨h1,h2⟩:=h
  by_cases e:p.1=k
  ·rw[if_pos e,if_pos (h1.symm.trans e)];exact⟨h1,ry⟩
  ·rw[if_neg e,if_neg (fun z=>e (h1.trans z))];exact⟨h1,h2⟩
theorem KV.put {kvs:List (κ×V)}{vs:List (κ×Value)}(r:KV kvs vs)(k:κ){y:V}{u:Value}(ry:RelV y u):KV (putK kvs k y) (stored vs k u):=by
 unfold putK stored
 rw[r.any k]
 by_cases e:(vs.any fun kv=>decide (kv.1=k))=true
 ·rw[if_pos e,if_pos e];exact r.repl k ry
 ·rw[if_neg e,if_neg e];exact Paired.snoc r ⟨rfl,ry⟩
theorem KV.length {kvs:List (κ×V)}{vs:List (κ×Value)}(r:KV kvs vs):kvs.length=vs.length:=Paired.length r
end
theorem zln {P:Program}{w:World}{k:Key}{u:Value}(r:RelV (kV k) u):(zbc P w).is k u=true:=by
 cases k with
 |inl i=>obtain⟨t,e⟩:=(show ∃t,u=Value.int i t from r);subst e;exact zfy P w i t
 |inr x=>obtain⟨t,e⟩:=(show ∃t,u=Value.str x t from r);subst e;exact zfz P w x t
theorem zfo {P:Program}{w:World}:∀{ks:List Key} {us:List Value},Vals (ks.map kV) us->ItemsAre (zbc P w) ks us
 |[],_,r=>by rw[List.map_nil] at r;cases r;exact .nil
 |k::ks,_,r=>by
  rw[List.map_cons] at r
  cases r with
  |cons h t=>exact .cons (zln h) (zfo t)
noncomputable abbrev KT (H:Hp):List (List Key×V)->List (List Key×Addr×Value)->Prop:=Paired fun p q=>p.1=q.1/\H q.2.1=some (.tup (p.1.map kV))/\RelV p.2 q.2.2
theorem KT.val {H:Hp}{kvs:List (List Key×V)}{xs:List (List Key×Addr×Value)}(r:KT H kvs xs)(k:List Key):RelO (valV kvs k) ((atKey xs k).map (·.2)):=by
 induction r with
 |nil=>exact True.intro
 | @cons p q ps qs h t ih=>
  obtain⟨h1,_,h2⟩:=h
  by_cases e:p.1=k
  ·have e':q.1=k:=h1.symm.trans e
   have b:atKey (q::qs) k=some q.2:=by simp[atKey,List.find?_cons,e']
   rw[zbb e,b];exact h2
  ·have e':¬q.1=k:=fun z=>e (h1.trans z)
   have b:atKey (q::qs) k=atKey qs k:=by simp[atKey,List.find?_cons,e']
   rw[zbk e,b];exact ih
theorem KT.repl {H:Hp}{kvs:List (List Key×V)}{xs:List (List Key×Addr×Value)}(r:KT H kvs xs)(k:List Key){y:V}{u:Value}(ry:RelV y u):
  KT H (kvs.map fun kv=>if kv.1=k then (kv.1,y) else kv) (xs.map (putAt k u)):=by
 induction r with
 |nil=>exact .nil
 |@cons p q ps qs h t ih=>
  rw[List.map_cons,List.map_cons]
  refine .cons ?_ ih
  obtain⟨h1,h2,h3⟩:=h
  unfold putAt
  by_cases e:p.1=k
  ·rw[if_pos e,if_pos (h1.symm.trans e)];exact⟨h1,h2,ry⟩
  ·rw[if_neg e,if_neg (fun z=>e (h1.trans z))];exact⟨h1,h2,h3⟩
theorem KT.put {H:Hp}{kvs:List (List Key×V)}{xs:List (List Key×Addr×Value)}(r:KT H kvs xs)(k:List Key){b:Addr}{y:V}{u:Value}(hb:H b=some (.tup (k.map kV)))(ry:RelV y u):
  KT H (putK kvs k y) (storedH xs k b u):=by
 have e:(kvs.any fun kv=>decide (kv.1=k))=(atKey xs k).isSome:=by
  rw[zc7,(r.val k).isSome_eq,Option.isSome_map]
 unfold putK storedH
 rw[e]
 by_cases q:(atKey xs k).isSome=true
 ·rw[if_pos q,if_pos q];exact r.repl k ry
 ·rw[if_neg q,if_neg q];exact Paired.snoc r ⟨rfl,hb,ry⟩
theorem KT.keeps {H H':Hp}{kvs:List (List Key×V)}{xs:List (List Key×Addr×Value)}(r:KT H kvs xs)(ht:∀b ys,H b=some (.tup ys)->H' b=some (.tup ys)):KT H' kvs xs:=
 Paired.mapP r fun _ _ z=>⟨z.1,ht _ _ z.2.1,z.2.2⟩
section
variable {P:Program}{w:World}{H:Hp}{h:Heap}{a:Addr}
theorem zmt {u:HO}(ok:HOk P w H h)(e:Rd H a u):ObjOk P w H h a u:=e.ok ok
theorem zlo {kvs:List (Key×V)}(ok:HOk P w H h)(e:Rd H a (.dK kvs)):kvs.length<=sizeLine/\(a==sysModules)=false/\∃vs,KV kvs vs/\h.DictOf (zbc P w) a vs:=
 show ObjOk P w H h a (.dK kvs) from zmt ok e
theorem zm6 {kvs:List (Key×V)}(ok:HOk P w H h)(e:H a=some (.dK kvs)):kvs.length<=sizeLine/\(a==sysModules)=false/\∃vs,KV kvs vs/\h.DictOf (zbc P w) a vs:=zlo ok (.inl e)
theorem zgz {ks:List Key}(ok:HOk P w H h)(e:H a=some (.tup (ks.map kV))):(tupleKind (zbc P w)).is h ks a:=by
 obtain⟨_,its,r,o,h1,h2,⟨n,h3⟩,_⟩:=(show ObjOk P w H h a (.tup (ks.map kV)) from ok a _ e)
 exact⟨o,its.toArray,n,h1,h2,h3,by simpa using zfo r⟩
theorem zlp {kvs:List (List Key×V)}(ok:HOk P w H h)(e:Rd H a (.dT kvs)):kvs.length<=sizeLine/\(a==sysModules)=false/\
  ∃xs,KT H kvs xs/\h.DictOfH (tupleKind (zbc P w)) a xs:=by
 obtain⟨z,y,xs,r,o,es,ep,h1,h2,h3,h4,h5⟩:=(show ObjOk P w H h a (.dT kvs) from zmt ok e)
 refine⟨z,y,xs,r,o,es,ep,h1,h2,h3,h4,fun x hx=> ?_,h5⟩
 have all:∀{l:List (List Key×V)} {m:List (List Key×Addr×Value)},KT H l m->∀x∈m,(tupleKind (zbc P w)).is h x.1 x.2.1:=by
  intro l m q
  induction q with
  |nil=>intro x hx;exact nomatch hx
  | @cons p q ps qs hq t ih=>
   intro x hx
   rcases List.mem_cons.mp hx with e|hx
   ·subst e
    exact zgz ok (by rw[<-hq.1];exact hq.2.1)
   ·exact ih x hx
 exact all r x hx
theorem zmu {kvs:List (List Key×V)}(ok:HOk P w H h)(e:H a=some (.dT kvs)):kvs.length<=sizeLine/\(a==sysModules)=false/\
  ∃xs,KT H kvs xs/\h.DictOfH (tupleKind (zbc P w)) a xs:=zlp ok (.inl e)
end
noncomputable def DGet (H:Hp)(a:Addr)(y:V)(r:Option V):Prop:=
 (∃kvs k,Rd H a (.dK kvs)/\y=kV k/\r=valV kvs k)∨∃kvs k b,Rd H a (.dT kvs)/\y=.ref b/\H b=some (.tup (k.map kV))/\r=valV kvs k
noncomputable def DPut (H:Hp)(a:Addr)(y v:V)(H':Hp):Prop:=
 (∃kvs k,H a=some (.dK kvs)/\y=kV k/\kvs.length<sizeLine/\H'=upd H a (.dK (putK kvs k v)))∨
 ∃kvs k b,H a=some (.dT kvs)/\y=.ref b/\H b=some (.tup (k.map kV))/\kvs.length<sizeLine/\H'=upd H a (.dT (putK kvs k v))
theorem DGet.t {H:Hp}{a b:Addr}{kvs:List (List Key×V)}{k:List Key}(e:H a=some (.dT kvs))(eb:H b=some (.tup (k.map kV))):DGet H a (.ref b) (valV kvs k):=.inr ⟨kvs,k,b,.inl e,rfl,eb,rfl⟩
theorem DPut.t {H:Hp}{a b:Addr}{kvs:List (List Key×V)}{k:List Key}{v:V}(e:H a=some (.dT kvs))(eb:H b=some (.tup (k.map kV)))(hl:kvs.length<sizeLine):
  DPut H a (.ref b) v (upd H a (.dT (putK kvs k v))):=.inr ⟨kvs,k,b,e,rfl,eb,hl,rfl⟩
section
variable {X:Cx}{pins:List (Addr×Obj)}{σ:St}{H:Hp}{s:Shared}{a:Addr}{y v:V}{u r:Value}{o:Option V}{A:Around}{E:Value->Shared->Prop}
theorem Inv.big (I:Inv X pins σ H s):sysModules<s.heap.objs.size:=by
 have h:mainGlobals<s.heap.objs.size:=(I.mod.glob.keeps I.bk).lt
 exact Nat.lt_trans (by decide) h
theorem ziB {Q:Value->Shared->Prop}(hu:A.units+1<cLine)(I:Inv X pins σ H s)(g:DGet H a y (some v))(ry:RelV y u)(h:∀w' s',Inv X pins σ H s'->RelV v w'->Q w' s'):
  wpAny (model X.prog X.w) A (getItem (.ref a) u) Q E s:=by
 rcases g with⟨kvs,k,e,ey,l⟩|⟨kvs,k,b,e,ey,eb,l⟩
 ·subst ey
  obtain⟨z,hd,vs,rel,dd⟩:=zlo I.hok e
  obtain⟨w',hw,rw'⟩:=RelO.some_of (v:=v) (o:=valueAt vs k) (by rw[l];exact rel.val k)
  exact wpAny_getItem_of (zln ry) dd.mapOf hw (h w' _ (I.tok _) rw')
 ·subst ey
  cases (show u=Value.ref b from ry)
  obtain⟨z,hd,xs,rel,dd⟩:=zlp I.hok e
  obtain⟨w',hw,rw'⟩:=RelO.some_of (v:=v) (o:=(atKey xs k).map (·.2)) (by rw[l];exact rel.val k)
  obtain⟨p,hp,hp2⟩:=Option.map_eq_some_iff.mp hw
  refine wpAny_getItem_heap (tupleKind_room_in1 hu) (zgz I.hok eb) dd hp ?_
  rw[hp2]
  exact h w' _ (I.tok _) rw'
theorem zf2 {h':Heap}{t':Nat}{ob:HO}(I:Inv X pins σ H s)(mu:Mut (H a))(hs:Heap.SameBut a s.heap h')(he:∃q,h'.get? a=some q)(new:ObjOk X.prog X.w (upd H a ob) h' a ob):
  Inv X pins σ (upd H a ob) {s with heap:=h',toks:=t'}:=
 I.write (x:=a) (e:=a) mu (.inl rfl) (fun b q hb z=>(hs.2 b hb).trans z) he new
theorem zmv {P:Program}{w:World}{H':Hp}{h':Heap}{kvs:List (Key×V)}{vs:List (Key×Value)}(z:kvs.length<=sizeLine)(hd:(a==sysModules)=false)(rel:KV kvs vs)(dd:h'.DictOf (zbc P w) a vs):
  ObjOk P w H' h' a (.dK kvs):=⟨z,hd,vs,rel,dd⟩
theorem ziC {H':Hp}{Q:Unit->Shared->Prop}(hu:A.units+1<cLine)(I:Inv X pins σ H s)(g:DPut H a y v H')(ry:RelV y u)(rv:RelV v r)(h:∀s',Inv X pins σ H' s'->Q () s'):
  wpAny (model X.prog X.w) A (setItem (.ref a) u r) Q E s:=by
 rcases g with⟨kvs,k,e,ey,l,eH⟩|⟨kvs,k,b,e,ey,eb,l,eH⟩
 ·subst ey eH
  obtain⟨z,hd,vs,rel,dd⟩:=zm6 I.hok e
  have hz:vs.length<=sizeLine:=by rw[<-rel.length];exact z
  have hl:(putK kvs k v).length<=sizeLine:=by have:=zdB kvs k v;lia
  refine wpAny_setItem_pairs (hsz:=hz) (zln ry) dd fun h' dd' hs=>h _ ?_
  have he:∃q,h'.get? a=some q:=let ⟨q,_,_,hq,_⟩:=dd';⟨q,hq⟩
  exact zf2 I (by rw[e];exact True.intro) hs he (zmv hl hd (rel.put k rv) dd')
 ·subst ey eH
  cases (show u=Value.ref b from ry)
  obtain⟨z,hd,xs,rel,dd⟩:=zmu I.hok e
  have hz:xs.length<=sizeLine:=by rw[<-Paired.length rel];exact z
  have hl:(putK kvs k v).length<=sizeLine:=by have:=zdB kvs k v;lia
  refine wpAny_setItem_heap (hsz:=hz) (tupleKind_room_in1 hu) (zgz I.hok eb) dd fun h' dd' hs=>h _ ?_
  obtain⟨q,es,ep,hq,h2,h3,h4,_,h5⟩:=dd'
  refine zf2 I (by rw[e];exact True.intro) hs ⟨q,hq⟩ ⟨hl,hd,_,(rel.put k eb rv).keeps fun c ys ec=> ?_,q,es,ep,hq,h2,h3,h4,h5⟩
  rw[zaj (zkK ec e (fun z=>nomatch z))]
  exact ec
end
section
variable {X:Cx}{pins:List (Addr×Obj)}{σ:St}{H:Hp}{s:Shared}{a:Addr}{kvs:List (Key×V)}{k:Key}{u:Value}{A:Around}{E:Value->Shared->Prop}
end
noncomputable def NoSl (i:Expr):Prop:=∀ov iv,subscripted i false ov iv=operate [ov,iv] (getItem ov iv)
theorem zlq {prog:Program}{w:World}{A:Around}{E:Value->Shared->Prop}{s:Shared}{env:Env}{value slice:Expr}{pos:Pos}{T id:String}{Q:Value->Shared->Prop}
  (hl:typeLookup (.type T) "__getitem__" =pure (some (.builtin id))) (hs:NoSl slice)
  (h:wpAny (model prog w) A (eval value env) (fun o s₁=>wpAny (model prog w) A (eval slice env) (fun i s₂=>s₂.TypeIs o T/\wpAny (model prog w) A (getItem o i) Q E s₂) E s₁) E s):
  wpAny (model prog w) A (eval (.Subscript value slice pos) env) Q E s:=by
 refine Subscript_ (wpAny_mono h (fun o s₁ h₁=>wpAny_mono h₁ (fun i s₂ h₂=> ?_) fun _ _ x=>x) fun _ _ x=>x)
 obtain⟨hT,h₂⟩:=h₂
 unfold subscriptTail
 refine wpAny_bind ?_
 rw[getitemInPython_of_ne hT.not_modules]
 refine wpAny_bind (wpAny_specialOf hT hl ?_)
 have fin:wpAny (model prog w) A (subscripted slice false o i) (fun r s₃=>wpAny (model prog w) A (letTemporaryGo value o r >>= fun _=>pure r) Q E s₃) E s₂:=by
  rw[hs o i]
  exact wpAny_operating (wpAny_mono h₂ (fun r s₃ h₃=>wpAny_bind (wpAny_letTemporaryGo (wpAny_pure h₃))) fun _ _ x=>x)
 first
  |exact wpAny_pure (wpAny_bind fin)
  |exact wpAny_bind (wpAny_pure (wpAny_bind fin))
  |exact wpAny_bind fin
theorem zf3 {X:Cx}{pins:List (Addr×Obj)}{σ:St}{H:Hp}{s:Shared}{a:Addr}{y:V}{o:Option V}(I:Inv X pins σ H s)(g:DGet H a y o):s.TypeIs (.ref a) "dict" :=by
 rcases g with⟨kvs,k,e,_,_⟩|⟨kvs,k,b,e,_,_,_⟩
 ·obtain ⟨_,_,vs,_,dd⟩:=zlo I.hok e
  exact dd.typeIs
 ·obtain ⟨_,_,xs,_,dd⟩:=zlp I.hok e
  exact dd.typeIs
noncomputable def zm7 (td ty:TE):TE:=fun σ H Q=>td σ H fun x H1=>ty σ H1 fun y H2=>∃a v,x=.ref a/\DGet H2 a y (some v)/\Q v H2
noncomputable def zm8 (td ty tv:TE):TS:=fun D σ H=>tv σ H fun v H1=>td σ H1 fun x H2=>ty σ H2 fun y H3=>∃a H4,x=.ref a/\DPut H3 a y v H4/\D.nx σ H4
section
variable {X:Cx}{o i e value:Expr}{pos pos' tpos:Pos}{td ty tv:TE}
theorem ziD (hu:X.A.units+1<cLine)(ho:PE X o td)(hi:PE X i ty)(hs:NoSl i):PE X (.Subscript o i pos) (zm7 td ty):=by
 intro pins s σ H Q I h
 refine zlq PySem.F.slot_dict_getitem.lookup hs (thn (ho pins s σ H _ I h) fun u s1 ⟨x,H1,I1,rx,q1⟩=>thn (hi pins s1 σ H1 _ I1 q1) fun iv s2 ⟨y,H2,I2,ry,a,v,ex,g,q2⟩=> ?_)
 subst ex
 obtain rfl:u=Value.ref a:=rx
 exact⟨zf3 I2 g,ziB hu I2 g ry fun w' s3 I3 rw'=>⟨v,H2,I3,rw',q2⟩⟩
theorem zlr (hu:X.A.units+1<cLine)(ho:PE X o td)(hi:PE X i ty)(hv:PE X value tv)(hs:swapsWith value (some (.Subscript o i pos')) pos.line X.env=pure false):
  PS X (.Assign [.Subscript o i pos'] value pos) (zm8 td ty tv):=by
 intro pins s σ H D I h
 refine wpAny_Assign_Subscript (thn (hv pins s σ H _ I h) fun r s1 ⟨v,H1,I1,rv,q1⟩=>thn (ho pins s1 σ H1 _ I1 q1) fun u s2 ⟨x,H2,I2,rx,q2⟩=>thn (hi pins s2 σ H2 _ I2 q2) fun iv s3 ⟨y,H3,I3,ry,a,H4,ex,g,q3⟩=> ?_) hs
 subst ex
 obtain rfl:u=Value.ref a:=rx
 exact ziC hu I3 g ry rv fun s4 I4=>⟨σ,H4,I4,q3⟩
end
theorem zgA {P:Program}{w:World}{H:Hp}(h:Heap)(hb:sysModules<h.objs.size):ObjOk P w H (h.push {cls:=.type "dict",data:=.dict #[]}) h.objs.size (.dT []):=
 ⟨Nat.zero_le _,beq_eq_false_iff_ne.mpr (Ne.symm (Nat.ne_of_lt hb)),[],.nil,_,#[],0,Heap.get?_push_size _ rfl,⟨rfl,rfl,rfl⟩,rfl,rfl,List.nodup_nil⟩
noncomputable def zmw:TE:=fun _ H Q=>∀p,H p=none->Q (.ref p) (upd H p (.dT []))
section
variable {X:Cx}{pos:Pos}
theorem zjO:PE X (.Dict [] [] pos) zmw:=fun pins s σ H Q I h=>
 wpAny_Dict_empty ⟨.ref s.heap.objs.size,_,I.laid (a:=s.heap.objs.size) (o:=.dT []) (t':=s.toks) (fun _ _ q=>Heap.get?_push_of_some _ q) (Nat.le_refl _) (zgA s.heap I.big),rfl,h _ (I.hok.fresh (Nat.le_refl _))⟩
end
structure M1 (X:Cx) (o:Expr) (m:Str) (apos:Pos) (e:Expr) (cpos:Pos):Prop where
 base:attributeBase o m X.env (eval o X.env)=eval o X.env
 few:((backTo cpos (starEach [e] X.env)).all (fun x=> !x.1)&&(backToKw cpos (keywordEach [] X.env)).all (fun x=>x.1.isSome)
  &&decide (([e]:List Expr).length+([]:List Keyword).length+(if ([]:List Keyword).isEmpty then 0 else 1)<30))=true
 line:(apos.endLine==cpos.line)=true
 trees:backTo cpos (starEach [e] X.env)=[(false,eval e X.env)]
structure M2 (X:Cx) (o:Expr) (m:Str) (apos:Pos) (e f:Expr) (cpos:Pos):Prop where
 base:attributeBase o m X.env (eval o X.env)=eval o X.env
 few:((backTo cpos (starEach [e,f] X.env)).all (fun x=> !x.1)&&(backToKw cpos (keywordEach [] X.env)).all (fun x=>x.1.isSome)
  &&decide (([e,f]:List Expr).length+([]:List Keyword).length+(if ([]:List Keyword).isEmpty then 0 else 1)<30))=true
 line:(apos.endLine==cpos.line)=true
 trees:backTo cpos (starEach [e,f] X.env)=[(false,eval e X.env),(false,eval f X.env)]
section
variable {X:Cx}{pins:List (Addr×Obj)}{σ:St}{H:Hp}{s:Shared}{a:Addr}{y d:V}{u r:Value}{o:Option V}{A:Around}{E:Value->Shared->Prop}
end
section
variable {X:Cx}{o e f:Expr}{apos cpos:Pos}{td ty tx:TE}
end
section
variable {X:Cx}{pins:List (Addr×Obj)}{σ:St}{H:Hp}{s:Shared}{a:Addr}{kvs:List (Key×V)}{A:Around}{E:Value->Shared->Prop}
end
section
variable {X:Cx}{pins:List (Addr×Obj)}{σ:St}{H:Hp}{s:Shared}{a:Addr}{y:V}{u:Value}{A:Around}{E:Value->Shared->Prop}
end
section
variable {prog:Program}{w:World}{A:Around}{E:Value->Shared->Prop}{s:Shared}{d it v:Addr}{es:Array DictEntry}{ep:Nat}
end
section
variable {X:Cx}{pins:List (Addr×Obj)}{σ:St}{H:Hp}{s:Shared}{a:Addr}{kvs:List (List Key×V)}{ob:Obj}
end
section
variable {X:Cx}
noncomputable def zls (tk tv:TE):TE:=fun σ H Q=>∀p,H p=none->tk σ (upd H p (.dT [])) fun y H1=>tv σ H1 fun v H2=>∃b ks,y=.ref b/\H2 b=some (.tup (ks.map kV))/\H2 p=some (.dT [])/\Q (.ref p) (upd H2 p (.dT [(ks,v)]))
theorem ziE {k v:Expr}{pos:Pos}{tk tv:TE}(hu:X.A.units+1<cLine)(hk:PE X k tk)(hv:PE X v tv):PE X (.Dict [some k] [v] pos) (zls tk tv):=by
 intro pins s σ H Q I q
 have hn:=I.hok.fresh (Nat.le_refl s.heap.objs.size)
 have I1:=I.laid (a:=s.heap.objs.size) (o:=.dT []) (h':=s.heap.push {cls:=.type "dict",data:=.dict #[]}) (t':=s.toks) (fun _ _ q=>Heap.get?_push_of_some _ q) (Nat.le_refl _) (zgA s.heap I.big)
 refine wpAny_Dict_any rfl rfl (by simp) (by show 1<=15;decide) (pairTrees_cons_walk (thn (hk pins _ σ _ _ I1 (q _ hn)) fun u s1 ⟨y,H1,I2,ry,q1⟩=>thn (hv pins s1 σ H1 _ I2 q1) fun r s2 ⟨z,H2,I3,rz,b,ks,ey,eb,ep,q2⟩=>pairTrees_nil_walk ?_))
 subst ey
 cases (show u=Value.ref b from ry)
 obtain⟨z0,hd,xs,rel,dd⟩:=zmu I3.hok ep
 cases rel
 unfold storeAll
 rw[List.forIn_cons]
 refine wpAny_bind (wpAny_bind (wpAny_dictSet_heap (hsz:=Nat.zero_le _) (knd:=tupleKind (zbc X.prog X.w)) (show X.A.units<cLine by lia) (zgz I3.hok eb) dd fun h' dd' hs=>wpAny_pure ?_))
 refine wpAny_pure ⟨.ref s.heap.objs.size,_, ?_,rfl,q2⟩
 obtain⟨qo,es,epp,hq,h2,h3,h4,_,h5⟩:=dd'
 refine zf2 I3 (by rw[ep];exact True.intro) hs ⟨qo,hq⟩ ⟨by show 1<=sizeLine;decide,hd,_,KT.keeps (H:=H2) (xs:=[(ks,b,r)]) (.cons ⟨rfl,eb,rz⟩ .nil) fun c ys ec=> ?_,qo,es,epp,hq,h2,h3,by rw[h4];rfl,by simp⟩
 rw[zaj (zkK ec ep (fun z=>nomatch z))]
 exact ec
end
noncomputable abbrev ShD:=List (List Int×Int)
noncomputable def keyI (ks:List Int):List Key:=ks.map Sum.inl
noncomputable def dV (d:ShD):List (List Key×V):=d.map fun kv=>(keyI kv.1,V.int kv.2)
section
variable {prog:Program}{w:World}{A:Around}{R:Result->Shared->Prop}{I:Addr}{fp wr:List Addr}{n:Nat}{Pv:Nat->Value->Prop}{St:Nat->Heap->Prop}
end
section
variable {prog:Program}{w:World}{A:Around}{E:Value->Shared->Prop}{s:Shared}
end
section
variable {X:Cx}
end
noncomputable def ziF (sc:Scope)(N:List Str)(scope:Scope)(N':List Str)(n:Nat)(ix:List Nat)(z:Str):Bool:=
 scope.kind==.function&&scope.names.all (fun y=>y.2 != .cell||y.1==z)&&scope.names.all (fun y=>y.2 != .free||y.1 != z)&&scope.names.all (fun y=>y.2 != .local||scope.names.lookup y.1==some .local)&&
 scope.names.all (fun y=>y.2 != .free||(sc.names.lookup y.1==some .cell||sc.names.lookup y.1==some .free))&&scope.names.all (fun y=>y.2 != .free||scope.names.lookup y.1 != some .local)&&
 N'.length==n+ix.length&&(List.range ix.length).all fun j=>match ix[j]?,N'[n+j]? with
  |some i,some x=>N[i]? ==some x&&scope.names.contains (x,.free)
  |_,_=>false
theorem CompScopeZ.ofW {X:Cx}{sc:Scope}{N:List Str}{scope:Scope}{N':List Str}{n:Nat}{ix:List Nat}{z:Str}(h:ziF sc N scope N' n ix z=true)(hs:X.env.scope=sc)(hN:X.N=N)(hcf:∀(a:Addr) (cl:List (Str×Addr)),cellsFrom a scope.names cl=(z,a)::cl)
  (hpc:∀h:Heap,pushCells h scope.names=h.push {cls:=.type "cell",data:=.cell none}):CompScopeZ X scope N' n ix z:=by
 unfold ziF at h
 simp only[Bool.and_eq_true,List.all_eq_true] at h
 obtain⟨⟨⟨⟨⟨⟨⟨h1,h2⟩,h2'⟩,h3⟩,h4⟩,h5⟩,h6⟩,h7⟩:=h
 subst hs hN
 refine⟨eq_of_beq h1,fun y hy hc=> ?_,fun y hy=> ?_,hcf,hpc,fun y hy hl=> ?_,fun y hy hf=> ?_,fun y hy hl=> ?_,eq_of_beq h6,fun j i e=> ?_⟩
 ·have:=h2 y hy
  rw[hc] at this
  simpa using this
 ·have:=h2' _ hy
  simpa using this
 ·have:=h3 y hy
  rw[hl] at this
  simpa using this
 ·have:=h4 y hy
  rw[hf] at this
  simpa using this
 ·have:=h5 _ hy
  rw[hl] at this
  simp at this
 ·have hj:j<ix.length:=(List.getElem?_eq_some_iff.mp e).1
  have:=h7 j (List.mem_range.mpr hj)
  rw[e] at this
  cases hx:N'[n+j]? with
  |none=>rw[hx] at this;simp at this
  |some x=>
   rw[hx] at this
   simp only[Bool.and_eq_true] at this
   exact⟨x,rfl,eq_of_beq this.1,by simpa using this.2⟩
noncomputable def gK (g:G4):List Key:=[.inl (g.1:Int),.inl (g.2.1:Int),.inl (g.2.2.1:Int),.inl (g.2.2.2:Int)]
theorem zmx {g h:G4}(e:gK g=gK h):g=h:=by
 obtain⟨a,b,c,d⟩:=g
 obtain⟨a',b',c',d'⟩:=h
 unfold gK at e
 simp only[List.cons.injEq,Sum.inl.injEq,and_true] at e
 obtain⟨e1,e2,e3,e4⟩:=e
 have:a=a':=by lia
 have:b=b':=by lia
 have:c=c':=by lia
 have:d=d':=by lia
 subst_vars
 rfl
noncomputable def rowG (rows:List (List Int))(ends:List Int)(N l:Nat)(g:G4):List Int:=(List.range N).map fun s:Nat=>cG rows ends l g (s:Int)
noncomputable def LvAt (H:Hp)(rows:List (List Int))(ends:List Int)(N:Nat)(d:Addr)(l:Nat):Prop:=∃kvs,H d=some (.dT kvs)/\∀g:G4,gSum g=l->∃x,valV kvs (gK g)=some (.ref x)/\H x=some (.lst ((rowG rows ends N l g).map V.int))
noncomputable def LvsAt (H:Hp)(rows:List (List Int))(ends:List Int)(N:Nat)(ds:List Addr):Prop:=∀(l:Nat) (d:Addr),ds[l]? =some d->LvAt H rows ends N d l
theorem LvAt.same {H H':Hp}{rows:List (List Int)}{ends:List Int}{N:Nat}{d:Addr}{l:Nat}(h:LvAt H rows ends N d l)(s:Same H H'):LvAt H' rows ends N d l:=
 let ⟨kvs,a,b⟩:=h;⟨kvs,s _ _ a,fun g hg=>let ⟨x,c,e⟩:=b g hg;⟨x,c,s _ _ e⟩⟩
theorem LvsAt.same {H H':Hp}{rows:List (List Int)}{ends:List Int}{N:Nat}{ds:List Addr}(h:LvsAt H rows ends N ds)(s:Same H H'):LvsAt H' rows ends N ds:=fun l d e=>(h l d e).same s
theorem zlu {g:G4}{q:Int×G4}(h:q∈goG g):gSum q.2+1=gSum g/\0<=q.1/\q.1<4:=by
 obtain⟨a,b,c,d⟩:=g
 unfold goG at h
 dsimp only at h
 unfold gSum
 rcases List.mem_append.mp h with h|h
 ·rcases List.mem_append.mp h with h|h
  ·rcases List.mem_append.mp h with h|h
   ·obtain ⟨p,hp,rfl⟩:=List.mem_map.mp h
    have:=List.mem_range.mp hp
    exact⟨by dsimp only;lia,by dsimp only;lia,by dsimp only;lia⟩
   ·obtain ⟨p,hp,rfl⟩:=List.mem_map.mp h
    have:=List.mem_range.mp hp
    exact⟨by dsimp only;lia,by dsimp only;lia,by dsimp only;lia⟩
  ·obtain ⟨p,hp,rfl⟩:=List.mem_map.mp h
   have:=List.mem_range.mp hp
   exact⟨by dsimp only;lia,by dsimp only;lia,by dsimp only;lia⟩
 ·obtain ⟨p,hp,rfl⟩:=List.mem_map.mp h
  have:=List.mem_range.mp hp
  exact⟨by dsimp only;lia,by dsimp only;lia,by dsimp only;lia⟩
noncomputable def spWL:Sp:=fun vs H Q _=>∃(z:Addr) (N m:Nat) (rows:List (List Int)) (ends:List Int),vs=[.ref z,.int (m:Int)]/\IsMach H z N rows ends/\N<=100/\ends.length<=100/\m<=12/\∀L ds H',Same H H'->H L=none->H' L=some (.lst (ds.map V.ref))->LvsAt H' rows ends N ds->ds.length=max 1 m->Q (.ref L) H'
end L2
namespace K52
open L2
noncomputable abbrev za4:Stmt:=top 20
section
variable {P:Program}{w:World}{K:PySem.W.Frag}{mg:Str->Option Value}{base:Heap}
theorem sc_ways_left:FnScope ["machine", "many", "rows", "ends", "levels", "left", "ahead", "level", "gaps", "going"] ["machine", "many"] (zae za4):=⟨rfl,rfl,rfl,by decide+kernel,rfl,by decide+kernel,by decide+kernel⟩
noncomputable def wlT {f:Addr}{cdv:Value}{A:Around}{outer:List Env}{s:Shared}{H:Hp}{E:XK}(hr:Room 1 (A.deeper (envOfC "ways_left" (zae za4) s.heap.objs.size f cdv)))(T:Top mg)(Cgaps_all:Cal P w K mg base 1 "gaps_all" ["left"] zgx)(Cgaps_on:Cal P w K mg base 1 "gaps_on" ["gaps"] zjK):{t:TS//PSs (cxOf CX0 P w K mg base ["machine", "many", "rows", "ends", "levels", "left", "ahead", "level", "gaps", "going"] "ways_left" (zae za4) f cdv A outer s H E).nox (zaN za4) t}:=
 have hu1:_:=zl5 hr
 ⟨_, (zaf (zca (pv 0) (zbW (i:=2) (j:=3) rfl sc_ways_left.nd rfl rfl (Or.inl rfl) (Or.inr rfl) (Or.inl rfl) (Or.inl rfl)))
   (zaf (zau (i:=4) sc_ways_left.nd rfl (Or.inl rfl) (zbD (zaa (ziE hu1 (za7 (zaa zag (zaa zag (zaa zag (zaa zag zac))))) (zbF (N':=["state", "ends"]) (n:=1) (ix:=[3]) rfl (CompScope.of (sc:=zae za4) (N:=["machine", "many", "rows", "ends", "levels", "left", "ahead", "level", "gaps", "going"]) (by decide+kernel) rfl rfl) (zas rfl T.n_range (zaa (zam zaE (by rfl) T.n_len PySem.boot_len (zaa (pv 2) zac)) zac)) (fun _ _ _ _ _=>⟨(zah (i:=0) (show (["state", "ends"]:List Str).Nodup by decide+kernel) rfl (Or.inl rfl)),zax,(zcp (zar (zcQ K rfl) (pv 0) (pv 1) (by rfl)) zag zag)⟩))) zac)))
   (zaf (zby PassesOwn.never rfl (zcr rfl T.n_range (zaa zag (zaa (pv 1) zac))) (zah (i:=5) sc_ways_left.nd rfl (Or.inl rfl))
    (zaf (zau (i:=6) sc_ways_left.nd rfl (Or.inr rfl) (zaT zbe (pv 4) (zkQ zhu zag) (fun _ _=>rfl)))
    (zaf (zau (i:=7) sc_ways_left.nd rfl (Or.inl rfl) zjO)
    (zaf (zby PassesOwn.never rfl (zbL (zak Cgaps_all (hr.mono (by decide)) rfl (zaa (pv 5) zac))) (zah (i:=8) sc_ways_left.nd rfl (Or.inl rfl))
     (zaf (zau (i:=9) sc_ways_left.nd rfl (Or.inr rfl) (zak Cgaps_on (hr.mono (by decide)) rfl (zaa (pv 8) zac)))
     (zai (zlr hu1 (pv 7) (pv 8) (zma (z:= "row") (N':=["row", "going", "ahead"]) (n:=1) (ix:=[9,6]) rfl (CompScopeZ.ofW (sc:=zae za4) (N:=["machine", "many", "rows", "ends", "levels", "left", "ahead", "level", "gaps", "going"]) (by decide+kernel) rfl rfl (fun _ _=>rfl) (fun _=>rfl)) (zcq (pv 2)) (fun _ _ _ _ _ _=>⟨(zah (i:=0) (show (["row", "going", "ahead"]:List Str).Nodup by decide+kernel) rfl (Or.inr rfl) (Or.inl rfl)),zax,(zam (zbp rfl) (by rfl) T.n_sum boot_sum (zaa (zbF (N':=["mark", "later", "ahead", "row"]) (n:=2) (ix:=[2,0]) rfl (CompScope.of (N:=["row", "going", "ahead"]) rfl rfl rfl) (zgw K rfl (pv 1)) (fun _ _ _ _ _=>⟨(zgf K (i:=0) (j:=1) rfl rfl (show (["mark", "later", "ahead", "row"]:List Str).Nodup by decide+kernel) rfl rfl (Or.inl rfl) (Or.inl rfl) (Or.inr rfl) (Or.inr rfl)),zax,(zaT (zd5 K rfl) (ziD hu1 (pv 2) (pv 1) (fun _ _=>rfl)) (zaT (zbl K rfl) (pv 3) (pv 0) (fun _ _=>rfl)) (fun _ _=>rfl))⟩)) zac))⟩)) rfl))))
    (zai (zdb (zhF PySem.F.plainAttrs_list PySem.F.slot_list_append PySem.F.type_list_append zbi (pv 4) (zaa (pv 7) zac))))))))
   (zai (zaz (pv 4))))))⟩
end
end K52
namespace L2
noncomputable def wM (rows:List (List Int))(N:Nat)(ends:List Int)(m:Nat)(b:List Int):Int:=if b=[] then metZ rows N ends m else cG rows ends (m-b.length) (zbN b (zaB m b)) (goZ rows (zal b))
noncomputable def lM (rows:List (List Int))(ends:List Int)(m:Nat)(b:List Int):List (List Int):=(zaw m [b] (m-b.length)).filter fun o=>decide (goZ rows (zal o)∈ends)
theorem zfp {m:Nat}{b:List Int}:∀{j:Nat} {o:List Int},o∈zaw m [b] j->o.take b.length=b
 |0,o,h=>by
  rw[List.mem_singleton.mp h,List.take_length]
 | j+1,o,h=>by
  obtain⟨c,hc,hb⟩:=List.mem_flatMap.mp h
  obtain⟨x,_,rfl⟩:=List.mem_map.mp hb
  have ih:=zfp hc
  have hl:b.length<=c.length:=by
   have:=congrArg List.length ih
   rw[List.length_take] at this
   lia
  rw[List.take_append_of_le_length hl]
  exact ih
theorem ziG {rows:List (List Int)}{N:Nat}(hl:rows.length=N)(hN:0<N)(hr:∀r∈rows,r.length=4/\∀d∈r,0<=d/\d<(N:Int)){ends:List Int}(he:∀s∈ends,0<=s)(hd:ends.Nodup)(m:Nat):
  Wt m (wM rows N ends m) (lM rows ends m) where
 cnt k b hk hb:=by
  have hlen:=zaL hb
  unfold wM lM
  rw[<-List.countP_eq_length_filter]
  by_cases h0:b=[]
  ·subst h0
   rw[if_pos rfl]
   have:=zbh hl hN hr he hd m
   rw[<-this]
   refine congrArg Nat.cast ?_
   show (zaw m [[]] m).countP _=(zaw m [[]] (m-0)).countP _
   rw[Nat.sub_zero]
   exact List.countP_congr fun o _=>by
    have:metB rows ends o=decide (goZ rows (zal o)∈ends):=za1 _ _
    rw[this]
  ·rw [if_neg h0,ze9 rows ends (m-b.length) b h0]
   split
   ·rename_i h
    rw[h]
    rfl
   ·rfl
 stp k b hk hb:=by
  have hlen:=zaL hb
  unfold lM
  obtain⟨j,hj⟩:∃j,m-k=j+1:=⟨m-k-1,by lia⟩
  rw[hlen,hj,zch,zcL,zgr,List.flatMap_map,List.filter_flatMap]
  have ec:∀x:Int,m-(b++[x]).length=j:=fun x=>by
   rw[List.length_append,hlen]
   show m-(k+1)=j
   lia
  simp only[ec]
 fin b hb:=by
  have hlen:=zaL hb
  unfold lM
  rw[hlen,Nat.sub_self]
  show ([b].filter fun o=>decide (goZ rows (zal o)∈ends))=[b]∨([b].filter fun o=>decide (goZ rows (zal o)∈ends))=[]
  rw[List.filter_cons]
  split
  ·exact .inl rfl
  ·exact .inr rfl
 pre k b o hk hb ho:=by
  have hlen:=zaL hb
  have:=zfp (List.mem_filter.mp ho).1
  rw[hlen] at this
  exact this
theorem zjP {b F:List Int}(hb:b≠[]):(zbN b F).1+(zbN b F).2.1+(zbN b F).2.2.1+(zbN b F).2.2.2=F.length:=by
 obtain⟨g1,g2⟩:=zdq (F:=F) hb
 unfold zbN
 dsimp only
 lia
structure MachOk (H:Hp) (z:Addr) (N:Nat) (rows:List (List Int)) (ends:List Int):Prop where
 is_:IsMach H z N rows ends
 few:N<=100
 efew:ends.length<=100
 rng:∀s∈ends,0<=s/\s<(N:Int)
 nd:ends.Nodup
theorem MachOk.same {H H':Hp}{z:Addr}{N:Nat}{rows:List (List Int)}{ends:List Int}(h:MachOk H z N rows ends)(s:Same H H'):MachOk H' z N rows ends:=⟨h.is_.sameT s.t,h.few,h.efew,h.rng,h.nd⟩
noncomputable def spWM:Sp:=fun vs H Q _=>∃(z L a:Addr) (N m k:Nat) (rows:List (List Int)) (ends b:List Int) (ds:List Addr),vs=[.ref z,.ref L,.int (m:Int),.ref a]/\MachOk H z N rows ends/\m<=12/\H L=some (.lst (ds.map V.ref))/\LvsAt H rows ends N ds/\ds.length=max 1 m/\H a=some (.tup (b.map V.int))/\b∈zaw m [[]] k/\k<=m/\∀H',Same H H'->Q (.int (wM rows N ends m b)) H'
theorem zlv {rows:List (List Int)}{ends:List Int}{N l:Nat}{g:G4}{s:Int}(h0:0<=s)(h1:s<(N:Int)):atI ((rowG rows ends N l g).map V.int) s=some (.int (cG rows ends l g s)):=by
 obtain⟨j,rfl⟩:∃j:Nat,s=(j:Int):=⟨s.toNat,by lia⟩
 refine zav ?_
 unfold rowG
 rw[List.getElem?_map,List.getElem?_map,List.getElem?_range (by lia)]
 rfl
end L2
namespace K52
open L2
noncomputable abbrev zcR:Stmt:=top 18
section
variable {P:Program}{w:World}{K:PySem.W.Frag}{mg:Str->Option Value}{base:Heap}
theorem sc_ways_met:FnScope ["machine", "levels", "many", "begun", "left"] ["machine", "levels", "many", "begun"] (zae zcR):=⟨rfl,rfl,rfl,by decide+kernel,rfl,by decide+kernel,by decide+kernel⟩
theorem zf4 {f:Addr}{fd:FuncData}(F:Fun K "ways_met" "ways_met" zcR f fd)(T:Top mg)(Cmet:Cal P w K mg base 2 "met" ["machine", "many"] zcZ)(Cnumbers_left:Cal P w K mg base 1 "numbers_left" ["many", "begun"] zfj)(Cgaps_of:Cal P w K mg base 1 "gaps_of" ["begun", "left"] zlm)(Cstate_after:Cal P w K mg base 3 "state_after" ["machine", "begun"] zle):FnOk P w K mg base CX0 4 f fd ["machine", "levels", "many", "begun"] spWM:=by
 refine F.ok sc_ways_met (fun vs H Q E h=> ?_) (fun cdv A outer s H vs Q E hr h=> ?_)
 ·obtain ⟨z,L,a,N,m,k,rows,ends,b,ds,rfl,_⟩:=h
  rfl
 ·obtain ⟨z,L,a,N,m,k,rows,ends,b,ds,rfl,hM,hm,hL,hLv,hds,ha,hb,hk,kk⟩:=h
  have hu1:_:=zl5 hr
  have hlen:=zaL hb
  refine⟨_,(zaf (zbK (zf9 (zja (pv 3) (fun _=>rfl)))
    (zai (zaz (zak Cmet (hr.mono (by decide)) rfl (zaa (pv 0) (zaa (pv 2) zac)))))
    zbd)
   (zaf (zau (i:=4) sc_ways_met.nd rfl (Or.inl rfl) (zak Cnumbers_left (hr.mono (by decide)) rfl (zaa (pv 2) (zaa (pv 3) zac))))
   (zai (zaz (zaT zbe (ziD hu1 (zaT zbe (pv 1) (zam zaE (by rfl) T.n_len PySem.boot_len (zaa (pv 4) zac)) (fun _ _=>rfl)) (zak Cgaps_of (hr.mono (by decide)) rfl (zaa (pv 3) (zaa (pv 4) zac))) (fun _ _=>rfl)) (zak Cstate_after (hr.mono (by decide)) rfl (zaa (pv 0) (zaa (pv 3) zac))) (fun _ _=>rfl)))))), ?_⟩
  refine⟨_,rfl, !(b.map V.int).isEmpty,.inr (.inl ⟨_,SqT.of ha,rfl⟩), ?_⟩
  by_cases h0:b=[]
  ·subst h0
   refine iteT ⟨_,rfl,_,rfl,z,N,m,rows,ends,rfl,hM.is_,hM.few,by lia,hM.rng,hM.efew,fun H' s'=> ?_⟩
   have:=kk H' s'
   unfold wM at this
   rw[if_pos rfl] at this
   exact this
  have hbe:(b.map V.int).isEmpty=false:=by
   cases b with
   |nil=>exact absurd rfl h0
   |cons _ _=>rfl
  rw[hbe]
  have hk0:k≠0:=fun e=>h0 (List.eq_nil_of_length_eq_zero (by lia))
  refine iteF ⟨_,rfl,_,rfl,m,a,b,rfl,ha,by lia,fun l G1 s1 hl0 hl=> ?_⟩
  have hf:=((zcv m k).1 b hb).free
  have hfl:(zaB m b).length=m-k:=by lia
  have hdl:m-k<ds.length:=by rw[hds];lia
  have hlv:=(hLv (m-k) ds[m-k] (List.getElem?_eq_getElem hdl)).same s1
  refine⟨_,rfl,_,rfl,l,_,rfl,.inl (SqL.of hl),L,_,_,.ref ds[m-k],rfl,rfl,SqL.of (s1 _ _ hL), ?_,_,rfl,_,rfl,a,l,b,_,rfl,s1 _ _ ha,h0,hl,by lia,fun t G2 s2 ht=> ?_⟩
  ·rw [zaq,hfl]
   exact zav (by rw[List.getElem?_map,List.getElem?_eq_getElem hdl];rfl)
  obtain⟨kvs,hkv,hg⟩:=hlv.same s2
  obtain⟨x,hx1,hx2⟩:=hg (zbN b (zaB m b)) (by unfold gSum;rw[zjP h0];exact hfl)
  have hdg:=DGet.t (b:=t) (k:=gK (zbN b (zaB m b))) hkv ht
  rw[hx1] at hdg
  obtain⟨R,E',zs,hz,hR,hrw,hE,hlN,hN0,hv⟩:=hM.is_
  obtain⟨r0,r1⟩:=zkq hlN hN0 hv (zb0 b)
  refine⟨ds[m-k],.ref x,rfl,hdg,_,rfl,_,rfl,z,a,N,rows,ends,b,rfl,(hM.same (s1.trans s2)).is_,(s1.trans s2) _ _ ha,by lia,fun G3 s3=> ?_⟩
  refine⟨x,_,_,_,rfl,rfl,SqL.of (s3 _ _ hx2),zlv r0 r1, ?_⟩
  have:=kk G3 ((s1.trans s2).trans s3)
  unfold wM at this
  rw[if_neg h0,hlen] at this
  exact this
end
end K52
namespace L2
noncomputable def kD:Key->PyData
 | .inl i=>.int i
 | .inr x=>.str x
mutual
inductive IsY (S:Addr->Prop) (H:Hp):V->PyData->Prop
 |non:IsY S H .non .none
 |bl (b:Bool):IsY S H (.bl b) (.bool b)
 |int (i:Int):IsY S H (.int i) (.int i)
 |str (x:Str):IsY S H (.str x) (.str x)
 |tup {a:Addr} {vs:List V} {ds:List PyData}:H a=some (.tup vs)->IsAllY S H vs ds->IsY S H (.ref a) (.tuple ds)
 |lst {a:Addr} {vs:List V} {ds:List PyData}:H a=some (.lst vs)->S a->IsAllY S H vs ds->IsY S H (.ref a) (.list ds)
 |d0 {a:Addr}:H a=some (.dK [])->IsY S H (.ref a) (.dict [])
 |d1 {a:Addr} {k:Key} {v:V} {d:PyData}:H a=some (.dK [(k,v)])->IsY S H v d->IsY S H (.ref a) (.dict [(kD k,d)])
inductive IsAllY (S:Addr->Prop) (H:Hp):List V->List PyData->Prop
 |nil:IsAllY S H [] []
 |cons {v:V} {vs:List V} {d:PyData} {ds:List PyData}:IsY S H v d->IsAllY S H vs ds->IsAllY S H (v::vs) (d::ds)
end
section
variable {X:Cx}{pins:List (Addr×Obj)}{σ:St}{H:Hp}{s:Shared}
end
noncomputable def lit:Nat->Expr->Option PyData
 |0,_=>none
 |_+1,.Constant .none _ _=>some .none
 |_+1,.Constant (.bool b) _ _=>some (.bool b)
 |_+1,.Constant (.int i) _ _=>some (.int i)
 |_+1,.Constant (.str x) _ _=>some (.str x)
 |_+1,.UnaryOp .USub (.Constant (.int i) _ _) _=>some (.int (-i))
 |n+1,.Tuple es _ _=>if es.length<=100 then (es.mapM (lit n)).map PyData.tuple else none
 |n+1,.List es _=>if es.length<=100 then (es.mapM (lit n)).map PyData.list else none
 |_+1,.Dict [] [] _=>some (.dict [])
 |_+1,_=>none
structure PEw (X:Cx) (e:Expr) (t:TE):Prop where
 h:PE X e t
structure PAw (X:Cx) (e:List Expr) (t:TA):Prop where
 h:PA X e t
structure PTw (X:Cx) (e:Expr) (t:TT):Prop where
 h:PT X e t
structure PWw (X:Cx) (e:Expr) (t:TT):Prop where
 h:PW X e t
structure PSw (X:Cx) (e:Stmt) (t:TS):Prop where
 h:PS X e t
structure PSsw (X:Cx) (e:List Stmt) (t:TS):Prop where
 h:PSs X e t
end L2
namespace Wr
open L2
end Wr
namespace L2
noncomputable def SameN (H H':Hp):Prop:=∀b o,H b=some o->(∀ps,o≠.tbl ps)->H' b=some o
theorem SameN.refl (H:Hp):SameN H H:=fun _ _ e _=>e
theorem SameN.trans {H H' H'':Hp}(a:SameN H H')(b:SameN H' H''):SameN H H'':=fun x o e n=>b x o (a x o e n) n
theorem Same.n {H H':Hp}(s:Same H H'):SameN H H':=fun b o e _=>s b o e
theorem SameB.n {T:Addr}{H H':Hp}{ps:Array Value}(h:H T=some (.tbl ps))(s:SameB T H H'):SameN H H':=fun b o e n=>s b o e fun z=>by
 subst z
 rw[h] at e
 cases e
 exact n _ rfl
theorem SameN.tup {H H':Hp}(s:SameN H H'){a:Addr}{xs:List V}(h:H a=some (.tup xs)):H' a=some (.tup xs):=s _ _ h fun _ z=>by cases z
theorem SameN.lst {H H':Hp}(s:SameN H H'){a:Addr}{xs:List V}(h:H a=some (.lst xs)):H' a=some (.lst xs):=s _ _ h fun _ z=>by cases z
theorem TbOk.b {H H':Hp}{T T2:Addr}{qn:Str}{ps ps2:Array Value}(h:TbOk H T qn ps)(hne:T≠T2)(h2:H T2=some (.tbl ps2))(s:SameB T2 H H'):TbOk H' T qn ps:=
 ⟨s _ _ h.at_ hne,h.tri,fun pos cv e=>by
  obtain⟨c,e1,e2⟩:=h.hit pos cv e
  refine⟨c,e1,s _ _ e2 fun z=> ?_⟩
  subst z
  rw[h2] at e2
  unfold cdP at e2
  cases e2⟩
theorem ifS {b:Bool}{A B:Prop}(hb:b=false)(h:B):if b=true then A else B:=by
 subst hb
 exact iteF h
theorem zc8 (x:V):(!decide (x=x))=false:=by simp
theorem SameN.t {H H':Hp}(s:SameN H H'):SameT H H':=fun a xs e=>s a _ e fun _ z=>by cases z
theorem LvAt.n {H H':Hp}{rows:List (List Int)}{ends:List Int}{N:Nat}{d:Addr}{l:Nat}(h:LvAt H rows ends N d l)(s:SameN H H'):LvAt H' rows ends N d l:=
 let ⟨kvs,a,b⟩:=h;⟨kvs,s _ _ a (fun _ z=>by cases z),fun g hg=>let ⟨x,c,e⟩:=b g hg;⟨x,c,s.lst e⟩⟩
theorem LvsAt.n {H H':Hp}{rows:List (List Int)}{ends:List Int}{N:Nat}{ds:List Addr}(h:LvsAt H rows ends N ds)(s:SameN H H'):LvsAt H' rows ends N ds:=fun l d e=>(h l d e).n s
theorem MachOk.n {H H':Hp}{z:Addr}{N:Nat}{rows:List (List Int)}{ends:List Int}(h:MachOk H z N rows ends)(s:SameN H H'):MachOk H' z N rows ends:=⟨h.is_.sameT s.t,h.few,h.efew,h.rng,h.nd⟩
noncomputable def MLv (z L:Addr)(N:Nat)(rows:List (List Int))(ends:List Int)(ds:List Addr)(H:Hp):Prop:=MachOk H z N rows ends/\H L=some (.lst (ds.map V.ref))/\LvsAt H rows ends N ds
theorem MLv.same {z L:Addr}{N:Nat}{rows:List (List Int)}{ends:List Int}{ds:List Addr}{H H':Hp}(h:MLv z L N rows ends ds H)(s:Same H H'):MLv z L N rows ends ds H':=⟨h.1.same s,s _ _ h.2.1,h.2.2.same s⟩
noncomputable def zgB (T:Addr)(q:Str):Sp:=fun vs H Q _=>∃(z:Addr) (N m:Nat) (at_:Int) (rows:List (List Int)) (ends:List Int) (ps:Array Value),vs=[.ref z,.int (m:Int),.int at_]/\MachOk H z N rows ends/\m<=12/\0<=at_/\TbOk H T q ps/\
 (((lM rows ends m []).length:Int)<=at_->∀ps' H',SameB T H H'->TbOk H' T q ps'->Q .non H')/\
 ∀(o:List Int) (t:Addr) ps' H',(lM rows ends m [])[at_.toNat]? =some o->SameB T H H'->TbOk H' T q ps'->H' t=some (.tup (o.map V.int))->Q (.ref t) H'
noncomputable def zjQ (T:Addr)(q:Str):Sp:=fun vs H Q _=>∃(z a:Addr) (N m:Nat) (rows:List (List Int)) (ends o:List Int) (ps:Array Value),vs=[.ref z,.ref a]/\MachOk H z N rows ends/\m<=12/\H a=some (.tup (o.map V.int))/\o∈zaw m [[]] m/\TbOk H T q ps/\
 ∀ps' H',SameB T H H'->TbOk H' T q ps'->Q (.int ((List.range m).map fun i=>plS (wM rows N ends m) o i).sum) H'
end L2
namespace K52
open L2
noncomputable abbrev s_nth_met:Stmt:=top 16
noncomputable abbrev s_place_met:Stmt:=top 17
section
variable {P:Program}{w:World}{K:PySem.W.Frag}{mg:Str->Option Value}{base:Heap}
noncomputable def qNth:Str:= "nth_met" ++ ".<locals>." ++ "<lambda>"
noncomputable def zcD:Str:= "place_met" ++ ".<locals>." ++ "<lambda>"
theorem sc_nth_met:FnScope ["machine", "many", "at", "levels"] ["machine", "many", "at"] (zae s_nth_met):=⟨rfl,rfl,rfl,by decide+kernel,rfl,by decide+kernel,by decide+kernel⟩
theorem zg5 {f c T:Addr}{fd:FuncData}(F:FunL K "nth_met" "nth_met" s_nth_met f fd c T)(hB:base.BuiltinsAt mg T)(hT:mainGlobals≠T)(Cways_left:Cal P w K mg base 2 "ways_left" ["machine", "many"] spWL)
  (CN:∀base',K.In base'->base'.Ns mainGlobals mg->Cal P w K mg base' 9 "nth_by" ["ways", "many", "at"] (zei P w K mg base')) (CW:∀base',K.In base'->base'.Ns mainGlobals mg->Cal P w K mg base' 4 "ways_met" ["machine", "levels", "many", "begun"] spWM):
  FnOk P w K mg base CX0 10 f fd ["machine", "many", "at"] (zgB T qNth):=by
 refine F.ok sc_nth_met (fun vs H Q E h=> ?_) (fun A outer s H vs Q E hr h=> ?_)
 ·obtain ⟨z,N,m,at_,rows,ends,ps,rfl,_⟩:=h
  rfl
 ·obtain ⟨z,N,m,at_,rows,ends,ps,rfl,hM,hm,h0,hTb,kN,kT⟩:=h
  refine⟨_,(zaf (zau (i:=3) sc_nth_met.nd rfl (Or.inr rfl) (zak Cways_left (hr.mono (by decide)) rfl (zaa (pv 0) (zaa (pv 1) zac))))
   (zai (zaz (zif (kL:=7) (psL:=["begun"]) (fr:=["machine", "levels", "many"]) (q:=qNth) (scope:=zc5 s_nth_met) (sc:=zae s_nth_met) (params:=zek s_nth_met) (body:=zej s_nth_met) CN hr rfl ⟨by decide+kernel,rfl,by decide+kernel,by decide+kernel,by decide+kernel,rfl,rfl⟩ rfl (by decide+kernel) (fun _=>rfl) (fun clos pm c ct=>zkw fun _=>rfl)
   (zaa (zku (q:=qNth) (scope:=zc5 s_nth_met) (params:=zek s_nth_met) (body:=zej s_nth_met) (sc:=zae s_nth_met) rfl rfl rfl (by decide+kernel) rfl F.code hB hT) (zaa (pv 1) (zaa (pv 2) zac))))))), ?_⟩
  refine⟨_,rfl,_,rfl,z,N,m,rows,ends,rfl,hM.is_,hM.few,hM.efew,hm,fun L ds G1 s1 hL0 hL hLv hds=> ?_⟩
  have hTc:=hTb.same s1
  have hM1:=hM.same s1
  refine⟨ps,hTc,fun g c' clos ps' H1 hg0 hgT hgc hTb1 hg hc' old g1 g2=> ?_⟩
  have sU:SameB T G1 (unt H1 g):=fun b o e n=>by
   rw[zcb fun z=>by rw[z,hg0] at e;cases e]
   exact old b o e n
  have nU:=sU.n hTc.at_
  have hMu:MLv z L N rows ends ds (unt H1 g):=⟨hM1.n nU,nU.lst hL,hLv.n nU⟩
  obtain⟨R,E',zs,hz,hR,hrw,hE,hlN,hN0,hv⟩:=hM.is_
  have wt:=ziG hlN hN0 hv (fun s hs=>(hM.rng s hs).1) hM.nd m
  refine⟨_,rfl,_,rfl, ?_⟩
  refine⟨g,c',clos,[.ref z,.ref L,.int (m:Int)],spWy m (wM rows N ends m) c' qNth (MLv z L N rows ends ds),hg,g1,g2,rfl,fun i x v h1 h2=> ?_,fun vs H Q E h=> ?_,fun base' hk hn A outer s H vs Q E hr' hsp=> ?_,fun base' CL=> ?_⟩
  ·exact fr3 ⟨0,rfl,rfl⟩ ⟨3,rfl,rfl⟩ ⟨1,rfl,rfl⟩ i x v h1 h2
  ·obtain ⟨k,a,b,rfl,_,_,_,hc,_,_⟩:=h
   exact⟨rfl,hc⟩
  ·obtain ⟨k,a,b,rfl,ha,hkm,hb,hc,⟨q1,q2,q3⟩,q'⟩:=hsp
   refine⟨_,(zak (CW base' hk hn) (hr'.mono (by decide)) rfl (zaa (pv 1) (zaa (pv 2) (zaa (pv 3) (zaa (pv 0) zac))))), ?_⟩
   exact⟨_,rfl,_,rfl,_,rfl,_,rfl,z,L,a,N,m,k,rows,ends,b,ds,rfl,q1,hm,q2,q3,hds,ha,hb,hkm,q'⟩
  ·have hcu:unt H1 g c'=some (cdP c' qNth):=by rw[zcb (Ne.symm hgc)];exact hc'
   have sB:∀{H':Hp},Same (unt H1 g) H'->SameB T H H':=fun {H'} s' b o e n=>s' b o (sU b o (s1 _ _ e) n)
   exact⟨g,c',qNth,m,at_,wM rows N ends m,lM rows ends m,MLv z L N rows ends ds,rfl,CL,fun _ s'=>hMu.same s',wt,by lia,h0,hcu,fun hge H' s'=>kN hge ps' H' (sB s') (hTb1.same s'),fun o t H' ho s' ht=>kT o t ps' H' ho (sB s') (hTb1.same s') ht⟩
theorem sc_place_met:FnScope ["machine", "order", "levels"] ["machine", "order"] (zae s_place_met):=⟨rfl,rfl,rfl,by decide+kernel,rfl,by decide+kernel,by decide+kernel⟩
theorem zfq {f c T:Addr}{fd:FuncData}(F:FunL K "place_met" "place_met" s_place_met f fd c T)(hB:base.BuiltinsAt mg T)(hT:mainGlobals≠T)(Tp:Top mg)(Cways_left:Cal P w K mg base 2 "ways_left" ["machine", "many"] spWL)
  (CN:∀base',K.In base'->base'.Ns mainGlobals mg->Cal P w K mg base' 9 "place_by" ["ways", "order"] (zcA P w K mg base')) (CW:∀base',K.In base'->base'.Ns mainGlobals mg->Cal P w K mg base' 4 "ways_met" ["machine", "levels", "many", "begun"] spWM):
  FnOk P w K mg base CX0 10 f fd ["machine", "order"] (zjQ T zcD):=by
 refine F.ok sc_place_met (fun vs H Q E h=> ?_) (fun A outer s H vs Q E hr h=> ?_)
 ·obtain ⟨z,a,N,m,rows,ends,o,ps,rfl,_⟩:=h
  rfl
 ·obtain ⟨z,a,N,m,rows,ends,o,ps,rfl,hM,hm,ha,ho,hTb,kk⟩:=h
  have hl:=zaL ho
  refine⟨_,(zaf (zau (i:=2) sc_place_met.nd rfl (Or.inr rfl) (zak Cways_left (hr.mono (by decide)) rfl (zaa (pv 0) (zaa (zam zaE (by rfl) Tp.n_len PySem.boot_len (zaa (pv 1) zac)) zac))))
   (zai (zaz (zif (kL:=7) (psL:=["begun"]) (fr:=["machine", "levels", "order"]) (q:=zcD) (scope:=zc5 s_place_met) (sc:=zae s_place_met) (params:=zek s_place_met) (body:=zej s_place_met) CN hr rfl ⟨by decide+kernel,rfl,by decide+kernel,by decide+kernel,by decide+kernel,rfl,rfl⟩ rfl (by decide+kernel) (fun _=>rfl) (fun clos pm c ct=>zkw fun _=>rfl)
   (zaa (zku (q:=zcD) (scope:=zc5 s_place_met) (params:=zek s_place_met) (body:=zej s_place_met) (sc:=zae s_place_met) rfl rfl rfl (by decide+kernel) rfl F.code hB hT) (zaa (pv 1) zac)))))), ?_⟩
  refine⟨_,rfl,_,rfl,a,_,rfl,.inr (SqT.of ha), ?_⟩
  rw[zaq,hl]
  refine⟨z,N,m,rows,ends,rfl,hM.is_,hM.few,hM.efew,hm,fun L ds G1 s1 hL0 hL hLv hds=> ?_⟩
  have hTc:=hTb.same s1
  have hM1:=hM.same s1
  refine⟨ps,hTc,fun g c' clos ps' H1 hg0 hgT hgc hTb1 hg hc' old g1 g2=> ?_⟩
  have sU:SameB T G1 (unt H1 g):=fun b o e n=>by
   rw[zcb fun z=>by rw[z,hg0] at e;cases e]
   exact old b o e n
  have nU:=sU.n hTc.at_
  have hMu:MLv z L N rows ends ds (unt H1 g):=⟨hM1.n nU,nU.lst hL,hLv.n nU⟩
  have hau:=nU.tup (s1 _ _ ha)
  refine⟨_,rfl, ?_⟩
  refine⟨g,c',clos,[.ref z,.ref L,.ref a],spWy m (wM rows N ends m) c' zcD (fun H=>MLv z L N rows ends ds H/\H a=some (.tup (o.map V.int))),hg,g1,g2,rfl,fun i x v h1 h2=> ?_,fun vs H Q E h=> ?_,fun base' hk hn A outer s H vs Q E hr' hsp=> ?_,fun base' CL=> ?_⟩
  ·exact fr3 ⟨0,rfl,rfl⟩ ⟨2,rfl,rfl⟩ ⟨1,rfl,rfl⟩ i x v h1 h2
  ·obtain ⟨k,a,b,rfl,_,_,_,hc,_,_⟩:=h
   exact⟨rfl,hc⟩
  ·obtain ⟨k,b0,b,rfl,hb0,hkm,hb,hc,⟨⟨q1,q2,q3⟩,haH⟩,q'⟩:=hsp
   refine⟨_,(zak (CW base' hk hn) (hr'.mono (by decide)) rfl (zaa (pv 1) (zaa (pv 2) (zaa (zam zaE (by rfl) Tp.n_len PySem.boot_len (zaa (pv 3) zac)) (zaa (pv 0) zac))))), ?_⟩
   refine⟨_,rfl,_,rfl,_,rfl,a,_,rfl,.inr (SqT.of haH), ?_⟩
   rw[zaq,hl]
   exact⟨_,rfl,z,L,b0,N,m,k,rows,ends,b,ds,rfl,q1,hm,q2,q3,hds,hb0,hb,hkm,q'⟩
  ·have hcu:unt H1 g c'=some (cdP c' zcD):=by rw[zcb (Ne.symm hgc)];exact hc'
   have sB:∀{H':Hp},Same (unt H1 g) H'->SameB T H H':=fun {H'} s' b o e n=>s' b o (sU b o (s1 _ _ e) n)
   exact⟨g,c',a,zcD,m,o,wM rows N ends m,fun H=>MLv z L N rows ends ds H/\H a=some (.tup (o.map V.int)),rfl,CL,fun _ s'=>⟨hMu.same s',s' _ _ hau⟩,by lia,hau,ho,hcu,fun H' s'=>kk ps' H' (sB s') (hTb1.same s')⟩
end
end K52
namespace Srt
section
variable {M:Model}{A:Around}{E:Value->Shared->Prop}{s:Shared}
end
section
variable {O:KeyOrd}(kf:Keyed->O.α)
noncomputable def Up (l:List Keyed):Prop:=l.Pairwise fun p q=>O.kle (kf p) (kf q)
structure Way (a b out:Array Keyed) (ia ib:Nat):Prop where
 perm:out.toList.Perm (a.toList.take ia++b.toList.take ib)
 up:Up kf out.toList
 la:∀p∈out.toList,∀q,a[ia]? =some q->O.kle (kf p) (kf q)
 lb:∀p∈out.toList,∀q,b[ib]? =some q->O.kle (kf p) (kf q)
variable {kf}
end
section
variable {M:Model}{A:Around}{E:Value->Shared->Prop}{s:Shared}
structure Cmp (M:Model) (A:Around) (E:Value->Shared->Prop) (s:Shared) (kd:SortKind) (O:KeyOrd) (kf:Keyed->O.α) (okk:Keyed->Prop):Prop where
 lt:∀(x y:Keyed) (st:SortSt) (Q:Option Bool->SortSt->Prop),okk x->okk y->kindOf st=kd->Q (some (O.blt (kf x) (kf y))) st->wpS M A E s (lt' x y) Q st
variable {O:KeyOrd}{kf:Keyed->O.α}{okk:Keyed->Prop}{kd:SortKind}
noncomputable def zm9 (kf:Keyed->O.α)(a:Array Keyed)(lo hi:Nat):Prop:=∀(i j:Nat) (p q:Keyed),lo<=i->i<=j->j<hi->a[i]? =some p->a[j]? =some q->O.kle (kf p) (kf q)
end
section
variable {M:Model}{A:Around}{E:Value->Shared->Prop}{s:Shared}
variable {O:KeyOrd}{kf:Keyed->O.α}{okk:Keyed->Prop}{kd:SortKind}
end
section
variable {O:KeyOrd}(kf:Keyed->O.α)
structure WayH (a b out:Array Keyed) (na nb:Nat):Prop where
 perm:out.toList.reverse.Perm (a.toList.drop na++b.toList.drop nb)
 up:Up kf out.toList.reverse
 la:∀p∈out.toList,∀q∈a.toList.take na,O.kle (kf q) (kf p)
 lb:∀p∈out.toList,∀q∈b.toList.take nb,O.kle (kf q) (kf p)
variable {kf}
end
section
variable {M:Model}{A:Around}{E:Value->Shared->Prop}{s:Shared}
variable {O:KeyOrd}{kf:Keyed->O.α}{okk:Keyed->Prop}{kd:SortKind}
end
noncomputable def put (m:List Keyed)(at_:Nat)(a:Array Keyed):Array Keyed:=m.zipIdx.foldl (fun a pj=>a.setIfInBounds (at_+pj.2) pj.1) a
section
variable {O:KeyOrd}{kf:Keyed->O.α}
end
section
variable {M:Model}{A:Around}{E:Value->Shared->Prop}{s:Shared}{O:KeyOrd}{kf:Keyed->O.α}{okk:Keyed->Prop}{kd:SortKind}
structure Wk (kd:SortKind) (a0:Array Keyed) (lo:Nat) (pd:Array (Nat×Nat×Nat)) (st:SortSt):Prop where
 perm:(arrOf st).Perm a0
 kind:kindOf st=kd
 failed:failedOf st=none
 pend:pendingOf st=pd
 pre:∀i,i<lo->(arrOf st)[i]? =a0[i]?
variable {a0:Array Keyed}{lo:Nat}{pd:Array (Nat×Nat×Nat)}{st:SortSt}
end
section
variable {M:Model}{A:Around}{E:Value->Shared->Prop}{s:Shared}{O:KeyOrd}{kf:Keyed->O.α}{okk:Keyed->Prop}{kd:SortKind}{a0:Array Keyed}{lo:Nat}{pd:Array (Nat×Nat×Nat)}{st:SortSt}
end
section
variable {M:Model}{A:Around}{E:Value->Shared->Prop}{s:Shared}{O:KeyOrd}{kf:Keyed->O.α}{okk:Keyed->Prop}{kd:SortKind}{st:SortSt}
end
noncomputable def Ch:Nat->List (Nat×Nat×Nat)->Nat->Prop
 |s,[],e=>s=e
 |s,x::r,e=>x.1=s/\1<=x.2.1/\Ch (s+x.2.1) r e
section
variable {M:Model}{A:Around}{E:Value->Shared->Prop}{s:Shared}{O:KeyOrd}{kf:Keyed->O.α}{okk:Keyed->Prop}{kd:SortKind}{a0:Array Keyed}{lo:Nat}{st:SortSt}
structure Stk (kf:Keyed->O.α) (kd:SortKind) (a0:Array Keyed) (lo:Nat) (st:SortSt):Prop where
 perm:(arrOf st).Perm a0
 kind:kindOf st=kd
 failed:failedOf st=none
 ch:Ch 0 (pendingOf st).toList lo
 runs:∀x∈(pendingOf st).toList,zm9 kf (arrOf st) x.1 (x.1+x.2.1)
end
noncomputable def hS (h:Heap)(a:Addr)(vs:List Value):Heap:=((h.update a (Obj.mapSeq fun _=>(#[]:Array Value))).push (seqObj "tuple" vs.toArray 0)).push (seqObj "list" #[] 0)
section
variable {prog:Program}{w:World}{A:Around}{E:Value->Shared->Prop}{s:Shared}{O:KeyOrd}{kf:Keyed->O.α}{okk:Keyed->Prop}{kd:SortKind}
noncomputable def hC (h:Heap)(vs:List Value):Heap:=((h.push (seqObj "list" #[] 0)).update h.objs.size (Obj.mapSeq (·++vs.toArray))).push (seqObj "list" vs.toArray 0)
theorem zmy (h:Heap)(vs:List Value):(hC h vs).get? (h.objs.size+1)=some (seqObj "list" vs.toArray 0):=by
 have e:((h.push (seqObj "list" #[] 0)).update h.objs.size (Obj.mapSeq (·++vs.toArray))).objs.size=h.objs.size+1:=by rw[Heap.size_update,size_push']
 unfold hC
 rw[<-e]
 exact Heap.get?_push_size _ rfl
theorem zmz {h:Heap}{vs:List Value}{b:Addr}{o:Obj}(e:h.get? b=some o):(hC h vs).get? b=some o:=by
 have hlt:b<h.objs.size:=Heap.lt_size e
 unfold hC
 rw[Heap.get?_push_ne _ _ _ (by rw[Heap.size_update,size_push'];exact Nat.ne_of_lt (Nat.lt_succ_of_lt hlt)),Heap.get?_update_ne _ _ _ _ (Nat.ne_of_lt hlt),Heap.get?_push_ne _ _ _ (Nat.ne_of_lt hlt)]
 exact e
theorem zmA {h:Heap}{a:Addr}{vs:List Value}{b:Addr}{o:Obj}(hb:b≠a)(e:h.get? b=some o):(hS h a vs).get? b=some o:=by
 have hlt:b<h.objs.size:=Heap.lt_size e
 unfold hS
 rw[Heap.get?_push_ne _ _ _ (by rw[size_push',Heap.size_update];exact Nat.ne_of_lt (Nat.lt_succ_of_lt hlt)),Heap.get?_push_ne _ _ _ (by rw[Heap.size_update];exact Nat.ne_of_lt hlt),Heap.get?_update_ne _ _ _ _ hb]
 exact e
end
end Srt
namespace L2
section
variable {X:Cx}
end
end L2
namespace Srt
theorem lex_irr:∀a:List Int,HT.lexLt a a=false
 |[]=>rfl
 |x::a=>by rw[HT.lexLt_cons,if_pos rfl];exact lex_irr a
theorem lex_trans:∀a b c:List Int,HT.lexLt a b=true->HT.lexLt b c=true->HT.lexLt a c=true
 |[],[],_,h,_=>by cases h
 |[],_::_,[],_,h=>by rw[HT.lexLt_cons_nil] at h;cases h
 |[],_::_,_::_,_,_=>rfl
 |_::_,[],_,h,_=>by rw[HT.lexLt_cons_nil] at h;cases h
 |_::_,_::_,[],_,h=>by rw[HT.lexLt_cons_nil] at h;cases h
 | x::a,y::b,z::c,h1,h2=>by
  rw[HT.lexLt_cons] at h1 h2 ⊢
  by_cases c1:x=y
  ·subst c1
   rw[if_pos rfl] at h1
   by_cases c2:x=z
   ·rw [if_pos c2] at h2 ⊢
    exact lex_trans a b c h1 h2
   ·rw [if_neg c2] at h2 ⊢
    exact h2
  ·rw [if_neg c1] at h1
   have g1:=of_decide_eq_true h1
   by_cases c2:y=z
   ·subst c2
    rw[if_neg c1]
    exact h1
   ·rw [if_neg c2] at h2
    have g2:=of_decide_eq_true h2
    rw[if_neg (by lia)]
    exact decide_eq_true (by lia)
noncomputable def isTI (h:Heap)(v:Value)(ns:List Int):Prop:=∃a o xs n,v=.ref a/\h.get? a=some o/\o.cls=.type "tuple" /\o.data=.seq xs n/\IntsAre xs.toList ns
section
variable {prog:Program}{w:World}{A:Around}{E:Value->Shared->Prop}{s:Shared}
theorem zgC {Q:Bool->Shared->Prop}{b:Bool}:∀{xs ys:List Value} {ns ms:List Int} (i:Nat),IntsAre xs ns->IntsAre ys ms->Q (HT.lexLt ns ms) s->PySem.W.KatLex prog w A b (decide (xs.length<ys.length)) Q (xs.zip ys) i s
 |[],[],_,_,i,.nil,.nil,q=>PySem.W.kat_nil q
 |[],_::_,_,_,i,.nil,.cons _ _ _,q=>PySem.W.kat_nil q
 |_::_,[],_,_,i,.cons _ _ _,.nil,q=>PySem.W.kat_nil q
 | _::xs,_::ys,_,_,i,.cons x t h1,.cons y u h2,q=>by
  rw[List.zip_cons_cons]
  refine PySem.W.kat_cons (wpAny_eqBool_int ?_)
  have e:decide ((Value.int x t::xs).length<(Value.int y u::ys).length)=decide (xs.length<ys.length):=by
   simp
  rw[e]
  rw[HT.lexLt_cons] at q
  by_cases c:x=y
  ·rw [if_pos c] at q
   rw[beq_iff_eq.mpr c]
   exact PySem.W.kat_yes (zgC (i+1) h1 h2 q)
  ·rw [if_neg c] at q
   rw[beq_eq_false_iff_ne.mpr c]
   refine PySem.W.kat_no ?_
   cases b&&i==0 with
   |true=>exact oneLt_int q
   |false=>exact PySem.W.kat_one _ _ (PyProof.Rows.lt_int q)
end
end Srt
namespace L2
section
variable {prog:Program}{w:World}{A:Around}{E:Value->Shared->Prop}{s:Shared}{d it v:Addr}{es:Array DictEntry}{ep:Nat}
end
end L2
namespace Srt
theorem tups_kind {prog:Program}{w:World}{A:Around}{E:Value->Shared->Prop}{s:Shared}{vs:List Value}{nss:List (List Int)}{Q:SortKind->Shared->Prop}(hv:Paired (fun v ns=>isTI s.heap v ns) vs nss)(h2:2<=vs.length)(hne:∀ns∈nss,ns≠[])
  (q:Q (tuples' true) s):wpAny (model prog w) A (keyKind' vs.toArray) Q E s:=by
 have key:∃fs:List Value,PySem.W.KatTups s.heap vs fs/\fs.length=vs.length/\∀v∈fs,∃n t,v=Value.int n t:=by
  clear h2 q
  induction hv with
  |nil=>exact⟨[],PySem.W.KatTups.nil,rfl,fun _ h=>by cases h⟩
  | @cons v ns vs' nss' p _ ih=>
   obtain⟨fs,f1,f2,f3⟩:=ih fun ns h=>hne ns (List.mem_cons_of_mem _ h)
   obtain⟨a,o,xs,n,rfl,ho,hc,hd,hi⟩:=p
   have:=hne ns List.mem_cons_self
   have hx:∃i t,xs[0]? =some (Value.int i t):=by
    rw[<-Array.getElem?_toList]
    generalize xs.toList=l at hi
    cases hi with
    |nil=>exact absurd rfl this
    |cons x t _=>exact⟨_,_,rfl⟩
   obtain⟨i,t,hx⟩:=hx
   refine⟨.int i t::fs,PySem.W.KatTups.cons ho hc hd hx f1,by simp[f2],fun v hv=> ?_⟩
   rcases List.mem_cons.mp hv with rfl|hv
   ·exact⟨i,t,rfl⟩
   ·exact f3 v hv
 obtain⟨fs,f1,f2,f3⟩:=key
 refine PySem.W.kat_kind (T:=.type "int") f1 (by lia) (fun v hv=> ?_) (by decide) q
 obtain⟨n,t,rfl⟩:=f3 v hv
 exact .now
end Srt
namespace L2
theorem zjR {prog:Program}{w:World}{A:Around}{E:Value->Shared->Prop}{s:Shared}{T:String}{r d:Addr}{n:Nat}{P:Nat->Value->Prop}{OK:Heap->Prop}{R:List Value->Shared->Prop}(K:PySem.W.KdlSrc prog w T r d n P OK)(hh:A.handled=none)(hok:OK s.heap)(hn:n<=sizeLine)
  (h:∀(h':Heap) (tk:Nat) (acc:Array Value),(∀b o,s.heap.get? b=some o->h'.get? b=some o)->s.heap.objs.size<=h'.objs.size->ItemsOf P acc n->R acc.toList {s with heap:=h',toks:=tk}):
  wpAny (model prog w) A (collect (.ref r)) R E s:=by
 have hlt:=K.there _ hok
 unfold collect
 refine wpAny_bind (wpAny_runValue (codeAny_builtin entry_proto_collect' ?_))
 rw[Around.under_plainId PySem.F.plain_proto_collect _]
 show wpAny _ A.in1 (newList [] >>= fun l=>again (.builtin "list.__iadd__" ⟨[l,.ref r],[]⟩)) _ _ s
 refine wpAny_bind (wpAny_newObj_type (wpAny_pure ⟨plainId_quiet PySem.F.plain_list_iadd _,codeAny_builtin entry_list_iadd' ?_⟩))
 rw[Around.under_plainId PySem.F.plain_list_iadd _]
 have at1:(s.heap.push {cls:=.type "list",data:=.seq ([]:List Value).toArray}).get? s.heap.objs.size=some {cls:=.type "list",data:=.seq #[]}:=Heap.get?_push_size _ rfl
 show wpAny _ A.in1 (Builtin.List.listExtendWith (.ref s.heap.objs.size) (.ref r) (.ref s.heap.objs.size)) _ _ _
 have key:=PySem.W.kdl_extend (A:=A) (s:={s with heap:=s.heap.push {cls:=.type "list",data:=.seq ([]:List Value).toArray}})
  (R:=fun (q:Result) (s':Shared)=>q=.ok (.ret (.ref s.heap.objs.size))/\∃(h':Heap) (tk:Nat) (acc:Array Value) (c:Nat),s'={s with heap:=h',toks:=tk}/\
   (∀b o,s.heap.get? b=some o->h'.get? b=some o)/\h'.get? s.heap.objs.size=some {cls:=.type "list",dict:=none,data:=.seq acc c,slots:=#[]}/\ItemsOf P acc n)
  K hh (K.keep _ _ hok fun b _ o e=>Heap.get?_push_of_some _ e) s.heap.objs.size (Nat.ne_of_gt hlt.1) (Nat.ne_of_gt hlt.2) (.ref s.heap.objs.size) 0 at1
  (fun h' tk acc c hk hS hacc=>⟨rfl,h',tk,acc,c,rfl,fun b o e=>hk b o (Nat.ne_of_lt (Heap.lt_size e)) (Heap.get?_push_of_some _ e),hS,hacc⟩) hn
 have fin:∀s',(∃(h':Heap) (tk:Nat) (acc:Array Value) (c:Nat),s'={s with heap:=h',toks:=tk}/\(∀b o,s.heap.get? b=some o->h'.get? b=some o)/\h'.get? s.heap.objs.size=some {cls:=.type "list",dict:=none,data:=.seq acc c,slots:=#[]}/\ItemsOf P acc n)->
   wpAny (model prog w) A (load s.heap.objs.size >>= fun o=>match o.data with| .seq xs _=>pure xs.toList|_=>unsupported "internal:collect") R E s':=by
  rintro s' ⟨h',tk,acc,c,rfl,hk,hS,hacc⟩
  exact wpAny_bind (wpAny_load hS (wpAny_pure (h h' tk acc hk (Nat.le_of_lt (Heap.lt_size hS)) hacc)))
 refine wpAny_mono key (fun fin' s' x=> ?_) fun e s' x=> ?_
 ·cases fin' with
  |done f=>
   obtain⟨e,x⟩:=x
   cases e
   exact fin s' x
  |again c₁=>
   refine⟨x.1,codeAny_mono x.2 fun q s₂ y=> ?_⟩
   obtain⟨rfl,y⟩:=y
   exact fin s₂ y
 ·cases x.1
section
variable {X:Cx}
end
end L2
namespace St
open PySem
theorem zjS (xs:Array Nat)(j:Nat)(hr:xs.toList.Pairwise (·<·)):∀(fuel lo hi:Nat),hi-lo<=fuel->lo<=hi->hi<=xs.size->(∀i (h:i<xs.size),i<lo->xs[i]<j)->(∀i (h:i<xs.size),hi<=i->j<=xs[i])->
  SetTable.below.go xs j fuel lo hi<=xs.size/\(∀i (h:i<xs.size),i<SetTable.below.go xs j fuel lo hi->xs[i]<j)/\∀i (h:i<xs.size),SetTable.below.go xs j fuel lo hi<=i->j<=xs[i]:=by
 intro fuel
 induction fuel with
 |zero=>
  intro lo hi hf hl hh h1 h2
  unfold SetTable.below.go
  exact⟨by lia,h1,fun i h g=>h2 i h (by lia)⟩
 | succ fuel ih=>
  intro lo hi hf hl hh h1 h2
  unfold SetTable.below.go
  by_cases c:lo<hi
  ·rw [if_pos c]
   have hm:(lo+hi)/2<xs.size:=by lia
   have hg:xs.getD ((lo+hi)/2) j=xs[(lo+hi)/2]:=by
    rw[Array.getD_eq_getD_getElem?,Array.getElem?_eq_getElem hm]
    rfl
   have mono:∀i k (hi:i<xs.size) (hk:k<xs.size),i<k->xs[i]<xs[k]:=fun i k hi hk hik=>by
    have:=List.pairwise_iff_getElem.mp hr i k (by simpa using hi) (by simpa using hk) hik
    simpa using this
   dsimp only
   rw[hg]
   by_cases d:xs[(lo+hi)/2]<j
   ·rw [if_pos d]
    refine ih _ _ (by lia) (by lia) hh (fun i h g=> ?_) h2
    rcases Nat.lt_or_ge i ((lo+hi)/2) with e|e
    ·exact Nat.lt_trans (mono _ _ h hm e) d
    ·have:i=(lo+hi)/2:=by lia
     subst this
     exact d
   ·rw [if_neg d]
    refine ih _ _ (by lia) (by lia) (by lia) h1 (fun i h g=> ?_)
    rcases Nat.lt_or_ge ((lo+hi)/2) i with e|e
    ·have:=mono _ _ hm h e
     lia
    ·have:i=(lo+hi)/2:=by lia
     subst this
     lia
  ·rw [if_neg c]
   exact⟨by lia,h1,fun i h g=>h2 i h (by lia)⟩
theorem zb7 {xs:Array Nat}(hr:xs.toList.Pairwise (·<·))(j:Nat):SetTable.below xs j<=xs.size/\(∀i (h:i<xs.size),i<SetTable.below xs j->xs[i]<j)/\∀i (h:i<xs.size),SetTable.below xs j<=i->j<=xs[i]:=
 zjS xs j hr xs.size 0 xs.size (by lia) (Nat.zero_le _) (Nat.le_refl _) (fun i h g=>by lia) (fun i h g=>by lia)
theorem zjT {xs:Array Nat}(hr:xs.toList.Pairwise (·<·)){i j:Nat}(h:xs[i]? =some j):SetTable.below xs j=i:=by
 obtain⟨hi,e⟩:=Array.getElem?_eq_some_iff.mp h
 obtain⟨b0,b1,b2⟩:=zb7 hr j
 rcases Nat.lt_trichotomy (SetTable.below xs j) i with g|g|g
 ·have:=b2 (SetTable.below xs j) (by lia) (Nat.le_refl _)
  have m:=List.pairwise_iff_getElem.mp hr _ i (by simpa using (by lia:SetTable.below xs j<xs.size)) (by simpa using hi) g
  simp at m
  lia
 ·exact g
 ·have:=b1 i hi g
  lia
theorem zdU {xs:Array Nat}(hr:xs.toList.Pairwise (·<·)){i j:Nat}(h:xs[i]? =some j):SetTable.below xs (j+1)=i+1:=by
 obtain⟨hi,e⟩:=Array.getElem?_eq_some_iff.mp h
 obtain⟨b0,b1,b2⟩:=zb7 hr (j+1)
 rcases Nat.lt_trichotomy (SetTable.below xs (j+1)) (i+1) with g|g|g
 ·have:=b2 i hi (by lia)
  lia
 ·exact g
 ·have h1:=b1 (i+1) (by lia) g
  have m:=List.pairwise_iff_getElem.mp hr i (i+1) (by simpa using hi) (by simpa using (by lia:i+1<xs.size)) (by lia)
  simp at m
  lia
theorem zdV {xs:Array Nat}(hr:xs.toList.Pairwise (·<·)):SetTable.below xs 0=0:=by
 obtain⟨b0,b1,_⟩:=zb7 hr 0
 rcases Nat.eq_zero_or_pos (SetTable.below xs 0) with e|e
 ·exact e
 ·have:=b1 0 (by lia) e
  lia
theorem zgD {α:Type}(xs:Array α)(p:Nat)(x:α):(SetTable.insertAt xs p x).toList=xs.toList.take p++x::xs.toList.drop p:=by
 unfold SetTable.insertAt
 simp[List.take_of_length_le]
theorem zeA {α:Type}(xs:Array α)(p:Nat)(x:α):(SetTable.insertAt xs p x).toList.Perm (x::xs.toList):=by
 rw[zgD]
 have:(xs.toList.take p++xs.toList.drop p)=xs.toList:=List.take_append_drop _ _
 conv=>rhs;rw[<-this]
 exact List.perm_middle
theorem zc9 {α:Type}(xs:Array α)(p:Nat)(x:α):(SetTable.insertAt xs p x).size=xs.size+1:=by
 rw[<-Array.length_toList,(zeA xs p x).length_eq,List.length_cons,Array.length_toList]
theorem zgE {xs:Array Nat}(hr:xs.toList.Pairwise (·<·)){j:Nat}(hn:j∉xs.toList):(SetTable.insertAt xs (SetTable.below xs j) j).toList.Pairwise (·<·):=by
 obtain⟨b0,b1,b2⟩:=zb7 hr j
 rw[zgD]
 have lo:∀y∈xs.toList.take (SetTable.below xs j),y<j:=fun y hy=>by
  obtain⟨i,hi⟩:=List.getElem?_of_mem hy
  rw[List.getElem?_take] at hi
  split at hi
  ·rename_i c
   rw[Array.getElem?_toList] at hi
   obtain⟨hs,e⟩:=Array.getElem?_eq_some_iff.mp hi
   rw[<-e]
   exact b1 i hs c
  ·cases hi
 have hi:∀y∈xs.toList.drop (SetTable.below xs j),j<y:=fun y hy=>by
  obtain⟨i,hi⟩:=List.getElem?_of_mem hy
  rw[List.getElem?_drop,Array.getElem?_toList] at hi
  obtain⟨hs,e⟩:=Array.getElem?_eq_some_iff.mp hi
  have g:=b2 _ hs (by lia)
  rw[e] at g
  rcases Nat.lt_or_eq_of_le g with g|g
  ·exact g
  ·exact absurd (by rw[g];exact List.mem_of_mem_drop hy) hn
 refine List.pairwise_append.mpr ⟨hr.sublist (List.take_sublist _ _),List.pairwise_cons.mpr ⟨hi,hr.sublist (List.drop_sublist _ _)⟩,fun a ha b hb=> ?_⟩
 rcases List.mem_cons.mp hb with rfl|hb
 ·exact lo a ha
 ·exact Nat.lt_trans (lo a ha) (hi b hb)
noncomputable def lcg (M x:Nat):Nat:=(5*x+1)%M
noncomputable def orb (M:Nat):Nat->Nat->Nat
 |0,x=>x
 |n+1,x=>orb M n (lcg M x)
theorem zeB (M:Nat):∀a b x,orb M (a+b) x=orb M b (orb M a x)
 |0,b,x=>by rw[Nat.zero_add];rfl
 |a+1,b,x=>by
  rw[show a+1+b=(a+b)+1 by lia]
  exact zeB M a b (lcg M x)
noncomputable def zjU (M:Nat):Nat->Nat->Nat->Nat
 |0,_,acc=>acc
 |n+1,x,acc=>zjU M n (lcg M x) (acc ||| (1 <<< x))
theorem ziH (M:Nat):∀(n x acc r:Nat),(zjU M n x acc).testBit r=true->acc.testBit r=true∨∃m,m<n/\orb M m x=r
 |0,x,acc,r,h=>.inl h
 | n+1,x,acc,r,h=>by
  rcases ziH M n (lcg M x) _ r h with g|⟨m,h1,h2⟩
  ·rw [Nat.testBit_or,Bool.or_eq_true] at g
   rcases g with g|g
   ·exact .inl g
   ·rw [Nat.one_shiftLeft,Nat.testBit_two_pow] at g
    exact .inr ⟨0,by lia,of_decide_eq_true g⟩
  ·exact .inr ⟨m+1,by lia,h2⟩
noncomputable def zcn:List Nat:=[7,31,127,511,2047]
theorem zlw:∀m∈zcn,zjU (m+1) (m+1) 0 0=2^(m+1)-1/\orb (m+1) (m+1) 0=0:=by decide+kernel
theorem zjV {m:Nat}(hm:m∈zcn){x r:Nat}(hx:x<=m)(hr:r<=m):∃n,n<=m/\orb (m+1) n x=r:=by
 obtain⟨h1,h2⟩:=zlw m hm
 have key:∀r,r<=m->∃n,n<m+1/\orb (m+1) n 0=r:=fun r hr=>by
  have:(zjU (m+1) (m+1) 0 0).testBit r=true:=by
   rw[h1,Nat.testBit_two_pow_sub_one]
   exact decide_eq_true (by lia)
  rcases ziH _ _ _ _ _ this with g|g
  ·rw [Nat.zero_testBit] at g
   cases g
  ·exact g
 obtain⟨a,ha,ea⟩:=key x hx
 obtain⟨b,hb,eb⟩:=key r hr
 rcases Nat.lt_or_ge b a with c|c
 ·refine ⟨m+1-a+b,by lia, ?_⟩
  rw[<-ea,<-zeB,show a+(m+1-a+b)=(m+1)+b by lia,zeB,h2]
  exact eb
 ·refine ⟨b-a,by lia, ?_⟩
  rw[<-ea,<-zeB,show a+(b-a)=b by lia]
  exact eb
noncomputable def lin (m:Nat):Nat->Nat×Nat->Nat×Nat
 |0,p=>p
 |n+1,p=>lin m n (SetTable.leap m p.1 p.2)
theorem ziI (m:Nat):∀a b p,lin m (a+b) p=lin m b (lin m a p)
 |0,b,x=>by rw[Nat.zero_add];rfl
 |a+1,b,x=>by
  rw[show a+1+b=(a+b)+1 by lia]
  exact ziI m a b _
theorem ziJ (m:Nat):∀n p,(lin m n p).2=p.2/32^n
 |0,p=>by simp[lin]
 |n+1,p=>by
  show (lin m n (SetTable.leap m p.1 p.2)).2=_
  rw[ziJ m n]
  show p.2/32/32^n=_
  rw[Nat.div_div_eq_div_mul,Nat.pow_succ,Nat.mul_comm]
theorem ziK (m:Nat):∀n x,lin m n (x,0)=(orb (m+1) n x,0)
 |0,x=>rfl
 | n+1,x=>by
  show lin m n (SetTable.leap m x 0)=_
  have e:SetTable.leap m x 0=(lcg (m+1) x,0):=by
   unfold SetTable.leap lcg
   simp[Nat.mul_comm]
  rw[e]
  exact ziK m n _
theorem zkA (m:Nat):∀n p,p.1<=m->(lin m n p).1<=m
 |0,p,h=>h
 |n+1,p,_=>zkA m n _ (Nat.le_of_lt_succ (Nat.mod_lt _ (Nat.succ_pos m)))
theorem zeC {m:Nat}(hm:m∈zcn){p:Nat×Nat}(h1:p.1<=m)(h2:p.2<2^64){r:Nat}(hr:r<=m):∃n,n<m+15/\(lin m n p).1=r:=by
 have e:lin m 13 p=((lin m 13 p).1,0):=by
  have:=ziJ m 13 p
  rw[Nat.div_eq_of_lt (Nat.lt_trans h2 (by decide))] at this
  exact Prod.ext rfl this
 obtain⟨n,hn,en⟩:=zjV hm (zkA m 13 p h1) hr
 refine⟨13+n,by lia, ?_⟩
 rw[ziI,e,ziK]
 exact en
structure Tb (t:SetTable) (n:Nat):Prop where
 size:t.place.size=n
 nod:t.dummies=#[]
 rise:t.place.toList.Pairwise (·<·)
 mask:t.mask∈zcn
 room:n<=t.mask
theorem Tb.fits {t:SetTable}{n:Nat}(T:Tb t n):t.fits n=true:=by
 unfold SetTable.fits SetTable.fill
 rw[T.nod,T.size]
 have:=T.room
 simp
 lia
theorem Tb.odd {t:SetTable}{n:Nat}(T:Tb t n):t.gaveWay=false:=by
 unfold SetTable.gaveWay
 have:=T.mask
 have h:∀m∈zcn,(m%2==0)=false:=by decide
 exact h _ this
theorem ziL {t:SetTable}(nd:t.dummies=#[])(j:Nat):t.slot j=if t.place[SetTable.below t.place j]? ==some j then .live (SetTable.below t.place j) else .empty:=by
 unfold SetTable.slot
 have e:SetTable.has t.dummies j=false:=by
  rw[nd]
  rfl
 rw[e]
 simp
theorem zbJ {t:SetTable}(nd:t.dummies=#[])(hr:t.place.toList.Pairwise (·<·)){j:Nat}:(∃i,t.slot j=.live i)↔j∈t.place.toList:=by
 rw[ziL nd]
 constructor
 ·rintro ⟨i,h⟩
  split at h
  ·rename_i c
   have:=beq_iff_eq.mp c
   rw[<-Array.getElem?_toList] at this
   exact List.mem_of_getElem? this
  ·cases h
 ·intro h
  obtain⟨i,hi⟩:=List.getElem?_of_mem h
  rw[Array.getElem?_toList] at hi
  have b:=zjT hr hi
  rw[b,hi]
  exact⟨i,by simp⟩
theorem zcS {t:SetTable}(nd:t.dummies=#[])(j:Nat):t.slot j=.empty∨∃i,i<t.place.size/\t.slot j=.live i:=by
 rw[ziL nd]
 split
 ·rename_i c
  have:=beq_iff_eq.mp c
  obtain⟨h,_⟩:=Array.getElem?_eq_some_iff.mp this
  exact .inr ⟨_,h,rfl⟩
 ·exact .inl rfl
theorem ziM:∀{l1 l2:List Nat},l1.Nodup->(∀x∈l1,x∈l2)->l1.length<=l2.length
 |[],_,_,_=>Nat.zero_le _
 |x::l,l2,h,hs=>by
  rw[List.nodup_cons] at h
  have hx:=hs x List.mem_cons_self
  have:=ziM (l1:=l) (l2:=l2.erase x) h.2 fun y hy=>(List.mem_erase_of_ne (show y≠x from fun e=>h.1 (by rw[<-e];exact hy))).mpr (hs y (List.mem_cons_of_mem _ hy))
  rw[List.length_erase_of_mem hx] at this
  have:=List.length_pos_of_mem hx
  rw[List.length_cons]
  lia
section
variable {t:SetTable}{hashAt:Nat->Int}{h:Int}
noncomputable def nxt (t:SetTable)(i perturb:Nat):SetTable.Probe:={j:=i,more:=SetTable.runEnd t.mask i-i,i:=i,perturb:=perturb,dummy:=none}
theorem zg6 (nd:t.dummies=#[])(hne:∀i,i<t.place.size->(hashAt i==h)=false):∀(k F j i per:Nat),k+1<=F->
  (∃j',SetTable.probe.go t hashAt h F {j:=j,more:=k,i:=i,perturb:=per,dummy:=none}=some (.empty j' none)/\t.slot j'=.empty)∨
  ((∃q,t.slot j=.live q)/\SetTable.probe.go t hashAt h F {j:=j,more:=k,i:=i,perturb:=per,dummy:=none}=SetTable.probe.go t hashAt h (F-(k+1)) (nxt t (SetTable.leap t.mask i per).1 (SetTable.leap t.mask i per).2)):=by
 intro k
 induction k with
 | zero=>
  intro F j i per hF
  obtain⟨F,rfl⟩:∃f,F=f+1:=⟨F-1,by lia⟩
  rcases zcS nd j with e|⟨q,hq,e⟩
  ·left
   unfold SetTable.probe.go
   rw[e]
   exact⟨j,rfl,e⟩
  ·right
   refine⟨⟨q,e⟩, ?_⟩
   conv=>lhs;unfold SetTable.probe.go
   rw[e]
   dsimp only
   rw[hne q hq]
   unfold SetTable.advance
   simp[nxt]
 | succ k ih=>
  intro F j i per hF
  obtain⟨F,rfl⟩:∃f,F=f+1:=⟨F-1,by lia⟩
  rcases zcS nd j with e|⟨q,hq,e⟩
  ·left
   unfold SetTable.probe.go
   rw[e]
   exact⟨j,rfl,e⟩
  ·have step:SetTable.probe.go t hashAt h (F+1) {j:=j,more:=k+1,i:=i,perturb:=per,dummy:=none}=SetTable.probe.go t hashAt h F {j:=j+1,more:=k,i:=i,perturb:=per,dummy:=none}:=by
    conv=>lhs;unfold SetTable.probe.go
    rw[e]
    dsimp only
    rw[hne q hq]
    unfold SetTable.advance
    simp
   rcases ih F (j+1) i per (by lia) with⟨j',h1,h2⟩|⟨_,h2⟩
   ·left
    exact⟨j',step.trans h1,h2⟩
   ·right
    refine⟨⟨q,e⟩,step.trans ?_⟩
    rw[h2,show F+1-(k+1+1)=F-(k+1) by lia]
theorem zmB (m i:Nat):SetTable.runEnd m i-i<=9:=by
 unfold SetTable.runEnd
 split<;>lia
theorem zf5 (nd:t.dummies=#[])(hne:∀i,i<t.place.size->(hashAt i==h)=false):∀(n F i per:Nat),10*n<=F->
  (∃j',SetTable.probe.go t hashAt h F (nxt t i per)=some (.empty j' none)/\t.slot j'=.empty)∨∀k,k<n->∃q,t.slot (lin t.mask k (i,per)).1=.live q:=by
 intro n
 induction n with
 |zero=>exact fun F i per _=>.inr fun k hk=>by lia
 | succ n ih=>
  intro F i per hF
  have hl:=zmB t.mask i
  rcases zg6 (hashAt:=hashAt) (h:=h) nd hne (SetTable.runEnd t.mask i-i) F i i per (by lia) with⟨j',h1,h2⟩|⟨h1,h2⟩
  ·exact .inl ⟨j',h1,h2⟩
  ·rcases ih (F-(SetTable.runEnd t.mask i-i+1)) (SetTable.leap t.mask i per).1 (SetTable.leap t.mask i per).2 (by lia) with⟨j',g1,g2⟩|g
   ·exact .inl ⟨j',h2.trans g1,g2⟩
   ·refine .inr fun k hk=> ?_
    cases k with
    |zero=>exact h1
    |succ k=>exact g k (by lia)
theorem zdW {n:Nat}(T:Tb t n)(hne:∀i,i<n->(hashAt i==h)=false):∃j,t.probe hashAt h (t.probeStart h)=some (.empty j none)/\j∉t.place.toList:=by
 have hb:SetTable.bits h<2^64:=by
  unfold SetTable.bits
  have:=Int.emod_lt_of_pos h (by decide:(0:Int)<2^64)
  have:=Int.emod_nonneg h (by decide:(2^64:Int)≠0)
  lia
 have hi:SetTable.bits h%(t.mask+1)<=t.mask:=Nat.le_of_lt_succ (Nat.mod_lt _ (Nat.succ_pos _))
 rcases zf5 (t:=t) (hashAt:=hashAt) (h:=h) T.nod (by rw[T.size];exact hne) (SetTable.turns t.mask) (10*SetTable.turns t.mask) (SetTable.bits h%(t.mask+1)) (SetTable.bits h) (Nat.le_refl _) with⟨j,h1,h2⟩|g
 ·refine ⟨j,h1,fun hj=> ?_⟩
  obtain⟨i,e⟩:=(zbJ T.nod T.rise).mpr hj
  rw[h2] at e
  cases e
 ·exfalso
  have all:∀r,r∈List.range (t.mask+1)->r∈t.place.toList:=fun r hr=>by
   obtain⟨k,hk,e⟩:=zeC T.mask (p:=(SetTable.bits h%(t.mask+1),SetTable.bits h)) hi hb (r:=r) (by have:=List.mem_range.mp hr;lia)
   have:=g k hk
   rw[e] at this
   exact (zbJ T.nod T.rise).mp this
  have:=ziM List.nodup_range all
  rw[List.length_range,Array.length_toList,T.size] at this
  have:=T.room
  lia
end
theorem ziN {k:Nat}:∀{l:List (Option Nat)} {j:Nat},l[j]? =some none->((l.set j (some k)).filterMap id).Perm (k::l.filterMap id)
 |[],_,h=>by cases h
 |x::l,0,h=>by
  cases h
  exact List.Perm.refl _
 | x::l,j+1,h=>by
  rw[List.set_cons_succ]
  cases x with
  |none=>exact ziN (l:=l) h
  |some y=>
   rw[List.filterMap_cons_some (f:=id) (b:=y) rfl,List.filterMap_cons_some (f:=id) (b:=y) rfl]
   exact ((ziN (l:=l) h).cons y).trans (List.Perm.swap _ _ _)
theorem zkB:∀{l:List (Option Nat)},(∀x∈l,x.isSome=true)->(l.filterMap id).length=l.length
 |[],_=>rfl
 |none::l,h=>by have:=h none (by simp);cases this
 |some y::l,h=>by
  rw[List.filterMap_cons_some (f:=id) (b:=y) rfl,List.length_cons,List.length_cons,zkB fun x hx=>h x (List.mem_cons_of_mem _ hx)]
theorem zg7 {m:Nat}{owner:Array (Option Nat)}:∀(n i per:Nat),(∃j,SetTable.layClean.free m owner n i per=some j/\owner[j]? =some none)∨∀k,k<n->(owner.getD (lin m k (i,per)).1 (some 0)).isSome=true:=by
 intro n
 induction n with
 |zero=>exact fun i per=>.inr fun k hk=>by lia
 | succ n ih=>
  intro i per
  unfold SetTable.layClean.free
  cases e:(List.range (SetTable.runEnd m i+1-i)).find? fun k=>(owner.getD (i+k) (some 0)).isNone with
  | some k=>
   left
   refine⟨i+k,rfl, ?_⟩
   have:=List.find?_some e
   rw[Array.getD_eq_getD_getElem?] at this
   cases q:owner[i+k]? with
   |none=>rw[q] at this;cases this
   |some x=>
    rw[q] at this
    cases x with
    |none=>rfl
    |some y=>cases this
  | none=>
   dsimp only
   rcases ih (SetTable.leap m i per).1 (SetTable.leap m i per).2 with⟨j,h1,h2⟩|g
   ·exact .inl ⟨j,h1,h2⟩
   ·refine .inr fun k hk=> ?_
    cases k with
    |zero=>
     have:=List.find?_eq_none.mp e 0 (List.mem_range.mpr (by unfold SetTable.runEnd;split<;>lia))
     rw[Nat.add_zero] at this
     show (owner.getD i (some 0)).isSome=true
     cases q:owner.getD i (some 0) with
     |none=>rw[q] at this;exact absurd rfl this
     |some _=>rfl
    |succ k=>exact g k (by lia)
theorem zjW {m k:Nat}(hm:m∈zcn){owner:Array (Option Nat)}(hs:owner.size=m+1)(hp:(owner.toList.filterMap id).Perm (List.range k))(hk:k<=m)(h:Int):
  ∃j,SetTable.layClean.free m owner (SetTable.turns m) (SetTable.bits h%(m+1)) (SetTable.bits h)=some j/\(owner.setIfInBounds j (some k)).size=m+1/\((owner.setIfInBounds j (some k)).toList.filterMap id).Perm (List.range (k+1)):=by
 have hb:SetTable.bits h<2^64:=by
  unfold SetTable.bits
  have:=Int.emod_lt_of_pos h (by decide:(0:Int)<2^64)
  have:=Int.emod_nonneg h (by decide:(2^64:Int)≠0)
  lia
 have hi:SetTable.bits h%(m+1)<=m:=Nat.le_of_lt_succ (Nat.mod_lt _ (Nat.succ_pos _))
 rcases zg7 (m:=m) (owner:=owner) (SetTable.turns m) (SetTable.bits h%(m+1)) (SetTable.bits h) with⟨j,h1,h2⟩|g
 ·refine ⟨j,h1,by simp[hs], ?_⟩
  rw[Array.toList_setIfInBounds,List.range_succ]
  exact (ziN (by rw[Array.getElem?_toList];exact h2)).trans ((hp.cons k).trans (List.perm_append_singleton _ _).symm)
 ·exfalso
  have all:∀x∈owner.toList,x.isSome=true:=fun x hx=>by
   obtain⟨r,hr⟩:=List.getElem?_of_mem hx
   rw[Array.getElem?_toList] at hr
   obtain⟨hr1,hr2⟩:=Array.getElem?_eq_some_iff.mp hr
   obtain⟨n,hn,e⟩:=zeC hm (p:=(SetTable.bits h%(m+1),SetTable.bits h)) hi hb (r:=r) (by lia)
   have:=g n hn
   rw[e,Array.getD_eq_getD_getElem?,hr] at this
   exact this
  have:=zkB all
  rw[hp.length_eq,List.length_range,Array.length_toList,hs] at this
  lia
theorem zgF {m:Nat}(hm:m∈zcn):∀(hs:List Int) (owner:Array (Option Nat)) (k:Nat),owner.size=m+1->(owner.toList.filterMap id).Perm (List.range k)->k+hs.length<=m+1->
  ∃owner',(hs.foldl (init:=some (owner,k)) fun acc h=>do
   let (owner,k)<-acc
   let j<-SetTable.layClean.free m owner (SetTable.turns m) (SetTable.bits h%(m+1)) (SetTable.bits h)
   pure (owner.setIfInBounds j (some k),k+1))=some (owner',k+hs.length)/\owner'.size=m+1/\(owner'.toList.filterMap id).Perm (List.range (k+hs.length))
 |[],owner,k,h1,h2,_=>⟨owner,rfl,h1,h2⟩
 | h::hs,owner,k,h1,h2,h3=>by
  rw[List.length_cons] at h3
  obtain⟨j,e,g1,g2⟩:=zjW hm h1 h2 (by lia) h
  rw[List.foldl_cons]
  have:(do
   let (owner,k)<-some (owner,k)
   let j<-SetTable.layClean.free m owner (SetTable.turns m) (SetTable.bits h%(m+1)) (SetTable.bits h)
   pure (owner.setIfInBounds j (some k),k+1))=some (owner.setIfInBounds j (some k),k+1):=by
   show (SetTable.layClean.free m owner (SetTable.turns m) (SetTable.bits h%(m+1)) (SetTable.bits h)).bind _=_
   rw[e]
   rfl
  rw[this]
  obtain⟨o',q1,q2,q3⟩:=zgF hm hs _ _ g1 g2 (by lia)
  rw[show k+(h::hs).length=k+1+hs.length by rw[List.length_cons];lia]
  exact⟨o',q1,q2,q3⟩
theorem zlx {m:Nat}(hm:m∈zcn)(fg mv:Nat)(led plain:Bool)(hs:Array Int)(hl:hs.size<=m):
  ∃t order,SetTable.laid m fg mv led plain hs=some (t,order)/\Tb t hs.size/\t.led=led/\t.plain=plain/\t.mask=m/\order.toList.Perm (List.range hs.size):=by
 have h0:(((Array.replicate (m+1) none:Array (Option Nat)).toList).filterMap id).Perm (List.range 0):=by
  have:((Array.replicate (m+1) none:Array (Option Nat)).toList).filterMap id=[]:=by simp
  rw[this]
  exact .nil
 obtain⟨ow,e,s1,s2⟩:=zgF hm hs.toList (Array.replicate (m+1) none) 0 (by simp) h0 (by simp;lia)
 rw[Nat.zero_add,Array.length_toList] at e s2
 unfold SetTable.laid SetTable.layClean
 rw[<-Array.foldl_toList,e]
 refine⟨_,_,rfl, ?_⟩
 have live:∀(l:List Nat),(l.filterMap fun j=>(ow.getD j none).map (j,·)).map (·.1)=l.filter fun j=>(ow.getD j none).isSome:=fun l=>by
  induction l with
  |nil=>rfl
  |cons j l ih=>
   rw[List.filterMap_cons,List.filter_cons]
   cases q:ow.getD j none with
   |none=>simpa using ih
   |some y=>simpa using ih
 have live2:((List.range (m+1)).filterMap fun j=>(ow.getD j none).map (j,·)).map (·.2)=ow.toList.filterMap id:=by
  have g:ow.toList=(List.range (m+1)).map fun j=>ow.getD j none:=by
   refine List.ext_getElem (by simp[s1]) fun i h1 h2=> ?_
   have hi:i<ow.size:=by simpa using h1
   simp[Array.getD_eq_getD_getElem?,hi]
  rw[g]
  generalize List.range (m+1)=l
  induction l with
  |nil=>rfl
  |cons j l ih=>
   rw[List.filterMap_cons,List.map_cons,List.filterMap_cons]
   cases q:ow.getD j none with
   |none=>simpa using ih
   |some y=>simpa using ih
 have hsz:((List.range (m+1)).filterMap fun j=>(ow.getD j none).map (j,·)).length=hs.size:=by
  have:=congrArg List.length live2
  rw[List.length_map,s2.length_eq,List.length_range] at this
  exact this
 refine⟨⟨?_,rfl, ?_,hm,hl⟩,rfl,rfl,rfl, ?_⟩
 ·show ((((List.range (m+1)).filterMap fun j=>(ow.getD j none).map (j,·)).map (·.1)).toArray).size=_
  rw[List.size_toArray,List.length_map,hsz]
 ·show ((((List.range (m+1)).filterMap fun j=>(ow.getD j none).map (j,·)).map (·.1)).toArray).toList.Pairwise (·<·)
  rw[live]
  exact List.Pairwise.filter _ List.pairwise_lt_range
 ·show ((((List.range (m+1)).filterMap fun j=>(ow.getD j none).map (j,·)).map (·.2)).toArray).toList.Perm _
  rw[live2]
  exact s2
end St
namespace St
noncomputable def SetH (b:Bool)(h:Heap)(a:Addr)(L:List (Int×Value)):Prop:=
 ∃o es ep t,h.get? a=some o/\o.ExactSet/\o.data=.set es ep t/\Tb t es.size/\es.size*5<t.mask*3/\t.plain=true/\t.led=b/\es.toList.Perm L
theorem SetH.keep {b:Bool}{h h':Heap}{a:Addr}{L:List (Int×Value)}(x:SetH b h a L)(e:∀o,h.get? a=some o->h'.get? a=some o):SetH b h' a L:=by
 obtain⟨o,es,ep,t,h1,r⟩:=x
 exact⟨o,es,ep,t,e _ h1,r⟩
theorem zkC {t:SetTable}(nd:t.dummies=#[])(j:Nat):t.put j=({t with place:=SetTable.insertAt t.place (SetTable.below t.place j) j},SetTable.below t.place j):=by
 unfold SetTable.put
 have e:SetTable.has t.dummies j=false:=by
  rw[nd]
  rfl
 dsimp only
 rw[e]
 simp
theorem zg8 {m n:Nat}(hm:m∈zcn)(h1:n*5<m*3)(h2:(n+1)*5≥m*3)(h3:n+1<=1200):SetTable.sizeAbove (SetTable.grown (n+1))-1∈zcn/\n+1<=SetTable.sizeAbove (SetTable.grown (n+1))-1/\(n+1)*5<(SetTable.sizeAbove (SetTable.grown (n+1))-1)*3/\¬SetTable.sizeAbove (SetTable.grown (n+1))>sizeLine:=by
 have:m=7∨m=31∨m=127∨m=511∨m=2047:=by simpa [zcn] using hm
 rcases this with rfl|rfl|rfl|rfl|rfl
 ·have:n=4:=by lia
  subst this
  decide
 ·have:n=18:=by lia
  subst this
  decide
 ·have:n=76:=by lia
  subst this
  decide
 ·have:n=306:=by lia
  subst this
  decide
 ·lia
section
variable {prog:Program}{w:World}{A:Around}{E:Value->Shared->Prop}{s:Shared}
theorem ziO {es:Array (Int×Value)}{order:Array Nat}(hp:order.toList.Perm (List.range es.size)):(order.filterMap (es[·]?)).toList.Perm es.toList:=by
 rw[Array.toList_filterMap]
 have e:(List.range es.size).filterMap (es[·]?)=es.toList:=by
  have:es.toList=(List.range es.size).filterMap (es.toList[·]?):=by
   rw[<-Array.length_toList]
   generalize es.toList=l
   induction l with
   |nil=>rfl
   |cons x l ih=>
    rw[List.length_cons,List.range_succ_eq_map,List.filterMap_cons,List.filterMap_map]
    show x::l=x::_
    congr 1
  conv=>rhs;rw[this]
  simp
 rw[<-e]
 exact hp.filterMap _
theorem zfr {b:Bool}{a:Addr}{o:Obj}{es:Array (Int×Value)}{ep:Nat}{t:SetTable}{x:Value}{h:Int}{Q:SetFound->Shared->Prop}(ho:s.heap.get? a=some o)(hd:o.data=.set es ep t)(T:Tb t es.size)(hne:∀e∈es.toList,e.1≠h)
  (q:∀j,j∉t.place.toList->Q (.free j false) s):wpAny (model prog w) A (setSearch a x h b) Q E s:=by
 unfold setSearch setSearchFrom
 refine wpAny_bind (wpAny_setState_of ho hd T.fits ?_)
 dsimp only
 rw[T.odd]
 simp only[Bool.false_eq_true,if_false]
 have hn:∀i,i<es.size->(((es[i]?.map (·.1)).getD 0)==h)=false:=fun i hi=>by
  rw[Array.getElem?_eq_getElem hi]
  exact beq_eq_false_iff_ne.mpr (hne _ (by simpa using Array.getElem_mem_toList hi))
 obtain⟨j,e,hj⟩:=zdW (hashAt:=fun i=>(es[i]?.map (·.1)).getD 0) (h:=h) T hn
 refine wpAny_bind (wpAny_pure ?_)
 generalize hg:t.probe _ h _=r
 have er:r=some (.empty j none):=by
  rw[<-hg]
  exact e
 subst er
 exact wpAny_pure (q j hj)
end
noncomputable def TupX (X:List Addr)(h:Heap)(v:Value)(ns:List Int):Prop:=∃a o xs m,v=.ref a/\a∉X/\h.get? a=some o/\o.cls=.type "tuple" /\o.data=.seq xs m/\IntsAre xs.toList ns
theorem TupX.keep {X:List Addr}{h h':Heap}{v:Value}{ns:List Int}(x:TupX X h v ns)(k:∀b o,b∉X->h.get? b=some o->h'.get? b=some o):TupX X h' v ns:=by
 obtain⟨a,o,xs,m,e,hx,ho,r⟩:=x
 exact⟨a,o,xs,m,e,hx,k a o hx ho,r⟩
theorem zdX {prog:Program}{w:World}:∀{vs:List Value} {ns:List Int},IntsAre vs ns->ItemsAre (intKind prog w) ns vs:=by
 intro vs ns h
 induction h with
 |nil=>exact .nil
 |cons x t _ ih=>exact .cons (by show Value.isInt x (.int x t)=true;simp[Value.isInt]) ih
noncomputable def hT (ns:List Int):Int:=reduceHash (Builtin.Tuple.tupleHashOf (ns.map hashInt))
section
variable {prog:Program}{w:World}{A:Around}{E:Value->Shared->Prop}{s:Shared}
theorem zly {X:List Addr}{v:Value}{ns:List Int}{Q:Bool->Shared->Prop}(x:TupX X s.heap v ns)(q:Q true s):wpAny (model prog w) A (hashByValue 8 v) Q E s:=by
 obtain⟨a,o,xs,m,rfl,_,ho,hc,hd,hi⟩:=x
 unfold hashByValue
 refine wpAny_bind (wpAny_specialOf ⟨o,ho,hc⟩ F.slot_tuple_hash.lookup ?_)
 dsimp only
 refine wpAny_bind (wpAny_seqItems ho hd ?_)
 refine wpAny_bind ?_
 show wpAny _ _ (forIn xs _ _) _ _ s
 rw[<-Array.forIn_toList]
 refine wpAny_forIn_list _ (fun rest r s'=>r.1=none/\s'=s/\∃ms,IntsAre rest ms) _ ?_ ?_ _ _ ⟨rfl,rfl,ns,hi⟩
 ·rintro v rest r s' ⟨hr,rfl,ms,hms⟩
  cases hms with
  |cons n t hms'=>
   have e:∀k,hashByValue k (.int n t)=pure true:=fun k=>by cases k<;>rfl
   rw[e]
   refine wpAny_bind (wpAny_pure ?_)
   simp only[Bool.not_true,Bool.false_eq_true,if_false]
   exact wpAny_pure ⟨rfl,rfl,_,hms'⟩
 ·rintro ⟨r1,r2⟩ s' ⟨hr,rfl,_⟩
  simp only at hr
  subst hr
  exact wpAny_pure q
theorem zjX {X:List Addr}{v:Value}{ns:List Int}{Q:Int->Shared->Prop}(hu:A.units<cLine)(x:TupX X s.heap v ns)(q:∀tk,s.toks<=tk->Q (hT ns) {s with toks:=tk}):wpAny (model prog w) A (pyHash v) Q E s:=by
 obtain⟨a,o,xs,m,rfl,_,ho,hc,hd,hi⟩:=x
 exact (tupleKind (intKind prog w)).pyHash hu ⟨o,xs,m,ho,hc,hd,zdX hi⟩ (q _ (Nat.le_add_right _ _))
end
section
variable {prog:Program}{w:World}{A:Around}{R:Result->Shared->Prop}{I:Addr}{fp wr:List Addr}{G:Array GenState->Array GenState->Prop}{n:Nat}{P:Nat->Value->Prop}{Sw:Nat->Shared->Prop}{b:Bool}
noncomputable def ents (items:Nat->Value)(ks:Nat->List Int)(i:Nat):List (Int×Value):=(List.range i).map fun j=>(hT (ks j),items j)
end
noncomputable def leads (w:World):Bool:= !w.params.followText "set-order"
noncomputable def za8 (w:World):Obj:={cls:=.type "set",dict:=none,data:=.set #[] 0 (.fresh 0 0 (leads w))}
section
variable {prog:Program}{w:World}{A:Around}{E:Value->Shared->Prop}{s:Shared}
theorem zgG (a:Value){Q₁:Value->Shared->Prop}(h:Q₁ (.ref s.heap.objs.size) {s with heap:=s.heap.push (za8 w)}):
  codeAny (model prog w) A (.call (.builtin "set.__new__") ⟨[.type "set",a],[]⟩) (wants Q₁ E) s:=by
 refine codeAny_of_tree ?_
 show wpAny _ A.in1 (do checkBuiltinCall "set.__new__" ⟨[.type "set",a],[]⟩;again (.builtin "set.__new__" ⟨[.type "set",a],[]⟩)) _ _ s
 refine wpAny_bind (wpAny_of_eq (F.newCall_set_1 a) (wpAny_pure ⟨plainId_quiet F.plain_set_new _,codeAny_builtin F.entry_set_new ?_⟩))
 rw[Around.under_plainId F.plain_set_new _]
 unfold Builtin.«set.__new__» Builtin.Frozenset.newClass
 have hsub:=sub_set_self
 obtain⟨hp,g,d,tk,os⟩:=s
 dsimp only
 wp_walk
 refine wpAny_askSetting (wpAny_pure ?_)
 dsimp only
 simp only[newObj]
 refine wpAny_bind (wpAny_alloc (wpAny_pure ?_))
 exact wpAny_pure h
theorem zg9 {h:Heap}{a:Addr}(e:h.get? a=some (za8 w)):SetH (leads w) h a []:=
 ⟨_,#[],0,_,e,⟨rfl,rfl,rfl⟩,rfl,⟨rfl,rfl,.nil,show 7∈zcn by decide,Nat.zero_le _⟩,show 0*5<7*3 by decide,rfl,rfl,.nil⟩
end
theorem zdE:entryFor table "set.__iter__" =some Builtin.«frozenset.__iter__»:=entryFor_alias (id':= "frozenset.__iter__") (by kernel_rfl) rfl (by decide+kernel) (by kernel_rfl)
theorem slot_sit_next:Slot "set_iterator" "__next__" "set_iterator.__next__" :=
 .of (owner:= "set_iterator") (n:= "__next__") (by rw[typeLookup_type,builtinLookup_eq_fast];kernel_rfl) (by decide+kernel) (by decide+kernel) (by decide+kernel)
  (by first|exact .inl (by decide+kernel)|exact .inr (by decide+kernel)) (by rw[isSubtype_type];kernel_rfl)
theorem zcE:Slot "set_iterator" "__iter__" "set_iterator.__iter__" :=
 .of (owner:= "set_iterator") (n:= "__iter__") (by rw[typeLookup_type,builtinLookup_eq_fast];kernel_rfl) (by decide+kernel) (by decide+kernel) (by decide+kernel)
  (by first|exact .inl (by decide+kernel)|exact .inr (by decide+kernel)) (by rw[isSubtype_type];kernel_rfl)
theorem zcd:entryFor table "set_iterator.__next__" =some Builtin.«set_iterator.__next__»:=entryFor_of_tree (by kernel_rfl)
theorem zdF:entryFor table "set_iterator.__iter__" =some Builtin.«dict_keyiterator.__iter__»:=entryFor_alias (id':= "dict_keyiterator.__iter__") (by kernel_rfl) rfl (by decide+kernel) (by kernel_rfl)
theorem zfs:Manifest.owners.lookup (String.ofList ['r', 'o', 't', 'a', 'r', 'e', 't', 'i', '_', 't', 'e', 's'].reverse)=some Manifest.sig_set_iterator:=by kernel_rfl
theorem zcF (a:Value):argsOk "set_iterator.__next__" ⟨[a],[]⟩:=by
 unfold argsOk;rw[signature?_of (id:= "set_iterator.__next__") (n:=['_', '_', 't', 'x', 'e', 'n', '_', '_']) (o:=['r', 'o', 't', 'a', 'r', 'e', 't', 'i', '_', 't', 'e', 's']) (by kernel_rfl) zfs];kernel_rfl
theorem zeD (a:Value):argsOk "set_iterator.__iter__" ⟨[a],[]⟩:=by
 unfold argsOk;rw[signature?_of (id:= "set_iterator.__iter__") (n:=['_', '_', 'r', 'e', 't', 'i', '_', '_']) (o:=['r', 'o', 't', 'a', 'r', 'e', 't', 'i', '_', 't', 'e', 's']) (by kernel_rfl) zfs];kernel_rfl
theorem ziP {α:Type}:∀{l:List α} {i:Nat} (h:i<l.length),(l[i]::l.eraseIdx i).Perm l
 |x::l,0,_=>List.Perm.refl _
 |x::l,i+1,h=>by
  have:=ziP (l:=l) (i:=i) (by simpa using h)
  exact (List.Perm.swap _ _ _).trans (this.cons x)
theorem zft {α:Type}(next:Nat->Nat):∀(fuel k:Nat) (left:List α) (out:Array α),left.length<=fuel->(pickOrder.go next fuel k left out).toList.Perm (out.toList++left)
 |0,k,left,out,h=>by
  have:left=[]:=List.length_eq_zero_iff.mp (by lia)
  subst this
  rw[List.append_nil]
  exact List.Perm.refl _
 | fuel+1,k,left,out,h=>by
  unfold pickOrder.go
  cases e:left[next k%left.length]? with
  | none=>
   have:left=[]:=by
    rcases left with _|⟨x,l⟩
    ·rfl
    ·rw [List.getElem?_eq_getElem (Nat.mod_lt _ (by simp))] at e
     cases e
   subst this
   rw[List.append_nil]
  | some x=>
   obtain⟨hi,hx⟩:=List.getElem?_eq_some_iff.mp e
   refine (zft next fuel (k+1) _ _ ?_).trans ?_
   ·rw [List.length_eraseIdx_of_lt hi]
    lia
   ·rw [Array.toList_push,List.append_assoc]
    refine List.Perm.append_left _ ?_
    rw[<-hx]
    exact ziP hi
noncomputable def wkO (w:World)(S:Addr)(ep:Nat)(es:Array (Int×Value)):Array (Int×Value):=if leads w=true then es else pickOrder (w.params.setOrder S ep) es
theorem wk_perm {w:World}{S:Addr}{ep:Nat}{es:Array (Int×Value)}:(wkO w S ep es).toList.Perm es.toList:=by
 unfold wkO
 split
 ·exact List.Perm.refl _
 ·unfold pickOrder
  have:=zft (w.params.setOrder S ep) es.size 0 es.toList #[] (by simp)
  simpa using this
theorem wk_size {w:World}{S:Addr}{ep:Nat}{es:Array (Int×Value)}:(wkO w S ep es).size=es.size:=by
 rw[<-Array.length_toList,wk_perm.length_eq,Array.length_toList]
noncomputable def slAt (w:World)(t:SetTable)(i:Nat):Nat:=if leads w=true then (if i=0 then 0 else t.place.getD (i-1) 0+1) else 0
noncomputable def itOb (w:World)(S:Addr)(n ep:Nat)(t:SetTable)(i:Nat):Obj:={cls:=.type "set_iterator",dict:=none,data:=.fields #[.int (slAt w t i) 0,.int i 0,.ref S,.int n 0,.int ep 0],slots:=#[]}
section
variable {prog:Program}{w:World}{A:Around}{E:Value->Shared->Prop}{s:Shared}{S I:Addr}{o:Obj}{es:Array (Int×Value)}{ep:Nat}{t:SetTable}
theorem zlz (T:Tb t es.size){i:Nat}(hi:i<es.size)(hl:leads w=true):SetTable.below t.place (slAt w t i)=i:=by
 unfold slAt
 rw[if_pos hl]
 rcases Nat.eq_zero_or_pos i with e|e
 ·rw [if_pos e,e]
  exact zdV T.rise
 ·rw [if_neg (by lia)]
  have hj:i-1<t.place.size:=by rw[T.size];lia
  have:=zdU T.rise (i:=i-1) (Array.getElem?_eq_getElem hj)
  rw[Array.getD_eq_getD_getElem?,Array.getElem?_eq_getElem hj]
  show SetTable.below t.place (t.place[i-1]+1)=i
  rw[this]
  lia
theorem zha {i:Nat}{e:Int×Value}{Q:Option (Value×Nat)->Shared->Prop}(ho:s.heap.get? S=some o)(hd:o.data=.set es ep t)(T:Tb t es.size)(hp:t.plain=true)(hb:t.led=leads w)(hx:(wkO w S ep es)[i]? =some e)
  (q:Q (some (e.2,slAt w t (i+1))) s):wpAny (model prog w) A (setNext S (slAt w t i) i ep) Q E s:=by
 obtain⟨hi,_⟩:=Array.getElem?_eq_some_iff.mp hx
 rw[wk_size] at hi
 unfold setNext
 refine wpAny_bind (wpAny_setState_of ho hd T.fits ?_)
 dsimp only
 unfold setsByText
 refine wpAny_bind (wpAny_bind (wpAny_askSetting (wpAny_pure ?_)))
 show wpAny _ _ (if w.params.followText "set-order" =true then _ else _) _ _ s
 cases hf:w.params.followText "set-order" with
 | true=>
  have hl:leads w=false:=by unfold leads;rw[hf];rfl
  simp only[if_true,bne_self_eq_false,Bool.false_eq_true,if_false]
  refine wpAny_bind ?_
  unfold setWalk
  refine wpAny_bind (wpAny_setState_of ho hd T.fits ?_)
  dsimp only
  unfold setsByText
  refine wpAny_bind (wpAny_bind (wpAny_askSetting (wpAny_pure ?_)))
  show wpAny _ _ (if w.params.followText "set-order" =true then _ else _) _ _ s
  rw[hf]
  simp only[if_true]
  refine wpAny_bind (wpAny_askSetting (wpAny_pure (wpAny_pure ?_)))
  have ew:wkO w S ep es=pickOrder (w.params.setOrder S ep) es:=if_neg (by rw[hl];exact Bool.false_ne_true)
  rw[ew] at hx
  show Q (((pickOrder (w.params.setOrder S ep) es)[i]?).map fun e=>(e.2,slAt w t i)) s
  rw[hx]
  have es1:slAt w t i=slAt w t (i+1):=by
   unfold slAt
   rw[if_neg (by rw[hl];exact Bool.false_ne_true),if_neg (by rw[hl];exact Bool.false_ne_true)]
  rw[es1]
  exact q
 | false=>
  have hl:leads w=true:=by unfold leads;rw[hf];rfl
  have ew:wkO w S ep es=es:=if_pos hl
  rw[ew] at hx
  rw[hl] at hb
  simp only[Bool.false_eq_true,if_false]
  have hn:=zlz (w:=w) T hi hl
  have hsl:∀j,t.place[i]? =some j->slAt w t (i+1)=j+1:=fun j hj=>by
   unfold slAt
   rw[if_pos hl,if_neg (by lia),Nat.add_sub_cancel,Array.getD_eq_getD_getElem?,hj]
   rfl
  obtain⟨pj,hpl⟩:∃pj,t.place[i]? =some pj:=⟨_,Array.getElem?_eq_getElem (by rw[T.size];exact hi)⟩
  rw[hsl _ hpl] at q
  generalize slAt w t i=sl at hn ⊢
  obtain⟨mk,pl,du,fi,ld,mv,pn⟩:=t
  simp only at hp hb hn hpl q
  subst hp hb
  refine wpAny_ite_split (fun hab=>absurd (show false=true from hab) Bool.false_ne_true) (fun _=> ?_)
  refine wpAny_bind (wpAny_of_eq (a:=()) rfl (wpAny_pure ?_))
  dsimp only
  rw[hn,hx,hpl]
  exact q
theorem zeE {Q:Option (Value×Nat)->Shared->Prop}(ho:s.heap.get? S=some o)(hd:o.data=.set es ep t)(T:Tb t es.size)(hp:t.plain=true)(hb:t.led=leads w)
  (q:Q none s):wpAny (model prog w) A (setNext S (slAt w t es.size) es.size ep) Q E s:=by
 unfold setNext
 refine wpAny_bind (wpAny_setState_of ho hd T.fits ?_)
 dsimp only
 unfold setsByText
 refine wpAny_bind (wpAny_bind (wpAny_askSetting (wpAny_pure ?_)))
 show wpAny _ _ (if w.params.followText "set-order" =true then _ else _) _ _ s
 cases hf:w.params.followText "set-order" with
 |true=>
  have hl:leads w=false:=by unfold leads;rw[hf];rfl
  simp only[if_true,bne_self_eq_false,Bool.false_eq_true,if_false]
  refine wpAny_bind ?_
  unfold setWalk
  refine wpAny_bind (wpAny_setState_of ho hd T.fits ?_)
  dsimp only
  unfold setsByText
  refine wpAny_bind (wpAny_bind (wpAny_askSetting (wpAny_pure ?_)))
  show wpAny _ _ (if w.params.followText "set-order" =true then _ else _) _ _ s
  rw[hf]
  simp only[if_true]
  refine wpAny_bind (wpAny_askSetting (wpAny_pure (wpAny_pure ?_)))
  have ew:wkO w S ep es=pickOrder (w.params.setOrder S ep) es:=if_neg (by rw[hl];exact Bool.false_ne_true)
  have hz:=wk_size (w:=w) (S:=S) (ep:=ep) (es:=es)
  rw[ew] at hz
  show Q (((pickOrder (w.params.setOrder S ep) es)[es.size]?).map fun e=>(e.2,slAt w t es.size)) s
  rw[Array.getElem?_eq_none (by lia)]
  exact q
 | false=>
  have hl:leads w=true:=by unfold leads;rw[hf];rfl
  rw[hl] at hb
  simp only[Bool.false_eq_true,if_false]
  have hn:SetTable.below t.place (slAt w t es.size)=es.size:=by
   unfold slAt
   rw[if_pos hl]
   rcases Nat.eq_zero_or_pos es.size with e|e
   ·rw [if_pos e,e]
    exact zdV T.rise
   ·rw [if_neg (by lia)]
    have hj:es.size-1<t.place.size:=by rw[T.size];lia
    have:=zdU T.rise (i:=es.size-1) (Array.getElem?_eq_getElem hj)
    rw[Array.getD_eq_getD_getElem?,Array.getElem?_eq_getElem hj]
    show SetTable.below t.place (t.place[es.size-1]+1)=es.size
    rw[this]
    lia
  generalize slAt w t es.size=sl at hn ⊢
  obtain⟨mk,pl,du,fi,ld,mv,pn⟩:=t
  simp only at hp hb hn
  subst hp hb
  refine wpAny_ite_split (fun hab=>absurd (show false=true from hab) Bool.false_ne_true) (fun _=> ?_)
  refine wpAny_bind (wpAny_of_eq (a:=()) rfl (wpAny_pure ?_))
  dsimp only
  rw[hn,Array.getElem?_eq_none (Nat.le_refl _)]
  exact q
theorem zf6 {Q:Bool->Shared->Prop}(ho:s.heap.get? S=some o)(hd:o.data=.set es ep t)(T:Tb t es.size)(hp:t.plain=true)(q:Q false s):wpAny (model prog w) A (setDrawn S) Q E s:=by
 unfold setDrawn
 refine wpAny_bind (wpAny_setState_of ho hd T.fits ?_)
 dsimp only
 unfold setsByText
 refine wpAny_bind (wpAny_bind (wpAny_askSetting (wpAny_pure (wpAny_pure ?_))))
 obtain⟨mk,pl,du,fi,ld,mv,pn⟩:=t
 simp only at hp
 subst hp
 generalize (Setting.mk (model prog w).prog (model prog w).w.params).params.followText "set-order" =b
 cases b
 ·exact q
 ·exact q
theorem zjY {Q:Value->Shared->Prop}(ho:s.heap.get? S=some o)(hex:o.ExactSet)(hd:o.data=.set es ep t)(T:Tb t es.size)(hp:t.plain=true)
  (q:Q (.ref s.heap.objs.size) {s with heap:=s.heap.push (itOb w S es.size ep t 0)}):wpAny (model prog w) A (pyIter (.ref S)) Q E s:=by
 have hT0:s.TypeIs (.ref S) "set" :=⟨o,ho,hex.1⟩
 refine wpAny_pyIter_slot hT0 F.slot_set_iter (wpAny_call_entry F.slot_set_iter hT0 zdE ?_ (F.args_set_iter_1 _))
 unfold Builtin.«frozenset.__iter__»
 refine wpAny_bind (wpAny_of_eq (a:=S) rfl ?_)
 refine wpAny_bind ?_
 unfold Builtin.Frozenset.sizeOf
 refine wpAny_bind (wpAny_setEntries_of ho hd T.fits (wpAny_pure ?_))
 refine wpAny_bind (zf6 ho hd T hp ?_)
 simp only[Bool.false_eq_true,if_false]
 refine wpAny_bind (wpAny_pure ?_)
 refine wpAny_bind (wpAny_setEpoch_of ho hd T.fits ?_)
 have hs:slAt w t 0=0:=by unfold slAt;split<;>rfl
 refine wpAny_bind (wpAny_newObj_type (wpAny_pure ⟨_,rfl, "set_iterator",_,⟨_,Heap.get?_push_size _ rfl,rfl⟩,slot_sit_next.lookup, ?_⟩))
 unfold itOb at q
 rw[hs] at q
 simpa [rawInt] using q
theorem zjZ {i:Nat}{e:Int×Value}{Q:Option Value->Shared->Prop}(hit:s.heap.get? I=some (itOb w S es.size ep t i))(hSI:S≠I)(ho:s.heap.get? S=some o)(hd:o.data=.set es ep t)(T:Tb t es.size)(hp:t.plain=true)(hb:t.led=leads w)(hx:(wkO w S ep es)[i]? =some e)
  (q:∀h',h'.get? I=some (itOb w S es.size ep t (i+1))->Heap.SameBut I s.heap h'->Q (some e.2) {s with heap:=h'}):wpAny (model prog w) A (pyNext (.ref I)) Q E s:=by
 have tI:s.TypeIs (.ref I) "set_iterator" :=⟨_,hit,rfl⟩
 unfold pyNext
 refine wpAny_bind (wpAny_attempt (wpAny_callSpecial?_slot (name:=Str.ofString "__next__") tI slot_sit_next (wpAny_call_entry slot_sit_next tI zcd ?_ (zcF _))))
 unfold Builtin.«set_iterator.__next__»
 refine wpAny_bind (wpAny_pure (wpAny_bind (wpAny_fieldsOf hit rfl ?_)))
 dsimp only
 refine wpAny_bind (wpAny_setEntries_of ho hd T.fits ?_)
 rw[if_neg (by simp)]
 refine wpAny_bind (zha ho hd T hp hb hx ?_)
 dsimp only
 refine wpAny_bind (wpAny_setField_rec hit (by simp) fun h1 (e1:_) (k1:Heap.SameBut I s.heap h1)=> ?_)
 refine wpAny_bind (wpAny_setField_rec e1 (by simp) fun h2 (e2:_) (k2:Heap.SameBut I h1 h2)=> ?_)
 have e3:h2.get? I=some (itOb w S es.size ep t (i+1)):=by
  unfold itOb
  rw[show ((i+1:Nat):Int)=(i:Int)+1 by lia]
  simpa [rawInt] using e2
 exact wpAny_pure ⟨_,rfl,wpAny_pure (q h2 e3 (k1.trans k2))⟩
theorem zlA {Q:Option Value->Shared->Prop}(hh:A.handled=none)(hit:s.heap.get? I=some (itOb w S es.size ep t es.size))(ho:s.heap.get? S=some o)(hd:o.data=.set es ep t)(T:Tb t es.size)(hp:t.plain=true)(hb:t.led=leads w)
  (q:∀h',Heap.ExtBut I s.heap h'->Q none {s with heap:=h'}):wpAny (model prog w) A (pyNext (.ref I)) Q E s:=by
 have tI:s.TypeIs (.ref I) "set_iterator" :=⟨_,hit,rfl⟩
 unfold pyNext
 refine wpAny_bind (wpAny_attempt (wpAny_callSpecial?_slot (name:=Str.ofString "__next__") tI slot_sit_next (wpAny_call_entry slot_sit_next tI zcd ?_ (zcF _))))
 unfold Builtin.«set_iterator.__next__»
 refine wpAny_bind (wpAny_pure (wpAny_bind (wpAny_fieldsOf hit rfl ?_)))
 dsimp only
 refine wpAny_bind (wpAny_setEntries_of ho hd T.fits ?_)
 rw[if_neg (by simp)]
 refine wpAny_bind (zeE ho hd T hp hb ?_)
 dsimp only
 refine wpAny_bind (wpAny_setField hit rfl (by simp) ?_)
 refine wpAny_bind ?_
 simp only[newExc,newTuple]
 refine wpAny_bind (wpAny_newObj_type (wpAny_bind (m:=firstArgMember _ _) (wpAny_of_eq (a:=Value.none) (by first|rfl|(simp only[firstArgMember];rfl)) (wpAny_newObj_type ?_ (by size_fits)))) (by size_fits))
 simp only[raiseNew]
 refine wpAny_bind (wpAny_handled ?_)
 rw[show A.in1.handled=none from hh]
 refine wpAny_bind (wpAny_pure (wpAny_throw ?_))
 refine wpAny_bind (wpAny_isInstance (T:= "StopIteration") (b:=true) ⟨_,Heap.get?_push_size _ rfl,rfl⟩ isSubtype_stop (wpAny_pure ?_))
 exact q _ (((Heap.SameBut.update ..).extBut.push _).push _)
theorem zj0 {i:Nat}{Q:Value->Shared->Prop}(hit:s.heap.get? I=some (itOb w S es.size ep t i))(q:Q (.ref I) s):wpAny (model prog w) A (pyIter (.ref I)) Q E s:=by
 have tI:s.TypeIs (.ref I) "set_iterator" :=⟨_,hit,rfl⟩
 refine wpAny_pyIter_slot tI zcE (wpAny_call_entry zcE tI zdF ?_ (zeD _))
 show wpAny _ _ (ret (.ref I)) _ _ s
 exact wpAny_pure ⟨_,rfl, "set_iterator",_,tI,slot_sit_next.lookup,q⟩
theorem zj1 (hT0:s.TypeIs (.ref S) "set"){Q:Bool->Shared->Prop}(h:Q false s):wpAny (model prog w) A (Builtin.List.listLengthHint (.ref S)) Q E s:=by
 unfold Builtin.List.listLengthHint
 refine wpAny_bind (wpAny_specialOf hT0 F.slot_set_len.lookup ?_)
 generalize hid:("set.__len__" :String)=id0
 wp_delta
 rw[show splitId id0=some ("set", "__len__") from by subst hid;decide+kernel]
 subst hid
 refine wpAny_bind (wpAny_isInstance (T:= "set") (b:=true) hT0 (by rw[isSubtype_type];kernel_rfl) ?_)
 refine wpAny_ite_split (fun hab=>absurd hab (by decide)) (fun _=> ?_)
 refine wpAny_ite_split (fun _=> ?_) (fun hab=>absurd (by decide+kernel) hab)
 refine wpAny_bind (wpAny_typeOf hT0 ?_)
 exact wpAny_pure h
end
theorem ziQ {prog:Program}{w:World}{A:Around}(hh:A.handled=none){I S:Addr}(hne:S≠I){o:Obj}{es:Array (Int×Value)}{ep:Nat}{t:SetTable}(hd:o.data=.set es ep t)(T:Tb t es.size)(hp:t.plain=true)(hb:t.led=leads w):
  Walks prog w A I [I,S] [I] es.size (fun i v=>∃e,(wkO w S ep es)[i]? =some e/\v=e.2) (fun i h=>h.get? I=some (itOb w S es.size ep t i)/\h.get? S=some o) where
 sub:=fun b hb=>by simp at hb;simp[hb]
 frame:=fun _ _ _ st hk=>⟨hk I (by simp) _ st.1,hk S (by simp) _ st.2⟩
 item:=fun i s Q E hi st hQ=>by
  obtain⟨e,hx⟩:∃e,(wkO w S ep es)[i]? =some e:=⟨_,Array.getElem?_eq_getElem (by rw[wk_size];exact hi)⟩
  refine zjZ st.1 hne st.2 hd T hp hb hx fun h' hit' hs'=> ?_
  exact hQ _ h' s.toks ⟨_,hx,rfl⟩ ⟨hit',hs'.extBut S _ hne st.2⟩ fun b o hb e=>hs'.extBut b o (fun h=>hb (by simp[h])) e
 done:=fun s Q E st hQ=>zlA hh st.1 st.2 hd T hp hb fun h' he'=>hQ h' s.toks fun b o hb e=>he' b o (fun h=>hb (by simp[h])) e
 self:=fun _ _ _ _ st hQ=>zj0 st.1 hQ
theorem set_src {prog:Program}{w:World}{S:Addr}{o:Obj}{es:Array (Int×Value)}{ep:Nat}{t:SetTable}(hex:o.ExactSet)(hd:o.data=.set es ep t)(T:Tb t es.size)(hp:t.plain=true)(hb:t.led=leads w):
  PySem.W.KdlSrc prog w "set" S S es.size (fun i v=>∃e,(wkO w S ep es)[i]? =some e/\v=e.2) (fun h=>h.get? S=some o) where
 type:=fun _ hm=>⟨o,hm,hex.1⟩
 there:=fun _ hm=>⟨Heap.lt_size hm,Heap.lt_size hm⟩
 keep:=fun _ _ hm hk=>hk S (.inl rfl) _ hm
 notList:=by decide
 notTuple:=by decide
 hint:=fun _ _ _ _ hm hq=>zj1 ⟨o,hm,hex.1⟩ hq
 iter:=fun _ _ hh hm=>⟨_,_,(fun _ _ hq=>zjY hm hex hd T hp hq),ziQ hh (Nat.ne_of_lt (Heap.lt_size hm)) hd T hp hb,⟨Heap.get?_push_size _ rfl,Heap.get?_push_of_some _ hm⟩⟩
noncomputable def SetI (b:Bool)(h:Heap)(a:Addr)(ks:List Int):Prop:=∃L,SetH b h a L/\ks.Nodup/\Paired (fun (k:Int) (e:Int×Value)=>e.1=hashInt k/\∃t,e.2=.int k t) ks L
theorem SetI.keep {b:Bool}{h h':Heap}{a:Addr}{ks:List Int}(x:SetI b h a ks)(e:∀o,h.get? a=some o->h'.get? a=some o):SetI b h' a ks:=by
 obtain⟨L,h1,r⟩:=x
 exact⟨L,h1.keep e,r⟩
theorem ziR {α β:Type}{F:α->β->Prop}:∀{l1 l2:List α} {v1 v2:List β},Paired F l1 v1->Paired F l2 v2->Paired F (l1++l2) (v1++v2)
 |_,_,_,_,.nil,h=>h
 |_,_,_,_,.cons r t,h=>.cons r (ziR t h)
theorem ziS {α β:Type}{F:α->β->Prop}:∀{l:List α} {v:List β},Paired F l v->∀e∈v,∃a∈l,F a e
 |_,_,.nil,_,h=>by cases h
 | _,_,.cons (a:=a) r t,e,h=>by
  rcases List.mem_cons.mp h with rfl|h
  ·exact⟨a,List.mem_cons_self,r⟩
  ·obtain ⟨x,h1,h2⟩:=ziS t e h
   exact⟨x,List.mem_cons_of_mem _ h1,h2⟩
theorem zgH {α β:Type}{F:α->β->Prop}:∀{l:List α} {v:List β},Paired F l v->∀a∈l,∃e∈v,F a e
 |_,_,.nil,_,h=>by cases h
 | _,_,.cons (b:=e) r t,a,h=>by
  rcases List.mem_cons.mp h with rfl|h
  ·exact⟨e,List.mem_cons_self,r⟩
  ·obtain ⟨x,h1,h2⟩:=zgH t a h
   exact⟨x,List.mem_cons_of_mem _ h1,h2⟩
theorem zj2 {m:Nat}{t:SetTable}{es:Array (Int×Value)}(T:Tb t es.size)(m1:SetTable.sizeAbove m-1∈zcn)(m2:es.size<=SetTable.sizeAbove m-1):
  ∃es2 t2,relayAll t es m=(es2,t2,false)/\es2.toList.Perm es.toList/\Tb t2 es2.size/\t2.led=t.led/\t2.plain=t.plain/\t2.mask=SetTable.sizeAbove m-1:=by
 obtain⟨t2,order,l1,l2,l3,l4,l5,l6⟩:=zlx m1 t.finger (t.movedTo (SetTable.sizeAbove m-1)) t.led t.plain (es.map (·.1)) (by rw[Array.size_map];exact m2)
 rw[Array.size_map] at l2 l6
 have P2:=ziO (es:=es) l6
 have e2:(order.filterMap (es[·]?)).size=es.size:=by rw[<-Array.length_toList,P2.length_eq,Array.length_toList]
 have l2':Tb t2 (order.filterMap (es[·]?)).size:=by rw[e2];exact l2
 refine⟨order.filterMap (es[·]?),t2, ?_,P2,l2',l3,l4,l5⟩
 unfold relayAll
 have lr:t.relaid (es.map (·.1)) m=some (t2,order):=l1
 rw[lr]
 dsimp only
 have hc:coversAll order es.size=true:=by
  unfold coversAll
  rw[List.isPerm_iff]
  exact l6
 rw[hc,l2'.fits]
 rfl
section
variable {prog:Program}{w:World}{A:Around}{E:Value->Shared->Prop}{s:Shared}
theorem zlB {b:Bool}{a:Addr}{ks:List Int}{k:Int}{tk0:Tok}{Q:Bool->Shared->Prop}(hS:SetI b s.heap a ks)(hl:ks.length+1<=1200)
  (q:∀r h',Heap.SameBut a s.heap h'->SetI b h' a (if k∈ks then ks else ks++[k])->Q r {s with heap:=h'}):wpAny (model prog w) A (setAddHashed a (.int k tk0) (hashInt k)) Q E s:=by
 obtain⟨L,⟨o,es,ep,t,ho,hex,hd,T,hf,hp,hb,hL⟩,nd,pr⟩:=hS
 have hes:es.size=ks.length:=by rw[<-Array.length_toList,hL.length_eq,Paired.length pr]
 have hent:∀e∈es.toList,∃x∈ks,e.1=hashInt x/\∃t,e.2=.int x t:=fun e he=>ziS pr e (hL.mem_iff.mp he)
 have hel:ElemsOf (intKind prog w) es.toList:=fun e he=>by
  obtain⟨x,_,h1,t',h2⟩:=hent e he
  refine⟨⟨x, ?_,h1⟩, ?_⟩
  ·rw [h2]
   exact intKind_is _ _ _ _
  ·rw [h2]
   rfl
 have hbd:es.size<scanBound:=by
  unfold scanBound
  lia
 unfold setAddHashed setAddHashedIn
 refine wpAny_holding (wpAny_bind (wpAny_setState_of ho hd T.fits ?_))
 dsimp only
 rw[byScan_of (knd:=intKind prog w) (x:=.int k tk0) rfl hbd hel]
 simp only[↓reduceIte]
 unfold setAddByScan
 refine wpAny_bind ?_
 refine wpAny_bind (wpAny_rule ?_)
 refine wpAny_bind (wpAny_setScan_of (knd:=intKind prog w) (k:=k) (intKind_is _ _ _ _) ho hd T.fits hel ?_)
 cases hr:List.findIdx? (fun e=>(intKind prog w).is k e.2) es.toList with
 | some j=>
  dsimp only
  obtain⟨hj,hpj,_⟩:=List.findIdx?_eq_some_iff_getElem.mp hr
  have hk:k∈ks:=by
   obtain⟨x,hx,_,t',h2⟩:=hent _ (List.getElem_mem hj)
   rw[h2] at hpj
   have:=(intKind prog w).inj _ k x hpj (intKind_is _ _ _ _)
   rw[this]
   exact hx
  refine wpAny_pure (wpAny_pure ?_)
  have:=q false s.heap (Heap.SameBut.refl a s.heap) (by rw[if_pos hk];exact⟨L,⟨o,es,ep,t,ho,hex,hd,T,hf,hp,hb,hL⟩,nd,pr⟩)
  exact this
 | none=>
  dsimp only
  have hk:k∉ks:=fun hk=>by
   obtain⟨e,he,_,t',h2⟩:=zgH pr k hk
   have:=List.findIdx?_eq_none_iff.mp hr e (hL.mem_iff.mpr he)
   rw[h2,intKind_is] at this
   cases this
  have q:=q true
  rw[if_neg hk] at q
  obtain⟨j,ej,hj⟩:=zdW (t:=t) (hashAt:=fun _=>hashInt k+1) (h:=hashInt k) T (fun i _=>beq_eq_false_iff_ne.mpr (by lia))
  have hroom:es.size+1<=t.mask:=by
   have h7:∀m∈zcn,7<=m:=by decide
   have:=h7 _ T.mask
   lia
  have e1:(SetTable.insertAt es (SetTable.below t.place j) (hashInt k,Value.int k tk0)).size=es.size+1:=zc9 ..
  have T1:Tb {t with place:=SetTable.insertAt t.place (SetTable.below t.place j) j} (SetTable.insertAt es (SetTable.below t.place j) (hashInt k,Value.int k tk0)).size:=
   ⟨by rw[e1];show (SetTable.insertAt t.place _ j).size=_;rw[zc9,T.size],T.nod,zgE T.rise hj,T.mask,by rw[e1];exact hroom⟩
  have elay:layNew t es (hashInt k) (.int k tk0)=(SetTable.insertAt es (SetTable.below t.place j) (hashInt k,Value.int k tk0),{t with place:=SetTable.insertAt t.place (SetTable.below t.place j) j},false,false):=by
   unfold layNew SetTable.freeSlot
   rw[ej]
   dsimp only
   rw[zkC T.nod]
   dsimp only[Option.getD_none,Option.isSome_none]
   unfold SetTable.orStandIn
   rw[T1.fits]
   rfl
  rw[elay]
  dsimp only
  refine wpAny_bind (wpAny_of_eq (a:=()) rfl ?_)
  rw[if_pos hp]
  have P1:(SetTable.insertAt es (SetTable.below t.place j) (hashInt k,Value.int k tk0)).toList.Perm (L++[(hashInt k,.int k tk0)]):=(zeA ..).trans ((hL.cons _).trans (List.perm_append_singleton _ _).symm)
  have fin:∀h',SetH b h' a (L++[(hashInt k,.int k tk0)])->SetI b h' a (ks++[k]):=fun h' x=>⟨_,x,List.nodup_append.mpr ⟨nd,by simp,fun y hy z hz e=>hk (by rw[List.mem_singleton.mp hz] at e;rw[<-e];exact hy)⟩,ziR pr (.cons ⟨rfl,tk0,rfl⟩ .nil)⟩
  refine wpAny_bind (wpAny_of_eq (a:=true) rfl ?_)
  simp only[if_true]
  refine wpAny_bind (wpAny_storeSet_of ho hd ?_ (by rw[e1,sizeLine_eq];lia))
  have hg1:(s.heap.update a (Obj.putSet (SetTable.insertAt es (SetTable.below t.place j) (hashInt k,Value.int k tk0)) {t with place:=SetTable.insertAt t.place (SetTable.below t.place j) j})).get? a=some {o with data:=.set (SetTable.insertAt es (SetTable.below t.place j) (hashInt k,Value.int k tk0)) (ep+1) {t with place:=SetTable.insertAt t.place (SetTable.below t.place j) j}}:=by
   have:=Heap.get?_update_self (Obj.putSet (SetTable.insertAt es (SetTable.below t.place j) (hashInt k,Value.int k tk0)) {t with place:=SetTable.insertAt t.place (SetTable.below t.place j) j}) ho (by rw[putSet_of _ _ hd];rfl)
   rw[putSet_of _ _ hd] at this
   exact this
  have sb1:Heap.SameBut a s.heap (s.heap.update a (Obj.putSet (SetTable.insertAt es (SetTable.below t.place j) (hashInt k,Value.int k tk0)) {t with place:=SetTable.insertAt t.place (SetTable.below t.place j) j})):=Heap.SameBut.update ..
  generalize s.heap.update a (Obj.putSet (SetTable.insertAt es (SetTable.below t.place j) (hashInt k,Value.int k tk0)) {t with place:=SetTable.insertAt t.place (SetTable.below t.place j) j})=h1 at hg1 sb1 ⊢
  have hmask:({t with place:=SetTable.insertAt t.place (SetTable.below t.place j) j}:SetTable).mask=t.mask:=rfl
  have hpl:({t with place:=SetTable.insertAt t.place (SetTable.below t.place j) j}:SetTable).plain=true:=hp
  have hld:({t with place:=SetTable.insertAt t.place (SetTable.below t.place j) j}:SetTable).led=b:=hb
  generalize ({t with place:=SetTable.insertAt t.place (SetTable.below t.place j) j}:SetTable)=t1 at hg1 T1 hmask hpl hld ⊢
  generalize SetTable.insertAt es (SetTable.below t.place j) (hashInt k,Value.int k tk0)=es1 at e1 T1 P1 hg1 ⊢
  have hfill:t1.fill=es.size+1:=by
   unfold SetTable.fill
   rw[T1.nod,T1.size,e1]
   rfl
  by_cases c:(!false&&t1.tooFull)=true
  ·rw [if_pos c]
   have hfull:(es.size+1)*5≥t.mask*3:=by
    unfold SetTable.tooFull at c
    rw[hfill,hmask] at c
    simpa using c
   obtain⟨m1,m2,m3,m4⟩:=zg8 T.mask hf hfull (by lia)
   rw[<-e1] at m1 m2 m3
   obtain⟨es2,t2,er,p2,T2,r3,r4,r5⟩:=zj2 T1 m1 m2
   rw[er]
   dsimp only
   have e2:es2.size=es1.size:=by rw[<-Array.length_toList,p2.length_eq,Array.length_toList]
   refine wpAny_bind (wpAny_of_eq (a:=()) rfl ?_)
   refine wpAny_bind (wpAny_storeSet_of (s:={s with heap:=h1}) hg1 rfl ?_ (by rw[e2,e1,sizeLine_eq];lia))
   have hg2:(h1.update a (Obj.putSet es2 t2)).get? a=some {o with data:=.set es2 (ep+1+1) t2}:=by
    have:=Heap.get?_update_self (Obj.putSet es2 t2) hg1 (by rw[putSet_of _ _ rfl];rfl)
    rw[putSet_of (ep:=ep+1) (es:=es1) (t:=t1) _ _ rfl] at this
    exact this
   exact wpAny_pure (wpAny_pure (q _ (sb1.trans (Heap.SameBut.update ..)) (fin _ ⟨_,es2,_,t2,hg2,hex,rfl,T2,by rw[e2,r5];exact m3,by rw[r4,hpl],by rw[r3,hld],p2.trans P1⟩)))
  ·rw [if_neg c]
   have hnf:¬(es.size+1)*5≥t.mask*3:=fun g=>c (by
    unfold SetTable.tooFull
    rw[hfill,hmask]
    simpa using g)
   exact wpAny_pure (wpAny_pure (q h1 sb1 (fin _ ⟨_,es1,_,t1,hg1,hex,rfl,T1,by rw[e1,hmask];lia,hpl,hld,P1⟩)))
end
noncomputable def SetOf (b:Bool)(h:Heap)(a:Addr)(ns:List Int):Prop:=∃ks,SetI b h a ks/\(∀x,x∈ks↔x∈ns)/\ks.length<=ns.length
theorem SetOf.keep {b:Bool}{h h':Heap}{a:Addr}{ns:List Int}(x:SetOf b h a ns)(e:∀o,h.get? a=some o->h'.get? a=some o):SetOf b h' a ns:=by
 obtain⟨ks,h1,r⟩:=x
 exact⟨ks,h1.keep e,r⟩
theorem zf7 {w:World}{h:Heap}{a:Addr}(e:h.get? a=some (za8 w)):SetOf (leads w) h a []:=
 ⟨[],⟨[],zg9 e,.nil,.nil⟩,fun _=>Iff.rfl,Nat.le_refl _⟩
section
variable {prog:Program}{w:World}{A:Around}{R:Result->Shared->Prop}{I:Addr}{fp wr:List Addr}{G:Array GenState->Array GenState->Prop}{n:Nat}{P:Nat->Value->Prop}{Sw:Nat->Shared->Prop}{b:Bool}
theorem ziT (W:WalksS prog w A.in1 I fp wr G n P Sw)(S:Addr)(hSf:S∉fp)(ns:List Int)(hln:ns.length=n)(hv:∀i v,P i v->∃k t,ns[i]? =some k/\v=.int k t)(hn:n<=1200):
  ∀(k i:Nat) (s:Shared),n-i=k->i<=n->Sw i s->SetOf b s.heap S (ns.take i)->
   (∀s',Moved (S::wr) G s s'->SetOf b s'.heap S ns->R (.ok (.ret .none)) s')->
   codeAny (model prog w) A (.builtin "set.update.loop" ⟨[.ref S,.ref I],[]⟩) R s:=by
 have hSw:S∉wr:=fun h=>hSf (W.sub _ h)
 have hsub:∀b∈wr,b∈S::wr:=fun b hb=>List.mem_cons_of_mem _ hb
 intro k
 induction k with
 |zero=>
  intro i s hk hi hst hS hR
  have hin:i=n:=by lia
  subst hin
  refine codeAny_builtin PyProof.Rows.F.entry_set_update_loop ?_
  rw[Around.under_plainId PyProof.Rows.F.plain_set_update_loop _]
  show wpAny _ A.in1 (pyNext (.ref I) >>= _) _ _ s
  refine wpAny_bind (W.done s _ _ hst fun s' hm=> ?_)
  show wpAny _ A.in1 (ret Value.none) _ _ s'
  rw[<-hln,List.take_length] at hS
  exact wpAny_pure (hR s' (hm.mono hsub) (hS.keep fun o e=>hm.heap S _ hSw e))
 | succ k ih=>
  intro i s hk hi hst hS hR
  have hlt:i<n:=by lia
  refine codeAny_builtin PyProof.Rows.F.entry_set_update_loop ?_
  rw[Around.under_plainId PyProof.Rows.F.plain_set_update_loop _]
  show wpAny _ A.in1 (pyNext (.ref I) >>= _) _ _ s
  refine wpAny_bind (W.item i s _ _ hlt hst fun v s' hP hst' hm=> ?_)
  obtain⟨kx,tx,hkx,rfl⟩:=hv i v hP
  obtain⟨ks,hSk,hmem,hle⟩:SetOf b s'.heap S (ns.take i):=hS.keep fun o e=>hm.heap S _ hSw e
  have hle':ks.length<=i:=by
   rw[List.length_take] at hle
   lia
  show wpAny _ A.in1 (holding [.int kx tx] (setAdd S (.int kx tx)) >>= _) _ _ s'
  refine wpAny_bind (wpAny_holding ?_)
  unfold setAdd
  refine wpAny_holding ?_
  refine wpAny_bind (wpAny_pyHash_int ?_)
  refine zlB (s:={s' with toks:=s'.toks+1}) hSk (by lia) fun r h' hsb hS2=> ?_
  have etk:ns.take (i+1)=ns.take i++[kx]:=by
   rw[List.take_succ,hkx]
   rfl
  have hSi:SetOf b h' S (ns.take (i+1)):=by
   refine⟨_,hS2,fun x=> ?_, ?_⟩
   ·rw [etk,List.mem_append,List.mem_singleton]
    by_cases c:kx∈ks
    ·rw [if_pos c,hmem]
     refine⟨.inl,fun h=>h.elim id fun e=> ?_⟩
     rw[e]
     exact (hmem _).mp c
    ·rw[if_neg c,List.mem_append,List.mem_singleton,hmem]
   ·rw [List.length_take] at hle ⊢
    split
    ·lia
    ·rw [List.length_append]
     show ks.length+1<=_
     lia
  have htk:s'.toks<=s'.toks+1:=Nat.le_succ _
  refine wpAny_pure ⟨plainId_quiet PyProof.Rows.F.plain_set_update_loop _,ih (i+1) _ (by lia) hlt (W.frame _ s' _ _ hst' htk fun c hc o e=> ?_) hSi fun s'' hm'' hS''=> ?_⟩
  ·rw [hsb.2 c (fun z:c=S=>hSf (by rw[<-z];exact hc))]
   exact e
  ·refine hR s'' (Moved.trans W.gtrans ((hm.mono hsub).then_heap htk fun c o hc e=> ?_) hm'') hS''
   rw[hsb.2 c (fun z:c=S=>hc (by rw[z];exact List.mem_cons_self))]
   exact e
end
theorem zmC:∀{vs:List Value} {ns:List Int},IntsAre vs ns->∀{i:Nat} {v:Value},vs[i]? =some v->∃k t,ns[i]? =some k/\v=.int k t:=by
 intro vs ns h
 induction h with
 |nil=>intro i v e;simp at e
 |cons x t _ ih=>
  intro i v e
  cases i with
  |zero=>exact⟨x,t,rfl,(Option.some.inj e).symm⟩
  |succ i=>exact ih e
section
variable {prog:Program}{w:World}{A:Around}{E:Value->Shared->Prop}{s:Shared}
theorem zc0:isSubtype (.type "list") (.type "set")=pure false:=by rw[isSubtype_type];kernel_rfl
theorem zbC:isSubtype (.type "list") (.type "frozenset")=pure false:=by rw[isSubtype_type];kernel_rfl
theorem call_setIL {l:Addr}{items:Array Value}{ns:List Int}{Q:Value->Shared->Prop}(hh:A.handled=none)(hl:s.heap.IsList l items)(hn:items.size<=1200)(hi:IntsAre items.toList ns)
  (h:∀(h':Heap) (tk:Nat),SetOf (leads w) h' s.heap.objs.size ns->(∀b o,b<s.heap.objs.size->s.heap.get? b=some o->h'.get? b=some o)->Q (.ref s.heap.objs.size) {s with heap:=h',toks:=tk}):
  wpAny (model prog w) A (call (.type "set") [.ref l]) Q E s:=by
 have hln:ns.length=items.size:=by rw[<-hi.length,Array.length_toList]
 obtain⟨c,tl,hmro⟩:=F.called_set.mro
 have hmade:=F.called_set.made
 have hsub:=F.called_set.sub
 refine wpAny_call (codeAny_of_tree ?_)
 show wpAny _ _ (callAny (.type "set") _) _ _ _
 refine wpAny_pure ⟨Code.quiet_builtin _ (by decide+kernel),codeAny_builtin F.entry_type_call ?_⟩
 rw[Around.under_plain (weight_type_call_type "set" [.ref l] []) rfl]
 have h1:=F.called_set.notType
 have h2:=F.called_set.canCreate
 have hct:=F.typeCall_set_1 (.ref l)
 repeat (any_goals (first|assumption|wp_step))
 refine codeAny_mono (zgG (.ref l) (E:=E) (Q₁:=fun obj s₁=>obj=.ref s.heap.objs.size/\s₁={s with heap:=s.heap.push (za8 w)}) ⟨rfl,rfl⟩) fun r s₁ hr=> ?_
 cases r with
 |error e=>exact hr
 | ok fl=>
  cases fl with
  | ret obj=>
   obtain⟨rfl,rfl⟩:=hr
   have hS:(s.heap.push (za8 w)).get? s.heap.objs.size=some (za8 w):=Heap.get?_push_size _ rfl
   have hT0:Shared.TypeIs {s with heap:=s.heap.push (za8 w)} (.ref s.heap.objs.size) "set" :=⟨_,hS,rfl⟩
   have hli:=F.called_set.init.lookup
   have hbi:=F.called_set.init.bind (.ref s.heap.objs.size)
   repeat (any_goals (first|assumption|wp_step))
   refine codeAny_mono (codeAny_call_builtin (R:=wants (fun r s₂=>r=.none/\∃h' tk,s₂={s with heap:=h',toks:=tk}/\
     SetOf (leads w) h' s.heap.objs.size ns/\
     (∀b o,b<s.heap.objs.size->s.heap.get? b=some o->h'.get? b=some o)) E) F.called_set.init.plain F.entry_set_init (check_set_init_1 hT0 ?_)) fun r₂ s₂ hr₂=> ?_
   ·obtain ⟨ol,hol,hcl,nl,hdl⟩:=hl
    obtain⟨ocls,odict,odata,oslots⟩:=ol
    simp only at hcl hdl
    subst hcl;subst hdl
    have hol':(s.heap.push (za8 w)).get? l=some {cls:=.type "list",dict:=odict,data:=.seq items nl,slots:=oslots}:=Heap.get?_push_of_some _ hol
    have hsls:=zc0
    have hslf:=zbC
    have hne:(Value.type "list" ==Value.type "dict")=false:=by decide
    have hl1:(s.heap.push (za8 w)).IsList l items:=⟨_,hol',rfl,nl,rfl⟩
    unfold Builtin.«set.__init__» noKeywords Builtin.Frozenset.updateFrom
    generalize hPI:pyIter=PI
    wp_walk
    subst hPI
    refine wpAny_pyIter_list hl1 ?_
    refine wpAny_bind (wpAny_runValue ?_)
    have hlS:l<s.heap.objs.size:=Heap.lt_size hol
    have hh3:A.in1.in1.in1.handled=none:=by simp[hh]
    have hneI:l≠(s.heap.push (za8 w)).objs.size:=by
     rw[Heap.size_push];exact Nat.ne_of_lt (Nat.lt_succ_of_lt hlS)
    have hSf:s.heap.objs.size∉[(s.heap.push (za8 w)).objs.size,l]:=by
     rw[Heap.size_push];simp only[List.mem_cons,List.mem_singleton,List.not_mem_nil,or_false,not_or]
     exact⟨Nat.ne_of_lt (Nat.lt_succ_self _),Nat.ne_of_gt hlS⟩
    refine ziT (b:=leads w) ((Walks.list hh3 _ l hneI items).toS) s.heap.objs.size hSf ns hln (fun i v hv=> ?_) hn (items.size-0) 0 _ (by lia) (Nat.zero_le _)
     ⟨⟨_,Heap.get?_push_size _ rfl,rfl,rfl⟩,⟨_,Heap.get?_push_of_some _ hol',rfl,nl,rfl⟩⟩ (zf7 (Heap.get?_push_of_some _ hS)) ?hR
    ·exact zmC hi (show items.toList[i]? =some v by rw[Array.getElem?_toList];exact hv)
    case hR=>
     intro s' hm hS'
     obtain⟨h',g',d',tk',os'⟩:=s'
     have eg:g'=s.gens:=hm.gens
     have ed:d'=s.drawn:=hm.drawn
     have eo:os'=s.os:=hm.os
     subst eg;subst ed;subst eo
     show wpAny _ _ _ _ _ _
     refine wpAny_pure ?_
     show wpAny _ _ (ret Value.none) _ _ _
     refine wpAny_pure ⟨rfl,h',tk',rfl,hS',fun b o hb e=> ?_⟩
     have hb1:b≠s.heap.objs.size:=Nat.ne_of_lt hb
     have hb2:b≠(s.heap.push (za8 w)).objs.size:=by
      rw[Heap.size_push];exact Nat.ne_of_lt (Nat.lt_succ_of_lt hb)
     exact hm.heap b o (by simp only[List.mem_cons,List.mem_singleton,List.not_mem_nil,or_false,not_or];exact⟨hb1,hb2⟩) (Heap.get?_push_of_some _ (Heap.get?_push_of_some _ e))
   ·cases r₂ with
    |error e=>exact hr₂
    | ok fl₂=>
     cases fl₂ with
     |ret r=>
      obtain⟨rfl,h',tk,rfl,hS',hk'⟩:=hr₂
      repeat (any_goals (first|assumption|wp_step))
      exact h _ _ hS' hk'
     |_=>exact hr₂.elim
  |_=>exact hr.elim
end
end St
namespace L2
structure TopY (mg:Str->Option Value):Prop where
 n_any:mg "any" =none
structure TopYK (K:PySem.W.Frag):Prop where
 k_any:PySem.W.nsIn K mainGlobals "any" =some none
section
variable {prog:Program}{w:World}{A:Around}{E:Value->Shared->Prop}{s:Shared}{d it v:Addr}{es:Array DictEntry}{ep:Nat}
end
section
variable {prog:Program}{w:World}{A:Around}{s:Shared}{R:Result->Shared->Prop}{es:Array DictEntry}{ep:Nat}
end
section
variable {prog:Program}{w:World}{A:Around}{E:Value->Shared->Prop}{s:Shared}{r d:Addr}{es:Array DictEntry}{ep:Nat}
end
end L2
namespace Srt
section
variable {prog:Program}{w:World}{A:Around}{E:Value->Shared->Prop}{s:Shared}
end
end Srt
namespace L2
noncomputable def ov (H N:Hp):Hp:=fun b=>match N b with
 |some o=>some o
 |none=>H b
section
variable {X:Cx}{pins:List (Addr×Obj)}{σ:List (Option V)}{H N:Hp}{s:Shared}{h':Heap}
end
section
variable {X:Cx}
end
noncomputable def SetO (w:World)(S:Addr)(zs:List Addr):HO:=.ext fun h=>∃L:List (Int×Value),L.map (·.2)=zs.map Value.ref/\St.SetH (St.leads w) h S L
section
variable {X:Cx}
end
end L2
namespace St
section
variable {prog:Program}{w:World}{A:Around}{E:Value->Shared->Prop}{s:Shared}
theorem TupX.kb {X:List Addr}{v:Value}{ns:List Int}(x:TupX X s.heap v ns):∃a,v=.ref a/\IsTupleKey (intKind prog w) s.heap ns a:=by
 obtain⟨a,o,xs,m,rfl,_,ho,hc,hd,hi⟩:=x
 exact⟨a,rfl,o,xs,m,ho,hc,hd,zdX hi⟩
theorem ziU {X:List Addr}{v:Value}{ns:List Int}{Q:Bool->Shared->Prop}(x:TupX X s.heap v ns)(q:Q false s):wpAny (model prog w) A (ofAClassStatement 8 v) Q E s:=by
 obtain⟨a,o,xs,m,rfl,_,ho,hc,hd,hi⟩:=x
 unfold ofAClassStatement
 refine wpAny_bind (wpAny_typeOf ⟨o,ho,hc⟩ ?_)
 dsimp only
 rw[if_pos (by decide)]
 refine wpAny_bind (wpAny_pure ?_)
 simp only[Bool.not_true,Bool.false_eq_true,if_false]
 refine wpAny_bind (wpAny_seqItems ho hd ?_)
 dsimp only
 refine wpAny_bind ?_
 show wpAny _ _ (forIn xs _ _) _ _ s
 rw[<-Array.forIn_toList]
 refine wpAny_forIn_list _ (fun rest r s'=>r.1=none/\s'=s/\∃ms,IntsAre rest ms) _ ?_ ?_ _ _ ⟨rfl,rfl,ns,hi⟩
 ·rintro v rest r s' ⟨hr,rfl,ms,hms⟩
  cases hms with
  |cons n t hms'=>
   have e:∀k,ofAClassStatement k (.int n t)=pure false:=fun k=>by cases k<;>rfl
   rw[e]
   refine wpAny_bind (wpAny_pure ?_)
   simp only[Bool.false_eq_true,if_false]
   exact wpAny_pure ⟨rfl,rfl,_,hms'⟩
 ·rintro ⟨r1,r2⟩ s' ⟨hr,rfl,_⟩
  simp only at hr
  subst hr
  exact wpAny_pure q
theorem zj3 {X:List Addr}{x y:Value}{ns ms:List Int}{Q:Bool->Shared->Prop}(hx:TupX X s.heap x ns)(hy:TupX X s.heap y ms)(q:Q false s):wpAny (model prog w) A (searchCouldBeSeen x [y]) Q E s:=by
 have qx:∀{Q':Bool->Shared->Prop},Q' true s->wpAny (model prog w) A (eqIsQuiet 8 x) Q' E s:=fun q=>by
  obtain⟨a,rfl,k⟩:=TupX.kb (prog:=prog) (w:=w) hx
  exact wpAny_eqIsQuiet_tuple k q
 have qy:∀{Q':Bool->Shared->Prop},Q' true s->wpAny (model prog w) A (eqIsQuiet 8 y) Q' E s:=fun q=>by
  obtain⟨a,rfl,k⟩:=TupX.kb (prog:=prog) (w:=w) hy
  exact wpAny_eqIsQuiet_tuple k q
 obtain⟨xa,ex⟩:∃a,x=.ref a:=hx.imp fun a h=>by obtain⟨_,_,_,e,_⟩:=h;exact e
 obtain⟨ya,ey⟩:∃a,y=.ref a:=hy.imp fun a h=>by obtain⟨_,_,_,e,_⟩:=h;exact e
 have hb:(carriedByValue x&&carriedByValue y)=false:=by rw[ex];rfl
 subst ex ey
 unfold searchCouldBeSeen
 refine wpAny_bind ?_
 refine wpAny_forIn_list _ (fun rest r s'=>r.1=none/\s'=s/\(rest=[.ref ya]∨rest=[])) _ ?_ ?_ _ _ ⟨rfl,rfl,.inl rfl⟩
 ·rintro v rest r s' ⟨hr,rfl,hl⟩
  obtain⟨rfl,rfl⟩:v=.ref ya/\rest=[]:=by
   rcases hl with e|e
   ·cases e
    exact⟨rfl,rfl⟩
   ·cases e
  dsimp only
  rw[hb,Bool.or_false]
  cases (xa==ya) with
  |true=>
   rw[if_pos rfl]
   exact wpAny_pure ⟨rfl,rfl,.inr (by trivial)⟩
  |false=>
   rw[if_neg (by decide)]
   refine wpAny_bind (qx ?_)
   simp only[Bool.not_true,Bool.false_eq_true,if_false]
   refine wpAny_bind (qy ?_)
   simp only[Bool.not_true,Bool.false_eq_true,if_false]
   refine wpAny_bind (ziU hx ?_)
   simp only[Bool.false_eq_true,if_false]
   refine wpAny_bind (ziU hy ?_)
   simp only[Bool.false_eq_true,if_false]
   exact wpAny_pure ⟨rfl,rfl,.inr (by trivial)⟩
 ·rintro ⟨r1,r2⟩ s' ⟨hr,rfl,_⟩
  simp only at hr
  subst hr
  exact wpAny_pure q
theorem ziV {X:List Addr}{x y:Value}{ns ms:List Int}{Q:Bool->Shared->Prop}(hu:A.units<cLine)(hx:TupX X s.heap x ns)(hy:TupX X s.heap y ms)(q:Q (decide (ms=ns)) s):wpAny (model prog w) A (eqBool y x) Q E s:=by
 obtain⟨a,rfl,k⟩:=TupX.kb (prog:=prog) (w:=w) hx
 obtain⟨b,rfl,k'⟩:=TupX.kb (prog:=prog) (w:=w) hy
 exact wpAny_eqBool_tuple hu k' k q
theorem zeF {t:SetTable}{n:Nat}(T:Tb t n)(h1:n=1)(j:Nat):(t.slot j=.empty/\j∉t.place.toList)∨t.slot j=.live 0:=by
 rcases zcS T.nod j with e|⟨i,hi,e⟩
 ·exact .inl ⟨e,fun hj=>by
   obtain⟨i,e'⟩:=(zbJ T.nod T.rise).mpr hj
   rw[e] at e'
   cases e'⟩
 ·rw [T.size] at hi
  obtain rfl:i=0:=by lia
  exact .inr e
theorem adv7 {t:SetTable}(hm:t.mask=7)(i per:Nat):t.advance (nxt t i per)=nxt t (SetTable.leap 7 i per).1 (SetTable.leap 7 i per).2:=by
 have e:∀i,SetTable.runEnd t.mask i-i=0:=fun i=>by
  unfold SetTable.runEnd
  rw[hm]
  split<;>lia
 unfold SetTable.advance nxt
 dsimp only
 rw[e,if_neg (by lia),hm]
theorem zhb {a:Addr}{o:Obj}{ep:Nat}{t:SetTable}{X:List Addr}{x y:Value}{ns ms:List Int}{h:Int}{Q:SetFound->Shared->Prop}(hu:A.units<cLine)(ho:s.heap.get? a=some o)(hd:o.data=.set #[(h,y)] ep t)(T:Tb t 1)(hm:t.mask=7)
  (hx:TupX X s.heap x ns) (hy:TupX X s.heap y ms) (hne:ms≠ns) (q:∀j,j∉t.place.toList->Q (.free j false) s):
  ∀(k F i per:Nat) (sd:Option SetTable.Probe),k<F->t.slot (lin 7 k (i,per)).1=.empty->sd.getD (t.probeStart h)=nxt t i per->wpAny (model prog w) A (setSearchFrom a x h true F sd) Q E s:=by
 intro k
 induction k with
 | zero=>
  intro F i per sd hF he hsd
  obtain⟨F,rfl⟩:∃f,F=f+1:=⟨F-1,by lia⟩
  unfold setSearchFrom
  refine wpAny_bind (wpAny_setState_of ho hd T.fits ?_)
  dsimp only
  rw[T.odd]
  simp only[Bool.false_eq_true,if_false]
  have hp:∀g,t.probe g h (sd.getD (t.probeStart h))=some (.empty i none):=fun g=>by
   rw[hsd]
   unfold SetTable.probe
   rw[hm]
   show SetTable.probe.go t g h 220 (nxt t i per)=_
   unfold SetTable.probe.go
   rw[show t.slot (nxt t i per).j=.empty from he]
   rfl
  refine wpAny_bind (wpAny_pure ?_)
  rw[hp]
  refine wpAny_pure (q i fun hj=> ?_)
  obtain⟨i',e'⟩:=(zbJ T.nod T.rise).mpr hj
  rw[show t.slot i=.empty from he] at e'
  cases e'
 | succ k ih=>
  intro F i per sd hF he hsd
  obtain⟨F,rfl⟩:∃f,F=f+1:=⟨F-1,by lia⟩
  have he':t.slot (lin 7 k ((SetTable.leap 7 i per).1,(SetTable.leap 7 i per).2)).1=.empty:=he
  unfold setSearchFrom
  refine wpAny_bind (wpAny_setState_of ho hd T.fits ?_)
  dsimp only
  rw[T.odd]
  simp only[Bool.false_eq_true,if_false]
  have h10:∀g,t.probe g h (sd.getD (t.probeStart h))=SetTable.probe.go t g h 220 (nxt t i per):=fun g=>by
   rw[hsd]
   unfold SetTable.probe
   rw[hm]
   rfl
  refine wpAny_bind (wpAny_pure ?_)
  rw[h10]
  rcases zeF T rfl i with⟨e,hj⟩|e
  ·unfold SetTable.probe.go
   rw[show t.slot (nxt t i per).j=.empty from e]
   exact wpAny_pure (q i hj)
  ·unfold SetTable.probe.go
   rw[show t.slot (nxt t i per).j=.live 0 from e]
   dsimp only
   rw[if_pos (by rw[beq_iff_eq];rfl),adv7 hm]
   dsimp only
   have hfl:(Array.filter (fun x:Int×Value=>x.fst==h) #[(h,y)]).toList.map (fun x=>x.snd)=[y]:=by
    rw[Array.toList_filter]
    show (List.filter (fun x:Int×Value=>x.fst==h) [(h,y)]).map _=_
    rw[List.filter_cons,if_pos (beq_iff_eq.mpr rfl)]
    rfl
   have hsm:t.sameMemory t.moves t.mask=some true:=by
    unfold SetTable.sameMemory
    rw[if_pos (beq_iff_eq.mpr rfl)]
   rw[hfl]
   obtain⟨ya,ey⟩:∃b,y=.ref b:=hy.imp fun b h=>by obtain⟨_,_,_,e,_⟩:=h;exact e
   have hb:(!t.led)=true∨(!t.led)=false:=by cases t.led<;>simp
   rcases hb with hb|hb
   ·rw [if_pos hb]
    refine wpAny_bind (zj3 hx hy ?_)
    simp only[Bool.false_eq_true,if_false]
    refine wpAny_bind (wpAny_holding (ziV hu hx hy ?_))
    rw[decide_eq_false hne]
    refine wpAny_bind (wpAny_setState_of ho hd T.fits ?_)
    dsimp only
    rw[Bool.and_false,if_neg (by decide),hsm]
    dsimp only
    rw[if_pos rfl,show t.slot (nxt t i per).j=.live 0 from e]
    subst ey
    show wpAny _ _ (isSame (.ref ya) (.ref ya) >>= _) _ _ _
    refine wpAny_bind (wpAny_isSame_ref_self ?_)
    refine wpAny_bind (wpAny_pure ?_)
    exact ih F _ _ _ (by lia) he' rfl
   ·rw [if_neg (by rw[hb];decide)]
    show wpAny _ _ (holding [y] (eqBool y x) >>= _) _ _ _
    refine wpAny_bind (wpAny_holding (ziV hu hx hy ?_))
    rw[decide_eq_false hne]
    refine wpAny_bind (wpAny_setState_of ho hd T.fits ?_)
    dsimp only
    rw[Bool.and_false,if_neg (by decide),hsm]
    dsimp only
    rw[if_pos rfl,show t.slot (nxt t i per).j=.live 0 from e]
    subst ey
    show wpAny _ _ (isSame (.ref ya) (.ref ya) >>= _) _ _ _
    refine wpAny_bind (wpAny_isSame_ref_self ?_)
    refine wpAny_bind (wpAny_pure ?_)
    exact ih F _ _ _ (by lia) he' rfl
theorem zhc {a:Addr}{o:Obj}{es:Array (Int×Value)}{ep:Nat}{t:SetTable}{X:List Addr}{x:Value}{ns:List Int}{h:Int}{Q:SetFound->Shared->Prop}(hu:A.units<cLine)(ho:s.heap.get? a=some o)(hd:o.data=.set es ep t)(T:Tb t es.size)(hm:t.mask=7)
  (hx:TupX X s.heap x ns) (he:es=#[]∨∃g y ms,es=#[(g,y)]/\TupX X s.heap y ms/\ms≠ns) (q:∀j,j∉t.place.toList->Q (.free j false) s):wpAny (model prog w) A (setSearch a x h true) Q E s:=by
 rcases he with rfl|⟨g,y,ms,rfl,hy,hne⟩
 ·exact zfr ho hd T (fun e h=>by cases h) q
 ·by_cases hg:g=h
  ·subst hg
   have hi:SetTable.bits g%(t.mask+1)<=7:=by rw[hm];have:=Nat.mod_lt (SetTable.bits g) (show 0<7+1 by decide);lia
   have hb:SetTable.bits g<2^64:=by
    unfold SetTable.bits
    have:=Int.emod_lt_of_pos g (by decide:(0:Int)<2^64)
    have:=Int.emod_nonneg g (by decide:(2^64:Int)≠0)
    lia
   obtain⟨k,hk,hek⟩:∃k,k<22/\t.slot (lin 7 k (SetTable.bits g%(t.mask+1),SetTable.bits g)).1=.empty:=by
    obtain⟨k0,a0,b0⟩:=zeC (m:=7) (by decide) (p:=(SetTable.bits g%(t.mask+1),SetTable.bits g)) hi hb (r:=0) (by decide)
    obtain⟨k1,a1,b1⟩:=zeC (m:=7) (by decide) (p:=(SetTable.bits g%(t.mask+1),SetTable.bits g)) hi hb (r:=1) (by decide)
    rcases zeF T rfl 0 with⟨e,_⟩|e
    ·exact⟨k0,a0,by rw[b0];exact e⟩
    ·rcases zeF T rfl 1 with⟨e',_⟩|e'
     ·exact⟨k1,a1,by rw[b1];exact e'⟩
     ·exfalso
      have:=ziM (l1:=[0,1]) (l2:=t.place.toList) (by decide) fun r hr=>by
       rcases List.mem_cons.mp hr with rfl|hr
       ·exact (zbJ T.nod T.rise).mp ⟨_,e⟩
       ·rw [List.mem_singleton.mp hr]
        exact (zbJ T.nod T.rise).mp ⟨_,e'⟩
      have e2:t.place.toList.length=1:=by rw[Array.length_toList,T.size];rfl
      rw[e2] at this
      exact absurd this (by decide)
   exact zhb hu ho hd T hm hx hy hne q k 100000 (SetTable.bits g%(t.mask+1)) (SetTable.bits g) none (by lia) hek rfl
  ·exact zfr ho hd T (fun e h=>by
    have:e=(g,y):=by simpa using h
    rw[this]
    exact hg) q
noncomputable def Set7 (b:Bool)(h:Heap)(a:Addr)(L:List (Int×Value)):Prop:=
 ∃o es ep t,h.get? a=some o/\o.ExactSet/\o.data=.set es ep t/\Tb t es.size/\t.mask=7/\t.plain=true/\t.led=b/\es.toList.Perm L
theorem Set7.keep {b:Bool}{h h':Heap}{a:Addr}{L:List (Int×Value)}(x:Set7 b h a L)(e:∀o,h.get? a=some o->h'.get? a=some o):Set7 b h' a L:=by
 obtain⟨o,es,ep,t,h1,r⟩:=x
 exact⟨o,es,ep,t,e _ h1,r⟩
theorem zlC {b:Bool}{a:Addr}{L:List (Int×Value)}{X:List Addr}{x:Value}{ns:List Int}{h:Int}{Q:Bool->Shared->Prop}(hu:A.units<cLine)(hS:Set7 b s.heap a L)(hx:TupX (a::X) s.heap x ns)(hL1:L=[]∨∃g y ms,L=[(g,y)]/\TupX (a::X) s.heap y ms/\ms≠ns)
  (q:∀h',Heap.SameBut a s.heap h'->Set7 b h' a (L++[(h,x)])->Q true {s with heap:=h'}):wpAny (model prog w) A (setAddHashed a x h) Q E s:=by
 obtain⟨o,es,ep,t,ho,hex,hd,T,hm,hp,hb,hL⟩:=hS
 have hes:es.size<=1:=by
  rw[<-Array.length_toList,hL.length_eq]
  rcases hL1 with rfl|⟨g,y,ms,rfl,_⟩<;>simp
 have he:es=#[]∨∃g y ms,es=#[(g,y)]/\TupX (a::X) s.heap y ms/\ms≠ns:=by
  rcases hL1 with rfl|⟨g,y,ms,rfl,r⟩
  ·exact .inl (Array.toList_inj.mp hL.eq_nil)
  ·exact .inr ⟨g,y,ms,Array.toList_inj.mp (List.perm_singleton.mp hL),r⟩
 unfold setAddHashed setAddHashedIn
 refine wpAny_holding (wpAny_bind (wpAny_setState_of ho hd T.fits ?_))
 dsimp only
 have hsc:byScan x es=false:=by
  obtain⟨_,_,_,_,e,_⟩:=hx
  unfold byScan
  rw[e]
  rfl
 rw[hsc]
 simp only[Bool.false_eq_true,if_false]
 refine wpAny_bind (zhc hu ho hd T hm hx he fun j hj=> ?_)
 dsimp only
 refine wpAny_bind (wpAny_setState_of ho hd T.fits ?_)
 dsimp only
 rw[zkC T.nod]
 dsimp only
 rw[if_pos hp]
 refine wpAny_bind (zly hx ?_)
 simp only[if_true]
 have e1:(SetTable.insertAt es (SetTable.below t.place j) (h,x)).size=es.size+1:=zc9 ..
 have T1:Tb {t with place:=SetTable.insertAt t.place (SetTable.below t.place j) j} (SetTable.insertAt es (SetTable.below t.place j) (h,x)).size:=
  ⟨by rw[e1];show (SetTable.insertAt t.place _ j).size=_;rw[zc9,T.size],T.nod,zgE T.rise hj,T.mask,by rw[e1];show _<=t.mask;lia⟩
 have P1:(SetTable.insertAt es (SetTable.below t.place j) (h,x)).toList.Perm (L++[(h,x)]):=(zeA ..).trans ((hL.cons _).trans (List.perm_append_singleton _ _).symm)
 refine wpAny_bind (wpAny_storeSet_of ho hd ?_ (by rw[e1,sizeLine_eq];lia))
 have hg1:(s.heap.update a (Obj.putSet (SetTable.insertAt es (SetTable.below t.place j) (h,x)) {t with place:=SetTable.insertAt t.place (SetTable.below t.place j) j})).get? a=some {o with data:=.set (SetTable.insertAt es (SetTable.below t.place j) (h,x)) (ep+1) {t with place:=SetTable.insertAt t.place (SetTable.below t.place j) j}}:=by
  have:=Heap.get?_update_self (Obj.putSet (SetTable.insertAt es (SetTable.below t.place j) (h,x)) {t with place:=SetTable.insertAt t.place (SetTable.below t.place j) j}) ho (by rw[putSet_of _ _ hd];rfl)
  rw[putSet_of _ _ hd] at this
  exact this
 have hfill:({t with place:=SetTable.insertAt t.place (SetTable.below t.place j) j}:SetTable).fill=es.size+1:=by
  unfold SetTable.fill
  rw[T1.nod,T1.size,e1]
  rfl
 rw[if_neg (by
  unfold SetTable.tooFull
  rw[hfill]
  show ¬(!false&&decide ((es.size+1)*5≥t.mask*3))=true
  rw[decide_eq_false (by lia)]
  decide)]
 exact wpAny_pure (q _ (Heap.SameBut.update ..) ⟨_,_,_,_,hg1,hex,rfl,T1,hm,hp,hb,P1⟩)
end
theorem zhd {w:World}{h:Heap}{a:Addr}(e:h.get? a=some (za8 w)):Set7 (leads w) h a []:=
 ⟨_,#[],0,_,e,⟨rfl,rfl,rfl⟩,rfl,⟨rfl,rfl,.nil,show 7∈zcn by decide,Nat.zero_le _⟩,rfl,rfl,rfl,.nil⟩
section
variable {prog:Program}{w:World}{A:Around}{R:Result->Shared->Prop}{I:Addr}{fp wr:List Addr}{G:Array GenState->Array GenState->Prop}{n:Nat}{P:Nat->Value->Prop}{Sw:Nat->Shared->Prop}{b:Bool}
theorem ziW (W:WalksS prog w A.in1 I fp wr G n P Sw)(S:Addr)(hSf:S∉fp)(items:Nat->Value)(ks:Nat->List Int)(hv:∀i v,P i v->v=items i)(hn:n<=2)(hu:A.units+1<cLine)(hd:∀i j,i<j->j<n->ks i≠ks j):
  ∀(k i:Nat) (s:Shared),n-i=k->i<=n->Sw i s->Set7 b s.heap S (ents items ks i)->(∀j,j<n->TupX (S::wr) s.heap (items j) (ks j))->
   (∀s',Moved (S::wr) G s s'->Set7 b s'.heap S (ents items ks n)->R (.ok (.ret .none)) s')->
   codeAny (model prog w) A (.builtin "set.update.loop" ⟨[.ref S,.ref I],[]⟩) R s:=by
 have hSw:S∉wr:=fun h=>hSf (W.sub _ h)
 have hsub:∀b∈wr,b∈S::wr:=fun b hb=>List.mem_cons_of_mem _ hb
 intro k
 induction k with
 |zero=>
  intro i s hk hi hst hS hT' hR
  have hin:i=n:=by lia
  subst hin
  refine codeAny_builtin PyProof.Rows.F.entry_set_update_loop ?_
  rw[Around.under_plainId PyProof.Rows.F.plain_set_update_loop _]
  show wpAny _ A.in1 (pyNext (.ref I) >>= _) _ _ s
  refine wpAny_bind (W.done s _ _ hst fun s' hm=> ?_)
  show wpAny _ A.in1 (ret Value.none) _ _ s'
  exact wpAny_pure (hR s' (hm.mono hsub) (hS.keep fun o e=>hm.heap S _ hSw e))
 | succ k ih=>
  intro i s hk hi hst hS hT' hR
  have hlt:i<n:=by lia
  refine codeAny_builtin PyProof.Rows.F.entry_set_update_loop ?_
  rw[Around.under_plainId PyProof.Rows.F.plain_set_update_loop _]
  show wpAny _ A.in1 (pyNext (.ref I) >>= _) _ _ s
  refine wpAny_bind (W.item i s _ _ hlt hst fun v s' hP hst' hm=> ?_)
  obtain rfl:=hv i v hP
  have hS':Set7 b s'.heap S (ents items ks i):=hS.keep fun o e=>hm.heap S _ hSw e
  have hT2:∀j,j<n->TupX (S::wr) s'.heap (items j) (ks j):=fun j hj=>(hT' j hj).keep fun c o hc e=>hm.heap c o (fun z=>hc (hsub _ z)) e
  show wpAny _ A.in1 (holding [items i] (setAdd S (items i)) >>= _) _ _ s'
  refine wpAny_bind (wpAny_holding ?_)
  unfold setAdd
  refine wpAny_holding ?_
  refine wpAny_bind (zjX (show A.units+1<cLine from hu) (hT2 i hlt) fun tk htk=> ?_)
  refine zlC (s:={s' with toks:=tk}) (X:=wr) (ns:=ks i) (show A.units+1<cLine from hu) hS' (hT2 i hlt) ?_ fun h' hsb hS2=> ?_
  ·have:i=0∨i=1:=by lia
   rcases this with rfl|rfl
   ·exact .inl rfl
   ·exact .inr ⟨_,_,ks 0,rfl,hT2 0 (by lia),hd 0 1 (by decide) hlt⟩
  have hSi:Set7 b h' S (ents items ks (i+1)):=by
   have:ents items ks (i+1)=ents items ks i++[(hT (ks i),items i)]:=by
    unfold ents
    rw[List.range_succ,List.map_append]
    rfl
   rw[this]
   exact hS2
  refine wpAny_pure ⟨plainId_quiet PyProof.Rows.F.plain_set_update_loop _,ih (i+1) _ (by lia) hlt (W.frame _ s' _ _ hst' htk fun c hc o e=> ?_) hSi (fun j hj=>(hT2 j hj).keep fun c o hc e=> ?_) fun s'' hm'' hS''=> ?_⟩
  ·rw [hsb.2 c (fun z:c=S=>hSf (by rw[<-z];exact hc))]
   exact e
  ·show h'.get? c=some o
   rw[hsb.2 c (fun z:c=S=>hc (by rw[z];exact List.mem_cons_self))]
   exact e
  ·refine hR s'' (Moved.trans W.gtrans ((hm.mono hsub).then_heap htk fun c o hc e=> ?_) hm'') hS''
   rw[hsb.2 c (fun z:c=S=>hc (by rw[z];exact List.mem_cons_self))]
   exact e
end
section
variable {prog:Program}{w:World}{A:Around}{E:Value->Shared->Prop}{s:Shared}
theorem call_setL7 {l:Addr}{items:Array Value}{ks:Nat->List Int}{Q:Value->Shared->Prop}(hh:A.handled=none)(hl:s.heap.IsList l items)(hn:items.size<=2)(hu:A.units+8<cLine)
  (hd:∀i j,i<j->j<items.size->ks i≠ks j) (hk:∀j (hj:j<items.size),TupX [] s.heap items[j] (ks j))
  (h:∀(h':Heap) (tk:Nat),Set7 (leads w) h' s.heap.objs.size ((List.range items.size).map fun j=>(hT (ks j),items.getD j .none))->(∀b o,b<s.heap.objs.size->s.heap.get? b=some o->h'.get? b=some o)->Q (.ref s.heap.objs.size) {s with heap:=h',toks:=tk}):
  wpAny (model prog w) A (call (.type "set") [.ref l]) Q E s:=by
 obtain⟨c,tl,hmro⟩:=F.called_set.mro
 have hmade:=F.called_set.made
 have hsub:=F.called_set.sub
 refine wpAny_call (codeAny_of_tree ?_)
 show wpAny _ _ (callAny (.type "set") _) _ _ _
 refine wpAny_pure ⟨Code.quiet_builtin _ (by decide+kernel),codeAny_builtin F.entry_type_call ?_⟩
 rw[Around.under_plain (weight_type_call_type "set" [.ref l] []) rfl]
 have h1:=F.called_set.notType
 have h2:=F.called_set.canCreate
 have hct:=F.typeCall_set_1 (.ref l)
 repeat (any_goals (first|assumption|wp_step))
 refine codeAny_mono (zgG (.ref l) (E:=E) (Q₁:=fun obj s₁=>obj=.ref s.heap.objs.size/\s₁={s with heap:=s.heap.push (za8 w)}) ⟨rfl,rfl⟩) fun r s₁ hr=> ?_
 cases r with
 |error e=>exact hr
 | ok fl=>
  cases fl with
  | ret obj=>
   obtain⟨rfl,rfl⟩:=hr
   have hS:(s.heap.push (za8 w)).get? s.heap.objs.size=some (za8 w):=Heap.get?_push_size _ rfl
   have hT0:Shared.TypeIs {s with heap:=s.heap.push (za8 w)} (.ref s.heap.objs.size) "set" :=⟨_,hS,rfl⟩
   have hli:=F.called_set.init.lookup
   have hbi:=F.called_set.init.bind (.ref s.heap.objs.size)
   repeat (any_goals (first|assumption|wp_step))
   refine codeAny_mono (codeAny_call_builtin (R:=wants (fun r s₂=>r=.none/\∃h' tk,s₂={s with heap:=h',toks:=tk}/\
     Set7 (leads w) h' s.heap.objs.size ((List.range items.size).map fun j=>(hT (ks j),items.getD j .none))/\
     (∀b o,b<s.heap.objs.size->s.heap.get? b=some o->h'.get? b=some o)) E) F.called_set.init.plain F.entry_set_init (check_set_init_1 hT0 ?_)) fun r₂ s₂ hr₂=> ?_
   ·obtain ⟨ol,hol,hcl,nl,hdl⟩:=hl
    obtain⟨ocls,odict,odata,oslots⟩:=ol
    simp only at hcl hdl
    subst hcl;subst hdl
    have hol':(s.heap.push (za8 w)).get? l=some {cls:=.type "list",dict:=odict,data:=.seq items nl,slots:=oslots}:=Heap.get?_push_of_some _ hol
    have hsls:=zc0
    have hslf:=zbC
    have hne:(Value.type "list" ==Value.type "dict")=false:=by decide
    have hl1:(s.heap.push (za8 w)).IsList l items:=⟨_,hol',rfl,nl,rfl⟩
    unfold Builtin.«set.__init__» noKeywords Builtin.Frozenset.updateFrom
    generalize hPI:pyIter=PI
    wp_walk
    subst hPI
    refine wpAny_pyIter_list hl1 ?_
    refine wpAny_bind (wpAny_runValue ?_)
    have hlS:l<s.heap.objs.size:=Heap.lt_size hol
    have hh3:A.in1.in1.in1.handled=none:=by simp[hh]
    have hneI:l≠(s.heap.push (za8 w)).objs.size:=by
     rw[Heap.size_push];exact Nat.ne_of_lt (Nat.lt_succ_of_lt hlS)
    have hSf:s.heap.objs.size∉[(s.heap.push (za8 w)).objs.size,l]:=by
     rw[Heap.size_push];simp only[List.mem_cons,List.mem_singleton,List.not_mem_nil,or_false,not_or]
     exact⟨Nat.ne_of_lt (Nat.lt_succ_self _),Nat.ne_of_gt hlS⟩
    refine ziW (b:=leads w) ((Walks.list hh3 _ l hneI items).toS) s.heap.objs.size hSf (fun i=>items.getD i .none) ks (fun i v hv=> ?_) hn (by show A.units+1+1+1<cLine;lia) hd (items.size-0) 0 _ (by lia) (Nat.zero_le _)
     ⟨⟨_,Heap.get?_push_size _ rfl,rfl,rfl⟩,⟨_,Heap.get?_push_of_some _ hol',rfl,nl,rfl⟩⟩ (zhd (Heap.get?_push_of_some _ hS)) (fun j hj=> ?_) ?hR
    ·rw [Array.getD_eq_getD_getElem?,hv]
     rfl
    ·have hg:items.getD j .none=items[j]:=by
      rw[Array.getD_eq_getD_getElem?,Array.getElem?_eq_getElem hj]
      rfl
     rw[hg]
     obtain⟨a,o,xs,m,e,_,ho,r⟩:=hk j hj
     have ha:a<s.heap.objs.size:=Heap.lt_size ho
     refine⟨a,o,xs,m,e, ?_,Heap.get?_push_of_some _ (Heap.get?_push_of_some _ ho),r⟩
     rw[Heap.size_push]
     simp only[List.mem_cons,List.not_mem_nil,or_false,not_or]
     exact⟨Nat.ne_of_lt ha,Nat.ne_of_lt (Nat.lt_succ_of_lt ha)⟩
    case hR=>
     intro s' hm hS'
     obtain⟨h',g',d',tk',os'⟩:=s'
     have eg:g'=s.gens:=hm.gens
     have ed:d'=s.drawn:=hm.drawn
     have eo:os'=s.os:=hm.os
     subst eg;subst ed;subst eo
     show wpAny _ _ _ _ _ _
     refine wpAny_pure ?_
     show wpAny _ _ (ret Value.none) _ _ _
     refine wpAny_pure ⟨rfl,h',tk',rfl,hS',fun b o hb e=> ?_⟩
     have hb1:b≠s.heap.objs.size:=Nat.ne_of_lt hb
     have hb2:b≠(s.heap.push (za8 w)).objs.size:=by
      rw[Heap.size_push];exact Nat.ne_of_lt (Nat.lt_succ_of_lt hb)
     exact hm.heap b o (by simp only[List.mem_cons,List.mem_singleton,List.not_mem_nil,or_false,not_or];exact⟨hb1,hb2⟩) (Heap.get?_push_of_some _ (Heap.get?_push_of_some _ e))
   ·cases r₂ with
    |error e=>exact hr₂
    | ok fl₂=>
     cases fl₂ with
     |ret r=>
      obtain⟨rfl,h',tk,rfl,hS',hk'⟩:=hr₂
      repeat (any_goals (first|assumption|wp_step))
      exact h _ _ hS' hk'
     |_=>exact hr₂.elim
  |_=>exact hr.elim
end
end St
namespace L2
noncomputable def SetN (w:World)(S:Addr)(n:Nat):HO:=.ext fun h=>∃L:List (Int×Value),L.length=n/\St.Set7 (St.leads w) h S L
theorem zlD {w:World}{S:Addr}{n:Nat}{L:List (Int×Value)}{P:Program}{H:Hp}{h:Heap}(e:L.length=n)(x:St.Set7 (St.leads w) h S L):ObjOk P w H h S (SetN w S n):=by
 refine⟨⟨L,e,x⟩, ?_,fun h1 h2 ⟨L',e',x'⟩ k=>⟨L',e',x'.keep k⟩⟩
 obtain⟨o,_,_,_,ho,_⟩:=x
 exact⟨o,ho⟩
section
variable {X:Cx}
noncomputable def zmD (w:World):List V->Hp->VK->Prop:=fun xs H Q=>∃(p:Addr) (zs:List Addr) (rows:List (List Int)),xs=[.ref p]/\H p=some (.lst (zs.map V.ref))/\RowsAt H zs rows/\rows.length<=2/\rows.Nodup/\
 ∀S,H S=none->Q (.ref S) (upd H S (SetN w S rows.length))
theorem call_setL7 (hc:X.calm=true)(hu:X.A.units+8<cLine):zbQ X (.type "set") (zmD X.w):=by
 intro pins s σ H xs us Q I rs h
 obtain⟨p,zs,rows,rfl,hp,R,hl,nd,q⟩:=h
 obtain⟨u,rfl,ru⟩:=zcf rs
 cases (show u=Value.ref p from ru)
 obtain⟨z0,its,n,rv,hl',t1⟩:=I.lstM hp
 have hits:its=zs.map Value.ref:=by
  have:∀(zs:List Addr) (vs:List Value),Vals (zs.map V.ref) vs->vs=zs.map Value.ref:=by
   intro zs
   induction zs with
   |nil=>
    intro vs h
    cases h
    rfl
   | cons z zs ih=>
    intro vs h
    cases h with
    |cons r t=>
     rw[List.map_cons,<-ih _ t,show _=Value.ref z from r]
  exact this _ _ rv
 subst hits
 have hzl:zs.length=rows.length:=Paired.length R
 have hsz:(zs.map Value.ref).toArray.size=rows.length:=by simp[hzl]
 refine St.call_setL7 (items:=(zs.map Value.ref).toArray) (ks:=fun j=>rows.getD j []) (I.ok.hd hc) ⟨_,t1,rfl,n,rfl⟩ (by rw[hsz];exact hl) hu (fun i j hij hj=> ?_) (fun j hj=> ?_) fun h' tk hS hk=> ?_
 ·rw [hsz] at hj
  have:=List.pairwise_iff_getElem.mp nd i j (by lia) hj hij
  rw[List.getD_eq_getElem?_getD,List.getD_eq_getElem?_getD,List.getElem?_eq_getElem (by lia),List.getElem?_eq_getElem hj]
  exact this
 ·rw [hsz] at hj
  have hz:zs[j]? =some zs[j]:=List.getElem?_eq_getElem (by lia)
  obtain⟨r,hr,hzr⟩:=R.get hz
  obtain⟨_,its2,rv2,o2,u1,u2,⟨n2,u3⟩,_⟩:=(show ObjOk X.prog X.w H s.heap zs[j] (.tup (r.map V.int)) from I.hok _ _ hzr)
  have e1:rows.getD j []=r:=by rw[List.getD_eq_getElem?_getD,hr];rfl
  rw[e1]
  exact⟨zs[j],o2,its2.toArray,n2,by simp,by simp,u1,u2,u3,by simpa using zbs rv2⟩
 ·have hLn:((List.range (zs.map Value.ref).toArray.size).map fun j=>(St.hT (rows.getD j []),(zs.map Value.ref).toArray.getD j Value.none)).length=rows.length:=by
   rw[List.length_map,List.length_range,hsz]
  exact⟨.ref s.heap.objs.size,_,I.laid (t':=tk) (o:=SetN X.w s.heap.objs.size rows.length) (fun b o e=>hk b o (Heap.lt_size e) e) (Nat.le_refl _) (zlD hLn hS),rfl,q _ (I.hok.fresh (Nat.le_refl _))⟩
noncomputable def zmE (w:World):List V->Hp->VK->Prop:=fun xs H Q=>∃(S:Addr) (n:Nat),xs=[.ref S]/\H S=some (SetN w S n)/\n<=2/\Q (.int n) H
theorem zhe:zbQ X (.builtin "len") (zmE X.w):=by
 intro pins s σ H xs us Q I rs h
 obtain⟨S,n,rfl,hS,hn,q⟩:=h
 obtain⟨u,rfl,ru⟩:=zcf rs
 cases (show u=Value.ref S from ru)
 obtain⟨⟨L,e,o,es,ep,t,ho,hex,hd,T,_,_,_,hL⟩,_⟩:=(show ObjOk X.prog X.w H s.heap S (SetN X.w S n) from I.hok S _ hS)
 have les:es.size=n:=by rw[<-Array.length_toList,hL.length_eq,e]
 refine PySem.call_len_set ho hex hd T.fits (by lia) ⟨.int n,H,I.kept (t':=s.toks+1+1) fun b o e=>e,⟨s.toks+1, ?_⟩,q⟩
 rw[les]
end
end L2
namespace Srt
theorem zlE (vs:List Value):(pairsOf vs).map (·.2)=vs.toArray:=by
 apply Array.toList_inj.mp
 rw[Array.toList_map,pairsOf_toList]
 induction vs with
 |nil=>rfl
 |cons v vs ih=>rw[List.zip_cons_cons,List.map_cons,ih]
section
variable {prog:Program}{w:World}{A:Around}{E:Value->Shared->Prop}{s:Shared}{kd:SortKind}
theorem ziX {a:Addr}{vs:List Value}{n:Nat}{P:PySem.Fin->Shared->Prop}(ho:s.heap.get? a=some (seqObj "list" vs.toArray n))(hln:vs.length<=sizeLine)
  (hkk:2<=vs.length->∀Q:SortKind->Shared->Prop,Q kd {s with heap:=hS s.heap a vs}->wpAny (model prog w) A (keyKind' vs.toArray) Q E {s with heap:=hS s.heap a vs})
  (hrun:2<=vs.length->wpAny (model prog w) A ((sortRuns').run (SortSt.mk' kd (vs.toArray.zip vs.toArray) #[] 7 none)) (fun r s'=>s'={s with heap:=hS s.heap a vs}/\(arrOf r.2).map (·.2)=vs.toArray/\failedOf r.2=none) E {s with heap:=hS s.heap a vs})
  (h:P (.done (.ret .none)) {s with heap:=sortedHeap s.heap a vs vs.toArray}):
  wpAny (model prog w) A (Builtin.«list.sort» ⟨[.ref a],[]⟩) P E s:=by
 rw[list_sort_plain]
 have ha:a<s.heap.objs.size:=Heap.lt_size ho
 have zz:vs.toArray.size=vs.length:=by simp
 refine wpAny_bind (listItems_at ho rfl (wpAny_bind (listUpdate_at ho rfl ?_ (by rw[zz];exact hln) (Nat.zero_le _))))
 obtain⟨e1,ho1⟩:∃e,(s.heap.update a (Obj.mapSeq fun _=>(#[]:Array Value))).get? a=some (seqObj "list" #[] e):=⟨_,get?_update_seq ho fun _=>#[]⟩
 refine wpAny_bind (seqEpoch_at ho1 rfl (wpAny_bind (wpAny_newTuple ?_ (by simpa using hln))))
 refine wpAny_bind (wpAny_newList ?_ (Nat.zero_le _))
 refine wpAny_holding ?_
 have ho6:(hS s.heap a vs).get? a=some (seqObj "list" #[] e1):=by
  unfold hS
  rw[Heap.get?_push_ne _ _ _ (by rw[size_push',Heap.size_update];exact Nat.ne_of_lt (Nat.lt_succ_of_lt ha)),Heap.get?_push_ne _ _ _ (by rw[Heap.size_update];exact Nat.ne_of_lt ha)]
  exact ho1
 show wpAny (model prog w) A _ P E {s with heap:=hS s.heap a vs}
 dsimp only
 by_cases c:vs.toArray.size<2
 ·rw [if_pos c,if_pos c]
  refine wpAny_bind (wpAny_pure ?_)
  rw[StateT.run_pure]
  refine wpAny_bind (wpAny_pure ?_)
  dsimp only
  refine wpAny_bind (seqEpoch_at ho6 rfl (wpAny_bind (listUpdate_at ho6 rfl ?_ (Nat.zero_le _) ?_)))
  ·simp only[bne_self_eq_false,Bool.false_eq_true,if_false]
   have e0:(arrOf (SortSt.mk' general' (vs.toArray.zip vs.toArray) #[] 7 none)).map (·.2)=vs.toArray:=by
    show (pairsOf vs).map (·.2)=_
    exact zlE vs
   exact wpAny_pure (by rw[<-e0] at h;exact h)
  ·rw [Array.size_map]
   show (pairsOf vs).size<=_
   rw[pairsOf_size]
   lia
 ·rw [if_neg c,if_neg c]
  refine wpAny_bind (hkk (by lia) _ ?_)
  refine wpAny_bind (wpAny_mono (hrun (by lia)) ?_ fun _ _ e=>e)
  rintro⟨⟨⟩,st'⟩ s' ⟨rfl,hp,hf⟩
  dsimp only at hp hf ⊢
  rw[hp]
  refine wpAny_bind (seqEpoch_at ho6 rfl (wpAny_bind (listUpdate_at ho6 rfl ?_ (Nat.zero_le _) (by rw[zz];lia))))
  rw[hf]
  simp only[bne_self_eq_false,Bool.false_eq_true,if_false]
  exact wpAny_pure h
theorem sortedP {l:Addr}{vs:List Value}{Q:Value->Shared->Prop}(hl:s.heap.IsList l vs.toArray)(hln:vs.length<=sizeLine)
  (hkk:2<=vs.length->∀(A':Around) (E':Value->Shared->Prop) (h':Heap) (Q:SortKind->Shared->Prop),(∀b o,s.heap.get? b=some o->h'.get? b=some o)->Q kd {s with heap:=h'}->wpAny (model prog w) A' (keyKind' vs.toArray) Q E' {s with heap:=h'})
  (hrun:2<=vs.length->∀(A':Around) (E':Value->Shared->Prop) (h':Heap),(∀b o,s.heap.get? b=some o->h'.get? b=some o)->wpAny (model prog w) A' ((sortRuns').run (SortSt.mk' kd (vs.toArray.zip vs.toArray) #[] 7 none)) (fun r s'=>s'={s with heap:=h'}/\(arrOf r.2).map (·.2)=vs.toArray/\failedOf r.2=none) E' {s with heap:=h'})
  (h:Q (.ref (s.heap.objs.size+1)) {s with heap:=sortedAll s.heap vs vs.toArray}):
  wpAny (model prog w) A (call (.builtin "sorted") [.ref l]) Q E s:=by
 refine Calls.call_function_entry kind_sorted plain_sorted entry_sorted (args_sorted1 _) ?_
 unfold Builtin.«sorted»
 refine wpAny_bind (m:=checkCount "sorted" 1 1 _) (wpAny_pure ?_)
 refine wpAny_bind (collect_list hl ?_ hln)
 refine wpAny_bind (wpAny_newList ?_ hln)
 have e:((s.heap.push (seqObj "list" #[] 0)).update s.heap.objs.size (Obj.mapSeq (·++vs.toArray))).objs.size=s.heap.objs.size+1:=by rw[Heap.size_update,size_push']
 show wpAny _ _ _ _ _ {s with heap:=hC s.heap vs}
 rw[e]
 have hk:∀b o,s.heap.get? b=some o->(hS (hC s.heap vs) (s.heap.objs.size+1) vs).get? b=some o:=fun b o g=>zmA (Nat.ne_of_lt (Nat.lt_succ_of_lt (Heap.lt_size g))) (zmz g)
 refine wpAny_bind (wpAny_holding (wpAny_call_entry slot_list_sort ⟨_,zmy s.heap vs,rfl⟩ entry_list_sort (ziX (s:={s with heap:=hC s.heap vs}) (zmy s.heap vs) hln (fun h2 Q' q=>hkk h2 _ _ _ Q' hk q) (fun h2=>hrun h2 _ _ _ hk) ⟨_,rfl, ?_⟩) (args_list_sort _)))
 exact wpAny_pure ⟨_,rfl,h⟩
theorem isTI.keepU {h h':Heap}{v:Value}{ns:List Int}(p:isTI h v ns)(hk:∀b o,h.get? b=some o->h'.get? b=some o):isTI h' v ns:=by
 obtain⟨a,o,xs,n,e,ho,r⟩:=p
 exact⟨a,o,xs,n,e,hk _ _ ho,r⟩
theorem run_two {v1 v2:Value}{ns ms:List Int}(h1:isTI s.heap v1 ns)(h2:isTI s.heap v2 ms)(hr:HT.lexLt ms ns=false):
  wpAny (model prog w) A ((sortRuns').run (SortSt.mk' (tuples' true) ([v1,v2].toArray.zip [v1,v2].toArray) #[] 7 none)) (fun r s'=>s'=s/\(arrOf r.2).map (·.2)=[v1,v2].toArray/\failedOf r.2=none) E s:=by
 refine PySem.W.kat_run (ks:=[v1,v2]) (vs:=[v1,v2]) (Q:=fun st s'=>s'=s/\(arrOf st).map (·.2)=[v1,v2].toArray/\failedOf st=none) (G:=fun p s'=>s'=s/\p=#[0,1]) rfl (by show 2<=2;decide) (by show 2<64;decide) (fun p st' s' hp ha hf hg=> ?_) ?_
 ·obtain ⟨rfl,rfl⟩:=hg
  refine⟨rfl, ?_,hf⟩
  rw[PySem.W.kat_snds (ks:=[v1,v2]) (vs:=[v1,v2]) rfl ha]
  rfl
 ·obtain ⟨a,o,xs,n,rfl,ho,_,hd,hi⟩:=h1
  obtain⟨b,o',ys,n',rfl,ho',_,hd',hi'⟩:=h2
  show PySem.W.kas_ask prog w A (tuples' true) [Value.ref a,Value.ref b] 1 0 _ s
  unfold PySem.W.kas_ask
  show wpAny _ _ (keyLt' (tuples' true) (.ref b) (.ref a)) _ _ s
  refine PySem.W.kat_lt ho' hd' ho hd ?_
  rw[show ys.size=ys.toList.length from Array.length_toList.symm,show xs.size=xs.toList.length from Array.length_toList.symm]
  exact zgC 0 hi' hi (by rw[hr];exact⟨rfl,rfl⟩)
end
end Srt
namespace L2
section
variable {X:Cx}
noncomputable def ziY:List V->Hp->VK->Prop:=fun xs H Q=>∃(l:Addr) (zs:List Addr) (rows:List (List Int)),xs=[.ref l]/\H l=some (.lst (zs.map V.ref))/\RowsAt H zs rows/\rows.length<=2/\(∀r∈rows,r≠[])/\rows.Pairwise (fun a b=>HT.lexLt b a=false)/\
 ∀p,H p=none->Q (.ref p) (upd H p (.lst (zs.map V.ref)))
theorem zeG:zbQ X (.builtin "sorted") ziY:=by
 intro pins s σ H xs us Q I rs h
 obtain⟨l,zs,rows,rfl,hH,hR,hl2,hne,hup,q⟩:=h
 obtain⟨u,rfl,ru⟩:=zcf rs
 cases (show u=Value.ref l from ru)
 obtain⟨z,its,n,r,hl,e⟩:=I.lstM hH
 have hln:its.length=rows.length:=by rw[<-r.length,List.length_map,Paired.length hR]
 have hz:its.length<=sizeLine:=by
  rw[<-r.length]
  exact z
 have hv1:Paired (fun v ns=>Srt.isTI s.heap v ns) its rows:=by
  clear hH hl2 hne hup q z hl e hln hz rs
  induction hR generalizing its with
  |nil=>
   cases r
   exact .nil
  |@cons a ns t rows h1 h2 ih=>
   cases r with
   |@cons _ v _ _ w1 w2=>
   cases (show v=Value.ref a from w1)
   obtain⟨_,its',r',o',t1,t2,⟨n',t3⟩,_⟩:=(show ObjOk X.prog X.w H s.heap a (.tup (ns.map V.int)) from I.hok a _ h1)
   exact .cons ⟨a,o',its'.toArray,n',rfl,t1,t2,t3,by simpa using zbs r'⟩ (ih _ w2)
 refine Srt.sortedP (l:=l) (vs:=its) (kd:=tuples' true) ⟨_,e,rfl,n,rfl⟩ hz (fun h2 A' E' h' Q' hk q'=> ?_) (fun h2 A' E' h' hk=> ?_) ?_
 ·exact Srt.tups_kind (s:={s with heap:=h'}) (nss:=rows) (Paired.mapP hv1 fun _ _ p=>p.keepU hk) h2 hne q'
 ·match its,rows,hv1 with
  |[v1,v2],[ns,ms],.cons a1 (.cons a2 .nil)=>
   exact Srt.run_two (s:={s with heap:=h'}) (a1.keepU hk) (a2.keepU hk) ((List.pairwise_cons.mp hup).1 ms List.mem_cons_self)
  |[],_,_=>exact absurd h2 (by decide)
  |[_],_,_=>exact absurd (show 2<=1 from h2) (by decide)
  |_::_::_::_,_::_::_::_,_=>exact absurd hl2 (by simp)
 ·obtain ⟨c,hc⟩:=sortedAll_at s.heap its its.toArray
  have hk:∀b o,s.heap.get? b=some o->(sortedAll s.heap its its.toArray).get? b=some o:=fun b o hb=>sortedAll_old hb
  have hf:H (s.heap.objs.size+1)=none:=I.hok.fresh (Nat.le_succ _)
  exact⟨.ref (s.heap.objs.size+1),_,I.laid (t':=s.toks) (o:=.lst (zs.map V.ref)) hk (Nat.le_succ _) ⟨z,its,c,r,hc⟩,rfl,q _ hf⟩
end
noncomputable def zfu (w:World)(S:Addr)(ns:List Int):HO:=.ext fun h=>St.SetOf (St.leads w) h S ns
theorem zj4 {w:World}{S:Addr}{ns:List Int}{P:Program}{H:Hp}{h:Heap}(x:St.SetOf (St.leads w) h S ns):ObjOk P w H h S (zfu w S ns):=by
 refine⟨x, ?_,fun h1 h2 x' k=>x'.keep k⟩
 obtain⟨_,⟨_,⟨o,_,_,_,ho,_⟩,_⟩,_⟩:=x
 exact⟨o,ho⟩
theorem zkD:∀{ks:List Int} {L:List (Int×Value)},Paired (fun (k:Int) (e:Int×Value)=>e.1=hashInt k/\∃t,e.2=.int k t) ks L->IntsAre (L.map (·.2)) ks
 |_,_,.nil=>.nil
 |_,_,.cons (b:=e) ⟨_,t,ht⟩ r=>by
  rw[List.map_cons,ht]
  exact .cons _ t (zkD r)
theorem zlF {vs:List Value}{ns:List Int}(h:IntsAre vs ns){vs':List Value}(p:vs'.Perm vs):∃ns',IntsAre vs' ns'/\ns'.Perm ns:=by
 induction p generalizing ns with
 |nil=>exact⟨ns,h,.refl _⟩
 | cons x _ ih=>
  cases h with
  |cons k t h=>
   obtain⟨ns',h1,h2⟩:=ih h
   exact⟨k::ns',.cons k t h1,h2.cons k⟩
 | swap x y l=>
  cases h with
  |cons k t h=>
   cases h with
   |cons k2 t2 h=>exact⟨k2::k::_,.cons k2 t2 (.cons k t h),List.Perm.swap ..⟩
 |trans _ _ ih1 ih2=>
  obtain⟨n1,a1,a2⟩:=ih2 h
  obtain⟨n2,b1,b2⟩:=ih1 a1
  exact⟨n2,b1,b2.trans a2⟩
section
variable {X:Cx}
noncomputable def zmF (w:World):List V->Hp->VK->Prop:=fun xs H Q=>∃(p:Addr) (ns:List Int),xs=[.ref p]/\H p=some (.lst (ns.map V.int))/\ns.length<=1200/\∀S,H S=none->Q (.ref S) (upd H S (zfu w S ns))
theorem call_setIL (hc:X.calm=true):zbQ X (.type "set") (zmF X.w):=by
 intro pins s σ H xs us Q I rs h
 obtain⟨p,ns,rfl,hp,hl,q⟩:=h
 obtain⟨u,rfl,ru⟩:=zcf rs
 cases (show u=Value.ref p from ru)
 obtain⟨z,its,n,r,hl',e⟩:=I.lstM hp
 have hI:=zbs r
 have hln:its.length=ns.length:=by rw[<-r.length,zaq]
 refine St.call_setIL (items:=its.toArray) (ns:=ns) (I.ok.hd hc) ⟨_,e,rfl,n,rfl⟩ (by simpa [hln] using hl) (by simpa using hI) fun h' tk hS hk=> ?_
 exact⟨.ref s.heap.objs.size,_,I.laid (t':=tk) (o:=zfu X.w s.heap.objs.size ns) (fun b o e=>hk b o (Heap.lt_size e) e) (Nat.le_refl _) (zj4 hS),rfl,q _ (I.hok.fresh (Nat.le_refl _))⟩
noncomputable def ziZ (w:World):List V->Hp->VK->Prop:=fun xs H Q=>∃(S:Addr) (ns:List Int),xs=[.ref S]/\H S=some (zfu w S ns)/\ns.length<64/\
 ∀p (ns':List Int),ns'.Pairwise (·<·)->(∀x,x∈ns'↔x∈ns)->H p=none->Q (.ref p) (upd H p (.lst (ns'.map V.int)))
theorem zeH (hc:X.calm=true):zbQ X (.builtin "sorted") (ziZ X.w):=by
 intro pins s σ H xs us Q I rs h
 obtain⟨S,ns,rfl,hS,hl,q⟩:=h
 obtain⟨u,rfl,ru⟩:=zcf rs
 cases (show u=Value.ref S from ru)
 obtain⟨⟨ks,⟨L,⟨o,es,ep,t,ho,hex,hd,T,_,hp,hb,hL⟩,nd,pr⟩,hmem,hle⟩,_⟩:=(show ObjOk X.prog X.w H s.heap S (zfu X.w S ns) from I.hok S _ hS)
 have les:es.size=ks.length:=by
  rw[<-Array.length_toList,hL.length_eq,Paired.length pr]
 refine Calls.call_function_entry kind_sorted plain_sorted entry_sorted (args_sorted1 _) ?_
 unfold Builtin.«sorted»
 refine wpAny_bind (m:=checkCount "sorted" 1 1 _) (wpAny_pure ?_)
 refine wpAny_bind (zjR (St.set_src (S:=S) hex hd T hp hb) (I.ok.hd hc) ho (by rw[sizeLine_eq];lia) fun h1 tk acc hk1 hp1 hacc=> ?_)
 have hperm:acc.toList.Perm (L.map (·.2)):=by
  have e1:acc.toList=(St.wkO X.w S ep es).toList.map (·.2):=by
   refine List.ext_getElem? fun i=> ?_
   rw[List.getElem?_map,Array.getElem?_toList,Array.getElem?_toList]
   by_cases hi:i<es.size
   ·have ha:acc[i]? =some (acc[i]'(by rw[hacc.1];exact hi)):=Array.getElem?_eq_getElem _
    obtain⟨e,he,hv⟩:=hacc.2 i _ ha
    rw[ha,he,hv]
    rfl
   ·rw [Array.getElem?_eq_none (by rw[hacc.1];lia),Array.getElem?_eq_none (by rw[St.wk_size];lia)]
    rfl
  rw[e1]
  exact (St.wk_perm.trans hL).map _
 obtain⟨ms,hI,hms⟩:=zlF (zkD pr) hperm
 have lacc:acc.toList.length=ks.length:=by rw[hperm.length_eq,List.length_map,Paired.length pr]
 refine wpAny_bind (wpAny_newList ?_ (by rw[lacc,sizeLine_eq];lia))
 show wpAny _ _ _ _ _ {s with heap:=h1.push (seqObj "list" acc.toList.toArray 0),toks:=tk}
 have hat:(h1.push (seqObj "list" acc.toList.toArray 0)).get? h1.objs.size=some (seqObj "list" acc.toList.toArray 0):=Heap.get?_push_size _ rfl
 refine wpAny_bind (wpAny_holding (wpAny_call_entry slot_list_sort ⟨_,hat,rfl⟩ entry_list_sort (list_sort_tree (s:={s with heap:=h1.push (seqObj "list" acc.toList.toArray 0),toks:=tk}) hat hI (by rw[lacc];lia) fun out ns' b1 b2 b3=>⟨_,rfl, ?_⟩) (args_list_sort _)))
 have hk:∀b o,s.heap.get? b=some o->(sortedHeap (h1.push (seqObj "list" acc.toList.toArray 0)) h1.objs.size acc.toList out).get? b=some o:=fun b o g=>by
  rw[sortedHeap_old (Nat.ne_of_lt (Heap.lt_size (hk1 _ _ g))) (by rw[size_push'];exact Nat.lt_succ_of_lt (Heap.lt_size (hk1 _ _ g)))]
  exact Heap.get?_push_of_some _ (hk1 _ _ g)
 obtain⟨cc,hcc⟩:=sortedHeap_at (out:=out) (vs:=acc.toList) hat
 have pk:ns'.Perm ks:=b2.trans hms
 have nd':ns'.Nodup:=pk.nodup_iff.mpr nd
 have hlt:ns'.Pairwise (·<·):=by
  have:=List.pairwise_and_iff.mpr ⟨b3,nd'⟩
  exact this.imp fun {a b} h=>by
   have h1:=h.1
   have h2:=h.2
   lia
 refine wpAny_pure ⟨_,rfl,.ref h1.objs.size,_,I.laid (t':=tk) (o:=.lst (ns'.map V.int)) hk hp1 ?_,rfl,q _ ns' hlt (fun x=>(pk.mem_iff).trans (hmem x)) (I.hok.fresh hp1)⟩
 refine⟨?_,out.toList,cc,zdj b1,by simpa using hcc⟩
 rw[zaq,pk.length_eq,sizeLine_eq]
 lia
end
structure ZipL2 (h:Heap) (z TI TO i1 i2 a b:Addr) (i:Nat):Prop where
 z:IsZip h z TI TO .none
 ti:IsPair h TI (.ref i1) (.ref i2)
 to:∃x y,IsPair h TO x y
 one:h.IsListIter i1 a i
 two:h.IsListIter i2 b i
theorem zkE {h:Heap}{t j:Addr}{k:Nat}{its:Array Value}{u:Addr}(ht:h.IsList t its)(hj:h.IsListIter j u k):t≠j:=fun e=>by
 obtain⟨o,e1,e2,_⟩:=ht
 obtain⟨o',f1,f2,_⟩:=hj
 rw[e,f1] at e1;cases e1;rw[f2] at e2;injection e2 with z2;revert z2;decide
section
variable {prog:Program}{w:World}{A:Around}{E:Value->Shared->Prop}{s:Shared}{z TI TO i1 i2 a b:Addr}{i:Nat}{xs ys:Array Value}
theorem zhf {x y:Value}{Q:Option Value->Shared->Prop}(D:ZipNe z TI TO i1 i2)(S:ZipL2 s.heap z TI TO i1 i2 a b i)(ha:s.heap.IsList a xs)(hb:s.heap.IsList b ys)(haz:a≠z/\a≠TO)(hbz:b≠z/\b≠TO)(hx:xs[i]? =some x)(hy:ys[i]? =some y)
  (q:∀h',IsZip h' z TI TO (rawInt s.heap.objs.size)->IsPair h' TI (.ref i1) (.ref i2)->IsPair h' TO x y->h'.IsListIter i1 a (i+1)->h'.IsListIter i2 b (i+1)->IsPair h' s.heap.objs.size x y->
   (∀c o,c≠z->c≠TO->c≠i1->c≠i2->s.heap.get? c=some o->h'.get? c=some o)->Q (some (.ref s.heap.objs.size)) {s with heap:=h'}):
  wpAny (model prog w) A (pyNext (.ref z)) Q E s:=by
 obtain⟨hz,hti,⟨p0,p1,hto⟩,h1,h2⟩:=S
 have bi1:=zkE hb h1
 have hT:s.TypeIs (.ref z) "zip" :=⟨_,hz,rfl⟩
 unfold pyNext
 refine wpAny_bind (wpAny_attempt (wpAny_callSpecial?_slot (name:=Str.ofString "__next__") hT F.slot_zip_next (wpAny_call_entry F.slot_zip_next hT F.entry_zip_next ?_ (F.args_zip_next_1 _))))
 show wpAny _ _ (field (.ref z) 2 >>= _) _ _ _
 refine wpAny_bind (wpAny_field hz rfl (x:=.bool false) rfl ?_);show wpAny _ _ (field (.ref z) 3 >>= _) _ _ _
 refine wpAny_bind (wpAny_field hz rfl (x:=.ref TI) rfl (wpAny_bind (wpAny_seqItems hti rfl ?_)))
 show wpAny _ _ (Builtin.SmallTypes.ownedTupleIsFree (.ref z) >>= _) _ _ _
 refine wpAny_bind ?_
 unfold Builtin.SmallTypes.ownedTupleIsFree
 refine wpAny_bind (wpAny_field hz rfl (x:=.none) rfl (wpAny_pure ?_));simp only[if_true]
 refine wpAny_bind (wpAny_rule (wpAny_bind (wpAny_field hz rfl (x:=.ref TO) rfl (wpAny_bind (wpAny_setField_rec hz (by simp) fun g1 k1 s1=> ?_)))))
 replace k1:IsZip g1 z TI TO .ellipsis:=k1
 refine wpAny_bind ?_
 simp only[List.zipIdx_cons,List.zipIdx_nil,List.forIn_cons,List.forIn_nil]
 refine wpAny_bind (wpAny_bind (wpAny_onRaise ?_));show wpAny _ _ (Builtin.SmallTypes.nextOf (.ref i1) >>= _) _ _ _
 refine wpAny_bind (wpAny_nextOf_list_item (h1.extBut s1.extBut D.cz) (show g1.IsList a xs from let ⟨o,ho,r⟩:=ha;⟨o,s1.extBut _ _ haz.1 ho,r⟩) hx fun g2 j2 s2=>wpAny_pure ?_)
 have t2:IsPair g2 TO p0 p1:=s2.extBut _ _ D.bc (s1.extBut _ _ D.bz hto)
 refine wpAny_bind (wpAny_seqItems t2 rfl (wpAny_bind (zcJ t2 fun g3 t3 s3=> ?_)))
 replace t3:IsPair g3 TO x p1:=t3
 refine wpAny_bind (wpAny_letGo (wpAny_pure ?_))
 refine wpAny_bind (wpAny_bind (wpAny_onRaise ?_));show wpAny _ _ (Builtin.SmallTypes.nextOf (.ref i2) >>= _) _ _ _
 have e3:∀c o,c≠z->c≠i1->c≠TO->s.heap.get? c=some o->g3.get? c=some o:=fun c o c1 c2 c3 e=>s3.extBut _ _ c3 (s2.extBut _ _ c2 (s1.extBut _ _ c1 e))
 have h23:g3.IsListIter i2 b i:=let ⟨o,ho,r⟩:=h2;⟨o,e3 _ _ D.dz D.cd.symm D.bd.symm ho,r⟩
 have hb3:g3.IsList b ys:=let ⟨o,ho,r⟩:=hb;⟨o,e3 _ _ hbz.1 bi1 hbz.2 ho,r⟩
 refine wpAny_bind (wpAny_nextOf_list_item h23 hb3 hy fun g4 j4 s4=>wpAny_pure ?_)
 have t4:IsPair g4 TO x p1:=s4.extBut _ _ D.bd t3
 refine wpAny_bind (wpAny_seqItems t4 rfl (wpAny_bind (zcJ t4 fun g5 t5 s5=> ?_)))
 replace t5:IsPair g5 TO x y:=t5
 refine wpAny_bind (wpAny_letGo (wpAny_pure (wpAny_pure ?_)))
 refine wpAny_bind (wpAny_seqItems t5 rfl (wpAny_bind (wpAny_newTuple ?_)))
 have z5:g5.objs.size=s.heap.objs.size:=by rw[s5.1,s4.1,s3.1,s2.1,s1.1]
 have e5:∀c o,c≠z->c≠TO->c≠i1->c≠i2->s.heap.get? c=some o->g5.get? c=some o:=fun c o c1 c2 c3 c4 e=>s5.extBut _ _ c2 (s4.extBut _ _ c4 (e3 c o c1 c3 c2 e))
 have k5:IsZip g5 z TI TO .ellipsis:=s5.extBut _ _ D.bz.symm (s4.extBut _ _ D.dz.symm (s3.extBut _ _ D.bz.symm (s2.extBut _ _ D.cz.symm k1)))
 have m1:g5.IsListIter i1 a (i+1):=((j2.extBut s3.extBut D.bc.symm).extBut s4.extBut D.cd).extBut s5.extBut D.bc.symm
 have m2:g5.IsListIter i2 b (i+1):=j4.extBut s5.extBut D.bd.symm
 have zlt:z<g5.objs.size:=Heap.lt_size k5
 show wpAny _ _ (Builtin.SmallTypes.ownedTupleHandOut (.ref z) (.ref g5.objs.size) >>= _) _ _ _
 refine wpAny_bind ?_
 unfold Builtin.SmallTypes.ownedTupleHandOut
 have k6:IsZip (g5.push {cls:=.type "tuple",data:=.seq #[x,y]}) z TI TO .ellipsis:=Heap.get?_push_of_some _ k5
 refine wpAny_bind (wpAny_setField_rec k6 (by simp) fun g7 k7 s7=> ?_)
 replace k7:IsZip g7 z TI TO (rawInt g5.objs.size):=k7
 refine wpAny_setField_rec k7 (by simp) fun g8 k8 s8=> ?_
 replace k8:IsZip g8 z TI TO (rawInt g5.objs.size):=k8
 have up:∀c o,c≠z->g5.get? c=some o->g8.get? c=some o:=fun c o c1 e=>s8.extBut _ _ c1 (s7.extBut _ _ c1 (Heap.get?_push_of_some _ e))
 have t8:IsPair g8 g5.objs.size x y:=s8.extBut _ _ (Nat.ne_of_gt zlt) (s7.extBut _ _ (Nat.ne_of_gt zlt) (Heap.get?_push_size _ rfl))
 rw[z5] at k8 t8
 refine wpAny_pure ⟨_,rfl,wpAny_pure ?_⟩
 show Q (some (.ref g5.objs.size)) _
 rw[z5]
 exact q g8 k8 (up _ _ D.az (e5 _ _ D.az D.ab D.ac D.ad hti)) (up _ _ D.bz t5) (let ⟨o,ho,r⟩:=m1;⟨o,up _ _ D.cz ho,r⟩) (let ⟨o,ho,r⟩:=m2;⟨o,up _ _ D.dz ho,r⟩) t8 fun c o c1 c2 c3 c4 e=>up c o c1 (e5 c o c1 c2 c3 c4 e)
theorem zi0 {Q:Option Value->Shared->Prop}(hh:A.in1.handled=none)(D:ZipNe z TI TO i1 i2)(S:ZipL2 s.heap z TI TO i1 i2 a b i)(ha:s.heap.IsList a xs)(hb:s.heap.IsList b ys)(haz:a≠z/\a≠TO)(hbz:b≠z/\b≠TO)(hend:xs[i]? =none∨ys[i]? =none)
  (q:∀h',(∀c o,c≠z->c≠TO->c≠i1->c≠i2->s.heap.get? c=some o->h'.get? c=some o)->Q none {s with heap:=h'}):
  wpAny (model prog w) A (pyNext (.ref z)) Q E s:=by
 obtain⟨hz,hti,⟨p0,p1,hto⟩,h1,h2⟩:=S
 have bi1:=zkE hb h1
 have hT:s.TypeIs (.ref z) "zip" :=⟨_,hz,rfl⟩
 unfold pyNext
 refine wpAny_bind (wpAny_attempt (wpAny_callSpecial?_slot (name:=Str.ofString "__next__") hT F.slot_zip_next (wpAny_call_entry F.slot_zip_next hT F.entry_zip_next ?_ (F.args_zip_next_1 _))))
 show wpAny _ _ (field (.ref z) 2 >>= _) _ _ _
 refine wpAny_bind (wpAny_field hz rfl (x:=.bool false) rfl ?_);show wpAny _ _ (field (.ref z) 3 >>= _) _ _ _
 refine wpAny_bind (wpAny_field hz rfl (x:=.ref TI) rfl (wpAny_bind (wpAny_seqItems hti rfl ?_)))
 show wpAny _ _ (Builtin.SmallTypes.ownedTupleIsFree (.ref z) >>= _) _ _ _
 refine wpAny_bind ?_
 unfold Builtin.SmallTypes.ownedTupleIsFree
 refine wpAny_bind (wpAny_field hz rfl (x:=.none) rfl (wpAny_pure ?_));simp only[if_true]
 refine wpAny_bind (wpAny_rule (wpAny_bind (wpAny_field hz rfl (x:=.ref TO) rfl (wpAny_bind (wpAny_setField_rec hz (by simp) fun g1 k1 s1=> ?_)))))
 replace k1:IsZip g1 z TI TO .ellipsis:=k1
 refine wpAny_bind ?_
 simp only[List.zipIdx_cons,List.zipIdx_nil,List.forIn_cons,List.forIn_nil]
 have fin:∀(g:Heap) (e:Addr),IsZip g z TI TO .ellipsis->(∀c o,c≠z->c≠TO->c≠i1->c≠i2->s.heap.get? c=some o->g.get? c=some o)->(∃o,g.get? e=some o/\o.cls=.type "StopIteration")->
   wpAny (model prog w) A.in1 (setField (.ref z) 0 .none) (fun _ s'=>wpAny (model prog w) A (do if<-isInstance (.ref e) (.type "StopIteration") then pure none else throw (Value.ref e)) Q E s') (fun e' s'=>wpAny (model prog w) A (do if<-isInstance e' (.type "StopIteration") then pure none else throw e') Q E s') {s with heap:=g}:=by
  rintro g e kz kk ⟨oe,f1,f2⟩
  have ez:e≠z:=fun y=>by subst y;rw[kz] at f1;cases f1;injection f2 with z2;revert z2;decide
  refine wpAny_setField_rec kz (by simp) fun g' _ s'=> ?_
  refine wpAny_bind (wpAny_isInstance (T:= "StopIteration") (b:=true) ⟨oe,s'.extBut _ _ ez f1,f2⟩ isSubtype_stop ?_)
  exact wpAny_pure (q g' fun c o c1 c2 c3 c4 y=>s'.extBut _ _ c1 (kk c o c1 c2 c3 c4 y))
 refine wpAny_bind (wpAny_bind (wpAny_onRaise ?_));show wpAny _ _ (Builtin.SmallTypes.nextOf (.ref i1) >>= _) _ _ _
 cases hx:xs[i]? with
 |none=>
  refine wpAny_bind (wpAny_nextOf_list_end hh (h1.extBut s1.extBut D.cz) (show g1.IsList a xs from let ⟨o,ho,r⟩:=ha;⟨o,s1.extBut _ _ haz.1 ho,r⟩) hx fun g2 e s2 he=> ?_)
  exact fin g2 e (s2 _ _ D.cz.symm k1) (fun c o c1 _ c3 _ y=>s2 _ _ c3 (s1.extBut _ _ c1 y)) he
 |some x=>
  have hy:ys[i]? =none:=by rcases hend with h|h;rw[hx] at h;cases h;exact h
  refine wpAny_bind (wpAny_nextOf_list_item (h1.extBut s1.extBut D.cz) (show g1.IsList a xs from let ⟨o,ho,r⟩:=ha;⟨o,s1.extBut _ _ haz.1 ho,r⟩) hx fun g2 j2 s2=>wpAny_pure ?_)
  have t2:IsPair g2 TO p0 p1:=s2.extBut _ _ D.bc (s1.extBut _ _ D.bz hto)
  refine wpAny_bind (wpAny_seqItems t2 rfl (wpAny_bind (zcJ t2 fun g3 t3 s3=> ?_)))
  refine wpAny_bind (wpAny_letGo (wpAny_pure ?_))
  refine wpAny_bind (wpAny_bind (wpAny_onRaise ?_));show wpAny _ _ (Builtin.SmallTypes.nextOf (.ref i2) >>= _) _ _ _
  have e3:∀c o,c≠z->c≠i1->c≠TO->s.heap.get? c=some o->g3.get? c=some o:=fun c o c1 c2 c3 e=>s3.extBut _ _ c3 (s2.extBut _ _ c2 (s1.extBut _ _ c1 e))
  have h23:g3.IsListIter i2 b i:=let ⟨o,ho,r⟩:=h2;⟨o,e3 _ _ D.dz D.cd.symm D.bd.symm ho,r⟩
  have hb3:g3.IsList b ys:=let ⟨o,ho,r⟩:=hb;⟨o,e3 _ _ hbz.1 bi1 hbz.2 ho,r⟩
  refine wpAny_bind (wpAny_nextOf_list_end hh h23 hb3 hy fun g4 e s4 he=> ?_)
  exact fin g4 e (s4 _ _ D.dz.symm (s3.extBut _ _ D.bz.symm (s2.extBut _ _ D.cz.symm k1))) (fun c o c1 c2 c3 c4 y=>s4 _ _ c4 (e3 c o c1 c3 c2 y)) he
noncomputable abbrev zL1 (h:Heap)(l1:Addr):Heap:=h.push {cls:=.type "list_iterator",data:=.fields #[.ref l1,.int 0 0]}
noncomputable abbrev zL2 (h:Heap)(l1 l2:Addr):Heap:=(zL1 h l1).push {cls:=.type "list_iterator",data:=.fields #[.ref l2,.int 0 0]}
noncomputable abbrev zL3 (h:Heap)(l1 l2:Addr):Heap:=(zL2 h l1 l2).push {cls:=.type "tuple",data:=.seq #[.ref h.objs.size,.ref (zL1 h l1).objs.size]}
noncomputable abbrev zL4 (h:Heap)(l1 l2:Addr):Heap:=(zL3 h l1 l2).push {cls:=.type "tuple",data:=.seq #[.none,.none]}
noncomputable abbrev zL5 (h:Heap)(l1 l2:Addr):Heap:=(zL4 h l1 l2).push {cls:=.type "zip",data:=.fields #[.none,.bool false,.bool false,.ref (zL2 h l1 l2).objs.size,.ref (zL3 h l1 l2).objs.size]}
theorem zi1 (l1 l2:Addr)(xs ys:Array Value):
  Meets (Builtin.«zip.__new__» ⟨[.type "zip",.ref l1,.ref l2],[]⟩) (fun _ R s=>s.heap.IsList l1 xs/\s.heap.IsList l2 ys/\R (.ok (.ret (.ref (zL4 s.heap l1 l2).objs.size))) {s with heap:=zL5 s.heap l1 l2}):=
 .of_wp fun prog w A R s h=>by
  obtain⟨hp,g,d,tk,os⟩:=s;obtain⟨hl1,hl2,h⟩:=h
  have hsub:=sub_zip
  have hL1:Heap.IsList (Shared.heap ⟨hp,g,d,tk,os⟩) l1 xs:=hl1
  have hL2:Heap.IsList (Shared.heap ⟨hp.push {cls:=.type "list_iterator",data:=.fields #[.ref l1,.int 0 0]},g,d,tk,os⟩) l2 ys:=Heap.IsList.push hl2 _
  wp_walk using wpAny_pyIter_list hL1,wpAny_pyIter_list hL2
  exact⟨_,rfl,h⟩
theorem zhg {l1 l2:Addr}{Q:Value->Shared->Prop}(hl1:s.heap.IsList l1 xs)(hl2:s.heap.IsList l2 ys)
  (h:∀h',ZipL2 h' (s.heap.objs.size+4) (s.heap.objs.size+2) (s.heap.objs.size+3) s.heap.objs.size (s.heap.objs.size+1) l1 l2 0->(∀c o,s.heap.get? c=some o->h'.get? c=some o)->Q (.ref (s.heap.objs.size+4)) {s with heap:=h'}):
  wpAny (model prog w) A (call (.type "zip") [.ref l1,.ref l2]) Q E s:=by
 refine callType_new F.called_zip (by decide) (F.typeCall_zip_2 _ _) (F.newCall_zip_2 _ _) (fun obj=>F.args_object_init_3 obj _ _) F.entry_zip_new (zi1 l1 l2 xs ys) ⟨hl1,hl2, ?_⟩
 have z1:(zL1 s.heap l1).objs.size=s.heap.objs.size+1:=Heap.size_push ..
 have z2:(zL2 s.heap l1 l2).objs.size=s.heap.objs.size+2:=by rw[Heap.size_push,z1]
 have z3:(zL3 s.heap l1 l2).objs.size=s.heap.objs.size+3:=by rw[Heap.size_push,z2]
 have z4:(zL4 s.heap l1 l2).objs.size=s.heap.objs.size+4:=by rw[Heap.size_push,z3]
 have p1:∀{g:Heap} {c o u},g.get? c=some o->(g.push u).get? c=some o:=fun e=>Heap.get?_push_of_some _ e
 have g5:(zL5 s.heap l1 l2).get? (zL4 s.heap l1 l2).objs.size=some _:=Heap.get?_push_size _ rfl
 have g4:(zL5 s.heap l1 l2).get? (zL3 s.heap l1 l2).objs.size=some _:=p1 (Heap.get?_push_size _ rfl)
 have g3:(zL5 s.heap l1 l2).get? (zL2 s.heap l1 l2).objs.size=some _:=p1 (p1 (Heap.get?_push_size _ rfl))
 have g2:(zL5 s.heap l1 l2).get? (zL1 s.heap l1).objs.size=some _:=p1 (p1 (p1 (Heap.get?_push_size _ rfl)))
 have g1:(zL5 s.heap l1 l2).get? s.heap.objs.size=some _:=p1 (p1 (p1 (p1 (Heap.get?_push_size _ rfl))))
 show _/\_
 rw[z2,z3,z4] at g5
 rw[z1,z2] at g3
 rw[z3] at g4
 rw[z1] at g2
 rw[z4]
 exact⟨⟨_,g5,rfl⟩,h _ ⟨g5,g3,⟨_,_,g4⟩,⟨_,g1,rfl,rfl⟩,⟨_,g2,rfl,rfl⟩⟩ fun c o x=>p1 (p1 (p1 (p1 (p1 x))))⟩
end
noncomputable def Itll (K:PySem.W.Frag)(a b:Addr):It:=
 ⟨fun i H=>∃xs ys x y,SqL K H a xs/\SqL K H b ys/\xs[i]? =some x/\ys[i]? =some y,fun i H v H'=>∃t x y,H t=none/\v=.ref t/\H'=upd H t (.tup [x,y])/\∀xs ys,SqL K H a xs->SqL K H b ys->xs[i]? =some x/\ys[i]? =some y,
  fun i H=>∃xs ys,SqL K H a xs/\SqL K H b ys/\(xs[i]? =none∨ys[i]? =none)⟩
theorem zdY {z TI TO i1 i2:Addr}{h:Heap}{a b:Addr}{i:Nat}(S:ZipL2 h z TI TO i1 i2 a b i)(h1:TI≠TO)(h2:i1≠i2):ZipNe z TI TO i1 i2:=by
 obtain⟨hz,hti,⟨p0,p1,hto⟩,⟨o1,e1,c1,d1⟩,⟨o2,e2,c2,d2⟩⟩:=S
 refine⟨fun e=> ?_,fun e=> ?_,fun e=> ?_,fun e=> ?_,h1,fun e=> ?_,fun e=> ?_,fun e=> ?_,fun e=> ?_,h2⟩
 ·have q:=(show h.get? TI=_ from hti);rw[e,show h.get? z=_ from hz] at q;injection q with q;injection q with q1;injection q1 with q2;revert q2;decide
 ·have q:=(show h.get? TO=_ from hto);rw[e,show h.get? z=_ from hz] at q;injection q with q;injection q with q1;injection q1 with q2;revert q2;decide
 ·rw[e,hz] at e1;cases e1;injection c1 with q2;revert q2;decide
 ·rw[e,hz] at e2;cases e2;injection c2 with q2;revert q2;decide
 ·rw[<-e,hti] at e1;cases e1;injection c1 with q2;revert q2;decide
 ·rw[<-e,hti] at e2;cases e2;injection c2 with q2;revert q2;decide
 ·rw[<-e,hto] at e1;cases e1;injection c1 with q2;revert q2;decide
 ·rw[<-e,hto] at e2;cases e2;injection c2 with q2;revert q2;decide
theorem zhh {P:Program}{w:World}{K:PySem.W.Frag}{els:List Expr}{kx}{tp:Pos}(a b z TI TO i1 i2:Addr)(h1:TI≠TO)(h2:i1≠i2):Turn P w K (.Tuple els kx tp) (Itll K a b) [z,TI,TO,i1,i2] z (fun i h=>ZipL2 h z TI TO i1 i2 a b i) where
 mem:=by simp
 obj:=fun i h st c hc=>by
  obtain⟨hz,hti,⟨p0,p1,hto⟩,⟨o1,e1,c1,d1⟩,⟨o2,e2,c2,d2⟩⟩:=st
  simp only[List.mem_cons,List.not_mem_nil,or_false] at hc
  rcases hc with rfl|rfl|rfl|rfl|rfl
  ·exact⟨_,hz,fun v q=>by cases q⟩
  ·exact⟨_,hti,fun v q=>by cases q⟩
  ·exact⟨_,hto,fun v q=>by cases q⟩
  ·exact⟨_,e1,fun v q=>by rw[d1] at q;cases q⟩
  ·exact⟨_,e2,fun v q=>by rw[d2] at q;cases q⟩
 keep:=fun i h h' st k=>by
  obtain⟨hz,hti,⟨p0,p1,hto⟩,⟨o1,e1,r1⟩,⟨o2,e2,r2⟩⟩:=st
  exact⟨k _ (by simp) _ hz,k _ (by simp) _ hti,⟨p0,p1,k _ (by simp) _ hto⟩,⟨o1,k _ (by simp) _ e1,r1⟩,⟨o2,k _ (by simp) _ e2,r2⟩⟩
 item:=by
  intro X hP hw hK hc i pins s σ H E I hf st hg
  subst hP hw hK
  obtain⟨xs,ys,x,y,hqa,hqb,hx,hy⟩:=hg
  obtain⟨its,rv,p,_⟩:=I.list hqa
  obtain⟨jts,rw',p',_⟩:=I.list hqb
  obtain⟨u,hu,ru⟩:=rv.get hx
  obtain⟨v,hv,rvv⟩:=rw'.get hy
  have D:=zdY st h1 h2
  obtain⟨hz,hti,⟨p0,p1,hto⟩,hi1,hi2⟩:=id st
  have apart:∀{t:Addr} {zs:List V},SqT X.K H t zs->t≠z/\t≠TO:=fun hq=>⟨SqT.fpNe I hq (hf z (by simp)),SqT.fpNe I hq (hf TO (by simp))⟩
  have apart':∀{t:Addr} {zs:List V},SqL X.K H t zs->t≠z/\t≠TO:=fun hq=>⟨SqL.fpNe I hq (hf z (by simp)),SqL.fpNe I hq (hf TO (by simp))⟩
  refine zhf D st p.isList p'.isList (apart' hqa) (apart' hqb) (by simpa using hu) (by simpa using hv) fun g k1 k2 k3 k4 k5 k6 k7=> ?_
  refine⟨_,rfl,wpAny_letOwnedTupleGo_zip k1 fun g2 l1 s2=> ?_⟩
  have hne0:s.heap.objs.size≠z:=Nat.ne_of_gt (Heap.lt_size hz)
  have keep:∀c o,c∉[z,TI,TO,i1,i2]->s.heap.get? c=some o->g2.get? c=some o:=fun c o hc e=>s2.extBut _ _ (fun q=>hc (by simp[q])) (k7 c o (fun q=>hc (by simp[q])) (fun q=>hc (by simp[q])) (fun q=>hc (by simp[q])) (fun q=>hc (by simp[q])) e)
  refine⟨.ref s.heap.objs.size,_,I.turnedT (h':=g2) (t':=s.toks) (xs:=[x,y]) hf keep (.cons ru (.cons rvv .nil)) ⟨_,s2.extBut _ _ hne0 k6,rfl,⟨_,rfl⟩,rfl,rfl⟩ (by show 2<=sizeLine;decide),rfl,
   ⟨_,x,y,I.hok.fresh (Nat.le_refl _),rfl,rfl,fun as bs ha hb=>⟨by rw[I.list_inj ha hqa];exact hx,by rw[I.list_inj hb hqb];exact hy⟩⟩,⟨l1,s2.extBut _ _ D.az k2,⟨_,_,s2.extBut _ _ D.bz k3⟩,k4.extBut s2.extBut D.cz,k5.extBut s2.extBut D.dz⟩,fun c hc=> ?_⟩
  have:c<s.heap.objs.size:=by
   obtain⟨o1,e1,_⟩:=hi1
   obtain⟨o2,e2,_⟩:=hi2
   simp only[List.mem_cons,List.not_mem_nil,or_false] at hc
   rcases hc with rfl|rfl|rfl|rfl|rfl
   ·exact Heap.lt_size hz
   ·exact Heap.lt_size hti
   ·exact Heap.lt_size hto
   ·exact Heap.lt_size e1
   ·exact Heap.lt_size e2
  rw[zaj (Nat.ne_of_lt this)]
  exact (hf c hc).1
 done:=by
  intro X hP hw hK hc i pins s σ H E I hf st hg
  subst hP hw hK
  obtain⟨xs,ys,hqa,hqb,hx⟩:=hg
  obtain⟨its,rv,p,_⟩:=I.list hqa
  obtain⟨jts,rw',p',_⟩:=I.list hqb
  have D:=zdY st h1 h2
  have apart:∀{t:Addr} {zs:List V},SqT X.K H t zs->t≠z/\t≠TO:=fun hq=>⟨SqT.fpNe I hq (hf z (by simp)),SqT.fpNe I hq (hf TO (by simp))⟩
  have apart':∀{t:Addr} {zs:List V},SqL X.K H t zs->t≠z/\t≠TO:=fun hq=>⟨SqL.fpNe I hq (hf z (by simp)),SqL.fpNe I hq (hf TO (by simp))⟩
  refine zi0 (I.ok.hd hc) D st p.isList p'.isList (apart' hqa) (apart' hqb) (hx.elim (fun q=>.inl (by simpa using rv.none_of q)) fun q=>.inr (by simpa using rw'.none_of q)) fun g k=>⟨rfl, ?_⟩
  exact I.turnedN (t':=s.toks) hf fun c o hc e=>k c o (fun q=>hc (by simp[q])) (fun q=>hc (by simp[q])) (fun q=>hc (by simp[q])) (fun q=>hc (by simp[q])) e
 self:=fun _ _ _ _ _ st h=>wpAny_pyIter_zip st.z h
section
variable {X:Cx}
noncomputable def zmG (K:PySem.W.Frag)(ta:TA):TI:=fun σ H R=>ta σ H fun vs H1=>∃a b,vs=[.ref a,.ref b]/\(∃xs,SqL K H1 a xs)/\(∃ys,SqL K H1 b ys)/\R (Itll K a b) H1
theorem zj5 {els:List Expr}{kx}{tp:Pos}{l l':Expr}{ta:TA}{p pos:Pos}(hg:Gl X "zip")(hm:X.mg "zip" =none)(ha:PA X [l,l'] ta)(hs:starEach [l,l'] X.env=[(false,eval l X.env),(false,eval l' X.env)]:=by rfl)(hs2:starEach [l'] X.env=[(false,eval l' X.env)]:=by rfl):
  PI X (.Tuple els kx tp) (.Call (.Name "zip" p) [l,l'] [] pos) (zmG X.K ta):=by
 intro pins s σ H R I h
 refine Call_ (zcT I hg hm boot_zip (PyProof.Rows.callWith_type1 (thn (ha pos pins s σ H _ I h) fun us s1 zq=> ?_) (by rw[hs,hs2]) (by rw[hs2];rfl)))
 obtain⟨vs,H1,I1,r1,q1⟩:=zq
 obtain⟨a,b,rfl,⟨xs,hqa⟩,⟨ys,hqb⟩,q⟩:=q1
 obtain⟨u,v,rfl,ru,rv⟩:=zjb r1
 cases (show u=Value.ref a from ru)
 cases (show v=Value.ref b from rv)
 obtain⟨its,_,p1,_⟩:=I1.list hqa
 obtain⟨jts,_,p2,_⟩:=I1.list hqb
 refine zhg (show s1.heap.IsList a its.toArray from p1.isList) (show s1.heap.IsList b jts.toArray from p2.isList) fun h' S hk=>wpAny_pyIter_zip S.z ?_
 have I2:Inv X pins σ H1 {s1 with heap:=h'}:=I1.kept (t':=s1.toks) hk
 refine⟨_,_,_,_,H1,rfl,I2,zhh a b _ _ _ _ _ (Nat.ne_of_lt (Nat.lt_succ_self _)) (Nat.ne_of_lt (Nat.lt_succ_self _)),S,fun c hc=> ?_,q⟩
 have:s1.heap.objs.size<=c:=by
  simp only[List.mem_cons,List.not_mem_nil,or_false] at hc
  rcases hc with rfl|rfl|rfl|rfl|rfl<;>first|exact Nat.le_refl _|exact Nat.le_add_right _ _|exact Nat.le_succ _|exact Nat.le_succ_of_le (Nat.le_add_right _ _)
 exact I1.fpOk this (I1.hok.fresh this)
end
theorem zi2 {K:PySem.W.Frag}{a b:Addr}{xs ys:List V}{g:TG}{tb:TS}{D:Ends}{σ:L2.St}{H:Hp}(Pv:Nat->L2.St->Hp->Prop)(h0:Pv 0 σ H)(he:xs.length=ys.length)(hl:∀i σ H,i<=xs.length->Pv i σ H->SqL K H a xs/\SqL K H b ys)
  (hs:∀i x y t σ H,xs[i]? =some x->ys[i]? =some y->Pv i σ H->H t=none->g (.ref t) σ (upd H t (.tup [x,y])) fun σ2 H2=>tb {D with nx:=Pv (i+1),ct:=Pv (i+1),bk:=D.nx} σ2 H2) (hd:∀σ H,Pv xs.length σ H->D.nx σ H):
  ∃W:Nat->Nat->L2.St->Hp->Prop,(∃m,W 0 m σ H)/\∀i m σ H,W i m σ H->
   ((Itll K a b).stop i H/\D.nx σ H)∨((Itll K a b).go i H/\∃N:L2.St->Hp->Prop,(∀σ' H',N σ' H'->∃m',m'<m/\W (i+1) m' σ' H')/\∀x H',(Itll K a b).yld i H x H'->g x σ H' fun σ2 H2=>tb {D with nx:=N,ct:=N,bk:=D.nx} σ2 H2):=by
 refine⟨fun i m σ H=>m=xs.length-i/\i<=xs.length/\Pv i σ H,⟨xs.length,by simp,Nat.zero_le _,h0⟩, ?_⟩
 rintro i m σ H ⟨rfl,hi,p⟩
 obtain⟨q1,q2⟩:=hl i σ H hi p
 by_cases hlt:i<xs.length
 ·refine .inr ⟨⟨xs,ys,xs[i],ys[i],q1,q2,by simp[hlt],by simp[<-he,hlt]⟩,Pv (i+1),fun σ' H' p'=>⟨xs.length-(i+1),by lia,rfl,hlt,p'⟩,fun x H' y=> ?_⟩
  obtain⟨t,x',y',ht,rfl,rfl,y⟩:=y
  obtain⟨e1,e2⟩:=y xs ys q1 q2
  exact hs i x' y' t σ _ e1 e2 p ht
 ·have e:i=xs.length:=by lia
  subst e
  exact .inl ⟨⟨xs,ys,q1,q2,.inl (by simp)⟩,hd σ H p⟩
theorem zgI:∀{a b:List Int} {x y:Int},a.length=b.length->HT.lexLt a b=true->HT.lexLt (a++[x]) (b++[y])=true
 |[],[],_,_,_,h=>by cases h
 | a::l,b::r,x,y,hl,h=>by
  rw[List.cons_append,List.cons_append,HT.lexLt_cons]
  rw[HT.lexLt_cons] at h
  by_cases c:a=b
  ·rw [if_pos c] at h ⊢
   exact zgI (by simpa using hl) h
  ·rw [if_neg c] at h ⊢
   exact h
theorem zgJ:∀(a:List Int) {x y:Int},x<y->HT.lexLt (a++[x]) (a++[y])=true
 |[],x,y,h=>by
  show HT.lexLt [x] [y]=true
  rw[HT.lexLt_cons,if_neg (by lia)]
  exact decide_eq_true h
 |a::l,x,y,h=>by
  rw[List.cons_append,List.cons_append,HT.lexLt_cons,if_pos rfl]
  exact zgJ l h
theorem zlG (m:Nat)(b:List Int):(zaB m b).Pairwise (·<·):=(zk1 m).filter _
theorem zi3 (m:Nat):∀k,(zaw m [[]] k).Pairwise fun a b=>HT.lexLt a b=true
 |0=>List.pairwise_singleton _ _
 | k+1=>by
  show (zbR m (zaw m [[]] k)).Pairwise _
  unfold zbR
  rw[List.pairwise_flatMap]
  refine⟨fun b _=> ?_, ?_⟩
  ·rw [List.pairwise_map]
   exact (zlG m b).imp fun h=>zgJ b h
  ·refine (zi3 m k).imp_of_mem fun {a b} ha hb h=> ?_
   intro x hx y hy
   obtain⟨x',_,rfl⟩:=List.mem_map.mp hx
   obtain⟨y',_,rfl⟩:=List.mem_map.mp hy
   exact zgI (by rw[zaL ha,zaL hb]) h
theorem zna (rows:List (List Int))(ends:List Int)(m:Nat):(lM rows ends m []).Pairwise fun a b=>HT.lexLt a b=true:=(zi3 m _).filter _
theorem zkF:∀{a b:List Int},HT.lexLt a b=true->HT.lexLt b a=false/\a≠b:=fun {a b} h=>by
 refine⟨?_,fun e=> ?_⟩
 ·cases h2:HT.lexLt b a with
  |false=>rfl
  |true=>
   have:=Srt.lex_trans a b a h h2
   rw[Srt.lex_irr] at this
   cases this
 ·rw [e,Srt.lex_irr] at h
  cases h
theorem zkG (f g:List Int->Bool):∀l:List (List Int),(l.countP fun o=>f o&&g o)+(l.countP fun o=>f o||g o)=l.countP f+l.countP g
 |[]=>rfl
 |o::l=>by
  have:=zkG f g l
  simp only[List.countP_cons]
  cases f o<;>cases g o<;>simp<;>lia
structure EndOk (N:Nat) (ends:List Int):Prop where
 rng:∀s∈ends,0<=s/\s<(N:Int)
 nd:ends.Nodup
 len:ends.length<=N
theorem EndOk.sub {N:Nat}{ends:List Int}(h:ends.Sublist (num0 N)):EndOk N ends:=by
 refine⟨fun s hs=>zc2 (h.subset hs),List.Nodup.sublist h (zbm N), ?_⟩
 have:=h.length_le
 rwa [zbj] at this
theorem zbZ (N:Nat)(e:List Int):EndOk N (oppE N e):=.sub List.filter_sublist
theorem zda (n1 n2:Nat)(e1 e2:List Int):EndOk (n1*n2) (zbu n1 n2 e1 e2):=.sub List.filter_sublist
theorem zkH {N N':Nat}{rows rows':List (List Int)}{ends ends':List Int}(h:Rws N rows)(h':Rws N' rows')(e:EndOk N ends)(e':EndOk N' ends')(n:Nat)(hm:∀o,metB rows ends o=metB rows' ends' o):metZ rows N ends n=metZ rows' N' ends' n:=by
 rw[<-zbh h.1 h.2.1 h.2.2 (fun s hs=>(e.rng s hs).1) e.nd n,<-zbh h'.1 h'.2.1 h'.2.2 (fun s hs=>(e'.rng s hs).1) e'.nd n]
 exact congrArg (fun f=>((List.countP f (allA n):Nat):Int)) (funext hm)
theorem zj6 {n1 n2:Nat}{r1 r2:List (List Int)}{e1 e2:List Int}(h1:Rws n1 r1)(h2:Rws n2 r2)(k1:EndOk n1 e1)(k2:EndOk n2 e2)(n:Nat):
  metZ (zba r1 r2) (n1*n2) (zbu n1 n2 e1 e2) n+metZ (zba r1 r2) (n1*n2) (eitE n1 n2 e1 e2) n=metZ r1 n1 e1 n+metZ r2 n2 e2 n:=by
 have hb:=zbA h1 h2
 have kb:=zda n1 n2 e1 e2
 have ke:EndOk (n1*n2) (eitE n1 n2 e1 e2):=zbZ _ _
 rw[<-zbh hb.1 hb.2.1 hb.2.2 (fun s hs=>(kb.rng s hs).1) kb.nd n,<-zbh hb.1 hb.2.1 hb.2.2 (fun s hs=>(ke.rng s hs).1) ke.nd n,
  <-zbh h1.1 h1.2.1 h1.2.2 (fun s hs=>(k1.rng s hs).1) k1.nd n,<-zbh h2.1 h2.2.1 h2.2.2 (fun s hs=>(k2.rng s hs).1) k2.nd n]
 have a1:(fun o=>metB (zba r1 r2) (zbu n1 n2 e1 e2) o)=fun o=>metB r1 e1 o&&metB r2 e2 o:=funext fun o=>zc3 h1 h2 e1 e2 o
 have a2:(fun o=>metB (zba r1 r2) (eitE n1 n2 e1 e2) o)=fun o=>metB r1 e1 o||metB r2 e2 o:=funext fun o=>zdS h1 h2 e1 e2 o
 rw[a1,a2]
 have:=zkG (fun o=>metB r1 e1 o) (fun o=>metB r2 e2 o) (allA n)
 lia
theorem zi4 {n1 n2:Nat}{r1 r2:List (List Int)}{e1 e2:List Int}(h1:Rws n1 r1)(h2:Rws n2 r2)(n:Nat):
  metZ (zba r1 r2) (n1*n2) (oppE (n1*n2) (zbu n1 n2 e1 e2)) n=metZ (zba r1 r2) (n1*n2) (eitE n1 n2 (oppE n1 e1) (oppE n2 e2)) n:=by
 have hb:=zbA h1 h2
 refine zkH hb hb (zbZ _ _) (zbZ _ _) n fun o=> ?_
 have a1:=zdS h1 h2 (oppE n1 e1) (oppE n2 e2) o
 refine Eq.trans ?_ a1.symm
 rw[zbX hb,zc3 h1 h2,zbX h1,zbX h2]
 cases metB r1 e1 o<;>cases metB r2 e2 o<;>rfl
theorem zj7 {n1 n2:Nat}{r1 r2:List (List Int)}{e1 e2:List Int}(h1:Rws n1 r1)(h2:Rws n2 r2)(n:Nat):
  metZ (zba r1 r2) (n1*n2) (oppE (n1*n2) (oppE (n1*n2) (zbu n1 n2 e1 e2))) n=metZ (zba r1 r2) (n1*n2) (zbu n1 n2 e1 e2) n:=by
 have hb:=zbA h1 h2
 refine zkH hb hb (zbZ _ _) (zda _ _ _ _) n fun o=> ?_
 rw[zbX hb,zbX hb,Bool.not_not]
theorem zmH {N:Nat}{rows:List (List Int)}{ends:List Int}(h:Rws N rows)(e:EndOk N ends)(m:Nat):metZ rows N ends m=((lM rows ends m []).length:Int):=by
 rw[<-zbh h.1 h.2.1 h.2.2 (fun s hs=>(e.rng s hs).1) e.nd m,List.countP_eq_length_filter]
 rw[List.filter_congr (fun o _=>show metB rows ends o=decide (goZ rows (zal o)∈ends) from za1 _ _)]
 rfl
theorem zmI {rows:List (List Int)}{ends:List Int}{m:Nat}{o:List Int}(h:o∈lM rows ends m []):o∈zaw m [[]] m/\metB rows ends o=true:=by
 obtain⟨h1,h2⟩:=List.mem_filter.mp h
 exact⟨h1,by rw[show metB rows ends o=decide (goZ rows (zal o)∈ends) from za1 _ _];exact h2⟩
noncomputable def KeepN (p:Addr)(H H':Hp):Prop:=∀b o,H b=some o->b≠p->(∀ps,o≠.tbl ps)->H' b=some o
theorem KeepN.trans {p:Addr}{H H' H'':Hp}(a:KeepN p H H')(b:KeepN p H' H''):KeepN p H H'':=fun x o e n k=>b x o (a x o e n k) n k
theorem SameN.kn {p:Addr}{H H':Hp}(s:SameN H H'):KeepN p H H':=fun b o e _ k=>s b o e k
theorem Same.kn {p:Addr}{H H':Hp}(s:Same H H'):KeepN p H H':=fun b o e _ _=>s b o e
theorem Keep.kn {p:Addr}{H H':Hp}(s:Keep p p H H'):KeepN p H H':=fun b o e n _=>s b o e n n
theorem KeepN.lst {p:Addr}{H H':Hp}(s:KeepN p H H'){a:Addr}{xs:List V}(h:H a=some (.lst xs))(n:a≠p):H' a=some (.lst xs):=s _ _ h n fun _ z=>by cases z
theorem KeepN.t {p:Addr}{n:Nat}{H H':Hp}(s:KeepN p H H')(hp:Pot3 H p n):SameT H H':=fun a xs e=>by
 obtain⟨u,v,t,h1,_⟩:=hp
 exact s a _ e (fun z=>by rw[z,h1] at e;cases e) fun _ z=>by cases z
structure TopS (mg:Str->Option Value):Prop where
 n_set:mg "set" =none
structure TopSK (K:PySem.W.Frag):Prop where
 k_set:PySem.W.nsIn K mainGlobals "set" =some none
theorem TopSK.top {K:PySem.W.Frag}{h:Heap}{mg:Str->Option Value}(T:TopSK K)(X:K.In h)(G:h.Ns mainGlobals mg):TopS mg:=⟨PySem.W.mg_none_of X G T.k_set⟩
theorem TbOk.keepP {H H':Hp}{T p:Addr}{qn:Str}{ps:Array Value}{n:Nat}(h:TbOk H T qn ps)(sp:Pot3 H p n)(k:Keep p p H H'):TbOk H' T qn ps:=by
 obtain⟨u,s,t,h1,h2⟩:=sp
 have no:∀(b:Addr) (o:HO),H b=some o->(∀xs,o≠.lst xs)->H' b=some o:=fun b o e n2=>by
  have hb:b≠p:=fun z=>by
   subst z
   rw[h1] at e
   cases e
   exact n2 _ rfl
  exact k b o e hb hb
 refine⟨no _ _ h.at_ (fun _ z=>by cases z),h.tri,fun pos cv e=> ?_⟩
 obtain⟨c,e1,e2⟩:=h.hit pos cv e
 exact⟨c,e1,no _ _ e2 (fun _ z=>by unfold cdP at z;cases z)⟩
theorem SameN.rows {H H':Hp}(s:SameN H H'):∀{zs:List Addr} {os:List (List Int)},RowsAt H zs os->RowsAt H' zs os
 |_,_,.nil=>.nil
 |_,_,.cons h t=>.cons (s.tup h) (SameN.rows s t)
theorem zgK {H:Hp}:∀{zs:List Addr} {os:List (List Int)},RowsAt H zs os->∀(i:Nat),i<zs.length->∃z o,zs[i]? =some z/\os[i]? =some o/\H z=some (.tup (o.map V.int))
 |_,_,.nil,i,h=>absurd h (Nat.not_lt_zero i)
 |z::_,o::_,.cons h t,0,_=>⟨z,o,rfl,rfl,h⟩
 |_::_,_::_,.cons h t,i+1,hi=>by
  obtain⟨z,o,e1,e2,e3⟩:=zgK t i (Nat.lt_of_succ_lt_succ hi)
  exact⟨z,o,e1,e2,e3⟩
theorem Pot3.nN {p:Addr}{n:Nat}{H H':Hp}(h:Pot3 H p n)(s:SameN H H'):Pot3 H' p n:=by
 obtain⟨u,s',t,h1,h2⟩:=h
 exact⟨u,s',t,s.lst h1,h2⟩
noncomputable def zhi (rows:List (List Int))(ends:List Int):PyData:=.tuple [.tuple (rows.map fun r=>PyData.tuple (r.map PyData.int)),.tuple (ends.map PyData.int)]
theorem IsMach.data {H:Hp}{z:Addr}{N:Nat}{rows:List (List Int)}{ends:List Int}(h:IsMach H z N rows ends):Is H (.ref z) (zhi rows ends):=by
 obtain⟨R,E,zs,h1,h2,h3,h4,h5⟩:=h
 exact .tup h1 (.cons (.tup h2 h3.data) (.cons (.ints h4) .nil))
theorem zbn (rows:List (List Int))(ends:List Int):SeqAt.shaped (zhi rows ends)=true:=by
 have h1:=zd6 rows
 have h2:=zdn rows
 simp[SeqAt.shaped,zhi,PyData.canLay0,PyData.canLayAll0,PyData.depth,PyData.depthAll,h1,zd3,zdl]
 lia
theorem zeI (rows:List (List Int))(ends:List Int):PyData.eqv (zhi rows ends) (zhi rows ends)=true:=by
 simp[zhi,PyData.eqvAll,PyData.eqv,zd4,zd7]
theorem TbOk.nl {H H':Hp}{T:Addr}{qn:Str}{ps:Array Value}(h:TbOk H T qn ps)(no:∀(b:Addr) (o:HO),H b=some o->(∀xs,o≠.lst xs)->H' b=some o):TbOk H' T qn ps:=by
 refine⟨no _ _ h.at_ (fun _ z=>by cases z),h.tri,fun pos cv e=> ?_⟩
 obtain⟨c,e1,e2⟩:=h.hit pos cv e
 exact⟨c,e1,no _ _ e2 (fun _ z=>by unfold cdP at z;cases z)⟩
theorem zkI {H:Hp}{a:Addr}{xs:List V}{o':HO}(h:H a=some (.lst xs)):∀(b:Addr) (o:HO),H b=some o->(∀xs,o≠.lst xs)->(upd H a o') b=some o:=fun b o e n=>by
 rw[zaj fun z=>by rw[z,h] at e;cases e;exact n _ rfl]
 exact e
theorem zi5 {H1 H:Hp}{a:Addr}{o':HO}(s:SameN H1 H)(ha:H1 a=none):SameN H1 (upd H a o'):=fun b o e n=>by
 rw[zaj fun z=>by rw[z,ha] at e;cases e]
 exact s b o e n
theorem zi6 {H H':Hp}(no:∀(b:Addr) (o:HO),H b=some o->(∀xs,o≠.lst xs)->H' b=some o):∀{zs:List Addr} {os:List (List Int)},RowsAt H zs os->RowsAt H' zs os
 |_,_,.nil=>.nil
 |_,_,.cons h t=>.cons (no _ _ h fun _ z=>by cases z) (zi6 no t)
theorem zlH {J:It}{Ok:Hp->Prop}{xs:List V}{te:TE}{ix:List Nat}{σ:L2.St}{H1:Hp}{Q:VK}(Y:Yields J Ok xs)(small:xs.length<sizeLine)(B:Hp->Prop)(hB:B H1)(hBn:∀H H',B H->(∀(b:Addr) (o:HO),H b=some o->(∀xs,o≠.lst xs)->H' b=some o)->B H')(f:Nat->List Int)(hok:∀H,SameN H1 H->Ok H)
  (he:∀i x H,xs[i]? =some x->SameN H1 H->B H->∀(QT:VK),(∀(a:Addr) H',H' a=some (.tup ((f i).map V.int))->SameN H H'->B H'->QT (.ref a) H')->te (some x::ix.map fun i=>σ.getD i none) H QT)
  (fin:∀acc (zs:List Addr) H',H1 acc=none->SameN H1 H'->B H'->H' acc=some (.lst (zs.map V.ref))->RowsAt H' zs ((List.range xs.length).map f)->Q (.ref acc) H'):
  LcW J H1 (zaU 0) zaG te 1 ix σ Q:=by
 intro acc ha
 refine⟨fun i m H=>m=xs.length-i/\i<=xs.length/\SameN H1 H/\B H/\∃(zs:List Addr),H acc=some (.lst (zs.map V.ref))/\RowsAt H zs ((List.range i).map f),⟨xs.length,by simp,Nat.zero_le _,(zad ha).n,hBn _ _ hB (fun b o e _=>zad ha b o e),[],zab,.nil⟩, ?_⟩
 rintro i m H ⟨rfl,hi,kp,hb,zs,hacc,hr⟩
 have o:=hok _ kp
 have hzl:=Paired.length hr
 by_cases hlt:i<xs.length
 ·refine .inr ⟨Y.go i _ o hlt,fun x H' y=> ?_⟩
  obtain⟨rfl,hx⟩:=Y.yld i _ x H' o hlt y
  refine⟨⟨rfl,fun j v e=> ?_⟩, ?_⟩
  ·cases j with
   |zero=>cases e
   |succ j=>exact e
  ·unfold zaG
   dsimp only
   rw[if_pos rfl]
   refine he i x H' hx kp hb _ (fun a H4 a4 k4 b4=> ?_)
   have h4:=k4.lst hacc
   have no:=zkI (o':=.lst (zs.map V.ref++[.ref a])) h4
   rw[List.length_map,List.length_range] at hzl
   refine⟨_,h4,by rw[List.length_map];lia,xs.length-(i+1),by lia,rfl,hlt,zi5 (kp.trans k4) ha,hBn _ _ b4 no,zs++[a],by rw[zab,List.map_append];rfl, ?_⟩
   rw[List.range_succ,List.map_append]
   exact Paired.append (zi6 no (SameN.rows k4 hr)) (.cons (no _ _ a4 fun _ z=>by cases z) .nil)
 ·have e:i=xs.length:=by lia
  subst e
  exact .inl ⟨Y.stop _ o,fin acc zs H ha kp hb hacc hr⟩
end L2
namespace K52
open L2
noncomputable abbrev zaP:Stmt:=top 30
noncomputable def Tb2 (T1 T2:Addr)(H:Hp):Prop:=(∃ps,TbOk H T1 qNth ps)/\∃ps,TbOk H T2 zcD ps
theorem Tb2.same {T1 T2:Addr}{H H':Hp}(h:Tb2 T1 T2 H)(s:Same H H'):Tb2 T1 T2 H':=let ⟨⟨a,ha⟩,b,hb⟩:=h;⟨⟨a,ha.same s⟩,b,hb.same s⟩
theorem Tb2.keep {T1 T2:Addr}{H H':Hp}(h:Tb2 T1 T2 H){p:Addr}{n:Nat}(sp:Pot3 H p n)(k:Keep p p H H'):Tb2 T1 T2 H':=let ⟨⟨a,ha⟩,b,hb⟩:=h;⟨⟨a,ha.keepP sp k⟩,b,hb.keepP sp k⟩
noncomputable def zj8 (T1 T2:Addr):Sp:=fun vs H Q _=>∃(p z z1 z2:Addr) (n m n1 n2:Nat) (r1 r2:List (List Int)) (e1 e2:List Int),vs=[.ref p,.ref z,.int (m:Int),.ref z1,.ref z2]/\Pot3 H p n/\n<900000/\IsMach H z (n1*n2) (zba r1 r2) (zbu n1 n2 e1 e2)/\IsMach H z1 n1 r1 e1/\IsMach H z2 n2 r2 e2/\n1*n2<=36/\2<=m/\m<=9/\Tb2 T1 T2 H/\
 ∀H',KeepN p H H'->Pot3 H' p (n+2)->Tb2 T1 T2 H'->Q (.bl true) H'
section
variable {P:Program}{w:World}{K:PySem.W.Frag}{mg:Str->Option Value}{base:Heap}
theorem sc__law_undone:FnScope ["_law_urn_here", "_law_machine_here", "_law_many", "_law_one", "_law_other", "_law_last", "_law_places", "_law_orders", "_law_at", "_law_order"] ["_law_urn_here", "_law_machine_here", "_law_many", "_law_one", "_law_other"] (zae zaP):=⟨rfl,rfl,rfl,by decide+kernel,rfl,by decide+kernel,by decide+kernel⟩
noncomputable def undT {f T1 T2:Addr}{q1 q2:Str}{cdv:Value}{A:Around}{outer:List Env}{s:Shared}{H:Hp}{E:XK}(hr:Room 10 (A.deeper (envOfC "_law_undone" (zae zaP) s.heap.objs.size f cdv)))(T:Top mg)(TY:TopS mg)(C_law_take:Cal P w K mg base 1 "_law_take" ["_law_urn_here", "_law_many"] zdp)(C_law_met:Cal P w K mg base 2 "_law_met" ["_law_machine_here", "_law_order"] zjo)(Cmet:Cal P w K mg base 2 "met" ["machine", "many"] zcZ)(Cnth_met:Cal P w K mg base 10 "nth_met" ["machine", "many", "at"] (zgB T1 q1))(Cplace_met:Cal P w K mg base 10 "place_met" ["machine", "order"] (zjQ T2 q2)):{t:TS//PSs (cxOf CX0 P w K mg base ["_law_urn_here", "_law_machine_here", "_law_many", "_law_one", "_law_other", "_law_last", "_law_places", "_law_orders", "_law_at", "_law_order"] "_law_undone" (zae zaP) f cdv A outer s H E).nox (zaN zaP) t}:=
 have hu:_:=hr.units
 have hu8:(A.deeper (envOfC "_law_undone" (zae zaP) s.heap.objs.size f cdv)).units+8<cLine:=by lia
 ⟨_,(zaf (zau (i:=5) sc__law_undone.nd rfl (Or.inl rfl) (zak Cmet (hr.mono (by decide)) rfl (zaa (pv 1) (zaa (pv 2) zac))))
  (zaf (zbK (zar zdC (pv 5) zag (zaH _))
   (zai (zaz (zcG zlY (zak Cnth_met (hr.mono (by decide)) rfl (zaa (pv 1) (zaa (pv 2) (zaa zag zac)))) zkc (zaH _))))
   zbd)
  (zaf (zau (i:=6) sc__law_undone.nd rfl (Or.inl rfl) (zam (zeH rfl) (by rfl) T.n_sorted boot_sorted (zaa (zaV (call_setIL rfl) (by rfl) TY.n_set boot_set (zaa (zbD (zaa (zak C_law_take (hr.mono (by decide)) rfl (zaa (pv 0) (zaa (pv 5) zac))) (zaa (zak C_law_take (hr.mono (by decide)) rfl (zaa (pv 0) (zaa (pv 5) zac))) zac))) zac)) zac)))
  (zaf (zbz (i:=7) rfl sc__law_undone.nd rfl rfl (N':=["_law_at", "_law_machine_here", "_law_many"]) (n:=1) (ix:=[1,2]) rfl (CompScope.of (sc:=zae zaP) (N:=["_law_urn_here", "_law_machine_here", "_law_many", "_law_one", "_law_other", "_law_last", "_law_places", "_law_orders", "_law_at", "_law_order"]) (by decide+kernel) rfl rfl) (zbL (pv 6)) (fun _ _ _ _ _=>⟨(zah (i:=0) (show (["_law_at", "_law_machine_here", "_law_many"]:List Str).Nodup by decide+kernel) rfl (Or.inl rfl)),zax,(zak Cnth_met (hr.mono (by decide)) rfl (zaa (pv 1) (zaa (pv 2) (zaa (pv 0) zac))))⟩))
  (zaf (zby PassesOwn.never rfl (zj5 rfl T.n_zip (zaa (pv 6) (zaa (pv 7) zac))) (zbW (i:=8) (j:=9) rfl sc__law_undone.nd rfl rfl (Or.inl rfl) (Or.inl rfl) (Or.inl rfl) (Or.inl rfl))
   (zai (zbK (PW.pt (zhp (zf9 (zhn (zak C_law_met (hr.mono (by decide)) rfl (zaa (pv 3) (zaa (pv 9) zac))))) (zhp (zf9 (zhn (zak C_law_met (hr.mono (by decide)) rfl (zaa (pv 4) (zaa (pv 9) zac))))) (zho (zar zi9 (zak Cplace_met (hr.mono (by decide)) rfl (zaa (pv 1) (zaa (pv 9) zac))) (pv 8) (zaH _))))))
    (zai (zaz zgM))
    zbd)))
  (zai (zaz (zlS (zcG (zl6 hu) (pv 7) (zam zeG (by rfl) T.n_sorted boot_sorted (zaa (pv 7) zac)) (zaH _)) (zlR (zcG zdC (zam zhe (by rfl) T.n_len PySem.boot_len (zaa (zaV (call_setL7 rfl hu8) (by rfl) TY.n_set boot_set (zaa (pv 7) zac)) zac)) (zam zaE (by rfl) T.n_len PySem.boot_len (zaa (pv 6) zac)) (zaH _)))))))))))⟩
theorem zdG {f T1 T2:Addr}{fd:FuncData}(F:Fun K "_law_undone" "_law_undone" zaP f fd)(hT12:T1≠T2)(T:Top mg)(TY:TopS mg)(C_law_take:Cal P w K mg base 1 "_law_take" ["_law_urn_here", "_law_many"] zdp)(C_law_met:Cal P w K mg base 2 "_law_met" ["_law_machine_here", "_law_order"] zjo)(Cmet:Cal P w K mg base 2 "met" ["machine", "many"] zcZ)(Cnth_met:Cal P w K mg base 10 "nth_met" ["machine", "many", "at"] (zgB T1 qNth))(Cplace_met:Cal P w K mg base 10 "place_met" ["machine", "order"] (zjQ T2 zcD)):FnOk P w K mg base CX0 11 f fd ["_law_urn_here", "_law_machine_here", "_law_many", "_law_one", "_law_other"] (zj8 T1 T2):=by
 refine F.ok sc__law_undone (fun vs H Q E h=> ?_) (fun cdv A outer s H vs Q E hr h=> ?_)
 ·obtain ⟨p,z,z1,z2,n,m,n1,n2,r1,r2,e1,e2,rfl,_⟩:=h
  rfl
 ·obtain ⟨p,z,z1,z2,n,m,n1,n2,r1,r2,e1,e2,rfl,sp,hn,hM,hM1,hM2,h36,hm2,hm9,tb,kk⟩:=h
  have hT:=(undT (P:=P) (w:=w) (base:=base) (E:=E) (outer:=outer) (s:=s) (H:=H) (f:=f) (cdv:=cdv) (A:=A) hr T TY C_law_take C_law_met Cmet Cnth_met Cplace_met).2
  refine⟨(undT (P:=P) (w:=w) (base:=base) (E:=E) (outer:=outer) (s:=s) (H:=H) (f:=f) (cdv:=cdv) (A:=A) hr T TY C_law_take C_law_met Cmet Cnth_met Cplace_met).1,by assumption, ?_⟩
  clear hT
  have w1:=hM1.rws
  have w2:=hM2.rws
  have hb:=zbA w1 w2
  have eb:=zda n1 n2 e1 e2
  have hmet:=zmH hb eb m
  have hMO:MachOk H z (n1*n2) (zba r1 r2) (zbu n1 n2 e1 e2):=⟨hM,by lia,by have:=eb.len;lia,eb.rng,eb.nd⟩
  have wt:=ziG hb.1 hb.2.1 hb.2.2 (fun s hs=>(eb.rng s hs).1) eb.nd m
  refine⟨_,rfl,_,rfl,z,n1*n2,m,_,_,rfl,hM,hMO.few,by lia,eb.rng,hMO.efew,fun G1 s1=> ?_⟩
  rw[hmet]
  generalize hL:lM (zba r1 r2) (zbu n1 n2 e1 e2) m []=L at*
  have sp1:=sp.same s1
  have tb1:=tb.same s1
  have hMO1:=hMO.same s1
  refine⟨_,rfl,rfl, ?_⟩
  refine⟨_,rfl, ?_⟩
  refine ite2 (fun h0=> ?_) (fun h0=> ?_)
  ·have h0':L.length=0:=by
    have:((L.length:Nat):Int)=0:=by simpa using h0
    lia
   obtain⟨⟨ps1,h1⟩,ps2,h2⟩:=tb1
   refine⟨_,rfl,_,rfl,z,n1*n2,m,0,_,_,ps1,rfl,hMO1,by lia,by decide,h1,fun zz psA GA sA hA=> ?_,fun o' tA psA GA ho' sA hA htA=> ?_⟩
   ·have hC:=h2.b (Ne.symm hT12) h1.at_ sA
    have sN:=sA.n h1.at_
    exact⟨rfl,kk _ (s1.kn.trans sN.kn) ((Pot3.nN sp1 sN).more (by lia)) ⟨⟨_,hA⟩,_,hC⟩⟩
   ·rw [hL,List.eq_nil_of_length_eq_zero h0'] at ho'
    cases ho'
  ·have hpos:0<L.length:=by
    refine Nat.pos_of_ne_zero fun z=>h0 ?_
    rw[z]
    rfl
   have hbig:(L.length:Int)<10000000000000000000000000000000000000000:=by
    have f9:∀k,k<=9->facD k k<=362880:=by decide
    have h1:L.length<=(zaw m [[]] m).length:=by rw[<-hL];exact List.length_filter_le _ _
    have h2:=(zcv m m).2
    have h3:=f9 m hm9
    lia
   refine⟨_,rfl,_,rfl,p,(L.length:Int),n,rfl,by lia,hbig,sp1,by lia,fun d1 G2 a0 a1 sp2 k2=> ?_⟩
   refine⟨_,rfl,_,rfl,p,(L.length:Int),n+1,rfl,by lia,hbig,sp2,by lia,fun d2 G3 b0 b1 sp3 k3=> ?_⟩
   have k13:=k2.kn.trans k3.kn
   have tb3:=(tb1.keep sp1 k2).keep sp2 k3
   refine⟨by show 2<=sizeLine;decide,fun l2 hl2=> ?_⟩
   refine⟨l2,[d1,d2],rfl,zab,by show 2<=1200;decide,fun S hSn=> ?_⟩
   refine⟨S,_,rfl,zab,by show 2<64;decide,fun pl ats hup hmem hpl=> ?_⟩
   have t4:=((zad (o:=.lst [.int d1,.int d2]) hl2).trans (zad hSn)).trans (zad (o:=.lst (ats.map V.int)) hpl)
   have hp4:=@zab (upd (upd G3 l2 (.lst [.int d1,.int d2])) S (zfu w S [d1,d2])) pl (.lst (ats.map V.int))
   generalize hG4:upd (upd (upd G3 l2 (.lst [.int d1,.int d2])) S (zfu w S [d1,d2])) pl (.lst (ats.map V.int))=G4 at hp4
   have t4':Same G3 G4:=hG4▸t4
   clear t4
   have kn4:KeepN p H G4:=(s1.kn.trans k13).trans t4'.kn
   have sp4:=sp3.same t4'
   have tb4:=tb3.same t4'
   have hst:=kn4.t sp
   have hMO4:MachOk G4 z (n1*n2) (zba r1 r2) (zbu n1 n2 e1 e2):=⟨hM.sameT hst,hMO.few,hMO.efew,hMO.rng,hMO.nd⟩
   have hM14:=hM1.sameT hst
   have hM24:=hM2.sameT hst
   have hat:∀a∈ats,0<=a/\a<(L.length:Int):=fun a ha=>by
    have:=(hmem a).mp ha
    simp only[List.mem_cons,List.not_mem_nil,or_false] at this
    rcases this with rfl|rfl
    ·exact⟨a0,a1⟩
    ·exact⟨b0,b1⟩
   have hal:ats.length<=2:=by
    match ats,hup,hmem with
    |[],_,_=>exact Nat.zero_le _
    |[_],_,_=>exact Nat.le_succ _
    |[_,_],_,_=>exact Nat.le_refl _
    |x::y::v::_,hup,hmem=>
     exfalso
     have q1:=(hmem x).mp (by simp)
     have q2:=(hmem y).mp (by simp)
     have q3:=(hmem v).mp (by simp)
     simp only[List.mem_cons,List.not_mem_nil,or_false] at q1 q2 q3
     have c1:=(List.pairwise_cons.mp hup).1 y (by simp)
     have c2:=(List.pairwise_cons.mp (List.pairwise_cons.mp hup).2).1 v (by simp)
     lia
   show zaU 6 (.ref pl) _ (upd (upd (upd G3 l2 (.lst [.int d1,.int d2])) S (zfu w S [d1,d2])) pl (.lst (ats.map V.int))) _
   rw[hG4]
   clear hG4 tb3 sp3 k13 tb1 sp1 sp2 k2 k3 hpl hSn hl2
   refine⟨_,rfl,pl,rfl,⟨_,SqL.of hp4⟩, ?_⟩
   refine zlH (za3 (K:=K) (a:=pl) (xs:=ats.map V.int)) (zaS (by rw[List.length_map];lia)) (Tb2 T1 T2) tb4 (fun H H' hb no=>⟨hb.1.imp fun _ h=>h.nl no,hb.2.imp fun _ h=>h.nl no⟩) (fun i=>L.getD (ats.getD i 0).toNat []) (fun G sG=>SqL.of (sG.lst hp4)) (fun i x G hx sG tbG QT qT=> ?_) (fun O zs G5 hO0 s5 tb5 hO R5=> ?_)
   ·obtain ⟨at_,ei,rfl⟩:∃a,ats[i]? =some a/\x=.int a:=by
     rw[List.getElem?_map] at hx
     cases e:ats[i]? with
     |none=>rw[e] at hx;cases hx
     |some a=>rw[e] at hx;exact⟨a,rfl,(Option.some.inj hx).symm⟩
    obtain⟨at0,at1⟩:=hat at_ (List.mem_of_getElem? ei)
    have eg:ats.getD i 0=at_:=by rw[List.getD_eq_getElem?_getD,ei];rfl
    obtain⟨⟨ps1,h1⟩,ps2,h2⟩:=tbG
    refine⟨_,rfl,_,rfl,_,rfl,z,n1*n2,m,at_,_,_,ps1,rfl,hMO4.n sG,by lia,at0,h1,fun zz=> ?_,fun o' tA psA GA ho' sA hA htA=> ?_⟩
    ·exfalso
     rw[hL] at zz
     lia
    ·rw [hL] at ho'
     refine qT tA GA ?_ (sA.n h1.at_) ⟨⟨_,hA⟩,_,h2.b (Ne.symm hT12) h1.at_ sA⟩
     rw[eg,List.getD_eq_getElem?_getD,ho']
     exact htA
   ·have hp5:=s5.lst hp4
    have eR:(List.range (ats.map V.int).length).map (fun i=>L.getD (ats.getD i 0).toNat [])=ats.map fun a=>L.getD a.toNat []:=by
     refine List.ext_getElem (by simp) fun i h1 h2=> ?_
     have hi:i<ats.length:=by simpa using h2
     rw[List.getElem_map,List.getElem_map,List.getElem_range,show ats.getD i 0=ats[i] by rw[List.getD_eq_getElem?_getD,List.getElem?_eq_getElem hi];rfl]
    rw[eR] at R5
    have hzl:zs.length=ats.length:=by rw[Paired.length R5,List.length_map]
    have hoL:∀a∈ats,∃o,L[a.toNat]? =some o/\L.getD a.toNat []=o/\o∈zaw m [[]] m/\metB r1 e1 o=true/\metB r2 e2 o=true:=fun a ha=>by
     obtain⟨x0,x1⟩:=hat a ha
     have hlt:a.toNat<L.length:=by lia
     have e:=List.getElem?_eq_getElem hlt
     have hmem:L[a.toNat]∈lM (zba r1 r2) (zbu n1 n2 e1 e2) m []:=by rw[hL];exact List.getElem_mem hlt
     obtain⟨y1,y2⟩:=zmI hmem
     rw[zc3 w1 w2] at y2
     exact⟨_,e,by rw[List.getD_eq_getElem?_getD,e];rfl,y1,((Bool.and_eq_true _ _).mp y2).1,((Bool.and_eq_true _ _).mp y2).2⟩
    refine⟨_,rfl,_,rfl,pl,O,rfl,⟨_,SqL.of hp5⟩,⟨_,SqL.of hO⟩, ?_⟩
    refine zi2 (K:=K) (a:=pl) (b:=O) (xs:=ats.map V.int) (ys:=zs.map V.ref) (fun j σ G=>∃(c8 c9:Option V),σ=[some (.ref p),some (.ref z),some (.int (m:Int)),some (.ref z1),some (.ref z2),some (.int (L.length:Int)),some (.ref pl),some (.ref O),c8,c9]/\SameN G5 G/\Tb2 T1 T2 G) ⟨_,_,rfl,SameN.refl _,tb5⟩ (by simp[hzl]) (fun j σ G _ ⟨_,_,_,sG,_⟩=>⟨SqL.of (sG.lst hp5),SqL.of (sG.lst hO)⟩) ?_ ?_
    ·rintro j x y t σ G hx hy ⟨c8,c9,rfl,sG,tbG⟩ ht
     obtain⟨at_,ej,rfl⟩:∃a,ats[j]? =some a/\x=.int a:=by
      rw[List.getElem?_map] at hx
      obtain⟨a,e,rfl⟩:=Option.map_eq_some_iff.mp hx
      exact⟨a,e,rfl⟩
     have hatm:=List.mem_of_getElem? ej
     obtain⟨at0,at1⟩:=hat at_ hatm
     obtain⟨o,eo,ed,ho,b1,b2⟩:=hoL at_ hatm
     obtain⟨zj,o',ez,eo',hz⟩:=zgK R5 j (by rw[hzl];exact (List.getElem?_eq_some_iff.mp ej).1)
     obtain rfl:y=.ref zj:=by
      rw[List.getElem?_map,ez] at hy
      exact (Option.some.inj hy).symm
     obtain rfl:o'=o:=by
      rw[List.getElem?_map,ej] at eo'
      rw[<-ed]
      exact (Option.some.inj eo').symm
     have st:=zad (o:=.tup [.int at_,.ref zj]) ht
     have sN:=sG.trans st.n
     have hord:=iter_iff.mp ho
     have sM:=(s5.trans sN).t
     refine⟨t,_,rfl,SqT.of zab,rfl,_,_,rfl,_,_,rfl,rfl, ?_⟩
     refine⟨_,rfl,_,rfl,z1,zj,n1,r1,e1,o',m,rfl,hM14.sameT sM,sN.tup hz,hord,by lia,fun G6 s6=>⟨_,rfl, ?_⟩⟩
     rw[b1]
     refine ifS rfl ?_
     refine⟨_,rfl,_,rfl,z2,zj,n2,r2,e2,o',m,rfl,(hM24.sameT sM).sameT s6.t,s6 _ _ (sN.tup hz),hord,by lia,fun G7 s7=>⟨_,rfl, ?_⟩⟩
     rw[b2]
     refine ifS rfl ?_
     have s67:=s6.trans s7
     have hpl:=zgt wt ho m 0 (by lia) at_.toNat (by rw[List.take_zero,hL];exact eo)
     simp only[Nat.zero_add] at hpl
     obtain⟨⟨ps1,h1⟩,ps2,h2⟩:=(tbG.same st).same s67
     refine⟨_,rfl,_,rfl,z,zj,n1*n2,m,_,_,o',ps2,rfl,hMO4.n ((s5.trans sN).trans s67.n),by lia,(sN.trans s67.n).tup hz,ho,h2,fun psC GC sC hC=> ?_⟩
     rw[<-hpl,show ((at_.toNat:Nat):Int)=at_ by lia]
     refine⟨_,rfl,rfl,_,rfl,ifS (zc8 _) ?_⟩
     exact⟨_,_,rfl,(sN.trans s67.n).trans (sC.n h2.at_),⟨_,h1.b hT12 h2.at_ sC⟩,_,hC⟩
    ·rintro σ G ⟨c8,c9,rfl,sG,tbG⟩
     have hO':=sG.lst hO
     have hp':=sG.lst hp5
     have R':=SameN.rows sG R5
     have kn:KeepN p H G:=(kn4.trans s5.kn).trans sG.kn
     have spG:=Pot3.nN (Pot3.nN sp4 s5) sG
     generalize hrs:(ats.map fun a=>L.getD a.toNat [])=rs at R'
     have rl:rs.length=ats.length:=by rw[<-hrs,List.length_map]
     have rlt:rs.Pairwise fun a b=>HT.lexLt a b=true:=by
      rw[<-hrs,List.pairwise_map]
      have hup2:=List.pairwise_iff_getElem.mp (hL▸zna (zba r1 r2) (zbu n1 n2 e1 e2) m:L.Pairwise fun a b=>HT.lexLt a b=true)
      refine hup.imp_of_mem fun {a b} ha hb hab=> ?_
      obtain⟨x0,x1⟩:=hat a ha
      obtain⟨y0,y1⟩:=hat b hb
      have:=hup2 a.toNat b.toNat (by lia) (by lia) (by lia)
      rw[List.getD_eq_getElem?_getD,List.getD_eq_getElem?_getD,List.getElem?_eq_getElem (by lia),List.getElem?_eq_getElem (by lia)]
      exact this
     have rne:∀r∈rs,r≠[]:=fun r hr=>by
      rw[<-hrs] at hr
      obtain⟨a,ha,rfl⟩:=List.mem_map.mp hr
      obtain⟨o,_,ed,ho,_⟩:=hoL a ha
      rw[ed]
      intro z
      have:=zaL ho
      rw[z] at this
      exact absurd this (by show ¬0=m;lia)
     have rnd:rs.Nodup:=rlt.imp fun h=>(zkF h).2
     refine⟨_,rfl,_,rfl,O,zs,rs,rfl,hO',R',by lia,rne,rlt.imp fun h=>(zkF h).1,fun p8 hp8=> ?_⟩
     have t8:=zad (o:=.lst (zs.map V.ref)) hp8
     have hsh:SeqAt.shaped (PyData.list (rs.map fun r=>PyData.tuple (r.map PyData.int)))=true:=by
      have h1:=zd6 rs
      have h2:=zdn rs
      simp[SeqAt.shaped,PyData.canLay0,PyData.depth,h1]
      lia
     refine⟨_,_,.lst (t8 _ _ hO') (R'.same t8).data,.lst zab (R'.same t8).data,hsh,hsh,_,rfl, ?_⟩
     rw[show PyData.eqv (PyData.list (rs.map fun r=>PyData.tuple (r.map PyData.int))) (PyData.list (rs.map fun r=>PyData.tuple (r.map PyData.int)))=true by simp[PyData.eqv,zd7]]
     refine iteT ?_
     refine⟨_,rfl,O,zs,rs,rfl,t8 _ _ hO',R'.same t8,by lia,rnd,fun S9 hS9=> ?_⟩
     refine⟨S9,rs.length,rfl,zab,by lia, ?_⟩
     have t9:=t8.trans (zad (o:=SetN w S9 rs.length) hS9)
     refine⟨_,rfl,pl,_,rfl,.inl (SqL.of (t9 _ _ hp')), ?_⟩
     rw[List.length_map,rl]
     refine⟨rfl, ?_⟩
     rw[decide_eq_true rfl]
     rw[rl] at t9
     exact kk _ (kn.trans t9.kn) (spG.same t9) (tbG.same t9)
end
end K52
namespace L2
theorem zlI {J:It}{Ok:Hp->Prop}{xs:List V}{te:TE}{ix:List Nat}{σ:L2.St}{H1:Hp}{Q:VK}(Y:Yields J Ok xs)(small:xs.length<sizeLine){p:Addr}{c k:Nat}(hp:Pot3 H1 p c)(M:Hp->Addr->Prop)(hM:∀H H' z,M H z->(∀(b:Addr) (o:HO),H b=some o->(∀xs,o≠.lst xs)->H' b=some o)->M H' z)(hok:∀H,Keep p p H1 H->Ok H)
  (he:∀i x H,xs[i]? =some x->Keep p p H1 H->Pot3 H p (c+k*i)->∀(QT:VK),(∀(a:Addr) H',M H' a->Keep p p H H'->Pot3 H' p (c+k*(i+1))->QT (.ref a) H')->te (some x::ix.map fun i=>σ.getD i none) H QT)
  (fin:∀acc (zs:List Addr) H',H1 acc=none->acc≠p->Keep p p H1 H'->Pot3 H' p (c+k*xs.length)->H' acc=some (.lst (zs.map V.ref))->zs.length=xs.length->(∀z∈zs,M H' z)->Q (.ref acc) H'):
  LcW J H1 (zaU 0) zaG te 1 ix σ Q:=by
 intro acc ha
 have hap:=hp.ne_new ha
 refine⟨fun i m H=>m=xs.length-i/\i<=xs.length/\Keep p p H1 H/\Pot3 H p (c+k*i)/\∃(zs:List Addr),H acc=some (.lst (zs.map V.ref))/\zs.length=i/\∀z∈zs,M H z,⟨xs.length,by simp,Nat.zero_le _,(zad ha).keep,hp.same (zad ha),[],zab,rfl,fun _ h=>by cases h⟩, ?_⟩
 rintro i m H ⟨rfl,hi,kp,hpot,zs,hacc,hl,hz⟩
 have o:=hok _ kp
 by_cases hlt:i<xs.length
 ·refine .inr ⟨Y.go i _ o hlt,fun x H' y=> ?_⟩
  obtain⟨rfl,hx⟩:=Y.yld i _ x H' o hlt y
  refine⟨⟨rfl,fun j v e=> ?_⟩, ?_⟩
  ·cases j with
   |zero=>cases e
   |succ j=>exact e
  ·unfold zaG
   dsimp only
   rw[if_pos rfl]
   refine he i x H' hx kp hpot _ (fun a H4 a4 k4 p4=> ?_)
   have h4:=k4 _ _ hacc hap hap
   have no:=zkI (o':=.lst (zs.map V.ref++[.ref a])) h4
   have nk:∀(b:Addr) (o:HO),H' b=some o->(∀xs,o≠.lst xs)->H4 b=some o:=fun b o e n=>by
    obtain⟨u,s',t,q1,_⟩:=hpot
    have hb:b≠p:=fun z=>by
     subst z
     rw[q1] at e
     cases e
     exact n _ rfl
    exact k4 _ _ e hb hb
   refine⟨_,h4,by rw[List.length_map];lia,xs.length-(i+1),by lia,rfl,hlt,(kp.trans k4).upd ha,p4.upd hap,zs++[a],by rw[zab,List.map_append];rfl,by simp;lia,fun z h=> ?_⟩
   rcases List.mem_append.mp h with h|h
   ·exact hM _ _ _ (hM _ _ _ (hz z h) nk) no
   ·rw [List.mem_singleton.mp h]
    exact hM _ _ _ a4 no
 ·have e:i=xs.length:=by lia
  subst e
  exact .inl ⟨Y.stop _ o,fin acc zs H ha hap kp hpot hacc hl hz⟩
noncomputable def MQ (H:Hp)(z:Addr):Prop:=∃(N:Nat) (rows:List (List Int)) (ends:List Int),IsMach H z N rows ends/\N<=6/\ends.Sublist (num0 N)
theorem MQ.t {H H':Hp}{z:Addr}(h:MQ H z)(s:SameT H H'):MQ H' z:=let ⟨N,rows,ends,h1,h2⟩:=h;⟨N,rows,ends,h1.sameT s,h2⟩
structure MC (G:Hp) (z1 z2 zm zs zo za:Addr) (n1 n2:Nat) (r1 r2:List (List Int)) (e1 e2:List Int):Prop where
 m1:IsMach G z1 n1 r1 e1
 m2:IsMach G z2 n2 r2 e2
 m:IsMach G zm (n1*n2) (zba r1 r2) (zbu n1 n2 e1 e2)
 s:IsMach G zs (n1*n2) (zba r1 r2) (eitE n1 n2 e1 e2)
 o:IsMach G zo (n1*n2) (zba r1 r2) (oppE (n1*n2) (zbu n1 n2 e1 e2))
 a:IsMach G za (n1*n2) (zba r1 r2) (eitE n1 n2 (oppE n1 e1) (oppE n2 e2))
theorem MC.t {G G':Hp}{z1 z2 zm zs zo za:Addr}{n1 n2:Nat}{r1 r2:List (List Int)}{e1 e2:List Int}(h:MC G z1 z2 zm zs zo za n1 n2 r1 r2 e1 e2)(s:SameT G G'):MC G' z1 z2 zm zs zo za n1 n2 r1 r2 e1 e2:=⟨h.m1.sameT s,h.m2.sameT s,h.m.sameT s,h.s.sameT s,h.o.sameT s,h.a.sameT s⟩
theorem mul6 {a b:Nat}(h1:a<=6)(h2:b<=6):a*b<=36:=Nat.mul_le_mul h1 h2
end L2
namespace K52
open L2
noncomputable abbrev zdH:Stmt:=top 31
noncomputable def zj9 (K:PySem.W.Frag)(T1 T2:Addr):Sp:=fun vs H Q _=>∃(a:Addr) (ns:List Int),vs=[.ref a]/\SqL K H a (ns.map V.int)/\ns.length<=63/\H T1=some (.tbl #[])/\H T2=some (.tbl #[])/\∀H',Q (.bl true) H'
section
variable {P:Program}{w:World}{K:PySem.W.Frag}{mg:Str->Option Value}{base:Heap}
theorem sc_law:FnScope ["_law_script", "_law_urn_here", "_law_machines", "_law_at", "_law_one", "_law_other", "_law_mine", "_law_some", "_law_otherwise", "_law_apart", "_law_many"] ["_law_script"] (zae zdH):=⟨rfl,rfl,rfl,by decide+kernel,rfl,by decide+kernel,by decide+kernel⟩
noncomputable def lawT {f T1 T2:Addr}{cdv:Value}{A:Around}{outer:List Env}{s:Shared}{H:Hp}{E:XK}(hr:Room 11 (A.deeper (envOfC "law" (zae zdH) s.heap.objs.size f cdv)))(T:Top mg)(C_law_urn:Cal P w K mg base 1 "_law_urn" ["_law_script"] (zjm K))(C_law_take:Cal P w K mg base 1 "_law_take" ["_law_urn_here", "_law_many"] zdp)(C_law_machine:Cal P w K mg base 2 "_law_machine" ["_law_urn_here", "_law_most"] zen)(Cboth:Cal P w K mg base 2 "both" ["one", "other"] zfh)(Ceither:Cal P w K mg base 3 "either" ["one", "other"] zc6)(Copposite:Cal P w K mg base 1 "opposite" ["machine"] ziq)(Cmet:Cal P w K mg base 2 "met" ["machine", "many"] zcZ)(C_law_undone:Cal P w K mg base 11 "_law_undone" ["_law_urn_here", "_law_machine_here", "_law_many", "_law_one", "_law_other"] (zj8 T1 T2)):{t:TS//PSs (cxOf CX0 P w K mg base ["_law_script", "_law_urn_here", "_law_machines", "_law_at", "_law_one", "_law_other", "_law_mine", "_law_some", "_law_otherwise", "_law_apart", "_law_many"] "law" (zae zdH) f cdv A outer s H E).nox (zaN zdH) t}:=
 have hu:_:=hr.units
 ⟨_, (zaf (zau (i:=1) sc_law.nd rfl (Or.inr rfl) (zak C_law_urn (hr.mono (by decide)) rfl (zaa (pv 0) zac)))
  (zaf (zbz (i:=2) rfl sc_law.nd rfl rfl (N':=["_law_k", "_law_urn_here"]) (n:=1) (ix:=[1]) rfl (CompScope.of (sc:=zae zdH) (N:=["_law_script", "_law_urn_here", "_law_machines", "_law_at", "_law_one", "_law_other", "_law_mine", "_law_some", "_law_otherwise", "_law_apart", "_law_many"]) (by decide+kernel) rfl rfl) (zas rfl T.n_range (zaa zag zac)) (fun _ _ _ _ _=>⟨(zah (i:=0) (show (["_law_k", "_law_urn_here"]:List Str).Nodup by decide+kernel) rfl (Or.inl rfl)),zax,(zak C_law_machine (hr.mono (by decide)) rfl (zaa (pv 1) (zaa zag zac)))⟩))
  (zaf (zby PassesOwn.never rfl (zd8 rfl T.n_enumerate (zaa (pv 2) zac)) (zbW (i:=3) (j:=4) rfl sc_law.nd rfl rfl (Or.inl rfl) (Or.inl rfl) (Or.inl rfl) (Or.inl rfl))
   (zaf (zau (i:=5) sc_law.nd rfl (Or.inl rfl) (zaT zbe (pv 2) (zap zcU (zap za2 (pv 3) zag) zag) (fun _ _=>rfl)))
   (zaf (zhr (i:=6) (j:=7) rfl sc_law.nd rfl rfl (by decide) rfl rfl (zaa (zak Cboth (hr.mono (by decide)) rfl (zaa (pv 4) (zaa (pv 5) zac))) (zaa (zak Ceither (hr.mono (by decide)) rfl (zaa (pv 4) (zaa (pv 5) zac))) zac)) rfl)
   (zaf (zhr (i:=8) (j:=9) rfl sc_law.nd rfl rfl (by decide) rfl rfl (zaa (zak Copposite (hr.mono (by decide)) rfl (zaa (pv 6) zac)) (zaa (zak Ceither (hr.mono (by decide)) rfl (zaa (zak Copposite (hr.mono (by decide)) rfl (zaa (pv 4) zac)) (zaa (zak Copposite (hr.mono (by decide)) rfl (zaa (pv 5) zac)) zac))) zac)) rfl)
   (zaf (zby PassesOwn.never rfl (zcq (za7 (zaa zag (zaa zag (zaa (zap za2 zag (zak C_law_take (hr.mono (by decide)) rfl (zaa (pv 1) (zaa zag zac)))) (zaa (zaT zbe (zbD (zaa (zap za2 zag (zak C_law_take (hr.mono (by decide)) rfl (zaa (pv 1) (zaa zag zac)))) (zaa zag (zaa zag zac)))) (zap zeK (zak C_law_take (hr.mono (by decide)) rfl (zaa (pv 1) (zaa zag zac))) (zaV zeN (by rfl) T.n_int boot_int (zaa (zcG zdC (pv 3) zag (zaH _)) zac))) (fun _ _=>rfl)) zac)))))) (zah (i:=10) sc_law.nd rfl (Or.inl rfl))
    (zaf (zbK (zar zi9 (zap za2 (zak Cmet (hr.mono (by decide)) rfl (zaa (pv 6) (zaa (pv 10) zac))) (zak Cmet (hr.mono (by decide)) rfl (zaa (pv 7) (zaa (pv 10) zac)))) (zap za2 (zak Cmet (hr.mono (by decide)) rfl (zaa (pv 4) (zaa (pv 10) zac))) (zak Cmet (hr.mono (by decide)) rfl (zaa (pv 5) (zaa (pv 10) zac)))) (zaH _))
     (zai (zaz zgM))
     zbd)
    (zai (zbK (PW.pt (zhp (zar zi9 (zak Cmet (hr.mono (by decide)) rfl (zaa (pv 8) (zaa (pv 10) zac))) (zak Cmet (hr.mono (by decide)) rfl (zaa (pv 9) (zaa (pv 10) zac))) (zaH _)) (zho (zar zi9 (zak Cmet (hr.mono (by decide)) rfl (zaa (zak Copposite (hr.mono (by decide)) rfl (zaa (pv 8) zac)) (zaa (pv 10) zac))) (zak Cmet (hr.mono (by decide)) rfl (zaa (pv 6) (zaa (pv 10) zac))) (zaH _)))))
     (zai (zaz zgM))
     zbd))))
   (zaf (zbK (zf9 (zhn (zak C_law_undone (hr.mono (by decide)) rfl (zaa (pv 1) (zaa (pv 6) (zaa (zap za2 zag (zak C_law_take (hr.mono (by decide)) rfl (zaa (pv 1) (zaa (zaT zbe (zbD (zaa zag (zaa zag zac))) (zaV zeN (by rfl) T.n_int boot_int (zaa (zcG zdC (pv 3) zag (zaH _)) zac)) (fun _ _=>rfl)) zac)))) (zaa (pv 4) (zaa (pv 5) zac))))))))
    (zai (zaz zgM))
    zbd)
   (zai (zbK (PW.pt (zhp (zar (zhL hu) (zak Cboth (hr.mono (by decide)) rfl (zaa (pv 4) (zaa (pv 5) zac))) (pv 6) (zaH _)) (zhp (zar (zhL hu) (zak Ceither (hr.mono (by decide)) rfl (zaa (pv 4) (zaa (pv 5) zac))) (pv 7) (zaH _)) (zho (zar (zhL hu) (zak Copposite (hr.mono (by decide)) rfl (zaa (pv 6) zac)) (pv 8) (zaH _))))))
    (zai (zaz zgM))
    zbd))))))))
  (zai (zaz zgM)))))⟩
theorem zmJ {f T1 T2:Addr}{fd:FuncData}(F:Fun K "law" "law" zdH f fd)(T:Top mg)(C_law_urn:Cal P w K mg base 1 "_law_urn" ["_law_script"] (zjm K))(C_law_take:Cal P w K mg base 1 "_law_take" ["_law_urn_here", "_law_many"] zdp)(C_law_machine:Cal P w K mg base 2 "_law_machine" ["_law_urn_here", "_law_most"] zen)(Cboth:Cal P w K mg base 2 "both" ["one", "other"] zfh)(Ceither:Cal P w K mg base 3 "either" ["one", "other"] zc6)(Copposite:Cal P w K mg base 1 "opposite" ["machine"] ziq)(Cmet:Cal P w K mg base 2 "met" ["machine", "many"] zcZ)(C_law_undone:Cal P w K mg base 11 "_law_undone" ["_law_urn_here", "_law_machine_here", "_law_many", "_law_one", "_law_other"] (zj8 T1 T2)):FnOk P w K mg base CX0 12 f fd ["_law_script"] (zj9 K T1 T2):=by
 refine F.ok sc_law (fun vs H Q E h=> ?_) (fun cdv A outer s H vs Q E hr h=> ?_)
 ·obtain ⟨a,ns,rfl,_⟩:=h
  rfl
 ·obtain ⟨a,ns,rfl,hS,hl,ht1,ht2,k⟩:=h
  have hTb0:Tb2 T1 T2 H:=⟨⟨_,.start ht1⟩,_,.start ht2⟩
  have hT:=(lawT (P:=P) (w:=w) (base:=base) (E:=E) (outer:=outer) (s:=s) (H:=H) (f:=f) (cdv:=cdv) (A:=A) hr T C_law_urn C_law_take C_law_machine Cboth Ceither Copposite Cmet C_law_undone).2
  refine⟨(lawT (P:=P) (w:=w) (base:=base) (E:=E) (outer:=outer) (s:=s) (H:=H) (f:=f) (cdv:=cdv) (A:=A) hr T C_law_urn C_law_take C_law_machine Cboth Ceither Copposite Cmet C_law_undone).1,by assumption, ?_⟩
  clear hT
  refine⟨_,rfl,a,ns,rfl,hS,fun p G1 s1 hp hpn=> ?_⟩
  have tb1:=hTb0.same s1
  refine⟨_,rfl,by decide,by decide, ?_⟩
  refine zlI (zao (lo:=0) (n:=3)) (zaS (by decide)) (k:=1000) hp MQ (fun H H' z h no=>h.t fun a xs e=>no _ _ e fun _ z=>by cases z) (fun _ _=>trivial) (fun i x G hx kG pG QT q=> ?_) fun L zs G2 hL0 hLp k2 p2 hL hzl hzM=> ?_
  ·have hi:=(zbP hx).2
   refine⟨_,rfl,p,_,6,rfl,by decide,by decide,pG,by lia,fun z N rows ends G3 hM hN hsub p3 k3=> ?_⟩
   exact q z G3 ⟨N,rows,ends,hM,by lia,hsub⟩ k3 (p3.more (by lia))
  ·have tb2:=tb1.keep hp k2
   rw[zan] at p2 hzl
   refine⟨_,rfl,L,rfl,⟨_,SqL.of hL⟩, ?_⟩
   refine zeY (K:=K) (a:=L) (xs:=zs.map V.ref) (fun i σ G=>∃(c3 c4 c5 c6 c7 c8 c9 c10:Option V),σ=[some (.ref a),some (.ref p),some (.ref L),c3,c4,c5,c6,c7,c8,c9,c10]/\G L=some (.lst (zs.map V.ref))/\(∀z∈zs,MQ G z)/\Pot3 G p (3000+10*i)/\Tb2 T1 T2 G) ⟨_,_,_,_,_,_,_,_,rfl,hL,hzM,p2.more (by lia),tb2⟩ (fun i σ G _ ⟨_,_,_,_,_,_,_,_,_,hL,_⟩=>SqL.of hL) ?_ ?_
   ·rintro i x t σ G hx ⟨c3,c4,c5,c6,c7,c8,c9,c10,rfl,hLG,hMG,pG,tbG⟩ ht
    have hi:i<3:=by
     have:=(List.getElem?_eq_some_iff.mp hx).1
     rw[List.length_map,hzl] at this
     exact this
    obtain⟨z1,ez1,rfl⟩:∃z,zs[i]? =some z/\x=.ref z:=by
     rw[List.getElem?_map] at hx
     obtain⟨z,e,rfl⟩:=Option.map_eq_some_iff.mp hx
     exact⟨z,e,rfl⟩
    obtain⟨z2,ez2,hat2⟩:∃z2,z2∈zs/\atI (zs.map V.ref) (((i:Int)+1)%3)=some (.ref z2):=by
     have hj:(i+1)%3<zs.length:=by lia
     refine⟨zs[(i+1)%3],List.getElem_mem hj, ?_⟩
     rw[show ((i:Int)+1)%3=(((i+1)%3:Nat):Int) by lia]
     exact zav (by rw[List.getElem?_map,List.getElem?_eq_getElem hj];rfl)
    have st:=zad (o:=.tup [.int (i:Int),.ref z1]) ht
    have tup:=@zab G t (.tup [.int (i:Int),.ref z1])
    generalize upd G t (.tup [.int (i:Int),.ref z1])=G3 at st tup ⊢
    have hL3:=st _ _ hLG
    have p3:=pG.same st
    have tb3:=tbG.same st
    obtain⟨n1,r1,e1,hm1,hn1,hs1⟩:=(hMG z1 (List.mem_of_getElem? ez1)).t st.t
    obtain⟨n2,r2,e2,hm2,hn2,hs2⟩:=(hMG z2 ez2).t st.t
    have h36:=mul6 hn1 hn2
    have w1:=hm1.rws
    have w2:=hm2.rws
    have k1:=EndOk.sub hs1
    have k2':=EndOk.sub hs2
    refine⟨t,_,rfl,SqT.of tup,rfl,_,_,rfl,_,_,rfl,rfl, ?_⟩
    refine⟨_,rfl,_,rfl,_,_,rfl,rfl,_,_,rfl,rfl,(by show (0:Int)<3;decide),L,_,_,.ref z2,rfl,rfl,SqL.of hL3,hat2, ?_⟩
    refine⟨_,rfl,_,rfl,z1,z2,n1,n2,r1,r2,e1,e2,rfl,hm1,hm2,by lia,fun zm G4 s4 hm4=> ?_⟩
    refine⟨_,rfl,_,rfl,z1,z2,n1,n2,r1,r2,e1,e2,rfl,hm1.sameT s4.t,hm2.sameT s4.t,by lia,fun zs' G5 s5 hs5=>⟨_,_,rfl, ?_⟩⟩
    refine⟨_,rfl,zm,n1*n2,_,_,rfl,hm4.sameT s5.t,by lia,fun zo G6 s6 ho6=> ?_⟩
    have s46:=(s4.trans s5).trans s6
    refine⟨_,rfl,z1,n1,r1,e1,rfl,hm1.sameT s46.t,by lia,fun y1 G7 s7 hy1=> ?_⟩
    refine⟨_,rfl,z2,n2,r2,e2,rfl,(hm2.sameT s46.t).sameT s7.t,by lia,fun y2 G8 s8 hy2=> ?_⟩
    refine⟨y1,y2,n1,n2,r1,r2,_,_,rfl,hy1.sameT s8.t,hy2,by lia,fun za G9 s9 ha9=>⟨_,_,rfl, ?_⟩⟩
    have s69:=(s7.trans s8).trans s9
    have s39:=s46.trans s69
    have C9:MC G9 z1 z2 zm zs' zo za n1 n2 r1 r2 e1 e2:=⟨hm1.sameT s39.t,hm2.sameT s39.t,hm4.sameT ((s5.trans s6).trans s69).t,hs5.sameT (s6.trans s69).t,ho6.sameT s69.t,ha9⟩
    have hL9:=s39 _ _ hL3
    have p9:=p3.same s39
    have tb9:=tb3.same s39
    have hM9:∀z∈zs,MQ G9 z:=fun z hz=>((hMG z hz).t st.t).t s39.t
    clear ha9 hy1 hy2 ho6 hs5 hm4 hm1 hm2 hMG tbG pG hLG st tup s4 s5 s6 s7 s8 s9 s46 s69 s39 hL3 p3 tb3
    refine⟨_,rfl,p,5,_,rfl,by decide,by decide,p9,by lia,fun d1 G10 d10 d11 p10 k10=>⟨_,_,rfl,rfl, ?_⟩⟩
    refine⟨_,rfl,p,6,_,rfl,by decide,by decide,p10,by lia,fun d2 G11 d20 d21 p11 k11=>⟨_,_,rfl,rfl,by show 3<=sizeLine;decide,fun l hl=> ?_⟩⟩
    have tl:=zad (o:=.lst [.int (7+d2),.int 13,.int 40]) hl
    have hlp:=p11.ne_new hl
    have hll:=@zab G11 l (.lst [.int (7+d2),.int 13,.int 40])
    generalize upd G11 l (.lst [.int (7+d2),.int 13,.int 40])=G12 at tl hll ⊢
    refine⟨_,rfl,p,3,_,rfl,by decide,by decide,p11.same tl,by lia,fun d3 G13 d30 d31 p13 k13=> ?_⟩
    obtain⟨n4,hn4,hat4⟩:∃n4:Nat,n4<=40/\atI [V.int (7+d2),.int 13,.int 40] (d3*(if decide (V.int (i:Int)=V.int 0)=true then 1 else 0))=some (.int (n4:Int)):=by
     have h0:∃n4:Nat,n4<=40/\atI [V.int (7+d2),.int 13,.int 40] 0=some (.int (n4:Int)):=⟨(7+d2).toNat,by lia,by rw[show (((7+d2).toNat:Nat):Int)=7+d2 by lia];exact zav (j:=0) rfl⟩
     cases decide (V.int (i:Int)=V.int 0) with
     |false=>
      rw[if_neg (by decide),Int.mul_zero]
      exact h0
     |true=>
      rw[if_pos rfl,Int.mul_one]
      have:d3=0∨d3=1∨d3=2:=by lia
      rcases this with rfl|rfl|rfl
      ·exact h0
      ·exact⟨13,by decide,zav (j:=1) rfl⟩
      ·exact⟨40,by decide,zav (j:=2) rfl⟩
    refine⟨_,rfl,rfl,.inr ⟨_,rfl,_,_,rfl,rfl,.inl ⟨by lia,by lia⟩,l,_,_,.int (n4:Int),rfl,rfl,SqL.of (k13 _ _ hll hlp hlp),hat4, ?_⟩⟩
    refine⟨by show 4<=sizeLine;decide,fun t2 ht2=>⟨t2,rfl,⟨_,SqT.of zab⟩, ?_⟩⟩
    have kn13:KeepN p G9 G13:=((k10.kn.trans k11.kn).trans tl.kn).trans k13.kn
    have hL13:=kn13.lst hL9 hLp
    have C13:=C9.t (kn13.t p9)
    have hM13:∀z∈zs,MQ G13 z:=fun z hz=>(hM9 z hz).t (kn13.t p9)
    have tb13:=(((tb9.keep p9 k10).keep p10 k11).same tl).keep (p11.same tl) k13
    have tt:=zad (o:=.tup [.int 0,.int 1,.int (2+d1),.int (n4:Int)]) ht2
    have htt:=@zab G13 t2 (.tup [.int 0,.int 1,.int (2+d1),.int (n4:Int)])
    generalize upd G13 t2 (.tup [.int 0,.int 1,.int (2+d1),.int (n4:Int)])=G14 at tt htt ⊢
    have C14:=C13.t tt.t
    have p14:=p13.same tt
    have tb14:=tb13.same tt
    have hL14:=tt _ _ hL13
    have hM14:∀z∈zs,MQ G14 z:=fun z hz=>(hM13 z hz).t tt.t
    clear C13 hM13 tb13 hL13 hM9 C9 tb9 hL9 kn13 hll tl k13 k11 k10 p13 p11 p10 p9
    have hb:=zbA w1 w2
    have eb:=zda n1 n2 e1 e2
    have eo:=zbZ (n1*n2) (zbu n1 n2 e1 e2)
    have eoo:=zbZ (n1*n2) (oppE (n1*n2) (zbu n1 n2 e1 e2))
    have es:EndOk (n1*n2) (eitE n1 n2 e1 e2):=zbZ _ _
    have ea:EndOk (n1*n2) (eitE n1 n2 (oppE n1 e1) (oppE n2 e2)):=zbZ _ _
    have lim:∀{N:Nat} {e:List Int},EndOk N e->N<=36->e.length<=100:=fun h h'=>by have:=h.len;lia
    refine zfB (K:=K) (a:=t2) (xs:=[.int 0,.int 1,.int (2+d1),.int (n4:Int)]) (fun j σ G=>∃c10:Option V,σ=[some (.ref a),some (.ref p),some (.ref L),some (.int (i:Int)),some (.ref z1),some (.ref z2),some (.ref zm),some (.ref zs'),some (.ref zo),some (.ref za),c10]/\Same G14 G) ⟨_,rfl,Same.refl _⟩ (fun j σ G hj ⟨_,_,sm⟩=>SqT.of (sm _ _ htt)) ?_ ?_
    ·rintro j x σ G' hx ⟨c10',rfl,sm⟩
     obtain⟨n,rfl,hn⟩:∃n:Nat,x=.int (n:Int)/\n<=40:=by
      have hx:=List.mem_of_getElem? hx
      simp only[List.mem_cons,List.not_mem_nil,or_false] at hx
      rcases hx with rfl|rfl|rfl|rfl
      ·exact⟨0,rfl,by decide⟩
      ·exact⟨1,rfl,by decide⟩
      ·exact⟨(2+d1).toNat,by rw[show (((2+d1).toNat:Nat):Int)=2+d1 by lia],by lia⟩
      ·exact⟨n4,rfl,hn4⟩
     have C:=C14.t sm.t
     refine⟨_,rfl,_,rfl,zm,n1*n2,n,_,_,rfl,C.m,by lia,by lia,eb.rng,lim eb h36,fun H1 s1=> ?_⟩
     refine⟨_,rfl,_,rfl,zs',n1*n2,n,_,_,rfl,C.s.sameT s1.t,by lia,by lia,es.rng,lim es h36,fun H2 s2=>⟨_,_,rfl,rfl, ?_⟩⟩
     have s12:=s1.trans s2
     refine⟨_,rfl,_,rfl,z1,n1,n,_,_,rfl,C.m1.sameT s12.t,by lia,by lia,k1.rng,lim k1 (by lia),fun H3 s3=> ?_⟩
     have s13:=s12.trans s3
     refine⟨_,rfl,_,rfl,z2,n2,n,_,_,rfl,C.m2.sameT s13.t,by lia,by lia,k2'.rng,lim k2' (by lia),fun H4 s4=>⟨_,_,rfl,rfl, ?_⟩⟩
     have s14:=s13.trans s4
     have em:=zj6 w1 w2 k1 k2' n
     refine⟨rfl,_,rfl,ifS (by show (!decide (V.int (_+_)=V.int (_+_)))=false;rw[em];exact zc8 _) ?_⟩
     refine⟨_,rfl,_,rfl,zo,n1*n2,n,_,_,rfl,C.o.sameT s14.t,by lia,by lia,eo.rng,lim eo h36,fun H5 s5=> ?_⟩
     have s15:=s14.trans s5
     refine⟨_,rfl,_,rfl,za,n1*n2,n,_,_,rfl,C.a.sameT s15.t,by lia,by lia,ea.rng,lim ea h36,fun H6 s6=> ?_⟩
     have s16:=s15.trans s6
     have em2:=zi4 (e1:=e1) (e2:=e2) w1 w2 n
     refine⟨rfl,_,rfl,ifS (by rw[em2];exact zc8 _) ?_⟩
     refine⟨_,rfl,zo,n1*n2,_,_,rfl,C.o.sameT s16.t,by lia,fun y H7 s7 hy=> ?_⟩
     have s17:=s16.trans s7
     refine⟨_,rfl,y,n1*n2,n,_,_,rfl,hy,by lia,by lia,eoo.rng,lim eoo h36,fun H8 s8=> ?_⟩
     have s18:=s17.trans s8
     refine⟨_,rfl,_,rfl,zm,n1*n2,n,_,_,rfl,C.m.sameT s18.t,by lia,by lia,eb.rng,lim eb h36,fun H9 s9=> ?_⟩
     have em3:=zj7 (e1:=e1) (e2:=e2) w1 w2 n
     refine⟨rfl,_,rfl,ifS (by rw[em3];exact zc8 _) ?_⟩
     exact⟨_,rfl,sm.trans (s18.trans s9)⟩
    ·rintro σ G' ⟨c10',rfl,sm⟩
     have sA:=sm
     have pA:=p14.same sm
     have tbA:=tb14.same sm
     have hLA:=sm _ _ hL14
     have CA:=C14.t sm.t
     have hMA:∀z∈zs,MQ G' z:=fun z hz=>(hM14 z hz).t sm.t
     clear tb14 p14 hL14 hM14 C14
     obtain⟨far,hf0,hf8,hatf⟩:∃far:Int,0<far/\far<=8/\atI [V.int 5,.int 8] (if decide (V.int (i:Int)=V.int 0)=true then 1 else 0)=some (.int far):=by
      cases decide (V.int (i:Int)=V.int 0) with
      |false=>exact⟨5,by decide,by decide,by rw[if_neg (by decide)];exact zav (j:=0) rfl⟩
      |true=>exact⟨8,by decide,by decide,by rw[if_pos rfl];exact zav (j:=1) rfl⟩
     refine⟨_,rfl,_,rfl,_,rfl,by show 2<=sizeLine;decide,fun l2 hl2=> ?_⟩
     have t2':=zad (o:=.lst [.int 5,.int 8]) hl2
     refine⟨_,rfl,rfl,.inr ⟨_,rfl,l2,_,_,.int far,rfl,rfl,SqL.of zab,hatf,p,far,_,rfl,hf0,by lia,pA.same t2',by lia,fun d5 GB d50 d51 pB kB=>⟨_,_,rfl,rfl,_,rfl,_,rfl, ?_⟩⟩⟩
     have knB:KeepN p G' GB:=t2'.kn.trans kB.kn
     have CB:=CA.t (knB.t pA)
     have tbB:=(tbA.same t2').keep (pA.same t2') kB
     obtain⟨m5,hm5⟩:∃m5:Nat,2+d5=(m5:Int):=⟨(2+d5).toNat,by lia⟩
     refine⟨p,zm,z1,z2,_,m5,n1,n2,r1,r2,e1,e2,by rw[<-hm5],pB,by lia,CB.m,CB.m1,CB.m2,h36,by lia,by lia,tbB,fun GC kC pC tbC=>⟨_,rfl, ?_⟩⟩
     refine ifS rfl ?_
     have knC:=knB.trans kC
     have CC:=CA.t (knC.t pA)
     have hLC:=knC.lst hLA hLp
     have hMC:∀z∈zs,MQ GC z:=fun z hz=>(hMA z hz).t (knC.t pA)
     clear CB tbB knB CA hLA hMA
     refine⟨_,rfl,_,rfl,z1,z2,n1,n2,r1,r2,e1,e2,rfl,CC.m1,CC.m2,by lia,fun ya Ga sa ha=> ?_⟩
     refine⟨_,rfl,_,_,ha.data,(CC.m.sameT sa.t).data,zbn _ _,zbn _ _,_,rfl,ifS (by rw[zeI];rfl) ?_⟩
     refine⟨_,rfl,_,rfl,z1,z2,n1,n2,r1,r2,e1,e2,rfl,CC.m1.sameT sa.t,CC.m2.sameT sa.t,by lia,fun yb Gb sb hb'=> ?_⟩
     have sab:=sa.trans sb
     refine⟨_,rfl,_,_,hb'.data,(CC.s.sameT sab.t).data,zbn _ _,zbn _ _,_,rfl,ifS (by rw[zeI];rfl) ?_⟩
     refine⟨_,rfl,zm,n1*n2,_,_,rfl,CC.m.sameT sab.t,by lia,fun yc Gc sc hc=> ?_⟩
     have sac:=sab.trans sc
     refine⟨_,rfl,_,_,hc.data,(CC.o.sameT sac.t).data,zbn _ _,zbn _ _,_,rfl,ifS (by rw[zeI];rfl) ?_⟩
     exact⟨_,_,_,_,_,_,_,_,rfl,sac _ _ hLC,fun z hz=>(hMC z hz).t sac.t,(pC.same sac).more (by lia),tbC.same sac⟩
   ·rintro σ G ⟨c3,c4,c5,c6,c7,c8,c9,c10,rfl,_⟩
    exact k _
end
end K52
namespace L2
theorem zbw {α β:Type}{F:α->β->Prop}:∀{l:List α} {r:List β},Paired F l r->∀{i:Nat} {a:α},l[i]? =some a->∃b,r[i]? =some b/\F a b
 |_,_,.nil,i,_,h=>by cases h
 |_,_,.cons q t,0,_,h=>by cases h;exact⟨_,rfl,q⟩
 |_,_,.cons q t,i+1,_,h=>by
  obtain⟨b,h1,h2⟩:=zbw t (i:=i) (by simpa using h)
  exact⟨b,h1,h2⟩
theorem zco {α:Type}{R:V->V->Prop}{F:α->Int}{S:Addr->α->Prop}(hR:∀z a v,S z a->R (.ref z) v->v=.int (F a)):∀{zs:List Addr} {qs:List α} {ys:List V},Paired (fun z q=>S z q) zs qs->Paired R (zs.map V.ref) ys->ys=(qs.map F).map V.int
 |_,_,_,.nil,.nil=>rfl
 |_,_,_,.cons q t,.cons h pr=>by rw[List.map_cons,List.map_cons,hR _ _ _ q h,<-zco hR t pr]
theorem zfv {α β:Type}{F:α->β->Prop}:∀{l:List α} {r:List β},Paired F l r->Paired (fun a b=>F a b/\b∈r) l r
 |_,_,.nil=>.nil
 |_,_,.cons q t=>.cons ⟨q,List.mem_cons_self⟩ (Paired.mapP (zfv t) fun _ _ h=>⟨h.1,List.mem_cons_of_mem _ h.2⟩)
theorem zlJ {g:G4}{n:Nat}(h:gSum g=n)(hn:n<=100):(goG g).length<=100:=by
 obtain⟨a,b,c,d⟩:=g
 have h:a+b+c+d=n:=h
 unfold goG
 simp
 lia
theorem zka {rows:List (List Int)}{ends:List Int}{N l:Nat}{g:G4}{s:Int}(h0:0<=s)(h1:s<(N:Int)):atI ((rowG rows ends N l g).map V.int) s=some (.int (cG rows ends l g s)):=by
 obtain⟨j,rfl⟩:∃j:Nat,s=(j:Int):=⟨s.toNat,by lia⟩
 refine zav ?_
 unfold rowG
 rw[List.getElem?_map,List.getElem?_map,List.getElem?_range (by lia)]
 rfl
theorem zlK {κ:Type}[DecidableEq κ](kvs:List (κ×V))(k:κ)(v:V):(putK kvs k v).length<=kvs.length+1:=by
 unfold putK
 split
 ·rw[List.length_map];lia
 ·rw[List.length_append];exact Nat.le_refl _
theorem zmK {g h:G4}(e:some (HO.tup (g4V g))=some (HO.tup (g4V h))):g=h:=by
 have e1:=HO.tup.inj (Option.some.inj e)
 obtain⟨a,b,c,d⟩:=g
 obtain⟨a',b',c',d'⟩:=h
 unfold g4V at e1
 simp only[List.cons.injEq,V.int.injEq,and_true] at e1
 obtain⟨e2,e3,e4,e5⟩:=e1
 have:a=a':=by lia
 have:b=b':=by lia
 have:c=c':=by lia
 have:d=d':=by lia
 subst_vars
 rfl
theorem zfw:∀{a b:List Int},a.map V.int=b.map V.int->a=b
 |[],[],_=>rfl
 |[],_::_,h=>by cases h
 |_::_,[],h=>by cases h
 |x::a,y::b,h=>by
  rw[List.map_cons,List.map_cons,List.cons.injEq] at h
  rw[V.int.inj h.1,zfw h.2]
theorem zkb {rows:List (List Int)}{ends:List Int}{N i:Nat}{g:G4}(hl:rows.length=N):rows.map (fun r=>((goG g).map fun q=>cG rows ends i q.2 (r.getD q.1.toNat 0)).sum)=rowG rows ends N (i+1) g:=by
 unfold rowG
 refine List.ext_getElem? fun s=> ?_
 rw[List.getElem?_map,List.getElem?_map]
 by_cases h:s<N
 ·rw [List.getElem?_eq_getElem (by lia),List.getElem?_range h]
  have e:∀q1:Int,atZr rows (s:Int).toNat q1=(rows[s]'(by lia)).getD q1.toNat 0:=fun q1=>by
   unfold atZr
   rw[Int.toNat_natCast,List.getD_eq_getElem?_getD (l:=rows),List.getElem?_eq_getElem (by lia)]
   rfl
  show some _=some (((goG g).map fun q=>cG rows ends i q.2 (atZr rows (s:Int).toNat q.1)).sum)
  simp only[e]
 ·rw [List.getElem?_eq_none (by lia),List.getElem?_eq_none (by simp;lia)]
  rfl
end L2
namespace K52
open L2
section
variable {P:Program}{w:World}{K:PySem.W.Frag}{mg:Str->Option Value}{base:Heap}
theorem zfx {f:Addr}{fd:FuncData}(F:Fun K "ways_left" "ways_left" za4 f fd)(T:Top mg)(Cgaps_all:Cal P w K mg base 1 "gaps_all" ["left"] zgx)(Cgaps_on:Cal P w K mg base 1 "gaps_on" ["gaps"] zjK):FnOk P w K mg base CX0 2 f fd ["machine", "many"] spWL:=by
 refine F.ok sc_ways_left (fun vs H Q E h=> ?_) (fun cdv A outer s H vs Q E hr h=> ?_)
 ·obtain ⟨z,N,m,rows,ends,rfl,_⟩:=h
  rfl
 ·obtain ⟨z,N,m,rows,ends,rfl,hM,hN,he,hm,k⟩:=h
  have hT:=(wlT (P:=P) (w:=w) (base:=base) (E:=E) (outer:=outer) (s:=s) (H:=H) (f:=f) (cdv:=cdv) (A:=A) hr T Cgaps_all Cgaps_on).2
  refine⟨(wlT (P:=P) (w:=w) (base:=base) (E:=E) (outer:=outer) (s:=s) (H:=H) (f:=f) (cdv:=cdv) (A:=A) hr T Cgaps_all Cgaps_on).1,by assumption, ?_⟩
  clear hT
  obtain⟨R,E',zs,hz,hR,hrw,hE,hlN,hN0,hv⟩:=hM
  have hzl:=Paired.length hrw
  refine⟨_,rfl,z,_,rfl,SqT.of hz,rfl,_,_,rfl,_,_,rfl,rfl, ?_⟩
  refine fun p0 hp0=>⟨by show 4<=sizeLine;decide,fun t0 ht0=> ?_⟩
  have y0:Same H (upd (upd H p0 (.dT [])) t0 (.tup [.int 0,.int 0,.int 0,.int 0])):=(zad hp0).trans (zad ht0)
  have hpt:p0≠t0:=fun e=>by rw[e,zab] at ht0;cases ht0
  refine⟨_,rfl,R,_,rfl,.inr (SqT.of (y0 _ _ hR)), ?_⟩
  rw[zaC,hzl,hlN]
  refine⟨_,rfl,by lia,by lia, ?_⟩
  rw[Int.toNat_natCast]
  refine zkZ (fun s=>if s∈ends then 1 else 0) (by lia) (fun s s0 s1 G sm Q' q=> ?_) fun x0 G1 hx0 s1 hx=> ?_
  ·refine ⟨_,rfl,_,rfl,E',_,rfl,.inr (SqT.of (sm _ _ (y0 _ _ hE))),rfl,by rw[List.all_map];exact List.all_eq_true.mpr fun _ _=>rfl,_,rfl, ?_⟩
   rw[show inV (V.int s) (ends.map V.int)=decide (s∈ends) from za1 _ _]
   refine ite2 (fun c=> ?_) (fun c=> ?_)
   ·have:=q G (Same.refl G)
    rw[if_pos (of_decide_eq_true c)] at this
    exact this
   ·have:=q G (Same.refl G)
    rw[if_neg (fun z=>c (decide_eq_true z))] at this
    exact this
  have ht0':=s1 _ _ (@zab (upd H p0 (.dT [])) t0 (.tup [.int 0,.int 0,.int 0,.int 0]))
  have hp0':G1 p0=some (.dT []):=s1 _ _ (by rw[zaj hpt,zab])
  refine⟨t0,gK (0,0,0,0),rfl,ht0',hp0',by show 1<=sizeLine;decide,fun L hL=> ?_⟩
  have hS0:Same H G1:=y0.trans s1
  have hp0n:H p0=none:=hp0
  have e0:∀b o,H b=some o->(upd G1 p0 (.dT [(gK (0,0,0,0),.ref x0)])) b=some o:=fun b o e=>by
   rw[zaj (zaJ e hp0n)]
   exact hS0 _ _ e
  have hx0p:x0≠p0:=fun e=>by rw[e] at hx;rw[hp0'] at hx;cases hx
  have hLp:L≠p0:=fun e=>by rw[e,zab] at hL;cases hL
  have hLv0:LvAt (upd (upd G1 p0 (.dT [(gK (0,0,0,0),.ref x0)])) L (.lst [.ref p0])) rows ends N p0 0:=by
   refine⟨[(gK (0,0,0,0),.ref x0)],by rw[zaj (Ne.symm hLp),zab],fun g hg=>⟨x0, ?_, ?_⟩⟩
   ·obtain ⟨a,b,c,d⟩:=g
    have hg:a+b+c+d=0:=hg
    have:a=0/\b=0/\c=0/\d=0:=by lia
    obtain⟨rfl,rfl,rfl,rfl⟩:=this
    exact zbb rfl
   ·have hx0L:x0≠L:=fun e=>by rw[<-e,zaj hx0p,hx] at hL;cases hL
    rw[zaj hx0L,zaj hx0p,hx]
    congr 2
    unfold rowG num0
    simp only[List.map_map]
    exact List.map_congr_left fun s _=>rfl
  have hSL:Same H (upd (upd G1 p0 (.dT [(gK (0,0,0,0),.ref x0)])) L (.lst [.ref p0])):=fun b o e=>by
   rw[zaj (zaJ (e0 b o e) hL)]
   exact e0 b o e
  have hLn:H L=none:=by
   cases e:H L with
   |none=>rfl
   |some o=>rw[e0 _ _ e] at hL;cases hL
  have hLL:=@zab (upd G1 p0 (.dT [(gK (0,0,0,0),.ref x0)])) L (.lst [.ref p0])
  generalize upd (upd G1 p0 (.dT [(gK (0,0,0,0),.ref x0)])) L (.lst [.ref p0])=G2 at hLv0 hSL hLL ⊢
  clear hLp hx0p e0 hp0n hS0 hp0' ht0' hx s1 hx0 hL y0 hpt hp0 ht0
  refine⟨_,rfl,_,_,rfl,⟨by decide,by decide,by lia,by lia⟩, ?_⟩
  rw[show ((m:Int)-1).toNat=m-1 by lia]
  refine zcs (lo:=1) (n:=m-1) (fun i σ G=>∃(ds:List Addr) (c5 c6 c7 c8 c9:Option V),σ=[some (.ref z),some (.int (m:Int)),some (.ref R),some (.ref E'),some (.ref L),c5,c6,c7,c8,c9]/\Same H G/\G L=some (.lst (ds.map V.ref))/\LvsAt G rows ends N ds/\ds.length=i+1) ⟨[p0],_,_,_,_,_,rfl,hSL,hLL,fun l d e=> ?_,rfl⟩ ?_ ?_
  ·cases l with
   |zero=>cases e;exact hLv0
   |succ l=>cases e
  ·rintro i σ G hi ⟨ds,c5,c6,c7,c8,c9,rfl,sm,hG,hLv,hdl⟩
   have hda:atI (ds.map V.ref) (-1)=some (.ref ds[i]):=by
    rw[zea (by rw[zaC];lia),zaC,List.getElem?_map,show ds.length-1=i by lia,List.getElem?_eq_getElem (by lia)]
    rfl
   have hlast:=hLv i ds[i] (List.getElem?_eq_getElem (by lia))
   refine⟨_,rfl,_,rfl,L,_,_,_,rfl,rfl,SqL.of hG,hda,fun d hd=> ?_⟩
   have yd:=zad (o:=.dT []) hd
   have hdL:d≠L:=fun e=>by rw[e,hG] at hd;cases hd
   have sd:Same H (upd G d (.dT [])):=sm.trans yd
   have hGd:=yd _ _ hG
   have hLvd:=hLv.same yd
   have hdd:=@zab G d (.dT [])
   have hdn:H d=none:=sm.free hd
   have hdds:∀x∈ds,x≠d:=fun x hx e=>by
    obtain⟨l,hl⟩:=List.getElem?_of_mem hx
    obtain⟨kvs,q,_⟩:=hLv l x hl
    rw[e,hd] at q
    cases q
   generalize upd G d (.dT [])=G3 at sd hGd hLvd hdd ⊢
   refine⟨_,rfl,i+1,by rw[show ((i+1:Nat):Int)=1+(i:Int) by lia],by lia,fun pA zsA G4 s4 hpA0 hpA hgs=> ?_⟩
   have hgs:Paired (fun z g=>G4At G4 z g) zsA (gAll (i+1)):=hgs
   have hzA:=Paired.length hgs
   refine⟨pA,rfl,⟨_,SqL.of hpA⟩, ?_⟩
   have hpAd:pA≠d:=fun e=>by rw[e,hdd] at hpA0;cases hpA0
   have hLd4:=s4 _ _ hGd
   have hlast4:=(hLvd i ds[i] (List.getElem?_eq_getElem (by lia))).same s4
   refine zgb (K:=K) (a:=pA) (xs:=zsA.map V.ref) (fun j σ G'=>∃(c8 c9:Option V) (kvs:List (List Key×V)),σ=[some (.ref z),some (.int (m:Int)),some (.ref R),some (.ref E'),some (.ref L),some (.int (1+(i:Int))),some (.ref ds[i]),some (.ref d),c8,c9]/\zk8 d G4 G'/\G' d=some (.dT kvs)/\kvs.length<=j/\∀g∈(gAll (i+1)).take j,∃x,valV kvs (gK g)=some (.ref x)/\G' x=some (.lst ((rowG rows ends N (i+1) g).map V.int))) ⟨_,_,[],rfl,fun _ _ e _=>e,s4 _ _ hdd,Nat.le_refl _,fun g hg=>by cases hg⟩ (fun j σ G' _ ⟨_,_,_,_,sA,_⟩=>SqL.of (sA _ _ hpA hpAd)) ?_ ?_
   ·rintro j x σ G5 hx ⟨c8,c9,kvs,rfl,sA,hd5,hkl,hkv⟩
    rw[List.getElem?_map] at hx
    obtain⟨zg,hzg,rfl⟩:=Option.map_eq_some_iff.mp hx
    have hjl:j<zsA.length:=(List.getElem?_eq_some_iff.mp hzg).1
    have hjg:j<(gAll (i+1)).length:=by lia
    obtain⟨g,hg1,hg2⟩:=zbw hgs hzg
    have hgm:=List.mem_of_getElem? hg1
    have hgl:(gAll (i+1)).length<=1000:=by
     unfold gAll
     rw[List.length_map]
     exact ziy (i+1) (by lia)
    have hgs':=gAll_iff.mp hgm
    have hzd:zg≠d:=fun e=>by
     have q:G4 zg=some (.tup (g4V g)):=hg2
     rw[e,s4 _ _ hdd] at q
     cases q
    have hg5:G4At G5 zg g:=sA _ _ hg2 hzd
    have sH5:Same H G5:=fun b o e=>sA _ _ (s4 _ _ (sd _ _ e)) (zaJ e hdn)
    have hl5:LvAt G5 rows ends N ds[i] i:=by
     obtain⟨kv,q1,q2⟩:=hlast4
     refine⟨kv,sA _ _ q1 (hdds _ (List.getElem_mem _)),fun g' hg'=> ?_⟩
     obtain⟨x,a,b⟩:=q2 g' hg'
     refine⟨x,a,sA _ _ b fun e=> ?_⟩
     rw[e,s4 _ _ hdd] at b
     cases b
    refine⟨_,rfl,zg,g,rfl,hg5,by lia,fun pq zq G6 s6 hpq0 hpq hgo=> ?_⟩
    have hgo:Paired (fun z q=>GoP G6 z q) zq (goG g):=hgo
    have sH6:=sH5.trans s6
    have hl6:=hl5.same s6
    have hrw6:=hrw.same sH6
    refine⟨_,rfl,R,rfl,⟨_,SqT.of (sH6 _ _ hR)⟩, ?_⟩
    refine zdk (zbt (K:=K) (a:=R) (xs:=zs.map V.ref)) (zaS (by rw[zaC];lia)) (fun x v _=>∀(zr:Addr) (r:List Int),x=V.ref zr->G6 zr=some (.tup (r.map V.int))->v=V.int (((goG g).map fun q=>cG rows ends i q.2 (r.getD q.1.toNat 0)).sum)) (fun _ _ _ _ _ h=>h) (fun G sm=>SqT.of (sm _ _ (sH6 _ _ hR))) (fun x hx G7 s7 Q' q'=> ?_) fun acc ys G8 hacc s8 hys pr=> ?_
    ·obtain ⟨zr,hzr,rfl⟩:=List.mem_map.mp hx
     obtain⟨ir,hir⟩:=List.getElem?_of_mem hzr
     obtain⟨r,hr1,hr2⟩:=zbw hrw6 hir
     obtain⟨rl,rv⟩:=hv r (List.mem_of_getElem? hr1)
     refine⟨_,rfl,pq,rfl,⟨_,SqL.of (s7 _ _ hpq)⟩, ?_⟩
     have hzq:=Paired.length hgo
     refine zgu (za3 (K:=K) (a:=pq) (xs:=zq.map V.ref)) (Nat.lt_of_le_of_lt (m:=100) (by rw[zaC,hzq];exact zlJ hgs' (by lia)) (by decide)) (fun x v _=>∀(zz:Addr) (q:Int×L2.G4),x=V.ref zz->GoP G6 zz q->q∈goG g->v=V.int (cG rows ends i q.2 (r.getD q.1.toNat 0))) (fun _ _ _ _ _ h=>h) (fun G sm=>SqL.of (sm _ _ (s7 _ _ hpq))) (fun x hx=> ?_) (fun x hx a u v hxa htu G9 s9 Q2 q2=> ?_) fun acc2 ys2 G10 hacc2 s10 hys2 pr2=> ?_
     ·obtain ⟨zz,hzz,rfl⟩:=List.mem_map.mp hx
      obtain⟨iz,hiz⟩:=List.getElem?_of_mem hzz
      obtain⟨q,_,tq,q2,_⟩:=zbw hgo hiz
      exact⟨zz,_,_,rfl,s7 _ _ q2⟩
     ·obtain ⟨zz,hzz,rfl⟩:=List.mem_map.mp hx
      obtain rfl:zz=a:=by cases hxa;rfl
      obtain⟨iz,hiz⟩:=List.getElem?_of_mem hzz
      obtain⟨q,hq1,tq,hq2,hq3⟩:=zbw hgo hiz
      have hqm:=List.mem_of_getElem? hq1
      obtain⟨gs1,m0,m4⟩:=zlu hqm
      have:=s7 _ _ hq2
      rw[htu] at this
      obtain⟨rfl,rfl⟩:u=.int q.1/\v=.ref tq:=by
       have:=HO.tup.inj (Option.some.inj this)
       simp only[List.cons.injEq,and_true] at this
       exact this
      obtain⟨kv,k1,k2⟩:=(hl6.same s7).same s9
      obtain⟨x1,x2,x3⟩:=k2 q.2 (by lia)
      have hdg:=DGet.t (b:=tq) (k:=gK q.2) k1 (s9 _ _ (s7 _ _ hq3))
      rw[x2] at hdg
      have rm:=rv (r.getD q.1.toNat 0) (by rw[List.getD_eq_getElem?_getD,List.getElem?_eq_getElem (by lia)];exact List.getElem_mem _)
      refine⟨_,rfl,_,rfl,ds[i],_,rfl,hdg,_,rfl,_,rfl,zr,_,_,_,rfl,rfl,SqT.of (s9 _ _ (s7 _ _ hr2)),zdm m0 (by lia), ?_⟩
      refine⟨x1,_,_,_,rfl,rfl,SqL.of x3,zka rm.1 rm.2,q2 _ G9 (Same.refl G9) fun zz' q' e hz' hm'=> ?_⟩
      cases e
      obtain⟨tq',a1,a2⟩:=hz'
      rw[hq2] at a1
      have e1:=HO.tup.inj (Option.some.inj a1)
      simp only[List.cons.injEq,V.int.injEq,V.ref.injEq,and_true] at e1
      obtain⟨e2,rfl⟩:=e1
      have e3:q.2=q'.2:=zmK (hq3.symm.trans a2)
      rw[e2,e3]
     ·have hy:ys2=((goG g).map fun q=>cG rows ends i q.2 (r.getD q.1.toNat 0)).map V.int:=by
       have pg:Paired (fun z q=>GoP G6 z q/\q∈goG g) zq (goG g):=zfv hgo
       exact zco (fun z q v hs hv'=>hv' z q rfl hs.1 hs.2) pg pr2
      rw[hy] at hys2
      refine⟨acc2,_,rfl,hys2,q' _ G10 s10 fun zr' r' e hr'=> ?_⟩
      cases e
      have:r=r':=by
       rw[hr2] at hr'
       exact zfw (HO.tup.inj (Option.some.inj hr'))
      rw[this]
    ·have hy:ys=(rowG rows ends N (i+1) g).map V.int:=by
      have e1:=zco (S:=fun z r=>G6 z=some (.tup (r.map V.int))) (F:=fun r=>((goG g).map fun q=>cG rows ends i q.2 (r.getD q.1.toNat 0)).sum) (fun z r v hs hv'=>hv' z r rfl hs) hrw6 pr
      rw[e1]
      congr 1
      exact zkb hlN
     rw[hy] at hys
     have hd6:G6 d=some (.dT kvs):=s6 _ _ hd5
     have hd8:=s8 _ _ hd6
     have hz8:G8 zg=some (.tup ((gK g).map kV)):=s8 _ _ (s6 _ _ hg5)
     refine⟨_,rfl,_,rfl,d,_,rfl,DPut.t hd8 hz8 (Nat.lt_of_le_of_lt (m:=1000) (by lia) (by decide)), ?_⟩
     have s68:=s6.trans s8
     have haccd:acc≠d:=fun e=>by rw[e,hd6] at hacc;cases hacc
     refine⟨_,_,_,rfl,fun b o e hb=>by rw[zaj hb];exact s68 _ _ (sA _ _ e hb),zab,Nat.le_trans (zlK _ _ _) (by lia),fun g' hg'=> ?_⟩
     rw[zjN]
     by_cases c:gK g'=gK g
     ·refine ⟨acc,by rw[if_pos c], ?_⟩
      rw[zaj haccd,zmx c]
      exact hys
     ·rw [if_neg c]
      have hne:g'∈(gAll (i+1)).take j:=by
       rw[List.take_succ,hg1] at hg'
       rcases List.mem_append.mp hg' with h|h
       ·exact h
       ·exact absurd (by rw[List.mem_singleton.mp (show g'∈[g] from h)]) c
      obtain⟨x,x1,x2⟩:=hkv g' hne
      have hxd:x≠d:=fun e=>by rw[e,hd5] at x2;cases x2
      exact⟨x,x1,by rw[zaj hxd];exact s68 _ _ x2⟩
   ·rintro σ G5 ⟨c8,c9,kvs,rfl,sA,hd5,hkl,hkv⟩
    rw[List.length_map,hzA,List.take_length] at hkv
    have hdL':L≠d:=Ne.symm hdL
    have hL5:=sA _ _ hLd4 hdL'
    refine⟨_,rfl,.inl ⟨rfl,_,SqL.of hL5⟩,_,rfl,L,_,_,rfl,rfl,hL5,zaS (by rw[zaC];lia), ?_⟩
    have sH5:Same H G5:=fun b o e=>sA _ _ (s4 _ _ (sd _ _ e)) (zaJ e hdn)
    have notL:∀{x:Addr} {l:Nat} {g:L2.G4},G5 x=some (.lst ((rowG rows ends N l g).map V.int))->x≠L:=fun {x l g} hx e=>by
     rw[e,hL5] at hx
     have e1:=HO.lst.inj (Option.some.inj hx)
     have e2:=congrArg (fun l:List V=>l[0]?) e1
     have h0:(rowG rows ends N l g)[0]? =some (cG rows ends l g ((0:Nat):Int)):=by
      unfold rowG
      rw[List.getElem?_map,List.getElem?_range hN0]
      rfl
     rw[List.getElem?_map,List.getElem?_map,h0,List.getElem?_eq_getElem (by lia)] at e2
     cases e2
    have lv5:∀{l:Nat} {d':Addr},ds[l]? =some d'->LvAt G5 rows ends N d' l:=fun {l d'} e=>by
     obtain⟨kv,q1,q2⟩:=(hLvd l d' e).same s4
     refine⟨kv,sA _ _ q1 (hdds _ (List.mem_of_getElem? e)),fun g' hg'=> ?_⟩
     obtain⟨x,a,b⟩:=q2 g' hg'
     refine⟨x,a,sA _ _ b fun e=> ?_⟩
     rw[e,s4 _ _ hdd] at b
     cases b
    have up:∀{l:Nat} {d':Addr},LvAt G5 rows ends N d' l->LvAt (upd G5 L (.lst (ds.map V.ref++[.ref d]))) rows ends N d' l:=fun {l d'} h=>by
     obtain⟨kv,q1,q2⟩:=h
     refine⟨kv,by rw[zaj (fun e=>by rw[e,hL5] at q1;cases q1)];exact q1,fun g' hg'=> ?_⟩
     obtain⟨x,a,b⟩:=q2 g' hg'
     exact⟨x,a,by rw[zaj (notL b)];exact b⟩
    refine⟨ds++[d],_,_,_,_,_,rfl,fun b o e=>by rw[zaj (zaJ e hLn)];exact sH5 _ _ e,by rw[zab,List.map_append];rfl,fun l d' e=> ?_,by rw[List.length_append];show ds.length+1=_;lia⟩
    by_cases c:l<ds.length
    ·rw [List.getElem?_append_left c] at e
     exact up (lv5 e)
    ·rw [List.getElem?_append_right (by lia)] at e
     have hl:l=i+1:=by
      have:=(List.getElem?_eq_some_iff.mp e).1
      rw[List.length_singleton] at this
      lia
     subst hl
     rw[show i+1-ds.length=0 by lia] at e
     cases e
     exact up ⟨kvs,hd5,fun g hg=>hkv g (gAll_iff.mpr hg)⟩
  ·rintro σ G ⟨ds,c5,c6,c7,c8,c9,rfl,sm,hG,hLv,hdl⟩
   exact⟨_,rfl,k L ds G sm hLn hG hLv (by lia)⟩
end
theorem all_mk {l:PySem.W.OpenLaw}{w:World}{K:PySem.W.Frag}{h:Heap}{mg:Str->Option Value}{fa T_MARKS c1 T1 c2 T2:Addr}(X:K.In h)(G:h.Ns mainGlobals mg)(hfa:mg "law" =some (.ref fa))(TK:TopK K)(TYK:TopSK K)(a_MARKS:PySem.W.nsIn K mainGlobals "MARKS" =some (some (.ref T_MARKS)))(h_MARKS:∀H,SqT K H T_MARKS ([0,1,2,3].map V.int))(mT1:mainGlobals≠T1)(mT2:mainGlobals≠T2)(hT12:T1≠T2)
  (d_numbers_left:Def K "numbers_left" zbo) (d_mark_at:Def K "mark_at" zdw) (d_marks:Def K "marks" zel) (d_state_after:Def K "state_after" zbO) (d_one_behind:Def K "one_behind" zbq) (d_met:Def K "met" ziw) (d_gaps_of:Def K "gaps_of" zbI) (d_nth_by:Def K "nth_by" zet) (d_place_by:Def K "place_by" zb5) (d_ways_met:Def K "ways_met" zcR) (d_gaps_all:Def K "gaps_all" zb6) (d_gaps_on:Def K "gaps_on" zbv) (d_ways_left:Def K "ways_left" za4) (d_opposite:Def K "opposite" zb3) (d_joined_row:Def K "joined_row" zbB) (d_both:Def K "both" zdR) (d_either:Def K "either" zeq) (d__law_urn:Def K "_law_urn" zcO) (d__law_take:Def K "_law_take" zcl) (d__law_marks:Def K "_law_marks" zbY) (d__law_goes:Def K "_law_goes" zcm) (d__law_met:Def K "_law_met" zcP) (d__law_machine:Def K "_law_machine" zaD) (d_nth_met:DefL K "nth_met" s_nth_met c1 T1) (d_place_met:DefL K "place_met" s_place_met c2 T2) (d__law_undone:Def K "_law_undone" zaP) (d_law:Def K "law" zdH):
  ∃fd:FuncData,(∀(s:Shared) (v:Value),BindsTo s fd ⟨[v],[]⟩ [("_law_script",v)])/\∀base:Heap,K.In base->base.Ns mainGlobals mg->(∀T∈[T1,T2],base.BuiltinsAt mg T)->FnOk l.prog w K mg base CX0 12 fa fd ["_law_script"] (zj9 K T1 T2):=by
 have T:Top mg:=TK.top X G
 have TY:TopS mg:=TYK.top X G
 obtain⟨f_numbers_left,e_numbers_left,F_numbers_left,m_numbers_left⟩:=d_numbers_left.fn X G
 obtain⟨f_mark_at,e_mark_at,F_mark_at,m_mark_at⟩:=d_mark_at.fn X G
 obtain⟨f_marks,e_marks,F_marks,m_marks⟩:=d_marks.fn X G
 obtain⟨f_state_after,e_state_after,F_state_after,m_state_after⟩:=d_state_after.fn X G
 obtain⟨f_one_behind,e_one_behind,F_one_behind,m_one_behind⟩:=d_one_behind.fn X G
 obtain⟨f_met,e_met,F_met,m_met⟩:=d_met.fn X G
 obtain⟨f_gaps_of,e_gaps_of,F_gaps_of,m_gaps_of⟩:=d_gaps_of.fn X G
 obtain⟨f_nth_by,e_nth_by,F_nth_by,m_nth_by⟩:=d_nth_by.fn X G
 obtain⟨f_place_by,e_place_by,F_place_by,m_place_by⟩:=d_place_by.fn X G
 obtain⟨f_ways_met,e_ways_met,F_ways_met,m_ways_met⟩:=d_ways_met.fn X G
 obtain⟨f_gaps_all,e_gaps_all,F_gaps_all,m_gaps_all⟩:=d_gaps_all.fn X G
 obtain⟨f_gaps_on,e_gaps_on,F_gaps_on,m_gaps_on⟩:=d_gaps_on.fn X G
 obtain⟨f_ways_left,e_ways_left,F_ways_left,m_ways_left⟩:=d_ways_left.fn X G
 obtain⟨f_opposite,e_opposite,F_opposite,m_opposite⟩:=d_opposite.fn X G
 obtain⟨f_joined_row,e_joined_row,F_joined_row,m_joined_row⟩:=d_joined_row.fn X G
 obtain⟨f_both,e_both,F_both,m_both⟩:=d_both.fn X G
 obtain⟨f_either,e_either,F_either,m_either⟩:=d_either.fn X G
 obtain⟨f__law_urn,e__law_urn,F__law_urn,m__law_urn⟩:=d__law_urn.fn X G
 obtain⟨f__law_take,e__law_take,F__law_take,m__law_take⟩:=d__law_take.fn X G
 obtain⟨f__law_marks,e__law_marks,F__law_marks,m__law_marks⟩:=d__law_marks.fn X G
 obtain⟨f__law_goes,e__law_goes,F__law_goes,m__law_goes⟩:=d__law_goes.fn X G
 obtain⟨f__law_met,e__law_met,F__law_met,m__law_met⟩:=d__law_met.fn X G
 obtain⟨f__law_machine,e__law_machine,F__law_machine,m__law_machine⟩:=d__law_machine.fn X G
 obtain⟨f_nth_met,e_nth_met,FL_nth_met,F_nth_met,m_nth_met⟩:=d_nth_met.fn X G
 obtain⟨f_place_met,e_place_met,FL_place_met,F_place_met,m_place_met⟩:=d_place_met.fn X G
 obtain⟨f__law_undone,e__law_undone,F__law_undone,m__law_undone⟩:=d__law_undone.fn X G
 obtain⟨f_law,e_law,F_law,m_law⟩:=d_law.fn X G
 have b_numbers_left:Binds K _ ["many", "begun"] []:=F_numbers_left.b2 fun _ _ _ _ _ _ _ _=>rfl
 have b_mark_at:Binds K _ ["order", "place"] []:=F_mark_at.b2 fun _ _ _ _ _ _ _ _=>rfl
 have b_marks:Binds K _ ["order"] []:=F_marks.b1 fun _ _ _ _ _ _ _=>rfl
 have b_state_after:Binds K _ ["machine", "begun"] []:=F_state_after.b2 fun _ _ _ _ _ _ _ _=>rfl
 have b_one_behind:Binds K _ ["rows", "ranks", "size"] []:=F_one_behind.b3 fun _ _ _ _ _ _ _ _ _=>rfl
 have b_met:Binds K _ ["machine", "many"] []:=F_met.b2 fun _ _ _ _ _ _ _ _=>rfl
 have b_gaps_of:Binds K _ ["begun", "left"] []:=F_gaps_of.b2 fun _ _ _ _ _ _ _ _=>rfl
 have b_nth_by:Binds K _ ["ways", "many", "at"] []:=F_nth_by.b3 fun _ _ _ _ _ _ _ _ _=>rfl
 have b_place_by:Binds K _ ["ways", "order"] []:=F_place_by.b2 fun _ _ _ _ _ _ _ _=>rfl
 have b_ways_met:Binds K _ ["machine", "levels", "many", "begun"] []:=F_ways_met.b4 fun _ _ _ _ _ _ _ _ _ _=>rfl
 have b_gaps_all:Binds K _ ["left"] []:=F_gaps_all.b1 fun _ _ _ _ _ _ _=>rfl
 have b_gaps_on:Binds K _ ["gaps"] []:=F_gaps_on.b1 fun _ _ _ _ _ _ _=>rfl
 have b_ways_left:Binds K _ ["machine", "many"] []:=F_ways_left.b2 fun _ _ _ _ _ _ _ _=>rfl
 have b_opposite:Binds K _ ["machine"] []:=F_opposite.b1 fun _ _ _ _ _ _ _=>rfl
 have b_joined_row:Binds K _ ["one", "other", "many"] []:=F_joined_row.b3 fun _ _ _ _ _ _ _ _ _=>rfl
 have b_both:Binds K _ ["one", "other"] []:=F_both.b2 fun _ _ _ _ _ _ _ _=>rfl
 have b_either:Binds K _ ["one", "other"] []:=F_either.b2 fun _ _ _ _ _ _ _ _=>rfl
 have b__law_urn:Binds K _ ["_law_script"] []:=F__law_urn.b1 fun _ _ _ _ _ _ _=>rfl
 have b__law_take:Binds K _ ["_law_urn_here", "_law_many"] []:=F__law_take.b2 fun _ _ _ _ _ _ _ _=>rfl
 have b__law_marks:Binds K _ ["_law_order"] []:=F__law_marks.b1 fun _ _ _ _ _ _ _=>rfl
 have b__law_goes:Binds K _ ["_law_machine_here", "_law_seen"] []:=F__law_goes.b2 fun _ _ _ _ _ _ _ _=>rfl
 have b__law_met:Binds K _ ["_law_machine_here", "_law_order"] []:=F__law_met.b2 fun _ _ _ _ _ _ _ _=>rfl
 have b__law_machine:Binds K _ ["_law_urn_here", "_law_most"] []:=F__law_machine.b2 fun _ _ _ _ _ _ _ _=>rfl
 have b_nth_met:Binds K _ ["machine", "many", "at"] []:=F_nth_met.b3 fun _ _ _ _ _ _ _ _ _=>rfl
 have b_place_met:Binds K _ ["machine", "order"] []:=F_place_met.b2 fun _ _ _ _ _ _ _ _=>rfl
 have b__law_undone:Binds K _ ["_law_urn_here", "_law_machine_here", "_law_many", "_law_one", "_law_other"] []:=F__law_undone.b5 fun _ _ _ _ _ _ _ _ _ _ _=>rfl
 have e:fa=f_law:=by
  have q:=hfa.symm.trans m_law
  cases q
  rfl
 subst e
 obtain⟨oc,od,kV,doc,pm,an,cdv,ct,osl,rfl,lk,hcd⟩:=F_law.ex
 have all:∀base:Heap,K.In base->base.Ns mainGlobals mg->(Cal l.prog w K mg base 2 "met" ["machine", "many"] (zcZ))/\(Cal l.prog w K mg base 9 "nth_by" ["ways", "many", "at"] (zei l.prog w K mg base))/\(Cal l.prog w K mg base 9 "place_by" ["ways", "order"] (zcA l.prog w K mg base))/\(Cal l.prog w K mg base 4 "ways_met" ["machine", "levels", "many", "begun"] (spWM)):=by
  intro base _ _
  have Cnumbers_left:Cal l.prog w K mg base 1 "numbers_left" ["many", "begun"] (zfj):=⟨f_numbers_left,e_numbers_left,zdz F_numbers_left T,m_numbers_left,F_numbers_left.kp,b_numbers_left⟩
  have Cmark_at:Cal l.prog w K mg base 1 "mark_at" ["order", "place"] (zhV):=⟨f_mark_at,e_mark_at,zg0 F_mark_at T,m_mark_at,F_mark_at.kp,b_mark_at⟩
  have Cmarks:Cal l.prog w K mg base 2 "marks" ["order"] (spMk):=⟨f_marks,e_marks,zjE F_marks T Cmark_at,m_marks,F_marks.kp,b_marks⟩
  have Cstate_after:Cal l.prog w K mg base 3 "state_after" ["machine", "begun"] (zle):=⟨f_state_after,e_state_after,zdD F_state_after Cmarks,m_state_after,F_state_after.kp,b_state_after⟩
  have Cone_behind:Cal l.prog w K mg base 1 "one_behind" ["rows", "ranks", "size"] (zik):=⟨f_one_behind,e_one_behind,zes F_one_behind T,m_one_behind,F_one_behind.kp,b_one_behind⟩
  have Cmet:Cal l.prog w K mg base 2 "met" ["machine", "many"] (zcZ):=⟨f_met,e_met,zmq F_met T Cone_behind,m_met,F_met.kp,b_met⟩
  have Cgaps_of:Cal l.prog w K mg base 1 "gaps_of" ["begun", "left"] (zlm):=⟨f_gaps_of,e_gaps_of,zg4 F_gaps_of T,m_gaps_of,F_gaps_of.kp,b_gaps_of⟩
  have Cnth_by:Cal l.prog w K mg base 9 "nth_by" ["ways", "many", "at"] (zei l.prog w K mg base):=⟨f_nth_by,e_nth_by,zix F_nth_by T Cnumbers_left,m_nth_by,F_nth_by.kp,b_nth_by⟩
  have Cplace_by:Cal l.prog w K mg base 9 "place_by" ["ways", "order"] (zcA l.prog w K mg base):=⟨f_place_by,e_place_by,zfZ F_place_by T Cnumbers_left,m_place_by,F_place_by.kp,b_place_by⟩
  have Cways_met:Cal l.prog w K mg base 4 "ways_met" ["machine", "levels", "many", "begun"] (spWM):=⟨f_ways_met,e_ways_met,zf4 F_ways_met T Cmet Cnumbers_left Cgaps_of Cstate_after,m_ways_met,F_ways_met.kp,b_ways_met⟩
  exact⟨Cmet,Cnth_by,Cplace_by,Cways_met⟩
 refine⟨PySem.W.fnOf "law" "law" (za9 zdH) (zaN zdH) (zae zdH) .none kV doc pm an cdv ct,fun s v=>.of_eq rfl,fun base hk hn hBs=> ?_⟩
 obtain⟨Cmet,Cnth_by,Cplace_by,Cways_met⟩:=all base hk hn
 have Cgaps_all:Cal l.prog w K mg base 1 "gaps_all" ["left"] (zgx):=⟨f_gaps_all,e_gaps_all,zf1 F_gaps_all T,m_gaps_all,F_gaps_all.kp,b_gaps_all⟩
 have Cgaps_on:Cal l.prog w K mg base 1 "gaps_on" ["gaps"] (zjK):=⟨f_gaps_on,e_gaps_on,zg3 F_gaps_on T,m_gaps_on,F_gaps_on.kp,b_gaps_on⟩
 have Cways_left:Cal l.prog w K mg base 2 "ways_left" ["machine", "many"] (spWL):=⟨f_ways_left,e_ways_left,zfx F_ways_left T Cgaps_all Cgaps_on,m_ways_left,F_ways_left.kp,b_ways_left⟩
 have Copposite:Cal l.prog w K mg base 1 "opposite" ["machine"] (ziq):=⟨f_opposite,e_opposite,zfU F_opposite T,m_opposite,F_opposite.kp,b_opposite⟩
 have Cjoined_row:Cal l.prog w K mg base 1 "joined_row" ["one", "other", "many"] (zir):=⟨f_joined_row,e_joined_row,zep F_joined_row T (PySem.W.mg_of X G a_MARKS) h_MARKS,m_joined_row,F_joined_row.kp,b_joined_row⟩
 have Cboth:Cal l.prog w K mg base 2 "both" ["one", "other"] (zfh):=⟨f_both,e_both,zlg F_both T Cjoined_row,m_both,F_both.kp,b_both⟩
 have Ceither:Cal l.prog w K mg base 3 "either" ["one", "other"] (zc6):=⟨f_either,e_either,ziu F_either Copposite Cboth,m_either,F_either.kp,b_either⟩
 have C_law_urn:Cal l.prog w K mg base 1 "_law_urn" ["_law_script"] (zjm K):=⟨f__law_urn,e__law_urn,zfR F__law_urn T,m__law_urn,F__law_urn.kp,b__law_urn⟩
 have C_law_take:Cal l.prog w K mg base 1 "_law_take" ["_law_urn_here", "_law_many"] (zdp):=⟨f__law_take,e__law_take,zff F__law_take,m__law_take,F__law_take.kp,b__law_take⟩
 have C_law_marks:Cal l.prog w K mg base 1 "_law_marks" ["_law_order"] (spMk):=⟨f__law_marks,e__law_marks,zem F__law_marks T,m__law_marks,F__law_marks.kp,b__law_marks⟩
 have C_law_goes:Cal l.prog w K mg base 1 "_law_goes" ["_law_machine_here", "_law_seen"] (zhY):=⟨f__law_goes,e__law_goes,zfg F__law_goes,m__law_goes,F__law_goes.kp,b__law_goes⟩
 have C_law_met:Cal l.prog w K mg base 2 "_law_met" ["_law_machine_here", "_law_order"] (zjo):=⟨f__law_met,e__law_met,zfT F__law_met C_law_goes C_law_marks,m__law_met,F__law_met.kp,b__law_met⟩
 have C_law_machine:Cal l.prog w K mg base 2 "_law_machine" ["_law_urn_here", "_law_most"] (zen):=⟨f__law_machine,e__law_machine,zdx F__law_machine T C_law_take,m__law_machine,F__law_machine.kp,b__law_machine⟩
 have Cnth_met:Cal l.prog w K mg base 10 "nth_met" ["machine", "many", "at"] (zgB T1 qNth):=⟨f_nth_met,e_nth_met,zg5 FL_nth_met (hBs T1 (by simp)) mT1 Cways_left (fun b k n=>(all b k n).2.1) (fun b k n=>(all b k n).2.2.2),m_nth_met,F_nth_met.kp,b_nth_met⟩
 have Cplace_met:Cal l.prog w K mg base 10 "place_met" ["machine", "order"] (zjQ T2 zcD):=⟨f_place_met,e_place_met,zfq FL_place_met (hBs T2 (by simp)) mT2 T Cways_left (fun b k n=>(all b k n).2.2.1) (fun b k n=>(all b k n).2.2.2),m_place_met,F_place_met.kp,b_place_met⟩
 have C_law_undone:Cal l.prog w K mg base 11 "_law_undone" ["_law_urn_here", "_law_machine_here", "_law_many", "_law_one", "_law_other"] (zj8 T1 T2):=⟨f__law_undone,e__law_undone,zdG F__law_undone hT12 T TY C_law_take C_law_met Cmet Cnth_met Cplace_met,m__law_undone,F__law_undone.kp,b__law_undone⟩
 exact zmJ F_law T C_law_urn C_law_take C_law_machine Cboth Ceither Copposite Cmet C_law_undone
theorem walk {l:PySem.W.OpenLaw}{q:Program}{loose:List Str}{XP:(Str->Option Value)->Heap->Prop}{YP:World->Heap->Prop}{d:DefRec}{K:Params->PySem.W.Frag}{T1 T2:Addr}(hn:l.most=some 63)(hdf:d.params.defaults=[])
  (hY:∀(w:World) (h:Heap),YP w h->(K w.params).In h/\∀T∈[T1,T2],h.get? T=some (PySem.W.tabObj #[])/\isCodeTable h T/\(K w.params).lookup T=none)
  (F:∀(w:World) (mg:Str->Option Value) (fa:Addr) (h:Heap),(K w.params).In h->h.Ns mainGlobals mg->mg d.name=some (.ref fa)->
   ∃fd:FuncData,(∀(s:Shared) (u:Value),BindsTo s fd ⟨[u],[]⟩ [("_law_script",u)])/\∀base:Heap,(K w.params).In base->base.Ns mainGlobals mg->(∀T∈[T1,T2],base.BuiltinsAt mg T)->FnOk l.prog w (K w.params) mg base CX0 12 fa fd ["_law_script"] (zj9 (K w.params) T1 T2)):
  PySem.W.WalkO q loose XP YP l.row.toRowW d [] (fun f vs=>PySem.call f vs):=
 L2.zjx (n:=63) (k:=12) (x:= "_law_script") (Ts:=[T1,T2]) (sp:=fun w=>zj9 (K w.params) T1 T2) hn (by decide) hdf ⟨rfl,by decide,by decide,rfl⟩ hY F fun _ _ a ns hl hT hS=>⟨a,ns,rfl,hS,hl,hT T1 (by simp),hT T2 (by simp),fun _=>rfl⟩
end K52
end
namespace PySem.W.Fast
theorem tw11765828709690693358:True:=trivial
theorem tw12091665304385614619:True:=trivial
theorem tw17239887937826194083:True:=trivial
theorem tw11743524420858601840:True:=trivial
theorem tw14450165782550881125:True:=trivial
theorem tw13410147867107570313:True:=trivial
theorem tw2888664983737956059:True:=trivial
theorem tw15981696860733816009:True:=trivial
theorem tw5685003773004463510:True:=trivial
theorem tw14426776033719590257:True:=trivial
theorem tw2200233894284651219:True:=trivial
theorem tw16399004156250975834:True:=trivial
theorem tw11808102300269646510:True:=trivial
theorem tw5742687897156536664:True:=trivial
theorem tw10440856684349527611:True:=trivial
theorem tw773214138841410307:True:=trivial
theorem tw4639208899861188560:True:=trivial
theorem tw14840546850841275811:True:=trivial
theorem tw8034277044625915372:True:=trivial
theorem tw14650346673797711123:True:=trivial
theorem tw2468129114311234756:True:=trivial
theorem tw12494188097751500821:True:=trivial
theorem tw16751639218511086748:True:=trivial
theorem tw12551129692909945992:True:=trivial
theorem tw13759603602140191592:True:=trivial
theorem tw9544635753965916013:True:=trivial
theorem tw5169970531366271231:True:=trivial
theorem tw9024775247080775539:True:=trivial
theorem tw14206311990376817050:True:=trivial
theorem tw6510851484061587960:True:=trivial
theorem tw12991799033972265802:True:=trivial
theorem tw7688135862260261431:True:=trivial
theorem tw8491711472181109257:True:=trivial
theorem tw11722855935960061444:True:=trivial
theorem tw14218582425989059078:True:=trivial
theorem tw17911002143331729009:True:=trivial
theorem tw16495440099227235864:True:=trivial
theorem tw16379571295896384551:True:=trivial
theorem tw9887352279109249831:True:=trivial
theorem tw11401296136833221143:True:=trivial
theorem tw7114032833207893211:True:=trivial
theorem tw2941569065158111069:True:=trivial
theorem tw570918245093217019:True:=trivial
theorem tw3671916334686376388:True:=trivial
theorem tw10783496480396093507:True:=trivial
theorem tw3602703514126033921:True:=trivial
theorem tw5200206864340579116:True:=trivial
theorem tw13653862429445791771:True:=trivial
theorem tw12371184631643751610:True:=trivial
theorem tw3525317947634672723:True:=trivial
theorem tw6261232885969934049:True:=trivial
theorem tw112045001609771156:True:=trivial
theorem tw9332080301731867677:True:=trivial
theorem tw8047004395860583288:True:=trivial
theorem tw12710190806311259936:True:=trivial
theorem tw8734834422622746174:True:=trivial
theorem tw18058784161418119432:True:=trivial
theorem tw9388787259454933910:True:=trivial
theorem tw4873027745721980270:True:=trivial
theorem tw8583589236016486289:True:=trivial
theorem tw11584533737656301676:True:=trivial
theorem tw16288650668985846245:True:=trivial
theorem tw581060154531333277:True:=trivial
theorem tw977451790131399380:True:=trivial
theorem tw16749275620594515417:True:=trivial
theorem tw35631755958711965:True:=trivial
theorem tw12367566429258611946:True:=trivial
theorem tw8695547799486293893:True:=trivial
theorem tw12546562753965644447:True:=trivial
theorem tw8446880025345573264:True:=trivial
theorem tw2285832396421082475:True:=trivial
theorem tw9802319379495012606:True:=trivial
theorem tw9679207134357193774:True:=trivial
theorem tw16946025515413091721:True:=trivial
theorem tw15808624738019059383:True:=trivial
theorem tw1130190041722350839:True:=trivial
theorem tw5728024304519011345:True:=trivial
theorem tw11456039933581634533:True:=trivial
theorem tw10302272502227186824:True:=trivial
theorem tw8935271701169920949:True:=trivial
theorem tw6572410487655521838:True:=trivial
theorem tw17436868344031879101:True:=trivial
theorem tw9520568902977267838:True:=trivial
theorem tw6376621442683734291:True:=trivial
theorem tw16490764913063602022:True:=trivial
theorem tw1018483862726098460:True:=trivial
theorem tw2046825993334881497:True:=trivial
theorem tw12616685633182278077:True:=trivial
theorem tw11470356297722656802:True:=trivial
theorem tw8863648478777549685:True:=trivial
theorem tw3374927657228673010:True:=trivial
theorem tw6583670417721251885:True:=trivial
theorem tw834062303344069063:True:=trivial
theorem tw16497904329696127145:True:=trivial
theorem tw9088135444247723317:True:=trivial
theorem tw11806059361375304255:True:=trivial
theorem tw18270449955262952058:True:=trivial
theorem tw8528291608503682046:True:=trivial
theorem tw6743699739656031017:True:=trivial
theorem tw10612693572545608274:True:=trivial
theorem tw6607317585300667249:True:=trivial
theorem tw13906596938839923316:True:=trivial
theorem tw16362902057984086930:True:=trivial
theorem tw5830386332153934616:True:=trivial
theorem tw17241553290433742214:True:=trivial
theorem tw1457513880083858324:True:=trivial
theorem tw6693028634400968845:True:=trivial
theorem tw9138429255455866434:True:=trivial
theorem tw15486245860256663277:True:=trivial
theorem tw10252239727277783444:True:=trivial
theorem tw18219323655540108240:True:=trivial
theorem tw5402180419696791542:True:=trivial
theorem tw17634034826909638131:True:=trivial
theorem tw17459602014549157176:True:=trivial
theorem tw18030405227102970152:True:=trivial
theorem tw11370708372210590854:True:=trivial
theorem tw1236572573842576320:True:=trivial
theorem tw5928066395996181049:True:=trivial
theorem tw10588963909441116904:True:=trivial
theorem tw5041305230401388324:True:=trivial
theorem tw1640286634217435201:True:=trivial
theorem tw10776146286377479217:True:=trivial
theorem tw13785019835599839669:True:=trivial
theorem tw1861597661914078400:True:=trivial
theorem tw14455555958537307102:True:=trivial
theorem tw2633983585947758848:True:=trivial
theorem tw11332413313419204793:True:=trivial
theorem tw4073539178772901472:True:=trivial
theorem tw8979595835154400655:True:=trivial
theorem tw15378809321107978991:True:=trivial
theorem tw6322494506050411700:True:=trivial
theorem tw363107330642506680:True:=trivial
theorem tw10622030065884983826:True:=trivial
theorem tw8949386802341410120:True:=trivial
theorem tw15735321316407964711:True:=trivial
theorem tw5744841682957807963:True:=trivial
theorem tw13778284197132258676:True:=trivial
theorem tw9651184493297996276:True:=trivial
theorem tw16730267817390634018:True:=trivial
theorem tw5732227617191572877:True:=trivial
theorem tw4986965339371149416:True:=trivial
theorem tw8688711687843465410:True:=trivial
theorem tw8713540515950942693:True:=trivial
theorem tw2164139190484655669:True:=trivial
theorem tw7040623838401829614:True:=trivial
theorem tw17175735745965124622:True:=trivial
theorem tw12660578341948670781:True:=trivial
theorem tw12955479888858966700:True:=trivial
theorem tw7175756219857024937:True:=trivial
theorem tw11579245054463165363:True:=trivial
theorem tw11743485464838857733:True:=trivial
theorem tw17954230244611813489:True:=trivial
theorem tw13291457507879541654:True:=trivial
end PySem.W.Fast
open PySem PySem.W PyProof.Rows
set_option maxRecDepth 100000 in
set_option maxHeartbeats 0 in
theorem PySem.Challenge.cw_shuffletold_k52_told_machines_again_holds : PySem.Challenge.rw_shuffletold_k52_told_machines_again.Holds := by
 w_on;o_law;km_head;(case hw=>w_witness2)
 k_fill
 refine' K52.walk (T1:=85) (T2:=92) (l:=PySem.Challenge.rw_shuffletold_k52_told_machines_again) rfl rfl (fun w h Y=>⟨km_in_of Y,fun T hT=> ?tab⟩) ?F
 case tab=>
  have hT2:T=85∨T=92:=by simpa using hT
  rcases hT2 with rfl|rfl
  ·refine' ⟨km_tabs_of Y _ (by decide),(L2.DefL.tab (x:= "nth_met") (st:=K52.s_nth_met) (T:=85) (L2.DefL.of ?ya0 ?yl0 ?yc0 ?yk0 ?ym0 ?yv0) (km_in_of Y)), ?n0⟩
   (case ya0=>k_is);(case yl0=>k_is);(case yc0=>k_is);(case yk0=>k_is);(case ym0=>k_is);(case yv0=>exact⟨_,_,_,_,_,_,_,rfl,rfl,rfl,rfl,rfl,rfl,by decide⟩)
   (case n0=>first|rfl|k_is)
  ·refine' ⟨km_tabs_of Y _ (by decide),(L2.DefL.tab (x:= "place_met") (st:=K52.s_place_met) (T:=92) (L2.DefL.of ?ya1 ?yl1 ?yc1 ?yk1 ?ym1 ?yv1) (km_in_of Y)), ?n1⟩
   (case ya1=>k_is);(case yl1=>k_is);(case yc1=>k_is);(case yk1=>k_is);(case ym1=>k_is);(case yv1=>exact⟨_,_,_,_,_,_,_,rfl,rfl,rfl,rfl,rfl,rfl,by decide⟩)
   (case n1=>first|rfl|k_is)
 case F=>
  intro w mg fa h KX G hmg
  refine' K52.all_mk KX G hmg ⟨?_, ?_, ?_, ?_, ?_, ?_, ?_, ?_, ?_, ?_, ?_, ?_, ?_, ?_, ?_⟩ ⟨?_⟩ ?tA0 (L2.sqT_ofK ?tL0 ?tZ0 ?tR0) (by decide) (by decide) (by decide) (L2.Def.of ?a0 ?l0 ?c0 ?k0) (L2.Def.of ?a1 ?l1 ?c1 ?k1) (L2.Def.of ?a2 ?l2 ?c2 ?k2) (L2.Def.of ?a3 ?l3 ?c3 ?k3) (L2.Def.of ?a4 ?l4 ?c4 ?k4) (L2.Def.of ?a5 ?l5 ?c5 ?k5) (L2.Def.of ?a6 ?l6 ?c6 ?k6) (L2.Def.of ?a7 ?l7 ?c7 ?k7) (L2.Def.of ?a8 ?l8 ?c8 ?k8) (L2.Def.of ?a9 ?l9 ?c9 ?k9) (L2.Def.of ?a10 ?l10 ?c10 ?k10) (L2.Def.of ?a11 ?l11 ?c11 ?k11) (L2.Def.of ?a12 ?l12 ?c12 ?k12) (L2.Def.of ?a13 ?l13 ?c13 ?k13) (L2.Def.of ?a14 ?l14 ?c14 ?k14) (L2.Def.of ?a15 ?l15 ?c15 ?k15) (L2.Def.of ?a16 ?l16 ?c16 ?k16) (L2.Def.of ?a17 ?l17 ?c17 ?k17) (L2.Def.of ?a18 ?l18 ?c18 ?k18) (L2.Def.of ?a19 ?l19 ?c19 ?k19) (L2.Def.of ?a20 ?l20 ?c20 ?k20) (L2.Def.of ?a21 ?l21 ?c21 ?k21) (L2.Def.of ?a22 ?l22 ?c22 ?k22) (L2.DefL.of ?a23 ?l23 ?c23 ?k23 ?m23 ?v23) (L2.DefL.of ?a24 ?l24 ?c24 ?k24 ?m24 ?v24) (L2.Def.of ?a25 ?l25 ?c25 ?k25) (L2.Def.of ?a26 ?l26 ?c26 ?k26)
  (case tA0=>k_is);(case tL0=>k_is);(case tZ0=>exact (by decide));(case tR0=>exact (.cons ⟨_,rfl⟩ (.cons ⟨_,rfl⟩ (.cons ⟨_,rfl⟩ (.cons ⟨_,rfl⟩ .nil)))))
  (case a0=>k_is);(case l0=>k_is);(case c0=>k_is);(case k0=>k_is)
  (case a1=>k_is);(case l1=>k_is);(case c1=>k_is);(case k1=>k_is)
  (case a2=>k_is);(case l2=>k_is);(case c2=>k_is);(case k2=>k_is)
  (case a3=>k_is);(case l3=>k_is);(case c3=>k_is);(case k3=>k_is)
  (case a4=>k_is);(case l4=>k_is);(case c4=>k_is);(case k4=>k_is)
  (case a5=>k_is);(case l5=>k_is);(case c5=>k_is);(case k5=>k_is)
  (case a6=>k_is);(case l6=>k_is);(case c6=>k_is);(case k6=>k_is)
  (case a7=>k_is);(case l7=>k_is);(case c7=>k_is);(case k7=>k_is)
  (case a8=>k_is);(case l8=>k_is);(case c8=>k_is);(case k8=>k_is)
  (case a9=>k_is);(case l9=>k_is);(case c9=>k_is);(case k9=>k_is)
  (case a10=>k_is);(case l10=>k_is);(case c10=>k_is);(case k10=>k_is)
  (case a11=>k_is);(case l11=>k_is);(case c11=>k_is);(case k11=>k_is)
  (case a12=>k_is);(case l12=>k_is);(case c12=>k_is);(case k12=>k_is)
  (case a13=>k_is);(case l13=>k_is);(case c13=>k_is);(case k13=>k_is)
  (case a14=>k_is);(case l14=>k_is);(case c14=>k_is);(case k14=>k_is)
  (case a15=>k_is);(case l15=>k_is);(case c15=>k_is);(case k15=>k_is)
  (case a16=>k_is);(case l16=>k_is);(case c16=>k_is);(case k16=>k_is)
  (case a17=>k_is);(case l17=>k_is);(case c17=>k_is);(case k17=>k_is)
  (case a18=>k_is);(case l18=>k_is);(case c18=>k_is);(case k18=>k_is)
  (case a19=>k_is);(case l19=>k_is);(case c19=>k_is);(case k19=>k_is)
  (case a20=>k_is);(case l20=>k_is);(case c20=>k_is);(case k20=>k_is)
  (case a21=>k_is);(case l21=>k_is);(case c21=>k_is);(case k21=>k_is)
  (case a22=>k_is);(case l22=>k_is);(case c22=>k_is);(case k22=>k_is)
  (case a23=>k_is);(case l23=>k_is);(case c23=>k_is);(case k23=>k_is);(case m23=>k_is);(case v23=>exact⟨_,_,_,_,_,_,_,rfl,rfl,rfl,rfl,rfl,rfl,by decide⟩)
  (case a24=>k_is);(case l24=>k_is);(case c24=>k_is);(case k24=>k_is);(case m24=>k_is);(case v24=>exact⟨_,_,_,_,_,_,_,rfl,rfl,rfl,rfl,rfl,rfl,by decide⟩)
  (case a25=>k_is);(case l25=>k_is);(case c25=>k_is);(case k25=>k_is)
  (case a26=>k_is);(case l26=>k_is);(case c26=>k_is);(case k26=>k_is)
  all_goals k_is
