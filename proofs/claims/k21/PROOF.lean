import PyProof.Rows.All
import Wide.All
import OpenK.AllK
import Wide.FinOn
import Lean
import PyProof.EqAt
import PyProof.EqKinds
import PyProof.TupleCall
import Open.Tops
import PyProof.DictDisplay
import PySem.Challenge.RW_shuffletold_k21_leans
set_option Elab.async false
set_option linter.all false
set_option maxRecDepth 100000
set_option genSizeOfSpec false
noncomputable section
namespace L2
open PySem PySem.Spec PyProof.Rows
noncomputable abbrev Key:=Sum Int Str
noncomputable def zfc:Key->Value->Bool
 | .inl k,v=>Value.isInt k v
 | .inr x,v=>Value.isStrOf x v
noncomputable def keyH (w:World):Key->Int
 | .inl k=>hashInt k
 | .inr x=>hashStr w x
theorem zaJ:∀{k:Key} {v:Value},zfc k v=true->(∃i t,k=Sum.inl i/\v=Value.int i t)∨(∃x t,k=Sum.inr x/\v=Value.str x t)
 | .inl i,v,h=>by
  obtain⟨t,e⟩:=Value.isInt_shape (k:=i) (v:=v) h
  exact .inl ⟨i,t,rfl,e⟩
 | .inr x,v,h=>by
  obtain⟨t,e⟩:=Value.isStrOf_shape (x:=x) (v:=v) h
  exact .inr ⟨x,t,rfl,e⟩
theorem zfy (i:Int)(t:Tok):zfc (.inl i) (.int i t)=true:=by simp[zfc,Value.isInt]
theorem zfz (x:Str)(t:Tok):zfc (.inr x) (.str x t)=true:=by simp[zfc,Value.isStrOf]
theorem ziR (a b:Int):decide ((Sum.inl a:Key)=Sum.inl b)=(a==b):=by
 by_cases e:a=b
 ·subst e;simp
 ·have h:¬(Sum.inl a:Key)=Sum.inl b:=fun q=>e (Sum.inl.inj q)
  rw[decide_eq_false h]
  exact (beq_eq_false_iff_ne.mpr e).symm
theorem ziS (a b:Str):decide ((Sum.inr a:Key)=Sum.inr b)=decide (a=b):=by
 by_cases e:a=b
 ·subst e;simp
 ·have h:¬(Sum.inr a:Key)=Sum.inr b:=fun q=>e (Sum.inr.inj q)
  rw[decide_eq_false h,decide_eq_false e]
theorem ziT (a:Int)(b:Str):decide ((Sum.inl a:Key)=Sum.inr b)=false:=decide_eq_false (fun q=>nomatch q)
theorem ziU (a:Str)(b:Int):decide ((Sum.inr a:Key)=Sum.inl b)=false:=decide_eq_false (fun q=>nomatch q)
noncomputable def zaE (prog:Program)(w:World):PySem.KeyKind prog w Key where
 is:=zfc
 hash:=keyH w
 inj:=fun v a b ha hb=>by
  rcases zaJ ha with⟨i,t,rfl,rfl⟩|⟨x,t,rfl,rfl⟩
  ·rcases zaJ hb with⟨j,u,rfl,e⟩|⟨y,u,rfl,e⟩
   ·injection e with e1 _;rw[e1]
   ·exact nomatch e
  ·rcases zaJ hb with⟨j,u,rfl,e⟩|⟨y,u,rfl,e⟩
   ·exact nomatch e
   ·injection e with e1 _;rw[e1]
 byValue:=fun k v h=>by
  rcases zaJ h with⟨i,t,rfl,rfl⟩|⟨x,t,rfl,rfl⟩<;>rfl
 pyHash:=fun hv h=>by
  rcases zaJ hv with⟨i,t,rfl,rfl⟩|⟨x,t,rfl,rfl⟩
  ·exact wpAny_pyHash_int h
  ·exact wpAny_pyHash_str h
 eqBool:=fun hu hv h=>by
  rcases zaJ hu with⟨i,t,rfl,rfl⟩|⟨x,t,rfl,rfl⟩
  ·rcases zaJ hv with⟨j,u,rfl,rfl⟩|⟨y,u,rfl,rfl⟩
   ·rw[ziR] at h;exact wpAny_eqBool_int h
   ·rw[ziT] at h;exact SeqAt.EqAt.int_str i t y u _ _ _ _ h
  ·rcases zaJ hv with⟨j,u,rfl,rfl⟩|⟨y,u,rfl,rfl⟩
   ·rw[ziU] at h;exact SeqAt.EqAt.str_int x t j u _ _ _ _ h
   ·rw[ziS] at h;exact wpAny_eqBool_str h
 «strs»:=fun k x t v h=>by
  rcases zaJ h with⟨i,u,rfl,e⟩|⟨y,u,rfl,e⟩
  ·exact nomatch e
  ·injection e with e1 _
   subst e1
   cases v<;>rfl
theorem zec (prog:Program)(w:World)(i:Int)(t:Tok):(zaE prog w).is (.inl i) (.int i t)=true:=zfy i t
theorem zed (prog:Program)(w:World)(x:Str)(t:Tok):(zaE prog w).is (.inr x) (.str x t)=true:=zfz x t
inductive V where
 |non|bl (b:Bool)|int (i:Int)|str (x:Str)|byt (b:Array UInt8)|flt (b:UInt64)|ref (a:Addr)|ty (n:String)
 deriving DecidableEq
noncomputable def RelV:V->Value->Prop
 | .non,u=>u=Value.none
 | .bl b,u=>u=Value.bool b
 | .int i,u=>∃t,u=Value.int i t
 | .str x,u=>∃t,u=Value.str x t
 | .byt b,u=>∃t,u=Value.bytes b t
 | .flt b,u=>∃t,u=Value.float b t
 | .ref a,u=>u=Value.ref a
 | .ty n,u=>u=Value.type n
noncomputable abbrev Vals:List V->List Value->Prop:=Paired RelV
theorem Vals.length {xs:List V}{us:List Value}(r:Vals xs us):xs.length=us.length:=Paired.length r
theorem Vals.get:∀{xs:List V} {us:List Value} {i:Nat} {x:V},Vals xs us->xs[i]? =some x->∃u,us[i]? =some u/\RelV x u
 |_,_,_,_,.nil,e=>by simp at e
 |_,_,0,_,.cons r _,e=>by simp at e;subst e;exact⟨_,rfl,r⟩
 |_,_,i+1,x,.cons _ t,e=>by
  obtain⟨u,h1,h2⟩:=Vals.get (i:=i) (x:=x) t (by simpa using e)
  exact⟨u,by simpa using h1,h2⟩
theorem Vals.set {x:V}{u:Value}(r:RelV x u):∀{xs:List V} {us:List Value} (i:Nat),Vals xs us->Vals (xs.set i x) (us.set i u)
 |_,_,_,.nil=>.nil
 |_,_,0,.cons _ t=>.cons r t
 |_,_,i+1,.cons q t=>.cons q (Vals.set r i t)
theorem Vals.append:∀{xs ys:List V} {us ws:List Value},Vals xs us->Vals ys ws->Vals (xs++ys) (us++ws)
 |_,_,_,_,.nil,s=>s
 |_,_,_,_,.cons r t,s=>.cons r (Vals.append t s)
theorem Vals.take:∀{xs:List V} {us:List Value} (n:Nat),Vals xs us->Vals (xs.take n) (us.take n)
 |_,_,0,_=>.nil
 |_,_,_+1,.nil=>.nil
 |_,_,n+1,.cons r t=>.cons r (Vals.take n t)
theorem Vals.drop:∀{xs:List V} {us:List Value} (n:Nat),Vals xs us->Vals (xs.drop n) (us.drop n)
 |_,_,0,r=>r
 |_,_,_+1,.nil=>.nil
 |_,_,n+1,.cons _ t=>Vals.drop n t
theorem Vals.none_of:∀{xs:List V} {us:List Value} {i:Nat},Vals xs us->xs[i]? =none->us[i]? =none:=fun {xs us i} r e=>by
 have h1:=r.length
 have h2:xs.length<=i:=List.getElem?_eq_none_iff.mp e
 exact List.getElem?_eq_none_iff.mpr (by (first|lia|omega))
noncomputable def RelO:Option V->Option Value->Prop
 |some v,some u=>RelV v u
 |none,none=>True
 |_,_=>False
noncomputable def KV {κ:Type}:List (κ×V)->List (κ×Value)->Prop:=Paired fun (p:κ×V) (q:κ×Value)=>p.1=q.1/\RelV p.2 q.2
noncomputable def kV:Key->V
 | .inl i=>.int i
 | .inr x=>.str x
inductive HO where
  |lst (xs:List V)
  |tup (xs:List V)
  |dK (kvs:List (Key×V))|dT (kvs:List (List Key×V))
  |set (S:Int->Bool) (n:Nat)
  |ins (C dx:Addr) (fs:List (Str×V))
  |own (x:Addr)
  |xd (fs:List (Str×V))
  |met (f x:Addr)
  |rng (lo hi:Int)
  |frz (o:Obj) (u:HO)
  |tbl (ps:Array Value)
  |ext (φ:Heap->Prop)
noncomputable abbrev Hp:=Addr->Option HO
noncomputable def upd (H:Hp)(a:Addr)(o:HO):Hp:=fun b=>if b=a then some o else H b
theorem zab {H:Hp}{a:Addr}{o:HO}:upd H a o a=some o:=by unfold upd;rw[if_pos rfl]
theorem zah {H:Hp}{a b:Addr}{o:HO}(h:b≠a):upd H a o b=H b:=by unfold upd;rw[if_neg h]
theorem zh2 {H:Hp}{a:Addr}{o u:HO}:upd (upd H a o) a u=upd H a u:=by
 funext b;unfold upd;split<;>rfl
theorem zfd {H:Hp}{a b:Addr}{o u:HO}(h:H a=some o)(h':H b=some u)(d:o≠u):a≠b:=by
 intro e;subst e;rw[h] at h';exact d (Option.some.inj h')
theorem zam {H:Hp}{a b:Addr}{o:HO}(h:H a=some o)(h':H b=none):a≠b:=by
 intro e;subst e;rw[h] at h';cases h'
noncomputable def PTup (h:Heap)(a:Addr)(items:Array Value):Prop:=∃o,h.get? a=some o/\o.cls=.type "tuple" /\(∃n,o.data=.seq items n)/\o.dict=none/\o.slots=#[]
theorem PTup.tup {h:Heap}{a:Addr}{items:Array Value}(p:PTup h a items):IsTup h a items:=by
 obtain⟨o,e,c,d,_⟩:=p
 exact⟨o,e,c,d⟩
theorem PTup.new {h:Heap}{items:Array Value}{n:Nat}:PTup (h.push {cls:=.type "tuple",data:=.seq items n}) h.objs.size items:=⟨_,Heap.get?_push_size _ rfl,rfl,⟨_,rfl⟩,rfl,rfl⟩
section
variable (P:Program)(w:World)
noncomputable def ObjOk (H:Hp)(h:Heap)(a:Addr):HO->Prop
 | .lst xs=>xs.length<=sizeLine/\∃(its:List Value) (n:Nat),Vals xs its/\h.get? a=some {cls:=.type "list",data:=.seq its.toArray n}
 | .tup xs=>xs.length<=sizeLine/\∃its:List Value,Vals xs its/\PTup h a its.toArray
 | .dK kvs=>kvs.length<=sizeLine/\(a==sysModules)=false/\∃vs,KV kvs vs/\h.DictOf (zaE P w) a vs
 | .dT kvs=>kvs.length<=sizeLine/\(a==sysModules)=false/\∃xs:List (List Key×Addr×Value),
   Paired (fun (p:List Key×V) (q:List Key×Addr×Value)=>p.1=q.1/\H q.2.1=some (.tup (p.1.map kV))/\RelV p.2 q.2.2) kvs xs/\
   ∃o es ep,h.get? a=some o/\o.ExactDict/\o.data=.dict es ep/\es.toList=xs.map (entryOfKey (tupleKind (zaE P w)))/\(xs.map (·.1)).Nodup
 | .set S n=>h.SetOf (intKind P w) a S n
 | .ins C dx fs=>H dx=some (.own a)/\fs.length<=1000/\dx≠a/\h.get? a=some (PySem.W.instObj C dx)/\
   ∃mA,h.Ns1 dx mA/\(∀f,RelO (fs.lookup f) (mA f))/\PySem.Within mA (fs.map (·.1))
 | .own _=>∃o,h.get? a=some o
 | .xd fs=>∃mA,h.Ns1 a mA/\∀f,RelO (fs.lookup f) (mA f)
 | .rng lo hi=>∃t u v,h.get? a=some {cls:=.type "range",data:=.fields #[.int lo t,.int hi u,.int 1 v]}
 | .frz o u=>h.get? a=some o/\ObjOk H h a u
 | .tbl ps=>h.get? a=some {cls:=.none,data:=.fields ps}
 | .met f x=>h.get? a=some (PySem.W.methodObj (.ref f) (.ref x))
 | .ext φ=>φ h/\(∃o,h.get? a=some o)/\∀h1 h2:Heap,φ h1->(∀o,h1.get? a=some o->h2.get? a=some o)->φ h2
noncomputable def HOk (H:Hp)(h:Heap):Prop:=∀a o,H a=some o->ObjOk P w H h a o
end
section
variable {P:Program}{w:World}{H H':Hp}{h h':Heap}{a:Addr}{o:HO}
theorem ObjOk.lt (x:ObjOk P w H h a o):a<h.objs.size:=by
 cases o with
 |lst xs=>obtain⟨_,_,_,_,e⟩:=x;exact Heap.lt_size e
 |tup xs=>obtain⟨_,_,_,p⟩:=x;exact p.tup.lt
 |dK kvs=>obtain⟨_,_,_,_,o,_,_,e,_⟩:=x;exact Heap.lt_size e
 |dT kvs=>obtain⟨_,_,_,_,o,_,_,e,_⟩:=x;exact Heap.lt_size e
 |set S n=>obtain⟨o,_,_,_,e,_⟩:=x;exact Heap.lt_size e
 |ins C dx fs=>obtain⟨_,_,_,e,_⟩:=x;exact Heap.lt_size e
 |own y=>obtain⟨_,e⟩:=x;exact Heap.lt_size e
 |xd fs=>obtain⟨_,⟨_,_,_,e,_⟩,_⟩:=x;exact Heap.lt_size e
 |rng lo hi=>obtain⟨_,_,_,e⟩:=x;exact Heap.lt_size e
 |frz ob u=>obtain⟨e,_⟩:=x;exact Heap.lt_size e
 |tbl ps=>exact Heap.lt_size (show h.get? a=some _ from x)
 |met f y=>exact Heap.lt_size (show h.get? a=some _ from x)
 |ext φ=>obtain⟨_,⟨_,e⟩,_⟩:=x;exact Heap.lt_size e
theorem Paired.mapP {α β:Type}{F G:α->β->Prop}:∀{l₁:List α} {l₂:List β},Paired F l₁ l₂->(∀a b,F a b->G a b)->Paired G l₁ l₂
 |_,_,.nil,_=>.nil
 |_,_,.cons r t,f=>.cons (f _ _ r) (Paired.mapP t f)
theorem ObjOk.stay (x:ObjOk P w H h a o)(k:∀b u,(b=a∨H b=some (.own a))->h.get? b=some u->h'.get? b=some u)
  (ho:∀b,H b=some (.own a)->H' b=some (.own a)) (ht:∀b xs,H b=some (.tup xs)->H' b=some (.tup xs)):ObjOk P w H' h' a o:=by
 induction o with
 |lst xs=>obtain⟨z,its,n,r,e⟩:=x;exact⟨z,its,n,r,k _ _ (.inl rfl) e⟩
 |tup xs=>obtain⟨z,its,r,ob,e,c⟩:=x;exact⟨z,its,r,ob,k _ _ (.inl rfl) e,c⟩
 |dK kvs=>obtain⟨z,y,vs,r,ob,es,ep,e,c⟩:=x;exact⟨z,y,vs,r,ob,es,ep,k _ _ (.inl rfl) e,c⟩
 |dT kvs=>
  obtain⟨z,y,xs,r,ob,es,ep,e,c⟩:=x
  exact⟨z,y,xs,Paired.mapP r fun p q z=>⟨z.1,ht _ _ z.2.1,z.2.2⟩,ob,es,ep,k _ _ (.inl rfl) e,c⟩
 |set S n=>obtain⟨ob,es,ep,t,e,c⟩:=x;exact⟨ob,es,ep,t,k _ _ (.inl rfl) e,c⟩
 |ins C dx fs=>
  obtain⟨d,z,ne,e,mA,⟨od,es,ep,e2,c⟩,r⟩:=x
  exact⟨ho _ d,z,ne,k _ _ (.inl rfl) e,mA,⟨od,es,ep,k _ _ (.inr d) e2,c⟩,r⟩
 |own y=>obtain⟨ob,e⟩:=x;exact⟨ob,k _ _ (.inl rfl) e⟩
 |xd fs=>obtain⟨mA,⟨od,es,ep,e,c⟩,r⟩:=x;exact⟨mA,⟨od,es,ep,k _ _ (.inl rfl) e,c⟩,r⟩
 |rng lo hi=>obtain⟨t,u,v,e⟩:=x;exact⟨t,u,v,k _ _ (.inl rfl) e⟩
 |frz ob u ih=>obtain⟨e,q⟩:=x;exact⟨k _ _ (.inl rfl) e,ih q⟩
 |tbl ps=>
  have e:h.get? a=some {cls:=.none,data:=.fields ps}:=x
  show h'.get? a=some {cls:=.none,data:=.fields ps}
  exact k a _ (.inl rfl) e
 |met f y=>
  have e:h.get? a=some (PySem.W.methodObj (.ref f) (.ref y)):=x
  show h'.get? a=some (PySem.W.methodObj (.ref f) (.ref y))
  exact k a _ (.inl rfl) e
 |ext φ=>obtain⟨p,⟨o,e⟩,st⟩:=x;exact⟨st _ _ p fun o q=>k _ _ (.inl rfl) q,⟨o,k _ _ (.inl rfl) e⟩,st⟩
theorem HOk.lt (x:HOk P w H h)(e:H a=some o):a<h.objs.size:=(x a o e).lt
theorem HOk.fresh (x:HOk P w H h)(e:h.objs.size<=a):H a=none:=by
 cases q:H a with
 |none=>rfl
 |some u=>exact absurd (Nat.lt_of_lt_of_le (x.lt q) e) (Nat.lt_irrefl _)
theorem HOk.kept (x:HOk P w H h)(k:∀b u,h.get? b=some u->h'.get? b=some u):HOk P w H h':=fun a o e=>
 (x a o e).stay (fun b u _ q=>k b u q) (fun _ q=>q) fun _ _ q=>q
theorem HOk.laid (x:HOk P w H h)(k:∀b u,h.get? b=some u->h'.get? b=some u)(hp:h.objs.size<=a)(new:ObjOk P w (upd H a o) h' a o):HOk P w (upd H a o) h':=fun b u e=>by
 have hn:=x.fresh hp
 by_cases hb:b=a
 ·subst hb;rw[zab] at e;cases e;exact new
 ·rw [zah hb] at e
  exact (x b u e).stay (fun c v _ q=>k c v q) (fun c q=>by rw[zah (zam q hn)];exact q) fun c xs q=>by rw[zah (zam q hn)];exact q
end
noncomputable def Rd (H:Hp)(a:Addr)(u:HO):Prop:=H a=some u∨∃o,H a=some (.frz o u)
theorem Rd.ok {P:Program}{w:World}{H:Hp}{h:Heap}{a:Addr}{u:HO}(r:Rd H a u)(x:HOk P w H h):ObjOk P w H h a u:=by
 rcases r with r|⟨o,r⟩
 ·exact x a u r
 ·obtain ⟨_,q⟩:=x a _ r
  exact q
noncomputable def Mut:Option HO->Prop
 |some (.lst _)=>True
 |some (.dK _)=>True
 |some (.dT _)=>True
 |some (.set _ _)=>True
 |some (.ins _ _ _)=>True
 |some (.ext _)=>True
 |_=>False
section
variable {P:Program}{w:World}{H:Hp}{h h':Heap}{x e:Addr}{o':HO}
theorem HOk.write (ok:HOk P w H h)(mu:Mut (H x))(he:e=x∨H e=some (.own x))(k:∀b u,b≠e->h.get? b=some u->h'.get? b=some u)(heo:∃u,h'.get? e=some u)
  (new:ObjOk P w (upd H x o') h' x o'):HOk P w (upd H x o') h':=fun b u q=>by
 have nown:∀c y,H c=some (.own y)->c≠x:=fun c y r z=>by subst z;rw[r] at mu;exact mu
 have ntup:∀c xs,H c=some (.tup xs)->c≠x:=fun c xs r z=>by subst z;rw[r] at mu;exact mu
 by_cases hb:b=x
 ·subst hb;rw[zab] at q;cases q;exact new
 ·rw [zah hb] at q
  by_cases hbe:b=e
  ·have q':H b=some (.own x):=by
    rcases he with z|z
    ·exact absurd (hbe.trans z) hb
    ·rw[hbe];exact z
   rw[q] at q';cases q'
   obtain⟨v,hv⟩:=heo
   exact⟨v,by rw[hbe];exact hv⟩
  ·refine (ok b u q).stay (fun c v hc r=>k c v ?_ r) (fun c r=>by rw[zah (nown c b r)];exact r) fun c xs r=>by rw[zah (ntup c xs r)];exact r
   rcases hc with rfl|hc
   ·exact hbe
   ·rintro rfl
    rcases he with z|z
    ·exact nown c b hc z
    ·rw[hc] at z;cases z;exact hb rfl
end
structure Un (fs ex:List Addr) (H H':Hp) (h h':Heap):Prop where
 keep:∀b o,h.get? b=some o->H b=none->b∉fs->b∉ex->h'.get? b=some o
 slot:∀b o,h.get? b=some o->H b=none->b∈fs->b∉ex->∃sl,h'.get? b=some {o with slots:=sl}
 free:∀b o,h.get? b=some o->H b=none->b∉ex->H' b=none
 there:∀b o,h.get? b=some o->b∉ex->∃o',h'.get? b=some o'
 tups:∀b xs,H b=some (.tup xs)->H' b=some (.tup xs)
 frzs:∀b o u,H b=some (.frz o u)->H' b=some (.frz o u)
 tbls:∀b ps,H b=some (.tbl ps)->∃more,H' b=some (.tbl (ps++more))
section
variable {fs fs' ex ex':List Addr}{H H1 H2:Hp}{h h1 h2 h':Heap}{a x e:Addr}{o:HO}
theorem Un.any (u:Un fs ex H H1 h h1){b:Addr}{ob:Obj}(q:h.get? b=some ob)(n:H b=none)(hx:b∉ex):∃sl,h1.get? b=some {ob with slots:=sl}:=by
 by_cases hb:b∈fs
 ·exact u.slot b ob q n hb hx
 ·exact⟨ob.slots,u.keep b ob q n hb hx⟩
theorem Un.kept (k:∀b u,h.get? b=some u->h'.get? b=some u):Un fs ex H H h h':=
 ⟨fun b ob q _ _ _=>k b ob q,fun b ob q _ _ _=>⟨ob.slots,k b ob q⟩,fun _ _ _ n _=>n,fun b ob q _=>⟨ob,k b ob q⟩,fun _ _ q=>q,fun _ _ _ q=>q,fun _ ps q=>⟨#[],by rw[q];simp⟩⟩
theorem Un.refl:Un fs ex H H h h:=Un.kept fun _ _ q=>q
theorem Un.laid (k:∀b u,h.get? b=some u->h'.get? b=some u)(hp:h.objs.size<=a)(hn:H a=none):Un fs ex H (upd H a o) h h' where
 keep:=fun b u q _ _ _=>k b u q
 slot:=fun b u q _ _ _=>⟨u.slots,k b u q⟩
 free:=fun b u q n _=>by rw[zah (Nat.ne_of_lt (Nat.lt_of_lt_of_le (Heap.lt_size q) hp))];exact n
 there:=fun b u q _=>⟨u,k b u q⟩
 tups:=fun b xs q=>by rw[zah (zam q hn)];exact q
 frzs:=fun b u xs q=>by rw[zah (zam q hn)];exact q
 tbls:=fun b ps q=>⟨#[],by rw[zah (zam q hn),q];simp⟩
theorem Un.write (mu:Mut (H x))(he:e=x∨H e=some (.own x))(k:∀b u,b≠e->h.get? b=some u->h'.get? b=some u)(heo:∃u,h'.get? e=some u):Un fs ex H (upd H x o) h h':=by
 have hx:∀b,H b=none->b≠x:=fun b n z=>by subst z;rw[n] at mu;exact mu
 have hb:∀b,H b=none->b≠e:=fun b n z=>by
  subst z
  rcases he with r|r
  ·exact hx b n r
  ·rw[n] at r;cases r
 have hm:∀b u,H b=some u->¬Mut (some u)->b≠x:=fun b u q nm z=>by subst z;rw[q] at mu;exact nm mu
 refine⟨fun b u q n _ _=>k b u (hb b n) q,fun b u q n _ _=>⟨u.slots,k b u (hb b n) q⟩,fun b u q n _=>by rw[zah (hx b n)];exact n,fun b u q _=> ?_,
  fun b xs q=>by rw[zah (hm b _ q fun z=>z)];exact q,fun b u xs q=>by rw[zah (hm b _ q fun z=>z)];exact q,fun b ps q=>⟨#[],by rw[zah (hm b _ q fun z=>z),q];simp⟩⟩
 by_cases hbe:b=e
 ·subst hbe;exact heo
 ·exact⟨u,k b u hbe q⟩
end
noncomputable def trk (h:Heap)(H:Hp):List Addr:=(List.range h.objs.size).filter fun a=>(H a).isSome
noncomputable def hidT (h:Heap)(H:Hp):Heap:=PySem.W.hideAll h (trk h H)
theorem zfA (h:Heap)(H:Hp):(hidT h H).objs.size=h.objs.size:=PySem.W.hideAll_size _ _
theorem zgP {h:Heap}{H:Hp}{b:Addr}{o:Obj}(e:h.get? b=some o)(n:H b=none):(hidT h H).get? b=some o:=
 PySem.W.hideAll_get _ e fun hm=>by
  have q:(H b).isSome=true:=(List.mem_filter.mp hm).2
  rw[n] at q;simp at q
theorem zh3 {h:Heap}{H:Hp}{b:Addr}{o:Obj}(e:(hidT h H).get? b=some o):h.get? b=some o/\H b=none:=by
 have e':h.get? b=some o:=PySem.W.of_hideAll (trk h H) e
 refine⟨e', ?_⟩
 cases q:H b with
 |none=>rfl
 |some x=>
  have hm:b∈trk h H:=List.mem_filter.mpr ⟨List.mem_range.mpr (Heap.lt_size e'),by simp[q]⟩
  have z:(hidT h H).get? b=none:=PySem.W.hideAll_none (trk h H) hm
  rw[z] at e;cases e
noncomputable def zh4 (g h:Heap)(L:Addr):List (Addr×Obj):=(List.range h.objs.size).filterMap fun a=>if a=L∨(g.get? a).isSome=true then none else (h.get? a).map fun o=>(a,o)
noncomputable def rest (g h:Heap)(L d:Addr):List (Addr×Obj):=(zh4 g h L).filter fun p=>decide (p.1≠d)
structure Mod (K:PySem.W.Frag) (mg:Str->Option Value) (base:Heap):Prop where
 kin:K.In base
 glob:base.Ns mainGlobals mg
 blt:∃mb,base.Ns builtinsNs mb/\∀x:Str,x≠ "__name__" ->mb x=bootBuiltins x
 nolimit:base.NoLimit
structure Cx where
 prog:Program
 w:World
 K:PySem.W.Frag
 mg:Str->Option Value
 base:Heap
 A:Around
 N:List Str
 s₀:Shared
 H₀:Hp
 env:Env
 outer:List Env
 stack:List Env
 ex:List Addr
 fn:Str->Bool
 calm:Bool
 pn:List (Addr×Obj)
 xe:Value->Shared->Prop
noncomputable def frs (l:List Env):List Addr:=l.filterMap (·.frame)
noncomputable abbrev Cx.fs (X:Cx):List Addr:=frs X.outer
noncomputable def Vis (sc:Scope)(x:Str):Prop:=sc.names.lookup x=some .local∨sc.names.lookup x=some .cell∨sc.names.lookup x=some .free
noncomputable def Loc (sc:Scope)(x:Str):Prop:=sc.names.lookup x=some .local∨sc.names.lookup x=some .cell
noncomputable def Look (env:Env)(h:Heap)(m:Str->Option Value)(x:Str)(u:Value):Prop:=
 (env.kindOf x=some .local/\m x=some u)∨((env.kindOf x=some .cell∨env.kindOf x=some .free)/\∃c,env.cells.lookup x=some c/\h.IsCell c (some u))
structure Cx.Ok (X:Cx):Prop where
 mod:Mod X.K X.mg X.base
 kind:X.env.scope.kind=.function
 glob:X.env.globals=mainGlobals
 blt:X.env.builtins=builtinsNs
 above:X.s₀.heap.objs.size<=X.env.locals
 inj:∀x y c,X.env.cells.lookup x=some c->X.env.cells.lookup y=some c->x=y
 has:∀x,(X.env.kindOf x=some .cell∨X.env.kindOf x=some .free)->∃c,X.env.cells.lookup x=some c
 cab:∀x c,X.fn x=true->X.env.cells.lookup x=some c->X.s₀.heap.objs.size<=c
 hd:X.calm=true->X.A.handled=none
 frames:X.A.frames=some X.stack
 stk:X.stack=X.outer∨(X.stack=X.env::X.outer/\X.env.frame=some X.env.locals)
 exf:∀b∈X.ex,b≠X.env.locals/\∀x c,X.env.cells.lookup x=some c->c≠b
 bs:∀b o,X.base.get? b=some o->X.s₀.heap.get? b=some o/\X.H₀ b=none
 bsz:X.base.objs.size<=X.s₀.heap.objs.size
 noex:∀b o,X.base.get? b=some o->b∉X.ex
 exfs:∀b∈X.ex,b∉X.fs
 funs:X.s₀.heap.FunFrames X.base X.outer
 frf:∀b∈X.fs,X.H₀ b=none
structure Inv (X:Cx) (pins:List (Addr×Obj)) (σ:List (Option V)) (H:Hp) (s:Shared):Prop where
 ok:X.Ok
 os:s.os=X.s₀.os
 bare:AllBare s.gens
 base:Un X.fs X.ex X.H₀ H X.s₀.heap s.heap
 loc:∃m,s.heap.Ns X.env.locals m/\∀(i:Nat) (x:Str) (v:V),X.N[i]? =some x->σ[i]? =some (some v)->Vis X.env.scope x->∃u,RelV v u/\Look X.env s.heap m x u
 cell:∀x c,X.env.cells.lookup x=some c->∃v,s.heap.IsCell c v
 free:H X.env.locals=none
 freeC:∀x c,X.env.cells.lookup x=some c->H c=none
 pin:∀p∈X.pn++pins,s.heap.get? p.1=some p.2/\H p.1=none/\p.1≠X.env.locals/\p.1∉X.fs/\∀v,p.2.data≠.cell v
 hok:HOk X.prog X.w H s.heap
 len:σ.length=X.N.length
section
variable {X:Cx}{pins:List (Addr×Obj)}{σ:List (Option V)}{H H':Hp}{s:Shared}{h':Heap}
theorem Cx.Ok.nofr (ok:X.Ok){b:Addr}{o:Obj}(e:X.base.get? b=some o):b∉X.fs:=fun hb=>by
 have:=(ok.funs.mem hb).1
 rw[e] at this;cases this
theorem Inv.bs (I:Inv X pins σ H s):∀b o,X.base.get? b=some o->s.heap.get? b=some o/\H b=none:=fun b o e=>
 ⟨I.base.keep b o (I.ok.bs b o e).1 (I.ok.bs b o e).2 (I.ok.nofr e) (I.ok.noex b o e),I.base.free b o (I.ok.bs b o e).1 (I.ok.bs b o e).2 (I.ok.noex b o e)⟩
theorem Inv.bk (I:Inv X pins σ H s):∀b o,X.base.get? b=some o->s.heap.get? b=some o:=fun b o e=>(I.bs b o e).1
theorem Inv.mod (I:Inv X pins σ H s):Mod X.K X.mg X.base:=I.ok.mod
theorem Inv.kIn (I:Inv X pins σ H s):X.K.In s.heap:=I.ok.mod.kin.keeps I.bk
theorem Inv.lt (I:Inv X pins σ H s):X.env.locals<s.heap.objs.size:=let ⟨_,hn,_⟩:=I.loc;hn.lt
theorem Inv.sz (I:Inv X pins σ H s):X.s₀.heap.objs.size<=s.heap.objs.size:=Nat.le_trans I.ok.above (Nat.le_of_lt I.lt)
theorem Inv.nofs (I:Inv X pins σ H s){a:Addr}(h:s.heap.objs.size<=a):a∉X.fs:=fun hb=>by
 obtain⟨_,o,ho,_⟩:=I.ok.funs.mem hb
 exact absurd (Nat.lt_of_lt_of_le (Heap.lt_size ho) (Nat.le_trans I.sz h)) (Nat.lt_irrefl _)
theorem Inv.cne (I:Inv X pins σ H s):∀x c,X.env.cells.lookup x=some c->c≠X.env.locals:=fun x c e z=>by
 obtain⟨v,o,ho,hd⟩:=I.cell x c e
 obtain⟨m,⟨o',es,ep,ho',hd',_⟩,_⟩:=I.loc
 rw[z,ho'] at ho;cases ho;rw[hd'] at hd;cases hd
theorem Inv.funs (I:Inv X pins σ H s):s.heap.FunFrames X.base X.outer:=by
 have all:∀(l:List Env),(∀b∈frs l,b∈X.fs)->X.s₀.heap.FunFrames X.base l->s.heap.FunFrames X.base l:=by
  intro l
  induction l with
  |nil=>intro _ _;trivial
  |cons env r ih=>
   intro hs hl
   obtain⟨hk,⟨L,o,hf,hn,ho,hd⟩,hr⟩:=hl
   have hL:L∈X.fs:=hs L (by unfold frs;rw[List.filterMap_cons,hf];exact List.mem_cons_self)
   obtain⟨sl,e⟩:=I.base.slot L o ho (I.ok.frf L hL) hL fun z=>I.ok.exfs L z hL
   exact⟨hk,⟨L,_,hf,hn,e,hd⟩,ih (fun b hb=>hs b (by unfold frs;rw[List.filterMap_cons,hf];exact List.mem_cons_of_mem _ hb)) hr⟩
 exact all X.outer (fun _ hb=>hb) I.ok.funs
theorem Inv.stack (I:Inv X pins σ H s):s.heap.FunFrames X.base X.stack:=by
 rcases I.ok.stk with e|⟨e,hf⟩
 ·rw[e];exact I.funs
 ·rw [e]
  obtain⟨m,hn,_⟩:=I.loc
  refine .cons (by rw[I.ok.kind];decide) hf hn ?_ I.funs
  exact Heap.get?_none_of_le (Nat.le_trans I.ok.bsz I.ok.above)
theorem Inv.stkSub (I:Inv X pins σ H s):∀b∈frs X.stack,b∈X.env.locals::X.fs:=fun b hb=>by
 rcases I.ok.stk with e|⟨e,hf⟩
 ·rw[e] at hb;exact List.mem_cons_of_mem _ hb
 ·rw [e] at hb
  unfold frs at hb
  rw[List.filterMap_cons,hf] at hb
  exact hb
theorem Inv.stkFree (I:Inv X pins σ H s):∀b∈frs X.stack,H b=none:=fun b hb=>by
 rcases List.mem_cons.mp (I.stkSub b hb) with e|hb
 ·rw[e];exact I.free
 ·obtain ⟨_,o,ho,_⟩:=I.ok.funs.mem hb
  exact I.base.free b o ho (I.ok.frf b hb) fun z=>I.ok.exfs b z hb
theorem Inv.step {g':Array GenState}{t':Nat}{d':Drawn}{ch:List Addr}(I:Inv X pins σ H s)
  (hch:∀b∈ch,(b∈X.ex∨X.s₀.heap.objs.size<=b)/\b≠X.env.locals/\(∀x c,X.env.cells.lookup x=some c->c≠b)/\∀p∈X.pn++pins,p.1≠b)
  (keep:∀b o,b≠X.env.locals->b∉X.fs->b∉ch->s.heap.get? b=some o->H b=none->h'.get? b=some o)
  (slot:∀b o,b≠X.env.locals->b∈X.fs->b∉ch->s.heap.get? b=some o->H b=none->∃sl,h'.get? b=some {o with slots:=sl}) (free:∀b o,b∉ch->s.heap.get? b=some o->H b=none->H' b=none)
  (there:∀b o,b∉ch->s.heap.get? b=some o->∃o',h'.get? b=some o')
  (tups:∀b xs,H b=some (.tup xs)->H' b=some (.tup xs)) (frzs:∀b o u,H b=some (.frz o u)->H' b=some (.frz o u)) (tbls:∀b ps,H b=some (.tbl ps)->∃more,H' b=some (.tbl (ps++more)))
  (ns:∀m,s.heap.Ns X.env.locals m->h'.Ns X.env.locals m) (hok:HOk X.prog X.w H' h') (hg:AllBare g'):
  Inv X pins σ H' {s with heap:=h',gens:=g',drawn:=d',toks:=t'}:=by
 have neL:∀b o,X.s₀.heap.get? b=some o->b≠X.env.locals:=fun b o e=>Nat.ne_of_lt (Nat.lt_of_lt_of_le (Heap.lt_size e) I.ok.above)
 have neC:∀b o,X.s₀.heap.get? b=some o->b∉X.ex->b∉ch:=fun b o e hx hb=>by
  rcases (hch b hb).1 with z|z
  ·exact hx z
  ·exact absurd (Nat.lt_of_lt_of_le (Heap.lt_size e) z) (Nat.lt_irrefl _)
 have cellK:∀x c,X.env.cells.lookup x=some c->∀v,s.heap.IsCell c v->h'.IsCell c v:=fun x c e v ⟨o,ho,hd⟩=>by
  have nch:c∉ch:=fun z=>(hch c z).2.2.1 x c e rfl
  by_cases hc:c∈X.fs
  ·obtain ⟨sl,q⟩:=slot c o (I.cne x c e) hc nch ho (I.freeC x c e)
   exact⟨_,q,hd⟩
  ·exact⟨o,keep c o (I.cne x c e) hc nch ho (I.freeC x c e),hd⟩
 refine⟨I.ok,I.os,hg,⟨fun b o e n hb hx=> ?_,fun b o e n hb hx=> ?_,fun b o e n hx=> ?_,fun b o e hx=> ?_,fun b xs e=>tups b xs (I.base.tups b xs e),fun b o xs e=>frzs b o xs (I.base.frzs b o xs e),fun b ps e=> ?_⟩, ?_,fun x c e=> ?_, ?_,fun x c e=> ?_,fun p hp=> ?_,hok,I.len⟩
 ·exact keep b o (neL b o e) hb (neC b o e hx) (I.base.keep b o e n hb hx) (I.base.free b o e n hx)
 ·obtain ⟨sl,e1⟩:=I.base.slot b o e n hb hx
  obtain⟨sl',e2⟩:=slot b _ (neL b o e) hb (neC b o e hx) e1 (I.base.free b o e n hx)
  exact⟨sl',e2⟩
 ·obtain ⟨o',e1⟩:=I.base.there b o e hx
  exact free b o' (neC b o e hx) e1 (I.base.free b o e n hx)
 ·obtain ⟨o',e1⟩:=I.base.there b o e hx
  exact there b o' (neC b o e hx) e1
 ·obtain ⟨m1,e1⟩:=I.base.tbls b ps e
  obtain⟨m2,e2⟩:=tbls b _ e1
  exact⟨m1++m2,by rw[e2,Array.append_assoc]⟩
 ·obtain ⟨m,hn,hl⟩:=I.loc
  refine⟨m,ns m hn,fun i x v e1 e2 e3=> ?_⟩
  obtain⟨u,r,l⟩:=hl i x v e1 e2 e3
  refine⟨u,r, ?_⟩
  rcases l with l|⟨k,c,e,z⟩
  ·exact .inl l
  ·exact .inr ⟨k,c,e,cellK x c e _ z⟩
 ·obtain ⟨v,z⟩:=I.cell x c e
  exact⟨v,cellK x c e v z⟩
 ·obtain ⟨m,⟨o,_,_,ho,_⟩,_⟩:=I.loc
  exact free _ o (fun z=>(hch _ z).2.1 rfl) ho I.free
 ·obtain ⟨v,o,ho,hd⟩:=I.cell x c e
  exact free c o (fun z=>(hch c z).2.2.1 x c e rfl) ho (I.freeC x c e)
 ·obtain ⟨e,n,ne,nf,d⟩:=I.pin p hp
  have nch:p.1∉ch:=fun z=>(hch p.1 z).2.2.2 p hp rfl
  exact⟨keep p.1 p.2 ne nf nch e n,free p.1 p.2 nch e n,ne,nf,d⟩
theorem Inv.un {t':Nat}(I:Inv X pins σ H s)(u:Un X.fs [] H H' s.heap h')(hok:HOk X.prog X.w H' h'):Inv X pins σ H' {s with heap:=h',toks:=t'}:=by
 obtain⟨m,⟨o,es,ep,ho,r⟩,_⟩:=id I.loc
 obtain⟨sl,hL⟩:=u.any ho I.free (by simp)
 exact I.step (g':=s.gens) (d':=s.drawn) (ch:=[]) (fun _ z=>nomatch z) (fun b o _ hb _ e n=>u.keep b o e n hb (by simp)) (fun b o _ hb _ e n=>u.slot b o e n hb (by simp)) (fun b o _ e n=>u.free b o e n (by simp)) (fun b o _ e=>u.there b o e (by simp)) u.tups u.frzs u.tbls (fun m' hm=>by
  obtain⟨o',es',ep',ho',r'⟩:=hm
  rw[ho] at ho';cases ho'
  exact⟨_,es',ep',hL,r'⟩) hok I.bare
theorem Inv.call {g':Array GenState}{t':Nat}{d':Drawn}{ch:List Addr}(I:Inv X pins σ H s)(u:Un (frs X.stack) ch H H' s.heap h')(hok:HOk X.prog X.w H' h')(hg:AllBare g')
  (hch:∀b∈ch,(b∈X.ex∨X.s₀.heap.objs.size<=b)/\b≠X.env.locals/\(∀x c,X.env.cells.lookup x=some c->c≠b)/\∀p∈X.pn++pins,p.1≠b):
  Inv X pins σ H' {s with heap:=h',gens:=g',drawn:=d',toks:=t'}:=by
 obtain⟨m,⟨o,es,ep,ho,r⟩,_⟩:=id I.loc
 obtain⟨sl,hL⟩:=u.any ho I.free fun z=>(hch _ z).2.1 rfl
 exact I.step (ch:=ch) hch (fun b o hL hb hc e n=>u.keep b o e n (fun z=>(List.mem_cons.mp (I.stkSub b z)).elim hL hb) hc) (fun b o _ _ hc e n=>u.any e n hc) (fun b o hc e n=>u.free b o e n hc) (fun b o hc e=>u.there b o e hc) u.tups u.frzs u.tbls (fun m' hm=>by
  obtain⟨o',es',ep',ho',r'⟩:=hm
  rw[ho] at ho';cases ho'
  exact⟨_,es',ep',hL,r'⟩) hok hg
theorem Inv.turned {t':Nat}{it:Addr}(I:Inv X pins σ H s)(k:∀b o,b≠it->s.heap.get? b=some o->h'.get? b=some o)(hn:H it=none)(hL:it≠X.env.locals)
  (h1:it∈X.ex∨X.s₀.heap.objs.size<=it) (h2:∀x c,X.env.cells.lookup x=some c->c≠it) (h3:∀p∈X.pn++pins,p.1≠it):Inv X pins σ H {s with heap:=h',toks:=t'}:=by
 have nit:∀b u,H b=some u->b≠it:=fun b u e z=>by rw[z,hn] at e;cases e
 refine I.step (g':=s.gens) (d':=s.drawn) (ch:=[it]) (fun b hb=> ?_) (fun b o _ _ hc e _=>k b o (fun z=>hc (by simp[z])) e) (fun b o _ _ hc e _=>⟨o.slots,k b o (fun z=>hc (by simp[z])) e⟩) (fun _ _ _ _ n=>n)
  (fun b o hc e=>⟨o,k b o (fun z=>hc (by simp[z])) e⟩) (fun _ _ e=>e) (fun _ _ _ e=>e) (fun b ps e=>⟨#[],by rw[e];simp⟩) (fun m hm=> ?_) (fun b u e=> ?_) I.bare
 ·have e:b=it:=by simpa using hb
  subst e
  exact⟨h1,hL,h2,h3⟩
 ·obtain ⟨o,es,ep,ho,r⟩:=hm
  exact⟨o,es,ep,k _ o (Ne.symm hL) ho,r⟩
 ·refine (I.hok b u e).stay (fun c v hc q=>k c v ?_ q) (fun _ q=>q) fun _ _ q=>q
  rcases hc with z|z
  ·rw[z];exact nit b u e
  ·exact nit c _ z
theorem Inv.tok (I:Inv X pins σ H s)(t:Nat):Inv X pins σ H {s with toks:=t}:=I.un (h':=s.heap) (t':=t) Un.refl I.hok
theorem Inv.kept {t':Nat}(I:Inv X pins σ H s)(k:∀b u,s.heap.get? b=some u->h'.get? b=some u):Inv X pins σ H {s with heap:=h',toks:=t'}:=I.un (Un.kept k) (I.hok.kept k)
theorem Inv.laid {a:Addr}{o:HO}{t':Nat}(I:Inv X pins σ H s)(k:∀b u,s.heap.get? b=some u->h'.get? b=some u)(hp:s.heap.objs.size<=a)(new:ObjOk X.prog X.w (upd H a o) h' a o):
  Inv X pins σ (upd H a o) {s with heap:=h',toks:=t'}:=I.un (Un.laid k hp (I.hok.fresh hp)) (I.hok.laid k hp new)
theorem Inv.write {x e:Addr}{o:HO}{t':Nat}(I:Inv X pins σ H s)(mu:Mut (H x))(he:e=x∨H e=some (.own x))(k:∀b u,b≠e->s.heap.get? b=some u->h'.get? b=some u)(heo:∃u,h'.get? e=some u)
  (new:ObjOk X.prog X.w (upd H x o) h' x o):Inv X pins σ (upd H x o) {s with heap:=h',toks:=t'}:=I.un (Un.write mu he k heo) (I.hok.write mu he k heo new)
theorem Inv.weak {σ':List (Option V)}(I:Inv X pins σ H s)(hl:σ'.length=σ.length)(w:∀(i:Nat) v,σ'[i]? =some (some v)->σ[i]? =some (some v)):Inv X pins σ' H s:=
 ⟨I.ok,I.os,I.bare,I.base,let ⟨m,hn,hl'⟩:=I.loc;⟨m,hn,fun i x v e1 e2 e3=>hl' i x v e1 (w i v e2) e3⟩,I.cell,I.free,I.freeC,I.pin,I.hok,hl.trans I.len⟩
theorem Inv.pins_of {pins':List (Addr×Obj)}(I:Inv X pins σ H s)(h:∀p∈pins',s.heap.get? p.1=some p.2/\H p.1=none/\p.1≠X.env.locals/\p.1∉X.fs/\∀v,p.2.data≠.cell v):Inv X pins' σ H s:=
 ⟨I.ok,I.os,I.bare,I.base,I.loc,I.cell,I.free,I.freeC,fun p hp=>(List.mem_append.mp hp).elim (fun z=>I.pin p (List.mem_append_left _ z)) (h p),I.hok,I.len⟩
theorem zeH {N:List Str}(hN:N.Nodup){i j:Nat}{x:Str}(a:N[i]? =some x)(b:N[j]? =some x):i=j:=by
 obtain⟨h1,e1⟩:=List.getElem?_eq_some_iff.mp a
 obtain⟨h2,e2⟩:=List.getElem?_eq_some_iff.mp b
 exact (List.getElem_inj hN).mp (e1.trans e2.symm)
theorem zfB {M:Model}{A:Around}{E:Value->Shared->Prop}{i:Nat}{x:Str}{v:V}{u:Value}{Q:Unit->Shared->Prop}(I:Inv X pins σ H s)(hN:X.N.Nodup)(hi:X.N[i]? =some x)(hx:Loc X.env.scope x)(r:RelV v u)
  (h:∀s',Inv X pins (σ.set i (some v)) H s'->(∃a,Heap.SameBut a s.heap s'.heap/\(a=X.env.locals∨X.env.cells.lookup x=some a))->Q () s') (hf:X.fn x=true∨X.env.scope.names.lookup x=some .local:=by first|exact .inl rfl|exact .inr rfl|assumption):wpAny M A (storeName X.env x u) Q E s:=by
 obtain⟨m,hn,hl⟩:=id I.loc
 have hcls:(X.env.scope.kind==.class||(X.env.scope.kind==.module&&X.env.locals != X.env.globals))=false:=by rw[I.ok.kind];rfl
 have hiσ:i<σ.length:=by rw[I.len];exact (List.getElem?_eq_some_iff.mp hi).1
 have cne:=I.cne
 have tracked:∀{a:Addr} {h':Heap},(∃o,s.heap.get? a=some o/\H a=none)->Heap.SameBut a s.heap h'->HOk X.prog X.w H h':=fun {a h'} ha hs b ob e=>by
  obtain⟨_,_,hfree⟩:=ha
  refine (I.hok b ob e).stay (fun c w' hc q=>(hs.2 c ?_).trans q) (fun _ q=>q) fun _ _ q=>q
  rintro rfl
  rcases hc with rfl|hc
  ·rw[hfree] at e;cases e
  ·rw[hfree] at hc;cases hc
 rcases hx with hk|hk
 ·refine wpAny_storeName_local hk hn (fun h' hn' hs=> ?_) hcls
  obtain⟨oL,_,_,hoL,_⟩:=id hn
  refine h _ ⟨I.ok,I.os,I.bare,⟨fun b o e n hb hx=> ?_,fun b o e n hb hx=> ?_,I.base.free,fun b o e hx=> ?_,I.base.tups,I.base.frzs,I.base.tbls⟩,⟨_,hn',fun j y v' e1 e2 e3=> ?_⟩,fun y c e=> ?_,I.free,I.freeC,fun p hp=> ?_,tracked ⟨oL,hoL,I.free⟩ hs,by simpa using I.len⟩ ⟨_,hs,.inl rfl⟩
  ·exact (hs.2 b (Nat.ne_of_lt (Nat.lt_of_lt_of_le (Heap.lt_size e) I.ok.above))).trans (I.base.keep b o e n hb hx)
  ·obtain ⟨sl,e1⟩:=I.base.slot b o e n hb hx
   exact⟨sl,(hs.2 b (Nat.ne_of_lt (Nat.lt_of_lt_of_le (Heap.lt_size e) I.ok.above))).trans e1⟩
  ·obtain ⟨o',e1⟩:=I.base.there b o e hx
   exact⟨o',(hs.2 b (Nat.ne_of_lt (Nat.lt_of_lt_of_le (Heap.lt_size e) I.ok.above))).trans e1⟩
  ·by_cases hj:j=i
   ·subst hj
    rw[hi] at e1;cases e1
    rw[List.getElem?_set_self hiσ] at e2
    cases e2
    exact⟨u,r,.inl ⟨hk,by simp⟩⟩
   ·rw [List.getElem?_set_ne (Ne.symm hj)] at e2
    obtain⟨u',r',q⟩:=hl j y v' e1 e2 e3
    refine⟨u',r', ?_⟩
    rcases q with⟨k,e⟩|⟨k,c,e,z⟩
    ·refine .inl ⟨k, ?_⟩
     have:y≠x:=fun e=>hj (zeH hN e1 (e▸hi))
     simp[this,e]
    ·exact .inr ⟨k,c,e,z.sameBut hs (cne y c e)⟩
  ·obtain ⟨w',z⟩:=I.cell y c e
   exact⟨w',z.sameBut hs (cne y c e)⟩
  ·obtain ⟨e,n,ne,nf,d⟩:=I.pin p hp
   exact⟨(hs.2 p.1 ne).trans e,n,ne,nf,d⟩
 ·have hfn:X.fn x=true:=by
   rcases hf with z|z
   ·exact z
   ·rw[z] at hk;cases hk
  obtain⟨c,hc⟩:=I.ok.has x (.inl hk)
  obtain⟨w',z⟩:=I.cell x c hc
  refine wpAny_storeName_cell I.ok.kind hk hc z (fun h' hc' hs=> ?_)
  obtain⟨oc,hoc,hocd⟩:=id z
  refine h {s with heap:=h'} ⟨I.ok,I.os,I.bare,⟨fun b o e n hb hx=> ?_,fun b o e n hb hx=> ?_,I.base.free,fun b o e hx=> ?_,I.base.tups,I.base.frzs,I.base.tbls⟩,⟨m,hn.sameBut hs (Ne.symm (cne x c hc)),fun j y v' e1 e2 e3=> ?_⟩,fun y c' e=> ?_,I.free,I.freeC,fun p hp=> ?_,tracked ⟨oc,hoc,I.freeC x c hc⟩ hs,by simpa using I.len⟩ ⟨c,hs,.inr hc⟩
  ·exact (hs.2 b (Nat.ne_of_lt (Nat.lt_of_lt_of_le (Heap.lt_size e) (I.ok.cab x c hfn hc)))).trans (I.base.keep b o e n hb hx)
  ·obtain ⟨sl,e1⟩:=I.base.slot b o e n hb hx
   exact⟨sl,(hs.2 b (Nat.ne_of_lt (Nat.lt_of_lt_of_le (Heap.lt_size e) (I.ok.cab x c hfn hc)))).trans e1⟩
  ·obtain ⟨o',e1⟩:=I.base.there b o e hx
   exact⟨o',(hs.2 b (Nat.ne_of_lt (Nat.lt_of_lt_of_le (Heap.lt_size e) (I.ok.cab x c hfn hc)))).trans e1⟩
  ·by_cases hj:j=i
   ·subst hj
    rw[hi] at e1;cases e1
    rw[List.getElem?_set_self hiσ] at e2
    cases e2
    exact⟨u,r,.inr ⟨.inl hk,c,hc,hc'⟩⟩
   ·rw [List.getElem?_set_ne (Ne.symm hj)] at e2
    obtain⟨u',r',q⟩:=hl j y v' e1 e2 e3
    refine⟨u',r', ?_⟩
    rcases q with q|⟨k,c',e,z'⟩
    ·exact .inl q
    ·refine .inr ⟨k,c',e,z'.sameBut hs ?_⟩
     rintro rfl
     exact hj (zeH hN e1 (I.ok.inj _ _ _ e hc▸hi))
  ·by_cases hcc:c'=c
   ·subst hcc;exact⟨_,hc'⟩
   ·obtain ⟨w2,z2⟩:=I.cell y c' e
    exact⟨w2,z2.sameBut hs hcc⟩
  ·obtain ⟨e,n,ne,nf,d⟩:=I.pin p hp
   refine⟨(hs.2 p.1 ?_).trans e,n,ne,nf,d⟩
   intro q
   rw[q,hoc] at e
   have q':oc=p.2:=Option.some.inj e
   exact d w' (by rw[<-q'];exact hocd)
theorem zcr {M:Model}{A:Around}{E:Value->Shared->Prop}{i:Nat}{x:Str}{v:V}{u:Value}{Q:Unit->Shared->Prop}(I:Inv X pins σ H s)(hN:X.N.Nodup)(hi:X.N[i]? =some x)(hx:Loc X.env.scope x)(r:RelV v u)
  (h:∀s',Inv X pins (σ.set i (some v)) H s'->Q () s') (hf:X.fn x=true∨X.env.scope.names.lookup x=some .local:=by first|exact .inl rfl|exact .inr rfl|assumption):wpAny M A (storeName X.env x u) Q E s:=
 zfB I hN hi hx r (fun s' I' _=>h s' I') hf
theorem Inv.call' {s':Shared}{ch:List Addr}(I:Inv X pins σ H s)(ho:s'.os=s.os)(u:Un (frs X.stack) ch H H' s.heap s'.heap)(hok:HOk X.prog X.w H' s'.heap)(hg:AllBare s'.gens)
  (hch:∀b∈ch,(b∈X.ex∨X.s₀.heap.objs.size<=b)/\b≠X.env.locals/\(∀x c,X.env.cells.lookup x=some c->c≠b)/\∀p∈X.pn++pins,p.1≠b):Inv X pins σ H' s':=by
 obtain⟨h',g',d',t',o'⟩:=s'
 have e:o'=s.os:=ho
 subst e
 exact I.call (g':=g') (t':=t') (d':=d') u hok hg hch
end
noncomputable abbrev XK:=Value->Option Addr->Hp->Prop
noncomputable abbrev St:=List (Option V)
noncomputable abbrev VK:=V->Hp->Prop
noncomputable abbrev TE:=St->Hp->VK->Prop
noncomputable abbrev TT:=St->Hp->(Bool->Hp->Prop)->Prop
noncomputable abbrev TA:=St->Hp->(List V->Hp->Prop)->Prop
structure Ends where
 nx:St->Hp->Prop
 rt:VK
 bk:St->Hp->Prop:=fun _ _=>False
 ct:St->Hp->Prop:=fun _ _=>False
noncomputable abbrev TS:=Ends->St->Hp->Prop
noncomputable def EP (X:Cx)(pins:List (Addr×Obj))(σ:St)(Q:VK)(u:Value)(s':Shared):Prop:=∃v H',Inv X pins σ H' s'/\RelV v u/\Q v H'
noncomputable def TP (X:Cx)(pins:List (Addr×Obj))(σ:St)(Q:Bool->Hp->Prop)(b:Bool)(s':Shared):Prop:=∃H',Inv X pins σ H' s'/\Q b H'
noncomputable def AP (X:Cx)(pins:List (Addr×Obj))(σ:St)(Q:List V->Hp->Prop)(us:List Value)(s':Shared):Prop:=∃vs H',Inv X pins σ H' s'/\Vals vs us/\Q vs H'
noncomputable def SP (X:Cx)(pins:List (Addr×Obj))(D:Ends)(f:Flow)(s':Shared):Prop:=
 match f with
 | .next=>∃σ' H',Inv X pins σ' H' s'/\D.nx σ' H'
 | .brk=>∃σ' H',Inv X pins σ' H' s'/\D.bk σ' H'
 | .cont=>∃σ' H',Inv X pins σ' H' s'/\D.ct σ' H'
 | .ret u=>∃v σ' H',Inv X pins σ' H' s'/\RelV v u/\D.rt v H'
noncomputable def PE (X:Cx)(e:Expr)(t:TE):Prop:=
 ∀(pins:List (Addr×Obj)) (s:Shared) (σ:St) (H:Hp) (Q:VK),Inv X pins σ H s->t σ H Q->wpAny (model X.prog X.w) X.A (eval e X.env) (EP X pins σ Q) X.xe s
noncomputable def PT (X:Cx)(e:Expr)(t:TT):Prop:=
 ∀(pins:List (Addr×Obj)) (s:Shared) (σ:St) (H:Hp) (Q:Bool->Hp->Prop),Inv X pins σ H s->t σ H Q->wpAny (model X.prog X.w) X.A (isTrue e X.env (eval e X.env)) (TP X pins σ Q) X.xe s
noncomputable def PW (X:Cx)(e:Expr)(t:TT):Prop:=
 ∀(whole:Sem Value) (pins:List (Addr×Obj)) (s:Shared) (σ:St) (H:Hp) (Q:Bool->Hp->Prop),Inv X pins σ H s->t σ H Q->wpAny (model X.prog X.w) X.A (isTrue e X.env whole) (TP X pins σ Q) X.xe s
theorem PW.pt {X:Cx}{e:Expr}{t:TT}(h:PW X e t):PT X e t:=h _
noncomputable def PA (X:Cx)(es:List Expr)(t:TA):Prop:=
 ∀(pos:Pos) (pins:List (Addr×Obj)) (s:Shared) (σ:St) (H:Hp) (Q:List V->Hp->Prop),Inv X pins σ H s->t σ H Q->wpAny (model X.prog X.w) X.A (spliced (backTo pos (starEach es X.env))) (AP X pins σ Q) X.xe s
noncomputable def PS (X:Cx)(st:Stmt)(t:TS):Prop:=
 ∀(pins:List (Addr×Obj)) (s:Shared) (σ:St) (H:Hp) (D:Ends),Inv X pins σ H s->t D σ H->wpAny (model X.prog X.w) X.A (exec st X.env) (SP X pins D) X.xe s
noncomputable def PSs (X:Cx)(st:List Stmt)(t:TS):Prop:=
 ∀(pins:List (Addr×Obj)) (s:Shared) (σ:St) (H:Hp) (D:Ends),Inv X pins σ H s->t D σ H->wpAny (model X.prog X.w) X.A (execs st X.env) (SP X pins D) X.xe s
theorem thn {α:Type}{t:Sem α}{Q Q':α->Shared->Prop}{M:Model}{A:Around}{E:Value->Shared->Prop}{s:Shared}(h:wpAny M A t Q E s)(hQ:∀a s,Q a s->Q' a s):wpAny M A t Q' E s:=wpAny_mono h hQ fun _ _ x=>x
section
variable {X:Cx}
noncomputable def tVar (i:Nat):TE:=fun σ H Q=>∃v,σ[i]? =some (some v)/\Q v H
noncomputable def tC (v:V):TE:=fun _ H Q=>Q v H
theorem ziV {i:Nat}{x:Str}{pos:Pos}(hN:X.N[i]? =some x)(hv:Vis X.env.scope x)(hd:(x==("__debug__" :Str))=false:=by decide)(hcd:(x==("__classdict__" :Str))=false:=by decide):PE X (.Name x pos) (tVar i):=by
 intro pins s σ H Q I h
 obtain⟨v,e,h⟩:=h
 obtain⟨m,hn,hl⟩:=I.loc
 obtain⟨u,r,l⟩:=hl i x v hN e hv
 have fin:EP X pins σ Q u s:=⟨v,H,I,r,h⟩
 rcases l with⟨hk,hm⟩|⟨hk,c,hc,hcell⟩
 ·exact wpAny_Name (wpAny_loadName_local I.ok.kind hk hn hm fin) hd
 ·rcases hk with hk|hk
  ·exact wpAny_Name (wpAny_loadName_cell I.ok.kind hk hc hcell fin) hd
  ·exact wpAny_Name (wpAny_loadName_free I.ok.kind hk hc hcell fin hcd) hd
theorem zae {i j pos}:PE X (.Constant (.int i) j pos) (tC (.int i)):=fun _ _ _ H _ I h=>wpAny_Constant_int ⟨.int i,H,I.tok _,⟨_,rfl⟩,h⟩
theorem zfC {b j pos}:PE X (.Constant (.bool b) j pos) (tC (.bl b)):=fun _ _ _ H _ I h=>Constant_bool ⟨.bl b,H,I,rfl,h⟩
theorem zcB {x j pos}:PE X (.Constant (.str x) j pos) (tC (.str x)):=fun _ _ _ H _ I h=>Calls.Constant_str ⟨.str x,H,I.tok _,⟨_,rfl⟩,h⟩
noncomputable def Gl (X:Cx)(x:Str):Prop:=X.env.kindOf x=some .globalImplicit
theorem zee {E:Value->Shared->Prop}{pins:List (Addr×Obj)}{s:Shared}{σ:St}{H:Hp}{x:Str}{u:Value}{pos:Pos}{Q:Value->Shared->Prop}(I:Inv X pins σ H s)(hg:Gl X x)(hm:X.mg x=some u)(h:Q u s)
  (hd:(x==("__debug__" :Str))=false:=by decide):wpAny (model X.prog X.w) X.A (eval (.Name x pos) X.env) Q E s:=
 Calls.Name_function_global I.ok.kind hg (Calls.loadGlobal_global (by rw[I.ok.glob];exact I.mod.glob.keeps I.bk) hm h) hd
theorem zcf {E:Value->Shared->Prop}{pins:List (Addr×Obj)}{s:Shared}{σ:St}{H:Hp}{x:Str}{u:Value}{pos:Pos}{Q:Value->Shared->Prop}(I:Inv X pins σ H s)(hg:Gl X x)(hm:X.mg x=none)(hv:bootBuiltins x=some u)(h:Q u s)
  (hn:x≠ "__name__" :=by decide) (hd:(x==("__debug__" :Str))=false:=by decide):wpAny (model X.prog X.w) X.A (eval (.Name x pos) X.env) Q E s:=by
 obtain⟨mb,h1,h2⟩:=I.mod.blt
 exact Calls.Name_function_global I.ok.kind hg (Calls.loadGlobal_builtin (by rw[I.ok.glob];exact I.mod.glob.keeps I.bk) hm (by rw[I.ok.blt];exact h1.keeps I.bk) ((h2 x hn).trans hv) h) hd
theorem zef {x:Str}{v:V}{u:Value}{pos:Pos}(hg:Gl X x)(hm:X.mg x=some u)(r:RelV v u)(hd:(x==("__debug__" :Str))=false:=by decide):PE X (.Name x pos) (tC v):=
 fun _ _ _ H _ I h=>zee I hg hm ⟨v,H,I,r,h⟩ hd
theorem zbP {x:Str}{v:V}{u:Value}{pos:Pos}(hg:Gl X x)(hm:X.mg x=none)(hv:bootBuiltins x=some u)(r:RelV v u)(hn:x≠ "__name__" :=by decide)(hd:(x==("__debug__" :Str))=false:=by decide):PE X (.Name x pos) (tC v):=
 fun _ _ _ H _ I h=>zcf I hg hm hv ⟨v,H,I,r,h⟩ hn hd
variable {a b:Expr}{ta tb:TE}{pos:Pos}
noncomputable def PC (X:Cx)(op:CmpOp)(a b:Expr)(t:TE):Prop:=
 ∀(pins:List (Addr×Obj)) (s:Shared) (σ:St) (H:Hp) (Q:VK),Inv X pins σ H s->t σ H Q->
  wpAny (model X.prog X.w) X.A (eval a X.env) (fun v s₁=>wpAny (model X.prog X.w) X.A (eval b X.env) (fun u s₂=>wpAny (model X.prog X.w) X.A (compareOp op v u) (EP X pins σ Q) X.xe s₂) X.xe s₁) X.xe s
noncomputable def tB (t:TE):TT:=fun σ H Q=>t σ H fun x H1=>∃c,x=.bl c/\Q c H1
theorem ziW {op:CmpOp}{t:TE}(h:PC X op a b t)(h1:behindInMarks op b=false:=by first|exact nobehind _ (by decide) (by decide)|rfl):PE X (.Compare a [op] [b] pos) t:=fun pins s σ H Q I hw=>wpAny_Compare1 (h pins s σ H Q I hw) h1
theorem ziX {op:CmpOp}{t:TE}(h:PC X op a b t)(h1:behindInMarks op b=false:=by first|exact nobehind _ (by decide) (by decide)|rfl):PT X (.Compare a [op] [b] pos) (tB t):=by
 intro pins s σ H Q I hw
 refine wpAny_isTrue_Compare1 (thn (h pins s σ H _ I hw) fun v s1 h1=>thn h1 fun u s2 h2=>thn h2 fun c s3 zq=> ?_) h1
 obtain⟨x,H1,I1,r1,q1⟩:=zq
 obtain⟨d,rfl,q⟩:=q1
 cases r1
 exact wpAny_truthy_bool ⟨H1,I1,q⟩
theorem zeI {e:Expr}{t:TE}(h:PE X e t)(he:∀whole,isTrue e X.env whole=(do let v<-whole;standAt e.pos;holding [v] (truthy v)):=by intro _;rfl):PT X e (tB t):=by
 intro pins s σ H Q I hw
 refine isTrue_plain (thn (h pins s σ H _ I hw) fun v s1 zq=> ?_) (he _)
 obtain⟨x,H1,I1,r1,q1⟩:=zq
 obtain⟨d,rfl,q⟩:=q1
 cases r1
 exact wpAny_truthy_bool ⟨H1,I1,q⟩
variable {tA tB':TT}{rest:List Expr}
noncomputable def tAnd (t u:TT):TT:=fun σ H Q=>t σ H fun c H1=>if c=true then u σ H1 Q else Q false H1
noncomputable def tOr (t u:TT):TT:=fun σ H Q=>t σ H fun c H1=>if c=true then Q true H1 else u σ H1 Q
noncomputable def tNot (t:TT):TT:=fun σ H Q=>t σ H fun c H1=>Q (!c) H1
theorem zfD (ha:PT X a tA):PW X (.BoolOp .And [a] pos) tA:=by
 intro wh pins s σ H Q I h
 refine isTrue_and (thn (ha pins s σ H Q I h) fun c s1 e=> ?_)
 cases c with
 |true=>exact isTrue_and_nil e
 |false=>exact e
theorem ziY (ha:PT X a tA):PW X (.BoolOp .Or [a] pos) tA:=by
 intro wh pins s σ H Q I h
 refine isTrue_or (thn (ha pins s σ H Q I h) fun c s1 e=> ?_)
 cases c with
 |false=>exact isTrue_or_nil e
 |true=>exact e
theorem zhN (ha:PT X a tA)(hb:PW X (.BoolOp .And (b::rest) pos) tB'):PW X (.BoolOp .And (a::b::rest) pos) (tAnd tA tB'):=by
 intro wh pins s σ H Q I h
 refine isTrue_and (thn (ha pins s σ H _ I h) fun c s1 zq=> ?_)
 obtain⟨H1,I1,q1⟩:=zq
 cases c with
 |true=>exact hb wh pins s1 σ H1 Q I1 q1
 |false=>exact⟨H1,I1,q1⟩
theorem zjJ (ha:PT X a tA)(hb:PW X (.BoolOp .Or (b::rest) pos) tB'):PW X (.BoolOp .Or (a::b::rest) pos) (tOr tA tB'):=by
 intro wh pins s σ H Q I h
 refine isTrue_or (thn (ha pins s σ H _ I h) fun c s1 zq=> ?_)
 obtain⟨H1,I1,q1⟩:=zq
 cases c with
 |true=>exact⟨H1,I1,q1⟩
 |false=>exact hb wh pins s1 σ H1 Q I1 q1
theorem zhO (ha:PT X a tA):PT X (.UnaryOp .Not a pos) (tNot tA):=by
 intro pins s σ H Q I h
 exact isTrue_not (ha pins s σ H (fun c H1=>Q (!c) H1) I h)
noncomputable def zjK (ta tb:TE):TE:=fun σ H Q=>ta σ H fun x H1=>∃c,x=.bl c/\if c=true then tb σ H1 Q else Q (.bl false) H1
noncomputable def zjL (ta:TE):TE:=fun σ H Q=>ta σ H fun x H1=>∃c,x=.bl c/\Q (.bl (!c)) H1
theorem zhP {op}{t:TE}(h:PE X a t):PE X (.BoolOp op [a] pos) t:=fun pins s σ H Q I hw=>BoolOp_one (h pins s σ H Q I hw)
theorem zeJ (ha:PE X a ta)(hb:PE X (.BoolOp .And (b::rest) pos) tb):PE X (.BoolOp .And (a::b::rest) pos) (zjK ta tb):=by
 intro pins s σ H Q I h
 refine BoolOp_and (thn (ha pins s σ H _ I h) fun v s1 zq=> ?_)
 obtain⟨x,H1,I1,r1,q1⟩:=zq
 obtain⟨c,rfl,q1⟩:=q1
 cases r1
 refine wpAny_truthy_bool ?_
 cases c with
 |true=>exact hb pins s1 σ H1 Q I1 q1
 |false=>exact⟨.bl false,H1,I1,rfl,q1⟩
theorem zhQ (ha:PE X a ta):PE X (.UnaryOp .Not a pos) (zjL ta):=by
 intro pins s σ H Q I h
 refine UnaryOp_ (thn (ha pins s σ H _ I h) fun v s1 zq=> ?_)
 obtain⟨x,H1,I1,r1,q1⟩:=zq
 obtain⟨c,rfl,q1⟩:=q1
 cases r1
 exact not_of (wpAny_truthy_bool ⟨.bl (!c),H1,I1,rfl,q1⟩)
noncomputable def tIf (t:TT)(ta tb:TE):TE:=fun σ H Q=>t σ H fun c H1=>if c=true then ta σ H1 Q else tb σ H1 Q
theorem zgQ {c:Expr}(hc:PT X c tA)(ha:PE X a ta)(hb:PE X b tb):PE X (.IfExp c a b pos) (tIf tA ta tb):=by
 intro pins s σ H Q I h
 refine wpAny_IfExp (thn (hc pins s σ H _ I h) fun d s1 zq=> ?_)
 obtain⟨H1,I1,q1⟩:=zq
 cases d with
 |true=>exact ha pins s1 σ H1 Q I1 q1
 |false=>exact hb pins s1 σ H1 Q I1 q1
end
noncomputable def SqL (K:PySem.W.Frag)(H:Hp)(a:Addr)(xs:List V):Prop:=
 Rd H a (.lst xs)∨
  ∃(o:Obj) (its:Array Value) (n:Nat),K.lookup a=some o/\o.cls=.type "list" /\o.dict=none/\o.data=.seq its n/\its.size<=sizeLine/\Vals xs its.toList
noncomputable def SqT (K:PySem.W.Frag)(H:Hp)(a:Addr)(xs:List V):Prop:=
 Rd H a (.tup xs)∨
  ∃(o:Obj) (its:Array Value) (n:Nat),K.lookup a=some o/\o.cls=.type "tuple" /\o.data=.seq its n/\its.size<=sizeLine/\Vals xs its.toList
noncomputable def absV:Value->Option V
 | .none=>some .non
 | .bool b=>some (.bl b)
 | .int i _=>some (.int i)
 | .str x _=>some (.str x)
 | .bytes b _=>some (.byt b)
 | .float b _=>some (.flt b)
 | .ref a=>some (.ref a)
 | .type n=>some (.ty n)
 |_=>none
theorem RelV.abs {x:V}{u:Value}(r:RelV x u):absV u=some x:=by
 cases x with
 |non=>cases r;rfl
 |bl _=>cases r;rfl
 |int _=>obtain⟨t,rfl⟩:=r;rfl
 |str _=>obtain⟨t,rfl⟩:=r;rfl
 |byt _=>obtain⟨t,rfl⟩:=r;rfl
 |flt _=>obtain⟨t,rfl⟩:=r;rfl
 |ref _=>cases r;rfl
 |ty _=>cases r;rfl
theorem RelV.inj {x y:V}{u:Value}(r:RelV x u)(q:RelV y u):x=y:=Option.some.inj (r.abs.symm.trans q.abs)
theorem Vals.inj:∀{xs ys:List V} {us:List Value},Vals xs us->Vals ys us->xs=ys
 |_,_,_,.nil,.nil=>rfl
 |_,_,_,.cons r t,.cons r' t'=>by rw[r.inj r',Vals.inj t t']
section
variable {X:Cx}{pins:List (Addr×Obj)}{σ:St}{H:Hp}{s:Shared}{a:Addr}{xs ys:List V}
theorem SqL.of {K:PySem.W.Frag}(h:H a=some (.lst xs)):SqL K H a xs:=.inl (.inl h)
theorem SqT.of {K:PySem.W.Frag}(h:H a=some (.tup xs)):SqT K H a xs:=.inl (.inl h)
theorem Inv.list (I:Inv X pins σ H s)(h:SqL X.K H a xs):∃its:List Value,Vals xs its/\PlainL s.heap a its.toArray/\xs.length<=sizeLine:=by
 rcases h with h|⟨o,its,n,hk,hc,hd,hs,hz,r⟩
 ·obtain ⟨z,its,n,r,e⟩:=h.ok I.hok
  exact⟨its,r,⟨_,n,e,rfl,rfl,rfl⟩,z⟩
 ·refine ⟨its.toList,r,⟨o,n,I.kIn a o hk,hc,hd,by simpa using hs⟩, ?_⟩
  have e:=r.length
  simp only[Array.length_toList] at e
  (first|lia|omega)
theorem Inv.tuple (I:Inv X pins σ H s)(h:SqT X.K H a xs):∃its:List Value,Vals xs its/\IsTup s.heap a its.toArray/\xs.length<=sizeLine:=by
 rcases h with h|⟨o,its,n,hk,hc,hs,hz,r⟩
 ·obtain ⟨z,its,r,p⟩:=h.ok I.hok
  exact⟨its,r,p.tup,z⟩
 ·refine ⟨its.toList,r,⟨o,I.kIn a o hk,hc,n,by simpa using hs⟩, ?_⟩
  have e:=r.length
  simp only[Array.length_toList] at e
  (first|lia|omega)
theorem Inv.list_inj (I:Inv X pins σ H s)(h:SqL X.K H a xs)(h':SqL X.K H a ys):xs=ys:=by
 obtain⟨its,r,⟨o,n,e,_,_,d⟩,_⟩:=I.list h
 obtain⟨its',r',⟨o',n',e',_,_,d'⟩,_⟩:=I.list h'
 rw[e] at e';cases e'
 rw[d] at d'
 injection d' with d1 _
 have:its=its':=by simpa using congrArg Array.toList d1
 subst this
 exact r.inj r'
theorem Inv.tuple_inj (I:Inv X pins σ H s)(h:SqT X.K H a xs)(h':SqT X.K H a ys):xs=ys:=by
 obtain⟨its,r,⟨o,e,_,n,d⟩,_⟩:=I.tuple h
 obtain⟨its',r',⟨o',e',_,n',d'⟩,_⟩:=I.tuple h'
 rw[e] at e';cases e'
 rw[d] at d'
 injection d' with d1 _
 have:its=its':=by simpa using congrArg Array.toList d1
 subst this
 exact r.inj r'
end
noncomputable abbrev Cx.wish (X:Cx)(E:Value->Shared->Prop):Cx:={X with xe:=E}
noncomputable abbrev Cx.nox (X:Cx):Cx:=X.wish fun _ _=>False
theorem Cx.Ok.wish {X:Cx}(ok:X.Ok)(E:Value->Shared->Prop):(X.wish E).Ok:=
 ⟨ok.mod,ok.kind,ok.glob,ok.blt,ok.above,ok.inj,ok.has,ok.cab,ok.hd,ok.frames,ok.stk,ok.exf,ok.bs,ok.bsz,ok.noex,ok.exfs,ok.funs,ok.frf⟩
theorem Cx.Ok.unwish {X:Cx}{E:Value->Shared->Prop}(ok:(X.wish E).Ok):X.Ok:=
 ⟨ok.mod,ok.kind,ok.glob,ok.blt,ok.above,ok.inj,ok.has,ok.cab,ok.hd,ok.frames,ok.stk,ok.exf,ok.bs,ok.bsz,ok.noex,ok.exfs,ok.funs,ok.frf⟩
section
variable {X:Cx}{pins:List (Addr×Obj)}{σ:St}{H:Hp}{s:Shared}{E:Value->Shared->Prop}
theorem Inv.wish (I:Inv X pins σ H s)(E:Value->Shared->Prop):Inv (X.wish E) pins σ H s:=⟨I.ok.wish E,I.os,I.bare,I.base,I.loc,I.cell,I.free,I.freeC,I.pin,I.hok,I.len⟩
theorem Inv.unwish (I:Inv (X.wish E) pins σ H s):Inv X pins σ H s:=⟨I.ok.unwish,I.os,I.bare,I.base,I.loc,I.cell,I.free,I.freeC,I.pin,I.hok,I.len⟩
theorem SP.unwish {D:Ends}{f:Flow}{s':Shared}(h:SP (X.wish E) pins D f s'):SP X pins D f s':=by
 cases f with
 |next=>obtain⟨σ',H',I,q⟩:=h;exact⟨σ',H',I.unwish,q⟩
 |brk=>obtain⟨σ',H',I,q⟩:=h;exact⟨σ',H',I.unwish,q⟩
 |cont=>obtain⟨σ',H',I,q⟩:=h;exact⟨σ',H',I.unwish,q⟩
 |ret u=>obtain⟨v,σ',H',I,r,q⟩:=h;exact⟨v,σ',H',I.unwish,r,q⟩
theorem PSs.nox {st:List Stmt}{t:TS}(h:PSs X.nox st t):PSs X st t:=fun pins s σ H D I hw=>
 wpAny_mono (h pins s σ H D (I.wish _) hw) (fun _ _ q=>q.unwish) fun _ _ z=>False.elim z
end
section
variable {X:Cx}{st:Stmt}{rest:List Stmt}{t u:TS}{e:Expr}{te:TE}{pos:Pos}
noncomputable def zjM:TS:=fun D σ H=>D.nx σ H
noncomputable def tSeq (t u:TS):TS:=fun D σ H=>t {D with nx:=u D} σ H
theorem zbl:PSs X [] zjM:=fun _ _ σ H _ I h=>wpAny_execs_nil ⟨σ,H,I,h⟩
theorem zag (h1:PS X st t)(h2:PSs X rest u):PSs X (st::rest) (tSeq t u):=by
 intro pins s σ H D I h
 refine wpAny_execs_cons (thn (h1 pins s σ H {D with nx:=u D} I h) fun f s1 q=> ?_)
 cases f with
 |next=>
  obtain⟨σ',H',I',q⟩:=q
  exact h2 pins s1 σ' H' D I' q
 |ret v=>exact q
 |brk=>exact q
 |cont=>exact q
theorem zai (h1:PS X st t):PSs X [st] t:=by
 intro pins s σ H D I h
 refine wpAny_execs_cons (thn (h1 pins s σ H D I h) fun f s1 q=> ?_)
 cases f with
 |next=>exact wpAny_execs_nil q
 |ret v=>exact q
 |brk=>exact q
 |cont=>exact q
theorem Inv.quiet {pins:List (Addr×Obj)}{σ:St}{H:Hp}{s:Shared}(I:Inv X pins σ H s):interactive X.env=false:=by simp[interactive,I.ok.kind]
noncomputable def zjN (te:TE):TS:=fun D σ H=>te σ H fun _ H1=>D.nx σ H1
theorem zc6 (he:PE X e te)(hs:swapsWith e none pos.line X.env=pure false:=by rfl):PS X (.Expr e pos) (zjN te):=by
 intro pins s σ H D I h
 exact wpAny_Expr_any (thn (he pins s σ H _ I h) fun v s1 ⟨x,H1,I1,r1,q1⟩=>⟨σ,H1,I1,q1⟩) I.quiet hs
noncomputable def tRet (te:TE):TS:=fun D σ H=>te σ H D.rt
theorem zan (he:PE X e te):PS X (.Return (some e) pos) (tRet te):=by
 intro pins s σ H D I h
 exact wpAny_Return_some (thn (he pins s σ H _ I h) fun v s1 ⟨x,H1,I1,r1,q1⟩=>⟨x,σ,H1,I1,r1,q1⟩)
noncomputable def tIfS (c:TT)(t u:TS):TS:=fun D σ H=>c σ H fun b H1=>if b=true then t D σ H1 else u D σ H1
theorem zcT {c:Expr}{a b:List Stmt}{tc:TT}(hc:PT X c tc)(ha:PSs X a t)(hb:PSs X b u):PS X (.If c a b pos) (tIfS tc t u):=by
 intro pins s σ H D I h
 refine wpAny_If (thn (hc pins s σ H _ I h) fun d s1 zq=> ?_)
 obtain⟨H1,I1,q1⟩:=zq
 cases d with
 |true=>exact ha pins s1 σ H1 D I1 q1
 |false=>exact hb pins s1 σ H1 D I1 q1
noncomputable def ziZ:TS:=fun _ _ _=>False
theorem zdJ {sts:List Stmt}:PSs X sts ziZ:=fun _ _ _ _ _ _ h=>h.elim
end
noncomputable abbrev TG:=V->St->Hp->(St->Hp->Prop)->Prop
noncomputable abbrev TGs:=List V->St->Hp->(St->Hp->Prop)->Prop
noncomputable def PG (X:Cx)(target:Expr)(t:TG):Prop:=
 ∀(pins:List (Addr×Obj)) (s:Shared) (σ:St) (H:Hp) (v:V) (u:Value) (Q:St->Hp->Prop),Inv X pins σ H s->RelV v u->t v σ H Q->
  wpAny (model X.prog X.w) X.A (assign target X.env u) (fun _ s'=>∃σ' H',Inv X pins σ' H' s'/\Q σ' H') X.xe s
noncomputable def PGs (X:Cx)(ts:List Expr)(t:TGs):Prop:=
 ∀(pins:List (Addr×Obj)) (s:Shared) (σ:St) (H:Hp) (vs:List V) (us:List Value) (Q:St->Hp->Prop),Inv X pins σ H s->Vals vs us->t vs σ H Q->
  wpAny (model X.prog X.w) X.A (assignInOrder ((assignEach ts X.env).map (·.2)) us) (fun _ s'=>∃σ' H',Inv X pins σ' H' s'/\Q σ' H') X.xe s
noncomputable abbrev TSet:=V->V->V->Hp->(Hp->Prop)->Prop
noncomputable def PSet (X:Cx)(t:TSet):Prop:=
 ∀(pins:List (Addr×Obj)) (s:Shared) (σ:St) (H:Hp) (o i v:V) (ov iv u:Value) (Q:Hp->Prop),Inv X pins σ H s->RelV o ov->RelV i iv->RelV v u->t o i v H Q->
  wpAny (model X.prog X.w) X.A (setItem ov iv u) (fun _ s'=>∃H',Inv X pins σ H' s'/\Q H') X.xe s
section
variable {X:Cx}{pos:Pos}
noncomputable def zaT (i:Nat):TG:=fun v σ H Q=>Q (σ.set i (some v)) H
theorem zak {i:Nat}{x:Str}(hN:X.N.Nodup)(hi:X.N[i]? =some x)(hx:Loc X.env.scope x)(hf:X.fn x=true∨X.env.scope.names.lookup x=some .local:=by first|exact .inl rfl|exact .inr rfl|assumption):PG X (.Name x pos) (zaT i):=by
 intro pins s σ H v u Q I r h
 exact wpAny_assign_Name (zcr I hN hi hx r (fun s' I'=>⟨_,H,I',h⟩) hf)
noncomputable def gNil:TGs:=fun vs σ H Q=>vs=[]/\Q σ H
noncomputable def zbo (t:TG)(u:TGs):TGs:=fun vs σ H Q=>∃v r,vs=v::r/\t v σ H fun σ' H'=>u r σ' H' Q
theorem zbp:PGs X [] gNil:=by
 intro pins s σ H vs us Q I r h
 obtain⟨e,h⟩:=h
 subst e
 cases r
 exact assignInOrder_nil ⟨σ,H,I,h⟩
theorem zar {e:Expr}{es:List Expr}{t:TG}{u:TGs}(h1:PG X e t)(h2:PGs X es u)
  (hs:(assignEach (e::es) X.env).map (·.2)=assign e X.env::(assignEach es X.env).map (·.2):=by rfl):PGs X (e::es) (zbo t u):=by
 intro pins s σ H vs us Q I r h
 obtain⟨v,vr,e1,h⟩:=h
 subst e1
 cases r with
 |cons r rr=>
  rw[hs]
  refine assignInOrder_cons (thn (h1 pins s σ H _ _ _ I r h) fun _ s1 zq=> ?_)
  obtain⟨σ1,H1,I1,q1⟩:=zq
  exact h2 pins s1 σ1 H1 _ _ Q I1 rr q1
noncomputable def gTup (K:PySem.W.Frag)(n:Nat)(t:TGs):TG:=fun v σ H Q=>∃a xs,v=.ref a/\SqT K H a xs/\xs.length=n/\t xs σ H Q
theorem zbW {es:List Expr}{k:Nat}{t:TGs}{n:Nat}(hc:X.calm=true)(h:PGs X es t)
  (hn:(assignEach es X.env).length=n:=by rfl) (hst:(assignEach es X.env).findIdx? (·.1)=none:=by rfl):PG X (.Tuple es k pos) (gTup X.K n t):=by
 intro pins s σ H v u Q I r hw
 obtain⟨a,xs,e1,hq,hl,hw⟩:=hw
 subst e1
 cases r
 obtain⟨its,rv,ht,hz⟩:=I.tuple hq
 refine assign_Tuple_tuple (I.ok.hd hc) ht (by simp[hn,<-hl,rv.length]) hst fun h' hx=> ?_
 have I1:Inv X pins σ H {s with heap:=h'}:=I.kept (t':=s.toks) fun b o e=>hx b o (Nat.ne_of_lt (Heap.lt_size e)) e
 exact h pins _ σ H xs _ Q I1 (by simpa using rv) hw
noncomputable def gSub (to ti:TE)(t:TSet):TG:=fun v σ H Q=>to σ H fun o H1=>ti σ H1 fun i H2=>t o i v H2 fun H3=>Q σ H3
theorem zeK {o i:Expr}{to ti:TE}{t:TSet}(ho:PE X o to)(hi:PE X i ti)(hs:PSet X t)
  (ha:∀v,assign (.Subscript o i pos) X.env v=(do
   let ov<-holding [v] (eval o X.env)
   let iv<-holding [v,ov] (eval i X.env)
   standAt pos
   holding [v,ov,iv] (setItem ov iv v)
   release [v,ov,iv] []):=by intro _;rfl):PG X (.Subscript o i pos) (gSub to ti t):=by
 intro pins s σ H v u Q I r h
 rw[ha]
 refine wpAny_bind (wpAny_holding (thn (ho pins s σ H _ I h) fun ov s1 zq=> ?_))
 obtain⟨x,H1,I1,r1,q1⟩:=zq
 refine wpAny_bind (wpAny_holding (thn (hi pins s1 σ H1 _ I1 q1) fun iv s2 zq=> ?_))
 obtain⟨y,H2,I2,r2,q2⟩:=zq
 refine wpAny_bind (wpAny_standAt (wpAny_bind (wpAny_holding (thn (hs pins s2 σ H2 x y v ov iv u _ I2 r1 r2 r q2) fun _ s3 zq=> ?_))))
 obtain⟨H3,I3,q3⟩:=zq
 exact wpAny_release ⟨σ,H3,I3,q3⟩
noncomputable def tAsg (te:TE)(g:TG):TS:=fun D σ H=>te σ H fun x H1=>g x σ H1 D.nx
theorem zcC {tg e:Expr}{te:TE}{g:TG}(he:PE X e te)(hg:PG X tg g)(hs:swapsWithSole [tg] e pos.line X.env=pure false:=by rfl)(hw:swappedStores [tg] e X.env=pure none:=by rfl)
  (h1:(assignEach [tg] X.env).map (·.2)=[assign tg X.env]:=by rfl):PS X (.Assign [tg] e pos) (tAsg te g):=by
 intro pins s σ H D I h
 refine wpAny_Assign_stores (thn (he pins s σ H _ I h) fun v s1 zq=> ?_) hs hw
 obtain⟨x,H1,I1,r1,q1⟩:=zq
 rw[h1]
 exact thn (hg pins s1 σ H1 x v _ I1 r1 q1) fun _ s2 q=>q
theorem zaq {i:Nat}{x:Str}{e:Expr}{te:TE}{pos':Pos}(hN:X.N.Nodup)(hi:X.N[i]? =some x)(hx:Loc X.env.scope x)(he:PE X e te)(hs:swapsWith e (some (.Name x pos')) pos.line X.env=pure false:=by rfl)(hf:X.fn x=true∨X.env.scope.names.lookup x=some .local:=by first|exact .inl rfl|exact .inr rfl|assumption):
  PS X (.Assign [.Name x pos'] e pos) (tAsg te (zaT i)):=by
 intro pins s σ H D I h
 refine wpAny_Assign_Name (thn (he pins s σ H _ I h) fun v s1 zq=> ?_) hs
 obtain⟨y,H1,I1,r1,q1⟩:=zq
 exact zcr I1 hN hi hx r1 (fun s2 I2=>⟨_,H1,I2,q1⟩) hf
noncomputable def tPar (i j:Nat)(ta:TA):TS:=fun D σ H=>ta σ H fun vs H1=>∃v w,vs=[v,w]/\D.nx ((σ.set i (some v)).set j (some w)) H1
theorem zcD {i j:Nat}{x y:Str}{a b:Expr}{ta:TA}{px py pt:Pos}{kt k2 pt2}(hc:X.calm=true)(hN:X.N.Nodup)(hi:X.N[i]? =some x)(hj:X.N[j]? =some y)(hij:i≠j)
  (hx:X.env.scope.names.lookup x=some .local) (hy:X.env.scope.names.lookup y=some .local) (ha:PA X [a,b] ta)
  (hw:swappedStores [.Tuple [.Name x px,.Name y py] kt pt] (.Tuple [a,b] k2 pt2) X.env=pure (some [x,y]))
  (hs:swapsWithSole [.Tuple [.Name x px,.Name y py] kt pt] (.Tuple [a,b] k2 pt2) pos.line X.env=pure false:=by rfl):
  PS X (.Assign [.Tuple [.Name x px,.Name y py] kt pt] (.Tuple [a,b] k2 pt2) pos) (tPar i j ta):=by
 intro pins s σ H D I h
 rw[exec_Assign_arm]
 refine wpAny_bind (wpAny_standAt ?_)
 rw[hs]
 refine wpAny_bind (wpAny_pure ?_)
 rw[if_neg (by decide)]
 refine wpAny_bind (Tuple_ (thn (ha _ pins s σ H _ I h) fun us s1 zq=> ?_))
 obtain⟨vs,H1,I1,r1,q1⟩:=zq
 obtain⟨v,w,e1,q1⟩:=q1
 subst e1
 obtain⟨u1,u2,rfl,rv,rw'⟩:∃u1 u2,us=[u1,u2]/\RelV v u1/\RelV w u2:=by
  cases r1 with
  | cons p q=>
   cases q with
   |cons p' q'=>
    cases q'
    exact⟨_,_,rfl,p,p'⟩
 refine wpAny_newObj_type ?_ (by show 2<=sizeLine;decide)
 have I2:Inv X pins σ H1 {s1 with heap:=s1.heap.push {cls:=.type "tuple",data:=.seq [u1,u2].toArray}}:=I1.kept (t':=s1.toks) fun b o e=>Heap.get?_push_of_some _ e
 rw[hw]
 refine wpAny_bind (wpAny_pure ?_)
 show wpAny (model X.prog X.w) X.A (do rule "assign.swapped-stores";let items<-unpackItems (.ref s1.heap.objs.size) 2 none;assignInOrder [fun v=>bindName X.env y v,fun v=>bindName X.env x v] items.reverse;pure Flow.next) _ _ _
 refine wpAny_bind (wpAny_rule (wpAny_bind (unpackItems_tuple (items:=#[u1,u2]) (I.ok.hd hc) (IsTup.new s1.heap _) fun h' hx'=> ?_)))
 have I3:=I2.kept (h':=h') (t':=s1.toks) fun b o e=>hx' b o (Nat.ne_of_lt (Heap.lt_size e)) e
 show wpAny _ _ (assignInOrder [fun v=>bindName X.env y v,fun v=>bindName X.env x v] [u2,u1] >>= fun _=>pure Flow.next) _ _ _
 refine wpAny_bind (assignInOrder_cons (wpAny_bindName (zcr I3 hN hj (.inl hy) rw' (fun s2 I4=> ?_) (.inr hy))))
 refine assignInOrder_cons (wpAny_bindName (zcr I4 hN hi (.inl hx) rv (fun s3 I5=>assignInOrder_nil (wpAny_pure ?_)) (.inr hx)))
 rw[List.set_comm _ _ (Ne.symm hij)] at I5
 exact⟨_,H1,I5,q1⟩
noncomputable def zi0 (c:TT)(tb:TS):TS:=fun D σ H=>∃W:Nat->St->Hp->Prop,(∃m,W m σ H)/\∀m σ H,W m σ H->
 c σ H fun b H1=>if b=true then ∃N:St->Hp->Prop,(∀σ' H',N σ' H'->∃m',m'<m/\W m' σ' H')/\tb {D with nx:=N,ct:=N,bk:=D.nx} σ H1 else D.nx σ H1
theorem zcs {c:Expr}{body:List Stmt}{tc:TT}{tb:TS}(hp:PassesOwn (model X.prog X.w) X.A X.env X.xe)(hc:PT X c tc)(hb:PSs X body tb):PS X (.While c body [] pos) (zi0 tc tb):=by
 intro pins s σ H D I h
 obtain⟨W,⟨m0,w0⟩,turn⟩:=h
 refine wpAny_While (codeAny_whileLoop (fun n s'=>∃σ' H',Inv X pins σ' H' s'/\W n σ' H') ?_ m0 ⟨σ,H,I,w0⟩)
 rintro n s1 ⟨σ1,H1,I1,w1⟩
 refine wpAny_passesOwn hp (thn (hc pins s1 σ1 H1 _ I1 (turn n σ1 H1 w1)) fun b s2 zq=> ?_)
 obtain⟨H2,I2,q2⟩:=zq
 cases b with
 | true=>
  obtain⟨N,hN,q2⟩:=q2
  rw[if_pos rfl]
  refine wpAny_passesOwn hp (thn (hb pins s2 σ1 H2 _ I2 q2) fun f s3 q3=> ?_)
  cases f with
  |next=>
   obtain⟨σ3,H3,I3,n3⟩:=q3
   obtain⟨m',hm,w3⟩:=hN σ3 H3 n3
   exact⟨m',hm,σ3,H3,I3,w3⟩
  |cont=>
   obtain⟨σ3,H3,I3,n3⟩:=q3
   obtain⟨m',hm,w3⟩:=hN σ3 H3 n3
   exact⟨m',hm,σ3,H3,I3,w3⟩
  |brk=>exact q3
  |ret v=>exact q3
 |false=>
  rw[if_neg Bool.false_ne_true]
  exact wpAny_execs_nil ⟨σ1,H2,I2,q2⟩
end
structure It where
 go:Nat->Hp->Prop
 yld:Nat->Hp->V->Hp->Prop
 stop:Nat->Hp->Prop
noncomputable def FpOk (X:Cx)(pins:List (Addr×Obj))(H:Hp)(b:Addr):Prop:=
 H b=none/\b≠X.env.locals/\b∉X.fs/\(b∈X.ex∨X.s₀.heap.objs.size<=b)/\(∀x c,X.env.cells.lookup x=some c->c≠b)/\∀p∈X.pn++pins,p.1≠b
theorem Inv.fpOk {X:Cx}{pins:List (Addr×Obj)}{σ:St}{H H':Hp}{s:Shared}{b:Addr}(I:Inv X pins σ H s)(hb:s.heap.objs.size<=b)(hn:H' b=none):FpOk X pins H' b:=by
 refine⟨hn,Nat.ne_of_gt (Nat.lt_of_lt_of_le I.lt hb),I.nofs hb,.inr (Nat.le_trans I.sz hb),fun x c e z=> ?_,fun p hp z=> ?_⟩
 ·obtain ⟨v,q⟩:=I.cell x c e
  exact absurd (Nat.lt_of_lt_of_le q.lt (by rw[z];exact hb)) (Nat.lt_irrefl _)
 ·exact absurd (Nat.lt_of_lt_of_le (Heap.lt_size (I.pin p hp).1) (by rw[z];exact hb)) (Nat.lt_irrefl _)
structure Turn (P:Program) (w:World) (K:PySem.W.Frag) (tg:Expr) (J:It) (fp:List Addr) (it:Addr) (tn:Nat->Heap->Prop):Prop where
 mem:it∈fp
 obj:∀i h,tn i h->∀b∈fp,∃o,h.get? b=some o/\∀v,o.data≠.cell v
 keep:∀i h h',tn i h->(∀b∈fp,∀o,h.get? b=some o->h'.get? b=some o)->tn i h'
 item:∀(X:Cx),X.prog=P->X.w=w->X.K=K->X.calm=true->∀(i:Nat) (pins:List (Addr×Obj)) (s:Shared) (σ:St) (H:Hp) (E:Value->Shared->Prop),Inv X pins σ H s->(∀b∈fp,FpOk X pins H b)->tn i s.heap->J.go i H->
  wpAny (model P w) X.A (pyNext (.ref it)) (fun r s1=>∃u,r=some u/\
   wpAny (model P w) X.A (letOwnedTupleGo tg (.ref it) u) (fun _ s2=>∃x H',Inv X pins σ H' s2/\RelV x u/\J.yld i H x H'/\tn (i+1) s2.heap/\∀b∈fp,H' b=none) E s1) E s
 done:∀(X:Cx),X.prog=P->X.w=w->X.K=K->X.calm=true->∀(i:Nat) (pins:List (Addr×Obj)) (s:Shared) (σ:St) (H:Hp) (E:Value->Shared->Prop),Inv X pins σ H s->(∀b∈fp,FpOk X pins H b)->tn i s.heap->J.stop i H->
  wpAny (model P w) X.A (pyNext (.ref it)) (fun r s1=>r=none/\Inv X pins σ H s1) E s
 self:∀(A:Around) (i:Nat) (s:Shared) (Q:Value->Shared->Prop) (E:Value->Shared->Prop),tn i s.heap->Q (.ref it) s->wpAny (model P w) A (pyIter (.ref it)) Q E s
noncomputable abbrev TI:=St->Hp->(It->Hp->Prop)->Prop
noncomputable def PIE (X:Cx)(pins:List (Addr×Obj))(σ:St)(tg:Expr)(R:It->Hp->Prop)(itv:Value)(s2:Shared):Prop:=
 ∃(it:Addr) (fp:List Addr) (tn:Nat->Heap->Prop) (J:It) (H':Hp),itv=.ref it/\Inv X pins σ H' s2/\Turn X.prog X.w X.K tg J fp it tn/\tn 0 s2.heap/\(∀b∈fp,FpOk X pins H' b)/\R J H'
noncomputable def PI (X:Cx)(tg iter:Expr)(wi:TI):Prop:=
 ∀(pins:List (Addr×Obj)) (s:Shared) (σ:St) (H:Hp) (R:It->Hp->Prop),Inv X pins σ H s->wi σ H R->
  wpAny (model X.prog X.w) X.A (eval iter X.env) (fun v s1=>wpAny (model X.prog X.w) X.A (pyIter v) (PIE X pins σ tg R) X.xe s1) X.xe s
theorem zh5 {M:Model}{A:Around}{E:Value->Shared->Prop}{s:Shared}{tg:Expr}{it:Addr}{u:Value}{o:Obj}{n:String}{vs:Array Value}{Q:Unit->Shared->Prop}(ho:s.heap.get? it=some o)(hc:o.cls=.type n)(hd:o.data=.fields vs)
    (hn:["enumerate", "zip", "dict_itemiterator", "dict_reverseitemiterator", "odict_iterator", "itertools.zip_longest", "itertools.pairwise"].contains n=false) (hQ:Q () s):wpAny M A (letOwnedTupleGo tg (.ref it) u) Q E s:=by
  unfold letOwnedTupleGo
  cases tg <;>first
    |exact wpAny_pure hQ
    |(cases u<;>first
        |exact wpAny_pure hQ
        | (refine wpAny_bind (wpAny_load ho ?_)
           rw[hc,hd]
           show wpAny M A (if (["enumerate", "zip", "dict_itemiterator", "dict_reverseitemiterator", "odict_iterator", "itertools.zip_longest", "itertools.pairwise"].contains n&&vs[0]? ==some (rawInt _))=true then _ else _) Q E s
           rw[if_neg (by intro h;rw[hn,Bool.false_and] at h;cases h)]
           exact wpAny_pure hQ))
noncomputable def Itl (K:PySem.W.Frag)(a:Addr):It:=
 ⟨fun i H=>∃xs x,SqL K H a xs/\xs[i]? =some x,fun i H x H'=>H'=H/\∀xs,SqL K H a xs->xs[i]? =some x,fun i H=>∃xs,SqL K H a xs/\xs.length<=i⟩
noncomputable def Itt (K:PySem.W.Frag)(a:Addr):It:=
 ⟨fun i H=>∃xs x,SqT K H a xs/\xs[i]? =some x,fun i H x H'=>H'=H/\∀xs,SqT K H a xs->xs[i]? =some x,fun i H=>∃xs,SqT K H a xs/\xs.length<=i⟩
noncomputable def Itr (lo:Int)(n:Nat):It:=⟨fun i _=>i<n,fun i H x H'=>H'=H/\x=.int (lo+i),fun i _=>n<=i⟩
theorem zfE {P:Program}{w:World}{K:PySem.W.Frag}{tg:Expr}(a it:Addr):Turn P w K tg (Itl K a) [it] it (fun i h=>h.IsListIter it a i) where
 mem:=by simp
 obj:=fun i h st b hb=>by
  have e:b=it:=by simpa using hb
  subst e
  obtain⟨o,e,c,d⟩:=st
  exact⟨o,e,fun v z=>by rw[d] at z;cases z⟩
 keep:=fun i h h' st k=>st.at fun o e=>k it (by simp) o e
 item:=by
  intro X hP hw hK hc i pins s σ H E I hf st hg
  subst hP hw hK
  obtain⟨xs,x,hq,hx⟩:=hg
  obtain⟨its,rv,p,hz⟩:=I.list hq
  obtain⟨u,hu,ru⟩:=rv.get hx
  obtain⟨f0,f1,f2,f3,f4,f5⟩:=hf it (by simp)
  refine wpAny_pyNext_list_item st p.isList (x:=u) (by simpa using hu) fun h' st' sb=> ?_
  have I1:Inv X pins σ H {s with heap:=h'}:=I.turned (t':=s.toks) (fun b o hb e=>(sb.2 b hb).trans e) f0 f1 f3 f4 f5
  obtain⟨o,e,c,d⟩:=id st'
  exact⟨u,rfl,zh5 (s:={s with heap:=h'}) e c d (by decide) ⟨x,H,I1,ru,⟨rfl,fun ys hy=>by rw[I.list_inj hy hq];exact hx⟩,st',fun b hb=>(hf b hb).1⟩⟩
 done:=by
  intro X hP hw hK hc i pins s σ H E I hf st hg
  subst hP hw hK
  obtain⟨xs,hq,hx⟩:=hg
  obtain⟨its,rv,p,hz⟩:=I.list hq
  obtain⟨f0,f1,f2,f3,f4,f5⟩:=hf it (by simp)
  have hl:=rv.length
  exact wpAny_pyNext_list_end (I.ok.hd hc) st p.isList (by simp;(first|lia|omega)) fun h' eb=>⟨rfl,I.turned (t':=s.toks) (fun b o hb e=>eb b o hb e) f0 f1 f3 f4 f5⟩
 self:=fun _ _ _ _ _ st h=>wpAny_pyIter_listiter st h
theorem zfe {P:Program}{w:World}{K:PySem.W.Frag}{tg:Expr}(a it:Addr):Turn P w K tg (Itt K a) [it] it (fun i h=>h.IsTupleIter it a i) where
 mem:=by simp
 obj:=fun i h st b hb=>by
  have e:b=it:=by simpa using hb
  subst e
  obtain⟨o,e,c,d⟩:=st
  exact⟨o,e,fun v z=>by rw[d] at z;cases z⟩
 keep:=fun i h h' st k=>st.at fun o e=>k it (by simp) o e
 item:=by
  intro X hP hw hK hc i pins s σ H E I hf st hg
  subst hP hw hK
  obtain⟨xs,x,hq,hx⟩:=hg
  obtain⟨its,rv,p,hz⟩:=I.tuple hq
  obtain⟨u,hu,ru⟩:=rv.get hx
  obtain⟨f0,f1,f2,f3,f4,f5⟩:=hf it (by simp)
  refine wpAny_pyNext_tuple_item st (show s.heap.IsTuple a its.toArray from p) (x:=u) (by simpa using hu) fun h' st' sb=> ?_
  have I1:Inv X pins σ H {s with heap:=h'}:=I.turned (t':=s.toks) (fun b o hb e=>(sb.2 b hb).trans e) f0 f1 f3 f4 f5
  obtain⟨o,e,c,d⟩:=id st'
  exact⟨u,rfl,zh5 (s:={s with heap:=h'}) e c d (by decide) ⟨x,H,I1,ru,⟨rfl,fun ys hy=>by rw[I.tuple_inj hy hq];exact hx⟩,st',fun b hb=>(hf b hb).1⟩⟩
 done:=by
  intro X hP hw hK hc i pins s σ H E I hf st hg
  subst hP hw hK
  obtain⟨xs,hq,hx⟩:=hg
  obtain⟨its,rv,p,hz⟩:=I.tuple hq
  obtain⟨f0,f1,f2,f3,f4,f5⟩:=hf it (by simp)
  have hl:=rv.length
  exact wpAny_pyNext_tuple_end (I.ok.hd hc) st (show s.heap.IsTuple a its.toArray from p) (by simp;(first|lia|omega)) fun h' eb=>⟨rfl,I.turned (t':=s.toks) (fun b o hb e=>eb b o hb e) f0 f1 f3 f4 f5⟩
 self:=fun _ _ _ _ _ st h=>wpAny_pyIter_tupleiter st h
theorem zff {P:Program}{w:World}{K:PySem.W.Frag}{tg:Expr}(it:Addr)(lo:Int)(n:Nat):Turn P w K tg (Itr lo n) [it] it (fun i h=>IsRangeIter h it (lo+(i:Nat)*1) ((n:Int)-(i:Nat)) 1) where
 mem:=by simp
 obj:=fun i h st b hb=>by
  have e:b=it:=by simpa using hb
  subst e
  exact⟨_,st,fun v z=>by
   have z':Data.fields _=Data.cell v:=z
   cases z'⟩
 keep:=fun i h h' st k=>k it (by simp) _ st
 item:=by
  intro X hP hw hK hc i pins s σ H E I hf st hg
  subst hP hw hK
  obtain⟨f0,f1,f2,f3,f4,f5⟩:=hf it (by simp)
  have W:=Walks.range (prog:=X.prog) (w:=X.w) (I.ok.hd hc) it lo 1 n
  refine W.item i s _ _ hg st fun v h' tk hv st' kk=> ?_
  obtain⟨t,rfl⟩:=hv
  have I1:Inv X pins σ H {s with heap:=h',toks:=tk}:=I.turned (fun b o hb e=>kk b o (by simpa using hb) e) f0 f1 f3 f4 f5
  refine⟨_,rfl,zh5 (s:={s with heap:=h',toks:=tk}) (n:= "range_iterator") st' rfl rfl (by decide) ⟨.int (lo+i),H,I1,⟨t, ?_⟩,⟨rfl,rfl⟩,st',fun b hb=>(hf b hb).1⟩⟩
  rw[Int.mul_one]
 done:=by
  intro X hP hw hK hc i pins s σ H E I hf st hg
  subst hP hw hK
  obtain⟨f0,f1,f2,f3,f4,f5⟩:=hf it (by simp)
  exact wpAny_pyNext_range_end (I.ok.hd hc) st (by have:n<=i:=hg;(first|lia|omega)) fun h' eb=>⟨rfl,I.turned (t':=s.toks) (fun b o hb e=>eb b o hb e) f0 f1 f3 f4 f5⟩
 self:=fun _ _ _ _ _ st h=>wpAny_pyIter_rangeiter st h
section
variable {X:Cx}{tg:Expr}
noncomputable def zi1 (K:PySem.W.Frag)(tl:TE):TI:=fun σ H R=>tl σ H fun x H1=>∃a,x=.ref a/\(∃xs,SqL K H1 a xs)/\R (Itl K a) H1
noncomputable def iTup (K:PySem.W.Frag)(tl:TE):TI:=fun σ H R=>tl σ H fun x H1=>∃a,x=.ref a/\(∃xs,SqT K H1 a xs)/\R (Itt K a) H1
theorem za1 {l:Expr}{tl:TE}(hl:PE X l tl):PI X tg l (zi1 X.K tl):=by
 intro pins s σ H R I h
 refine thn (hl pins s σ H _ I h) fun v s1 zq=> ?_
 obtain⟨x,H1,I1,r1,q1⟩:=zq
 obtain⟨a,e,⟨xs,hq⟩,q⟩:=q1
 subst e
 cases r1
 obtain⟨its,rv,p,hz⟩:=I1.list hq
 refine wpAny_pyIter_list p.isList ?_
 refine⟨s1.heap.objs.size,[s1.heap.objs.size],_,_,H1,rfl,I1.kept (t':=s1.toks) fun b o e=>Heap.get?_push_of_some _ e,zfE a _,⟨_,Heap.get?_push_size _ rfl,rfl,rfl⟩,fun b hb=> ?_,q⟩
 have e:b=s1.heap.objs.size:=by simpa using hb
 subst e
 exact I1.fpOk (Nat.le_refl _) (I1.hok.fresh (Nat.le_refl _))
theorem zfF {l:Expr}{tl:TE}(hl:PE X l tl):PI X tg l (iTup X.K tl):=by
 intro pins s σ H R I h
 refine thn (hl pins s σ H _ I h) fun v s1 zq=> ?_
 obtain⟨x,H1,I1,r1,q1⟩:=zq
 obtain⟨a,e,⟨xs,hq⟩,q⟩:=q1
 subst e
 cases r1
 obtain⟨its,rv,p,hz⟩:=I1.tuple hq
 refine wpAny_pyIter_tuple (show s1.heap.IsTuple a its.toArray from p) ?_
 refine⟨s1.heap.objs.size,[s1.heap.objs.size],_,_,H1,rfl,I1.kept (t':=s1.toks) fun b o e=>Heap.get?_push_of_some _ e,zfe a _,⟨_,Heap.get?_push_size _ rfl,rfl,rfl⟩,fun b hb=> ?_,q⟩
 have e:b=s1.heap.objs.size:=by simpa using hb
 subst e
 exact I1.fpOk (Nat.le_refl _) (I1.hok.fresh (Nat.le_refl _))
theorem zeL {pins:List (Addr×Obj)}{σ:St}{H:Hp}{s:Shared}{R:It->Hp->Prop}{E:Value->Shared->Prop}{lo hi:Int}{t u v:Tok}{tk:Nat}(I:Inv X pins σ H s)(h1:-(2^62)<=lo)(h2:lo<2^62)(h3:-(2^62)<=hi)(h4:hi<2^62)
  (q:R (Itr lo (hi-lo).toNat) H):wpAny (model X.prog X.w) X.A (pyIter (.ref s.heap.objs.size)) (PIE X pins σ tg R) E {s with heap:=s.heap.push {cls:=.type "range",data:=.fields #[.int lo t,.int hi u,.int 1 v]},toks:=tk}:=by
 refine wpAny_pyIter_range (IsRange.new ..) (small_one h1 h2 h3 h4) ?_
 have I1:Inv X pins σ H {s with heap:=s.heap.push {cls:=.type "range",data:=.fields #[.int lo t,.int hi u,.int 1 v]},toks:=tk}:=I.kept fun b o e=>Heap.get?_push_of_some _ e
 refine⟨(s.heap.push {cls:=.type "range",data:=.fields #[.int lo t,.int hi u,.int 1 v]}).objs.size,[(s.heap.push {cls:=.type "range",data:=.fields #[.int lo t,.int hi u,.int 1 v]}).objs.size],_,_,H,rfl,
  I1.kept (t':=tk) fun b o e=>Heap.get?_push_of_some _ e,zff _ lo (hi-lo).toNat, ?_,fun b hb=> ?_,q⟩
 ·have e1:lo+((0:Nat):Int)*1=lo:=by simp
  have e2:(((hi-lo).toNat:Nat):Int)-((0:Nat):Int)=Builtin.Range.rangeSize lo hi 1:=by rw[rangeSize_one];split<;>(first|lia|omega)
  show IsRangeIter _ _ (lo+((0:Nat):Int)*1) ((((hi-lo).toNat:Nat):Int)-((0:Nat):Int)) 1
  rw[e1,e2]
  exact Heap.get?_push_size _ rfl
 ·have e:b=(s.heap.push {cls:=.type "range",data:=.fields #[.int lo t,.int hi u,.int 1 v]}).objs.size:=by simpa using hb
  subst e
  exact I1.fpOk (Nat.le_refl _) (I1.hok.fresh (Nat.le_refl _))
noncomputable def zjO (ta:TA):TI:=fun σ H R=>ta σ H fun vs H1=>∃j:Int,vs=[.int j]/\-(2^62)<=j/\j<2^62/\R (Itr 0 j.toNat) H1
noncomputable def zjP (ta:TA):TI:=fun σ H R=>ta σ H fun vs H1=>∃i j:Int,vs=[.int i,.int j]/\(-(2^62)<=i/\i<2^62/\-(2^62)<=j/\j<2^62)/\R (Itr i (j-i).toNat) H1
theorem zaQ {a:Expr}{ta:TA}{p pos:Pos}(hg:Gl X "range")(hm:X.mg "range" =none)(ha:PA X [a] ta)(hs:starEach [a] X.env=[(false,eval a X.env)]:=by rfl):PI X tg (.Call (.Name "range" p) [a] [] pos) (zjO ta):=by
 intro pins s σ H R I h
 refine Call_ (zcf I hg hm boot_range (PyProof.Rows.callWith_type1 (thn (ha pos pins s σ H _ I h) fun us s1 zq=> ?_) hs rfl))
 obtain⟨vs,H1,I1,r1,q1⟩:=zq
 obtain⟨j,e,q1,q2,q⟩:=q1
 subst e
 cases r1 with
 |cons r rr=>
  cases rr
  obtain⟨t,rfl⟩:=r
  exact call_range_1 (zeL I1 (by (first|lia|omega)) (by (first|lia|omega)) q1 q2 (by simpa using q))
theorem zcE {a b:Expr}{ta:TA}{p pos:Pos}(hg:Gl X "range")(hm:X.mg "range" =none)(ha:PA X [a,b] ta)(hs:starEach [a,b] X.env=[(false,eval a X.env),(false,eval b X.env)]:=by rfl)(hs2:starEach [b] X.env=[(false,eval b X.env)]:=by rfl):
  PI X tg (.Call (.Name "range" p) [a,b] [] pos) (zjP ta):=by
 intro pins s σ H R I h
 refine Call_ (zcf I hg hm boot_range (PyProof.Rows.callWith_type1 (thn (ha pos pins s σ H _ I h) fun us s1 zq=> ?_) (by rw[hs,hs2]) (by rw[hs2];rfl)))
 obtain⟨vs,H1,I1,r1,q1⟩:=zq
 obtain⟨i,j,e,⟨q1,q2,q3,q4⟩,q⟩:=q1
 subst e
 cases r1 with
 | cons r rr=>
  cases rr with
  |cons r' rr=>
   cases rr
   obtain⟨t,rfl⟩:=r
   obtain⟨t',rfl⟩:=r'
   exact call_range_2 (zeL I1 q1 q2 q3 q4 q)
noncomputable def tFor (wi:TI)(g:TG)(tb:TS):TS:=fun D σ H=>wi σ H fun J H1=>∃W:Nat->Nat->St->Hp->Prop,(∃m,W 0 m σ H1)/\∀i m σ H,W i m σ H->
 (J.stop i H/\D.nx σ H)∨(J.go i H/\∃N:St->Hp->Prop,(∀σ' H',N σ' H'->∃m',m'<m/\W (i+1) m' σ' H')/\∀x H',J.yld i H x H'->g x σ H' fun σ2 H2=>tb {D with nx:=N,ct:=N,bk:=D.nx} σ2 H2)
noncomputable def zbx (fp:List Addr)(h:Heap):List (Addr×Obj):=fp.filterMap fun b=>(h.get? b).map fun o=>(b,o)
theorem zaL {fp:List Addr}{h:Heap}{b:Addr}{o:Obj}(hb:b∈fp)(e:h.get? b=some o):(b,o)∈zbx fp h:=List.mem_filterMap.mpr ⟨b,hb,by rw[e];rfl⟩
theorem zfG {fp:List Addr}{h:Heap}{p:Addr×Obj}(hp:p∈zbx fp h):p.1∈fp/\h.get? p.1=some p.2:=by
 obtain⟨b,hb,e⟩:=List.mem_filterMap.mp hp
 cases q:h.get? b with
 |none=>rw[q] at e;cases e
 |some o=>
  rw[q] at e
  have e':(b,o)=p:=Option.some.inj e
  subst e'
  exact⟨hb,q⟩
theorem Inv.pinned {pins:List (Addr×Obj)}{σ:St}{H:Hp}{s:Shared}{fp:List Addr}(I:Inv X pins σ H s)(hf:∀b∈fp,FpOk X pins H b)(ho:∀b∈fp,∃o,s.heap.get? b=some o/\∀v,o.data≠.cell v):Inv X (pins++zbx fp s.heap) σ H s:=
 I.pins_of fun p hp=>(List.mem_append.mp hp).elim (fun z=>I.pin p (List.mem_append_right _ z)) fun z=>by
  obtain⟨hb,e⟩:=zfG z
  obtain⟨f0,f1,f2,_⟩:=hf p.1 hb
  obtain⟨o,e',d⟩:=ho p.1 hb
  rw[e] at e';cases e'
  exact⟨e,f0,f1,f2,d⟩
theorem Inv.unpinned {pins pl:List (Addr×Obj)}{σ:St}{H:Hp}{s:Shared}(I:Inv X (pins++pl) σ H s):Inv X pins σ H s:=I.pins_of fun p hp=>I.pin p (List.mem_append_right _ (List.mem_append_left _ hp))
theorem zbj {iter:Expr}{body:List Stmt}{wi:TI}{g:TG}{tb:TS}{pos:Pos}(hp:PassesOwn (model X.prog X.w) X.A X.env X.xe)(hc:X.calm=true)(hi:PI X tg iter wi)(hg:PG X tg g)(hb:PSs X body tb)
  (hs:∀x,foldedSetIterable iter X.env x=pure x:=by intro _;rfl):PS X (.For tg iter body [] pos) (tFor wi g tb):=by
 intro pins s σ H D I h
 refine wpAny_For (thn (hi pins s σ H _ I h) fun v s1 h1=>thn h1 fun itv s2 h2=> ?_) hs
 obtain⟨it,fp,tn,J,H2,e,I2,T,st2,f2,W,⟨m0,w0⟩,turn⟩:=h2
 subst e
 have stat:∀{H':Hp},(∀b∈fp,H' b=none)->∀b∈fp,FpOk X pins H' b:=fun hn b hb=>⟨hn b hb,(f2 b hb).2⟩
 refine codeAny_forLoop_any (fun n s'=>∃i σ' H',Inv X pins σ' H' s'/\tn i s'.heap/\(∀b∈fp,H' b=none)/\W i n σ' H') ?_ m0 ⟨0,σ,H2,I2,st2,fun b hb=>(f2 b hb).1,w0⟩
 rintro n s3 ⟨i,σ3,H3,I3,st3,fr3,w3⟩
 rcases turn i n σ3 H3 w3 with⟨stop,qn⟩|⟨go,N,hN,step⟩
 ·refine wpAny_passesOwn hp (thn (T.done X rfl rfl rfl hc i pins s3 σ3 H3 X.xe I3 (stat fr3) st3 stop) fun r s4 zq=> ?_)
  obtain⟨hr,I4⟩:=zq
  subst hr
  exact wpAny_execs_nil ⟨σ3,H3,I4,qn⟩
 ·refine wpAny_passesOwn hp (thn (T.item X rfl rfl rfl hc i pins s3 σ3 H3 X.xe I3 (stat fr3) st3 go) fun r s4 zq=> ?_)
  obtain⟨u,hr,h4⟩:=zq
  subst hr
  refine wpAny_passesOwn hp (thn h4 fun _ s5 zq=> ?_)
  obtain⟨x,H5,I5,r5,y5,st5,fr5⟩:=zq
  have I5':=I5.pinned (stat fr5) (T.obj _ _ st5)
  refine wpAny_passesOwn hp (thn (hg _ s5 σ3 H5 x u _ I5' r5 (step x H5 y5)) fun _ s6 zq=> ?_)
  obtain⟨σ6,H6,I6,q6⟩:=zq
  refine wpAny_passesOwn hp (thn (hb _ s6 σ6 H6 _ I6 q6) fun f s7 q7=> ?_)
  have again:∀{σ7:St} {H7:Hp},Inv X (pins++zbx fp s5.heap) σ7 H7 s7->N σ7 H7->∃m,m<n/\∃i σ' H',Inv X pins σ' H' s7/\tn i s7.heap/\(∀b∈fp,H' b=none)/\W i m σ' H':=fun {σ7 H7} I7 n7=>by
   obtain⟨m',hm,w7⟩:=hN σ7 H7 n7
   refine⟨m',hm,i+1,σ7,H7,I7.unpinned,T.keep _ _ _ st5 fun b hb o e=>(I7.pin (b,o) (List.mem_append_right _ (List.mem_append_right _ (zaL hb e)))).1,fun b hb=> ?_,w7⟩
   obtain⟨o,e,d⟩:=T.obj _ _ st5 b hb
   exact (I7.pin (b,o) (List.mem_append_right _ (List.mem_append_right _ (zaL hb e)))).2.1
  cases f with
  |next=>obtain⟨σ7,H7,I7,n7⟩:=q7;exact again I7 n7
  |cont=>obtain⟨σ7,H7,I7,n7⟩:=q7;exact again I7 n7
  |brk=>obtain⟨σ7,H7,I7,q7⟩:=q7;exact⟨σ7,H7,I7.unpinned,q7⟩
  |ret v=>obtain⟨x7,σ7,H7,I7,r7,q7⟩:=q7;exact⟨x7,σ7,H7,I7.unpinned,r7,q7⟩
end
theorem zeM {K:PySem.W.Frag}{a:Addr}{xs:List V}{g:TG}{tb:TS}{D:Ends}{σ:St}{H:Hp}(Pv:Nat->St->Hp->Prop)(h0:Pv 0 σ H)(hl:∀i σ H,i<=xs.length->Pv i σ H->SqL K H a xs)
  (hs:∀i x σ H,xs[i]? =some x->Pv i σ H->g x σ H fun σ2 H2=>tb {D with nx:=Pv (i+1),ct:=Pv (i+1),bk:=D.nx} σ2 H2) (hd:∀σ H,Pv xs.length σ H->D.nx σ H):
  ∃W:Nat->Nat->St->Hp->Prop,(∃m,W 0 m σ H)/\∀i m σ H,W i m σ H->
   ((Itl K a).stop i H/\D.nx σ H)∨((Itl K a).go i H/\∃N:St->Hp->Prop,(∀σ' H',N σ' H'->∃m',m'<m/\W (i+1) m' σ' H')/\∀x H',(Itl K a).yld i H x H'->g x σ H' fun σ2 H2=>tb {D with nx:=N,ct:=N,bk:=D.nx} σ2 H2):=by
 refine⟨fun i m σ H=>m=xs.length-i/\i<=xs.length/\Pv i σ H,⟨xs.length,by simp,Nat.zero_le _,h0⟩, ?_⟩
 rintro i m σ H ⟨rfl,hi,p⟩
 have q:=hl i σ H hi p
 by_cases hlt:i<xs.length
 ·refine .inr ⟨⟨xs,xs[i],q,by simp[hlt]⟩,Pv (i+1),fun σ' H' p'=>⟨xs.length-(i+1),by (first|lia|omega),rfl,hlt,p'⟩,fun x H' y=> ?_⟩
  obtain⟨e,y⟩:=y
  subst e
  exact hs i x σ _ (y xs q) p
 ·have e:i=xs.length:=by (first|lia|omega)
  subst e
  exact .inl ⟨⟨xs,q,Nat.le_refl _⟩,hd σ H p⟩
theorem zfH {K:PySem.W.Frag}{a:Addr}{xs:List V}{g:TG}{tb:TS}{D:Ends}{σ:St}{H:Hp}(Pv:Nat->St->Hp->Prop)(h0:Pv 0 σ H)(hl:∀i σ H,i<=xs.length->Pv i σ H->SqT K H a xs)
  (hs:∀i x σ H,xs[i]? =some x->Pv i σ H->g x σ H fun σ2 H2=>tb {D with nx:=Pv (i+1),ct:=Pv (i+1),bk:=D.nx} σ2 H2) (hd:∀σ H,Pv xs.length σ H->D.nx σ H):
  ∃W:Nat->Nat->St->Hp->Prop,(∃m,W 0 m σ H)/\∀i m σ H,W i m σ H->
   ((Itt K a).stop i H/\D.nx σ H)∨((Itt K a).go i H/\∃N:St->Hp->Prop,(∀σ' H',N σ' H'->∃m',m'<m/\W (i+1) m' σ' H')/\∀x H',(Itt K a).yld i H x H'->g x σ H' fun σ2 H2=>tb {D with nx:=N,ct:=N,bk:=D.nx} σ2 H2):=by
 refine⟨fun i m σ H=>m=xs.length-i/\i<=xs.length/\Pv i σ H,⟨xs.length,by simp,Nat.zero_le _,h0⟩, ?_⟩
 rintro i m σ H ⟨rfl,hi,p⟩
 have q:=hl i σ H hi p
 by_cases hlt:i<xs.length
 ·refine .inr ⟨⟨xs,xs[i],q,by simp[hlt]⟩,Pv (i+1),fun σ' H' p'=>⟨xs.length-(i+1),by (first|lia|omega),rfl,hlt,p'⟩,fun x H' y=> ?_⟩
  obtain⟨e,y⟩:=y
  subst e
  exact hs i x σ _ (y xs q) p
 ·have e:i=xs.length:=by (first|lia|omega)
  subst e
  exact .inl ⟨⟨xs,q,Nat.le_refl _⟩,hd σ H p⟩
theorem zbm {lo:Int}{n:Nat}{g:TG}{tb:TS}{D:Ends}{σ:St}{H:Hp}(Pv:Nat->St->Hp->Prop)(h0:Pv 0 σ H)
  (hs:∀i σ H,i<n->Pv i σ H->g (.int (lo+i)) σ H fun σ2 H2=>tb {D with nx:=Pv (i+1),ct:=Pv (i+1),bk:=D.nx} σ2 H2) (hd:∀σ H,Pv n σ H->D.nx σ H):
  ∃W:Nat->Nat->St->Hp->Prop,(∃m,W 0 m σ H)/\∀i m σ H,W i m σ H->
   ((Itr lo n).stop i H/\D.nx σ H)∨((Itr lo n).go i H/\∃N:St->Hp->Prop,(∀σ' H',N σ' H'->∃m',m'<m/\W (i+1) m' σ' H')/\∀x H',(Itr lo n).yld i H x H'->g x σ H' fun σ2 H2=>tb {D with nx:=N,ct:=N,bk:=D.nx} σ2 H2):=by
 refine⟨fun i m σ H=>m=n-i/\i<=n/\Pv i σ H,⟨n,by simp,Nat.zero_le _,h0⟩, ?_⟩
 rintro i m σ H ⟨rfl,hi,p⟩
 by_cases hlt:i<n
 ·refine .inr ⟨hlt,Pv (i+1),fun σ' H' p'=>⟨n-(i+1),by (first|lia|omega),rfl,hlt,p'⟩,fun x H' y=> ?_⟩
  obtain⟨e,y⟩:=y
  subst e y
  exact hs i σ _ hlt p
 ·have e:i=n:=by (first|lia|omega)
  subst e
  exact .inl ⟨Nat.le_refl _,hd σ H p⟩
noncomputable abbrev R2:=V->V->Hp->VK->Prop
noncomputable def OpR (X:Cx)(f:Value->Value->Sem Value)(r:R2):Prop:=
 ∀(pins:List (Addr×Obj)) (s:Shared) (σ:St) (H:Hp) (x y:V) (v u:Value) (Q:VK),Inv X pins σ H s->RelV x v->RelV y u->r x y H Q->
  wpAny (model X.prog X.w) X.A (f v u) (EP X pins σ Q) X.xe s
noncomputable def UnR (X:Cx)(f:Value->Sem Value)(r:V->Hp->VK->Prop):Prop:=
 ∀(pins:List (Addr×Obj)) (s:Shared) (σ:St) (H:Hp) (x:V) (v:Value) (Q:VK),Inv X pins σ H s->RelV x v->r x H Q->
  wpAny (model X.prog X.w) X.A (f v) (EP X pins σ Q) X.xe s
noncomputable def zbA (X:Cx)(f:Value)(r:List V->Hp->VK->Prop):Prop:=
 ∀(pins:List (Addr×Obj)) (s:Shared) (σ:St) (H:Hp) (xs:List V) (us:List Value) (Q:VK),Inv X pins σ H s->Vals xs us->r xs H Q->
  wpAny (model X.prog X.w) X.A (call f us) (EP X pins σ Q) X.xe s
noncomputable def tOp (r:R2)(ta tb:TE):TE:=fun σ H Q=>ta σ H fun x H1=>tb σ H1 fun y H2=>r x y H2 Q
noncomputable def tUn (r:V->Hp->VK->Prop)(ta:TE):TE:=fun σ H Q=>ta σ H fun x H1=>r x H1 Q
noncomputable def rI (C:Int->Int->Prop)(g:Int->Int->V):R2:=fun x y H Q=>∃i j,x=.int i/\y=.int j/\C i j/\Q (g i j) H
noncomputable def rI0 (g:Int->Int->V):R2:=fun x y H Q=>∃i j,x=.int i/\y=.int j/\Q (g i j) H
noncomputable def rU (g:Int->V):V->Hp->VK->Prop:=fun x H Q=>∃i,x=.int i/\Q (g i) H
section
variable {X:Cx}{a b c:Expr}{ta tb tc:TE}{pos:Pos}
theorem binT (ha:PE X a ta)(hb:PE X b tb){pins:List (Addr×Obj)}{s:Shared}{σ:St}{H:Hp}{R:V->V->Hp->Prop}(I:Inv X pins σ H s)
  (h:ta σ H fun x H1=>tb σ H1 fun y H2=>R x y H2) {Q:Value->Shared->Prop} {f:Value->Value->Sem Value}
  (hf:∀v u s2 x y H2,Inv X pins σ H2 s2->RelV x v->RelV y u->R x y H2->wpAny (model X.prog X.w) X.A (f v u) Q X.xe s2):
  wpAny (model X.prog X.w) X.A (eval a X.env) (fun v s₁=>wpAny (model X.prog X.w) X.A (eval b X.env) (fun u s₂=>wpAny (model X.prog X.w) X.A (f v u) Q X.xe s₂) X.xe s₁) X.xe s:=by
 refine thn (ha pins s σ H _ I h) fun v s1 zq=> ?_
 obtain⟨x,H1,I1,r1,q1⟩:=zq
 refine thn (hb pins s1 σ H1 _ I1 q1) fun u s2 zq=> ?_
 obtain⟨y,H2,I2,r2,q2⟩:=zq
 exact hf v u s2 x y H2 I2 r1 r2 q2
theorem zaj {op:Operator}{r:R2}(ho:OpR X (binaryOp op) r)(ha:PE X a ta)(hb:PE X b tb):PE X (.BinOp a op b pos) (tOp r ta tb):=by
 intro pins s σ H Q I h
 exact wpAny_BinOp (binT ha hb I h fun v u s2 x y H2 I2 rx ry q=>ho pins s2 σ H2 x y v u Q I2 rx ry q)
theorem zjQ {op:UnaryOp}{r:V->Hp->VK->Prop}(ho:UnR X (unaryOp op) r)(ha:PE X a ta):PE X (.UnaryOp op a pos) (tUn r ta):=by
 intro pins s σ H Q I h
 exact UnaryOp_ (thn (ha pins s σ H _ I h) fun v s1 ⟨x,H1,I1,r1,q1⟩=>ho pins s1 σ H1 x v Q I1 r1 q1)
theorem opI {f:Value->Value->Sem Value}{C:Int->Int->Prop}{g:Int->Int->Int}
  (rule:∀(i j:Int) (t u:Tok) (s:Shared) (Q:Value->Shared->Prop) (E:Value->Shared->Prop),C i j->Q (.int (g i j) s.toks) {s with toks:=s.toks+1}->wpAny (model X.prog X.w) X.A (f (.int i t) (.int j u)) Q E s):
  OpR X f (rI C fun i j=>.int (g i j)):=by
 intro pins s σ H x y v u Q I rx ry h
 obtain⟨i,j,rfl,rfl,hc,q⟩:=h
 obtain⟨t,rfl⟩:=rx
 obtain⟨t',rfl⟩:=ry
 exact rule i j t t' s _ _ hc ⟨.int (g i j),H,I.tok _,⟨_,rfl⟩,q⟩
theorem opI0 {f:Value->Value->Sem Value}{g:Int->Int->Int}
  (rule:∀(i j:Int) (t u:Tok) (s:Shared) (Q:Value->Shared->Prop) (E:Value->Shared->Prop),Q (.int (g i j) s.toks) {s with toks:=s.toks+1}->wpAny (model X.prog X.w) X.A (f (.int i t) (.int j u)) Q E s):
  OpR X f (rI0 fun i j=>.int (g i j)):=by
 intro pins s σ H x y v u Q I rx ry h
 obtain⟨i,j,rfl,rfl,q⟩:=h
 obtain⟨t,rfl⟩:=rx
 obtain⟨t',rfl⟩:=ry
 exact rule i j t t' s _ _ ⟨.int (g i j),H,I.tok _,⟨_,rfl⟩,q⟩
theorem opB0 {f:Value->Value->Sem Value}{g:Int->Int->Bool}
  (rule:∀(i j:Int) (t u:Tok) (s:Shared) (Q:Value->Shared->Prop) (E:Value->Shared->Prop),Q (.bool (g i j)) s->wpAny (model X.prog X.w) X.A (f (.int i t) (.int j u)) Q E s):
  OpR X f (rI0 fun i j=>.bl (g i j)):=by
 intro pins s σ H x y v u Q I rx ry h
 obtain⟨i,j,rfl,rfl,q⟩:=h
 obtain⟨t,rfl⟩:=rx
 obtain⟨t',rfl⟩:=ry
 exact rule i j t t' s _ _ ⟨.bl (g i j),H,I,rfl,q⟩
noncomputable def CDiv (i j:Int):Prop:=0<j/\j<1073741824
noncomputable def CPow (i j:Int):Prop:=0<=j/\j<=1000000/\i.natAbs<2^64
noncomputable def CMul (i j:Int):Prop:=(-(2^64)<i/\i<2^64)∨(-(2^64)<j/\j<2^64)
theorem CMul.ok {i j:Int}(h:CMul i j):IntMulOk i j:=by
 rcases h with⟨h1,h2⟩|⟨h1,h2⟩
 ·exact .of_left (intBits_le_64 h1 h2)
 ·exact .of_right (intBits_le_64 h1 h2)
theorem zao:OpR X (binaryOp .Add) (rI0 fun i j=>.int (i+j)):=opI0 fun _ _ _ _ _ _ _ q=>add_int q
theorem za0:OpR X (binaryOp .Sub) (rI0 fun i j=>.int (i-j)):=opI0 fun _ _ _ _ _ _ _ q=>sub_int q
theorem zaI:OpR X (binaryOp .Mult) (rI CMul fun i j=>.int (i*j)):=opI fun _ _ _ _ _ _ _ hc q=>mul_int q hc.ok
theorem zc7:OpR X (binaryOp .FloorDiv) (rI CDiv fun i j=>.int (i/j)):=opI fun i j _ _ _ _ _ hc q=>by
 have h1:(0:Int)<j:=hc.1
 have h2:j<1073741824:=hc.2
 exact floordiv_int (by (first|lia|omega)) (by rw[Int.fdiv_eq_ediv_of_nonneg i (by (first|lia|omega))];exact q) (.inl (PyProof.noPylong_small (by (first|lia|omega))))
theorem zbO:OpR X (binaryOp .Mod) (rI (fun _ j=>0<j) fun i j=>.int (i%j)):=opI fun i j _ _ _ _ _ hc q=>by
 have h1:(0:Int)<j:=hc
 exact mod_int' (by (first|lia|omega)) (by rw[Int.fmod_eq_emod_of_nonneg i (by (first|lia|omega))];exact q)
theorem zfI:OpR X (binaryOp .Pow) (rI CPow fun i j=>.int (i^j.toNat)):=opI fun _ _ _ _ _ _ _ hc q=>pow_int_small hc.1 hc.2.1 hc.2.2 q
theorem unI {f:Value->Sem Value}{g:Int->Int}
  (rule:∀(i:Int) (t:Tok) (s:Shared) (Q:Value->Shared->Prop) (E:Value->Shared->Prop),Q (.int (g i) s.toks) {s with toks:=s.toks+1}->wpAny (model X.prog X.w) X.A (f (.int i t)) Q E s):
  UnR X f (rU fun i=>.int (g i)):=by
 intro pins s σ H x v Q I rx h
 obtain⟨i,rfl,q⟩:=h
 obtain⟨t,rfl⟩:=rx
 exact rule i t s _ _ ⟨.int (g i),H,I.tok _,⟨_,rfl⟩,q⟩
theorem zi2:UnR X (unaryOp .USub) (rU fun i=>.int (-i)):=unI fun _ _ _ _ _ q=>neg_int q
end
noncomputable def scal:V->V->Bool
 | .non,.non=>true| .non,.int _=>true| .int _,.non=>true| .non,.bl _=>true| .bl _,.non=>true| .non,.str _=>true| .str _,.non=>true
 | .int _,.int _=>true| .bl _,.bl _=>true| .str _,.str _=>true| .byt _,.byt _=>true
 | .int _,.str _=>true| .str _,.int _=>true| .bl _,.str _=>true| .str _,.bl _=>true
 |_,_=>false
noncomputable def rEq:R2:=fun x y H Q=>scal x y=true/\Q (.bl (decide (x=y))) H
noncomputable def rNe:R2:=fun x y H Q=>scal x y=true/\Q (.bl (!decide (x=y))) H
theorem zfJ {i j:Int}:decide (V.int i=V.int j)=(i==j):=by
 rw[Bool.eq_iff_iff]
 simp
theorem zhR {i j:Bool}:decide (V.bl i=V.bl j)=(i==j):=by
 rw[Bool.eq_iff_iff]
 simp
theorem zfK {i j:Str}:decide (V.str i=V.str j)=(i==j):=by
 rw[Bool.eq_iff_iff]
 simp
theorem zfL {i j:Array UInt8}:decide (V.byt i=V.byt j)=(i.toList==j.toList):=by
 rw[Bool.eq_iff_iff]
 cases i
 cases j
 simp
section
variable {X:Cx}{a b c:Expr}{ta tb tc:TE}{pos:Pos}
theorem zay {pins:List (Addr×Obj)}{σ:St}{H:Hp}{s:Shared}{Q:VK}{k k':Bool}(I:Inv X pins σ H s)(q:Q (.bl k) H)(e:k=k'):EP X pins σ Q (.bool k') s:=by
 subst e
 exact⟨.bl k,H,I,rfl,q⟩
theorem zc8:OpR X (compareOp .Eq) rEq:=by
 intro pins s σ H x y v u Q I rx ry h
 obtain⟨hs,q⟩:=h
 cases x with
 |non=>
  cases rx
  cases y with
  |non=>cases ry;exact PySem.EqNone.eq_none_none (zay I q (by simp))
  |bl j=>cases ry;exact PySem.EqNone.eq_none_bool (zay I q (by simp))
  |int j=>obtain⟨t',rfl⟩:=ry;exact PySem.EqNone.eq_none_int (zay I q (by simp))
  |str j=>obtain⟨t',rfl⟩:=ry;exact PySem.EqNone.eq_none_str (zay I q (by simp))
  |_=>exact absurd (show false=true from hs) Bool.false_ne_true
 |bl i=>
  cases rx
  cases y with
  |non=>cases ry;exact PySem.EqNone.eq_bool_none (zay I q (by simp))
  |bl j=>cases ry;exact eq_bool (zay I q zhR)
  |str j=>obtain⟨t',rfl⟩:=ry;exact PySem.EqMixed.eq_bool_str (zay I q (by simp))
  |_=>exact absurd (show false=true from hs) Bool.false_ne_true
 |int i=>
  obtain⟨t,rfl⟩:=rx
  cases y with
  |non=>cases ry;exact PySem.EqNone.eq_int_none (zay I q (by simp))
  |int j=>obtain⟨t',rfl⟩:=ry;exact eq_int (zay I q zfJ)
  |str j=>obtain⟨t',rfl⟩:=ry;exact PySem.EqMixed.eq_int_str (zay I q (by simp))
  |_=>exact absurd (show false=true from hs) Bool.false_ne_true
 |str i=>
  obtain⟨t,rfl⟩:=rx
  cases y with
  |non=>cases ry;exact PySem.EqNone.eq_str_none (zay I q (by simp))
  |bl j=>cases ry;exact PySem.EqMixed.eq_str_bool (zay I q (by simp))
  |int j=>obtain⟨t',rfl⟩:=ry;exact PySem.EqMixed.eq_str_int (zay I q (by simp))
  |str j=>obtain⟨t',rfl⟩:=ry;exact eq_str (zay I q zfK)
  |_=>exact absurd (show false=true from hs) Bool.false_ne_true
 |byt i=>
  obtain⟨t,rfl⟩:=rx
  cases y with
  |byt j=>obtain⟨t',rfl⟩:=ry;exact PySem.W.eq_bytes (zay I q zfL)
  |_=>exact absurd (show false=true from hs) Bool.false_ne_true
 |_=>cases y<;>exact absurd (show false=true from hs) Bool.false_ne_true
theorem zi3:OpR X (compareOp .NotEq) rNe:=by
 intro pins s σ H x y v u Q I rx ry h
 obtain⟨hs,q⟩:=h
 cases x with
 |non=>
  cases rx
  cases y with
  |non=>cases ry;exact PySem.EqNone.ne_none_none (zay I q (by simp))
  |bl j=>cases ry;exact PySem.EqNone.ne_none_bool (zay I q (by simp))
  |int j=>obtain⟨t',rfl⟩:=ry;exact PySem.EqNone.ne_none_int (zay I q (by simp))
  |str j=>obtain⟨t',rfl⟩:=ry;exact PySem.EqNone.ne_none_str (zay I q (by simp))
  |_=>exact absurd (show false=true from hs) Bool.false_ne_true
 |bl i=>
  cases rx
  cases y with
  |non=>cases ry;exact PySem.EqNone.ne_bool_none (zay I q (by simp))
  |bl j=>cases ry;exact ne_bool (zay I q (congrArg not zhR))
  |str j=>obtain⟨t',rfl⟩:=ry;exact PySem.EqMixed.ne_bool_str (zay I q (by simp))
  |_=>exact absurd (show false=true from hs) Bool.false_ne_true
 |int i=>
  obtain⟨t,rfl⟩:=rx
  cases y with
  |non=>cases ry;exact PySem.EqNone.ne_int_none (zay I q (by simp))
  |int j=>obtain⟨t',rfl⟩:=ry;exact ne_int (zay I q (congrArg not zfJ))
  |str j=>obtain⟨t',rfl⟩:=ry;exact PySem.EqMixed.ne_int_str (zay I q (by simp))
  |_=>exact absurd (show false=true from hs) Bool.false_ne_true
 |str i=>
  obtain⟨t,rfl⟩:=rx
  cases y with
  |non=>cases ry;exact PySem.EqNone.ne_str_none (zay I q (by simp))
  |bl j=>cases ry;exact PySem.EqMixed.ne_str_bool (zay I q (by simp))
  |int j=>obtain⟨t',rfl⟩:=ry;exact PySem.EqMixed.ne_str_int (zay I q (by simp))
  |str j=>obtain⟨t',rfl⟩:=ry;exact ne_str (zay I q (congrArg not zfK))
  |_=>exact absurd (show false=true from hs) Bool.false_ne_true
 |byt i=>
  obtain⟨t,rfl⟩:=rx
  cases y with
  |byt j=>obtain⟨t',rfl⟩:=ry;exact PySem.W.ne_bytes (zay I q (congrArg not zfL))
  |_=>exact absurd (show false=true from hs) Bool.false_ne_true
 |_=>cases y<;>exact absurd (show false=true from hs) Bool.false_ne_true
theorem zfM:OpR X (compareOp .Lt) (rI0 fun i j=>.bl (decide (i<j))):=opB0 fun _ _ _ _ _ _ _ q=>lt_int q
theorem zjR:OpR X (compareOp .LtE) (rI0 fun i j=>.bl (decide (i<=j))):=opB0 fun _ _ _ _ _ _ _ q=>le_int q
theorem zi4:OpR X (compareOp .Gt) (rI0 fun i j=>.bl (decide (j<i))):=opB0 fun _ _ _ _ _ _ _ q=>gt_int q
theorem zjS:OpR X (compareOp .GtE) (rI0 fun i j=>.bl (decide (j<=i))):=opB0 fun _ _ _ _ _ _ _ q=>ge_int q
theorem zaV (b:Expr){op:CmpOp}(h:op≠.In:=by decide)(h2:op≠.NotIn:=by decide):behindInMarks op b=false:=by
 have e1:(op==CmpOp.In)=false:=by cases op<;>first|rfl|exact absurd rfl h
 have e2:(op==CmpOp.NotIn)=false:=by cases op<;>first|rfl|exact absurd rfl h2
 cases b<;>simp[behindInMarks,e1,e2]
theorem zc9 {op:CmpOp}{r:R2}(ho:OpR X (compareOp op) r)(ha:PE X a ta)(hb:PE X b tb)(hm:behindInMarks op b=false):PE X (.Compare a [op] [b] pos) (tOp r ta tb):=by
 intro pins s σ H Q I h
 exact wpAny_Compare1 (binT ha hb I h fun v u s2 x y H2 I2 rx ry q=>ho pins s2 σ H2 x y v u Q I2 rx ry q) hm
noncomputable def zi5 (t:TE):TT:=fun σ H Q=>t σ H fun x H'=>∃k,x=.bl k/\Q k H'
theorem zaN {op:CmpOp}{r:R2}(ho:OpR X (compareOp op) r)(ha:PE X a ta)(hb:PE X b tb)(hm:behindInMarks op b=false):PT X (.Compare a [op] [b] pos) (zi5 (tOp r ta tb)):=by
 intro pins s σ H Q I h
 refine wpAny_isTrue_Compare1 (thn (ha pins s σ H _ I h) fun v s1 ⟨x,H1,I1,r1,q1⟩=>thn (hb pins s1 σ H1 _ I1 q1) fun u s2 ⟨y,H2,I2,r2,q2⟩=>
  thn (ho pins s2 σ H2 x y v u _ I2 r1 r2 q2) fun c s3 ⟨z,H3,I3,r3,k,e,q3⟩=> ?_) hm
 subst e
 cases r3
 exact wpAny_truthy_bool ⟨H3,I3,q3⟩
noncomputable def zi6 (r r':R2)(ta tb tc:TE):TE:=fun σ H Q=>ta σ H fun x H1=>tb σ H1 fun y H2=>r x y H2 fun z H3=>∃k,z=.bl k/\
 (if k=true then tc σ H3 fun w' H4=>r' y w' H4 Q else Q (.bl false) H3)
theorem zgR {op op':CmpOp}{r r':R2}(ho:OpR X (compareOp op) r)(ho':OpR X (compareOp op') r')(ha:PE X a ta)(hb:PE X b tb)(hc:PE X c tc)
  (hm:lastMarks [op,op'] [b,c]=false:=by with_unfolding_all rfl):PT X (.Compare a [op,op'] [b,c] pos) (zi5 (zi6 r r' ta tb tc)):=by
 intro pins s σ H Q I h
 refine isTrue_chain (thn (ha pins s σ H _ I h) fun v s1 ⟨x,H1,I1,r1,q1⟩=>test_link (thn (hb pins s1 σ H1 _ I1 q1) fun u s2 ⟨y,H2,I2,r2,q2⟩=>
  thn (ho pins s2 σ H2 x y v u _ I2 r1 r2 q2) fun d s3 ⟨z,H3,I3,r3,k,e,q3⟩=> ?_)) hm
 subst e
 cases r3
 refine wpAny_truthy_bool ?_
 cases k with
 |false=>
  obtain⟨k',e',q'⟩:=q3
  cases e'
  exact ite_ff ⟨H3,I3,q'⟩
 |true=>
  refine ite_tt (test_last (thn (hc pins s3 σ H3 _ I3 q3) fun w' s4 ⟨z',H4,I4,r4,q4⟩=>thn (ho' pins s4 σ H4 y z' u w' _ I4 r2 r4 q4) fun d' s5 ⟨z2,H5,I5,r5,k2,e2,q5⟩=> ?_))
  subst e2
  cases r5
  exact wpAny_truthy_bool ⟨H5,I5,q5⟩
theorem zeN:(sizeLine:Nat)<2^63:=by rw[sizeLine_eq];decide
theorem zb8 {x:V}{us:List Value}(r:Vals [x] us):∃u,us=[u]/\RelV x u:=by
 cases r with
 |cons r1 r2=>cases r2;exact⟨_,rfl,r1⟩
theorem zgS {x y:V}{us:List Value}(r:Vals [x,y] us):∃u w',us=[u,w']/\RelV x u/\RelV y w':=by
 cases r with
 |cons r1 r2=>
  cases r2 with
  |cons r3 r4=>cases r4;exact⟨_,_,rfl,r1,r3⟩
theorem zda:zbA X (.builtin "abs") (fun xs H Q=>∃i,xs=[.int i]/\Q (.int (if i<0 then-i else i)) H):=by
 intro pins s σ H xs us Q I r h
 obtain⟨i,rfl,q⟩:=h
 obtain⟨u,rfl,t,rfl⟩:=zb8 r
 exact call_abs_int fun u tk=>⟨.int (if i<0 then-i else i),H,I.tok _,⟨_,rfl⟩,q⟩
theorem zfN (hc:X.calm=true):zbA X (.builtin "max") (fun xs H Q=>∃i j,xs=[.int i,.int j]/\Q (.int (if j>i then j else i)) H):=by
 intro pins s σ H xs us Q I r h
 obtain⟨i,j,rfl,q⟩:=h
 obtain⟨u,w',rfl,⟨t,rfl⟩,⟨t',rfl⟩⟩:=zgS r
 refine max_two_ints (I.ok.hd hc) fun h' tk k=>⟨_,H,I.kept k, ?_,q⟩
 by_cases hj:j>i
 ·rw[if_pos hj,if_pos hj];exact⟨_,rfl⟩
 ·rw[if_neg hj,if_neg hj];exact⟨_,rfl⟩
theorem zcF:zbA X (.type "int") (fun xs H Q=>(∃i,xs=[.int i]/\Q (.int i) H)∨∃k,xs=[.bl k]/\Q (.int (if k then 1 else 0)) H):=by
 intro pins s σ H xs us Q I r h
 rcases h with⟨i,rfl,q⟩|⟨k,rfl,q⟩
 ·obtain ⟨u,rfl,t,rfl⟩:=zb8 r
  exact call_int_int ⟨.int i,H,I,⟨_,rfl⟩,q⟩
 ·obtain ⟨u,rfl,r1⟩:=zb8 r
  cases r1
  exact call_int_bool ⟨.int (if k then 1 else 0),H,I.tok _,⟨_,rfl⟩,q⟩
end
structure ObjM (h:Heap) (x dx C:Addr) (mA:Str->Option Value):Prop where
 obj:h.get? x=some (PySem.W.instObj C dx)
 ns:h.Ns1 dx mA
 ne:dx≠x
theorem zfO {h:Heap}{dx:Addr}{mA:Str->Option Value}(n:h.Ns1 dx mA):∃od,h.get? dx=some od/\∀name,PySem.W.lookIn name od=some (mA name):=by
 obtain⟨o,es,ep,ho,hd,hk,_,hm⟩:=n
 refine⟨o,ho,fun name=> ?_⟩
 have e:=hm name
 unfold nsFind findBy at e
 rw[<-Array.find?_toList] at e
 unfold PySem.W.lookIn
 rw[hd]
 dsimp only
 split
 ·rename_i y q
  rw[q] at e
  exact congrArg some e
 ·rename_i q
  rw[q] at e
  have a:es.toList.any (·.refKey)=false:=by
   rw[List.any_eq_false]
   intro y hy
   obtain⟨z,t,hkey⟩:=hk y (Array.mem_toList_iff.mp hy)
   simp[DictEntry.refKey,hkey]
  have a':¬es.toList.any (·.refKey)=true:=by rw[a];exact Bool.false_ne_true
  rw[if_neg a']
  exact congrArg some e
theorem ObjM.look {h:Heap}{x dx C:Addr}{mA:Str->Option Value}(I:ObjM h x dx C mA):∃od,PySem.W.InstAt h x (PySem.W.instObj C dx) C (some od)/\∀name,PySem.W.lookIn name od=some (mA name):=
 let ⟨od,ho,hl⟩:=zfO I.ns
 ⟨od,⟨I.obj,rfl,rfl,ho⟩,hl⟩
section
variable {prog:Program}{w:World}{A:Around}{E:Value->Shared->Prop}{s:Shared}{K:PySem.W.Frag}{x dx C f:Addr}{mA:Str->Option Value}{name:Str}{v:Value}
end
section
variable {P:Program}{w:World}{H H':Hp}{h h':Heap}{a C dx:Addr}{fs fs':List (Str×V)}
theorem zh6 (hok:HOk P w H h)(e:H a=some (.ins C dx fs)):∃mA,ObjM h a dx C mA/\(∀f,RelO (fs.lookup f) (mA f))/\PySem.Within mA (fs.map (·.1))/\fs.length<=1000/\H dx=some (.own a):=by
 obtain⟨d,z,ne,ob,mA,n,r,q⟩:=(show ObjOk P w H h a (.ins C dx fs) from hok a _ e)
 exact⟨mA,⟨ob,n,ne⟩,r,q,z,d⟩
end
structure Cls (K:PySem.W.Frag) (C:Addr):Prop where
 pg:PySem.W.plainGet K C Str.empty=true
 hd:PySem.W.hasDictIn K C=true
 po:PySem.W.plainOver K C=true
 sa:PySem.W.findIn K (.ref C) "__setattr__" =some (some (.builtin "object.__setattr__"))
theorem Cls.get {K:PySem.W.Frag}{C:Addr}(c:Cls K C)(f:Str):PySem.W.plainGet K C f=true:=c.pg
structure Con (K:PySem.W.Frag) (C:Addr) (f:Str) (v:V) (u:Value):Prop where
 at_:PySem.W.findIn K (.ref C) f=some (some u)
 rel:RelV v u
 get:PySem.W.specialIn K u "__get__" =some none
 cp:PySem.W.copiedNames.contains f=false
structure Meth (K:PySem.W.Frag) (C:Addr) (m:Str) (f:Addr):Prop where
 at_:PySem.W.findIn K (.ref C) m=some (some (.ref f))
 fn:PySem.W.isFn K (.ref f)=true
 kp:PySem.W.keepIn K (.ref f)=true
section
variable {X:Cx}{pins:List (Addr×Obj)}{σ:St}{H:Hp}{s:Shared}{a C dx:Addr}{fs:List (Str×V)}{f:Str}{v:V}{A:Around}{E:Value->Shared->Prop}
end
section
variable {X:Cx}{o e value:Expr}{f:Str}{pos pos' tpos:Pos}{ta tv:TE}
end
section
variable {X:Cx}{pins:List (Addr×Obj)}{σ:St}{H:Hp}{s:Shared}{A:Around}{E:Value->Shared->Prop}{Q:Value->Shared->Prop}{c:Value}{b:Bool}
inductive TyOf (K:PySem.W.Frag) (H:Hp):V->Value->Prop where
 |non:TyOf K H .non (.type "NoneType")
 |bl (x:Bool):TyOf K H (.bl x) (.type "bool")
 |int (i:Int):TyOf K H (.int i) (.type "int")
 |str (x:Str):TyOf K H (.str x) (.type "str")
 |flt (x:UInt64):TyOf K H (.flt x) (.type "float")
 |lst {a:Addr} {xs:List V} (e:H a=some (.lst xs)):TyOf K H (.ref a) (.type "list")
 |frz {a:Addr} {o:Obj} {xs:List V} (e:H a=some (.frz o (.lst xs))):TyOf K H (.ref a) (.type "list")
 |tup {a:Addr} {xs:List V} (e:H a=some (.tup xs)):TyOf K H (.ref a) (.type "tuple")
 |dK {a:Addr} {kvs:List (Key×V)} (e:H a=some (.dK kvs)):TyOf K H (.ref a) (.type "dict")
 |dT {a:Addr} {kvs:List (List Key×V)} (e:H a=some (.dT kvs)):TyOf K H (.ref a) (.type "dict")
 | ins {a C dx:Addr} {fs:List (Str×V)} (e:H a=some (.ins C dx fs)) (cl:Cls K C) (ha:PySem.W.findIn K (.ref C) "__class__" =some (some (.builtin "object.__class__")))
   (hn:PySem.W.specialIn K (.builtin "object.__class__") "__get__" =some (some (.builtin "getset_descriptor.__get__"))) (htk:PySem.W.takesIn K (.builtin "object.__class__")=some true)
   (hm:PySem.W.mroIn K C (.type "object")=some true):TyOf K H (.ref a) (.ref C)
theorem zfP {x:V}{u t:Value}(I:Inv X pins σ H s)(rx:RelV x u)(ty:TyOf X.K H x t)(e:PySem.W.kitOne X.K t c=some b)(h:∀tk,Q (.bool b) {s with toks:=tk}):
  wpAny (model X.prog X.w) A (call (.builtin "isinstance") [u,c]) Q E s:=by
 cases ty with
 |non=>cases (show u=Value.none from rx);exact PySem.W.kia_one PySem.W.kitx_none I.kIn True.intro e (fun z=>nomatch z) h
 |bl y=>cases (show u=Value.bool y from rx);exact PySem.W.kia_one PySem.W.kitx_bool I.kIn True.intro e (fun z=>nomatch z) h
 |int i=>obtain⟨t,q⟩:=(show ∃t,u=Value.int i t from rx);cases q;exact PySem.W.kia_one PySem.W.kitx_int I.kIn True.intro e (fun z=>nomatch z) h
 |str y=>obtain⟨t,q⟩:=(show ∃t,u=Value.str y t from rx);cases q;exact PySem.W.kia_one PySem.W.kitx_str I.kIn True.intro e (fun z=>nomatch z) h
 |flt y=>obtain⟨t,q⟩:=(show ∃t,u=Value.float y t from rx);cases q;exact PySem.W.kia_one PySem.W.kitx_float I.kIn True.intro e (fun z=>nomatch z) h
 |@lst a xs ea=>
  cases (show u=Value.ref a from rx)
  obtain⟨_,_,n,_,h1⟩:=(show ObjOk X.prog X.w H s.heap a (.lst xs) from I.hok a _ ea)
  exact PySem.W.kia_one PySem.W.kitx_list I.kIn ⟨_,h1,rfl⟩ e (fun z=>nomatch z) h
 |@frz a ob xs ea=>
  cases (show u=Value.ref a from rx)
  obtain⟨_,_,_,n,_,h1⟩:=(show ObjOk X.prog X.w H s.heap a (.frz ob (.lst xs)) from I.hok a _ ea)
  exact PySem.W.kia_one PySem.W.kitx_list I.kIn ⟨_,h1,rfl⟩ e (fun z=>nomatch z) h
 |@tup a xs ea=>
  cases (show u=Value.ref a from rx)
  obtain⟨_,_,_,p⟩:=(show ObjOk X.prog X.w H s.heap a (.tup xs) from I.hok a _ ea)
  obtain⟨o,h1,h2,_⟩:=p
  exact PySem.W.kia_one PySem.W.kitx_tuple I.kIn ⟨o,h1,h2⟩ e (fun z=>nomatch z) h
 |@dK a kvs ea=>
  cases (show u=Value.ref a from rx)
  obtain⟨_,_,vs,_,p⟩:=(show ObjOk X.prog X.w H s.heap a (.dK kvs) from I.hok a _ ea)
  obtain⟨o,es,ep,h1,h2,_⟩:=p
  exact PySem.W.kia_one PySem.W.kitx_dict I.kIn ⟨o,h1,h2.1⟩ e (fun z=>nomatch z) h
 |@dT a kvs ea=>
  cases (show u=Value.ref a from rx)
  obtain⟨_,_,xs,_,o,es,ep,h1,h2,_⟩:=(show ObjOk X.prog X.w H s.heap a (.dT kvs) from I.hok a _ ea)
  exact PySem.W.kia_one PySem.W.kitx_dict I.kIn ⟨o,h1,h2.1⟩ e (fun z=>nomatch z) h
 |@ins a C dx fs ea cl ha hn htk hm=>
  cases (show u=Value.ref a from rx)
  obtain⟨mA,O,_⟩:=zh6 I.hok ea
  obtain⟨od,J,_⟩:=O.look
  exact PySem.W.kia_one (PySem.W.kitx_own (cl.get _) cl.hd ha hn htk hm) I.kIn J e (fun z=>nomatch z) h
end
structure Room (k:Nat) (A:Around):Prop where
 hd:A.handled=none
 dp:A.depth+3*k+5<recursionLimit
 un:A.units+16*k+200<cLine
 gd:A.guards=some []
theorem Room.mono {j k:Nat}{A:Around}(r:Room k A)(h:j<=k):Room j A:=⟨r.hd,by have:=r.dp;(first|lia|omega),by have:=r.un;(first|lia|omega),r.gd⟩
theorem Room.deeper {k:Nat}{A:Around}(r:Room (k+1) A)(env:Env):Room k (A.deeper env):=
 ⟨r.hd,by have:=r.dp;show A.depth+1+3*k+5<_;(first|lia|omega),by have:=r.un;show A.units+3+16*k+200<_;(first|lia|omega),r.gd⟩
theorem Room.depth {k:Nat}{A:Around}(r:Room k A):A.depth<recursionLimit:=by have:=r.dp;(first|lia|omega)
theorem Room.units {k:Nat}{A:Around}(r:Room k A):A.units+64<cLine:=by have:=r.un;(first|lia|omega)
noncomputable def tNil:TA:=fun _ H Q=>Q [] H
noncomputable def zfQ (ta:TE)(tr:TA):TA:=fun σ H Q=>ta σ H fun x H1=>tr σ H1 fun xs H2=>Q (x::xs) H2
section
variable {X:Cx}{e:Expr}{es:List Expr}{te:TE}{t:TA}{pos:Pos}
theorem zad:PA X [] tNil:=fun _ _ _ _ H Q I h=>Calls.spliced_nil ⟨[],H,I,.nil,h⟩
theorem zaa (ha:PE X e te)(hr:PA X es t)(hs:starEach (e::es) X.env=(false,eval e X.env)::starEach es X.env:=by rfl):PA X (e::es) (zfQ te t):=by
 intro pos pins s σ H Q I h
 rw[hs]
 show wpAny _ _ (spliced ((false,eval e X.env)::backTo pos (starEach es X.env))) _ _ s
 refine Calls.spliced_cons (thn (ha pins s σ H _ I h) fun u s1 zq=> ?_)
 obtain⟨x,H1,I1,r1,q1⟩:=zq
 exact thn (hr pos pins s1 σ H1 _ I1 q1) fun us s2 ⟨xs,H2,I2,r2,q2⟩=>⟨x::xs,H2,I2,.cons r1 r2,q2⟩
noncomputable def tTup (t:TA):TE:=fun σ H Q=>t σ H fun xs H1=>xs.length<=sizeLine/\∀p,H1 p=none->Q (.ref p) (upd H1 p (.tup xs))
noncomputable def tLst (t:TA):TE:=fun σ H Q=>t σ H fun xs H1=>xs.length<=sizeLine/\∀p,H1 p=none->Q (.ref p) (upd H1 p (.lst xs))
theorem zaz {x1}(h:PA X es t):PE X (.Tuple es x1 pos) (tTup t):=by
 intro pins s σ H Q I hq
 refine wpAny_Tuple_spliced (thn (h pos pins s σ H _ I hq) fun us s1 ⟨xs,H1,I1,r,z,q⟩=>⟨by rw[<-r.length];exact z, ?_⟩)
 have hf:H1 s1.heap.objs.size=none:=I1.hok.fresh (Nat.le_refl _)
 refine⟨.ref s1.heap.objs.size,upd H1 s1.heap.objs.size (.tup xs),I1.laid (t':=s1.toks) (fun b u e=>Heap.get?_push_of_some _ e) (Nat.le_refl _) ?_,rfl,q _ hf⟩
 exact⟨z,us,r,PTup.new⟩
theorem zbd (h:PA X es t):PE X (.List es pos) (tLst t):=by
 intro pins s σ H Q I hq
 refine wpAny_List_spliced (thn (h pos pins s σ H _ I hq) fun us s1 ⟨xs,H1,I1,r,z,q⟩=>⟨by rw[<-r.length];exact z, ?_⟩)
 have hf:H1 s1.heap.objs.size=none:=I1.hok.fresh (Nat.le_refl _)
 refine⟨.ref s1.heap.objs.size,upd H1 s1.heap.objs.size (.lst xs),I1.laid (t':=s1.toks) (fun b u e=>Heap.get?_push_of_some _ e) (Nat.le_refl _) ?_,rfl,q _ hf⟩
 exact⟨z,us,0,r,Heap.get?_push_size _ rfl⟩
end
noncomputable abbrev Sp:=List V->Hp->VK->XK->Prop
noncomputable abbrev CXT:=List Env->Hp->Shared->XK->Value->Shared->Prop
structure Env0 (P:Program) (w:World) (K:PySem.W.Frag) (mg:Str->Option Value) (base:Heap) (A:Around) (outer:List Env) (s:Shared) (H:Hp):Prop where
 frames:A.frames=some outer
 mod:Mod K mg base
 bs:∀b o,base.get? b=some o->s.heap.get? b=some o/\H b=none
 bsz:base.objs.size<=s.heap.objs.size
 funs:s.heap.FunFrames base outer
 frf:∀b∈frs outer,H b=none
 hok:HOk P w H s.heap
 bare:AllBare s.gens
noncomputable def CE (outer:List Env)(P:Program)(w:World)(H:Hp)(s:Shared)(Q:VK)(u:Value)(s':Shared):Prop:=
 ∃v H',s'.os=s.os/\AllBare s'.gens/\Un (frs outer) [] H H' s.heap s'.heap/\HOk P w H' s'.heap/\RelV v u/\Q v H'
noncomputable def CR (CX:CXT)(outer:List Env)(P:Program)(w:World)(H:Hp)(s:Shared)(Q:VK)(E:XK)(r:Result)(s':Shared):Prop:=
 match r with
 | .ok (.ret u)=>CE outer P w H s Q u s'
 | .ok _=>False
 | .error e=>CX outer H s E e s'
structure FnOk (P:Program) (w:World) (K:PySem.W.Frag) (mg:Str->Option Value) (base:Heap) (CX:CXT) (k:Nat) (f:Addr) (fd:FuncData) (ps:List Str) (sp:Sp):Prop where
 len:∀vs H Q E,sp vs H Q E->vs.length=ps.length
 run:∀(A:Around) (outer:List Env) (s:Shared) (H:Hp) (args:Args) (us:List Value) (vs:List V) (Q:VK) (E:XK),Room k A->Env0 P w K mg base A outer s H->BindsTo s fd args (ps.zip us)->Vals vs us->sp vs H Q E->
  codeAny (model P w) A (.call (.ref f) args) (CR CX outer P w H s Q E) s
theorem FnOk.mono {P:Program}{w:World}{K:PySem.W.Frag}{mg:Str->Option Value}{base:Heap}{CX:CXT}{j k:Nat}{f:Addr}{fd:FuncData}{ps:List Str}{sp:Sp}(F:FnOk P w K mg base CX j f fd ps sp)(h:j<=k):
  FnOk P w K mg base CX k f fd ps sp:=⟨F.len,fun A outer s H args us vs Q E hr=>F.run A outer s H args us vs Q E (hr.mono h)⟩
section
variable {X:Cx}{pins:List (Addr×Obj)}{σ:St}{H:Hp}{s s':Shared}
theorem Inv.env0 (I:Inv X pins σ H s):Env0 X.prog X.w X.K X.mg X.base X.A X.stack s H:=
 ⟨I.ok.frames,I.ok.mod,I.bs,Nat.le_trans I.ok.bsz I.sz,I.stack,I.stkFree,I.hok,I.bare⟩
theorem Inv.after {Q:VK}{u:Value}(I:Inv X pins σ H s)(h:CE X.stack X.prog X.w H s Q u s'):EP X pins σ Q u s':=by
 obtain⟨v,H',os,bare,un,hok,r,q⟩:=h
 obtain⟨hh,g,d,t,os'⟩:=s'
 obtain rfl:os'=s.os:=os
 exact⟨v,H',I.call (h':=hh) (g':=g) (d':=d) (t':=t) (ch:=[]) un hok bare (fun b z=>absurd z (by simp)),r,q⟩
end
noncomputable def zi7 (sp:Sp)(dvs:List V)(E:XK)(t:TA):TE:=fun σ H Q=>t σ H fun vs H1=>sp (vs++dvs) H1 Q E
noncomputable def Binds (K:PySem.W.Frag)(fd:FuncData)(ps:List Str)(ds:List Value):Prop:=
 ∀(s:Shared) (us:List Value),K.In s.heap->(us++ds).length=ps.length->BindsTo s fd ⟨us,[]⟩ (ps.zip (us++ds))
theorem Binds.all {K:PySem.W.Frag}{fd:FuncData}{ps:List Str}(h:∀us:List Value,us.length=ps.length->bindArgs fd ⟨us,[]⟩=pure (ps.zip us)):Binds K fd ps []:=fun s us _ hl=>by
 rw[List.append_nil] at hl ⊢
 exact .of_eq (h us hl)
noncomputable def zeO (CX:CXT)(X:Cx)(E:XK):Prop:=∀(pins:List (Addr×Obj)) (σ:St) (H:Hp) (s:Shared) (e:Value) (s':Shared),Inv X pins σ H s->CX X.stack H s E e s'->X.xe e s'
section
variable {X:Cx}{CX:CXT}{k:Nat}{f C:Addr}{fd:FuncData}{ps:List Str}{sp:Sp}{dvs:List V}{ds:List Value}{E:XK}{x m:Str}{p pos apos:Pos}{e o:Expr}{es:List Expr}{ta:TE}{t:TA}
theorem zfR {pins:List (Addr×Obj)}{σ:St}{H:Hp}{s:Shared}{Q:VK}{us:List Value}{vs:List V}(F:FnOk X.prog X.w X.K X.mg X.base CX k f fd ps sp)(hr:Room k X.A)(hb:Binds X.K fd ps ds)(hd:Vals dvs ds)(hx:zeO CX X E)
  (I:Inv X pins σ H s) (r:Vals vs us) (h:sp (vs++dvs) H Q E):wpAny (model X.prog X.w) X.A (call (.ref f) us) (EP X pins σ Q) X.xe s:=by
 have r2:Vals (vs++dvs) (us++ds):=r.append hd
 have hl:(us++ds).length=ps.length:=by rw[<-r2.length];exact F.len _ _ _ _ h
 refine wpAny_call (codeAny_mono (F.run X.A X.stack s H ⟨us,[]⟩ (us++ds) (vs++dvs) Q E hr I.env0 (hb s us I.kIn hl) r2 h) fun r s' hq=> ?_)
 cases r with
 |error e=>exact hx pins σ H s e s' I hq
 |ok fl=>
  cases fl with
  |ret u=>exact I.after hq
  |next=>exact False.elim hq
  |brk=>exact False.elim hq
  |cont=>exact False.elim hq
theorem zh7 (F:FnOk X.prog X.w X.K X.mg X.base CX k f fd ps sp)(hr:Room k X.A)(hg:Gl X x)(hm:X.mg x=some (.ref f))(hk:PySem.W.keepIn X.K (.ref f)=true)(hb:Binds X.K fd ps ds)(hd:Vals dvs ds)(hx:zeO CX X E)
  (ha:PA X (e::es) t) (hdb:(x==("__debug__" :Str))=false:=by decide) (he:starEach (e::es) X.env=(false,eval e X.env)::starEach es X.env:=by rfl) (hpl:(backTo pos (starEach es X.env)).any (·.1)=false:=by rfl):
  PE X (.Call (.Name x p) (e::es) [] pos) (zi7 sp dvs E t):=by
 intro pins s σ H Q I h
 refine wpAny_Call_Name_kw (zee I hg hm ?_ hdb)
 refine PySem.W.callWith_K (h₀:=X.base) I.ok.mod.kin hk (thn (ha pos pins s σ H _ I h) fun us s1 ⟨vs,H1,I1,r,q⟩=>⟨I1.kIn, ?_⟩) he hpl
 exact zfR F hr hb hd hx I1 r q
theorem zgT (F:FnOk X.prog X.w X.K X.mg X.base CX k f fd ps sp)(hr:Room k X.A)(hg:Gl X x)(hm:X.mg x=some (.ref f))(hk:PySem.W.keepIn X.K (.ref f)=true)(hb:Binds X.K fd ps ds)(hd:Vals dvs ds)(hx:zeO CX X E)
  (hdb:(x==("__debug__" :Str))=false:=by decide):PE X (.Call (.Name x p) [] [] pos) (zi7 sp dvs E tNil):=by
 intro pins s σ H Q I h
 refine wpAny_Call_Name_kw (zee I hg hm ?_ hdb)
 exact PySem.W.callWith_K0 I.kIn hk (zfR (us:=[]) F hr hb hd hx I .nil h)
structure Mk (K:PySem.W.Frag) (C f:Addr):Prop where
 makes:PySem.W.makesIn K C=true
 init:PySem.W.findIn K (.ref C) "__init__" =some (some (.ref f))
 fn:PySem.W.isFn K (.ref f)=true
 kp:PySem.W.keepIn K (.ref C)=true
end
section
variable {X:Cx}{CX:CXT}{k:Nat}{f C:Addr}{fd:FuncData}{ps ks:List Str}{sp:Sp}{E:XK}{x m:Str}{p pos apos kpos:Pos}{e o:Expr}{es:List Expr}{kws:List Keyword}{te ta:TE}{t tk:TA}{nm:Option Str}
structure KBinds (K:PySem.W.Frag) (fd:FuncData) (ps ks:List Str) (g:List Value->List Value->List Value) (gV:List V->List V->List V):Prop where
 to:∀(s:Shared) (us ws:List Value),K.In s.heap->(g us ws).length=ps.length->BindsTo s fd ⟨us,ks.zip ws⟩ (ps.zip (g us ws))
 rel:∀{vs:List V} {us:List Value} {zs:List V} {ws:List Value},Vals vs us->Vals zs ws->Vals (gV vs zs) (g us ws)
variable {g:List Value->List Value->List Value}{gV:List V->List V->List V}
end
structure FnScope (N P:List Str) (sc:Scope):Prop where
 kind:sc.kind=.function
 co:sc.isCoroutine=false
 gen:sc.isGenerator=false
 nd:N.Nodup
 pre:N.take P.length=P
 par:∀x∈P,sc.names.lookup x=some .local∨sc.names.lookup x=some .cell
 nofree:∀y∈sc.names,y.2≠.free
theorem zdK {kindOf:Str->Option NameKind}{x:Str}:∀{binds:List (Str×Value)} {m:Str->Option Value},(∀v,(x,v)∉binds)->bindL kindOf binds m x=m x
 |[],_,_=>rfl
 | (n,v)::r,m,h=>by
  unfold bindL
  rw[zdK fun w hw=>h w (List.mem_cons_of_mem _ hw)]
  split
  ·have:x≠n:=by rintro rfl;exact h v List.mem_cons_self
   simp[this]
  ·rfl
theorem zdL {kindOf:Str->Option NameKind}{x:Str}:∀{binds:List (Str×Value)} {m:Str->Option Value},(∀v,(x,v)∉binds)->bindC kindOf binds m x=m x
 |[],_,_=>rfl
 | (n,v)::r,m,h=>by
  unfold bindC
  rw[zdL fun w hw=>h w (List.mem_cons_of_mem _ hw)]
  split
  ·rfl
  ·have:x≠n:=by rintro rfl;exact h v List.mem_cons_self
   simp[this]
theorem zdM {kindOf:Str->Option NameKind}{x:Str}{v:Value}:∀{P:List Str} {vs:List Value} {i:Nat} {m:Str->Option Value},P.Nodup->P[i]? =some x->vs[i]? =some v->kindOf x=some .local->
  bindL kindOf (P.zip vs) m x=some v
 |[],_,_,_,_,h,_,_=>by simp at h
 |_::_,[],_,_,_,_,h,_=>by simp at h
 |p::P,w::vs,0,m,nd,h1,h2,hk=>by
  simp at h1 h2;subst h1;subst h2
  show bindL kindOf ((p,w)::P.zip vs) m p=_
  unfold bindL
  rw[zdK fun v hv=>(List.nodup_cons.mp nd).1 (List.of_mem_zip hv).1,if_pos hk]
  simp
 |p::P,w::vs,i+1,m,nd,h1,h2,hk=>by
  show bindL kindOf ((p,w)::P.zip vs) m x=_
  unfold bindL
  exact zdM (i:=i) (List.nodup_cons.mp nd).2 (by simpa using h1) (by simpa using h2) hk
theorem zdN {kindOf:Str->Option NameKind}{x:Str}{v:Value}:∀{P:List Str} {vs:List Value} {i:Nat} {m:Str->Option Value},P.Nodup->P[i]? =some x->vs[i]? =some v->kindOf x≠some .local->
  bindC kindOf (P.zip vs) m x=some v
 |[],_,_,_,_,h,_,_=>by simp at h
 |_::_,[],_,_,_,_,h,_=>by simp at h
 |p::P,w::vs,0,m,nd,h1,h2,hk=>by
  simp at h1 h2;subst h1;subst h2
  show bindC kindOf ((p,w)::P.zip vs) m p=_
  unfold bindC
  rw[zdL fun v hv=>(List.nodup_cons.mp nd).1 (List.of_mem_zip hv).1,if_neg hk]
  simp
 |p::P,w::vs,i+1,m,nd,h1,h2,hk=>by
  show bindC kindOf ((p,w)::P.zip vs) m x=_
  unfold bindC
  exact zdN (i:=i) (List.nodup_cons.mp nd).2 (by simpa using h1) (by simpa using h2) hk
noncomputable def zdO (N:List Str)(vs:List V):St:=vs.map some++List.replicate (N.length-vs.length) none
noncomputable def cxOf (CX:CXT)(P:Program)(w:World)(K:PySem.W.Frag)(mg:Str->Option Value)(base:Heap)(N:List Str)(qual:Str)(scope:Scope)(f:Addr)(cd:Value)(A:Around)(outer:List Env)(s:Shared)(H:Hp)(E:XK):Cx where
 prog:=P
 w:=w
 K:=K
 mg:=mg
 base:=base
 A:=A.deeper (envOfC qual scope s.heap.objs.size f cd)
 N:=N
 s₀:=s
 H₀:=H
 env:=envOfC qual scope s.heap.objs.size f cd
 outer:=outer
 stack:=envOfC qual scope s.heap.objs.size f cd::outer
 ex:=[]
 calm:=true
 fn:=fun _=>true
 pn:=[]
 xe:=fun e s'=>wpAny (model P w) (A.deeper (envOfC qual scope s.heap.objs.size f cd)) («leaving» (envOfC qual scope s.heap.objs.size f cd) e) (fun _ s''=>CX outer H s E e s'') (fun e' s''=>CX outer H s E e' s'') s'
theorem zeP {sc:Scope}{n:Nat}{x:Str}(h:sc.names.lookup x=some .cell):∃c,(cellsFrom n sc.names []).lookup x=some c:=by
 have q:=PySem.W.cellsFrom_some sc.names n [] (.inl h)
 exact Option.isSome_iff_exists.mp q
theorem zfS {CX:CXT}{P:Program}{w:World}{K:PySem.W.Frag}{mg:Str->Option Value}{base:Heap}{N ps:List Str}{qual:Str}{scope:Scope}{f:Addr}{cd:Value}{A:Around}{outer:List Env}{s s1:Shared}{H:Hp}{E:XK}{us:List Value}{vs:List V}
  (S:FnScope N ps scope) (hd:A.handled=none) (e0:Env0 P w K mg base A outer s H) (hl:vs.length=ps.length) (r:Vals vs us)
  (x:InCallC s s.heap.objs.size (bindL (envOfC qual scope s.heap.objs.size f cd).kindOf (ps.zip us) fun _=>none) (cellsFrom (s.heap.objs.size+1) scope.names []) (bindC (envOfC qual scope s.heap.objs.size f cd).kindOf (ps.zip us) fun _=>none) s1):
  Inv (cxOf CX P w K mg base N qual scope f cd A outer s H E) [] (zdO N vs) H s1:=by
 have hpl:ps.length<=N.length:=by have:=congrArg List.length S.pre;rw[List.length_take] at this;(first|lia|omega)
 obtain⟨h1,tk,rfl,hk⟩:=x.done
 have noA:∀b:Addr,b∉(cxOf CX P w K mg base N qual scope f cd A outer s H E).ex:=fun b z=>absurd (show b∈([]:List Addr) from z) (by simp)
 refine⟨⟨e0.mod,S.kind,rfl,rfl,Nat.le_refl _,fun y z c h1 h2=> ?_,fun y hy=> ?_,fun y c _ h=> ?_,fun _=>hd,Around.frames_deeper e0.frames,.inr ⟨rfl,rfl⟩,fun b z=>absurd z (noA b),e0.bs,e0.bsz,fun b _ _=>noA b,fun b z=>absurd z (noA b),e0.funs,e0.frf⟩,
  rfl,e0.bare,Un.kept hk,⟨_,x.toInCall.ns,fun i y v h1 h2 h3=> ?_⟩,fun y c h=>⟨_,x.cell y c h⟩,e0.hok.fresh (Nat.le_refl _),fun y c h=> ?_,fun p hp=>absurd (show p∈([]:List (Addr×Obj)) from hp) (by simp),e0.hok.kept hk, ?_⟩
 ·exact name_of_addr x.apart (PySem.mem_of_lookup h1) (PySem.mem_of_lookup h2)
 ·have hy:scope.names.lookup y=some .cell∨scope.names.lookup y=some .free:=hy
  rcases hy with hy|hy
  ·exact zeP hy
  ·exact absurd rfl (S.nofree _ (PySem.mem_of_lookup hy))
 ·exact Nat.le_of_lt (x.above y c (PySem.mem_of_lookup h))
 ·have hi:i<vs.length:=by
   unfold zdO at h2
   by_cases hi:i<vs.length
   ·exact hi
   ·rw [List.getElem?_append_right (by simpa using hi)] at h2
    rw[List.getElem?_replicate] at h2
    split at h2<;>cases h2
  have ha:vs[i]? =some v:=by
   unfold zdO at h2
   rw[List.getElem?_append_left (by simpa using hi),List.getElem?_map] at h2
   cases e:vs[i]? with
   |none=>rw[e] at h2;cases h2
   |some a=>rw[e] at h2;cases h2;rfl
  obtain⟨u,hu,rv⟩:=r.get ha
  have hp:ps[i]? =some y:=by
   rw[<-S.pre,List.getElem?_take_of_lt (by (first|lia|omega))];exact h1
  have ndP:ps.Nodup:=by rw[<-S.pre];exact S.nd.sublist (List.take_sublist _ _)
  refine⟨u,rv, ?_⟩
  rcases S.par y (List.mem_of_getElem? hp) with k|k
  ·exact .inl ⟨k,zdM ndP hp hu k⟩
  ·obtain ⟨c,e⟩:=zeP (n:=s.heap.objs.size+1) k
   refine .inr ⟨.inl k,c,e, ?_⟩
   have q:=x.cell y c e
   rw[zdN ndP hp hu (by show scope.names.lookup y≠_;rw[k];decide)] at q
   exact q
 ·exact e0.hok.fresh (Nat.le_of_lt (x.above y c (PySem.mem_of_lookup h)))
 ·unfold zdO
  show _=N.length
  rw[List.length_append,List.length_map,List.length_replicate]
  (first|lia|omega)
theorem zjT {CX:CXT}{P:Program}{w:World}{K:PySem.W.Frag}{mg:Str->Option Value}{base:Heap}{k:Nat}{f:Addr}{name qual:Str}{params:Arguments}{body:List Stmt}{scope:Scope}{dV kV doc pm cdv ct oc:Value}{an od:Option Addr}
  {osl:Array (Option Value)} {N ps:List Str} {sp:Sp} (lk:K.lookup f=some ⟨oc,od,.func (PySem.W.fnOf name qual params body scope dV kV doc pm an cdv ct),osl⟩) (hcd:PySem.W.codeIn K cdv qual=true) (S:FnScope N ps scope)
  (len:∀vs H Q E,sp vs H Q E->vs.length=ps.length)
  (hbody:∀(A:Around) (outer:List Env) (s:Shared) (H:Hp) (vs:List V) (Q:VK) (E:XK),Room k (A.deeper (envOfC qual scope s.heap.objs.size f cdv))->sp vs H Q E->
   ∃t,PSs (cxOf CX P w K mg base N qual scope f cdv A outer s H E) body t/\t {nx:=fun _ H'=>Q .non H',rt:=Q} (zdO N vs) H):
  FnOk P w K mg base CX (k+1) f (PySem.W.fnOf name qual params body scope dV kV doc pm an cdv ct) ps sp:=by
 refine⟨len,fun A outer s H args us vs Q E hr e0 hb r hsp=> ?_⟩
 have hl:=len _ _ _ _ hsp
 have KX:K.In s.heap:=e0.mod.kin.keeps fun b o e=>(e0.bs b o e).1
 have lim:s.heap.NoLimit:=e0.mod.nolimit.keeps fun b o e=>(e0.bs b o e).1
 have hkind:∀y∈ps.zip us,scope.names.lookup y.1=some .local∨(scope.names.lookup y.1=some .cell/\((cellsFrom (s.heap.objs.size+1) scope.names []).lookup y.1).isSome=true):=fun ⟨n,v⟩ hy=>by
  rcases S.par n (List.of_mem_zip hy).1 with q|q
  ·exact .inl q
  ·exact .inr ⟨q,PySem.W.cellsFrom_some _ _ _ (.inl q)⟩
 refine codeAny_call_function hr.depth (KX _ _ lk) rfl S.co S.gen rfl (PySem.W.codeRec_of KX hcd) (hb _ _ _ _ ?_)
 refine wpAny_newFunctionEnv_cells S.kind hkind fun env he s1 x=> ?_
 subst he
 refine⟨lim.keeps x.toInCall.keep,codeAny_func ?_⟩
 obtain⟨t,ht,hq⟩:=hbody A outer s H vs Q E (hr.deeper _) hsp
 have I:Inv (cxOf CX P w K mg base N qual scope f cdv A outer s H E) [] (zdO N vs) H s1:=zfS S hr.hd e0 hl r x
 refine wpAny_mono (ht [] s1 (zdO N vs) H _ I hq) (fun fl s' hs=> ?_) fun e s' hs=>hs
 have fin:∀{σ':St} {H':Hp} {v:V} {u:Value},Inv (cxOf CX P w K mg base N qual scope f cdv A outer s H E) [] σ' H' s'->RelV v u->Q v H'->CE outer P w H s Q u s':=
  fun {σ' H' v u} J rv q=>⟨v,H',J.os,J.bare,J.base,J.hok,rv,q⟩
 cases fl with
 |ret u=>
  obtain⟨v,σ',H',J,rv,q⟩:=hs
  exact fin J rv q
 |next=>
  obtain⟨σ',H',J,q⟩:=hs
  exact fin (v:=V.non) (u:=Value.none) J rfl q
 |brk=>
  obtain⟨_,_,_,q⟩:=hs
  exact False.elim q
 |cont=>
  obtain⟨_,_,_,q⟩:=hs
  exact False.elim q
section
variable {X:Cx}{x:Str}{p pos:Pos}{e:Expr}{es:List Expr}{t:TA}{id T:String}{r:List V->Hp->VK->Prop}
noncomputable def tCB (r:List V->Hp->VK->Prop)(t:TA):TE:=fun σ H Q=>t σ H fun vs H1=>r vs H1 Q
theorem zal (hc:zbA X (.builtin id) r)(hg:Gl X x)(hm:X.mg x=none)(hv:bootBuiltins x=some (.builtin id))(ha:PA X (e::es) t)(hn:x≠ "__name__" :=by decide)(hdb:(x==("__debug__" :Str))=false:=by decide)
  (he:starEach (e::es) X.env=(false,eval e X.env)::starEach es X.env:=by rfl) (hpl:(backTo pos (starEach es X.env)).any (·.1)=false:=by rfl):PE X (.Call (.Name x p) (e::es) [] pos) (tCB r t):=by
 intro pins s σ H Q I h
 refine wpAny_Call_Name_kw (zcf I hg hm hv ?_ hn hdb)
 exact PyProof.Rows.callWith_builtin1 (thn (ha pos pins s σ H _ I h) fun us s1 ⟨vs,H1,I1,r1,q1⟩=>hc pins s1 σ H1 vs us Q I1 r1 q1) he hpl
theorem zaA (hc:zbA X (.type T) r)(hg:Gl X x)(hm:X.mg x=none)(hv:bootBuiltins x=some (.type T))(ha:PA X (e::es) t)(hn:x≠ "__name__" :=by decide)(hdb:(x==("__debug__" :Str))=false:=by decide)
  (he:starEach (e::es) X.env=(false,eval e X.env)::starEach es X.env:=by rfl) (hpl:(backTo pos (starEach es X.env)).any (·.1)=false:=by rfl):PE X (.Call (.Name x p) (e::es) [] pos) (tCB r t):=by
 intro pins s σ H Q I h
 refine wpAny_Call_Name_kw (zcf I hg hm hv ?_ hn hdb)
 exact PyProof.Rows.callWith_type1 (thn (ha pos pins s σ H _ I h) fun us s1 ⟨vs,H1,I1,r1,q1⟩=>hc pins s1 σ H1 vs us Q I1 r1 q1) he hpl
end
end L2
namespace HT
open PySem PyProof.Rows
section
open PySem.SeqAt
open PySem.AutoSeq1 (wpAny_loadPart')
open PySem.MeetsSeq PySem.MeetsSeq2 PySem.MeetsSeq3
end
section
variable {prog:Program}{w:World}{A:Around}{E:Value->Shared->Prop}{s:Shared}
theorem cat_tup {t b:Addr}{vs ws:List Value}{Q:Value->Shared->Prop}(ht:IsTup s.heap t vs.toArray)(hb:IsTup s.heap b ws.toArray)(hv:vs≠[])
  (h1:ws=[]->Q (.ref t) s) (h2:ws≠[]->Q (.ref s.heap.objs.size) {s with heap:=s.heap.push {cls:=.type "tuple",data:=.seq (vs++ws).toArray}})
  (hsz:vs.length+ws.length<=sizeLine):wpAny (model prog w) A (binaryOp .Add (.ref t) (.ref b)) Q E s:=by
 obtain⟨⟨cls,dd,data,sl⟩,ho,hc,n,hd⟩:=id ht
 obtain⟨⟨cls2,dd2,data2,sl2⟩,ho2,hc2,n2,hd2⟩:=id hb
 simp only at hc hd hc2 hd2
 subst hc hd hc2 hd2
 have e:vs.toArray++ws.toArray=(vs++ws).toArray:=by simp
 by_cases hw:ws=[]
 ·exact concat_meets ⟨_,ho,rfl⟩ ⟨_,ho2,rfl⟩ noFill_tuple_add seq_tuple_add PySem.F.slot_tuple_add PySem.F.entry_tuple_add (PySem.F.args_tuple_add_2 _ _)
   (tuple_addW1 t b vs.toArray ws.toArray n n2 dd dd2 sl sl2 (by simpa using hv) (by simp[hw])) ⟨ho,ho2,h1 hw⟩
 ·refine concat_meets ⟨_,ho,rfl⟩ ⟨_,ho2,rfl⟩ noFill_tuple_add seq_tuple_add PySem.F.slot_tuple_add PySem.F.entry_tuple_add (PySem.F.args_tuple_add_2 _ _)
   (tuple_addW2 t b vs.toArray ws.toArray n n2 dd dd2 sl sl2 (by simpa using hv) (by simpa using hw) (by rw[List.size_toArray,List.size_toArray];exact hsz)) ⟨ho,ho2, ?_⟩
  rw[e]
  exact h2 hw
noncomputable def sIx (n d:Nat):Option Int->Nat
 |none=>d
 |some v=>if v<0 then (v+(n:Int)).toNat else min v.toNat n
theorem sIx_none (n d:Nat):sIx n d none=d:=rfl
theorem sIx_nat (n d k:Nat):sIx n d (some (k:Int))=min k n:=by
 show (if (k:Int)<0 then ((k:Int)+(n:Int)).toNat else min (k:Int).toNat n)=min k n
 rw[if_neg (by (first|lia|omega)),Int.toNat_natCast]
theorem zi8 (n d:Nat)(hd:d<=n)(o:Option Int):sIx n d o<=n:=by
 cases o with
 |none=>exact hd
 |some v=>
  show (if v<0 then (v+(n:Int)).toNat else min v.toNat n)<=n
  by_cases hv:v<0
  ·rw[if_pos hv];(first|lia|omega)
  ·rw[if_neg hv];exact Nat.min_le_right _ _
theorem zfT (v:Int)(n d:Nat):(if v<0 then max (v+(n:Int)) 0 else min v (n:Int))=((sIx n d (some v):Nat):Int):=by
 show (if v<0 then max (v+(n:Int)) 0 else min v (n:Int))=(((if v<0 then (v+(n:Int)).toNat else min v.toNat n):Nat):Int)
 by_cases hv:v<0
 ·simp only[if_pos hv];(first|lia|omega)
 ·simp only[if_neg hv];(first|lia|omega)
theorem zfg (lo hi:Option Int)(n:Nat):Builtin.Slice.sliceAdjust lo hi 1 (n:Int)=(((sIx n 0 lo:Nat):Int),((sIx n n hi:Nat):Int)):=by
 have h1:¬((1:Int)<0):=by (first|lia|omega)
 unfold Builtin.Slice.sliceAdjust
 simp only[h1,if_false]
 refine Prod.ext ?_ ?_
 ·cases lo with
  |none=>rfl
  |some v=>exact zfT v n 0
 ·cases hi with
  |none=>rfl
  |some v=>exact zfT v n n
theorem zfh (i j:Nat):Builtin.Slice.slicePlaces (i:Int) (j:Int) 1=j-i:=by
 unfold Builtin.Slice.slicePlaces
 have h1:(1:Int)>0:=by (first|lia|omega)
 simp only[h1,if_true,Int.ediv_one]
 split<;>(first|lia|omega)
theorem zc0 {v:Value}{o:Option Int}{Q:Option Int->Shared->Prop}(p:IsPart v o)(h:Q o s):wpAny (model prog w) A (Builtin.Slice.slicePartIndex v) Q E s:=by
 cases p with
 |none=>exact slicePart_none h
 |int i t=>exact slicePart_int h
theorem sliceApplied_gen {sl:Addr}{vl vu:Value}{lo hi:Option Int}{n:Nat}{Q:Int×Int×Nat->Shared->Prop}(hs:s.heap.IsSliceOf sl vl vu .none)(pl:IsPart vl lo)(pu:IsPart vu hi)
  (h:Q (((sIx n 0 lo:Nat):Int),1,sIx n n hi-sIx n 0 lo) s):wpAny (model prog w) A (Builtin.Slice.sliceApplied (.ref sl) (pure (n:Int))) Q E s:=by
 obtain⟨os,hos,hcs,hds⟩:=id hs
 unfold Builtin.Slice.sliceApplied Builtin.Slice.sliceFields
 refine wpAny_bind (wpAny_bind (wpAny_field hos hds (x:=vl) rfl (wpAny_bind (wpAny_field hos hds (x:=vu) rfl (wpAny_bind (wpAny_field hos hds (x:=.none) rfl (wpAny_pure ?_)))))))
 refine wpAny_bind (slicePart_none ?_)
 show wpAny _ _ (if ((1:Int)==0)=true then _ else _) _ _ s
 rw[if_neg (by decide)]
 refine wpAny_bind (zc0 pl (wpAny_bind (zc0 pu (wpAny_bind (wpAny_pure ?_)))))
 show wpAny _ _ (match Builtin.Slice.sliceAdjust lo hi 1 (n:Int) with|(lo,hi)=>pure (lo,(1:Int),Builtin.Slice.slicePlaces lo hi 1)) _ _ s
 rw[zfg lo hi n]
 show wpAny _ _ (pure (((sIx n 0 lo:Nat):Int),(1:Int),Builtin.Slice.slicePlaces ((sIx n 0 lo:Nat):Int) ((sIx n n hi:Nat):Int) 1)) _ _ s
 rw[zfh]
 exact wpAny_pure h
theorem zgU (xs:Array Value)(i k:Nat):((List.range k).filterMap fun (m:Nat)=>xs[((i:Int)+(m:Int)*1).toNat]?).toArray=((xs.toList.drop i).take k).toArray:=by
 have e:(fun (m:Nat)=>xs[((i:Int)+(m:Int)*1).toNat]?)=fun m=>xs[i+m]? :=by
  funext m
  have:((i:Int)+(m:Int)*1).toNat=i+m:=by (first|lia|omega)
  rw[this]
 rw[e]
 have:=pick_run xs i k
 rw[List.filterMap_map] at this
 have e2:((fun x=>xs[x]?)∘fun x=>i+x)=fun m=>xs[i+m]? :=rfl
 rw[e2] at this
 rw[this]
theorem getItem_tuple_cut {t sl:Addr}{items:Array Value}{vl vu:Value}{lo hi:Option Int}{Q:Value->Shared->Prop}(ht:IsTup s.heap t items)(hs:s.heap.IsSliceOf sl vl vu .none)(pl:IsPart vl lo)(pu:IsPart vu hi)
  (hw:¬(sIx items.size 0 lo=0/\sIx items.size items.size hi=items.size))
  (h:Q (.ref s.heap.objs.size) {s with heap:=s.heap.push {cls:=.type "tuple",data:=.seq ((items.toList.drop (sIx items.size 0 lo)).take (sIx items.size items.size hi-sIx items.size 0 lo)).toArray}})
  (hsz:items.size<=sizeLine):wpAny (model prog w) A (getItem (.ref t) (.ref sl)) Q E s:=by
 have htake:sizeOk (.seq ((items.toList.drop (sIx items.size 0 lo)).take (sIx items.size items.size hi-sIx items.size 0 lo)).toArray):=by
  show ((items.toList.drop (sIx items.size 0 lo)).take (sIx items.size items.size hi-sIx items.size 0 lo)).toArray.size<=sizeLine
  rw[List.size_toArray,List.length_take,List.length_drop,Array.length_toList]
  (first|lia|omega)
 have hj:sIx items.size items.size hi<=items.size:=zi8 _ _ (Nat.le_refl _) hi
 obtain⟨os,hos,hcs,hds⟩:=id hs
 have hTs:s.TypeIs (.ref sl) "slice" :=⟨os,hos,hcs⟩
 unfold getItem
 try with_reducible refine wpAny_holding ?_
 first|refine wpAny_bind (wpAny_pure ?_)|skip
 refine wpAny_bind (wpAny_sequenceKey ht.typeIs (by decide) ?_)
 refine wpAny_bind (wpAny_callSpecial?_slot (name:=Str.ofString "__getitem__") ht.typeIs PyProof.Rows.slot_tuple_getitem
  (wpAny_call_entry PyProof.Rows.slot_tuple_getitem ht.typeIs entry_tuple_getitem ?_ (args_tuple_getitem _ _)))
 show wpAny _ _ (Builtin.Tuple.tupleItemsOf (.ref t) >>= _) _ _ s
 refine wpAny_bind (tupleItemsOf_ ht ?_)
 refine wpAny_bind (wpAny_typeOf hTs ?_)
 rw[if_pos (by decide)]
 refine wpAny_bind (sliceApplied_gen hs pl pu ?_)
 have hno:¬((((sIx items.size 0 lo:Nat):Int)==0&&(1:Int)==1&&(sIx items.size items.size hi-sIx items.size 0 lo)==items.size)=true):=by
  intro q
  rw[Bool.and_eq_true,Bool.and_eq_true] at q
  have q1:((sIx items.size 0 lo:Nat):Int)=0:=eq_of_beq q.1.1
  have q2:sIx items.size items.size hi-sIx items.size 0 lo=items.size:=eq_of_beq q.2
  exact hw ⟨by (first|lia|omega),by (first|lia|omega)⟩
 show wpAny _ _ (if (((sIx items.size 0 lo:Nat):Int)==0&&(1:Int)==1&&(sIx items.size items.size hi-sIx items.size 0 lo)==items.size)=true then _ else _) _ _ s
 rw[if_neg hno,zgU]
 first
  |exact wpAny_bind (m:=Builtin.Tuple.tupleExact _) (wpAny_newObj_type (wpAny_pure ⟨_,rfl,wpAny_pure h⟩) htake)
  |exact wpAny_bind (m:=Builtin.Tuple.tupleExact _) (wpAny_newObj_type (wpAny_bind (wpAny_pure (wpAny_pure ⟨_,rfl,wpAny_pure h⟩))) htake)
  |exact wpAny_bind (wpAny_bind (m:=Builtin.Tuple.tupleExact _) (wpAny_newObj_type (wpAny_pure (wpAny_pure ⟨_,rfl,wpAny_pure h⟩)) htake))
  |exact wpAny_bind (wpAny_bind (m:=Builtin.Tuple.tupleExact _) (wpAny_newObj_type (wpAny_pure ⟨_,rfl,wpAny_pure h⟩) htake))
end
end HT
namespace L2
open PySem PySem.Spec PyProof.Rows
noncomputable abbrev TO:=St->Hp->(Option Int->Hp->Prop)->Prop
noncomputable def PO (X:Cx)(e:Option Expr)(t:TO):Prop:=
 ∀(pins:List (Addr×Obj)) (s:Shared) (σ:St) (H:Hp) (Q:Option Int->Hp->Prop),Inv X pins σ H s->t σ H Q->
  wpAny (model X.prog X.w) X.A (evalPart e X.env) (fun u s'=>∃o H',Inv X pins σ H' s'/\IsPart u o/\Q o H') X.xe s
noncomputable def zh8:TO:=fun _ H Q=>Q none H
noncomputable def zjU (t:TE):TO:=fun σ H Q=>t σ H fun x H1=>∃i,x=.int i/\Q (some i) H1
theorem zb9 {ns:List Int}:∀{us:List Value},Vals (ns.map V.int) us->IntsAre us ns:=by
 induction ns with
 |nil=>intro us r;rw[List.map_nil] at r;cases r;exact .nil
 | cons n ns ih=>
  intro us r
  rw[List.map_cons] at r
  cases r with
  |cons r1 r2=>
   obtain⟨t,e⟩:=r1
   subst e
   exact .cons n t (ih r2)
section
variable {X:Cx}{e:Expr}{te:TE}{lo hi:Option Expr}{tl th:TO}{pos p2:Pos}
theorem zeg:PO X none zh8:=by
 intro pins s σ H Q I h
 rw[evalPart_none]
 exact wpAny_pure ⟨none,H,I,.none,h⟩
theorem zcG (h:PE X e te):PO X (some e) (zjU te):=by
 intro pins s σ H Q I hw
 rw[evalPart_some]
 refine thn (h pins s σ H _ I hw) fun u s1 zq=> ?_
 obtain⟨x,H1,I1,r1,q1⟩:=zq
 obtain⟨i,rfl,q⟩:=q1
 obtain⟨t,rfl⟩:=r1
 exact⟨some i,H1,I1,.int i t,q⟩
noncomputable def SlR (X:Cx)(r:V->Option Int->Option Int->Hp->VK->Prop):Prop:=
 ∀(pins:List (Addr×Obj)) (s:Shared) (σ:St) (H:Hp) (x:V) (v vl vu:Value) (lo hi:Option Int) (sl:Addr) (Q:VK),Inv X pins σ H s->RelV x v->s.heap.IsSliceOf sl vl vu .none->IsPart vl lo->IsPart vu hi->r x lo hi H Q->
  ∃T id,typeLookup (.type T) "__getitem__" =pure (some (.builtin id))/\s.TypeIs v T/\wpAny (model X.prog X.w) X.A (getItem v (.ref sl)) (EP X pins σ Q) X.xe s
noncomputable def tSl (r:V->Option Int->Option Int->Hp->VK->Prop)(te:TE)(tl th:TO):TE:=fun σ H Q=>te σ H fun x H1=>tl σ H1 fun l H2=>th σ H2 fun u H3=>r x l u H3 Q
theorem zct {r:V->Option Int->Option Int->Hp->VK->Prop}(hr:SlR X r)(he:PE X e te)(hl:PO X lo tl)(hu:PO X hi th):PE X (.Subscript e (.Slice lo hi none p2) pos) (tSl r te tl th):=by
 intro pins s σ H Q I h
 refine Subscript_ (thn (he pins s σ H _ I h) fun v s1 zq=> ?_)
 obtain⟨x,H1,I1,r1,q1⟩:=zq
 refine wpAny_Slice (thn (hl pins s1 σ H1 _ I1 q1) fun vl s2 ⟨l,H2,I2,pl,q2⟩=>thn (hu pins s2 σ H2 _ I2 q2) fun vu s3 ⟨u,H3,I3,pu,q3⟩=> ?_)
 rw[evalPart_none]
 refine wpAny_pure ?_
 have I4:Inv X pins σ H3 {s3 with heap:=s3.heap.push {cls:=.type "slice",data:=.fields #[vl,vu,.none]}}:=I3.kept (t':=s3.toks) fun b ob q=>Heap.get?_push_of_some _ q
 obtain⟨T,id,hT,ht,hg⟩:=hr pins {s3 with heap:=s3.heap.push {cls:=.type "slice",data:=.fields #[vl,vu,.none]}} σ H3 x v vl vu l u s3.heap.objs.size Q I4 r1 (Heap.IsSliceOf.new ..) pl pu q3
 show wpAny (model X.prog X.w) X.A (subscriptTail e (.Slice lo hi none p2) v (.ref s3.heap.objs.size)) (EP X pins σ Q) X.xe {s3 with heap:=s3.heap.push {cls:=.type "slice",data:=.fields #[vl,vu,.none]}}
 exact tail_any (ops:=[.ref s3.heap.objs.size,v]) ht hT hg (by with_unfolding_all rfl)
noncomputable def cutV (xs:List V)(lo hi:Option Int):List V:=(xs.drop (HT.sIx xs.length 0 lo)).take (HT.sIx xs.length xs.length hi-HT.sIx xs.length 0 lo)
theorem zcH (xs:List V)(lo hi:Option Int):(cutV xs lo hi).length<=xs.length:=by
 unfold cutV
 rw[List.length_take,List.length_drop]
 (first|lia|omega)
noncomputable def rSlT (K:PySem.W.Frag):V->Option Int->Option Int->Hp->VK->Prop:=fun x lo hi H Q=>∃a xs,x=.ref a/\SqT K H a xs/\
 ¬(HT.sIx xs.length 0 lo=0/\HT.sIx xs.length xs.length hi=xs.length)/\∀p,H p=none->Q (.ref p) (upd H p (.tup (cutV xs lo hi)))
theorem zhS:SlR X (rSlT X.K):=by
 intro pins s σ H x v vl vu lo hi sl Q I rx hs pl pu h
 obtain⟨a,xs,rfl,hx,hw,q⟩:=h
 cases rx
 obtain⟨its,r,ht,hz⟩:=I.tuple hx
 have hlen:its.toArray.size=xs.length:=by rw[List.size_toArray];exact r.length.symm
 refine⟨"tuple",_,PyProof.Rows.slot_tuple_getitem.lookup,ht.typeIs, ?_⟩
 refine HT.getItem_tuple_cut ht hs pl pu (by rw[hlen];exact hw) ?_ (by rw[hlen];exact hz)
 rw[hlen]
 refine⟨.ref s.heap.objs.size,_,I.laid (t':=s.toks) (o:=.tup (cutV xs lo hi)) (fun b ob q=>Heap.get?_push_of_some _ q) (Nat.le_refl _) ?_,rfl,q _ (I.hok.fresh (Nat.le_refl _))⟩
 exact⟨Nat.le_trans (zcH xs lo hi) hz,_,(r.drop (HT.sIx xs.length 0 lo)).take (HT.sIx xs.length xs.length hi-HT.sIx xs.length 0 lo),PTup.new⟩
noncomputable def zjV (K:PySem.W.Frag):R2:=fun x y H Q=>∃a b xs ys,x=.ref a/\y=.ref b/\SqT K H a xs/\SqT K H b ys/\xs≠[]/\xs.length+ys.length<=sizeLine/\
 (ys=[]->Q (.ref a) H)/\(ys≠[]->∀p,H p=none->Q (.ref p) (upd H p (.tup (xs++ys))))
theorem Vals.nil_iff {xs:List V}{us:List Value}(r:Vals xs us):us=[]↔xs=[]:=by
 cases r with
 |nil=>simp
 |cons _ _=>simp
theorem zh9:OpR X (binaryOp .Add) (zjV X.K):=by
 intro pins s σ H x y v u Q I rx ry h
 obtain⟨a,b,xs,ys,rfl,rfl,ha,hb,hx,hz,q1,q2⟩:=h
 cases rx
 cases ry
 obtain⟨its,r1,p1,_⟩:=I.tuple ha
 obtain⟨its2,r2,p2,_⟩:=I.tuple hb
 refine HT.cat_tup p1 p2 (fun z=>hx (r1.nil_iff.mp z)) (fun z=>⟨.ref a,H,I,rfl,q1 (r2.nil_iff.mp z)⟩) (fun z=> ?_) (by rw[<-r1.length,<-r2.length];exact hz)
 refine⟨.ref s.heap.objs.size,_,I.laid (t':=s.toks) (o:=.tup (xs++ys)) (fun b ob q=>Heap.get?_push_of_some _ q) (Nat.le_refl _) ?_,rfl,q2 (fun w=>z (r2.nil_iff.mpr w)) _ (I.hok.fresh (Nat.le_refl _))⟩
 exact⟨by rw[List.length_append];exact hz,_,r1.append r2,PTup.new⟩
end
noncomputable def ixN (n:Nat)(i:Int):Option Nat:=if 0<=i then (if i<n then some i.toNat else none) else if-(n:Int)<=i then some (i+n).toNat else none
noncomputable def atI {α:Type}(xs:List α)(i:Int):Option α:=(ixN xs.length i).bind fun j=>xs[j]?
theorem zfU {n:Nat}{i:Int}{j:Nat}(h:ixN n i=some j):seqIndex? i n=some j/\j<n/\-(n:Int)<=i/\i<n:=by
 unfold ixN at h
 by_cases h0:0<=i
 ·rw [if_pos h0] at h
  by_cases h1:i<n
  ·rw [if_pos h1] at h
   have e:i.toNat=j:=Option.some.inj h
   exact⟨by rw[seqIndex_of h0 h1,e],by (first|lia|omega),by (first|lia|omega),h1⟩
  ·rw[if_neg h1] at h;cases h
 ·rw [if_neg h0] at h
  by_cases h1:-(n:Int)<=i
  ·rw [if_pos h1] at h
   have e:(i+n).toNat=j:=Option.some.inj h
   exact⟨by rw[seqIndex_neg (by (first|lia|omega)) h1,e],by (first|lia|omega),h1,by (first|lia|omega)⟩
  ·rw[if_neg h1] at h;cases h
theorem zfV {α:Type}{xs:List α}{i:Int}{v:α}(h:atI xs i=some v):∃j,seqIndex? i xs.length=some j/\xs[j]? =some v/\j<xs.length/\-(xs.length:Int)<=i/\i<xs.length:=by
 unfold atI at h
 cases e:ixN xs.length i with
 |none=>rw[e] at h;cases h
 |some j=>
  rw[e] at h
  obtain⟨h1,h2,h3,h4⟩:=zfU e
  exact⟨j,h1,h,h2,h3,h4⟩
theorem zat {α:Type}{xs:List α}{j:Nat}{v:α}(h:xs[j]? =some v):atI xs (j:Int)=some v:=by
 have hj:j<xs.length:=(List.getElem?_eq_some_iff.mp h).1
 have e:ixN xs.length (j:Int)=some j:=by
  unfold ixN
  rw[if_pos (by (first|lia|omega)),if_pos (by (first|lia|omega))];simp
 unfold atI;rw[e];exact h
noncomputable def zia (b:Expr):Prop:=∀o i,subscripted b false o i=operate [o,i] (getItem o i)
noncomputable def IxR (X:Cx)(r:R2):Prop:=
 ∀(value slice:Expr) (pins:List (Addr×Obj)) (s:Shared) (σ:St) (H:Hp) (x y:V) (v u:Value) (Q:VK),Inv X pins σ H s->RelV x v->RelV y u->r x y H Q->
  subscripted slice false v u=operate [v,u] (getItem v u)->wpAny (model X.prog X.w) X.A (subscriptTail value slice v u) (EP X pins σ Q) X.xe s
noncomputable def MtR (X:Cx)(id:String)(r:V->List V->Hp->VK->Prop):Prop:=
 ∀(pins:List (Addr×Obj)) (s:Shared) (σ:St) (H:Hp) (x:V) (xs:List V) (v:Value) (us:List Value) (Q:VK),Inv X pins σ H s->RelV x v->Vals xs us->r x xs H Q->
  wpAny (model X.prog X.w) X.A (call (.builtin id) (v::us)) (EP X pins σ Q) X.xe s
section
variable {X:Cx}{a b:Expr}{ta tb:TE}{pos:Pos}
theorem zaF {r:R2}(hr:IxR X r)(ha:PE X a ta)(hb:PE X b tb)(hs:zia b):PE X (.Subscript a b pos) (tOp r ta tb):=by
 intro pins s σ H Q I h
 exact Subscript_ (binT ha hb I h fun v u s2 x y H2 I2 rx ry q=>hr a b pins s2 σ H2 x y v u Q I2 rx ry q (hs _ _))
noncomputable def rIxL (K:PySem.W.Frag):R2:=fun x y H Q=>∃p xs i v,x=.ref p/\y=.int i/\SqL K H p xs/\atI xs i=some v/\Q v H
noncomputable def rIxT (K:PySem.W.Frag):R2:=fun x y H Q=>∃p xs i v,x=.ref p/\y=.int i/\SqT K H p xs/\atI xs i=some v/\Q v H
theorem zaR:IxR X (rIxL X.K):=by
 intro value slice pins s σ H x y v u Q I rx ry h hs
 obtain⟨p,xs,i,z,rfl,rfl,hq,he,q⟩:=h
 cases rx
 obtain⟨t,rfl⟩:=ry
 obtain⟨its,r,pl,hz⟩:=I.list hq
 obtain⟨j,h1,h2,h3,h4,h5⟩:=zfV he
 obtain⟨w,ew,rw'⟩:=r.get h2
 have hl:=r.length
 have hn:=zeN
 have fin:EP X pins σ Q w s:=⟨z,H,I,rw',q⟩
 by_cases h0:0<=i
 ·have hj:i.toNat=j:=by
   rw[seqIndex_of h0 h5] at h1
   exact Option.some.inj h1
  exact item_listR pl.isList h0 (by (first|lia|omega)) (by rw[hj];simpa using ew) fin hs
 ·have hj:(i+(its.toArray.size:Int)).toNat=j:=by
   rw[seqIndex_neg (by (first|lia|omega)) h4] at h1
   rw[List.size_toArray,<-hl]
   exact Option.some.inj h1
  exact subscriptTail_builtinR (x:=w) pl.isList.typeIs slot_list_getitem.lookup
   (wpAny_getItem_list_neg (Q:=fun r s'=>r=w/\EP X pins σ Q r s') pl.isList (by (first|lia|omega)) (by rw[List.size_toArray]<;>(first|lia|omega)) (by (first|lia|omega)) (by rw[hj];simpa using ew) ⟨rfl,fin⟩) hs
theorem za8:IxR X (rIxT X.K):=by
 intro value slice pins s σ H x y v u Q I rx ry h hs
 obtain⟨p,xs,i,z,rfl,rfl,hq,he,q⟩:=h
 cases rx
 obtain⟨t,rfl⟩:=ry
 obtain⟨its,r,pl,hz⟩:=I.tuple hq
 obtain⟨j,h1,h2,h3,h4,h5⟩:=zfV he
 obtain⟨w,ew,rw'⟩:=r.get h2
 have hl:=r.length
 have hn:=zeN
 have fin:EP X pins σ Q w s:=⟨z,H,I,rw',q⟩
 exact subscriptTail_builtinR (x:=w) pl.typeIs slot_tuple_getitem.lookup
  (getItem_tuple (j:=j) (Q:=fun r s'=>r=w/\EP X pins σ Q r s') pl (by (first|lia|omega)) (by (first|lia|omega)) (by rw[List.size_toArray,<-hl];exact h1) (by simpa using ew) ⟨rfl,fin⟩) hs
theorem zfi (its:List Value)(n j:Nat)(u:Value):Obj.mapSeq (·.setIfInBounds j u) {cls:=.type "list",data:=.seq its.toArray n}={cls:=.type "list",data:=.seq (its.set j u).toArray n}:=by
 simp[Obj.mapSeq]
theorem Inv.lst {pins:List (Addr×Obj)}{σ:St}{H:Hp}{s:Shared}{p:Addr}{xs:List V}(I:Inv X pins σ H s)(h:H p=some (.lst xs)):
  ∃(its:List Value) (n:Nat),Vals xs its/\s.heap.get? p=some {cls:=.type "list",data:=.seq its.toArray n}/\xs.length<=sizeLine:=by
 obtain⟨z,its,n,r,e⟩:=I.hok p _ h
 exact⟨its,n,r,e,z⟩
theorem Inv.lstUpd {pins:List (Addr×Obj)}{σ:St}{H:Hp}{s:Shared}{p:Addr}{xs ys:List V}{its its':List Value}{n n':Nat}{f:Obj->Obj}(I:Inv X pins σ H s)(h:H p=some (.lst xs))
  (ho:s.heap.get? p=some {cls:=.type "list",data:=.seq its.toArray n}) (hf:f {cls:=.type "list",data:=.seq its.toArray n}={cls:=.type "list",data:=.seq its'.toArray n'}) (r:Vals ys its') (hz:ys.length<=sizeLine) (t:Nat):
  Inv X pins σ (upd H p (.lst ys)) {s with heap:=s.heap.update p f,toks:=t}:=by
 have e:(s.heap.update p f).get? p=some {cls:=.type "list",data:=.seq its'.toArray n'}:=by
  rw[Heap.get?_update_self f ho (by rw[hf]<;>rfl),hf]
 refine I.write (x:=p) (e:=p) (by rw[h];trivial) (.inl rfl) (fun b u hb q=>(Heap.get?_update_other _ _ (Ne.symm hb)).trans q) ⟨_,e⟩ ?_
 exact⟨hz,its',n',r,e⟩
noncomputable def zjW:V->V->V->Hp->(Hp->Prop)->Prop:=fun o i v H Q=>∃p xs k j,o=.ref p/\i=.int k/\H p=some (.lst xs)/\ixN xs.length k=some j/\Q (upd H p (.lst (xs.set j v)))
theorem zcu:PSet X zjW:=by
 intro pins s σ H o i v ov iv u Q I ro ri rv h
 obtain⟨p,xs,k,j,rfl,rfl,hp,hj,q⟩:=h
 cases ro
 obtain⟨t,rfl⟩:=ri
 obtain⟨its,n,r,ho,hz⟩:=I.lst hp
 obtain⟨h1,h2,h3,h4⟩:=zfU hj
 have hl:=r.length
 have hn:=zeN
 have I':Inv X pins σ (upd H p (.lst (xs.set j v))) {s with heap:=s.heap.update p (Obj.mapSeq (·.setIfInBounds j u))}:=
  I.lstUpd hp ho (zfi its n j u) (r.set rv j) (by rw[List.length_set];exact hz) s.toks
 by_cases h0:0<=k
 ·have hk:k.toNat=j:=by
   rw[seqIndex_of h0 h4] at h1
   exact Option.some.inj h1
  exact PySem.W.ki_setAt ho h0 (by (first|lia|omega)) (by rw[List.size_toArray,<-hl];exact h4) (by rw[hk];exact⟨_,I',q⟩)
 ·have hk:(k+(its.toArray.size:Int)).toNat=j:=by
   rw[seqIndex_neg (by (first|lia|omega)) h3] at h1
   rw[List.size_toArray,<-hl]
   exact Option.some.inj h1
  exact PySem.W.ki_setBack ho (by (first|lia|omega)) (by rw[List.size_toArray,<-hl];exact h3) (by (first|lia|omega)) (by rw[hk];exact⟨_,I',q⟩)
theorem zdP (lo hi:Option Int)(n:Nat):(sliceBounds lo hi none n).1=((HT.sIx n 0 lo:Nat):Int)/\(sliceBounds lo hi none n).2.1=((HT.sIx n n hi:Nat):Int)/\(sliceBounds lo hi none n).2.2=1:=by
 refine⟨?_, ?_,rfl⟩
 ·cases lo with
  |none=>simp[sliceBounds,HT.sIx]
  |some i=>
   simp only[sliceBounds,HT.sIx,Option.getD_none,show (1:Int)>0 by decide,if_true]
   by_cases h:i<0
   ·simp only[h,if_true]<;>(first|lia|omega)
   ·simp only[h,if_false]<;>(first|lia|omega)
 ·cases hi with
  |none=>simp[sliceBounds,HT.sIx]
  |some i=>
   simp only[sliceBounds,HT.sIx,Option.getD_none,show (1:Int)>0 by decide,if_true]
   by_cases h:i<0
   ·simp only[h,if_true]<;>(first|lia|omega)
   ·simp only[h,if_false]<;>(first|lia|omega)
theorem zdb (its:List Value)(lo hi:Option Int):slicePick its.toArray lo hi none=((its.drop (HT.sIx its.length 0 lo)).take (HT.sIx its.length its.length hi-HT.sIx its.length 0 lo)).toArray:=by
 obtain⟨h1,h2,h3⟩:=zdP lo hi its.toArray.size
 unfold slicePick
 rw[h1,h2,h3]
 simp only[sliceRange_one,pick_run,List.size_toArray]<;>rfl
noncomputable def rSlL (K:PySem.W.Frag):V->Option Int->Option Int->Hp->VK->Prop:=fun x lo hi H Q=>∃a xs,x=.ref a/\SqL K H a xs/\∀p,H p=none->Q (.ref p) (upd H p (.lst (cutV xs lo hi)))
theorem zfW:SlR X (rSlL X.K):=by
 intro pins s σ H x v vl vu lo hi sl Q I rx hs pl pu h
 obtain⟨a,xs,rfl,hx,q⟩:=h
 cases rx
 obtain⟨its,r,ht,hz⟩:=I.list hx
 have hlen:=r.length
 refine⟨"list",_,slot_list_getitem.lookup,ht.isList.typeIs, ?_⟩
 refine wpAny_getItem_list_slice ht.isList hs pl pu .none (by simp) ?_ (by rw[List.size_toArray]<;>(first|lia|omega))
 rw[zdb,<-hlen]
 refine⟨.ref s.heap.objs.size,_,I.laid (t':=s.toks) (o:=.lst (cutV xs lo hi)) (fun b ob q=>Heap.get?_push_of_some _ q) (Nat.le_refl _) ?_,rfl,q _ (I.hok.fresh (Nat.le_refl _))⟩
 exact⟨Nat.le_trans (zcH xs lo hi) hz,_,0,(r.drop (HT.sIx xs.length 0 lo)).take (HT.sIx xs.length xs.length hi-HT.sIx xs.length 0 lo),Heap.get?_push_size _ rfl⟩
noncomputable def zdc:V->Bool
 | .non=>true
 | .bl _=>true
 | .int _=>true
 | .str _=>true
 |_=>false
noncomputable def eqV:V->V->Bool
 | .non,.non=>true
 | .bl a,.bl b=>a==b
 | .bl a,.int b=>(if a then 1 else 0)==b
 | .int a,.bl b=>a==(if b then 1 else 0)
 | .int a,.int b=>a==b
 | .str a,.str b=>a==b
 |_,_=>false
theorem zi9 {A:Around}{s:Shared}{y x:V}{u v:Value}(ry:RelV y u)(rx:RelV x v)(fy:zdc y=true)(fx:zdc x=true):SeqAt.EqAt A s u v (eqV y x):=by
 cases y with
 |non=>
  cases ry
  cases x with
  |non=>cases rx;exact SeqAt.EqAt.same _
  |bl b=>cases rx;exact SeqAt.EqAt.none_bool b
  |int b=>obtain⟨t,rfl⟩:=rx;exact SeqAt.EqAt.none_int b t
  |str b=>obtain⟨t,rfl⟩:=rx;exact SeqAt.EqAt.none_str b t
  |_=>exact absurd (show false=true from fx) Bool.false_ne_true
 |bl a=>
  cases ry
  cases x with
  |non=>cases rx;exact SeqAt.EqAt.bool_none a
  |bl b=>cases rx;exact SeqAt.EqAt.bool_bool a b
  |int b=>obtain⟨t,rfl⟩:=rx;exact SeqAt.EqAt.bool_int a b t
  |str b=>obtain⟨t,rfl⟩:=rx;exact SeqAt.EqAt.bool_str a b t
  |_=>exact absurd (show false=true from fx) Bool.false_ne_true
 |int a=>
  obtain⟨t',rfl⟩:=ry
  cases x with
  |non=>cases rx;exact SeqAt.EqAt.int_none a t'
  |bl b=>cases rx;exact SeqAt.EqAt.int_bool a t' b
  |int b=>obtain⟨t,rfl⟩:=rx;exact SeqAt.EqAt.int_int a t' b t
  |str b=>obtain⟨t,rfl⟩:=rx;exact SeqAt.EqAt.int_str a t' b t
  |_=>exact absurd (show false=true from fx) Bool.false_ne_true
 |str a=>
  obtain⟨t',rfl⟩:=ry
  cases x with
  |non=>cases rx;exact SeqAt.EqAt.str_none a t'
  |bl b=>cases rx;exact SeqAt.EqAt.str_bool a t' b
  |int b=>obtain⟨t,rfl⟩:=rx;exact SeqAt.EqAt.str_int a t' b t
  |str b=>obtain⟨t,rfl⟩:=rx;exact SeqAt.EqAt.str_str a t' b t
  |_=>exact absurd (show false=true from fx) Bool.false_ne_true
 |_=>exact absurd (show false=true from fy) Bool.false_ne_true
noncomputable def eqU (x:V)(u:Value):Bool:=match u with
 | .none=>eqV .non x
 | .bool b=>eqV (.bl b) x
 | .int i _=>eqV (.int i) x
 | .str z _=>eqV (.str z) x
 |_=>false
theorem zhT {x y:V}{u:Value}(r:RelV y u)(f:zdc y=true):eqU x u=eqV y x:=by
 cases y with
 |non=>cases r;rfl
 |bl b=>cases r;rfl
 |int i=>obtain⟨t,rfl⟩:=r;rfl
 |str z=>obtain⟨t,rfl⟩:=r;rfl
 |_=>exact absurd (show false=true from f) Bool.false_ne_true
theorem zeh {x:V}:∀{xs:List V} {us:List Value},Vals xs us->xs.all zdc=true->us.any (eqU x)=xs.any fun y=>eqV y x
 |_,_,.nil,_=>rfl
 |y::xs,u::us,.cons r t,f=>by
  rw[List.all_cons,Bool.and_eq_true] at f
  rw[List.any_cons,List.any_cons,zhT r f.1,zeh t f.2]
theorem zdd {A:Around}{s:Shared}{x:V}{v:Value}(rx:RelV x v)(fx:zdc x=true):∀{xs:List V} {us:List Value},Vals xs us->xs.all zdc=true->∀u∈us,SeqAt.EqAt A s u v (eqU x u)
 |_,_,.nil,_=>fun u hu=>by cases hu
 |y::xs,u::us,.cons r t,f=>fun u' hu=>by
  rw[List.all_cons,Bool.and_eq_true] at f
  rcases List.mem_cons.mp hu with rfl|hu
  ·rw[zhT r f.1];exact zi9 r rx f.1 fx
  ·exact zdd rx fx t f.2 u' hu
noncomputable def inV (x:V)(xs:List V):Bool:=xs.any fun y=>eqV y x
noncomputable def rIn (K:PySem.W.Frag)(neg:Bool):R2:=fun x y H Q=>∃p xs,y=.ref p/\(SqL K H p xs∨SqT K H p xs)/\zdc x=true/\xs.all zdc=true/\Q (.bl (if neg then !inV x xs else inV x xs)) H
theorem zdQ:OpR X (compareOp .NotIn) (rIn X.K true):=by
 intro pins s σ H x y v u Q I rx ry h
 obtain⟨p,xs,rfl,hq,fx,fs,q⟩:=h
 cases ry
 rcases hq with hq|hq
 ·obtain ⟨its,r,pl,hz⟩:=I.list hq
  refine SeqAt.notIn_listAt (eqU x) pl.isList (fun w hw=>zdd rx fx r fs w (by simpa using hw)) ⟨.bl _,H,I,rfl, ?_⟩
  rw[show its.toArray.any (eqU x)=its.any (eqU x) by simp,zeh r fs]
  exact q
 ·obtain ⟨its,r,pl,hz⟩:=I.tuple hq
  refine SeqAt.notIn_tupleAt (eqU x) pl (fun w hw=>zdd rx fx r fs w (by simpa using hw)) ⟨.bl _,H,I,rfl, ?_⟩
  rw[show its.toArray.any (eqU x)=its.any (eqU x) by simp,zeh r fs]
  exact q
theorem zap:zbA X (.builtin "len") (fun xs H Q=>∃p ys,xs=[.ref p]/\(SqL X.K H p ys∨SqT X.K H p ys)/\Q (.int ys.length) H):=by
 intro pins s σ H xs us Q I r h
 obtain⟨p,ys,rfl,hq,q⟩:=h
 obtain⟨u,rfl,rx⟩:=zb8 r
 cases rx
 have hn:=zeN
 rcases hq with hq|hq
 ·obtain ⟨its,r',pl,hz⟩:=I.list hq
  have hlen:=r'.length
  exact Calls.call_len_list pl.isList (by simp only[List.size_toArray]<;>(first|lia|omega)) ⟨.int ys.length,H,I.tok _,⟨s.toks+1,by rw[List.size_toArray,hlen]⟩,q⟩
 ·obtain ⟨its,r',pl,hz⟩:=I.tuple hq
  have hlen:=r'.length
  exact len_tuple pl (by simp only[List.size_toArray]<;>(first|lia|omega)) ⟨.int ys.length,H,I.tok _,⟨s.toks+1,by rw[List.size_toArray,hlen]⟩,q⟩
theorem zaK:zbA X (.type "tuple") (fun xs H Q=>∃p ys,xs=[.ref p]/\((SqL X.K H p ys/\∀l,H l=none->Q (.ref l) (upd H l (.tup ys)))∨(SqT X.K H p ys/\Q (.ref p) H))):=by
 intro pins s σ H xs us Q I r h
 obtain⟨p,ys,rfl,h⟩:=h
 obtain⟨u,rfl,rx⟩:=zb8 r
 cases rx
 rcases h with⟨hq,q⟩|⟨hq,q⟩
 ·obtain ⟨its,r',pl,hz⟩:=I.list hq
  have hlen:=r'.length
  refine call_tuple_list pl.isList (fun h' kp=> ?_) (by simp only[List.size_toArray]<;>(first|lia|omega))
  have I1:Inv X pins σ H {s with heap:=h'}:=I.kept (t':=s.toks) kp
  have I2:Inv X pins σ (upd H h'.objs.size (.tup ys)) {s with heap:=h'.push {cls:=.type "tuple",data:=.seq its.toArray}}:=
   I1.laid (t':=s.toks) (fun b o e=>Heap.get?_push_of_some _ e) (Nat.le_refl _) (show ObjOk X.prog X.w _ _ _ (.tup ys) from ⟨hz,its,r',PTup.new⟩)
  exact⟨.ref h'.objs.size,_,I2,rfl,q _ (I1.hok.fresh (Nat.le_refl _))⟩
 ·obtain ⟨its,r',pl,hz⟩:=I.tuple hq
  exact call_tuple_same pl ⟨.ref p,H,I,rfl,q⟩
noncomputable def tyV (K:PySem.W.Frag)(T:String)(x:V)(H:Hp):Prop:=match x with
 | .str _=>T= "str"
 | .int _=>T= "int"
 | .ref p=>(T= "list" /\∃xs,SqL K H p xs)∨(T= "tuple" /\∃o,K.lookup p=some o/\o.cls=.type "tuple" /\o.dict=none)∨
   (T= "dict" /\((∃kvs,H p=some (.dK kvs))∨∃kvs,H p=some (.dT kvs)))∨(T= "set" /\∃S n,H p=some (.set S n))
 |_=>False
theorem zja {pins:List (Addr×Obj)}{σ:St}{H:Hp}{s:Shared}{T:String}{x:V}{v:Value}(I:Inv X pins σ H s)(r:RelV x v)(ty:tyV X.K T x H):
  s.TypeIs v T/\∀a,v=.ref a->∃ob,s.heap.get? a=some ob/\ob.dict=none:=by
 cases x with
 |str z=>
  obtain⟨t,rfl⟩:=r
  cases (show T= "str" from ty)
  exact⟨typeIs_str s z t,fun _ e=>nomatch e⟩
 |int i=>
  obtain⟨t,rfl⟩:=r
  cases (show T= "int" from ty)
  exact⟨typeIs_int s i t,fun _ e=>nomatch e⟩
 | ref p=>
  cases r
  rcases ty with⟨rfl,xs,hq⟩|⟨rfl,o,hk,hc,hd⟩|⟨rfl,hk⟩|⟨rfl,S,n,hk⟩
  ·obtain ⟨its,_,pl,_⟩:=I.list hq
   refine⟨pl.isList.typeIs,fun a e=> ?_⟩
   cases e
   obtain⟨o,n,e,c,hd,_⟩:=pl
   exact⟨o,e,hd⟩
  ·refine ⟨⟨o,I.kIn p o hk,hc⟩,fun a e=> ?_⟩
   cases e
   exact⟨o,I.kIn _ o hk,hd⟩
  ·have z:∃o,s.heap.get? p=some o/\o.ExactDict:=by
    rcases hk with⟨kvs,hk⟩|⟨kvs,hk⟩
    ·obtain ⟨_,_,_,_,o,_,_,e,ex,_⟩:=I.hok p _ hk
     exact⟨o,e,ex⟩
    ·obtain ⟨_,_,_,_,o,_,_,e,ex,_⟩:=I.hok p _ hk
     exact⟨o,e,ex⟩
   obtain⟨o,e,ex⟩:=z
   refine⟨⟨o,e,ex.1⟩,fun a e2=> ?_⟩
   cases e2
   exact⟨o,e,ex.2.1⟩
  ·obtain ⟨o,_,_,_,e,ex,_⟩:=I.hok p _ hk
   refine⟨⟨o,e,ex.1⟩,fun a e2=> ?_⟩
   cases e2
   exact⟨o,e,ex.2.1⟩
 |_=>exact False.elim ty
noncomputable def tBM (K:PySem.W.Frag)(T:String)(r:V->List V->Hp->VK->Prop)(to:TE)(t:TA):TE:=fun σ H Q=>to σ H fun x H1=>tyV K T x H1/\t σ H1 fun xs H2=>r x xs H2 Q
variable {o e:Expr}{es:List Expr}{to:TE}{t:TA}{name:Str}{apos cpos:Pos}{T id:String}{r:V->List V->Hp->VK->Prop}
theorem zgV (pa:PlainAttrs T)(slot:Slot T name id)(hty:typeOf (.builtin id)=pure (.type "method_descriptor"))(hm:MtR X id r)(ho:PE X o to)(ha:PA X (e::es) t)
  (hbase:attributeBase o name X.env (eval o X.env)=eval o X.env:=by rfl)
  (hfew:((backTo cpos (starEach (e::es) X.env)).all (fun x=> !x.1)&&(backToKw cpos (keywordEach [] X.env)).all (fun x=>x.1.isSome)
   &&decide ((e::es).length+([]:List Keyword).length+(if ([]:List Keyword).isEmpty then 0 else 1)<30))=true:=by rfl)
  (hline:(apos.endLine==cpos.line)=true:=by rfl) (hs:starEach (e::es) X.env=(false,eval e X.env)::starEach es X.env:=by rfl) (hplain:(backTo cpos (starEach es X.env)).any (·.1)=false:=by rfl):
  PE X (.Call (.Attribute o name apos) (e::es) [] cpos) (tBM X.K T r to t):=by
 intro pins s σ H Q I h
 refine wpAny_Call_method_late hbase hfew hline rfl (thn (ho pins s σ H _ I h) fun v s1 zq=> ?_)
 obtain⟨x,H1,I1,r1,ty,q1⟩:=zq
 obtain⟨h1,h2⟩:=zja I1 r1 ty
 refine⟨T,id,pa,slot,hty,h1,h2, ?_⟩
 have hA:=ha cpos pins s1 σ H1 _ I1 q1
 rw[hs] at hA ⊢
 refine Calls.callWith_builtin (by show (false||(backTo cpos (starEach es X.env)).any (·.1))=false;rw[hplain]<;>rfl) (Calls.evalArgs_plain ?_)
 exact thn hA fun us s2 ⟨vs,H2,I2,r2,q2⟩=>hm pins s2 σ H2 x vs v us Q I2 r1 r2 q2
end
noncomputable def MtM (X:Cx)(id:String)(r:V->List V->Hp->VK->Prop):Prop:=
 ∀(pins:List (Addr×Obj)) (s:Shared) (σ:St) (H:Hp) (x:V) (xs:List V) (v:Value) (us:List Value) (Q:VK),Inv X pins σ H s->RelV x v->Vals xs us->r x xs H Q->
  wpAny (model X.prog X.w) X.A (call (.builtin id) (v::us)) (EP X pins σ Q) X.xe s
theorem Vals.one:∀{x:V} {us:List Value},Vals [x] us->∃u,us=[u]/\RelV x u
 |_,_,.cons r .nil=>⟨_,rfl,r⟩
theorem Vals.eraseIdx:∀{xs:List V} {us:List Value} (i:Nat),Vals xs us->Vals (xs.eraseIdx i) (us.eraseIdx i)
 |_,_,_,.nil=>.nil
 |_,_,0,.cons _ t=>t
 |_,_,i+1,.cons r t=>.cons r (Vals.eraseIdx i t)
theorem zdR {α:Type}:∀(l:List α) (i:Nat),(l.eraseIdx i).length<=l.length
 |[],_=>Nat.le_refl _
 |_::_,0=>Nat.le_succ _
 |_::r,i+1=>Nat.succ_le_succ (zdR r i)
section
variable {X:Cx}{pins:List (Addr×Obj)}{σ:St}{H:Hp}{s:Shared}{l b:Addr}{xs ys zs:List V}
theorem Inv.lset {its its':List Value}{n:Nat}{f:Array Value->Array Value}{t':Nat}(I:Inv X pins σ H s)(hH:H l=some (.lst xs))
  (e:s.heap.get? l=some {cls:=.type "list",data:=.seq its.toArray n}) (hf:f its.toArray=its'.toArray) (hv:Vals ys its') (hz:ys.length<=sizeLine):
  Inv X pins σ (upd H l (.lst ys)) {s with heap:=s.heap.update l (Obj.mapSeq f),toks:=t'}:=by
 have q:=PySem.IsL.update e f
 rw[hf] at q
 refine I.write (x:=l) (e:=l) (by rw[hH];exact trivial) (.inl rfl) (fun b' u hb hu=>(Heap.get?_update_other s.heap (Obj.mapSeq f) (Ne.symm hb)).trans hu) ⟨_,q⟩ ?_
 exact⟨hz,its',_,hv,q⟩
theorem Inv.lnew {its:List Value}{t':Nat}(I:Inv X pins σ H s)(hv:Vals ys its)(hz:ys.length<=sizeLine):
  Inv X pins σ (upd H s.heap.objs.size (.lst ys)) {s with heap:=s.heap.push {cls:=.type "list",data:=.seq its.toArray},toks:=t'}:=
 I.laid (fun _ _ q=>Heap.get?_push_of_some _ q) (Nat.le_refl _) ⟨hz,its,0,hv,Heap.get?_push_size _ rfl⟩
theorem Inv.fresh (I:Inv X pins σ H s):H s.heap.objs.size=none:=I.hok.fresh (Nat.le_refl _)
theorem Inv.lstM (I:Inv X pins σ H s)(hH:H l=some (.lst xs)):xs.length<=sizeLine/\∃(its:List Value) (n:Nat),Vals xs its/\xs.length=its.length/\s.heap.get? l=some {cls:=.type "list",data:=.seq its.toArray n}:=by
 obtain⟨z,its,n,r,e⟩:=I.hok l _ hH
 exact⟨z,its,n,r,r.length,e⟩
theorem zgW {n:Nat}(h:n<=sizeLine):Builtin.List.listTooLong n=false:=by
 unfold Builtin.List.listTooLong
 exact decide_eq_false (by (first|lia|omega))
end
section
variable {X:Cx}
noncomputable def zib:V->List V->Hp->VK->Prop:=fun x vs H Q=>∃l xs y,x=.ref l/\vs=[y]/\H l=some (.lst xs)/\xs.length<sizeLine/\Q .non (upd H l (.lst (xs++[y])))
theorem zbB:MtM X "list.append" zib:=by
 intro pins s σ H x vs v us Q I rx rv h
 obtain⟨l,xs,y,rfl,rfl,hH,hz,q⟩:=h
 cases rx
 obtain⟨u,rfl,ru⟩:=rv.one
 obtain⟨z,its,n,r,hl,e⟩:=I.lstM hH
 refine call_meets F.slot_list_append ⟨_,e,rfl⟩ F.entry_list_append (F.args_list_append_2 _ _) (PySem.list_append l its.toArray n u (by rw[List.size_toArray];(first|lia|omega))) ⟨e, ?_⟩
 refine⟨.non,_,I.lset (its':=its++[u]) hH e (by simp) (r.append (.cons ru .nil)) ?_,rfl,q⟩
 rw[List.length_append,List.length_singleton]
 (first|lia|omega)
noncomputable def zic:V->List V->Hp->VK->Prop:=fun x vs H Q=>∃l b xs zs,x=.ref l/\vs=[.ref b]/\H l=some (.lst xs)/\H b=some (.lst zs)/\xs.length+zs.length<=sizeLine/\Q .non (upd H l (.lst (xs++zs)))
theorem zfX:MtM X "list.extend" zic:=by
 intro pins s σ H x vs v us Q I rx rv h
 obtain⟨l,b,xs,zs,rfl,rfl,hH,hB,hz,q⟩:=h
 cases rx
 obtain⟨u,rfl,ru⟩:=rv.one
 cases ru
 obtain⟨z,its,n,r,hl,e⟩:=I.lstM hH
 obtain⟨z2,its2,n2,r2,hl2,e2⟩:=I.lstM hB
 have hsz:its.toArray.size+its2.toArray.size<=sizeLine:=by rw[List.size_toArray,List.size_toArray];(first|lia|omega)
 have hlong:¬(!its.toArray.isEmpty&&Builtin.List.listTooLong (its.toArray.size+its2.toArray.size))=true:=by
  rw[zgW hsz,Bool.and_false]
  exact Bool.false_ne_true
 refine call_meets F.slot_list_extend ⟨_,e,rfl⟩ F.entry_list_extend (F.args_list_extend_2 _ _)
  (AutoSeq1.list_extend_list_list_0 l its.toArray n b its2.toArray n2 hlong (by rw[List.size_toArray];(first|lia|omega)) (by (first|lia|omega))) ⟨e,e2, ?_⟩
 refine⟨.non,_,I.lset (its':=its++its2) hH e (by simp) (r.append r2) ?_,rfl,q⟩
 rw[List.length_append]
 (first|lia|omega)
noncomputable def zjb:V->List V->Hp->VK->Prop:=fun x vs H Q=>∃l xs i k y,x=.ref l/\vs=[.int i]/\H l=some (.lst xs)/\-(2^63)<=i/\i<2^63/\seqIndex? i xs.length=some k/\xs[k]? =some y/\Q y (upd H l (.lst (xs.eraseIdx k)))
theorem zgX:MtM X "list.pop" zjb:=by
 intro pins s σ H x vs v us Q I rx rv h
 obtain⟨l,xs,i,k,y,rfl,rfl,hH,h1,h2,hk,hy,q⟩:=h
 cases rx
 obtain⟨u,rfl,ru⟩:=rv.one
 obtain⟨t,rfl⟩:=ru
 obtain⟨z,its,n,r,hl,e⟩:=I.lstM hH
 obtain⟨w,hw,rw'⟩:=r.get hy
 refine call_meets F.slot_list_pop ⟨_,e,rfl⟩ F.entry_list_pop (F.args_list_pop_2 _ _)
  (MeetsSeq.list_pop_at l its.toArray n i t k w (fitsIndex_both h1 h2) (by rw[List.size_toArray,<-hl];exact hk) (by rw[<-Array.getElem?_toList];exact hw) (by rw[List.size_toArray];(first|lia|omega))) ⟨e, ?_⟩
 refine⟨y,_,I.lset (its':=its.eraseIdx k) hH e ?_ (r.eraseIdx k) ?_,rw',q⟩
 ·show its.toArray.eraseIdxIfInBounds k=(its.eraseIdx k).toArray
  rw[List.eraseIdxIfInBounds_toArray]
 ·have:=zdR xs k
  (first|lia|omega)
noncomputable def rCat:R2:=fun x y H Q=>∃l b xs zs,x=.ref l/\y=.ref b/\H l=some (.lst xs)/\H b=some (.lst zs)/\xs.length+zs.length<=sizeLine/\∀p,H p=none->Q (.ref p) (upd H p (.lst (xs++zs)))
theorem zfY:OpR X (binaryOp .Add) rCat:=by
 intro pins s σ H x y v u Q I rx ry h
 obtain⟨l,b,xs,zs,rfl,rfl,hH,hB,hz,q⟩:=h
 cases rx
 cases ry
 obtain⟨z,its,n,r,hl,e⟩:=I.lstM hH
 obtain⟨z2,its2,n2,r2,hl2,e2⟩:=I.lstM hB
 refine PySem.P.add_list e e2 ?_ (by rw[List.size_toArray,List.size_toArray];(first|lia|omega))
 have ea:its.toArray++its2.toArray=(its++its2).toArray:=by simp
 rw[ea]
 exact⟨.ref _,_,I.lnew (t':=s.toks) (r.append r2) (by rw[List.length_append];(first|lia|omega)),rfl,q _ I.fresh⟩
end
section
variable {prog:Program}{w:World}{A:Around}{E:Value->Shared->Prop}{s:Shared}
end
section
variable {X:Cx}
end
end L2
namespace Att
open PySem PySem.W PySem.Calls PyProof.Rows
theorem zcI {P:Params}{h:Heap}:∀(ns:List Int) (vs:List Value),WellAll P h vs (ns.map WData.int)->IntsAre vs ns:=by
 intro ns
 induction ns with
 |nil=>
  intro vs w
  rw[List.map_nil] at w
  cases w
  exact .nil
 | cons n ns ih=>
  intro vs w
  rw[List.map_cons] at w
  cases w with
  |cons a b=>
   cases a
   exact .cons _ _ (ih _ b)
theorem zfZ {l:OpenLaw}{n:Nat}(hn:l.most=some n){P:Params}{h:Heap}{args:List WData}{vals:List Value}
  (hpre:l.row.toRowW.claim.pre args=true) (hwl:WellAll P h vals args):
  ∃a vs ns,vals=[Value.ref a]/\args=[WData.list (ns.map WData.int)]/\h.get? a=some {cls:=.type "list",data:=.seq vs.toArray}/\IntsAre vs ns/\ns.length<=n:=by
 have hsh:WShape.hasAll [] args [.list .int]=true:=(pre_splitW hpre).1
 have hc:l.pre.holds [] {args:=args}=true:=(pre_splitW hpre).2
 obtain⟨d,r,rfl,h1,h2⟩:=hasAllW_cons hsh
 obtain rfl:=hasAllW_nil h2
 obtain⟨xs,rfl,h3⟩:=hasW_list h1
 obtain⟨ns,rfl⟩:=items_int h3
 have hlen:ns.length<=n:=by
  unfold OpenLaw.pre at hc
  have h4:(WTm.not (.lt (.lit (.int (n:Int))) (.len (.arg 0)))).holds [] {args:=[.list (ns.map .int)]}=true:=by
   have h4:=(holds_andW hc).1
   rw[hn] at h4
   exact h4
  have h5:=condW_of h4 (w_not (w_lt w_lit (w_len_list (w_arg rfl))))
  rw[List.length_map] at h5
  refine Nat.le_of_not_lt fun q=> ?_
  have q':(n:Int)<((ns.length:Nat):Int):=by (first|lia|omega)
  first
   |(rw[decide_eq_true q'] at h5;exact absurd h5 (by decide))
   |(simp at h5;(first|lia|omega))
 cases hwl with
 |cons w1 w2=>
  cases w2
  cases w1 with
  |list ho hall=>exact⟨_,_,ns,rfl,rfl,ho,zcI ns _ hall,hlen⟩
theorem zf0 (l:OpenLaw)(args:List WData):l.row.toRowW.claim.post args (.bool true) args=true:=
 postW_of (r:=l.row.toRowW) (X:=(true==true))
  (show WShape.has [] (.bool true) .bool=true by first|rfl|decide|simp[WShape.has,WShape.arms,WShape.armsAll])
  (show (WTm.eq .res (.lit (.bool true))).value [] {args:=args,res:=some (.bool true),after:=args}=some (.bool (true==true)) from w_eq_bool (w_res rfl) w_lit) rfl
theorem attach_call {l:OpenLaw}{n:Nat}{q:Program}{loose:List Str}{XP:(Str->Option Value)->Heap->Prop}{YP:World->Heap->Prop}{d:DefRec}
  (hn:l.most=some n) (hdf:d.params.defaults=[])
  (call:∀(w:World) (s₀ s₁:Shared) (mg mb:Str->Option Value) (fa:Addr) (o:Obj) (pm cd doc:Value) (a:Addr) (vs:List Value) (ns:List Int),
   Ground q loose [] XP w s₀ mg mb s₁.heap->YP w s₁.heap->
   s₁.heap.get? fa=some o->o.data=.func (docDef d.name d.params d.body d.scope pm cd doc)->s₁.heap.CodeRec cd d.name->mg d.name=some (.ref fa)->
   s₁.heap.get? a=some {cls:=.type "list",data:=.seq vs.toArray}->IntsAre vs ns->ns.length<=n->s₁.gens=#[]->
   codeAny (model l.prog w) callerA (.call (.ref fa) ⟨[.ref a],[]⟩) (fun r s'=>r=.ok (.ret (.bool true))/\OldK s₁.heap s'.heap/\s'.os=s₁.os/\AllBare s'.gens) s₁):
  WalkO q loose XP YP l.row.toRowW d [] (fun f vs=>PySem.call f vs):=by
 intro w s₀ s₁ mg mb G Y fa o pm cd doc dV kV ho hd hcd hD hmg hg args vals as hpre hlay hrd hwl hlo
 obtain rfl:dV=.none:=Dflts.none hD hdf
 obtain rfl:kV=.none:=Dflts.noKw hD
 obtain⟨a,vs,ns,rfl,rfl,hobj,hints,hlen⟩:=zfZ hn hpre hwl
 refine enter_call (codeAny_mono (call w s₀ s₁ mg mb fa o pm cd doc a vs ns G Y ho (fd_plain hd) hcd hmg hobj hints hlen hg) fun r s' hq=> ?_)
 obtain⟨rfl,h2,h3,h4⟩:=hq
 exact⟨.inl ⟨.bool true,.bool true,[],rfl,fun _=>rfl,.bool true,zf0 l _,fun _=>⟨List.Pairwise.nil,fun _ hm=>(nomatch hm)⟩⟩,h2,h3,h4⟩
section
variable {prog:Program}{w:World}{A:Around}{E:Value->Shared->Prop}{s:Shared}{K:Frag}
end
end Att
namespace L2
open PySem PySem.Spec PyProof.Rows
theorem zdS:∀{vs:List Value} {ns:List Int},IntsAre vs ns->Vals (ns.map V.int) vs
 |_,_,.nil=>.nil
 |_,_,.cons n t h=>.cons ⟨t,rfl⟩ (zdS h)
noncomputable def Only (H:Hp):Prop:=∀b,H b=none∨∃o xs,H b=some (.frz o (.lst xs))
theorem zgY {P:Program}{w:World}{K:PySem.W.Frag}{mg mb:Str->Option Value}{CX:CXT}{k:Nat}{fa a:Addr}{fd:FuncData}{x:Str}{sp:Sp}{s₁:Shared}{vs:List Value}{ns:List Int}
  (KX:K.In s₁.heap) (hns:s₁.heap.Ns mainGlobals mg) (hb:s₁.heap.Ns builtinsNs mb) (hbb:∀x:Str,x≠ "__name__" ->mb x=bootBuiltins x) (hlim:s₁.heap.NoLimit) (hg:s₁.gens=#[])
  (ha:s₁.heap.get? a=some {cls:=.type "list",data:=.seq vs.toArray}) (hi:IntsAre vs ns) (hl:ns.length<=sizeLine) (hr:Room k callerA)
  (F:∀base:Heap,K.In base->base.Ns mainGlobals mg->FnOk P w K mg base CX k fa fd [x] sp) (hbind:∀(s:Shared) (u:Value),BindsTo s fd ⟨[u],[]⟩ [(x,u)])
  (hsp:∀H:Hp,Only H->SqL K H a (ns.map V.int)->sp [.ref a] H (fun v _=>v=.bl true) fun _ _ _=>False)
  (hCX:∀H e s',CX [] H s₁ (fun _ _ _=>False) e s'->False):
  codeAny (model P w) callerA (.call (.ref fa) ⟨[.ref a],[]⟩) (fun r s'=>r=.ok (.ret (.bool true))/\OldK s₁.heap s'.heap/\s'.os=s₁.os/\AllBare s'.gens) s₁:=by
 have rv:=zdS hi
 have lenV:=hi.length
 have core:∀H:Hp,Only H->SqL K H a (ns.map V.int)->HOk P w H s₁.heap->(∀b,H b≠none->b=a)->(H a≠none->K.lookup a=none)->
   codeAny (model P w) callerA (.call (.ref fa) ⟨[.ref a],[]⟩) (fun r s'=>r=.ok (.ret (.bool true))/\OldK s₁.heap s'.heap/\s'.os=s₁.os/\AllBare s'.gens) s₁:=by
  intro H hO hS hok hA hK
  have base_of:∀{b:Addr} {o:Obj},s₁.heap.get? b=some o->H b=none->(hidT s₁.heap H).get? b=some o:=fun e n=>zgP e n
  have noA:∀{b:Addr} {o:Obj} {es:Array DictEntry} {ep:Nat},s₁.heap.get? b=some o->o.data=.dict es ep->H b=none:=fun {b o es ep} e d=>by
   cases q:H b with
   |none=>rfl
   |some u=>
    have e':b=a:=hA b (by rw[q];simp)
    subst e'
    rw[ha] at e;cases e
    have d':Data.seq vs.toArray _=Data.dict es ep:=d
    cases d'
  have nsK:∀{b:Addr} {m:Str->Option Value},s₁.heap.Ns b m->(hidT s₁.heap H).Ns b m:=fun {b m} ⟨o,es,ep,e,d,r⟩=>⟨o,es,ep,base_of e (noA e d),d,r⟩
  have hKb:K.In (hidT s₁.heap H):=fun b o e=>base_of (KX b o e) (by
   cases q:H b with
   |none=>rfl
   |some u=>
    have e':b=a:=hA b (by rw[q];simp)
    subst e'
    rw[hK (by rw[q];simp)] at e;cases e)
  have hM:Mod K mg (hidT s₁.heap H):=⟨hKb,nsK hns,⟨mb,nsK hb,hbb⟩,let ⟨mc,h1,h2⟩:=hlim;⟨mc,nsK h1,h2⟩⟩
  have e0:Env0 P w K mg (hidT s₁.heap H) callerA [] s₁ H:=⟨rfl,hM,fun b o e=>zh3 e,Nat.le_of_eq (zfA _ _),trivial,fun b hb=>absurd (show b∈([]:List Addr) from hb) (by simp),hok,.of_eq hg⟩
  refine codeAny_mono ((F _ hKb (nsK hns)).run callerA [] s₁ H ⟨[.ref a],[]⟩ [.ref a] [.ref a] _ _ hr e0 (hbind s₁ (.ref a)) (.cons rfl .nil) (hsp H hO hS)) fun r s' h=> ?_
  cases r with
  |error e=>exact (hCX H e s' h).elim
  | ok fl=>
   cases fl with
   |next=>exact False.elim h
   |brk=>exact False.elim h
   |cont=>exact False.elim h
   | ret u=>
    obtain⟨v,H',os,bare,un,hok',r',q⟩:=h
    have q':v=.bl true:=q
    subst q'
    obtain rfl:u=Value.bool true:=r'
    refine⟨rfl,OldK.of_keep fun b o e=> ?_,os,bare⟩
    cases q:H b with
    |none=>exact un.keep b o e q (by intro z;exact absurd (show b∈([]:List Addr) from z) (by simp)) (by simp)
    | some u=>
     rcases hO b with z|⟨ob,xs,z⟩
     ·rw[q] at z;cases z
     ·have z2:=un.frzs b ob _ z
      obtain⟨e1,_⟩:=hok b _ z
      obtain⟨e2,_⟩:=hok' b _ z2
      rw[e] at e1;cases e1
      exact e2
 cases hk:K.lookup a with
 |some o=>
  have e:=KX a o hk
  rw[ha] at e
  cases e
  refine core (fun _=>none) (fun _=>.inl rfl) (.inr ⟨_,vs.toArray,_,hk,rfl,rfl,rfl,by rw[List.size_toArray,lenV];exact hl,by simpa using rv⟩) (fun b u z=>by have z':(none:Option HO)=some u:=z;cases z') (fun b z=>absurd rfl z) fun z=>absurd rfl z
 | none=>
  refine core (fun b=>if b=a then some (.frz {cls:=.type "list",data:=.seq vs.toArray} (.lst (ns.map V.int))) else none) (fun b=> ?_) (.inl (.inr ⟨{cls:=.type "list",data:=.seq vs.toArray},if_pos rfl⟩)) (fun b u z=> ?_) (fun b z=> ?_) fun _=>hk
  ·by_cases hb:b=a
   ·exact .inr ⟨_,_,if_pos hb⟩
   ·exact .inl (if_neg hb)
  ·by_cases hb:b=a
   ·have z':=(if_pos hb).symm.trans z
    cases z'
    subst hb
    exact⟨ha,by rw[List.length_map];exact hl,vs,_,rv,ha⟩
   ·have z':=(if_neg hb).symm.trans z
    cases z'
  ·by_cases hb:b=a
   ·exact hb
   ·exact absurd (if_neg hb) z
theorem zid {l:PySem.W.OpenLaw}{n k:Nat}{q:Program}{loose:List Str}{XP:(Str->Option Value)->Heap->Prop}{YP:World->Heap->Prop}{d:DefRec}{K:Params->PySem.W.Frag}{CX:World->CXT}{sp:World->Sp}{x:Str}
  (hn:l.most=some n) (hn2:n<=sizeLine) (hdf:d.params.defaults=[]) (hr:Room k callerA)
  (hY:∀(w:World) (h:Heap),YP w h->(K w.params).In h)
  (F:∀(w:World) (mg:Str->Option Value) (fa:Addr) (h:Heap),(K w.params).In h->h.Ns mainGlobals mg->mg d.name=some (.ref fa)->
   ∃fd:FuncData,(∀(s:Shared) (u:Value),BindsTo s fd ⟨[u],[]⟩ [(x,u)])/\
    ∀base:Heap,(K w.params).In base->base.Ns mainGlobals mg->FnOk l.prog w (K w.params) mg base (CX w) k fa fd [x] (sp w))
  (hsp:∀(w:World) (H:Hp) (a:Addr) (ns:List Int),ns.length<=n->Only H->SqL (K w.params) H a (ns.map V.int)->sp w [.ref a] H (fun v _=>v=.bl true) fun _ _ _=>False)
  (hCX:∀(w:World) (H:Hp) (s:Shared) (e:Value) (s':Shared),CX w [] H s (fun _ _ _=>False) e s'->False):
  PySem.W.WalkO q loose XP YP l.row.toRowW d [] (fun f vs=>PySem.call f vs):=by
 refine Att.attach_call hn hdf fun w s₀ s₁ mg mb fa o pm cd doc a vs ns G Y ho hd hcd hmg hobj hints hlen hg=> ?_
 have KX:=hY w _ Y
 obtain⟨fd,hb,hF⟩:=F w mg fa _ KX G.T.g hmg
 exact zgY KX G.T.g G.T.b G.T.builtins G.T.nolimit hg hobj hints (Nat.le_trans hlen hn2) hr hF hb (fun H hO hS=>hsp w H a ns hlen hO hS) fun H e s'=>hCX w H s₁ e s'
noncomputable def zbe (s:Stmt):Arguments:=match s with
 | .FunctionDef _ a _ _ _ _ _ _ _ _=>a
 |_=>{posonlyargs:=[],args:=[],vararg:=none,kwonlyargs:=[],kw_defaults:=[],kwarg:=none,defaults:=[]}
noncomputable def zaG (s:Stmt):List Stmt:=match s with
 | .FunctionDef _ _ b _ _ _ _ _ _ _=>b
 |_=>[]
noncomputable def zaf (s:Stmt):Scope:=match s with
 | .FunctionDef _ _ _ _ _ _ sc _ _ _=>sc
 |_=>{kind:=.function,names:=[],isGenerator:=false,isCoroutine:=false}
noncomputable abbrev CX0:CXT:=fun _ _ _ _ _ _=>False
noncomputable abbrev E0:XK:=fun _ _ _=>False
theorem zie {X:Cx}:zeO CX0 X E0:=fun _ _ _ _ _ _ _ h=>h.elim
structure Fun (K:PySem.W.Frag) (x qual:Str) (st:Stmt) (f:Addr) (fd:FuncData):Prop where
 ex:∃(oc:Value) (od:Option Addr) (kV doc pm:Value) (an:Option Addr) (cdv ct:Value) (osl:Array (Option Value)),
  fd=PySem.W.fnOf x qual (zbe st) (zaG st) (zaf st) .none kV doc pm an cdv ct/\K.lookup f=some ⟨oc,od,.func fd,osl⟩/\PySem.W.codeIn K cdv qual=true
 kp:PySem.W.keepIn K (.ref f)=true
section
variable {P:Program}{w:World}{K:PySem.W.Frag}{mg:Str->Option Value}{base:Heap}
theorem Fun.ok {x qual:Str}{st:Stmt}{f:Addr}{fd:FuncData}{N ps:List Str}{k:Nat}{sp:Sp}(F:Fun K x qual st f fd)(S:FnScope N ps (zaf st))(len:∀vs H Q E,sp vs H Q E->vs.length=ps.length)
  (hbody:∀(cdv:Value) (A:Around) (outer:List Env) (s:Shared) (H:Hp) (vs:List V) (Q:VK) (E:XK),Room k (A.deeper (envOfC qual (zaf st) s.heap.objs.size f cdv))->sp vs H Q E->
   ∃t,PSs (cxOf CX0 P w K mg base N qual (zaf st) f cdv A outer s H E).nox (zaG st) t/\t {nx:=fun _ H'=>Q .non H',rt:=Q} (zdO N vs) H):FnOk P w K mg base CX0 (k+1) f fd ps sp:=by
 obtain⟨oc,od,kV,doc,pm,an,cdv,ct,osl,rfl,lk,hcd⟩:=F.ex
 refine zjT lk hcd S len fun A outer s H vs Q E hr hsp=> ?_
 obtain⟨t,h,q⟩:=hbody cdv A outer s H vs Q E hr hsp
 exact⟨t,h.nox,q⟩
theorem Fun.binds {x qual:Str}{st:Stmt}{f:Addr}{fd:FuncData}{ps:List Str}(F:Fun K x qual st f fd)
  (h:∀(kV doc pm:Value) (an:Option Addr) (cdv ct:Value) (us:List Value),us.length=ps.length->bindArgs (PySem.W.fnOf x qual (zbe st) (zaG st) (zaf st) .none kV doc pm an cdv ct) ⟨us,[]⟩=pure (ps.zip us)):Binds K fd ps []:=by
 obtain⟨oc,od,kV,doc,pm,an,cdv,ct,osl,rfl,lk,hcd⟩:=F.ex
 exact .all (h kV doc pm an cdv ct)
theorem zjc {x qual:Str}{st:Stmt}{f:Addr}{oc:Value}{od an:Option Addr}{osl:Array (Option Value)}{kV doc pm cdv ct:Value}(l:K.lookup f=some ⟨oc,od,.func (PySem.W.fnOf x qual (zbe st) (zaG st) (zaf st) .none kV doc pm an cdv ct),osl⟩)
  (c:PySem.W.codeIn K cdv qual=true) (k:PySem.W.keepIn K (.ref f)=true):Fun K x qual st f (PySem.W.fnOf x qual (zbe st) (zaG st) (zaf st) .none kV doc pm an cdv ct):=⟨⟨oc,od,kV,doc,pm,an,cdv,ct,osl,rfl,l,c⟩,k⟩
end
theorem zif {A:Around}{k:Nat}(hr:Room k A):A.units+1<cLine:=Nat.lt_of_le_of_lt (Nat.add_le_add_left (by decide:1<=64) _) hr.units
section
variable {X:Cx}
theorem pv (i:Nat){x:Str}{pos:Pos}(hN:X.N[i]? =some x:=by rfl)(hv:Vis X.env.scope x:=by first|exact Or.inl rfl|exact Or.inr (Or.inl rfl)|exact Or.inr (Or.inr rfl))(hd:(x==("__debug__" :Str))=false:=by decide)
  (hcd:(x==("__classdict__" :Str))=false:=by decide):PE X (.Name x pos) (tVar i):=ziV hN hv hd hcd
end
theorem iteF {A B:Prop}(h:B):if false=true then A else B:=by
 rw[if_neg Bool.false_ne_true]
 exact h
theorem iteT {A B:Prop}(h:A):if true=true then A else B:=by
 rw[if_pos rfl]
 exact h
theorem ite2 {c A B:Prop}[Decidable c](h1:c->A)(h2:¬c->B):if c then A else B:=by
 by_cases h:c
 ·rw [if_pos h]
  exact h1 h
 ·rw [if_neg h]
  exact h2 h
theorem zjX {c A B:Prop}[Decidable c](hc:c)(h:B):if (!decide c)=true then A else B:=by
 rw[decide_eq_true hc]
 exact iteF h
noncomputable def Same (H H':Hp):Prop:=∀b o,H b=some o->H' b=some o
theorem Same.refl (H:Hp):Same H H:=fun _ _ h=>h
theorem Same.trans {H H1 H2:Hp}(a:Same H H1)(b:Same H1 H2):Same H H2:=fun c o h=>b c o (a c o h)
theorem Same.free {H H':Hp}(e:Same H H'){l:Addr}(h:H' l=Option.none):H l=Option.none:=by
 cases q:H l with
 |none=>rfl
 |some o=>
  rw[e l o q] at h
  cases h
theorem Same.seq {K:PySem.W.Frag}{H H':Hp}{a:Addr}{xs:List V}(e:Same H H')(h:SqL K H a xs):SqL K H' a xs:=by
 rcases h with (h|⟨o,h⟩)|h
 ·exact .inl (.inl (e _ _ h))
 ·exact .inl (.inr ⟨o,e _ _ h⟩)
 ·exact .inr h
theorem zbK {env:Env}{scope:Scope}(h:∀y∈scope.names,y.2=.free->∃c,env.cells.lookup y.1=some c):
  ∃cl,closureFor scope env=pure cl/\(∀x c,cl.lookup x=some c->env.cells.lookup x=some c)/\∀y∈scope.names,y.2=.free->cl.lookup y.1=env.cells.lookup y.1:=by
 have go:∀(names:List (Str×NameKind)) (acc:List (Str×Addr)),(∀y∈names,y.2=.free->∃c,env.cells.lookup y.1=some c)->
   (∀x c,acc.lookup x=some c->env.cells.lookup x=some c)->
   ∃cl,(forIn names acc (fun (y:Str×NameKind) (cs:List (Str×Addr))=>if (y.2==.free)=true then (do let c<-cellOf env y.1;pure (ForInStep.yield ((y.1,c)::cs))) else pure (ForInStep.yield cs)):Sem (List (Str×Addr)))=pure cl/\
    (∀x c,cl.lookup x=some c->env.cells.lookup x=some c)/\(∀x c,acc.lookup x=some c->cl.lookup x=some c)/\∀y∈names,y.2=.free->cl.lookup y.1=env.cells.lookup y.1:=by
  intro names
  induction names with
  |nil=>intro acc _ ha;exact⟨acc,rfl,ha,fun _ _ h=>h,fun y hy=>nomatch hy⟩
  | cons y r ih=>
   intro acc hn ha
   obtain⟨n,k⟩:=y
   by_cases hk:k=.free
   ·subst hk
    obtain⟨c,hc⟩:=hn (n,.free) List.mem_cons_self rfl
    have ha':∀x d,(((n,c)::acc:List (Str×Addr))).lookup x=some d->env.cells.lookup x=some d:=fun x d e=>by
     rw[List.lookup_cons] at e
     cases hx:x==n with
     |true=>
      rw[hx] at e
      have e1:x=n:=eq_of_beq hx
      subst e1
      cases e
      exact hc
     |false=>rw[hx] at e;exact ha x d e
    obtain⟨cl,e,h1,h2,h3⟩:=ih ((n,c)::acc) (fun y hy=>hn y (List.mem_cons_of_mem _ hy)) ha'
    refine⟨cl, ?_,h1,fun x d e=> ?_,fun y hy hf=> ?_⟩
    ·rw [List.forIn_cons]
     have ec:cellOf env n=pure c:=by unfold cellOf;rw[hc]
     simp only[beq_self_eq_true,if_true]
     rw[ec]
     exact e
    ·have e':=ha x d e
     by_cases hx:x=n
     ·subst hx
      rw[hc] at e';cases e'
      exact h2 x c (by rw[List.lookup_cons];simp)
     ·exact h2 x d (by rw[List.lookup_cons,beq_eq_false_iff_ne.mpr hx];exact e)
    ·rcases List.mem_cons.mp hy with rfl|hy
     ·show cl.lookup n=env.cells.lookup n
      rw[hc]
      exact h2 n c (by rw[List.lookup_cons];simp)
     ·exact h3 y hy hf
   ·obtain ⟨cl,e,h1,h2,h3⟩:=ih acc (fun y hy=>hn y (List.mem_cons_of_mem _ hy)) ha
    refine⟨cl, ?_,h1,h2,fun y hy hf=> ?_⟩
    ·rw [List.forIn_cons]
     have:(k==NameKind.free)=false:=by simpa using hk
     simp only[this,Bool.false_eq_true,if_false]
     exact e
    ·rcases List.mem_cons.mp hy with rfl|hy
     ·exact absurd hf hk
     ·exact h3 y hy hf
 obtain⟨cl,e,h1,_,h3⟩:=go scope.names [] h (fun x c e=>by simp at e)
 refine⟨cl, ?_,h1,h3⟩
 unfold closureFor
 exact (congrArg (fun m=>m >>= fun r=>pure r) e).trans rfl
noncomputable def zaW (n:Nat)(ix:List Nat)(σ:St):St:=List.replicate n none++ix.map fun i=>σ.getD i none
noncomputable def Cx.comp (X:Cx)(s₂:Shared)(H₂:Hp)(N':List Str)(scope:Scope)(cl:List (Str×Addr))(C:Addr)(fp:List Addr):Cx:=
 {X with N:=N',s₀:=s₂,H₀:=H₂,env:=compEnvC scope cl C X.env,outer:=X.stack,stack:=X.stack,ex:=fp,fn:=fun _=>false,pn:=[],xe:=fun _ _=>False}
structure CompScope (X:Cx) (scope:Scope) (N':List Str) (n:Nat) (ix:List Nat):Prop where
 kind:scope.kind=.function
 nocell:∀y∈scope.names,y.2≠.cell
 names:∀y∈scope.names,y.2=.local->scope.names.lookup y.1=some .local
 free:∀y∈scope.names,y.2=.free->X.env.scope.names.lookup y.1=some .cell∨X.env.scope.names.lookup y.1=some .free
 nodup:∀y:Str,(y,NameKind.free)∈scope.names->scope.names.lookup y=some .local->False
 len:N'.length=n+ix.length
 at_:∀(j i:Nat),ix[j]? =some i->∃x,N'[n+j]? =some x/\X.N[i]? =some x/\(x,NameKind.free)∈scope.names
theorem zaC {env:Env}{scope:Scope}(x:Str):(relabel scope env).names.lookup x=(scope.names.lookup x).map fun k=>if (k==.free&&env.scope.kind==.function&&env.kindOf x==some .cell) then .cell else k:=by
 show (scope.names.map fun (n,k)=>if (k==NameKind.free&&env.scope.kind==.function&&env.kindOf n==some .cell) then (n,NameKind.cell) else (n,k)).lookup x=_
 generalize scope.names=l
 induction l with
 |nil=>rfl
 | cons y r ih=>
  obtain⟨n,k⟩:=y
  rw[List.map_cons,List.lookup_cons]
  cases hx:x==n with
  | true=>
   have e:x=n:=eq_of_beq hx
   subst e
   by_cases hc:(k==NameKind.free&&env.scope.kind==.function&&env.kindOf x==some .cell)=true
   ·rw [if_pos hc,List.lookup_cons]
    simp only[beq_self_eq_true]
    show some NameKind.cell=some (ite _ _ _)
    rw[if_pos hc]
   ·rw [if_neg hc,List.lookup_cons]
    simp only[beq_self_eq_true]
    show some k=some (ite _ _ _)
    rw[if_neg hc]
  |false=>
   by_cases hc:(k==NameKind.free&&env.scope.kind==.function&&env.kindOf n==some .cell)=true
   ·rw[if_pos hc,List.lookup_cons,hx];exact ih
   ·rw[if_neg hc,List.lookup_cons,hx];exact ih
section
variable {X:Cx}{pins:List (Addr×Obj)}{σ:St}{H:Hp}{s:Shared}
theorem zcg {env:Env}{scope:Scope}{x:Str}(h:scope.names.lookup x=some .free):(relabel scope env).names.lookup x=some .cell∨(relabel scope env).names.lookup x=some .free:=by
 rw[zaC,h]
 by_cases hc:(NameKind.free==NameKind.free&&env.scope.kind==.function&&env.kindOf x==some .cell)=true
 ·exact .inl (by show some (ite _ _ _)=_;rw[if_pos hc])
 ·exact .inr (by show some (ite _ _ _)=_;rw[if_neg hc])
theorem zfj {env:Env}{scope:Scope}{x:Str}(hn:∀y∈scope.names,y.2≠.cell)(h:(relabel scope env).names.lookup x=some .cell∨(relabel scope env).names.lookup x=some .free):scope.names.lookup x=some .free:=by
 rw[zaC] at h
 cases e:scope.names.lookup x with
 |none=>rw[e] at h;rcases h with h|h<;>cases h
 | some k=>
  rw[e] at h
  have hk:=hn _ (PySem.mem_of_lookup e)
  by_cases hf:k=.free
  ·rw[hf]
  ·have hb:(k==NameKind.free)=false:=by simpa using hf
   have hr:Option.map (fun k=>if (k==NameKind.free&&env.scope.kind==.function&&env.kindOf x==some .cell)=true then NameKind.cell else k) (some k)=some k:=by
    show some (ite _ _ _)=_
    rw[if_neg (by rw[hb];simp)]
   rw[hr] at h
   rcases h with h|h
   ·cases h;exact absurd rfl hk
   ·exact h
theorem zeQ {scope:Scope}{N':List Str}{n:Nat}{ix:List Nat}{cl:List (Str×Addr)}{fp:List Addr}{h₁:Heap}{acc C:Addr}{na:Nat}{m:Str->Option Value}{tk:Nat}
  (I:Inv X pins σ H s) (S:CompScope X scope N' n ix) (hcl1:∀x c,cl.lookup x=some c->X.env.cells.lookup x=some c) (hcl2:∀y∈scope.names,y.2=.free->cl.lookup y.1=X.env.cells.lookup y.1)
  (hf:∀b∈fp,FpOk X pins H b) (hlt:∀b∈fp,b<s.heap.objs.size) (ha:s.heap.objs.size<=acc) (hC:s.heap.objs.size<=C) (hne:C≠acc)
  (k:∀b u,s.heap.get? b=some u->h₁.get? b=some u) (hacc:h₁.get? acc=some {cls:=.type "list",data:=.seq ([]:List Value).toArray na}) (hns:h₁.Ns C m):
  Inv (X.comp s H N' scope cl C fp) [] (zaW n ix σ) (upd H acc (.lst [])) {s with heap:=h₁,toks:=tk}:=by
 have fr:∀b:Addr,s.heap.objs.size<=b->H b=none:=fun b hb=>I.hok.fresh hb
 have cellLt:∀x c,cl.lookup x=some c->c<s.heap.objs.size:=fun x c e=>by
  obtain⟨v,q⟩:=I.cell x c (hcl1 x c e)
  exact q.lt
 refine⟨⟨I.ok.mod,S.kind,I.ok.glob,I.ok.blt,hC,fun x y c e1 e2=>I.ok.inj x y c (hcl1 x c e1) (hcl1 y c e2),fun x hx=> ?_,fun x c e _=>absurd e Bool.false_ne_true,I.ok.hd,I.ok.frames,.inl rfl,fun b hb=>⟨Nat.ne_of_lt (Nat.lt_of_lt_of_le (hlt b hb) hC),fun x c e=>(hf b hb).2.2.2.2.1 x c (hcl1 x c e)⟩,
   I.bs,Nat.le_trans I.ok.bsz I.sz,fun b o e hb=> ?_,fun b hb hs=> ?_,I.stack,I.stkFree⟩,
  rfl,I.bare,Un.laid k ha (fr acc ha),⟨m,hns,fun i x v e1 e2 e3=> ?_⟩,fun x c e=> ?_, ?_,fun x c e=> ?_,fun p hp=>absurd (show p∈([]:List (Addr×Obj)) from hp) (by simp),I.hok.laid k ha ⟨Nat.zero_le _,[],na,.nil,hacc⟩, ?_⟩
 ·have hx':scope.names.lookup x=some .free:=zfj (env:=X.env) S.nocell hx
  have hm:=PySem.mem_of_lookup hx'
  obtain⟨c,e⟩:=I.ok.has x (S.free _ hm rfl)
  exact⟨c,(hcl2 _ hm rfl).trans e⟩
 ·rcases (hf b hb).2.2.2.1 with z|z
  ·exact I.ok.noex b o e z
  ·exact absurd (Nat.lt_of_lt_of_le (Heap.lt_size e) (Nat.le_trans I.ok.bsz z)) (Nat.lt_irrefl _)
 ·rcases List.mem_cons.mp (I.stkSub b hs) with z|z
  ·exact (hf b hb).2.1 z
  ·exact (hf b hb).2.2.1 z
 ·-- a name of the frame,seen through its cell
  have hi:n<=i:=by
   by_cases hi:n<=i
   ·exact hi
   ·unfold zaW at e2
    rw[List.getElem?_append_left (by simp;(first|lia|omega)),List.getElem?_replicate] at e2
    split at e2<;>cases e2
  obtain⟨j,rfl⟩:∃j,i=n+j:=⟨i-n,by (first|lia|omega)⟩
  unfold zaW at e2
  rw[List.getElem?_append_right (by simp),List.length_replicate,Nat.add_sub_cancel_left,List.getElem?_map] at e2
  cases ej:ix[j]? with
  |none=>rw[ej] at e2;cases e2
  | some q=>
   rw[ej] at e2
   have e2':σ.getD q none=some v:=Option.some.inj e2
   have e2'':σ[q]? =some (some v):=by
    rw[List.getD_eq_getElem?_getD] at e2'
    cases eq:σ[q]? with
    |none=>rw[eq] at e2';cases e2'
    |some z=>rw[eq] at e2';exact congrArg some e2'
   obtain⟨y,h1,h2,h3⟩:=S.at_ j q ej
   have ey:y=x:=Option.some.inj (h1.symm.trans e1)
   subst ey
   have hk:=S.free _ h3 rfl
   obtain⟨mX,_,hl⟩:=I.loc
   obtain⟨u,r,l⟩:=hl q y v h2 e2'' (.inr hk)
   refine⟨u,r,.inr ?_⟩
   have hkc:X.env.kindOf y=some .cell∨X.env.kindOf y=some .free:=hk
   have l':∃c,X.env.cells.lookup y=some c/\s.heap.IsCell c (some u):=by
    rcases l with⟨z,_⟩|⟨_,c,ec,hc⟩
    ·rcases hkc with q|q<;>(rw[q] at z;cases z)
    ·exact⟨c,ec,hc⟩
   obtain⟨c,ec,o,ho,hd⟩:=l'
   have e3':Vis (relabel scope X.env) y:=e3
   refine⟨?_,c,(hcl2 _ h3 rfl).trans ec,o,k _ _ ho,hd⟩
   have nl:scope.names.lookup y≠some .local:=fun z=> ?_
   ·cases el:scope.names.lookup y with
    |none=>
     have:(relabel scope X.env).names.lookup y=none:=by rw[zaC,el];rfl
     rcases e3' with z|z|z<;>(rw[this] at z;cases z)
    | some kk=>
     have hmem:=PySem.mem_of_lookup el
     have ncell:=S.nocell _ hmem
     have hr:(relabel scope X.env).names.lookup y=some (if (kk==NameKind.free&&X.env.scope.kind==.function&&X.env.kindOf y==some .cell)=true then .cell else kk):=by rw[zaC,el];rfl
     by_cases hkf:kk=.free
     ·subst hkf
      exact zcg (env:=X.env) el
     ·have hb:(kk==NameKind.free)=false:=by simpa using hkf
      have hr':(relabel scope X.env).names.lookup y=some kk:=by rw[hr,hb];rfl
      rcases e3' with z|z|z
      ·rw[hr'] at z;cases z;exact absurd el nl
      ·rw[hr'] at z;cases z;exact absurd rfl ncell
      ·rw[hr'] at z;cases z;exact absurd rfl hkf
   ·exact S.nodup _ h3 z
 ·obtain ⟨v,o,ho,hd⟩:=I.cell x c (hcl1 x c e)
  exact⟨v,o,k _ _ ho,hd⟩
 ·show upd H acc (.lst []) C=none
  rw[zah hne];exact fr C hC
 ·show upd H acc (.lst []) c=none
  have:=cellLt x c e
  rw[zah (Nat.ne_of_lt (Nat.lt_of_lt_of_le this ha))]
  exact I.freeC x c (hcl1 x c e)
 ·show (zaW n ix σ).length=N'.length
  unfold zaW
  rw[List.length_append,List.length_replicate,List.length_map,S.len]
end
noncomputable def Wk (σ σ':St):Prop:=σ.length=σ'.length/\∀(i:Nat) v,σ[i]? =some (some v)->σ'[i]? =some (some v)
noncomputable def PTs (Y:Cx)(ifs:List Expr)(t:TT):Prop:=
 ∀(pins:List (Addr×Obj)) (s:Shared) (σ:St) (H:Hp) (Q:Bool->Hp->Prop),Inv Y pins σ H s->t σ H Q->
  wpAny (model Y.prog Y.w) Y.A (forIn ifs true fun c r=>if r=true then do let ok<-isTrue c Y.env (eval c Y.env);pure (ForInStep.yield ok) else pure (ForInStep.yield r)) (TP Y pins σ Q) Y.xe s
noncomputable def zaO:TT:=fun _ H Q=>Q true H
theorem zaP {Y:Cx}:PTs Y [] zaO:=fun _ _ _ H _ I h=>wpAny_tests_nil ⟨H,I,h⟩
theorem zca {Y:Cx}{c:Expr}{t:TT}(h:PT Y c t):PTs Y [c] t:=fun pins s σ H Q I q=>wpAny_tests_one (h pins s σ H Q I q)
theorem zch {prog:Program}{w:World}{A:Around}{R:Result->Shared->Prop}{s:Shared}{elt target iter:Expr}{ifs:List Expr}{scope:Scope}{pos:Pos}{it acc:Value}{env:Env}(I:Nat->Shared->Prop)
  (turn:∀n s,I n s->wpAny (model prog w) A (pyNext it) (fun r s₁=>match r with
   |none=>R (.ok .next) s₁
   | some v=>wpAny (model prog w) A (letOwnedTupleGo target it v) (fun _ s₂=>wpAny (model prog w) A (assign target env v) (fun _ s₃=>
     wpAny (model prog w) A (forIn ifs true fun c r=>if r=true then do let ok<-isTrue c env (eval c env);pure (ForInStep.yield ok) else pure (ForInStep.yield r)) (fun ok s₄=>
      if ok=true then wpAny (model prog w) A (eval elt env) (fun x s₅=>
       wpAny (model prog w) A (call (.builtin "list.append") [acc,x]) (fun _ s₆=>∃m,m<n/\I m s₆) (fun _ _=>False) s₅) (fun _ _=>False) s₄
      else ∃m,m<n/\I m s₄) (fun _ _=>False) s₃) (fun _ _=>False) s₂) (fun _ _=>False) s₁) (fun _ _=>False) s)
  (n:Nat) (h:I n s):
  codeAny (model prog w) A (.compLoop (.ListComp elt [⟨target,iter,ifs,0⟩] scope pos) 0 it acc env) R s:=by
 refine codeAny_loop rfl I (fun n s hI=> ?_) n h
 show wpAny _ A ((compTurn (.ListComp elt [⟨target,iter,ifs,0⟩] scope pos) 0 it acc env).onRaise (fun x=>do noteFrame x env;theTreesLotGoes x)) _ _ s
 refine wpAny_noted (wpAny_noRaise ?_)
 rw[compTurn_list]
 refine wpAny_bind (wpAny_standAt (wpAny_bind (thn (turn n s hI) fun r s₁ h₁=> ?_)))
 cases r with
 |none=>exact wpAny_pure h₁
 |some v=>
  refine wpAny_bind (thn h₁ fun _ s₂ h₂=>wpAny_bind (thn h₂ fun _ s₃ h₃=>wpAny_bind (thn h₃ fun ok s₄ h₄=> ?_)))
  cases ok with
  |false=>exact wpAny_pure ⟨rfl,h₄⟩
  |true=>exact wpAny_bind (wpAny_bind (thn h₄ fun x s₅ h₅=>wpAny_bind (thn h₅ fun _ s₆ h₆=>wpAny_pure (wpAny_pure ⟨rfl,h₆⟩))))
noncomputable def LcW (J:It)(H1:Hp)(g:TG)(tt:TT)(te:TE)(n:Nat)(ix:List Nat)(σ:St)(Q:VK):Prop:=∀acc,H1 acc=none->
 ∃ W:Nat->Nat->Hp->Prop,(∃m,W 0 m (upd H1 acc (.lst [])))/\∀i m H,W i m H->
  (J.stop i H/\Q (.ref acc) H)∨(J.go i H/\∀x H',J.yld i H x H'->g x (zaW n ix σ) H' fun σ2 H2=>Wk (zaW n ix σ) σ2/\tt σ2 H2 fun b H3=>
   if b=true then te σ2 H3 fun v H4=>∃ys,H4 acc=some (.lst ys)/\ys.length<sizeLine/\∃m',m'<m/\W (i+1) m' (upd H4 acc (.lst (ys++[v])))
   else ∃m',m'<m/\W (i+1) m' H3)
noncomputable def tLc (wi:TI)(g:TG)(tt:TT)(te:TE)(n:Nat)(ix:List Nat):TE:=fun σ H Q=>wi σ H fun J H1=>LcW J H1 g tt te n ix σ Q
section
variable {X:Cx}{elt tg iter:Expr}{ifs:List Expr}{scope:Scope}{pos:Pos}{wi:TI}{g:TG}{tt:TT}{te:TE}{N':List Str}{n:Nat}{ix:List Nat}
theorem zf1 {pins:List (Addr×Obj)}{σ:St}{H2:Hp}{s2:Shared}{cl:List (Str×Addr)}{it:Addr}{fp:List Addr}{tn:Nat->Heap->Prop}{J:It}{Q:VK}{R:Value->Addr->Result->Shared->Prop}
  (hc:X.calm=true) (S:CompScope X scope N' n ix)
  (hY:∀s₂ H₂ cl C fp,PG (X.comp s₂ H₂ N' scope cl C fp) tg g/\PTs (X.comp s₂ H₂ N' scope cl C fp) ifs tt/\PE (X.comp s₂ H₂ N' scope cl C fp) elt te)
  (I2:Inv X pins σ H2 s2) (hcl1:∀x c,cl.lookup x=some c->X.env.cells.lookup x=some c) (hcl2:∀y∈scope.names,y.2=.free->cl.lookup y.1=X.env.cells.lookup y.1)
  (T:Turn X.prog X.w X.K tg J fp it tn) (st2:tn 0 s2.heap) (f2:∀b∈fp,FpOk X pins H2 b)
  (hW:LcW J H2 g tt te n ix σ Q)
  (hR:∀acc C s' H' m,s'.heap.Ns C m->Inv X pins σ H' s'->H' C=none->C≠X.env.locals->(C∈X.ex∨X.s₀.heap.objs.size<=C)->(∀x c,X.env.cells.lookup x=some c->c≠C)->(∀p∈X.pn++pins,p.1≠C)->C∉X.fs->Q (.ref acc) H'->R (.ref acc) C (.ok .next) s'):
  wpAny (model X.prog X.w) X.A (newList []) (fun acc s₃=>wpAny (model X.prog X.w) X.A (newFunctionEnv scope X.env.globals cl [] X.env.qual none .none (some X.env)) (fun cenv s₄=>
   codeAny (model X.prog X.w) X.A (.compStart (.ListComp elt [⟨tg,iter,ifs,0⟩] scope pos) 0 (.ref it) acc {cenv with scope:=relabel scope X.env}) (R acc cenv.locals) s₄) X.xe s₃) X.xe s2:=by
 refine wpAny_newObj_type (wpAny_newFunctionEnv S.nocell (by intro y hy;simp at hy) (fun h₁ hns₁ hsb₁=> ?_) S.kind)
 dsimp only at hns₁ hsb₁ ⊢
 generalize hH2:s2.heap.push {cls:=.type "list",dict:=none,data:=.seq ([]:List Value).toArray}=G at hns₁ hsb₁ ⊢
 have hC:G.objs.size=s2.heap.objs.size+1:=by rw[<-hH2,Heap.size_push]
 have hlt:∀b∈fp,b<s2.heap.objs.size:=fun b hb=>by
  obtain⟨o,e,_⟩:=T.obj _ _ st2 b hb
  exact Heap.lt_size e
 have old:∀b o,s2.heap.get? b=some o->h₁.get? b=some o:=fun b o e=>hsb₁.extBut b o (by rw[hC];exact Nat.ne_of_lt (Nat.lt_succ_of_lt (Heap.lt_size e))) (Heap.get?_push_of_some _ (hH2▸Heap.get?_push_of_some _ e))
 have hacc:h₁.get? s2.heap.objs.size=some {cls:=.type "list",dict:=none,data:=.seq ([]:List Value).toArray}:=hsb₁.extBut _ _ (by rw[hC];exact Nat.ne_of_lt (Nat.lt_succ_self _)) (Heap.get?_push_of_some _ (hH2▸Heap.get?_push_size _ rfl))
 obtain⟨W,⟨m0,w0⟩,turn⟩:=hW s2.heap.objs.size (I2.hok.fresh (Nat.le_refl _))
 obtain⟨hYg,hYt,hYe⟩:=hY s2 H2 cl G.objs.size fp
 have fpY:∀{H':Hp},(∀b∈fp,H' b=none)->∀b∈fp,FpOk (X.comp s2 H2 N' scope cl G.objs.size fp) [] H' b:=fun {H'} hn b hb=>by
  obtain⟨_,q1,q2,q3,q4,q5⟩:=f2 b hb
  refine⟨hn b hb, ?_,fun z=> ?_,.inl hb,fun x c e=>q4 x c (hcl1 x c e),fun p hp=>absurd (show p∈([]:List (Addr×Obj)) from hp) (by simp)⟩
  ·show b≠G.objs.size
   rw[hC]
   exact Nat.ne_of_lt (Nat.lt_succ_of_lt (hlt b hb))
  ·rcases List.mem_cons.mp (I2.stkSub b z) with y|y
   ·exact q1 y
   ·exact q2 y
 have loop:∀s₃:Shared,s₃={s2 with heap:=h₁,toks:=s2.toks+([]:List (Str×Value)).length}->
   codeAny (model X.prog X.w) X.A (.compLoop (.ListComp elt [⟨tg,iter,ifs,0⟩] scope pos) 0 (.ref it) (.ref s2.heap.objs.size) (compEnvC scope cl G.objs.size X.env)) (R (.ref s2.heap.objs.size) G.objs.size) s₃:=by
  rintro s₃ rfl
  have I4:=zeQ (tk:=s2.toks+([]:List (Str×Value)).length) I2 S hcl1 hcl2 f2 hlt (Nat.le_refl _) (by rw[hC];exact Nat.le_succ _) (by rw[hC];exact Nat.ne_of_gt (Nat.lt_succ_self _)) old hacc hns₁
  refine zch (fun n' s'=>∃i H',Inv (X.comp s2 H2 N' scope cl G.objs.size fp) [] (zaW n ix σ) H' s'/\tn i s'.heap/\(∀b∈fp,H' b=none)/\W i n' H') ?_ m0
   ⟨0,_,I4,T.keep _ _ _ st2 fun b hb o e=>old b o e,fun b hb=> ?_,w0⟩
  ·rintro n' s3 ⟨i,H3,I3,st3,fr3,w3⟩
   rcases turn i n' H3 w3 with⟨stop,q⟩|⟨go,step⟩
   ·refine thn (T.done (X.comp s2 H2 N' scope cl G.objs.size fp) rfl rfl rfl hc i [] s3 _ H3 _ I3 (fpY fr3) st3 stop) fun r s4 zq=> ?_
    obtain⟨hr,I5⟩:=zq
    subst hr
    obtain⟨mC,hnC,_⟩:=I5.loc
    have IX:Inv X pins σ H3 s4:=I2.call' I5.os I5.base I5.hok I5.bare fun b hb=>by
     obtain⟨_,q1,q2,q3,q4,q5⟩:=f2 b hb
     exact⟨q3,q1,q4,q5⟩
    refine hR _ _ s4 H3 mC hnC IX I5.free ?_ (.inr ?_) (fun x c e z=> ?_) (fun p hp z=> ?_) (I2.nofs (by rw[hC];exact Nat.le_succ _)) q
    ·rw [hC]
     exact Nat.ne_of_gt (Nat.lt_succ_of_lt I2.lt)
    ·rw [hC]
     exact Nat.le_succ_of_le I2.sz
    ·obtain ⟨v,q⟩:=I2.cell x c e
     rw[hC] at z
     exact absurd z (Nat.ne_of_lt (Nat.lt_succ_of_lt q.lt))
    ·rw [hC] at z
     exact absurd z (Nat.ne_of_lt (Nat.lt_succ_of_lt (Heap.lt_size (I2.pin p hp).1)))
   ·refine thn (T.item (X.comp s2 H2 N' scope cl G.objs.size fp) rfl rfl rfl hc i [] s3 _ H3 _ I3 (fpY fr3) st3 go) fun r s4 zq=> ?_
    obtain⟨u,hr,h4⟩:=zq
    subst hr
    refine thn h4 fun _ s5 zq=> ?_
    obtain⟨x,H5,I5,r5,y5,st5,fr5⟩:=zq
    have I5':=I5.pinned (fpY fr5) (T.obj _ _ st5)
    refine thn (hYg _ s5 _ H5 x u _ I5' r5 (step x H5 y5)) fun _ s6 zq=> ?_
    obtain⟨σ6,H6,I6,wk,q6⟩:=zq
    have back:∀{H':Hp} {s':Shared},Inv (X.comp s2 H2 N' scope cl G.objs.size fp) ([]++zbx fp s5.heap) σ6 H' s'->
      Inv (X.comp s2 H2 N' scope cl G.objs.size fp) [] (zaW n ix σ) H' s'/\tn (i+1) s'.heap/\∀b∈fp,H' b=none:=fun {H' s'} I7=>by
     refine⟨I7.unpinned.weak wk.1 wk.2,T.keep _ _ _ st5 fun b hb o e=>(I7.pin (b,o) (List.mem_append_right _ (List.mem_append_right _ (zaL hb e)))).1,fun b hb=> ?_⟩
     obtain⟨o,e,d⟩:=T.obj _ _ st5 b hb
     exact (I7.pin (b,o) (List.mem_append_right _ (List.mem_append_right _ (zaL hb e)))).2.1
    refine thn (hYt _ s6 σ6 H6 _ I6 q6) fun ok s7 zq=> ?_
    obtain⟨H7,I7,q7⟩:=zq
    cases ok with
    |false=>
     rw[if_neg Bool.false_ne_true] at q7 ⊢
     obtain⟨m',hm,w7⟩:=q7
     obtain⟨b1,b2,b3⟩:=back I7
     exact⟨m',hm,i+1,H7,b1,b2,b3,w7⟩
    |true=>
     rw[if_pos rfl] at q7 ⊢
     refine thn (hYe _ s7 σ6 H7 _ I7 q7) fun xv s8 zq=> ?_
     obtain⟨v8,H8,I8,r8,ys,ha,hz,m',hm,w8⟩:=zq
     refine thn (zbB _ s8 σ6 H8 (.ref s2.heap.objs.size) [v8] (.ref s2.heap.objs.size) [xv] (fun _ H'=>H'=upd H8 s2.heap.objs.size (.lst (ys++[v8]))) I8 rfl (.cons r8 .nil) ⟨_,ys,v8,rfl,rfl,ha,hz,rfl⟩) fun _ s9 zq=> ?_
     obtain⟨_,H9,I9,_,e9⟩:=zq
     subst e9
     obtain⟨b1,b2,b3⟩:=back I9
     exact⟨m',hm,i+1,_,b1,b2,b3,w8⟩
  ·rw [zah (Nat.ne_of_lt (hlt b hb))]
   exact (f2 b hb).1
 exact codeAny_compStart_list (loop _ rfl) (T.self _ 0 _ _ _ (T.keep _ _ _ st2 fun b hb o e=>old b o e) (loop _ rfl))
theorem zbq (hc:X.calm=true)(S:CompScope X scope N' n ix)(hi:PI X tg iter wi)
  (hY:∀s₂ H₂ cl C fp,PG (X.comp s₂ H₂ N' scope cl C fp) tg g/\PTs (X.comp s₂ H₂ N' scope cl C fp) ifs tt/\PE (X.comp s₂ H₂ N' scope cl C fp) elt te)
  (hs:∀x,foldedSetIterable iter X.env x=pure x:=by intro _;rfl):PE X (.ListComp elt [⟨tg,iter,ifs,0⟩] scope pos) (tLc wi g tt te n ix):=by
 intro pins s σ H Q I h
 obtain⟨cl,hcl,hcl1,hcl2⟩:=zbK (env:=X.env) (scope:=scope) fun y hy hf=>I.ok.has _ (S.free y hy hf)
 rw[eval_ListComp]
 refine wpAny_comprehension_free (use:=none) rfl hs hcl S.kind S.names (thn (hi pins s σ H _ I h) fun v s1 h1=>thn h1 fun itv s2 h2=> ?_)
 obtain⟨it,fp,tn,J,H2,rfl,I2,T,st2,f2,hW⟩:=h2
 refine zf1 (R:=fun acc C=>compPost (model X.prog X.w) X.A X.xe none (EP X pins σ Q) acc C) hc S hY I2 hcl1 hcl2 T st2 f2 hW ?_
 intro acc C s' H' m hn IX hf hL h1 h2 h3 h4 q
 exact⟨m,hn,fun h' sb=>⟨.ref acc,H',IX.turned (t':=s'.toks) (fun b o hb e=>sb.extBut b o hb e) hf hL h1 h2 h3,rfl,q⟩⟩
theorem zeR {x:Str}{i:Nat}{pos' spos:Pos}(hsw:swapsWith (.ListComp elt [⟨tg,iter,ifs,0⟩] scope pos) (some (.Name x pos')) spos.line X.env=pure true)(hN:X.N.Nodup)(hi':X.N[i]? =some x)(hx:X.env.scope.names.lookup x=some .local)
  (hc:X.calm=true) (S:CompScope X scope N' n ix) (hi:PI X tg iter wi)
  (hY:∀s₂ H₂ cl C fp,PG (X.comp s₂ H₂ N' scope cl C fp) tg g/\PTs (X.comp s₂ H₂ N' scope cl C fp) ifs tt/\PE (X.comp s₂ H₂ N' scope cl C fp) elt te)
  (hs:∀x,foldedSetIterable iter X.env x=pure x:=by intro _;rfl):PS X (.Assign [.Name x pos'] (.ListComp elt [⟨tg,iter,ifs,0⟩] scope pos) spos) (tAsg (tLc wi g tt te n ix) (zaT i)):=by
 intro pins s σ H D I h
 obtain⟨cl,hcl,hcl1,hcl2⟩:=zbK (env:=X.env) (scope:=scope) fun y hy hf=>I.ok.has _ (S.free y hy hf)
 rw[exec_Assign_Name_used _ _ _ _ hsw]
 refine wpAny_bind (wpAny_standAt (wpAny_bind ?_))
 show wpAny _ _ (do let _<-comprehension (.ListComp elt [⟨tg,iter,ifs,0⟩] scope pos) scope X.env _ (newList []) false (eval iter X.env) (some (assign (.Name x pos') X.env))) _ _ s
 refine wpAny_bind (thn (wpAny_comprehension_free (use:=some (assign (.Name x pos') X.env)) (Q:=fun _ s'=>SP X pins D .next s') rfl hs hcl S.kind S.names (thn (hi pins s σ H _ I h) fun v s1 h1=>thn h1 fun itv s2 h2=> ?_)) fun _ s' hq=>wpAny_pure (wpAny_pure hq))
 obtain⟨it,fp,tn,J,H2,rfl,I2,T,st2,f2,hW⟩:=h2
 refine zf1 (Q:=fun x H1=>zaT i x σ H1 D.nx) (R:=fun acc C=>compPost (model X.prog X.w) X.A X.xe (some (assign (.Name x pos') X.env)) (fun _ s'=>SP X pins D .next s') acc C) hc S hY I2 hcl1 hcl2 T st2 f2 hW ?_
 intro acc C s' H' m hn IX hf hL h1 h2 h3 h4 q
 show wpAny _ _ (assign (.Name x pos') X.env (.ref acc)) _ _ _
 obtain⟨oC,esC,epC,hoC,hdC,rC⟩:=id hn
 have IP:Inv X (pins++[(C,oC)]) σ H' s':=IX.pins_of fun p hp=>by
  rcases List.mem_append.mp hp with z|z
  ·exact IX.pin p (List.mem_append_right _ z)
  ·have e:p=(C,oC):=by simpa using z
   subst e
   exact⟨hoC,hf,hL,h4,fun v z=>by rw[hdC] at z;cases z⟩
 refine thn (zak hN hi' (.inl hx) (.inr hx) _ s' σ H' (.ref acc) (.ref acc) D.nx IP rfl q) fun _ s'' zq=> ?_
 obtain⟨σ',H'',I'',q''⟩:=zq
 obtain⟨e1,e2,_⟩:=I''.pin (C,oC) (List.mem_append_right _ (List.mem_append_right _ (by simp)))
 refine⟨m,⟨oC,esC,epC,e1,hdC,rC⟩,fun h' sb=>⟨σ',H'', ?_,q''⟩⟩
 exact I''.unpinned.turned (t':=s''.toks) (fun b o hb e=>sb.extBut b o hb e) e2 hL h1 h2 h3
end
theorem PE.mono {X:Cx}{e:Expr}{t t':TE}(h:PE X e t)(m:∀σ H Q,t' σ H Q->t σ H Q):PE X e t':=fun pins s σ H Q I q=>h pins s σ H Q I (m σ H Q q)
theorem zac {H:Hp}{a:Addr}{o:HO}(h:H a=none):Same H (upd H a o):=fun b u e=>by
 rw[zah (zam e h)];exact e
theorem zav {H H':Hp}{a:Addr}{o:HO}(s:Same H H')(h:H a=none):Same H (upd H' a o):=fun b u e=>by
 rw[zah (zam e h)];exact s b u e
noncomputable def SameT (H H':Hp):Prop:=∀b xs,H b=some (.tup xs)->H' b=some (.tup xs)
theorem Same.t {H H':Hp}(h:Same H H'):SameT H H':=fun b xs e=>h b _ e
theorem SameT.trans {H H1 H2:Hp}(a:SameT H H1)(b:SameT H1 H2):SameT H H2:=fun c o h=>b c o (a c o h)
theorem zbX {H:Hp}{a:Addr}{xs ys:List V}(h:H a=some (.lst xs)):SameT H (upd H a (.lst ys)):=fun b zs e=>by
 rw[zah (zfd e h (by intro z;cases z))];exact e
structure Yields (J:It) (Ok:Hp->Prop) (xs:List V):Prop where
 go:∀i H,Ok H->i<xs.length->J.go i H
 yld:∀i H x H',Ok H->i<xs.length->J.yld i H x H'->H'=H/\xs[i]? =some x
 stop:∀H,Ok H->J.stop xs.length H
theorem zbr {K:PySem.W.Frag}{a:Addr}{xs:List V}:Yields (Itl K a) (fun H=>SqL K H a xs) xs:=
 ⟨fun i H q h=>⟨xs,xs[i],q,by simp[h]⟩,fun i H x H' q _ y=>⟨y.1,y.2 xs q⟩,fun H q=>⟨xs,q,Nat.le_refl _⟩⟩
theorem zfk {K:PySem.W.Frag}{a:Addr}{xs:List V}:Yields (Itt K a) (fun H=>SqT K H a xs) xs:=
 ⟨fun i H q h=>⟨xs,xs[i],q,by simp[h]⟩,fun i H x H' q _ y=>⟨y.1,y.2 xs q⟩,fun H q=>⟨xs,q,Nat.le_refl _⟩⟩
noncomputable def zaD (lo:Int)(n:Nat):List V:=(List.range n).map fun (i:Nat)=>V.int (lo+(i:Int))
theorem zaH (lo:Int)(n:Nat):(zaD lo n).length=n:=by simp[zaD]
theorem zfl {lo:Int}{n i:Nat}(h:i<n):(zaD lo n)[i]? =some (V.int (lo+(i:Int))):=by
 simp[zaD,h]
theorem zaX {lo:Int}{n:Nat}:Yields (Itr lo n) (fun _=>True) (zaD lo n):=by
 refine⟨fun i H _ h=> ?_,fun i H x H' _ h y=> ?_,fun H _=> ?_⟩
 ·rw[zaH] at h;exact h
 ·obtain ⟨y1,y2⟩:=y
  rw[zaH] at h
  exact⟨y1,by rw[zfl h,y2]⟩
 ·rw[zaH];exact Nat.le_refl _
section
variable {J:It}{Ok:Hp->Prop}{xs:List V}{tt:TT}{te:TE}{ix:List Nat}{σ:St}{H1:Hp}{Q:VK}
theorem zcJ (Y:Yields J Ok xs)(small:xs.length<sizeLine)(p:V->Bool)(f:V->V)(hok:∀H,Same H1 H->Ok H)
  (ht:∀x∈xs,∀H,Same H1 H->∀Q':Bool->Hp->Prop,Q' (p x) H->tt (some x::ix.map fun i=>σ.getD i none) H Q')
  (he:∀x∈xs,p x=true->∀H,Same H1 H->∀Q':VK,Q' (f x) H->te (some x::ix.map fun i=>σ.getD i none) H Q')
  (fin:∀acc,H1 acc=none->Q (.ref acc) (upd H1 acc (.lst ((xs.filter p).map f)))):
  LcW J H1 (zaT 0) tt te 1 ix σ Q:=by
 intro acc ha
 refine⟨fun i m H=>m=xs.length-i/\i<=xs.length/\H=upd H1 acc (.lst (((xs.take i).filter p).map f)),⟨xs.length,by simp,Nat.zero_le _,rfl⟩, ?_⟩
 rintro i m H ⟨rfl,hi,rfl⟩
 have sm:Same H1 (upd H1 acc (.lst (((xs.take i).filter p).map f))):=zac ha
 have o:=hok _ sm
 by_cases hlt:i<xs.length
 ·refine .inr ⟨Y.go i _ o hlt,fun x H' y=> ?_⟩
  obtain⟨rfl,hx⟩:=Y.yld i _ x H' o hlt y
  have hmem:x∈xs:=List.mem_of_getElem? hx
  have htk:xs.take (i+1)=xs.take i++[x]:=by
   rw[List.take_succ,hx];rfl
  refine⟨⟨rfl,fun j v e=> ?_⟩, ?_⟩
  ·cases j with
   |zero=>cases e
   |succ j=>exact e
  ·refine ht x hmem _ sm _ ?_
   cases hp:p x with
   |false=>
    rw[if_neg Bool.false_ne_true]
    refine⟨xs.length-(i+1),by (first|lia|omega),rfl,hlt, ?_⟩
    rw[htk,List.filter_append]
    simp[hp]
   | true=>
    rw[if_pos rfl]
    refine he x hmem hp _ sm _ ?_
    refine⟨_,zab, ?_,xs.length-(i+1),by (first|lia|omega),rfl,hlt, ?_⟩
    ·rw [List.length_map]
     refine Nat.lt_of_le_of_lt (List.length_filter_le _ _) ?_
     rw[List.length_take];(first|lia|omega)
    ·rw [zh2,htk,List.filter_append,List.map_append]
     simp[hp]
 ·have e:i=xs.length:=by (first|lia|omega)
  subst e
  refine .inl ⟨Y.stop _ o, ?_⟩
  rw[List.take_length]
  exact fin acc ha
theorem zei (Y:Yields J Ok xs)(small:xs.length<sizeLine)(R:V->V->Hp->Prop)(hR:∀x v H H',SameT H H'->R x v H->R x v H')(hok:∀H,Same H1 H->Ok H)
  (he:∀x∈xs,∀H,Same H1 H->∀Q':VK,(∀v H',Same H H'->R x v H'->Q' v H')->te (some x::ix.map fun i=>σ.getD i none) H Q')
  (fin:∀acc ys H',H1 acc=none->Same H1 H'->H' acc=some (.lst ys)->Paired (fun x v=>R x v H') xs ys->Q (.ref acc) H'):
  LcW J H1 (zaT 0) zaO te 1 ix σ Q:=by
 intro acc ha
 refine⟨fun i m H=>m=xs.length-i/\i<=xs.length/\Same H1 H/\∃ys,H acc=some (.lst ys)/\Paired (fun x v=>R x v H) (xs.take i) ys,⟨xs.length,by simp,Nat.zero_le _,zac ha,[],zab,.nil⟩, ?_⟩
 rintro i m H ⟨rfl,hi,sm,ys,hacc,pr⟩
 have o:=hok _ sm
 have hlen:ys.length=i:=by rw[<-Paired.length pr,List.length_take];(first|lia|omega)
 by_cases hlt:i<xs.length
 ·refine .inr ⟨Y.go i _ o hlt,fun x H' y=> ?_⟩
  obtain⟨rfl,hx⟩:=Y.yld i _ x H' o hlt y
  have hmem:x∈xs:=List.mem_of_getElem? hx
  have htk:xs.take (i+1)=xs.take i++[x]:=by
   rw[List.take_succ,hx];rfl
  refine⟨⟨rfl,fun j v e=> ?_⟩, ?_⟩
  ·cases j with
   |zero=>cases e
   |succ j=>exact e
  ·unfold zaO
   dsimp only
   rw[if_pos rfl]
   refine he x hmem _ sm _ fun v H4 s4 r4=> ?_
   have h4:H4 acc=some (.lst ys):=s4 _ _ hacc
   refine⟨ys,h4,by (first|lia|omega),xs.length-(i+1),by (first|lia|omega),rfl,hlt,zav (sm.trans s4) ha,ys++[v],zab, ?_⟩
   rw[htk]
   have st:SameT H4 (upd H4 acc (.lst (ys++[v]))):=zbX h4
   exact Paired.snoc (Paired.mapP pr fun x' v' r'=>hR _ _ _ _ (s4.t.trans st) r') (hR _ _ _ _ st r4)
 ·have e:i=xs.length:=by (first|lia|omega)
  subst e
  refine .inl ⟨Y.stop _ o, ?_⟩
  rw[List.take_length] at pr
  exact fin acc ys H ha sm hacc pr
end
section
variable {prog:Program}{w:World}{A:Around}{E:Value->Shared->Prop}{s:Shared}
theorem zbL {it t:Addr}{i:Nat}{its:Array Value}{x:Value}{Q:Value->Shared->Prop}(hi:s.heap.IsTupleIter it t i)(ht:s.heap.IsTuple t its)(hx:its[i]? =some x)
  (q:∀h',h'.IsTupleIter it t (i+1)->Heap.SameBut it s.heap h'->Q x {s with heap:=h'}):wpAny (model prog w) A (Builtin.SmallTypes.nextOf (.ref it)) Q E s:=by
 obtain⟨o,e1,e2,e3⟩:=id hi
 obtain⟨u,f1,f2,nu,f3⟩:=ht
 unfold Builtin.SmallTypes.nextOf
 refine wpAny_bind (wpAny_callSpecial?_slot (name:=Str.ofString "__next__") hi.typeIs F.slot_tuple_iterator_next (wpAny_call_entry F.slot_tuple_iterator_next hi.typeIs F.entry_tuple_iterator_next ?_ (F.args_tuple_iterator_next_1 _)))
 show wpAny _ _ (field (.ref it) 0 >>= _) _ _ s
 refine wpAny_bind (wpAny_field e1 e3 (x:=.ref t) rfl ?_)
 show wpAny _ _ (if (Value.ref t==Value.none)=true then _ else _) _ _ s
 rw[if_neg (show ¬((Value.ref t==Value.none)=true) from Bool.false_ne_true)]
 show wpAny _ _ (field (.ref it) 1 >>= _) _ _ s
 refine wpAny_bind (wpAny_field e1 e3 (x:=.int i 0) rfl ?_)
 show wpAny _ _ (seqItems? (.ref t) >>= _) _ _ s
 refine wpAny_bind (wpAny_seqItems f1 f3 ?_)
 simp only[Int.toNat_natCast,hx]
 refine wpAny_bind (wpAny_setField e1 e3 (by simp) (wpAny_pure ⟨x,rfl,wpAny_pure (q _ ⟨_,Heap.get?_update_self _ e1 (Obj.isFreed_of_fields (Obj.data_mapFields e3 _)),(Obj.cls_mapFields ..).trans e2, ?_⟩ (Heap.SameBut.update ..))⟩))
 rw[Obj.data_mapFields e3]
 simp[rawInt]
theorem zcK {it t:Addr}{i:Nat}{its:Array Value}{Q:Value->Shared->Prop}(hh:A.handled=none)(hi:s.heap.IsTupleIter it t i)(ht:s.heap.IsTuple t its)(hx:its[i]? =none)
  (q:∀h' e,Heap.ExtBut it s.heap h'->(∃o,h'.get? e=some o/\o.cls=.type "StopIteration")->E (.ref e) {s with heap:=h'}):wpAny (model prog w) A (Builtin.SmallTypes.nextOf (.ref it)) Q E s:=by
 obtain⟨o,e1,e2,e3⟩:=id hi
 obtain⟨u,f1,f2,nu,f3⟩:=ht
 unfold Builtin.SmallTypes.nextOf
 refine wpAny_bind (wpAny_callSpecial?_slot (name:=Str.ofString "__next__") hi.typeIs F.slot_tuple_iterator_next (wpAny_call_entry F.slot_tuple_iterator_next hi.typeIs F.entry_tuple_iterator_next ?_ (F.args_tuple_iterator_next_1 _)))
 show wpAny _ _ (field (.ref it) 0 >>= _) _ _ s
 refine wpAny_bind (wpAny_field e1 e3 (x:=.ref t) rfl ?_)
 show wpAny _ _ (if (Value.ref t==Value.none)=true then _ else _) _ _ s
 rw[if_neg (show ¬((Value.ref t==Value.none)=true) from Bool.false_ne_true)]
 show wpAny _ _ (field (.ref it) 1 >>= _) _ _ s
 refine wpAny_bind (wpAny_field e1 e3 (x:=.int i 0) rfl ?_)
 show wpAny _ _ (seqItems? (.ref t) >>= _) _ _ s
 refine wpAny_bind (wpAny_seqItems f1 f3 ?_)
 simp only[Int.toNat_natCast,hx]
 refine wpAny_bind (wpAny_rule (wpAny_bind (wpAny_setField e1 e3 (by simp) ?_)))
 show wpAny _ _ (newExc (.type "StopIteration") [] >>= _) _ _ _
 refine wpAny_bind ?_
 simp only[newExc,newTuple]
 refine wpAny_bind (wpAny_newObj_type ?_ (by size_fits))
 refine wpAny_bind (m:=firstArgMember _ _) (wpAny_of_eq (a:=Value.none) (by first|rfl|(simp only[firstArgMember];rfl)) ?_)
 refine wpAny_newObj_type ?_ (by size_fits)
 simp only[raiseNew]
 refine wpAny_bind (wpAny_handled ?_)
 first|rw[show A.in1.handled=none from hh]|rw[hh]
 refine wpAny_bind (wpAny_pure (wpAny_throw ?_))
 exact q _ _ (((Heap.SameBut.update ..).extBut.push _).push _) ⟨_,Heap.get?_push_size _ rfl,rfl⟩
end
theorem zhU {prog:Program}{w:World}{A:Around}(hh:A.handled=none)(it t:Addr)(hne:t≠it)(its:Array Value):
  Draws prog w A it [it,t] its.size (fun i v=>its[i]? =some v) (fun i h=>h.IsTupleIter it t i/\h.IsTuple t its) where
 live:=fun _ _ st=>let ⟨o,ho,_⟩:=st.1;⟨o,ho⟩
 frame:=fun _ _ _ st hk=>⟨let ⟨o,ho,r⟩:=st.1;⟨o,hk it (by simp) o ho,r⟩,let ⟨o,ho,r⟩:=st.2;⟨o,hk t (by simp) o ho,r⟩⟩
 item:=fun i s Q E hi st hQ=>zbL st.1 st.2 (x:=its[i]) (by simp[hi]) fun h' a b=>hQ _ h' s.toks (by simp[hi]) ⟨a,st.2.extBut b.extBut hne⟩ b
 done:=fun s Q E st hE=>zcK hh st.1 st.2 (by simp) hE
theorem zf2 (l:Addr)(items:Array Value)(n:Nat)(dct:Option Addr)(sl:Array (Option Value)):
  Meets (Builtin.«enumerate.__new__» ⟨[.type "enumerate",.ref l],[]⟩) (fun _ R s=>s.heap.get? l=some {cls:=.type "tuple",dict:=dct,data:=.seq items n,slots:=sl}/\
   R (.ok (.ret (.ref (s.heap.push {cls:=.type "tuple_iterator",data:=.fields #[.ref l,.int 0 0]}).objs.size)))
    {s with heap:=(s.heap.push {cls:=.type "tuple_iterator",data:=.fields #[.ref l,.int 0 0]}).push {cls:=.type "enumerate",data:=.fields #[.none,.bool false,.ref s.heap.objs.size,rawInt 0,.none,.none]}}):=
 .of_wp fun prog w A R s h=>by
  obtain⟨hp,g,d,tk,os⟩:=s;obtain⟨hl,h⟩:=h
  have hsub:=sub_enumerate
  have hL:Heap.IsTuple (Shared.heap ⟨hp,g,d,tk,os⟩) l items:=⟨_,hl,rfl,n,rfl⟩
  wp_walk using AutoSeq1.wpAny_loadPart' hl
  refine wpAny_stack_any fun st=>wpAny_pure ?_
  split
  ·rename_i c _ _ _ _ _
   cases (c==Value.type "enumerate")<;>(wp_walk using AutoSeq1.wpAny_loadPart' hl,wpAny_pyIter_tuple hL;exact⟨_,rfl,h⟩)
  ·wp_walk using AutoSeq1.wpAny_loadPart' hl,wpAny_pyIter_tuple hL
   exact⟨_,rfl,h⟩
theorem zfm {prog:Program}{w:World}{A:Around}{E:Value->Shared->Prop}{s:Shared}{l:Addr}{items:Array Value}{Q:Value->Shared->Prop}(hL:s.heap.IsTuple l items)
  (h:∀h',IsEnum h' (s.heap.objs.size+1) s.heap.objs.size 0 .none->h'.IsTupleIter s.heap.objs.size l 0->h'.objs.size=s.heap.objs.size+2->
   (∀b o,s.heap.get? b=some o->h'.get? b=some o)->Q (.ref (s.heap.objs.size+1)) {s with heap:=h'}):
  wpAny (model prog w) A (call (.type "enumerate") [.ref l]) Q E s:=by
 obtain⟨⟨c,dct,dt,sl⟩,hl,hc,n,hd⟩:=hL
 replace hc:c=.type "tuple" :=hc
 replace hd:dt=.seq items n:=hd
 subst hc hd
 refine callType_new F.called_enumerate (by decide) (F.typeCall_enumerate_1 _) (F.newCall_enumerate_1 _) (fun obj=>F.args_object_init_2 obj _) F.entry_enumerate_new (zf2 l items n dct sl) ⟨hl, ?_⟩
 have hz:(s.heap.push {cls:=.type "tuple_iterator",data:=.fields #[.ref l,.int 0 0]}).objs.size=s.heap.objs.size+1:=Heap.size_push ..
 show _/\_
 rw[hz]
 have he:=Heap.get?_push_size (s.heap.push {cls:=.type "tuple_iterator",data:=.fields #[.ref l,.int 0 0]}) (o:={cls:=.type "enumerate",data:=.fields #[.none,.bool false,.ref s.heap.objs.size,rawInt 0,.none,.none]}) rfl
 rw[hz] at he
 exact⟨⟨_,he,rfl⟩,h _ he ⟨_,Heap.get?_push_of_some _ (Heap.get?_push_size _ rfl),rfl,rfl⟩ (by rw[Heap.size_push,hz]) fun b o x=>Heap.get?_push_of_some _ (Heap.get?_push_of_some _ x)⟩
section
variable {X:Cx}{pins:List (Addr×Obj)}{σ:St}{H:Hp}{s:Shared}{h':Heap}
theorem Inv.turnedN {t':Nat}{fp:List Addr}(I:Inv X pins σ H s)(hf:∀b∈fp,FpOk X pins H b)(k:∀b o,b∉fp->s.heap.get? b=some o->h'.get? b=some o):Inv X pins σ H {s with heap:=h',toks:=t'}:=by
 have nit:∀b u,H b=some u->b∉fp:=fun b u e z=>by rw[(hf b z).1] at e;cases e
 refine I.step (g':=s.gens) (d':=s.drawn) (ch:=fp) (fun b hb=> ?_) (fun b o _ _ hc e _=>k b o hc e) (fun b o _ _ hc e _=>⟨o.slots,k b o hc e⟩) (fun _ _ _ _ n=>n)
  (fun b o hc e=>⟨o,k b o hc e⟩) (fun _ _ e=>e) (fun _ _ _ e=>e) (fun b ps e=>⟨#[],by rw[e];simp⟩) (fun m hm=> ?_) (fun b u e=> ?_) I.bare
 ·obtain ⟨_,q1,q2,q3,q4,q5⟩:=hf b hb
  exact⟨q3,q1,q4,q5⟩
 ·obtain ⟨o,es,ep,ho,r⟩:=hm
  exact⟨o,es,ep,k _ o (fun z=>(hf _ z).2.1 rfl) ho,r⟩
 ·refine (I.hok b u e).stay (fun c v hc q=>k c v ?_ q) (fun _ q=>q) fun _ _ q=>q
  rcases hc with z|z
  ·rw[z];exact nit b u e
  ·exact nit c _ z
theorem Inv.trackT {a:Addr}{xs:List V}{its:List Value}(I:Inv X pins σ H s)(hn:H a=none)(hs:X.s₀.heap.objs.size<=a)(hL:a≠X.env.locals)(hc:∀x c,X.env.cells.lookup x=some c->c≠a)(hp:∀p∈X.pn++pins,p.1≠a)
  (rv:Vals xs its) (ht:PTup s.heap a its.toArray) (hz:xs.length<=sizeLine):Inv X pins σ (upd H a (.tup xs)) s:=by
 have ne:∀{b u},H b=some u->b≠a:=fun e=>zam e hn
 refine⟨I.ok,I.os,I.bare,⟨I.base.keep,I.base.slot,fun b o e n hx=> ?_,I.base.there,fun b ys e=> ?_,fun b o u e=> ?_,fun b ps e=> ?_⟩,I.loc,I.cell, ?_,fun x c e=> ?_,fun p hp'=> ?_,fun b u e=> ?_,I.len⟩
 ·rw [zah (Nat.ne_of_lt (Nat.lt_of_lt_of_le (Heap.lt_size e) hs))]
  exact I.base.free b o e n hx
 ·have q:=I.base.tups b ys e
  rw[zah (ne q)];exact q
 ·have q:=I.base.frzs b o u e
  rw[zah (ne q)];exact q
 ·obtain ⟨m,q⟩:=I.base.tbls b ps e
  exact⟨m,by rw[zah (ne q)];exact q⟩
 ·rw[zah (Ne.symm hL)];exact I.free
 ·rw[zah (hc x c e)];exact I.freeC x c e
 ·obtain ⟨q1,q2,q3⟩:=I.pin p hp'
  exact⟨q1,by rw[zah (hp p hp')];exact q2,q3⟩
 ·by_cases hb:b=a
  ·subst hb
   rw[zab] at e;cases e
   exact⟨hz,its,rv,ht⟩
  ·rw [zah hb] at e
   exact (I.hok b u e).stay (fun _ _ _ q=>q) (fun c q=>by rw[zah (ne q)];exact q) fun c ys q=>by rw[zah (ne q)];exact q
theorem Inv.turnedT {t':Nat}{fp:List Addr}{xs:List V}{its:List Value}(I:Inv X pins σ H s)(hf:∀b∈fp,FpOk X pins H b)(k:∀b o,b∉fp->s.heap.get? b=some o->h'.get? b=some o)
  (rv:Vals xs its) (ht:PTup h' s.heap.objs.size its.toArray) (hz:xs.length<=sizeLine):Inv X pins σ (upd H s.heap.objs.size (.tup xs)) {s with heap:=h',toks:=t'}:=by
 refine (I.turnedN (t':=t') hf k).trackT (I.hok.fresh (Nat.le_refl _)) I.sz (Nat.ne_of_gt I.lt) (fun x c e=> ?_) (fun p hp=> ?_) rv ht hz
 ·obtain ⟨v,q⟩:=I.cell x c e
  exact Nat.ne_of_lt q.lt
 ·exact Nat.ne_of_lt (Heap.lt_size (I.pin p hp).1)
end
noncomputable def Ite (K:PySem.W.Frag)(a:Addr):It:=
 ⟨fun i H=>∃xs x,SqT K H a xs/\xs[i]? =some x,fun i H v H'=>∃t x,H t=none/\v=.ref t/\H'=upd H t (.tup [.int i,x])/\∀xs,SqT K H a xs->xs[i]? =some x,fun i H=>∃xs,SqT K H a xs/\xs.length=i⟩
theorem zfn {P:Program}{w:World}{K:PySem.W.Frag}{els:List Expr}{kx}{tp:Pos}(a e it:Addr)(hne:e≠it):Turn P w K (.Tuple els kx tp) (Ite K a) [e,it] e (fun i h=>(∃old,IsEnum h e it i old)/\h.IsTupleIter it a i) where
 mem:=by simp
 obj:=fun i h st b hb=>by
  obtain⟨⟨old,he⟩,o,ho,hc,hd⟩:=st
  rcases List.mem_cons.mp hb with rfl|hb
  ·exact⟨_,he,fun v z=>by cases z⟩
  ·rw [List.mem_singleton.mp hb]
   exact⟨o,ho,fun v z=>by rw[hd] at z;cases z⟩
 keep:=fun i h h' st k=>by
  obtain⟨⟨old,he⟩,o,ho,r⟩:=st
  exact⟨⟨old,k e (by simp) _ he⟩,o,k it (by simp) _ ho,r⟩
 item:=by
  intro X hP hw hK hc i pins s σ H E I hf st hg
  subst hP hw hK
  obtain⟨xs,x,hq,hx⟩:=hg
  obtain⟨its,rv,p,hz⟩:=I.tuple hq
  obtain⟨u,hu,ru⟩:=rv.get hx
  obtain⟨⟨old,he⟩,hi⟩:=st
  obtain⟨o,ho,hcl,hd⟩:=id hi
  have hT:s.heap.IsTuple a its.toArray:=p
  have hai:a≠it:=fun z=>by
   obtain⟨o',e1,e2,_⟩:=p
   rw[z,ho] at e1;cases e1;rw[hcl] at e2;injection e2 with z2;revert z2;decide
  have hae:e≠a:=fun z=>by
   obtain⟨o',e1,e2,_⟩:=p
   rw[<-z,he] at e1;cases e1;injection e2 with z2;revert z2;decide
  have hlt:i<its.toArray.size:=by
   have:=(List.getElem?_eq_some_iff.mp hu).1
   simpa using this
  have hh:X.A.in1.handled=none:=I.ok.hd hc
  refine wpAny_pyNext_enum_itemD (zhU hh it a hai its.toArray) he ⟨hi,hT⟩ hlt hne (by simp[hne,hae]) fun x' h1 tk hP1 ho1 hs1 hT1 hz1 hk1=> ?_
  have ex:x'=u:=by
   have q:its[i]? =some x':=by simpa using hP1
   rw[hu] at q;exact (Option.some.inj q).symm
  subst ex
  refine⟨_,rfl,wpAny_letOwnedTupleGo_enum ho1 fun h2 he2 hs2=> ?_⟩
  have hne0:s.heap.objs.size≠e:=Nat.ne_of_gt (Heap.lt_size he)
  have keep:∀b o,b∉[e,it]->s.heap.get? b=some o->h2.get? b=some o:=fun b o hb e0=>(hs2.2 b fun z=>hb (by simp[z])).trans (hk1 b o (fun z=>hb (by simp[z])) (fun z=>hb (by simp[z])) e0)
  refine⟨.ref s.heap.objs.size,_,I.turnedT (h':=h2) (t':=tk+1) (xs:=[.int i,x]) hf keep (.cons ⟨tk,rfl⟩ (.cons ru .nil)) ⟨_,(hs2.2 _ hne0).trans hT1,rfl,⟨_,rfl⟩,rfl,rfl⟩ (by show 2<=sizeLine;decide),rfl,⟨_,x,I.hok.fresh (Nat.le_refl _),rfl,rfl,fun ys hy=>by rw[I.tuple_inj hy hq];exact hx⟩,⟨⟨_,by simpa using he2⟩, ?_⟩,fun b hb=> ?_⟩
  ·obtain ⟨⟨o1,e1,r1⟩,_⟩:=hs1
   exact⟨o1,(hs2.2 it (Ne.symm hne)).trans e1,r1⟩
  ·rcases List.mem_cons.mp hb with rfl|hb'
   ·rw[zah (Nat.ne_of_lt (Heap.lt_size he))];exact (hf _ hb).1
   ·have e9:=List.mem_singleton.mp hb'
    subst e9
    rw[zah (Nat.ne_of_lt (Heap.lt_size ho))];exact (hf _ hb).1
 done:=by
  intro X hP hw hK hc i pins s σ H E I hf st hg
  subst hP hw hK
  obtain⟨xs,hq,hx⟩:=hg
  obtain⟨its,rv,p,hz⟩:=I.tuple hq
  obtain⟨⟨old,he⟩,hi⟩:=st
  obtain⟨o,ho,hcl,hd⟩:=id hi
  have hT:s.heap.IsTuple a its.toArray:=p
  have hai:a≠it:=fun z=>by
   obtain⟨o',e1,e2,_⟩:=p
   rw[z,ho] at e1;cases e1;rw[hcl] at e2;injection e2 with z2;revert z2;decide
  have hh:X.A.in1.handled=none:=I.ok.hd hc
  have hl:its.toArray.size=i:=by rw[List.size_toArray,<-rv.length,hx]
  refine wpAny_pyNext_enum_endD (zhU hh it a hai its.toArray) he (by rw[hl];exact⟨hi,hT⟩) fun h1 hk=>⟨rfl, ?_⟩
  exact I.turnedN (t':=s.toks) hf fun b o hb e0=>hk b o (fun z=>hb (by simp[z])) e0
 self:=fun _ _ _ _ _ st h=>by
  obtain⟨⟨old,he⟩,_⟩:=st
  exact wpAny_pyIter_enum he h
section
variable {X:Cx}
noncomputable def zig (K:PySem.W.Frag)(ta:TA):TI:=fun σ H R=>ta σ H fun vs H1=>∃a,vs=[.ref a]/\(∃xs,SqT K H1 a xs)/\R (Ite K a) H1
theorem zbY {els:List Expr}{kx}{tp:Pos}{l:Expr}{ta:TA}{p pos:Pos}(hg:Gl X "enumerate")(hm:X.mg "enumerate" =none)(ha:PA X [l] ta)(hs:starEach [l] X.env=[(false,eval l X.env)]:=by rfl):
  PI X (.Tuple els kx tp) (.Call (.Name "enumerate" p) [l] [] pos) (zig X.K ta):=by
 intro pins s σ H R I h
 refine Call_ (zcf I hg hm boot_enumerate (PyProof.Rows.callWith_type1 (thn (ha pos pins s σ H _ I h) fun us s1 zq=> ?_) hs rfl))
 obtain⟨vs,H1,I1,r1,q1⟩:=zq
 obtain⟨a,rfl,⟨xs,hq⟩,q⟩:=q1
 obtain⟨u,rfl,ru⟩:=zb8 r1
 cases (show u=Value.ref a from ru)
 obtain⟨its,rv,p',hz⟩:=I1.tuple hq
 refine zfm (show s1.heap.IsTuple a its.toArray from p') fun h' he hi hsz hk=>wpAny_pyIter_enum he ?_
 have I2:Inv X pins σ H1 {s1 with heap:=h'}:=I1.kept (t':=s1.toks) hk
 refine⟨s1.heap.objs.size+1,[s1.heap.objs.size+1,s1.heap.objs.size],_,_,H1,rfl,I2,zfn a _ _ (Nat.ne_of_gt (Nat.lt_succ_self _)),⟨⟨_,he⟩,hi⟩,fun b hb=> ?_,q⟩
 rcases List.mem_cons.mp hb with rfl|hb
 ·exact I1.fpOk (Nat.le_succ _) (I1.hok.fresh (Nat.le_succ _))
 ·rw [List.mem_singleton.mp hb]
  exact I1.fpOk (Nat.le_refl _) (I1.hok.fresh (Nat.le_refl _))
end
structure ZipT (h:Heap) (z TI TO i1 i2 a b:Addr) (i:Nat):Prop where
 z:IsZip h z TI TO .none
 ti:IsPair h TI (.ref i1) (.ref i2)
 to:∃x y,IsPair h TO x y
 one:h.IsTupleIter i1 a i
 two:h.IsTupleIter i2 b i
structure ZipNe (z TI TO i1 i2:Addr):Prop where
 az:TI≠z
 bz:TO≠z
 cz:i1≠z
 dz:i2≠z
 ab:TI≠TO
 ac:TI≠i1
 ad:TI≠i2
 bc:TO≠i1
 bd:TO≠i2
 cd:i1≠i2
section
variable {prog:Program}{w:World}{A:Around}{E:Value->Shared->Prop}{s:Shared}{z TI TO i1 i2 a b:Addr}{i:Nat}{xs ys:Array Value}
theorem zej {T:Addr}{p q x:Value}{k:Nat}{Q:Unit->Shared->Prop}(hT:IsPair s.heap T p q)(h:∀h',h'.get? T=some {cls:=.type "tuple",data:=.seq ((#[p,q]:Array Value).setIfInBounds k x)}->Heap.SameBut T s.heap h'->Q () {s with heap:=h'}):
  wpAny (model prog w) A (updateSeq T (·.setIfInBounds k x)) Q E s:=wpAny_updateSeq_pair hT h
theorem zf3 {h:Heap}{t j:Addr}{k:Nat}{its:Array Value}{u:Addr}(ht:h.IsTuple t its)(hj:h.IsTupleIter j u k):t≠j:=fun e=>by
 obtain⟨o,e1,e2,_⟩:=ht
 obtain⟨o',f1,f2,_⟩:=hj
 rw[e,f1] at e1;cases e1;rw[f2] at e2;injection e2 with z2;revert z2;decide
theorem zf4 {x y:Value}{Q:Option Value->Shared->Prop}(D:ZipNe z TI TO i1 i2)(S:ZipT s.heap z TI TO i1 i2 a b i)(ha:s.heap.IsTuple a xs)(hb:s.heap.IsTuple b ys)(haz:a≠z/\a≠TO)(hbz:b≠z/\b≠TO)(hx:xs[i]? =some x)(hy:ys[i]? =some y)
  (q:∀h',IsZip h' z TI TO (rawInt s.heap.objs.size)->IsPair h' TI (.ref i1) (.ref i2)->IsPair h' TO x y->h'.IsTupleIter i1 a (i+1)->h'.IsTupleIter i2 b (i+1)->IsPair h' s.heap.objs.size x y->
   (∀c o,c≠z->c≠TO->c≠i1->c≠i2->s.heap.get? c=some o->h'.get? c=some o)->Q (some (.ref s.heap.objs.size)) {s with heap:=h'}):
  wpAny (model prog w) A (pyNext (.ref z)) Q E s:=by
 obtain⟨hz,hti,⟨p0,p1,hto⟩,h1,h2⟩:=S
 have ai1:=zf3 ha h1
 have ai2:=zf3 ha h2
 have bi1:=zf3 hb h1
 have bi2:=zf3 hb h2
 have hT:s.TypeIs (.ref z) "zip" :=⟨_,hz,rfl⟩
 unfold pyNext
 refine wpAny_bind (wpAny_attempt (wpAny_callSpecial?_slot (name:=Str.ofString "__next__") hT F.slot_zip_next (wpAny_call_entry F.slot_zip_next hT F.entry_zip_next ?_ (F.args_zip_next_1 _))))
 show wpAny _ _ (field (.ref z) 2 >>= _) _ _ _
 refine wpAny_bind (wpAny_field hz rfl (x:=.bool false) rfl ?_);show wpAny _ _ (field (.ref z) 3 >>= _) _ _ _
 refine wpAny_bind (wpAny_field hz rfl (x:=.ref TI) rfl (wpAny_bind (wpAny_seqItems hti rfl ?_)))
 show wpAny _ _ (Builtin.SmallTypes.ownedTupleIsFree (.ref z) >>= _) _ _ _
 refine wpAny_bind ?_
 unfold Builtin.SmallTypes.ownedTupleIsFree
 refine wpAny_bind (wpAny_field hz rfl (x:=.none) rfl (wpAny_pure ?_));simp only[if_true]
 refine wpAny_bind (wpAny_rule (wpAny_bind (wpAny_field hz rfl (x:=.ref TO) rfl (wpAny_bind (wpAny_setField_rec hz (by simp) fun g1 k1 s1=> ?_)))))
 replace k1:IsZip g1 z TI TO .ellipsis:=k1
 refine wpAny_bind ?_
 simp only[List.zipIdx_cons,List.zipIdx_nil,List.forIn_cons,List.forIn_nil]
 refine wpAny_bind (wpAny_bind (wpAny_onRaise ?_));show wpAny _ _ (Builtin.SmallTypes.nextOf (.ref i1) >>= _) _ _ _
 refine wpAny_bind (zbL (h1.extBut s1.extBut D.cz) (ha.extBut s1.extBut haz.1) hx fun g2 j2 s2=>wpAny_pure ?_)
 have t2:IsPair g2 TO p0 p1:=s2.extBut _ _ D.bc (s1.extBut _ _ D.bz hto)
 refine wpAny_bind (wpAny_seqItems t2 rfl (wpAny_bind (zej t2 fun g3 t3 s3=> ?_)))
 replace t3:IsPair g3 TO x p1:=t3
 refine wpAny_bind (wpAny_letGo (wpAny_pure ?_))
 refine wpAny_bind (wpAny_bind (wpAny_onRaise ?_));show wpAny _ _ (Builtin.SmallTypes.nextOf (.ref i2) >>= _) _ _ _
 have e3:∀c o,c≠z->c≠i1->c≠TO->s.heap.get? c=some o->g3.get? c=some o:=fun c o c1 c2 c3 e=>s3.extBut _ _ c3 (s2.extBut _ _ c2 (s1.extBut _ _ c1 e))
 have h23:g3.IsTupleIter i2 b i:=let ⟨o,ho,r⟩:=h2;⟨o,e3 _ _ D.dz D.cd.symm D.bd.symm ho,r⟩
 have hb3:g3.IsTuple b ys:=let ⟨o,ho,r⟩:=hb;⟨o,e3 _ _ hbz.1 bi1 hbz.2 ho,r⟩
 refine wpAny_bind (zbL h23 hb3 hy fun g4 j4 s4=>wpAny_pure ?_)
 have t4:IsPair g4 TO x p1:=s4.extBut _ _ D.bd t3
 refine wpAny_bind (wpAny_seqItems t4 rfl (wpAny_bind (zej t4 fun g5 t5 s5=> ?_)))
 replace t5:IsPair g5 TO x y:=t5
 refine wpAny_bind (wpAny_letGo (wpAny_pure (wpAny_pure ?_)))
 refine wpAny_bind (wpAny_seqItems t5 rfl (wpAny_bind (wpAny_newTuple ?_)))
 have z5:g5.objs.size=s.heap.objs.size:=by rw[s5.1,s4.1,s3.1,s2.1,s1.1]
 have e5:∀c o,c≠z->c≠TO->c≠i1->c≠i2->s.heap.get? c=some o->g5.get? c=some o:=fun c o c1 c2 c3 c4 e=>s5.extBut _ _ c2 (s4.extBut _ _ c4 (e3 c o c1 c3 c2 e))
 have k5:IsZip g5 z TI TO .ellipsis:=s5.extBut _ _ D.bz.symm (s4.extBut _ _ D.dz.symm (s3.extBut _ _ D.bz.symm (s2.extBut _ _ D.cz.symm k1)))
 have m1:g5.IsTupleIter i1 a (i+1):=((j2.extBut s3.extBut D.bc.symm).extBut s4.extBut D.cd).extBut s5.extBut D.bc.symm
 have m2:g5.IsTupleIter i2 b (i+1):=j4.extBut s5.extBut D.bd.symm
 have zlt:z<g5.objs.size:=Heap.lt_size k5
 show wpAny _ _ (Builtin.SmallTypes.ownedTupleHandOut (.ref z) (.ref g5.objs.size) >>= _) _ _ _
 refine wpAny_bind ?_
 unfold Builtin.SmallTypes.ownedTupleHandOut
 have k6:IsZip (g5.push {cls:=.type "tuple",data:=.seq #[x,y]}) z TI TO .ellipsis:=Heap.get?_push_of_some _ k5
 refine wpAny_bind (wpAny_setField_rec k6 (by simp) fun g7 k7 s7=> ?_)
 replace k7:IsZip g7 z TI TO (rawInt g5.objs.size):=k7
 refine wpAny_setField_rec k7 (by simp) fun g8 k8 s8=> ?_
 replace k8:IsZip g8 z TI TO (rawInt g5.objs.size):=k8
 have up:∀c o,c≠z->g5.get? c=some o->g8.get? c=some o:=fun c o c1 e=>s8.extBut _ _ c1 (s7.extBut _ _ c1 (Heap.get?_push_of_some _ e))
 have t8:IsPair g8 g5.objs.size x y:=s8.extBut _ _ (Nat.ne_of_gt zlt) (s7.extBut _ _ (Nat.ne_of_gt zlt) (Heap.get?_push_size _ rfl))
 rw[z5] at k8 t8
 refine wpAny_pure ⟨_,rfl,wpAny_pure ?_⟩
 show Q (some (.ref g5.objs.size)) _
 rw[z5]
 exact q g8 k8 (up _ _ D.az (e5 _ _ D.az D.ab D.ac D.ad hti)) (up _ _ D.bz t5) (let ⟨o,ho,r⟩:=m1;⟨o,up _ _ D.cz ho,r⟩) (let ⟨o,ho,r⟩:=m2;⟨o,up _ _ D.dz ho,r⟩) t8 fun c o c1 c2 c3 c4 e=>up c o c1 (e5 c o c1 c2 c3 c4 e)
theorem zgZ {Q:Option Value->Shared->Prop}(hh:A.in1.handled=none)(D:ZipNe z TI TO i1 i2)(S:ZipT s.heap z TI TO i1 i2 a b i)(ha:s.heap.IsTuple a xs)(hb:s.heap.IsTuple b ys)(haz:a≠z/\a≠TO)(hbz:b≠z/\b≠TO)(hend:xs[i]? =none∨ys[i]? =none)
  (q:∀h',(∀c o,c≠z->c≠TO->c≠i1->c≠i2->s.heap.get? c=some o->h'.get? c=some o)->Q none {s with heap:=h'}):
  wpAny (model prog w) A (pyNext (.ref z)) Q E s:=by
 obtain⟨hz,hti,⟨p0,p1,hto⟩,h1,h2⟩:=S
 have bi1:=zf3 hb h1
 have hT:s.TypeIs (.ref z) "zip" :=⟨_,hz,rfl⟩
 unfold pyNext
 refine wpAny_bind (wpAny_attempt (wpAny_callSpecial?_slot (name:=Str.ofString "__next__") hT F.slot_zip_next (wpAny_call_entry F.slot_zip_next hT F.entry_zip_next ?_ (F.args_zip_next_1 _))))
 show wpAny _ _ (field (.ref z) 2 >>= _) _ _ _
 refine wpAny_bind (wpAny_field hz rfl (x:=.bool false) rfl ?_);show wpAny _ _ (field (.ref z) 3 >>= _) _ _ _
 refine wpAny_bind (wpAny_field hz rfl (x:=.ref TI) rfl (wpAny_bind (wpAny_seqItems hti rfl ?_)))
 show wpAny _ _ (Builtin.SmallTypes.ownedTupleIsFree (.ref z) >>= _) _ _ _
 refine wpAny_bind ?_
 unfold Builtin.SmallTypes.ownedTupleIsFree
 refine wpAny_bind (wpAny_field hz rfl (x:=.none) rfl (wpAny_pure ?_));simp only[if_true]
 refine wpAny_bind (wpAny_rule (wpAny_bind (wpAny_field hz rfl (x:=.ref TO) rfl (wpAny_bind (wpAny_setField_rec hz (by simp) fun g1 k1 s1=> ?_)))))
 replace k1:IsZip g1 z TI TO .ellipsis:=k1
 refine wpAny_bind ?_
 simp only[List.zipIdx_cons,List.zipIdx_nil,List.forIn_cons,List.forIn_nil]
 have fin:∀(g:Heap) (e:Addr),IsZip g z TI TO .ellipsis->(∀c o,c≠z->c≠TO->c≠i1->c≠i2->s.heap.get? c=some o->g.get? c=some o)->(∃o,g.get? e=some o/\o.cls=.type "StopIteration")->
   wpAny (model prog w) A.in1 (setField (.ref z) 0 .none) (fun _ s'=>wpAny (model prog w) A (do if<-isInstance (.ref e) (.type "StopIteration") then pure none else throw (Value.ref e)) Q E s') (fun e' s'=>wpAny (model prog w) A (do if<-isInstance e' (.type "StopIteration") then pure none else throw e') Q E s') {s with heap:=g}:=by
  rintro g e kz kk ⟨oe,f1,f2⟩
  have ez:e≠z:=fun y=>by subst y;rw[kz] at f1;cases f1;injection f2 with z2;revert z2;decide
  refine wpAny_setField_rec kz (by simp) fun g' _ s'=> ?_
  refine wpAny_bind (wpAny_isInstance (T:= "StopIteration") (b:=true) ⟨oe,s'.extBut _ _ ez f1,f2⟩ isSubtype_stop ?_)
  exact wpAny_pure (q g' fun c o c1 c2 c3 c4 y=>s'.extBut _ _ c1 (kk c o c1 c2 c3 c4 y))
 refine wpAny_bind (wpAny_bind (wpAny_onRaise ?_));show wpAny _ _ (Builtin.SmallTypes.nextOf (.ref i1) >>= _) _ _ _
 cases hx:xs[i]? with
 |none=>
  refine wpAny_bind (zcK hh (h1.extBut s1.extBut D.cz) (ha.extBut s1.extBut haz.1) hx fun g2 e s2 he=> ?_)
  exact fin g2 e (s2 _ _ D.cz.symm k1) (fun c o c1 _ c3 _ y=>s2 _ _ c3 (s1.extBut _ _ c1 y)) he
 |some x=>
  have hy:ys[i]? =none:=by rcases hend with h|h;rw[hx] at h;cases h;exact h
  refine wpAny_bind (zbL (h1.extBut s1.extBut D.cz) (ha.extBut s1.extBut haz.1) hx fun g2 j2 s2=>wpAny_pure ?_)
  have t2:IsPair g2 TO p0 p1:=s2.extBut _ _ D.bc (s1.extBut _ _ D.bz hto)
  refine wpAny_bind (wpAny_seqItems t2 rfl (wpAny_bind (zej t2 fun g3 t3 s3=> ?_)))
  refine wpAny_bind (wpAny_letGo (wpAny_pure ?_))
  refine wpAny_bind (wpAny_bind (wpAny_onRaise ?_));show wpAny _ _ (Builtin.SmallTypes.nextOf (.ref i2) >>= _) _ _ _
  have e3:∀c o,c≠z->c≠i1->c≠TO->s.heap.get? c=some o->g3.get? c=some o:=fun c o c1 c2 c3 e=>s3.extBut _ _ c3 (s2.extBut _ _ c2 (s1.extBut _ _ c1 e))
  have h23:g3.IsTupleIter i2 b i:=let ⟨o,ho,r⟩:=h2;⟨o,e3 _ _ D.dz D.cd.symm D.bd.symm ho,r⟩
  have hb3:g3.IsTuple b ys:=let ⟨o,ho,r⟩:=hb;⟨o,e3 _ _ hbz.1 bi1 hbz.2 ho,r⟩
  refine wpAny_bind (zcK hh h23 hb3 hy fun g4 e s4 he=> ?_)
  exact fin g4 e (s4 _ _ D.dz.symm (s3.extBut _ _ D.bz.symm (s2.extBut _ _ D.cz.symm k1))) (fun c o c1 c2 c3 c4 y=>s4 _ _ c4 (e3 c o c1 c3 c2 y)) he
noncomputable abbrev zT1 (h:Heap)(l1:Addr):Heap:=h.push {cls:=.type "tuple_iterator",data:=.fields #[.ref l1,.int 0 0]}
noncomputable abbrev zT2 (h:Heap)(l1 l2:Addr):Heap:=(zT1 h l1).push {cls:=.type "tuple_iterator",data:=.fields #[.ref l2,.int 0 0]}
noncomputable abbrev zT3 (h:Heap)(l1 l2:Addr):Heap:=(zT2 h l1 l2).push {cls:=.type "tuple",data:=.seq #[.ref h.objs.size,.ref (zT1 h l1).objs.size]}
noncomputable abbrev zT4 (h:Heap)(l1 l2:Addr):Heap:=(zT3 h l1 l2).push {cls:=.type "tuple",data:=.seq #[.none,.none]}
noncomputable abbrev zT5 (h:Heap)(l1 l2:Addr):Heap:=(zT4 h l1 l2).push {cls:=.type "zip",data:=.fields #[.none,.bool false,.bool false,.ref (zT2 h l1 l2).objs.size,.ref (zT3 h l1 l2).objs.size]}
theorem zg0 (l1 l2:Addr)(xs ys:Array Value):
  Meets (Builtin.«zip.__new__» ⟨[.type "zip",.ref l1,.ref l2],[]⟩) (fun _ R s=>s.heap.IsTuple l1 xs/\s.heap.IsTuple l2 ys/\R (.ok (.ret (.ref (zT4 s.heap l1 l2).objs.size))) {s with heap:=zT5 s.heap l1 l2}):=
 .of_wp fun prog w A R s h=>by
  obtain⟨hp,g,d,tk,os⟩:=s;obtain⟨hl1,hl2,h⟩:=h
  have hsub:=sub_zip
  have hL1:Heap.IsTuple (Shared.heap ⟨hp,g,d,tk,os⟩) l1 xs:=hl1
  have hL2:Heap.IsTuple (Shared.heap ⟨hp.push {cls:=.type "tuple_iterator",data:=.fields #[.ref l1,.int 0 0]},g,d,tk,os⟩) l2 ys:=Heap.IsTuple.push hl2 _
  wp_walk using wpAny_pyIter_tuple hL1,wpAny_pyIter_tuple hL2
  exact⟨_,rfl,h⟩
theorem zf5 {l1 l2:Addr}{Q:Value->Shared->Prop}(hl1:s.heap.IsTuple l1 xs)(hl2:s.heap.IsTuple l2 ys)
  (h:∀h',ZipT h' (s.heap.objs.size+4) (s.heap.objs.size+2) (s.heap.objs.size+3) s.heap.objs.size (s.heap.objs.size+1) l1 l2 0->(∀c o,s.heap.get? c=some o->h'.get? c=some o)->Q (.ref (s.heap.objs.size+4)) {s with heap:=h'}):
  wpAny (model prog w) A (call (.type "zip") [.ref l1,.ref l2]) Q E s:=by
 refine callType_new F.called_zip (by decide) (F.typeCall_zip_2 _ _) (F.newCall_zip_2 _ _) (fun obj=>F.args_object_init_3 obj _ _) F.entry_zip_new (zg0 l1 l2 xs ys) ⟨hl1,hl2, ?_⟩
 have z1:(zT1 s.heap l1).objs.size=s.heap.objs.size+1:=Heap.size_push ..
 have z2:(zT2 s.heap l1 l2).objs.size=s.heap.objs.size+2:=by rw[Heap.size_push,z1]
 have z3:(zT3 s.heap l1 l2).objs.size=s.heap.objs.size+3:=by rw[Heap.size_push,z2]
 have z4:(zT4 s.heap l1 l2).objs.size=s.heap.objs.size+4:=by rw[Heap.size_push,z3]
 have p1:∀{g:Heap} {c o u},g.get? c=some o->(g.push u).get? c=some o:=fun e=>Heap.get?_push_of_some _ e
 have g5:(zT5 s.heap l1 l2).get? (zT4 s.heap l1 l2).objs.size=some _:=Heap.get?_push_size _ rfl
 have g4:(zT5 s.heap l1 l2).get? (zT3 s.heap l1 l2).objs.size=some _:=p1 (Heap.get?_push_size _ rfl)
 have g3:(zT5 s.heap l1 l2).get? (zT2 s.heap l1 l2).objs.size=some _:=p1 (p1 (Heap.get?_push_size _ rfl))
 have g2:(zT5 s.heap l1 l2).get? (zT1 s.heap l1).objs.size=some _:=p1 (p1 (p1 (Heap.get?_push_size _ rfl)))
 have g1:(zT5 s.heap l1 l2).get? s.heap.objs.size=some _:=p1 (p1 (p1 (p1 (Heap.get?_push_size _ rfl))))
 show _/\_
 rw[z2,z3,z4] at g5
 rw[z1,z2] at g3
 rw[z3] at g4
 rw[z1] at g2
 rw[z4]
 exact⟨⟨_,g5,rfl⟩,h _ ⟨g5,g3,⟨_,_,g4⟩,⟨_,g1,rfl,rfl⟩,⟨_,g2,rfl,rfl⟩⟩ fun c o x=>p1 (p1 (p1 (p1 (p1 x))))⟩
end
noncomputable def Itz (K:PySem.W.Frag)(a b:Addr):It:=
 ⟨fun i H=>∃xs ys x y,SqT K H a xs/\SqT K H b ys/\xs[i]? =some x/\ys[i]? =some y,fun i H v H'=>∃t x y,H t=none/\v=.ref t/\H'=upd H t (.tup [x,y])/\∀xs ys,SqT K H a xs->SqT K H b ys->xs[i]? =some x/\ys[i]? =some y,
  fun i H=>∃xs ys,SqT K H a xs/\SqT K H b ys/\(xs[i]? =none∨ys[i]? =none)⟩
theorem zeS {z TI TO i1 i2:Addr}{h:Heap}{a b:Addr}{i:Nat}(S:ZipT h z TI TO i1 i2 a b i)(h1:TI≠TO)(h2:i1≠i2):ZipNe z TI TO i1 i2:=by
 obtain⟨hz,hti,⟨p0,p1,hto⟩,⟨o1,e1,c1,d1⟩,⟨o2,e2,c2,d2⟩⟩:=S
 refine⟨fun e=> ?_,fun e=> ?_,fun e=> ?_,fun e=> ?_,h1,fun e=> ?_,fun e=> ?_,fun e=> ?_,fun e=> ?_,h2⟩
 ·have q:=(show h.get? TI=_ from hti);rw[e,show h.get? z=_ from hz] at q;injection q with q;injection q with q1;injection q1 with q2;revert q2;decide
 ·have q:=(show h.get? TO=_ from hto);rw[e,show h.get? z=_ from hz] at q;injection q with q;injection q with q1;injection q1 with q2;revert q2;decide
 ·rw[e,hz] at e1;cases e1;injection c1 with q2;revert q2;decide
 ·rw[e,hz] at e2;cases e2;injection c2 with q2;revert q2;decide
 ·rw[<-e,hti] at e1;cases e1;injection c1 with q2;revert q2;decide
 ·rw[<-e,hti] at e2;cases e2;injection c2 with q2;revert q2;decide
 ·rw[<-e,hto] at e1;cases e1;injection c1 with q2;revert q2;decide
 ·rw[<-e,hto] at e2;cases e2;injection c2 with q2;revert q2;decide
theorem SqT.fpNe {X:Cx}{pins:List (Addr×Obj)}{σ:St}{H:Hp}{s:Shared}{t c:Addr}{zs:List V}(I:Inv X pins σ H s)(hq:SqT X.K H t zs)(f:FpOk X pins H c):t≠c:=by
 rintro rfl
 rcases hq with (h|⟨o,h⟩)|h
 ·rw[f.1] at h;cases h
 ·rw[f.1] at h;cases h
 ·obtain ⟨o,_,_,hl,_⟩:=h
  have e:=I.ok.mod.kin _ _ hl
  rcases f.2.2.2.1 with z|z
  ·exact I.ok.noex _ _ e z
  ·exact absurd (Nat.lt_of_lt_of_le (Heap.lt_size e) (Nat.le_trans I.ok.bsz z)) (Nat.lt_irrefl _)
theorem zf6 {P:Program}{w:World}{K:PySem.W.Frag}{els:List Expr}{kx}{tp:Pos}(a b z TI TO i1 i2:Addr)(h1:TI≠TO)(h2:i1≠i2):Turn P w K (.Tuple els kx tp) (Itz K a b) [z,TI,TO,i1,i2] z (fun i h=>ZipT h z TI TO i1 i2 a b i) where
 mem:=by simp
 obj:=fun i h st c hc=>by
  obtain⟨hz,hti,⟨p0,p1,hto⟩,⟨o1,e1,c1,d1⟩,⟨o2,e2,c2,d2⟩⟩:=st
  simp only[List.mem_cons,List.not_mem_nil,or_false] at hc
  rcases hc with rfl|rfl|rfl|rfl|rfl
  ·exact⟨_,hz,fun v q=>by cases q⟩
  ·exact⟨_,hti,fun v q=>by cases q⟩
  ·exact⟨_,hto,fun v q=>by cases q⟩
  ·exact⟨_,e1,fun v q=>by rw[d1] at q;cases q⟩
  ·exact⟨_,e2,fun v q=>by rw[d2] at q;cases q⟩
 keep:=fun i h h' st k=>by
  obtain⟨hz,hti,⟨p0,p1,hto⟩,⟨o1,e1,r1⟩,⟨o2,e2,r2⟩⟩:=st
  exact⟨k _ (by simp) _ hz,k _ (by simp) _ hti,⟨p0,p1,k _ (by simp) _ hto⟩,⟨o1,k _ (by simp) _ e1,r1⟩,⟨o2,k _ (by simp) _ e2,r2⟩⟩
 item:=by
  intro X hP hw hK hc i pins s σ H E I hf st hg
  subst hP hw hK
  obtain⟨xs,ys,x,y,hqa,hqb,hx,hy⟩:=hg
  obtain⟨its,rv,p,_⟩:=I.tuple hqa
  obtain⟨jts,rw',p',_⟩:=I.tuple hqb
  obtain⟨u,hu,ru⟩:=rv.get hx
  obtain⟨v,hv,rvv⟩:=rw'.get hy
  have D:=zeS st h1 h2
  obtain⟨hz,hti,⟨p0,p1,hto⟩,hi1,hi2⟩:=id st
  have apart:∀{t:Addr} {zs:List V},SqT X.K H t zs->t≠z/\t≠TO:=fun hq=>⟨SqT.fpNe I hq (hf z (by simp)),SqT.fpNe I hq (hf TO (by simp))⟩
  refine zf4 D st p p' (apart hqa) (apart hqb) (by simpa using hu) (by simpa using hv) fun g k1 k2 k3 k4 k5 k6 k7=> ?_
  refine⟨_,rfl,wpAny_letOwnedTupleGo_zip k1 fun g2 l1 s2=> ?_⟩
  have hne0:s.heap.objs.size≠z:=Nat.ne_of_gt (Heap.lt_size hz)
  have keep:∀c o,c∉[z,TI,TO,i1,i2]->s.heap.get? c=some o->g2.get? c=some o:=fun c o hc e=>s2.extBut _ _ (fun q=>hc (by simp[q])) (k7 c o (fun q=>hc (by simp[q])) (fun q=>hc (by simp[q])) (fun q=>hc (by simp[q])) (fun q=>hc (by simp[q])) e)
  refine⟨.ref s.heap.objs.size,_,I.turnedT (h':=g2) (t':=s.toks) (xs:=[x,y]) hf keep (.cons ru (.cons rvv .nil)) ⟨_,s2.extBut _ _ hne0 k6,rfl,⟨_,rfl⟩,rfl,rfl⟩ (by show 2<=sizeLine;decide),rfl,
   ⟨_,x,y,I.hok.fresh (Nat.le_refl _),rfl,rfl,fun as bs ha hb=>⟨by rw[I.tuple_inj ha hqa];exact hx,by rw[I.tuple_inj hb hqb];exact hy⟩⟩,⟨l1,s2.extBut _ _ D.az k2,⟨_,_,s2.extBut _ _ D.bz k3⟩,k4.extBut s2.extBut D.cz,k5.extBut s2.extBut D.dz⟩,fun c hc=> ?_⟩
  have:c<s.heap.objs.size:=by
   obtain⟨o1,e1,_⟩:=hi1
   obtain⟨o2,e2,_⟩:=hi2
   simp only[List.mem_cons,List.not_mem_nil,or_false] at hc
   rcases hc with rfl|rfl|rfl|rfl|rfl
   ·exact Heap.lt_size hz
   ·exact Heap.lt_size hti
   ·exact Heap.lt_size hto
   ·exact Heap.lt_size e1
   ·exact Heap.lt_size e2
  rw[zah (Nat.ne_of_lt this)]
  exact (hf c hc).1
 done:=by
  intro X hP hw hK hc i pins s σ H E I hf st hg
  subst hP hw hK
  obtain⟨xs,ys,hqa,hqb,hx⟩:=hg
  obtain⟨its,rv,p,_⟩:=I.tuple hqa
  obtain⟨jts,rw',p',_⟩:=I.tuple hqb
  have D:=zeS st h1 h2
  have apart:∀{t:Addr} {zs:List V},SqT X.K H t zs->t≠z/\t≠TO:=fun hq=>⟨SqT.fpNe I hq (hf z (by simp)),SqT.fpNe I hq (hf TO (by simp))⟩
  refine zgZ (I.ok.hd hc) D st p p' (apart hqa) (apart hqb) (hx.elim (fun q=>.inl (by simpa using rv.none_of q)) fun q=>.inr (by simpa using rw'.none_of q)) fun g k=>⟨rfl, ?_⟩
  exact I.turnedN (t':=s.toks) hf fun c o hc e=>k c o (fun q=>hc (by simp[q])) (fun q=>hc (by simp[q])) (fun q=>hc (by simp[q])) (fun q=>hc (by simp[q])) e
 self:=fun _ _ _ _ _ st h=>wpAny_pyIter_zip st.z h
section
variable {X:Cx}
noncomputable def iZip (K:PySem.W.Frag)(ta:TA):TI:=fun σ H R=>ta σ H fun vs H1=>∃a b,vs=[.ref a,.ref b]/\(∃xs,SqT K H1 a xs)/\(∃ys,SqT K H1 b ys)/\R (Itz K a b) H1
theorem zih {els:List Expr}{kx}{tp:Pos}{l l':Expr}{ta:TA}{p pos:Pos}(hg:Gl X "zip")(hm:X.mg "zip" =none)(ha:PA X [l,l'] ta)(hs:starEach [l,l'] X.env=[(false,eval l X.env),(false,eval l' X.env)]:=by rfl)(hs2:starEach [l'] X.env=[(false,eval l' X.env)]:=by rfl):
  PI X (.Tuple els kx tp) (.Call (.Name "zip" p) [l,l'] [] pos) (iZip X.K ta):=by
 intro pins s σ H R I h
 refine Call_ (zcf I hg hm boot_zip (PyProof.Rows.callWith_type1 (thn (ha pos pins s σ H _ I h) fun us s1 zq=> ?_) (by rw[hs,hs2]) (by rw[hs2];rfl)))
 obtain⟨vs,H1,I1,r1,q1⟩:=zq
 obtain⟨a,b,rfl,⟨xs,hqa⟩,⟨ys,hqb⟩,q⟩:=q1
 obtain⟨u,v,rfl,ru,rv⟩:=zgS r1
 cases (show u=Value.ref a from ru)
 cases (show v=Value.ref b from rv)
 obtain⟨its,_,p1,_⟩:=I1.tuple hqa
 obtain⟨jts,_,p2,_⟩:=I1.tuple hqb
 refine zf5 (show s1.heap.IsTuple a its.toArray from p1) (show s1.heap.IsTuple b jts.toArray from p2) fun h' S hk=>wpAny_pyIter_zip S.z ?_
 have I2:Inv X pins σ H1 {s1 with heap:=h'}:=I1.kept (t':=s1.toks) hk
 refine⟨_,_,_,_,H1,rfl,I2,zf6 a b _ _ _ _ _ (Nat.ne_of_lt (Nat.lt_succ_self _)) (Nat.ne_of_lt (Nat.lt_succ_self _)),S,fun c hc=> ?_,q⟩
 have:s1.heap.objs.size<=c:=by
  simp only[List.mem_cons,List.not_mem_nil,or_false] at hc
  rcases hc with rfl|rfl|rfl|rfl|rfl<;>first|exact Nat.le_refl _|exact Nat.le_add_right _ _|exact Nat.le_succ _|exact Nat.le_succ_of_le (Nat.le_add_right _ _)
 exact I1.fpOk this (I1.hok.fresh this)
end
section
variable {X:Cx}{e:Expr}{te:TE}{p2 pos:Pos}
end
section
variable {X:Cx}
noncomputable def zii:List V->Hp->VK->Prop:=fun xs H Q=>∃j:Int,xs=[.int j]/\∀p,H p=none->Q (.ref p) (upd H p (.rng 0 j))
theorem zcL:zbA X (.type "range") zii:=by
 intro pins s σ H xs us Q I rs h
 obtain⟨j,rfl,q⟩:=h
 obtain⟨u,rfl,t,rfl⟩:=zb8 rs
 refine call_range_1 ⟨.ref s.heap.objs.size,_,I.laid (o:=.rng 0 j) (fun b ob q=>Heap.get?_push_of_some _ q) (Nat.le_refl _) ?_,rfl,q _ (I.hok.fresh (Nat.le_refl _))⟩
 exact⟨_,_,_,Heap.get?_push_size _ rfl⟩
noncomputable def zg1:List V->Hp->VK->Prop:=fun xs H Q=>∃(a:Addr) (j:Int),xs=[.ref a]/\H a=some (.rng 0 j)/\0<=j/\j<=1000/\∀p,H p=none->Q (.ref p) (upd H p (.lst (zaD 0 j.toNat)))
theorem zbZ (hc:X.calm=true):zbA X (.type "list") zg1:=by
 intro pins s σ H xs us Q I rs h
 obtain⟨a,j,rfl,ha,h0,h1,q⟩:=h
 obtain⟨u,rfl,ru⟩:=zb8 rs
 cases (show u=Value.ref a from ru)
 obtain⟨t,u,v,ho⟩:=(show ObjOk X.prog X.w H s.heap a (.rng 0 j) from I.hok a _ ha)
 have hh:X.A.handled=none:=I.ok.hd hc
 have hsz:Builtin.Range.rangeSize 0 j 1=((j.toNat:Nat):Int):=by rw[rangeSize_one];split<;>(first|lia|omega)
 refine call_list_range hh ho (small_one (by (first|lia|omega)) (by (first|lia|omega)) (by (first|lia|omega)) (by (first|lia|omega))) hsz (by (first|lia|omega)) fun h' tk acc c hk hS hi=> ?_
 obtain⟨i1,i2⟩:=hi
 refine⟨.ref s.heap.objs.size,_,I.laid (t':=tk) (o:=.lst (zaD 0 j.toNat)) hk (Nat.le_refl _) ?_,rfl,q _ (I.hok.fresh (Nat.le_refl _))⟩
 refine⟨by rw[zaH];exact Nat.le_trans (by (first|lia|omega):j.toNat<=1000) (by decide),acc.toList,c, ?_,by simpa using hS⟩
 have key:∀(n:Nat) (l:List Value) (k:Int),l.length=n->(∀(i:Nat) v,l[i]? =some v->∃t,v=Value.int (k+(i:Int)) t)->Vals ((List.range n).map fun (i:Nat)=>V.int (k+(i:Int))) l:=by
  intro n
  induction n with
  |zero=>intro l k hl _;cases l with
   |nil=>exact .nil
   |cons _ _=>cases hl
  | succ n ih=>
   intro l k hl hv
   cases l with
   |nil=>cases hl
   | cons x r=>
    rw[List.range_succ_eq_map,List.map_cons,List.map_map]
    refine .cons ?_ ?_
    ·obtain ⟨t,e⟩:=hv 0 x rfl
     exact⟨t,e⟩
    ·have:=ih r (k+1) (by simpa using hl) (fun i v e=>by
      obtain⟨t,e'⟩:=hv (i+1) v (by simpa using e)
      exact⟨t,by rw[e'];congr 1;push_cast;(first|lia|omega)⟩)
     have e:((fun (i:Nat)=>V.int (k+(i:Int)))∘Nat.succ)=fun (i:Nat)=>V.int (k+1+(i:Int)):=by
      funext i
      show V.int (k+((i+1:Nat):Int))=_
      congr 1;push_cast;(first|lia|omega)
     rw[e]
     exact this
 refine key _ _ 0 (by simpa using i1) fun i v e=> ?_
 obtain⟨t,e'⟩:=i2 i v (by simpa using e)
 exact⟨t,by rw[e'];congr 1;(first|lia|omega)⟩
end
theorem zcU (f:Nat->Bool):∀(bs:List Bool),(∀i,i<bs.length->f i=bs.getD i false)->(List.range bs.length).all f=bs.all id:=by
 intro bs h
 rw[Bool.eq_iff_iff,List.all_eq_true,List.all_eq_true]
 constructor
 ·intro q b hb
  obtain⟨i,hi,e⟩:=List.getElem_of_mem hb
  have:=q i (List.mem_range.mpr hi)
  rw[h i hi,List.getD_eq_getElem?_getD,List.getElem?_eq_getElem hi,e] at this
  exact this
 ·intro q i hi
  have hi':=List.mem_range.mp hi
  rw[h i hi',List.getD_eq_getElem?_getD,List.getElem?_eq_getElem hi']
  exact q _ (List.getElem_mem hi')
section
variable {X:Cx}
noncomputable def rIsi (K:PySem.W.Frag):List V->Hp->VK->Prop:=fun xs H Q=>∃x T t b,xs=[x,.ty T]/\TyOf K H x t/\PySem.W.kitOne K t (.type T)=some b/\Q (.bl b) H
theorem zg2:zbA X (.builtin "isinstance") (rIsi X.K):=by
 intro pins s σ H xs us Q I rs h
 obtain⟨x,T,t,b,rfl,ty,e,q⟩:=h
 obtain⟨u,c,rfl,ru,rc⟩:=zgS rs
 cases (show c=Value.type T from rc)
 exact zfP I ru ty e fun tk=>⟨.bl b,H,I.tok tk,rfl,q⟩
noncomputable def rAll:List V->Hp->VK->Prop:=fun xs H Q=>∃(a:Addr) (bs:List Bool),xs=[.ref a]/\H a=some (.lst (bs.map V.bl))/\Q (.bl (bs.all id)) H
theorem zg3 (hc:X.calm=true):zbA X (.builtin "all") rAll:=by
 intro pins s σ H xs us Q I rs h
 obtain⟨a,bs,rfl,ha,q⟩:=h
 obtain⟨u,rfl,ru⟩:=zb8 rs
 cases (show u=Value.ref a from ru)
 obtain⟨hz,its,n,rv,ho⟩:=(show ObjOk X.prog X.w H s.heap a (.lst (bs.map V.bl)) from I.hok a _ ha)
 have hl:s.heap.IsList a its.toArray:=⟨_,ho,rfl,n,rfl⟩
 have hh:X.A.in1.handled=none:=I.ok.hd hc
 have hlen:its.length=bs.length:=by rw[<-rv.length,List.length_map]
 have hne:a≠s.heap.objs.size:=Nat.ne_of_lt (Heap.lt_size ho)
 have hit:∀(i:Nat) v,its.toArray[i]? =some v->v=Value.bool (bs.getD i false):=fun i v e=>by
  have e':its[i]? =some v:=by simpa using e
  have hi:i<bs.length:=by rw[<-hlen];exact (List.getElem?_eq_some_iff.mp e').1
  obtain⟨u,hu,ru⟩:=rv.get (i:=i) (x:=V.bl bs[i]) (by rw[List.getElem?_map,List.getElem?_eq_getElem hi];rfl)
  rw[e'] at hu;cases hu
  cases (show v=Value.bool bs[i] from ru)
  rw[List.getD_eq_getElem?_getD,List.getElem?_eq_getElem hi]
  rfl
 refine call_all_walk (wpAny_pyIter_list hl ⟨s.heap.objs.size,_,_,_,_,_,fun i=>bs.getD i false,rfl,Walks.list hh _ a hne its.toArray,⟨⟨_,Heap.get?_push_size _ rfl,rfl,rfl⟩,hl.push _⟩, ?_,fun h' tk hk=> ?_⟩)
 ·intro i v s' Q' E' hP hQ
  rw[hit i v hP]
  exact wpAny_truthy_bool hQ
 ·refine ⟨.bl (bs.all id),H,I.kept (t':=tk) fun b o e=>hk b o ?_ (Heap.get?_push_of_some _ e), ?_,q⟩
  ·exact fun hm=>absurd (List.mem_singleton.mp hm) (Nat.ne_of_lt (Heap.lt_size e))
  ·show Value.bool _=Value.bool _
   have hs:its.toArray.size=bs.length:=by simpa using hlen
   rw[hs,zcU _ bs fun i _=>rfl]
end
mutual
inductive Is (H:Hp):V->PyData->Prop
 |non:Is H .non .none
 |bl (b:Bool):Is H (.bl b) (.bool b)
 |int (i:Int):Is H (.int i) (.int i)
 |str (x:Str):Is H (.str x) (.str x)
 |tup {a:Addr} {vs:List V} {ds:List PyData}:H a=some (.tup vs)->IsAll H vs ds->Is H (.ref a) (.tuple ds)
 |lst {a:Addr} {vs:List V} {ds:List PyData}:H a=some (.lst vs)->IsAll H vs ds->Is H (.ref a) (.list ds)
inductive IsAll (H:Hp):List V->List PyData->Prop
 |nil:IsAll H [] []
 |cons {v:V} {vs:List V} {d:PyData} {ds:List PyData}:Is H v d->IsAll H vs ds->IsAll H (v::vs) (d::ds)
end
theorem IsAll.ints {H:Hp}:∀ns:List Int,IsAll H (ns.map V.int) (ns.map PyData.int)
 |[]=>.nil
 |n::r=>.cons (.int n) (IsAll.ints r)
theorem Is.ints {H:Hp}{a:Addr}{ns:List Int}(h:H a=some (.tup (ns.map V.int))):Is H (.ref a) (.tuple (ns.map PyData.int)):=.tup h (IsAll.ints ns)
section
variable {X:Cx}{pins:List (Addr×Obj)}{σ:St}{H:Hp}{s:Shared}
mutual
theorem Inv.reads (I:Inv X pins σ H s):∀{v:V} {d:PyData} {u:Value},Is H v d->RelV v u->∃as,Reads s.heap u d as
 |_,_,_,.non,r=>by cases (show _=Value.none from r);exact⟨_,.none⟩
 |_,_,_,.bl b,r=>by cases (show _=Value.bool b from r);exact⟨_,.bool b⟩
 |_,_,_,.int i,r=>by obtain⟨t,rfl⟩:=r;exact⟨_,.int i t⟩
 |_,_,_,.str x,r=>by obtain⟨t,rfl⟩:=r;exact⟨_,.str x t⟩
 |_,_,_,.tup (a:=a) (vs:=vs) h al,r=>by
  cases (show _=Value.ref a from r)
  obtain⟨_,its,rv,o,ho,hc,⟨n,hd⟩,_⟩:=(show ObjOk X.prog X.w H s.heap a (.tup vs) from I.hok a _ h)
  obtain⟨as,q⟩:=Inv.readsAll I al rv
  exact⟨as,.tuple ho hc hd (by simpa using q)⟩
 |_,_,_,.lst (a:=a) (vs:=vs) h al,r=>by
  cases (show _=Value.ref a from r)
  obtain⟨_,its,n,rv,ho⟩:=(show ObjOk X.prog X.w H s.heap a (.lst vs) from I.hok a _ h)
  obtain⟨as,q⟩:=Inv.readsAll I al rv
  exact⟨_,.list ho rfl rfl (by simpa using q)⟩
theorem Inv.readsAll (I:Inv X pins σ H s):∀{vs:List V} {ds:List PyData} {us:List Value},IsAll H vs ds->Vals vs us->∃as,ReadsAll s.heap us ds as
 |_,_,_,.nil,.nil=>⟨_,.nil⟩
 |_,_,_,.cons h al,.cons r rs=>by
  obtain⟨as,q⟩:=Inv.reads I h r
  obtain⟨bs,q'⟩:=Inv.readsAll I al rs
  exact⟨_,.cons q q'⟩
end
noncomputable def rNeD:R2:=fun x y H Q=>∃d e,Is H x d/\Is H y e/\SeqAt.shaped d=true/\SeqAt.shaped e=true/\Q (.bl (!PyData.eqv d e)) H
theorem zf7 (hu:X.A.units+64<cLine):OpR X (compareOp .NotEq) rNeD:=by
 intro pins s σ H x y v u Q I rx ry h
 obtain⟨d,e,hd,he,sd,se,q⟩:=h
 obtain⟨as,ra⟩:=I.reads hd rx
 obtain⟨bs,rb⟩:=I.reads he ry
 exact ne_dataH ra rb sd se hu ⟨.bl _,H,I,rfl,q⟩
end
theorem zde:∀ns:List Int,PyData.canLayAll0 (ns.map PyData.int)=true
 |[]=>rfl
 |_::r=>by simp[PyData.canLayAll0,PyData.canLay0,zde r]
theorem zcM:∀ns:List Int,PyData.depthAll (ns.map PyData.int)=0
 |[]=>rfl
 |_::r=>by simp[PyData.depthAll,PyData.depth,zcM r]
theorem zci (ns:List Int):SeqAt.shaped (.tuple (ns.map PyData.int))=true:=by
 simp[SeqAt.shaped,PyData.canLay0,PyData.depth,zde,zcM]
theorem zcj (ns:List Int):SeqAt.shaped (.list (ns.map PyData.int))=true:=by
 simp[SeqAt.shaped,PyData.canLay0,PyData.depth,zde,zcM]
theorem zeT:∀ns ms:List Int,PyData.eqvAll (ns.map PyData.int) (ms.map PyData.int)=decide (ns=ms)
 |[],[]=>by simp[PyData.eqvAll]
 |[],_::_=>by simp[PyData.eqvAll]
 |_::_,[]=>by simp[PyData.eqvAll]
 |a::r,b::t=>by
  simp only[List.map_cons,PyData.eqvAll,PyData.eqv,zeT r t]
  by_cases h:a=b<;>by_cases h':r=t<;>simp[h,h']
noncomputable def zf8 (sc:Scope)(N:List Str)(scope:Scope)(N':List Str)(n:Nat)(ix:List Nat):Bool:=
 scope.kind==.function&&scope.names.all (fun y=>y.2 != .cell)&&scope.names.all (fun y=>y.2 != .local||scope.names.lookup y.1==some .local)&&
 scope.names.all (fun y=>y.2 != .free||(sc.names.lookup y.1==some .cell||sc.names.lookup y.1==some .free))&&scope.names.all (fun y=>y.2 != .free||scope.names.lookup y.1 != some .local)&&
 N'.length==n+ix.length&&(List.range ix.length).all fun j=>match ix[j]?,N'[n+j]? with
  |some i,some x=>N[i]? ==some x&&scope.names.contains (x,.free)
  |_,_=>false
theorem CompScope.of {X:Cx}{sc:Scope}{N:List Str}{scope:Scope}{N':List Str}{n:Nat}{ix:List Nat}(h:zf8 sc N scope N' n ix=true)(hs:X.env.scope=sc)(hN:X.N=N):CompScope X scope N' n ix:=by
 unfold zf8 at h
 simp only[Bool.and_eq_true,List.all_eq_true] at h
 obtain⟨⟨⟨⟨⟨⟨h1,h2⟩,h3⟩,h4⟩,h5⟩,h6⟩,h7⟩:=h
 subst hs hN
 refine⟨eq_of_beq h1,fun y hy=>by simpa using h2 y hy,fun y hy hl=> ?_,fun y hy hf=> ?_,fun y hy hl=> ?_,eq_of_beq h6,fun j i e=> ?_⟩
 ·have:=h3 y hy
  rw[hl] at this
  simpa using this
 ·have:=h4 y hy
  rw[hf] at this
  simpa using this
 ·have:=h5 _ hy
  rw[hl] at this
  simp at this
 ·have hj:j<ix.length:=(List.getElem?_eq_some_iff.mp e).1
  have:=h7 j (List.mem_range.mpr hj)
  rw[e] at this
  cases hx:N'[n+j]? with
  |none=>rw[hx] at this;simp at this
  |some x=>
   rw[hx] at this
   simp only[Bool.and_eq_true] at this
   exact⟨x,rfl,eq_of_beq this.1,by simpa using this.2⟩
structure Cal (P:Program) (w:World) (K:PySem.W.Frag) (mg:Str->Option Value) (base:Heap) (k:Nat) (x:Str) (ps:List Str) (sp:Sp):Prop where
 ex:∃f fd,FnOk P w K mg base CX0 k f fd ps sp/\mg x=some (.ref f)/\PySem.W.keepIn K (.ref f)=true/\Binds K fd ps []
section
variable {X:Cx}{k:Nat}{ps:List Str}{sp:Sp}{x:Str}{p pos:Pos}{e:Expr}{es:List Expr}{t:TA}
theorem zau (C:Cal X.prog X.w X.K X.mg X.base k x ps sp)(hr:Room k X.A)(hg:Gl X x)(ha:PA X (e::es) t)(hdb:(x==("__debug__" :Str))=false:=by decide)(he:starEach (e::es) X.env=(false,eval e X.env)::starEach es X.env:=by rfl)
  (hpl:(backTo pos (starEach es X.env)).any (·.1)=false:=by rfl):PE X (.Call (.Name x p) (e::es) [] pos) (fun σ H Q=>t σ H fun vs H1=>sp vs H1 Q E0):=by
 obtain⟨f,fd,F,hm,hk,hb⟩:=C.ex
 exact (zh7 F hr hg hm hk hb .nil zie ha hdb he hpl).mono fun σ H Q q=>by
  have e:(fun (vs:List V) (H1:Hp)=>sp (vs++[]) H1 Q E0)=fun vs H1=>sp vs H1 Q E0:=by funext vs H1;rw[List.append_nil]
  show t σ H fun vs H1=>sp (vs++[]) H1 Q E0
  rw[e]
  exact q
end
structure Top (mg:Str->Option Value):Prop where
 n_len:mg "len" =none
 n_tuple:mg "tuple" =none
 n_list:mg "list" =none
 n_range:mg "range" =none
 n_int:mg "int" =none
 n_bool:mg "bool" =none
 n_isinstance:mg "isinstance" =none
 n_all:mg "all" =none
 n_zip:mg "zip" =none
 n_enumerate:mg "enumerate" =none
 n_min:mg "min" =none
 n_sum:mg "sum" =none
 n_max:mg "max" =none
 n_abs:mg "abs" =none
 n_sorted:mg "sorted" =none
section
variable {X:Cx}
noncomputable def zjY:R2:=fun x y H Q=>∃a b xs ys,x=.ref a/\y=.ref b/\H a=some (.tup xs)/\H b=some (.tup ys)/\xs.length+ys.length<=sizeLine/\∀p H',Same H H'->H' p=some (.tup (xs++ys))->Q (.ref p) H'
theorem zij:OpR X (binaryOp .Add) zjY:=by
 intro pins s σ H x y v u Q I rx ry h
 obtain⟨a,b,xs,ys,rfl,rfl,ha,hb,hz,q⟩:=h
 have ha':SqT X.K H a xs:=SqT.of ha
 have hb':SqT X.K H b ys:=SqT.of hb
 by_cases hx:xs=[]
 ·subst hx
  cases rx
  cases ry
  obtain⟨its,r1,p1,_⟩:=I.tuple ha'
  obtain⟨its2,r2,p2,_⟩:=I.tuple hb'
  cases r1
  obtain⟨⟨cls,dd,data,sl⟩,ho,hc,n,hd⟩:=id p1
  obtain⟨⟨cls2,dd2,data2,sl2⟩,ho2,hc2,n2,hd2⟩:=id p2
  simp only at hc hd hc2 hd2
  subst hc hd hc2 hd2
  exact concat_meets ⟨_,ho,rfl⟩ ⟨_,ho2,rfl⟩ noFill_tuple_add seq_tuple_add PySem.F.slot_tuple_add PySem.F.entry_tuple_add (PySem.F.args_tuple_add_2 _ _)
   (tuple_addW0 a b #[] its2.toArray n n2 dd dd2 sl sl2 rfl) ⟨ho,ho2,⟨.ref b,H,I,rfl,q b H (Same.refl H) hb⟩⟩
 ·refine zh9 pins s σ H _ _ v u Q I rx ry ⟨a,b,xs,ys,rfl,rfl,ha',hb',hx,hz,fun hy=> ?_,fun _ p hp=> ?_⟩
  ·subst hy
   exact q a H (Same.refl H) (by rw[List.append_nil];exact ha)
  ·exact q p _ (zac hp) zab
end
theorem za5 {n:Nat}(h:n<=1000):n<sizeLine:=Nat.lt_of_le_of_lt h (by decide)
theorem zaw (ns:List Int):(ns.map V.int).length=ns.length:=List.length_map ..
theorem zek {f:V->V}{g:Int->Int}(h:∀n,f (.int n)=.int (g n))(ns:List Int):(ns.map V.int).map f=(ns.map g).map V.int:=by
 rw[List.map_map,List.map_map]
 apply List.map_congr_left
 intro n _
 exact h n
theorem zel {α:Type}(l:List α):l.filter (fun _=>true)=l:=by simp
noncomputable def Keep (p q:Addr)(H H':Hp):Prop:=∀b o,H b=some o->b≠p->b≠q->H' b=some o
theorem Keep.refl (p q:Addr)(H:Hp):Keep p q H H:=fun _ _ h _ _=>h
theorem Keep.trans {p q:Addr}{H H1 H2:Hp}(a:Keep p q H H1)(b:Keep p q H1 H2):Keep p q H H2:=fun c o h h1 h2=>b c o (a c o h h1 h2) h1 h2
theorem Same.keep {p q:Addr}{H H':Hp}(s:Same H H'):Keep p q H H':=fun b o h _ _=>s b o h
noncomputable def num0 (n:Nat):List Int:=(List.range n).map fun (i:Nat)=>(i:Int)
theorem PS.mono {X:Cx}{st:Stmt}{t t':TS}(h:PS X st t)(m:∀D σ H,t' D σ H->t D σ H):PS X st t':=fun pins s σ H D I q=>h pins s σ H D I (m D σ H q)
theorem zbf (n:Nat):zaD 0 n=(num0 n).map V.int:=by
 unfold zaD num0
 rw[List.map_map]
 apply List.map_congr_left
 intro i _
 show V.int (0+(i:Int))=V.int (i:Int)
 rw[Int.zero_add]
theorem zdf {n:Nat}{x:Int}(h:x∈num0 n):0<=x/\x<n:=by
 unfold num0 at h
 obtain⟨i,hi,rfl⟩:=List.mem_map.mp h
 have:=List.mem_range.mp hi
 (first|lia|omega)
theorem zeU {K:PySem.W.Frag}{a b:String}{r:Bool}(h:(if (Value.type a==Value.type b)=true then some true else if PySem.W.kitMeta b=true then (fastBuiltinMro a).map (·.contains (Value.type b)) else none)=some r):PySem.W.kitOne K (.type a) (.type b)=some r:=h
theorem zb0 {K:PySem.W.Frag}:PySem.W.kitOne K (.type "int") (.type "tuple")=some false:=zeU (by decide+kernel)
theorem zck {K:PySem.W.Frag}:PySem.W.kitOne K (.type "int") (.type "bool")=some false:=zeU (by decide+kernel)
theorem zcN {K:PySem.W.Frag}:PySem.W.kitOne K (.type "int") (.type "int")=some true:=zeU (by decide+kernel)
theorem zbC {K:PySem.W.Frag}:PySem.W.kitOne K (.type "tuple") (.type "tuple")=some true:=zeU (by decide+kernel)
theorem zdg {X:Cx}{i j:Nat}{x y:Str}{px py pt:Pos}{kt:Nat}(hc:X.calm=true)(hN:X.N.Nodup)(hi:X.N[i]? =some x)(hj:X.N[j]? =some y)(hx:Loc X.env.scope x)(hy:Loc X.env.scope y)(fx:X.fn x=true∨X.env.scope.names.lookup x=some .local)(fy:X.fn y=true∨X.env.scope.names.lookup y=some .local):
  PG X (.Tuple [.Name x px,.Name y py] kt pt) (gTup X.K 2 (zbo (zaT i) (zbo (zaT j) gNil))):=zbW hc (zar (zak hN hi hx fx) (zar (zak hN hj hy fy) zbp))
theorem zcv {X:Cx}(K:PySem.W.Frag){i j:Nat}{x y:Str}{px py pt:Pos}{kt:Nat}(hK:X.K=K)(hc:X.calm=true)(hN:X.N.Nodup)(hi:X.N[i]? =some x)(hj:X.N[j]? =some y)(hx:Loc X.env.scope x)(hy:Loc X.env.scope y)(fx:X.fn x=true∨X.env.scope.names.lookup x=some .local)(fy:X.fn y=true∨X.env.scope.names.lookup y=some .local):
  PG X (.Tuple [.Name x px,.Name y py] kt pt) (gTup K 2 (zbo (zaT i) (zbo (zaT j) gNil))):=hK▸zbW hc (zar (zak hN hi hx fx) (zar (zak hN hj hy fy) zbp))
theorem zbQ {X:Cx}(K:PySem.W.Frag)(hK:X.K=K):IxR X (rIxT K):=hK▸za8
theorem zg4 {X:Cx}(K:PySem.W.Frag)(hK:X.K=K):IxR X (rIxL K):=hK▸zaR
theorem zc1 {F:V->V->Prop}:∀{xs ys:List V},Paired F xs ys->∀{i:Nat} {x y:V},xs[i]? =some x->ys[i]? =some y->F x y
 |_,_,.nil,_,_,_,h,_=>by simp at h
 |_,_,.cons r _,0,_,_,h,h'=>by simp at h h';subst h h';exact r
 |_,_,.cons _ t,i+1,_,_,h,h'=>zc1 t (by simpa using h) (by simpa using h')
theorem zem {K:PySem.W.Frag}{a b:Addr}{xs ys:List V}{te:TE}{σ:L2.St}{H1:Hp}{Q:VK}(hx:SqT K H1 a xs)(hy:SqT K H1 b ys)(hxy:xs.length=ys.length)(small:xs.length<=1000)(Fx:∀{H},Same H1 H->SqT K H a xs)(Fy:∀{H},Same H1 H->SqT K H b ys)
  (he:∀(i:Nat) x y,xs[i]? =some x->ys[i]? =some y->∀H,Same H1 H->∀Q':VK,(∀H',Same H H'->Q' (.bl true) H')->te [some x,some y] H Q')
  (fin:∀acc H',H1 acc=none->Same H1 H'->H' acc=some (.lst ((List.replicate xs.length true).map V.bl))->Q (.ref acc) H'):
  LcW (Itz K a b) H1 (gTup K 2 (zbo (zaT 0) (zbo (zaT 1) gNil))) zaO te 2 [] σ Q:=by
 intro acc ha
 refine⟨fun i m H=>m=xs.length-i/\i<=xs.length/\Same H1 H/\H acc=some (.lst ((List.replicate i true).map V.bl)),⟨xs.length,by simp,Nat.zero_le _,zac ha,zab⟩, ?_⟩
 rintro i m H ⟨rfl,hi,sm,hacc⟩
 by_cases hlt:i<xs.length
 ·have hlt':i<ys.length:=by (first|lia|omega)
  refine .inr ⟨⟨xs,ys,xs[i],ys[i],Fx sm,Fy sm,List.getElem?_eq_getElem hlt,List.getElem?_eq_getElem hlt'⟩,fun v H' y=> ?_⟩
  obtain⟨t,x,y,ht,rfl,rfl,hv⟩:=y
  obtain⟨e1,e2⟩:=hv xs ys (Fx sm) (Fy sm)
  refine⟨t,_,rfl,SqT.of zab,rfl,x,_,rfl,y,_,rfl,rfl,⟨rfl,fun j v e=> ?_⟩, ?_⟩
  ·match j,e with
   |0,e=>cases e
   |1,e=>cases e
   |j+2,e=>cases e
  ·unfold zaO
   dsimp only
   rw[if_pos rfl]
   refine he i x y e1 e2 _ (sm.trans (zac ht)) _ fun H4 s4=> ?_
   have h4:H4 acc=some (.lst ((List.replicate i true).map V.bl)):=s4 _ _ (by rw[zah (zam hacc ht)];exact hacc)
   refine⟨_,h4,za5 (by simp;(first|lia|omega)),xs.length-(i+1),by (first|lia|omega),rfl,hlt, ?_, ?_⟩
   ·exact zav ((sm.trans (zac ht)).trans s4) ha
   ·rw [zab,List.replicate_succ',List.map_append]
    rfl
 ·have e:i=xs.length:=by (first|lia|omega)
  subst e
  exact .inl ⟨⟨xs,ys,Fx sm,Fy sm,.inl (List.getElem?_eq_none (Nat.le_refl _))⟩,fin acc H ha sm hacc⟩
theorem zbR {ys:List Int}{i:Int}(h0:0<=i)(h1:i<ys.length):atI (ys.map V.int) i=some (.int (ys.getD i.toNat 0)):=by
 have hlt:i.toNat<ys.length:=by (first|lia|omega)
 have e:((i.toNat:Nat):Int)=i:=by (first|lia|omega)
 have:=zat (xs:=ys.map V.int) (j:=i.toNat) (v:=.int (ys.getD i.toNat 0)) (by rw[List.getElem?_map,List.getD_eq_getElem?_getD,List.getElem?_eq_getElem hlt];rfl)
 rwa [e] at this
theorem za2 {n:Nat}{x:V}(h:x∈zaD 0 n):∃k:Int,x=.int k/\0<=k/\k<n:=by
 rw[zbf] at h
 obtain⟨k,hk,rfl⟩:=List.mem_map.mp h
 exact⟨k,rfl,zdf hk⟩
theorem zf9 {n:Nat}{te:TE}{ix:List Nat}{σ:L2.St}{H1:Hp}{Q:VK}(g:Int->Int)(small:n<=1000)(he:∀k:Int,0<=k->k<n->∀H,Same H1 H->∀Q':VK,Q' (.int (g k)) H->te (some (.int k)::ix.map fun i=>σ.getD i none) H Q')
  (fin:∀acc,H1 acc=none->Q (.ref acc) (upd H1 acc (.lst (((num0 n).map g).map V.int)))):LcW (Itr 0 n) H1 (zaT 0) zaO te 1 ix σ Q:=by
 refine zcJ (zaX (lo:=0) (n:=n)) (za5 (by rw[zaH];exact small)) (fun _=>true) (fun v=>match v with| .int k=>.int (g k)|v=>v) (fun _ _=>trivial) (fun _ _ _ _ _ q=>q) (fun x hx _ H' s' Q' q=> ?_) fun acc hacc=> ?_
 ·obtain ⟨k,rfl,h0,h1⟩:=za2 hx
  exact he k h0 h1 H' s' Q' q
 ·rw [zel,zbf,zek (g:=g) fun n=>rfl]
  exact fin acc hacc
structure Def (K:PySem.W.Frag) (x:Str) (st:Stmt):Prop where
 ex:∃(f:Addr) (oc:Value) (od an:Option Addr) (kV doc pm cdv ct:Value) (osl:Array (Option Value)),PySem.W.nsIn K mainGlobals x=some (some (.ref f))/\
  K.lookup f=some ⟨oc,od,.func (PySem.W.fnOf x x (zbe st) (zaG st) (zaf st) .none kV doc pm an cdv ct),osl⟩/\PySem.W.codeIn K cdv x=true/\PySem.W.keepIn K (.ref f)=true
section
variable {K:PySem.W.Frag}{h:Heap}{mg:Str->Option Value}{x:Str}{st:Stmt}
theorem Def.of {f:Addr}{oc:Value}{od an:Option Addr}{kV doc pm cdv ct:Value}{osl:Array (Option Value)}(a:PySem.W.nsIn K mainGlobals x=some (some (.ref f)))
  (l:K.lookup f=some ⟨oc,od,.func (PySem.W.fnOf x x (zbe st) (zaG st) (zaf st) .none kV doc pm an cdv ct),osl⟩) (c:PySem.W.codeIn K cdv x=true) (k:PySem.W.keepIn K (.ref f)=true):Def K x st:=
 ⟨f,oc,od,an,kV,doc,pm,cdv,ct,osl,a,l,c,k⟩
theorem Def.fn (D:Def K x st)(X:K.In h)(G:h.Ns mainGlobals mg):∃f fd,Fun K x x st f fd/\mg x=some (.ref f):=by
 obtain⟨f,oc,od,an,kV,doc,pm,cdv,ct,osl,a,l,c,k⟩:=D.ex
 exact⟨f,_,zjc (st:=st) l c k,PySem.W.mg_of X G a⟩
end
structure TopK (K:PySem.W.Frag):Prop where
 k_len:PySem.W.nsIn K mainGlobals "len" =some none
 k_tuple:PySem.W.nsIn K mainGlobals "tuple" =some none
 k_list:PySem.W.nsIn K mainGlobals "list" =some none
 k_range:PySem.W.nsIn K mainGlobals "range" =some none
 k_int:PySem.W.nsIn K mainGlobals "int" =some none
 k_bool:PySem.W.nsIn K mainGlobals "bool" =some none
 k_isinstance:PySem.W.nsIn K mainGlobals "isinstance" =some none
 k_all:PySem.W.nsIn K mainGlobals "all" =some none
 k_zip:PySem.W.nsIn K mainGlobals "zip" =some none
 k_enumerate:PySem.W.nsIn K mainGlobals "enumerate" =some none
 k_min:PySem.W.nsIn K mainGlobals "min" =some none
 k_sum:PySem.W.nsIn K mainGlobals "sum" =some none
 k_max:PySem.W.nsIn K mainGlobals "max" =some none
 k_abs:PySem.W.nsIn K mainGlobals "abs" =some none
 k_sorted:PySem.W.nsIn K mainGlobals "sorted" =some none
theorem TopK.top {K:PySem.W.Frag}{h:Heap}{mg:Str->Option Value}(T:TopK K)(X:K.In h)(G:h.Ns mainGlobals mg):Top mg:=
  ⟨PySem.W.mg_none_of X G T.k_len,PySem.W.mg_none_of X G T.k_tuple,PySem.W.mg_none_of X G T.k_list,PySem.W.mg_none_of X G T.k_range,PySem.W.mg_none_of X G T.k_int,PySem.W.mg_none_of X G T.k_bool,PySem.W.mg_none_of X G T.k_isinstance,
   PySem.W.mg_none_of X G T.k_all,PySem.W.mg_none_of X G T.k_zip,PySem.W.mg_none_of X G T.k_enumerate,PySem.W.mg_none_of X G T.k_min,PySem.W.mg_none_of X G T.k_sum,PySem.W.mg_none_of X G T.k_max,PySem.W.mg_none_of X G T.k_abs,PySem.W.mg_none_of X G T.k_sorted⟩
open Sem (wp)
open AutoSeq1 (wpAny_loadPart')
section
variable {prog:Program}{w:World}{A:Around}{E:Value->Shared->Prop}{s:Shared}
end
section
variable {X:Cx}
end
open Sem (wp)
open AutoSeq1 (wpAny_loadPart')
section
variable {prog:Program}{w:World}{A:Around}{E:Value->Shared->Prop}{s:Shared}
end
section
variable {X:Cx}{pos:Pos}
end
section
variable {prog:Program}{w:World}{A:Around}{E:Value->Shared->Prop}{s:Shared}
end
section
variable {X:Cx}
end
noncomputable def atO (ns:List Int)(x:Int):Int:=ns.getD x.toNat 0
noncomputable def Ord (m:Nat)(ns:List Int):Prop:=ns.Perm (num0 m)
theorem zdT (n:Nat):(num0 n).length=n:=by simp[num0]
theorem zcO (n:Nat):(num0 n).Nodup:=by
 unfold num0
 refine List.Pairwise.map _ (fun a b (h:a≠b)=> ?_) (List.nodup_range (n:=n))
 show (a:Int)≠(b:Int)
 (first|lia|omega)
theorem mem_num0 {n:Nat}{x:Int}:x∈num0 n↔0<=x/\x<n:=by
 refine⟨zdf,fun zq=> ?_⟩
 obtain⟨h0,h1⟩:=zq
 unfold num0
 exact List.mem_map.mpr ⟨x.toNat,List.mem_range.mpr (by (first|lia|omega)),by (first|lia|omega)⟩
section
variable {m:Nat}{ns ms ks:List Int}{x:Int}
end
theorem zeV {K:PySem.W.Frag}{a:Addr}{xs:List V}{g:TG}{tb:TS}{D:Ends}{σ:L2.St}{H:Hp}(Pv:Nat->L2.St->Hp->Prop)(h0:Pv 0 σ H)(hl:∀i σ H,i<=xs.length->Pv i σ H->SqT K H a xs)
  (hs:∀i x t σ H,xs[i]? =some x->Pv i σ H->H t=none->g (.ref t) σ (upd H t (.tup [.int i,x])) fun σ2 H2=>tb {D with nx:=Pv (i+1),ct:=Pv (i+1),bk:=D.nx} σ2 H2) (hd:∀σ H,Pv xs.length σ H->D.nx σ H):
  ∃W:Nat->Nat->L2.St->Hp->Prop,(∃m,W 0 m σ H)/\∀i m σ H,W i m σ H->
   ((Ite K a).stop i H/\D.nx σ H)∨((Ite K a).go i H/\∃N:L2.St->Hp->Prop,(∀σ' H',N σ' H'->∃m',m'<m/\W (i+1) m' σ' H')/\∀x H',(Ite K a).yld i H x H'->g x σ H' fun σ2 H2=>tb {D with nx:=N,ct:=N,bk:=D.nx} σ2 H2):=by
 refine⟨fun i m σ H=>m=xs.length-i/\i<=xs.length/\Pv i σ H,⟨xs.length,by simp,Nat.zero_le _,h0⟩, ?_⟩
 rintro i m σ H ⟨rfl,hi,p⟩
 have q:=hl i σ H hi p
 by_cases hlt:i<xs.length
 ·refine .inr ⟨⟨xs,xs[i],q,by simp[hlt]⟩,Pv (i+1),fun σ' H' p'=>⟨xs.length-(i+1),by (first|lia|omega),rfl,hlt,p'⟩,fun x H' y=> ?_⟩
  obtain⟨t,x',ht,rfl,rfl,y⟩:=y
  exact hs i x' t σ _ (y xs q) p ht
 ·have e:i=xs.length:=by (first|lia|omega)
  subst e
  exact .inl ⟨⟨xs,q,rfl⟩,hd σ H p⟩
noncomputable def itO (ns:List Int)(x:Int):Nat->Int
 |0=>x
 |k+1=>atO ns (itO ns x k)
noncomputable def orbO (ns:List Int)(x:Int)(k:Nat):List Int:=(List.range k).map (itO ns x)
structure IsRound (ns:List Int) (x:Int) (row:List Int):Prop where
 ex:∃k,row=orbO ns x (k+1)/\itO ns x (k+1)=x
 nd:row.Nodup
theorem zeW {α:Type}[DecidableEq α]:∀{l L:List α},l.Nodup->(∀y∈l,y∈L)->l.length<=L.length
 |[],_,_,_=>Nat.zero_le _
 | a::t,L,h,s=>by
  have ha:=s a (by simp)
  have hn:=List.nodup_cons.mp h
  have h1:t.length<=(L.erase a).length:=zeW hn.2 fun y hy=>by
   have hne:y≠a:=fun e=>hn.1 (e▸hy)
   exact (List.mem_erase_of_ne hne).mpr (s y (by simp[hy]))
  have h2:=List.length_erase_of_mem ha
  have h3:0<L.length:=List.length_pos_of_mem ha
  simp only[List.length_cons]
  (first|lia|omega)
section
variable {m:Nat}{ns:List Int}{x y:Int}
open Classical in
noncomputable def rowO (ns:List Int)(x:Int):List Int:=if h:∃row,IsRound ns x row then choose h else []
structure MetO (ns:List Int) (m:Nat) (rows:List (List Int)):Prop where
 nd:rows.flatten.Nodup
 rng:∀y∈rows.flatten,0<=y/\y<m
 clo:∀y∈rows.flatten,atO ns y∈rows.flatten
 row:∀r∈rows,∃f:Int,0<=f/\f<m/\r=rowO ns f
theorem zfo {l L:List Int}(hl:l.Nodup)(hL:L.Nodup)(e:∀y,y∈l↔y∈L):l.Perm L:=(List.perm_ext_iff_of_nodup hl hL).mpr e
end
section
variable {X:Cx}
end
section
variable {prog:Program}{w:World}{A:Around}{E:Value->Shared->Prop}{s:Shared}
theorem zbg {t sl:Addr}{items:Array Value}{vl vu:Value}{lo hi:Option Int}{Q:Value->Shared->Prop}(ht:IsTup s.heap t items)(hs:s.heap.IsSliceOf sl vl vu .none)(pl:IsPart vl lo)(pu:IsPart vu hi)
  (hw:HT.sIx items.size 0 lo=0/\HT.sIx items.size items.size hi=items.size) (h:Q (.ref t) s):wpAny (model prog w) A (getItem (.ref t) (.ref sl)) Q E s:=by
 obtain⟨os,hos,hcs,hds⟩:=id hs
 have hTs:s.TypeIs (.ref sl) "slice" :=⟨os,hos,hcs⟩
 unfold getItem
 try with_reducible refine wpAny_holding ?_
 first|refine wpAny_bind (wpAny_pure ?_)|skip
 refine wpAny_bind (wpAny_sequenceKey ht.typeIs (by decide) ?_)
 refine wpAny_bind (wpAny_callSpecial?_slot (name:=Str.ofString "__getitem__") ht.typeIs PyProof.Rows.slot_tuple_getitem
  (wpAny_call_entry PyProof.Rows.slot_tuple_getitem ht.typeIs entry_tuple_getitem ?_ (args_tuple_getitem _ _)))
 show wpAny _ _ (Builtin.Tuple.tupleItemsOf (.ref t) >>= _) _ _ s
 refine wpAny_bind (tupleItemsOf_ ht ?_)
 refine wpAny_bind (wpAny_typeOf hTs ?_)
 rw[if_pos (by decide)]
 refine wpAny_bind (HT.sliceApplied_gen hs pl pu ?_)
 show wpAny _ _ (if (((HT.sIx items.size 0 lo:Nat):Int)==0&&(1:Int)==1&&(HT.sIx items.size items.size hi-HT.sIx items.size 0 lo)==items.size)=true then _ else _) _ _ s
 rw[if_pos (by rw[hw.1,hw.2];simp)]
 unfold Builtin.Tuple.tupleIsExact
 refine wpAny_bind (wpAny_bind (wpAny_typeOf ht.typeIs (wpAny_pure ?_)))
 rw[if_pos (by decide)]
 refine wpAny_bind (wpAny_rule ?_)
 exact wpAny_pure ⟨_,rfl,wpAny_pure h⟩
end
section
variable {X:Cx}{e:Expr}{te:TE}{p2 pos:Pos}
end
noncomputable abbrev RowsAt (H:Hp)(zs:List Addr)(rows:List (List Int)):Prop:=Paired (fun (z:Addr) (r:List Int)=>H z=some (.tup (r.map V.int))) zs rows
theorem RowsAt.sameT {H H':Hp}{zs:List Addr}{rows:List (List Int)}(h:RowsAt H zs rows)(s:SameT H H'):RowsAt H' zs rows:=Paired.mapP h fun _ _ q=>s _ _ q
theorem RowsAt.same {H H':Hp}{zs:List Addr}{rows:List (List Int)}(h:RowsAt H zs rows)(s:Same H H'):RowsAt H' zs rows:=h.sameT s.t
structure Bits (bs:List Bool) (m:Nat) (S:List Int):Prop where
 len:bs.length=m
 bit:∀i,i<m->bs[i]? =some (decide ((i:Int)∈S))
theorem za4 (zs:List Addr):(zs.map V.ref).length=zs.length:=List.length_map ..
inductive Ents (P:Params):List DictEntry->List (Str×Addr)->Prop
 |nil:Ents P [] []
 |cons {x:Str} {t:Tok} {f:Addr} {es:List DictEntry} {kvs:List (Str×Addr)}:Ents P es kvs->Ents P (⟨PyData.keyHash P x,.str x t,.ref f⟩::es) ((x,f)::kvs)
structure GDict (K:PySem.W.Frag) (P:Params) (C:Addr) (kvs:List (Str×Addr)):Prop where
 ex:∃es n,K.lookup C=some {cls:=.type "dict",data:=.dict es n}/\Ents P es.toList kvs
 nd:(kvs.map (·.1)).Nodup
theorem Ents.keys {prog:Program}{w:World}:∀{es:List DictEntry} {kvs:List (Str×Addr)},Ents w.params es kvs->∀e∈es,∃k,(PySem.strKind prog w).is k e.key=true/\e.hash=(PySem.strKind prog w).hash k
 |_,_,.nil,_,h=>by cases h
 |_,_,.cons (x:=x) t,e,h=>by
  rcases List.mem_cons.mp h with rfl|h
  ·exact⟨x,by simp[PySem.strKind,Value.isStrOf],rfl⟩
  ·exact Ents.keys t e h
theorem Ents.pairs {prog:Program}{w:World}:∀{es:List DictEntry} {kvs:List (Str×Addr)},Ents w.params es kvs->Pairs (PySem.strKind prog w) es (kvs.map fun kv=>(kv.1,Value.ref kv.2))
 |_,_,.nil=>.nil
 |_,_,.cons t=>.cons (by simp[PySem.strKind,Value.isStrOf]) rfl (Ents.pairs t)
theorem zcl:∀(kvs:List (Str×Addr)) (x:Str),valueAt (kvs.map fun kv=>(kv.1,Value.ref kv.2)) x=(kvs.lookup x).map Value.ref
 |[],_=>rfl
 | (y,f)::t,x=>by
  have ih:=zcl t x
  unfold valueAt at ih ⊢
  rw[List.map_cons,List.find?_cons,List.lookup_cons]
  by_cases h:y=x
  ·subst h
   simp
  ·have h2:(x==y)=false:=beq_eq_false_iff_ne.mpr fun z=>h z.symm
   simp only[decide_eq_false h,h2]
   exact ih
section
variable {X:Cx}
noncomputable def rGd (K:PySem.W.Frag)(P:Params):R2:=fun x y H Q=>∃C kvs z f,x=.ref C/\y=.str z/\GDict K P C kvs/\kvs.lookup z=some f/\Q (.ref f) H
theorem zjZ:IxR X (rGd X.K X.w.params):=by
 intro value slice pins s σ H x y v u Q I rx ry h hs
 obtain⟨C,kvs,z,f,rfl,rfl,⟨⟨es,n,hk,en⟩,nd⟩,hl,q⟩:=h
 cases rx
 obtain⟨t,rfl⟩:=ry
 have hg:=I.kIn C _ hk
 have hD:s.heap.DictOf (PySem.strKind X.prog X.w) C (kvs.map fun kv=>(kv.1,Value.ref kv.2)):=
  ⟨_,es,n,hg,⟨rfl,rfl,rfl⟩,rfl,fun e he=>en.keys e (by simpa using he),en.pairs,by rw[List.map_map];exact nd⟩
 have fin:EP X pins σ Q (.ref f) {s with toks:=s.toks+1}:=⟨.ref f,H,I.tok _,rfl,q⟩
 exact subscriptTail_builtinR (x:=.ref f) hD.typeIs PySem.F.slot_dict_getitem.lookup
  (wpAny_getItem_of (k:=z) (knd:=PySem.strKind X.prog X.w) (Q:=fun r s'=>r=.ref f/\EP X pins σ Q r s') (by simp[PySem.strKind,Value.isStrOf]) hD.mapOf (by rw[zcl,hl];rfl) ⟨rfl,fin⟩) hs
end
structure CalF (P:Program) (w:World) (K:PySem.W.Frag) (mg:Str->Option Value) (base:Heap) (k:Nat) (f:Addr) (ps:List Str) (sp:Sp):Prop where
 ex:∃fd,FnOk P w K mg base CX0 k f fd ps sp/\PySem.W.keepIn K (.ref f)=true/\Binds K fd ps []
section
variable {X:Cx}{k:Nat}{x:Str}{p pos:Pos}{e:Expr}{es:List Expr}{t:TA}{tf:TE}
noncomputable def zjd (P:Program)(w:World)(K:PySem.W.Frag)(mg:Str->Option Value)(base:Heap)(k:Nat)(tf:TE)(t:TA):TE:=fun σ H Q=>tf σ H fun v H1=>∃f ps sp,v=.ref f/\CalF P w K mg base k f ps sp/\t σ H1 fun vs H2=>sp vs H2 Q E0
theorem zeX (hf:PE X (.Name x p) tf)(hr:Room k X.A)(ha:PA X (e::es) t)(he:starEach (e::es) X.env=(false,eval e X.env)::starEach es X.env:=by rfl)
  (hpl:(backTo pos (starEach es X.env)).any (·.1)=false:=by rfl):PE X (.Call (.Name x p) (e::es) [] pos) (zjd X.prog X.w X.K X.mg X.base k tf t):=by
 intro pins s σ H Q I h
 refine wpAny_Call_Name_kw (thn (hf pins s σ H _ I h) fun v s1 zq=> ?_)
 obtain⟨y,H1,I1,r1,f,ps,sp,ey,⟨fd,F,hk,hb⟩,q1⟩:=zq
 subst ey
 cases (show v=Value.ref f from r1)
 refine PySem.W.callWith_K (h₀:=X.base) I1.ok.mod.kin hk (thn (ha pos pins s1 σ H1 _ I1 q1) fun us s2 ⟨vs,H2,I2,r2,q2⟩=>⟨I2.kIn, ?_⟩) he hpl
 exact zfR F hr hb .nil zie I2 r2 (by rw[List.append_nil];exact q2)
noncomputable def zj0:List V->Hp->VK->Prop:=fun xs H Q=>∃(l:Addr) (ns:List Int),xs=[.ref l]/\H l=some (.lst (ns.map V.int))/\Q (.int ns.sum) H
theorem zbh (hc:X.calm=true):zbA X (.builtin "sum") zj0:=by
 intro pins s σ H xs us Q I rs h
 obtain⟨l,ns,rfl,hH,q⟩:=h
 obtain⟨u,rfl,ru⟩:=zb8 rs
 cases (show u=Value.ref l from ru)
 obtain⟨z,its,n,r,hl,e⟩:=I.lstM hH
 have hI:=zb9 r
 obtain⟨xs,hxs⟩:=hI.allInts.items
 have hnum:(numsOf its.toArray.toList)=ns:=hI.numsOf
 refine sum_intListG (xs:=xs) (I.ok.hd hc) (by rw[<-hxs];exact⟨_,e,rfl,n,rfl⟩) fun h' tk t' hk=> ?_
 have hs:preSum (numAt xs) xs.size=ns.sum:=by
  rw[preSum_eq,List.take_of_length_le (by simp)]
  rw[<-nums_intItems,<-hxs,hnum]
 rw[hs]
 exact⟨.int ns.sum,H,I.kept (t':=tk) hk,⟨_,rfl⟩,q⟩
end
noncomputable abbrev lc2 (elt tg iter:Expr)(ifs:List Expr)(tg2 iter2:Expr)(ifs2:List Expr)(scope:Scope)(pos:Pos):Expr:=.ListComp elt [⟨tg,iter,ifs,0⟩,⟨tg2,iter2,ifs2,0⟩] scope pos
theorem zen (elt tg iter:Expr)(ifs:List Expr)(tg2 iter2:Expr)(ifs2:List Expr)(scope:Scope)(pos:Pos)(it acc:Value)(env:Env):
  compTurn (lc2 elt tg iter ifs tg2 iter2 ifs2 scope pos) 1 it acc env=(do
   standAt iter2.pos
   match<-pyNext it with
   |none=>pure (.done .next)
   | some v=>
    letOwnedTupleGo tg2 it v
    assign tg2 env v
    let mut ok:=true
    for c in ifs2 do
     if ok then ok<-isTrue c env (eval c env)
    if ok then
     (do let _<-call (.builtin "list.append") [acc,<-eval elt env])
    again (.compLoop (lc2 elt tg iter ifs tg2 iter2 ifs2 scope pos) 1 it acc env)):=by rfl
theorem zdU (elt tg iter:Expr)(ifs:List Expr)(tg2 iter2:Expr)(ifs2:List Expr)(scope:Scope)(pos:Pos)(it acc:Value)(env:Env):
  compTurn (lc2 elt tg iter ifs tg2 iter2 ifs2 scope pos) 0 it acc env=(do
   standAt iter.pos
   match<-pyNext it with
   |none=>pure (.done .next)
   | some v=>
    letOwnedTupleGo tg it v
    assign tg env v
    let mut ok:=true
    for c in ifs do
     if ok then ok<-isTrue c env (eval c env)
    if ok then
     let x<-eval iter2 env
     standAt iter2.pos
     let x<-foldedSetIterable iter2 env x
     let _<-runOwn (.compStart (lc2 elt tg iter ifs tg2 iter2 ifs2 scope pos) 1 (<-holding [x] (pyIter x)) acc env) env
    again (.compLoop (lc2 elt tg iter ifs tg2 iter2 ifs2 scope pos) 0 it acc env)):=by rfl
section
variable {prog:Program}{w:World}{A:Around}{R:Result->Shared->Prop}{s:Shared}{elt tg iter tg2 iter2:Expr}{ifs ifs2:List Expr}{scope:Scope}{pos:Pos}{it acc:Value}{env:Env}
theorem zeo (I:Nat->Shared->Prop)
  (turn:∀n s,I n s->wpAny (model prog w) A (pyNext it) (fun r s₁=>match r with
   |none=>R (.ok .next) s₁
   | some v=>wpAny (model prog w) A (letOwnedTupleGo tg2 it v) (fun _ s₂=>wpAny (model prog w) A (assign tg2 env v) (fun _ s₃=>
     wpAny (model prog w) A (forIn ifs2 true fun c r=>if r=true then do let ok<-isTrue c env (eval c env);pure (ForInStep.yield ok) else pure (ForInStep.yield r)) (fun ok s₄=>
      if ok=true then wpAny (model prog w) A (eval elt env) (fun x s₅=>
       wpAny (model prog w) A (call (.builtin "list.append") [acc,x]) (fun _ s₆=>∃m,m<n/\I m s₆) (fun _ _=>False) s₅) (fun _ _=>False) s₄
      else ∃m,m<n/\I m s₄) (fun _ _=>False) s₃) (fun _ _=>False) s₂) (fun _ _=>False) s₁) (fun _ _=>False) s)
  (n:Nat) (h:I n s):
  codeAny (model prog w) A (.compLoop (lc2 elt tg iter ifs tg2 iter2 ifs2 scope pos) 1 it acc env) R s:=by
 refine codeAny_loop rfl I (fun n s hI=> ?_) n h
 show wpAny _ A ((compTurn (lc2 elt tg iter ifs tg2 iter2 ifs2 scope pos) 1 it acc env).onRaise (fun x=>do noteFrame x env;theTreesLotGoes x)) _ _ s
 refine wpAny_noted (wpAny_noRaise ?_)
 rw[zen]
 refine wpAny_bind (wpAny_standAt (wpAny_bind (thn (turn n s hI) fun r s₁ h₁=> ?_)))
 cases r with
 |none=>exact wpAny_pure h₁
 |some v=>
  refine wpAny_bind (thn h₁ fun _ s₂ h₂=>wpAny_bind (thn h₂ fun _ s₃ h₃=>wpAny_bind (thn h₃ fun ok s₄ h₄=> ?_)))
  cases ok with
  |false=>exact wpAny_pure ⟨rfl,h₄⟩
  |true=>exact wpAny_bind (wpAny_bind (thn h₄ fun x s₅ h₅=>wpAny_bind (thn h₅ fun _ s₆ h₆=>wpAny_pure (wpAny_pure ⟨rfl,h₆⟩))))
theorem zdV (hs2:∀x,foldedSetIterable iter2 env x=pure x)(I:Nat->Shared->Prop)
  (turn:∀n s,I n s->wpAny (model prog w) A (pyNext it) (fun r s₁=>match r with
   |none=>R (.ok .next) s₁
   | some v=>wpAny (model prog w) A (letOwnedTupleGo tg it v) (fun _ s₂=>wpAny (model prog w) A (assign tg env v) (fun _ s₃=>
     wpAny (model prog w) A (forIn ifs true fun c r=>if r=true then do let ok<-isTrue c env (eval c env);pure (ForInStep.yield ok) else pure (ForInStep.yield r)) (fun ok s₄=>
      if ok=true then wpAny (model prog w) A (eval iter2 env) (fun x s₅=>wpAny (model prog w) A (pyIter x) (fun it2 s₆=>
       codeAny (model prog w) A (.compStart (lc2 elt tg iter ifs tg2 iter2 ifs2 scope pos) 1 it2 acc env) (fun r s₇=>r=.ok .next/\∃m,m<n/\I m s₇) s₆) (fun _ _=>False) s₅) (fun _ _=>False) s₄
      else ∃m,m<n/\I m s₄) (fun _ _=>False) s₃) (fun _ _=>False) s₂) (fun _ _=>False) s₁) (fun _ _=>False) s)
  (n:Nat) (h:I n s):
  codeAny (model prog w) A (.compLoop (lc2 elt tg iter ifs tg2 iter2 ifs2 scope pos) 0 it acc env) R s:=by
 refine codeAny_loop rfl I (fun n s hI=> ?_) n h
 show wpAny _ A ((compTurn (lc2 elt tg iter ifs tg2 iter2 ifs2 scope pos) 0 it acc env).onRaise (fun x=>do noteFrame x env;theTreesLotGoes x)) _ _ s
 refine wpAny_noted (wpAny_noRaise ?_)
 rw[zdU]
 refine wpAny_bind (wpAny_standAt (wpAny_bind (thn (turn n s hI) fun r s₁ h₁=> ?_)))
 cases r with
 |none=>exact wpAny_pure h₁
 | some v=>
  refine wpAny_bind (thn h₁ fun _ s₂ h₂=>wpAny_bind (thn h₂ fun _ s₃ h₃=>wpAny_bind (thn h₃ fun ok s₄ h₄=> ?_)))
  cases ok with
  |false=>exact wpAny_pure ⟨rfl,h₄⟩
  |true=>
   refine wpAny_bind (thn h₄ fun x s₅ h₅=>wpAny_bind (wpAny_standAt (wpAny_bind (wpAny_of_eq (hs2 x) (wpAny_bind (wpAny_holding (thn h₅ fun it2 s₆ h₆=> ?_)))))))
   refine wpAny_bind (wpAny_runOwn (codeAny_mono h₆ fun r s₇ hr=> ?_))
   obtain⟨rfl,hr⟩:=hr
   exact wpAny_pure ⟨rfl,hr⟩
theorem zbN
  (h0:codeAny (model prog w) A (.compLoop (lc2 elt tg iter ifs tg2 iter2 ifs2 scope pos) 1 it acc env) R s)
  (h:wpAny (model prog w) A (pyIter it) (fun it' s'=>codeAny (model prog w) A (.compLoop (lc2 elt tg iter ifs tg2 iter2 ifs2 scope pos) 1 it' acc env) R s')
   (notedBy (model prog w) A env fun x s'=>R (.error x) s') s):
  codeAny (model prog w) A (.compStart (lc2 elt tg iter ifs tg2 iter2 ifs2 scope pos) 1 it acc env) R s:=by
 refine codeAny_of_tree ?_
 show wpAny _ _ ((compStart (lc2 elt tg iter ifs tg2 iter2 ifs2 scope pos) 1 it acc env).onRaise (fun x=>do noteFrame x env;standAt theWindowsPlace)) _ _ s
 refine wpAny_notedAt ?_
 unfold compStart
 show wpAny _ _ (ask >>= _) _ _ s
 refine wpAny_bind (wpAny_askSetting (wpAny_ite ?_))
 split
 ·first
   |exact wpAny_bind (wpAny_pure (wpAny_pure (And.intro rfl h0)))
   |exact wpAny_pure (And.intro rfl h0)
 ·refine wpAny_bind (wpAny_rule (wpAny_bind (wpAny_standAt (wpAny_bind (wpAny_mono h (fun it' s' h'=>wpAny_pure (And.intro rfl h')) fun _ _ e=>e)))))
end
noncomputable def InW (J:It)(H1:Hp)(g:TG)(tt:TT)(te:TE)(acc:Addr)(σ:St)(Kt:Hp->Prop):Prop:=
 ∃ V:Nat->Nat->Hp->Prop,(∃m,V 0 m H1)/\∀i m H,V i m H->
  (J.stop i H/\Kt H)∨(J.go i H/\∀x H',J.yld i H x H'->g x σ H' fun σ2 H2=>Wk σ σ2/\tt σ2 H2 fun b H3=>
   if b=true then te σ2 H3 fun v H4=>∃ys,H4 acc=some (.lst ys)/\ys.length<sizeLine/\∃m',m'<m/\V (i+1) m' (upd H4 acc (.lst (ys++[v])))
   else ∃m',m'<m/\V (i+1) m' H3)
noncomputable def LcW2 (J:It)(H1:Hp)(g:TG)(tt:TT)(wi2:TI)(g2:TG)(tt2:TT)(te:TE)(n:Nat)(ix:List Nat)(σ:St)(Q:VK):Prop:=∀acc,H1 acc=none->
 ∃ W:Nat->Nat->Hp->Prop,(∃m,W 0 m (upd H1 acc (.lst [])))/\∀i m H,W i m H->
  (J.stop i H/\Q (.ref acc) H)∨(J.go i H/\∀x H',J.yld i H x H'->g x (zaW n ix σ) H' fun σ2 H2=>Wk (zaW n ix σ) σ2/\tt σ2 H2 fun b H3=>
   if b=true then wi2 σ2 H3 fun J2 H4=>InW J2 H4 g2 tt2 te acc σ2 fun H5=>∃m',m'<m/\W (i+1) m' H5
   else ∃m',m'<m/\W (i+1) m' H3)
noncomputable def tLc2 (wi:TI)(g:TG)(tt:TT)(wi2:TI)(g2:TG)(tt2:TT)(te:TE)(n:Nat)(ix:List Nat):TE:=fun σ H Q=>wi σ H fun J H1=>LcW2 J H1 g tt wi2 g2 tt2 te n ix σ Q
section
variable {X:Cx}{elt tg iter tg2 iter2:Expr}{ifs ifs2:List Expr}{scope:Scope}{pos:Pos}{wi wi2:TI}{g g2:TG}{tt tt2:TT}{te:TE}{N':List Str}{n:Nat}{ix:List Nat}
theorem zg5 {pins:List (Addr×Obj)}{σ:St}{H2:Hp}{s2:Shared}{cl:List (Str×Addr)}{it:Addr}{fp:List Addr}{tn:Nat->Heap->Prop}{J:It}{Q:VK}{R:Value->Addr->Result->Shared->Prop}
  (hc:X.calm=true) (S:CompScope X scope N' n ix)
  (hY:∀s₂ H₂ cl C fp,PG (X.comp s₂ H₂ N' scope cl C fp) tg g/\PTs (X.comp s₂ H₂ N' scope cl C fp) ifs tt/\PI (X.comp s₂ H₂ N' scope cl C fp) tg2 iter2 wi2/\PG (X.comp s₂ H₂ N' scope cl C fp) tg2 g2/\PTs (X.comp s₂ H₂ N' scope cl C fp) ifs2 tt2/\
   PE (X.comp s₂ H₂ N' scope cl C fp) elt te)
  (hs2:∀env x,foldedSetIterable iter2 env x=pure x)
  (I2:Inv X pins σ H2 s2) (hcl1:∀x c,cl.lookup x=some c->X.env.cells.lookup x=some c) (hcl2:∀y∈scope.names,y.2=.free->cl.lookup y.1=X.env.cells.lookup y.1)
  (T:Turn X.prog X.w X.K tg J fp it tn) (st2:tn 0 s2.heap) (f2:∀b∈fp,FpOk X pins H2 b)
  (hW:LcW2 J H2 g tt wi2 g2 tt2 te n ix σ Q)
  (hR:∀acc C s' H' m,s'.heap.Ns C m->Inv X pins σ H' s'->H' C=none->C≠X.env.locals->(C∈X.ex∨X.s₀.heap.objs.size<=C)->(∀x c,X.env.cells.lookup x=some c->c≠C)->(∀p∈X.pn++pins,p.1≠C)->C∉X.fs->Q (.ref acc) H'->R (.ref acc) C (.ok .next) s'):
  wpAny (model X.prog X.w) X.A (newList []) (fun acc s₃=>wpAny (model X.prog X.w) X.A (newFunctionEnv scope X.env.globals cl [] X.env.qual none .none (some X.env)) (fun cenv s₄=>
   codeAny (model X.prog X.w) X.A (.compStart (lc2 elt tg iter ifs tg2 iter2 ifs2 scope pos) 0 (.ref it) acc {cenv with scope:=relabel scope X.env}) (R acc cenv.locals) s₄) X.xe s₃) X.xe s2:=by
 refine wpAny_newObj_type (wpAny_newFunctionEnv S.nocell (by intro y hy;simp at hy) (fun h₁ hns₁ hsb₁=> ?_) S.kind)
 dsimp only at hns₁ hsb₁ ⊢
 generalize hH2:s2.heap.push {cls:=.type "list",dict:=none,data:=.seq ([]:List Value).toArray}=G at hns₁ hsb₁ ⊢
 have hC:G.objs.size=s2.heap.objs.size+1:=by rw[<-hH2,Heap.size_push]
 have hlt:∀b∈fp,b<s2.heap.objs.size:=fun b hb=>by
  obtain⟨o,e,_⟩:=T.obj _ _ st2 b hb
  exact Heap.lt_size e
 have old:∀b o,s2.heap.get? b=some o->h₁.get? b=some o:=fun b o e=>hsb₁.extBut b o (by rw[hC];exact Nat.ne_of_lt (Nat.lt_succ_of_lt (Heap.lt_size e))) (Heap.get?_push_of_some _ (hH2▸Heap.get?_push_of_some _ e))
 have hacc:h₁.get? s2.heap.objs.size=some {cls:=.type "list",dict:=none,data:=.seq ([]:List Value).toArray}:=hsb₁.extBut _ _ (by rw[hC];exact Nat.ne_of_lt (Nat.lt_succ_self _)) (Heap.get?_push_of_some _ (hH2▸Heap.get?_push_size _ rfl))
 obtain⟨W,⟨m0,w0⟩,turn⟩:=hW s2.heap.objs.size (I2.hok.fresh (Nat.le_refl _))
 obtain⟨hYg,hYt,hYi,hYg2,hYt2,hYe⟩:=hY s2 H2 cl G.objs.size fp
 have fpY:∀{H':Hp},(∀b∈fp,H' b=none)->∀b∈fp,FpOk (X.comp s2 H2 N' scope cl G.objs.size fp) [] H' b:=fun {H'} hn b hb=>by
  obtain⟨_,q1,q2,q3,q4,q5⟩:=f2 b hb
  refine⟨hn b hb, ?_,fun z=> ?_,.inl hb,fun x c e=>q4 x c (hcl1 x c e),fun p hp=>absurd (show p∈([]:List (Addr×Obj)) from hp) (by simp)⟩
  ·show b≠G.objs.size
   rw[hC]
   exact Nat.ne_of_lt (Nat.lt_succ_of_lt (hlt b hb))
  ·rcases List.mem_cons.mp (I2.stkSub b z) with y|y
   ·exact q1 y
   ·exact q2 y
 have loop:∀s₃:Shared,s₃={s2 with heap:=h₁,toks:=s2.toks+([]:List (Str×Value)).length}->
   codeAny (model X.prog X.w) X.A (.compLoop (lc2 elt tg iter ifs tg2 iter2 ifs2 scope pos) 0 (.ref it) (.ref s2.heap.objs.size) (compEnvC scope cl G.objs.size X.env)) (R (.ref s2.heap.objs.size) G.objs.size) s₃:=by
  rintro s₃ rfl
  have I4:=zeQ (tk:=s2.toks+([]:List (Str×Value)).length) I2 S hcl1 hcl2 f2 hlt (Nat.le_refl _) (by rw[hC];exact Nat.le_succ _) (by rw[hC];exact Nat.ne_of_gt (Nat.lt_succ_self _)) old hacc hns₁
  refine zdV (fun x=>hs2 _ x) (fun n' s'=>∃i H',Inv (X.comp s2 H2 N' scope cl G.objs.size fp) [] (zaW n ix σ) H' s'/\tn i s'.heap/\(∀b∈fp,H' b=none)/\W i n' H') ?_ m0
   ⟨0,_,I4,T.keep _ _ _ st2 fun b hb o e=>old b o e,fun b hb=> ?_,w0⟩
  ·rintro n' s3 ⟨i,H3,I3,st3,fr3,w3⟩
   rcases turn i n' H3 w3 with⟨stop,q⟩|⟨go,step⟩
   ·refine thn (T.done (X.comp s2 H2 N' scope cl G.objs.size fp) rfl rfl rfl hc i [] s3 _ H3 _ I3 (fpY fr3) st3 stop) fun r s4 zq=> ?_
    obtain⟨hr,I5⟩:=zq
    subst hr
    obtain⟨mC,hnC,_⟩:=I5.loc
    have IX:Inv X pins σ H3 s4:=I2.call' I5.os I5.base I5.hok I5.bare fun b hb=>by
     obtain⟨_,q1,q2,q3,q4,q5⟩:=f2 b hb
     exact⟨q3,q1,q4,q5⟩
    refine hR _ _ s4 H3 mC hnC IX I5.free ?_ (.inr ?_) (fun x c e z=> ?_) (fun p hp z=> ?_) (I2.nofs (by rw[hC];exact Nat.le_succ _)) q
    ·rw [hC]
     exact Nat.ne_of_gt (Nat.lt_succ_of_lt I2.lt)
    ·rw [hC]
     exact Nat.le_succ_of_le I2.sz
    ·obtain ⟨v,q⟩:=I2.cell x c e
     rw[hC] at z
     exact absurd z (Nat.ne_of_lt (Nat.lt_succ_of_lt q.lt))
    ·rw [hC] at z
     exact absurd z (Nat.ne_of_lt (Nat.lt_succ_of_lt (Heap.lt_size (I2.pin p hp).1)))
   ·refine thn (T.item (X.comp s2 H2 N' scope cl G.objs.size fp) rfl rfl rfl hc i [] s3 _ H3 _ I3 (fpY fr3) st3 go) fun r s4 zq=> ?_
    obtain⟨u,hr,h4⟩:=zq
    subst hr
    refine thn h4 fun _ s5 zq=> ?_
    obtain⟨x,H5,I5,r5,y5,st5,fr5⟩:=zq
    have I5':=I5.pinned (fpY fr5) (T.obj _ _ st5)
    refine thn (hYg _ s5 _ H5 x u _ I5' r5 (step x H5 y5)) fun _ s6 zq=> ?_
    obtain⟨σ6,H6,I6,wk,q6⟩:=zq
    have back:∀{H':Hp} {s':Shared},Inv (X.comp s2 H2 N' scope cl G.objs.size fp) ([]++zbx fp s5.heap) σ6 H' s'->
      Inv (X.comp s2 H2 N' scope cl G.objs.size fp) [] (zaW n ix σ) H' s'/\tn (i+1) s'.heap/\∀b∈fp,H' b=none:=fun {H' s'} I7=>by
     refine⟨I7.unpinned.weak wk.1 wk.2,T.keep _ _ _ st5 fun b hb o e=>(I7.pin (b,o) (List.mem_append_right _ (List.mem_append_right _ (zaL hb e)))).1,fun b hb=> ?_⟩
     obtain⟨o,e,d⟩:=T.obj _ _ st5 b hb
     exact (I7.pin (b,o) (List.mem_append_right _ (List.mem_append_right _ (zaL hb e)))).2.1
    refine thn (hYt _ s6 σ6 H6 _ I6 q6) fun ok s7 zq=> ?_
    obtain⟨H7,I7,q7⟩:=zq
    cases ok with
    |false=>
     rw[if_neg Bool.false_ne_true] at q7 ⊢
     obtain⟨m',hm,w7⟩:=q7
     obtain⟨b1,b2,b3⟩:=back I7
     exact⟨m',hm,i+1,H7,b1,b2,b3,w7⟩
    | true=>
     rw[if_pos rfl] at q7 ⊢
     refine thn (hYi _ s7 σ6 H7 _ I7 q7) fun xv s8 h8=>thn h8 fun itv s9 h9=> ?_
     obtain⟨it2,fp2,tn2,J2,H9,rfl,I9,T2,st9,f9,V,⟨m1,v0⟩,turn2⟩:=h9
     have stat2:∀{H':Hp},(∀b∈fp2,H' b=none)->∀b∈fp2,FpOk (X.comp s2 H2 N' scope cl G.objs.size fp) ([]++zbx fp s5.heap) H' b:=fun hn b hb=>⟨hn b hb,(f9 b hb).2⟩
     have loop2:codeAny (model X.prog X.w) X.A (.compLoop (lc2 elt tg iter ifs tg2 iter2 ifs2 scope pos) 1 (.ref it2) (.ref s2.heap.objs.size) (compEnvC scope cl G.objs.size X.env))
       (fun r s₇=>r=.ok .next/\∃m,m<n'/\∃i H',Inv (X.comp s2 H2 N' scope cl G.objs.size fp) [] (zaW n ix σ) H' s₇/\tn i s₇.heap/\(∀b∈fp,H' b=none)/\W i m H') s9:=by
      refine zeo (fun n'' s'=>∃j H',Inv (X.comp s2 H2 N' scope cl G.objs.size fp) ([]++zbx fp s5.heap) σ6 H' s'/\tn2 j s'.heap/\(∀b∈fp2,H' b=none)/\V j n'' H') ?_ m1 ⟨0,H9,I9,st9,fun b hb=>(f9 b hb).1,v0⟩
      rintro n'' s10 ⟨j,H10,I10,st10,fr10,v10⟩
      rcases turn2 j n'' H10 v10 with⟨stop2,q10⟩|⟨go2,step2⟩
      ·refine thn (T2.done (X.comp s2 H2 N' scope cl G.objs.size fp) rfl rfl rfl hc j _ s10 _ H10 _ I10 (stat2 fr10) st10 stop2) fun r s11 zq=> ?_
       obtain⟨hr,I11⟩:=zq
       subst hr
       obtain⟨m',hm,w10⟩:=q10
       obtain⟨b1,b2,b3⟩:=back I11
       exact⟨rfl,m',hm,i+1,H10,b1,b2,b3,w10⟩
      ·refine thn (T2.item (X.comp s2 H2 N' scope cl G.objs.size fp) rfl rfl rfl hc j _ s10 _ H10 _ I10 (stat2 fr10) st10 go2) fun r s11 zq=> ?_
       obtain⟨u2,hr,h11⟩:=zq
       subst hr
       refine thn h11 fun _ s12 zq=> ?_
       obtain⟨y,H12,I12,r12,y12,st12,fr12⟩:=zq
       have I12':=I12.pinned (stat2 fr12) (T2.obj _ _ st12)
       refine thn (hYg2 _ s12 _ H12 y u2 _ I12' r12 (step2 y H12 y12)) fun _ s13 zq=> ?_
       obtain⟨σ13,H13,I13,wk2,q13⟩:=zq
       have back2:∀{H':Hp} {s':Shared},Inv (X.comp s2 H2 N' scope cl G.objs.size fp) (([]++zbx fp s5.heap)++zbx fp2 s12.heap) σ13 H' s'->
         Inv (X.comp s2 H2 N' scope cl G.objs.size fp) ([]++zbx fp s5.heap) σ6 H' s'/\tn2 (j+1) s'.heap/\∀b∈fp2,H' b=none:=fun {H' s'} I7=>by
        refine⟨I7.unpinned.weak wk2.1 wk2.2,T2.keep _ _ _ st12 fun b hb o e=>(I7.pin (b,o) (List.mem_append_right _ (List.mem_append_right _ (zaL hb e)))).1,fun b hb=> ?_⟩
        obtain⟨o,e,d⟩:=T2.obj _ _ st12 b hb
        exact (I7.pin (b,o) (List.mem_append_right _ (List.mem_append_right _ (zaL hb e)))).2.1
       refine thn (hYt2 _ s13 σ13 H13 _ I13 q13) fun ok2 s14 zq=> ?_
       obtain⟨H14,I14,q14⟩:=zq
       cases ok2 with
       |false=>
        rw[if_neg Bool.false_ne_true] at q14 ⊢
        obtain⟨m',hm,v14⟩:=q14
        obtain⟨b1,b2,b3⟩:=back2 I14
        exact⟨m',hm,j+1,H14,b1,b2,b3,v14⟩
       |true=>
        rw[if_pos rfl] at q14 ⊢
        refine thn (hYe _ s14 σ13 H14 _ I14 q14) fun xv s15 zq=> ?_
        obtain⟨v15,H15,I15,r15,ys,ha,hz,m',hm,w15⟩:=zq
        refine thn (zbB _ s15 σ13 H15 (.ref s2.heap.objs.size) [v15] (.ref s2.heap.objs.size) [xv] (fun _ H'=>H'=upd H15 s2.heap.objs.size (.lst (ys++[v15]))) I15 rfl (.cons r15 .nil) ⟨_,ys,v15,rfl,rfl,ha,hz,rfl⟩) fun _ s16 zq=> ?_
        obtain⟨_,H16,I16,_,e16⟩:=zq
        subst e16
        obtain⟨b1,b2,b3⟩:=back2 I16
        exact⟨m',hm,j+1,_,b1,b2,b3,w15⟩
     exact zbN loop2 (T2.self _ 0 _ _ _ st9 loop2)
  ·rw [zah (Nat.ne_of_lt (hlt b hb))]
   exact (f2 b hb).1
 exact codeAny_compStart_list (loop _ rfl) (T.self _ 0 _ _ _ (T.keep _ _ _ st2 fun b hb o e=>old b o e) (loop _ rfl))
end
noncomputable def Itel (K:PySem.W.Frag)(a:Addr):It:=
 ⟨fun i H=>∃xs x,SqL K H a xs/\xs[i]? =some x,fun i H v H'=>∃t x,H t=none/\v=.ref t/\H'=upd H t (.tup [.int i,x])/\∀xs,SqL K H a xs->xs[i]? =some x,fun i H=>∃xs,SqL K H a xs/\xs.length=i⟩
theorem zfp {P:Program}{w:World}{K:PySem.W.Frag}{els:List Expr}{kx}{tp:Pos}(a e it:Addr)(hne:e≠it):Turn P w K (.Tuple els kx tp) (Itel K a) [e,it] e (fun i h=>(∃old,IsEnum h e it i old)/\h.IsListIter it a i) where
 mem:=by simp
 obj:=fun i h st b hb=>by
  obtain⟨⟨old,he⟩,o,ho,hc,hd⟩:=st
  rcases List.mem_cons.mp hb with rfl|hb
  ·exact⟨_,he,fun v z=>by cases z⟩
  ·rw [List.mem_singleton.mp hb]
   exact⟨o,ho,fun v z=>by rw[hd] at z;cases z⟩
 keep:=fun i h h' st k=>by
  obtain⟨⟨old,he⟩,o,ho,r⟩:=st
  exact⟨⟨old,k e (by simp) _ he⟩,o,k it (by simp) _ ho,r⟩
 item:=by
  intro X hP hw hK hc i pins s σ H E I hf st hg
  subst hP hw hK
  obtain⟨xs,x,hq,hx⟩:=hg
  obtain⟨its,rv,p,hz⟩:=I.list hq
  obtain⟨u,hu,ru⟩:=rv.get hx
  obtain⟨⟨old,he⟩,hi⟩:=st
  obtain⟨o,ho,hcl,hd⟩:=id hi
  have hT:s.heap.IsList a its.toArray:=p.isList
  have hai:a≠it:=fun z=>by
   obtain⟨o',e1,e2,_⟩:=p.isList
   rw[z,ho] at e1;cases e1;rw[hcl] at e2;injection e2 with z2;revert z2;decide
  have hae:e≠a:=fun z=>by
   obtain⟨o',e1,e2,_⟩:=p.isList
   rw[<-z,he] at e1;cases e1;injection e2 with z2;revert z2;decide
  have hlt:i<its.toArray.size:=by
   have:=(List.getElem?_eq_some_iff.mp hu).1
   simpa using this
  have hh:X.A.in1.handled=none:=I.ok.hd hc
  refine wpAny_pyNext_enum_itemD (Draws.list hh it a hai its.toArray) he ⟨hi,hT⟩ hlt hne (by simp[hne,hae]) fun x' h1 tk hP1 ho1 hs1 hT1 hz1 hk1=> ?_
  have ex:x'=u:=by
   have q:its[i]? =some x':=by simpa using hP1
   rw[hu] at q;exact (Option.some.inj q).symm
  subst ex
  refine⟨_,rfl,wpAny_letOwnedTupleGo_enum ho1 fun h2 he2 hs2=> ?_⟩
  have hne0:s.heap.objs.size≠e:=Nat.ne_of_gt (Heap.lt_size he)
  have keep:∀b o,b∉[e,it]->s.heap.get? b=some o->h2.get? b=some o:=fun b o hb e0=>(hs2.2 b fun z=>hb (by simp[z])).trans (hk1 b o (fun z=>hb (by simp[z])) (fun z=>hb (by simp[z])) e0)
  refine⟨.ref s.heap.objs.size,_,I.turnedT (h':=h2) (t':=tk+1) (xs:=[.int i,x]) hf keep (.cons ⟨tk,rfl⟩ (.cons ru .nil)) ⟨_,(hs2.2 _ hne0).trans hT1,rfl,⟨_,rfl⟩,rfl,rfl⟩ (by show 2<=sizeLine;decide),rfl,⟨_,x,I.hok.fresh (Nat.le_refl _),rfl,rfl,fun ys hy=>by rw[I.list_inj hy hq];exact hx⟩,⟨⟨_,by simpa using he2⟩, ?_⟩,fun b hb=> ?_⟩
  ·obtain ⟨⟨o1,e1,r1⟩,_⟩:=hs1
   exact⟨o1,(hs2.2 it (Ne.symm hne)).trans e1,r1⟩
  ·rcases List.mem_cons.mp hb with rfl|hb'
   ·rw[zah (Nat.ne_of_lt (Heap.lt_size he))];exact (hf _ hb).1
   ·have e9:=List.mem_singleton.mp hb'
    subst e9
    rw[zah (Nat.ne_of_lt (Heap.lt_size ho))];exact (hf _ hb).1
 done:=by
  intro X hP hw hK hc i pins s σ H E I hf st hg
  subst hP hw hK
  obtain⟨xs,hq,hx⟩:=hg
  obtain⟨its,rv,p,hz⟩:=I.list hq
  obtain⟨⟨old,he⟩,hi⟩:=st
  obtain⟨o,ho,hcl,hd⟩:=id hi
  have hT:s.heap.IsList a its.toArray:=p.isList
  have hai:a≠it:=fun z=>by
   obtain⟨o',e1,e2,_⟩:=p.isList
   rw[z,ho] at e1;cases e1;rw[hcl] at e2;injection e2 with z2;revert z2;decide
  have hh:X.A.in1.handled=none:=I.ok.hd hc
  have hl:its.toArray.size=i:=by rw[List.size_toArray,<-rv.length,hx]
  refine wpAny_pyNext_enum_endD (Draws.list hh it a hai its.toArray) he (by rw[hl];exact⟨hi,hT⟩) fun h1 hk=>⟨rfl, ?_⟩
  exact I.turnedN (t':=s.toks) hf fun b o hb e0=>hk b o (fun z=>hb (by simp[z])) e0
 self:=fun _ _ _ _ _ st h=>by
  obtain⟨⟨old,he⟩,_⟩:=st
  exact wpAny_pyIter_enum he h
section
variable {X:Cx}
noncomputable def zje (K:PySem.W.Frag)(ta:TA):TI:=fun σ H R=>ta σ H fun vs H1=>∃a,vs=[.ref a]/\(∃xs,SqL K H1 a xs)/\R (Itel K a) H1
theorem zg6 {els:List Expr}{kx}{tp:Pos}{l:Expr}{ta:TA}{p pos:Pos}(hg:Gl X "enumerate")(hm:X.mg "enumerate" =none)(ha:PA X [l] ta)(hs:starEach [l] X.env=[(false,eval l X.env)]:=by rfl):
  PI X (.Tuple els kx tp) (.Call (.Name "enumerate" p) [l] [] pos) (zje X.K ta):=by
 intro pins s σ H R I h
 refine Call_ (zcf I hg hm boot_enumerate (PyProof.Rows.callWith_type1 (thn (ha pos pins s σ H _ I h) fun us s1 zq=> ?_) hs rfl))
 obtain⟨vs,H1,I1,r1,q1⟩:=zq
 obtain⟨a,rfl,⟨xs,hq⟩,q⟩:=q1
 obtain⟨u,rfl,ru⟩:=zb8 r1
 cases (show u=Value.ref a from ru)
 obtain⟨its,rv,p',hz⟩:=I1.list hq
 refine call_enumerate_list p'.isList fun h' he hi hsz hk=>wpAny_pyIter_enum he ?_
 have I2:Inv X pins σ H1 {s1 with heap:=h'}:=I1.kept (t':=s1.toks) hk
 refine⟨s1.heap.objs.size+1,[s1.heap.objs.size+1,s1.heap.objs.size],_,_,H1,rfl,I2,zfp a _ _ (Nat.ne_of_gt (Nat.lt_succ_self _)),⟨⟨_,he⟩,hi⟩,fun b hb=> ?_,q⟩
 rcases List.mem_cons.mp hb with rfl|hb
 ·exact I1.fpOk (Nat.le_succ _) (I1.hok.fresh (Nat.le_succ _))
 ·rw [List.mem_singleton.mp hb]
  exact I1.fpOk (Nat.le_refl _) (I1.hok.fresh (Nat.le_refl _))
noncomputable def rSlA:V->Option Int->Option Int->Hp->VK->Prop:=fun x lo hi H Q=>∃a xs,x=.ref a/\H a=some (.tup xs)/\∀p H',Same H H'->H' p=some (.tup (cutV xs lo hi))->Q (.ref p) H'
theorem zik:SlR X rSlA:=by
 intro pins s σ H x v vl vu lo hi sl Q I rx hs pl pu h
 obtain⟨a,xs,rfl,ha,q⟩:=h
 by_cases hw:HT.sIx xs.length 0 lo=0/\HT.sIx xs.length xs.length hi=xs.length
 ·cases rx
  obtain⟨its,r,ht,hz⟩:=I.tuple (SqT.of (K:=X.K) ha)
  have hl:its.toArray.size=xs.length:=by rw[List.size_toArray];exact r.length.symm
  refine⟨"tuple",_,PyProof.Rows.slot_tuple_getitem.lookup,ht.typeIs, ?_⟩
  refine zbg ht hs pl pu (by rw[hl];exact hw) ⟨.ref a,H,I,rfl,q a H (Same.refl H) ?_⟩
  unfold cutV
  rw[hw.1,hw.2,List.drop_zero,Nat.sub_zero,List.take_length]
  exact ha
 ·exact zhS pins s σ H _ v vl vu lo hi sl Q I rx hs pl pu ⟨a,xs,rfl,SqT.of ha,hw,fun p hp=>q p _ (zac hp) zab⟩
end
theorem zga {K:PySem.W.Frag}{a:Addr}{xs:List V}{g:TG}{tb:TS}{D:Ends}{σ:L2.St}{H:Hp}(Pv:Nat->L2.St->Hp->Prop)(h0:Pv 0 σ H)(hl:∀i σ H,i<=xs.length->Pv i σ H->SqL K H a xs)
  (hs:∀i x t σ H,xs[i]? =some x->Pv i σ H->H t=none->g (.ref t) σ (upd H t (.tup [.int i,x])) fun σ2 H2=>tb {D with nx:=Pv (i+1),ct:=Pv (i+1),bk:=D.nx} σ2 H2) (hd:∀σ H,Pv xs.length σ H->D.nx σ H):
  ∃W:Nat->Nat->L2.St->Hp->Prop,(∃m,W 0 m σ H)/\∀i m σ H,W i m σ H->
   ((Itel K a).stop i H/\D.nx σ H)∨((Itel K a).go i H/\∃N:L2.St->Hp->Prop,(∀σ' H',N σ' H'->∃m',m'<m/\W (i+1) m' σ' H')/\∀x H',(Itel K a).yld i H x H'->g x σ H' fun σ2 H2=>tb {D with nx:=N,ct:=N,bk:=D.nx} σ2 H2):=by
 refine⟨fun i m σ H=>m=xs.length-i/\i<=xs.length/\Pv i σ H,⟨xs.length,by simp,Nat.zero_le _,h0⟩, ?_⟩
 rintro i m σ H ⟨rfl,hi,p⟩
 have q:=hl i σ H hi p
 by_cases hlt:i<xs.length
 ·refine .inr ⟨⟨xs,xs[i],q,by simp[hlt]⟩,Pv (i+1),fun σ' H' p'=>⟨xs.length-(i+1),by (first|lia|omega),rfl,hlt,p'⟩,fun x H' y=> ?_⟩
  obtain⟨t,x',ht,rfl,rfl,y⟩:=y
  exact hs i x' t σ _ (y xs q) p ht
 ·have e:i=xs.length:=by (first|lia|omega)
  subst e
  exact .inl ⟨⟨xs,q,rfl⟩,hd σ H p⟩
section
variable {X:Cx}{elt tg iter tg2 iter2:Expr}{ifs ifs2:List Expr}{scope:Scope}{pos:Pos}{wi wi2:TI}{g g2:TG}{tt tt2:TT}{te:TE}{N':List Str}{n:Nat}{ix:List Nat}
theorem zgb {x:Str}{i:Nat}{pos' spos:Pos}(hsw:swapsWith (.ListComp elt [⟨tg,iter,ifs,0⟩,⟨tg2,iter2,ifs2,0⟩] scope pos) (some (.Name x pos')) spos.line X.env=pure true)(hN:X.N.Nodup)(hi':X.N[i]? =some x)(hx:X.env.scope.names.lookup x=some .local)
  (hc:X.calm=true) (S:CompScope X scope N' n ix) (hi:PI X tg iter wi)
  (hY:∀s₂ H₂ cl C fp,PG (X.comp s₂ H₂ N' scope cl C fp) tg g/\PTs (X.comp s₂ H₂ N' scope cl C fp) ifs tt/\PI (X.comp s₂ H₂ N' scope cl C fp) tg2 iter2 wi2/\PG (X.comp s₂ H₂ N' scope cl C fp) tg2 g2/\PTs (X.comp s₂ H₂ N' scope cl C fp) ifs2 tt2/\
   PE (X.comp s₂ H₂ N' scope cl C fp) elt te)
  (hs:∀x,foldedSetIterable iter X.env x=pure x:=by intro _;rfl) (hs2:∀env x,foldedSetIterable iter2 env x=pure x:=by intro _ _;rfl):
  PS X (.Assign [.Name x pos'] (.ListComp elt [⟨tg,iter,ifs,0⟩,⟨tg2,iter2,ifs2,0⟩] scope pos) spos) (tAsg (tLc2 wi g tt wi2 g2 tt2 te n ix) (zaT i)):=by
 intro pins s σ H D I h
 obtain⟨cl,hcl,hcl1,hcl2⟩:=zbK (env:=X.env) (scope:=scope) fun y hy hf=>I.ok.has _ (S.free y hy hf)
 rw[exec_Assign_Name_used _ _ _ _ hsw]
 refine wpAny_bind (wpAny_standAt (wpAny_bind ?_))
 show wpAny _ _ (do let _<-comprehension (.ListComp elt [⟨tg,iter,ifs,0⟩,⟨tg2,iter2,ifs2,0⟩] scope pos) scope X.env _ (newList []) false (eval iter X.env) (some (assign (.Name x pos') X.env))) _ _ s
 refine wpAny_bind (thn (wpAny_comprehension_free (use:=some (assign (.Name x pos') X.env)) (Q:=fun _ s'=>SP X pins D .next s') rfl hs hcl S.kind S.names (thn (hi pins s σ H _ I h) fun v s1 h1=>thn h1 fun itv s2 h2=> ?_)) fun _ s' hq=>wpAny_pure (wpAny_pure hq))
 obtain⟨it,fp,tn,J,H2,rfl,I2,T,st2,f2,hW⟩:=h2
 refine zg5 (Q:=fun x H1=>zaT i x σ H1 D.nx) (R:=fun acc C=>compPost (model X.prog X.w) X.A X.xe (some (assign (.Name x pos') X.env)) (fun _ s'=>SP X pins D .next s') acc C) hc S hY hs2 I2 hcl1 hcl2 T st2 f2 hW ?_
 intro acc C s' H' m hn IX hf hL h1 h2 h3 h4 q
 show wpAny _ _ (assign (.Name x pos') X.env (.ref acc)) _ _ _
 obtain⟨oC,esC,epC,hoC,hdC,rC⟩:=id hn
 have IP:Inv X (pins++[(C,oC)]) σ H' s':=IX.pins_of fun p hp=>by
  rcases List.mem_append.mp hp with z|z
  ·exact IX.pin p (List.mem_append_right _ z)
  ·have e:p=(C,oC):=by simpa using z
   subst e
   exact⟨hoC,hf,hL,h4,fun v z=>by rw[hdC] at z;cases z⟩
 refine thn (zak hN hi' (.inl hx) (.inr hx) _ s' σ H' (.ref acc) (.ref acc) D.nx IP rfl q) fun _ s'' zq=> ?_
 obtain⟨σ',H'',I'',q''⟩:=zq
 obtain⟨e1,e2,_⟩:=I''.pin (C,oC) (List.mem_append_right _ (List.mem_append_right _ (by simp)))
 refine⟨m,⟨oC,esC,epC,e1,hdC,rC⟩,fun h' sb=>⟨σ',H'', ?_,q''⟩⟩
 exact I''.unpinned.turned (t':=s''.toks) (fun b o hb e=>sb.extBut b o hb e) e2 hL h1 h2 h3
end
noncomputable def zb1 (m:Nat)(b:List Int):List Int:=(num0 m).filter fun x=>decide (x∉b)
noncomputable def zdh (m:Nat)(L:List (List Int)):List (List Int):=L.flatMap fun b=>(zb1 m b).map fun x=>b++[x]
noncomputable def zfq (m:Nat)(L:List (List Int)):Nat->List (List Int)
 |0=>L
 |k+1=>zdh m (zfq m L k)
theorem zfr (m:Nat)(b:List Int):(zb1 m b).Nodup:=List.Nodup.sublist List.filter_sublist (zcO m)
theorem zgc (m:Nat)(b:List Int)(x:Int):zb1 m (b++[x])=(zb1 m b).filter fun y=>decide (y≠x):=by
 unfold zb1
 rw[List.filter_filter]
 apply List.filter_congr
 intro y _
 simp[List.mem_append]
 exact Bool.and_comm _ _
theorem zdi {A B:List Int}{x:Int}(nd:(A++x::B).Nodup):(A++x::B).filter (fun y=>decide (y≠x))=A++B:=by
 obtain⟨n1,n2,n3⟩:=List.nodup_append.mp nd
 have hx1:∀y∈A,y≠x:=fun y hy=>n3 y hy x (by simp)
 have hx2:∀y∈B,y≠x:=fun y hy z=>(List.nodup_cons.mp n2).1 (z▸hy)
 rw[List.filter_append,List.filter_cons]
 simp only[ne_eq,not_true_eq_false,decide_false,Bool.false_eq_true,if_false]
 rw[List.filter_eq_self.mpr fun y hy=>by simpa using hx1 y hy,List.filter_eq_self.mpr fun y hy=>by simpa using hx2 y hy]
theorem zdW {L:List Int}(nd:L.Nodup){k:Nat}(hk:k<L.length):L.filter (fun y=>decide (y≠L[k]))=L.take k++L.drop (k+1):=by
 have e:L.take k++L[k]::L.drop (k+1)=L:=by rw[<-List.drop_eq_getElem_cons hk,List.take_append_drop]
 have:=zdi (A:=L.take k) (B:=L.drop (k+1)) (x:=L[k]) (by rw[e];exact nd)
 rwa [e] at this
noncomputable def allA (m:Nat):List (List Int):=zfq m [[]] m
theorem zg7 (m:Nat):zb1 m []=num0 m:=by
 unfold zb1
 exact List.filter_eq_self.mpr fun y _=>by simp
structure Beg (m k:Nat) (b:List Int):Prop where
 len:b.length=k
 nd:b.Nodup
 rng:∀y∈b,0<=y/\y<m
 free:(zb1 m b).length+k=m
theorem beg0 (m:Nat):Beg m 0 []:=⟨rfl,by simp,by simp,by rw[zg7,zdT];(first|lia|omega)⟩
theorem Beg.more {m k:Nat}{b:List Int}(B:Beg m k b){x:Int}(hx:x∈zb1 m b):Beg m (k+1) (b++[x]):=by
 have hx':=List.mem_filter.mp hx
 have hxb:x∉b:=by simpa using hx'.2
 have hxr:=zdf hx'.1
 refine⟨by rw[List.length_append,B.len];rfl,List.nodup_append.mpr ⟨B.nd,by simp,fun a ha c hc e=> ?_⟩,fun y hy=> ?_, ?_⟩
 ·rw [List.mem_singleton] at hc
  subst hc e
  exact hxb ha
 ·rcases List.mem_append.mp hy with hy|hy
  ·exact B.rng y hy
  ·rw[List.mem_singleton.mp hy];exact hxr
 ·obtain ⟨i,hi⟩:=List.getElem?_of_mem hx
  obtain⟨hi1,hi2⟩:=List.getElem?_eq_some_iff.mp hi
  have:=zdW (zfr m b) hi1
  rw[zgc,<-hi2,this,List.length_append,List.length_take,List.length_drop]
  have:=B.free
  (first|lia|omega)
noncomputable def facD (m:Nat):Nat->Nat
 |0=>1
 |k+1=>facD m k*(m-k)
theorem zcw (m:Nat):∀k,(∀b∈zfq m [[]] k,Beg m k b)/\(zfq m [[]] k).length=facD m k
 |0=>⟨fun b hb=>by rw[List.mem_singleton.mp hb];exact beg0 m,rfl⟩
 | k +1=>by
  obtain⟨h1,h2⟩:=zcw m k
  refine⟨fun b hb=> ?_, ?_⟩
  ·obtain ⟨c,hc,hb⟩:=List.mem_flatMap.mp hb
   obtain⟨x,hx,rfl⟩:=List.mem_map.mp hb
   exact (h1 c hc).more hx
  ·show (zdh m (zfq m [[]] k)).length=facD m k*(m-k)
   have key:∀L:List (List Int),(∀b∈L,Beg m k b)->(zdh m L).length=L.length*(m-k):=fun L=>by
    induction L with
    |nil=>intro _;simp[zdh]
    |cons b t ih=>
     intro h
     have hb:=(h b (by simp)).free
     have:=ih fun c hc=>h c (by simp[hc])
     have e:zdh m (b::t)=((zb1 m b).map fun x=>b++[x])++zdh m t:=by simp[zdh]
     rw[e,List.length_append,List.length_map,this,List.length_cons,Nat.succ_mul]
     (first|lia|omega)
   rw[key _ h1,h2]
theorem zgd:∀m<7,∀k<8,facD m k<=720:=by decide
theorem Beg.ord {m:Nat}{b:List Int}(B:Beg m m b):Ord m b:=by
 refine zfo B.nd (zcO m) fun y=>⟨fun hy=>mem_num0.mpr (B.rng y hy),fun hy=> ?_⟩
 by_cases h:y∈b
 ·exact h
 ·have:=zeW (l:=y::b) (L:=num0 m) (List.nodup_cons.mpr ⟨h,B.nd⟩) fun z hz=>by
   rcases List.mem_cons.mp hz with rfl|hz
   ·exact hy
   ·exact mem_num0.mpr (B.rng z hz)
  rw[zdT,List.length_cons,B.len] at this
  (first|lia|omega)
theorem zeY (n:Int):∀S:List Int,inV (.int n) (S.map V.int)=decide (n∈S)
 |[]=>by simp[inV]
 | a::t=>by
  have ih:=zeY n t
  have e:inV (.int n) ((a::t).map V.int)=((a==n)||inV (.int n) (t.map V.int)):=rfl
  rw[e,ih]
  by_cases h:a=n
  ·subst h
   simp
  ·have h':¬n=a:=fun z=>h z.symm
   rw[beq_eq_false_iff_ne.mpr h,Bool.false_or,decide_eq_decide]
   rw[List.mem_cons]
   exact⟨.inr,fun z=>z.resolve_left h'⟩
theorem RowsAt.get {H:Hp}:∀{zs:List Addr} {rows:List (List Int)},RowsAt H zs rows->∀{i:Nat} {z:Addr},zs[i]? =some z->∃r,rows[i]? =some r/\H z=some (.tup (r.map V.int))
 |_,_,.nil,_,_,h=>by simp at h
 |_,_,.cons r _,0,_,h=>by simp at h;subst h;exact⟨_,rfl,r⟩
 |_,_,.cons _ t,i+1,_,h=>RowsAt.get t (i:=i) (by simpa using h)
section
variable {X:Cx}
noncomputable def zj1:List V->Hp->VK->Prop:=fun xs H Q=>∃(l:Addr) (ns:List Int),xs=[.ref l]/\H l=some (.lst (ns.map V.int))/\ns≠[]/\∀M,M∈ns->(∀a∈ns,a<=M)->Q (.int M) H
theorem zep {xs:Array (Int×Tok)}{ns:List Int}(hnum:xs.toList.map (·.1)=ns)(hsz:0<xs.size):
  numAt xs (argBest (fun i j=>decide (numAt xs i>numAt xs j)) (xs.size-1))∈ns/\∀a∈ns,a<=numAt xs (argBest (fun i j=>decide (numAt xs i>numAt xs j)) (xs.size-1)):=by
 obtain⟨h1,h2⟩:=argBest_gt (numAt xs) (xs.size-1)
 subst hnum
 refine⟨?_,fun a ha=> ?_⟩
 ·rw[numAt_eq];exact getD_mem (by rw[List.length_map,Array.length_toList];(first|lia|omega))
 ·obtain ⟨j,hj,rfl⟩:=mem_getD ha
  rw[List.length_map,Array.length_toList] at hj
  rw[<-numAt_eq];exact h2 j (by (first|lia|omega))
theorem zdX (hc:X.calm=true):zbA X (.builtin "max") zj1:=by
 intro pins s σ H xs us Q I rs h
 obtain⟨l,ns,rfl,hH,hne,q⟩:=h
 obtain⟨u,rfl,ru⟩:=zb8 rs
 cases (show u=Value.ref l from ru)
 obtain⟨z,its,n,r,hl,e⟩:=I.lstM hH
 have hI:=zb9 r
 obtain⟨xs,hxs⟩:=hI.allInts.items
 have hnum:xs.toList.map (·.1)=ns:=by rw[<-nums_intItems,<-hxs];exact hI.numsOf
 have hsz:0<xs.size:=by
  have:ns.length=xs.size:=by rw[<-hnum,List.length_map,Array.length_toList]
  have:=List.length_pos_iff.mpr hne
  (first|lia|omega)
 obtain⟨b1,b2⟩:=zep hnum hsz
 refine max_intList (xs:=xs) (I.ok.hd hc) (by rw[<-hxs];exact⟨_,e,rfl,n,rfl⟩) hsz fun v h' tk hv hk=> ?_
 obtain⟨t,rfl⟩:=intItems_at hv
 exact⟨.int _,H,I.kept (t':=tk) hk,⟨_,rfl⟩,q _ b1 b2⟩
end
noncomputable def enF (p:Nat->V->Bool)(f:Nat->V->V):Nat->List V->List V
 |_,[]=>[]
 |i,x::t=>(if p i x then [f i x] else [])++enF p f (i+1) t
theorem zc2 (p:Nat->V->Bool)(f:Nat->V->V):∀(i:Nat) (a b:List V),enF p f i (a++b)=enF p f i a++enF p f (i+a.length) b
 |_,[],_=>by simp[enF]
 |i,x::t,b=>by
  show (if p i x then [f i x] else [])++enF p f (i+1) (t++b)=_
  rw[zc2 p f (i+1) t b]
  simp only[enF,List.append_assoc,List.length_cons]
  rw[show i+1+t.length=i+(t.length+1) by (first|lia|omega)]
theorem zge (p:Nat->V->Bool)(f:Nat->V->V):∀(i:Nat) (a:List V),(enF p f i a).length<=a.length
 |_,[]=>Nat.le_refl _
 |i,x::t=>by
  have:=zge p f (i+1) t
  simp only[enF,List.length_append,List.length_cons]
  split<;>simp<;>(first|lia|omega)
theorem zil {K:PySem.W.Frag}{a:Addr}{xs:List V}{tt:TT}{te:TE}{ix:List Nat}{σ:L2.St}{H1:Hp}{Q:VK}(Fx:∀{H},Same H1 H->SqT K H a xs)(small:xs.length<=1000)(p:Nat->V->Bool)(f:Nat->V->V)
  (ht:∀(i:Nat) x,xs[i]? =some x->∀H,Same H1 H->∀Q':Bool->Hp->Prop,Q' (p i x) H->tt (some (.int i)::some x::ix.map fun i=>σ.getD i none) H Q')
  (he:∀(i:Nat) x,xs[i]? =some x->p i x=true->∀H,Same H1 H->∀Q':VK,Q' (f i x) H->te (some (.int i)::some x::ix.map fun i=>σ.getD i none) H Q')
  (fin:∀acc H',H1 acc=none->Same H1 H'->H' acc=some (.lst (enF p f 0 xs))->Q (.ref acc) H'):
  LcW (Ite K a) H1 (gTup K 2 (zbo (zaT 0) (zbo (zaT 1) gNil))) tt te 2 ix σ Q:=by
 intro acc ha
 refine⟨fun i m H=>m=xs.length-i/\i<=xs.length/\Same H1 H/\H acc=some (.lst (enF p f 0 (xs.take i))),⟨xs.length,by simp,Nat.zero_le _,zac ha,zab⟩, ?_⟩
 rintro i m H ⟨rfl,hi,sm,hacc⟩
 by_cases hlt:i<xs.length
 ·refine .inr ⟨⟨xs,xs[i],Fx sm,List.getElem?_eq_getElem hlt⟩,fun v H' y=> ?_⟩
  obtain⟨t,x,hn,rfl,rfl,hv⟩:=y
  have e1:=hv xs (Fx sm)
  have htk:enF p f 0 (xs.take (i+1))=enF p f 0 (xs.take i)++(if p i x then [f i x] else []):=by
   have hl:(xs.take i).length=i:=by rw[List.length_take];(first|lia|omega)
   rw[List.take_succ,e1,zc2,hl]
   simp[enF]
  refine⟨t,_,rfl,SqT.of zab,rfl,_,_,rfl,x,_,rfl,rfl,⟨rfl,fun j v e=> ?_⟩, ?_⟩
  ·match j,e with
   |0,e=>cases e
   |1,e=>cases e
   |j+2,e=>exact e
  ·have sm2:=sm.trans (zac (o:=.tup [.int i,x]) hn)
   have hacc2:(upd H t (.tup [.int i,x])) acc=some (.lst (enF p f 0 (xs.take i))):=zac hn _ _ hacc
   refine ht i x e1 _ sm2 _ ?_
   cases hp:p i x with
   |false=>
    rw[if_neg Bool.false_ne_true]
    refine⟨xs.length-(i+1),by (first|lia|omega),rfl,hlt,sm2, ?_⟩
    rw[htk,hp,if_neg Bool.false_ne_true,List.append_nil]
    exact hacc2
   |true=>
    rw[if_pos rfl]
    refine he i x e1 hp _ sm2 _ ⟨_,hacc2,za5 (Nat.le_trans (zge _ _ _ _) (by rw[List.length_take];(first|lia|omega))),xs.length-(i+1),by (first|lia|omega),rfl,hlt,zav sm2 ha, ?_⟩
    rw[zab,htk,hp,if_pos rfl]
 ·have e:i=xs.length:=by (first|lia|omega)
  subst e
  rw[List.take_length] at hacc
  exact .inl ⟨⟨xs,Fx sm,rfl⟩,fin acc H ha sm hacc⟩
structure Heaps (ns:List Int) (L:List Int) (es:List Int):Prop where
 inc:L.Pairwise (·<·)
 len:es.length=ns.length
 up:∀(j:Nat) a,L[j]? =some a->∃k:Nat,ns[k]? =some a/\es[k]? =some ((j:Int)+1)
 dn:∀(k:Nat) e,es[k]? =some e->∃(j:Nat) (a b:Int),e=(j:Int)+1/\L[j]? =some a/\ns[k]? =some b/\a<=b
noncomputable def Cx.compZ (X:Cx)(s₂:Shared)(H₂:Hp)(N':List Str)(scope:Scope)(cl:List (Str×Addr))(C:Addr)(fp:List Addr)(z:Str)(Z:Addr):Cx:=
 {X with N:=N',s₀:=s₂,H₀:=H₂,env:=compEnvC scope ((z,Z)::cl) C X.env,outer:=X.stack,stack:=X.stack,ex:=fp,fn:=fun x=>x==z,pn:=[],xe:=fun _ _=>False}
structure CompScopeZ (X:Cx) (scope:Scope) (N':List Str) (n:Nat) (ix:List Nat) (z:Str):Prop where
 kind:scope.kind=.function
 onecell:∀y∈scope.names,y.2=.cell->y.1=z
 nz:∀y:Str,(y,NameKind.free)∈scope.names->y≠z
 cf:∀(a:Addr) (cl:List (Str×Addr)),cellsFrom a scope.names cl=(z,a)::cl
 pc:∀h:Heap,pushCells h scope.names=h.push {cls:=.type "cell",data:=.cell none}
 names:∀y∈scope.names,y.2=.local->scope.names.lookup y.1=some .local
 free:∀y∈scope.names,y.2=.free->X.env.scope.names.lookup y.1=some .cell∨X.env.scope.names.lookup y.1=some .free
 nodup:∀y:Str,(y,NameKind.free)∈scope.names->scope.names.lookup y=some .local->False
 len:N'.length=n+ix.length
 at_:∀(j i:Nat),ix[j]? =some i->∃x,N'[n+j]? =some x/\X.N[i]? =some x/\(x,NameKind.free)∈scope.names
theorem zim {M:Model}{A:Around}{E:Value->Shared->Prop}{s:Shared}{z:Str}{scope:Scope}{globals:Addr}{cl:List (Str×Addr)}{qual:Str}{env:Env}{Q:Env->Shared->Prop}(hcf:∀a,cellsFrom a scope.names cl=(z,a)::cl)
  (hpc:∀h:Heap,pushCells h scope.names=h.push {cls:=.type "cell",data:=.cell none})
  (hQ:∀env':Env,env'={scope,locals:=s.heap.objs.size,globals,cells:=(z,s.heap.objs.size+1)::cl,qual,func:=none,code:=env.code,frame:=env.frame,builtins:=env.builtins}->
   Q env' {s with heap:=(s.heap.push {cls:=.type "dict",data:=.dict #[]}).push {cls:=.type "cell",data:=.cell none}}):
  wpAny M A (newFunctionEnv scope globals cl [] qual none .none (some env)) Q E s:=by
 simp only[newFunctionEnv,Option.isSome_some,if_true]
 refine wpAny_bind (wpAny_alloc ?_)
 refine wpAny_bind (wpAny_layCells _ (fun name kind cells=>by cases hkc:kind==NameKind.cell<;>simp[hkc]) _ _ _ _ ?_)
 rw[hcf,hpc]
 simp only[List.forIn_nil]
 have hz:(s.heap.push {cls:=.type "dict",data:=.dict #[]}).objs.size=s.heap.objs.size+1:=Heap.size_push ..
 refine wpAny_bind (wpAny_pure (wpAny_pure ?_))
 exact hQ _ (by simp only[hz])
section
variable {X:Cx}{pins:List (Addr×Obj)}{σ:St}{H:Hp}{s:Shared}
theorem zeq {env:Env}{scope:Scope}{x z:Str}(hn:∀y∈scope.names,y.2=.cell->y.1=z)(hxz:x≠z)(h:(relabel scope env).names.lookup x=some .cell∨(relabel scope env).names.lookup x=some .free):scope.names.lookup x=some .free:=by
 rw[zaC] at h
 cases e:scope.names.lookup x with
 |none=>rw[e] at h;rcases h with h|h<;>cases h
 | some k=>
  rw[e] at h
  have hk:k≠.cell:=fun q=>hxz (hn _ (PySem.mem_of_lookup e) q)
  by_cases hf:k=.free
  ·rw[hf]
  ·have hb:(k==NameKind.free)=false:=by simpa using hf
   have hr:Option.map (fun k=>if (k==NameKind.free&&env.scope.kind==.function&&env.kindOf x==some .cell)=true then NameKind.cell else k) (some k)=some k:=by
    show some (ite _ _ _)=_
    rw[if_neg (by rw[hb];simp)]
   rw[hr] at h
   rcases h with h|h
   ·cases h;exact absurd rfl hk
   ·exact h
theorem zgf {z:Str}{Z:Addr}{scope:Scope}{N':List Str}{n:Nat}{ix:List Nat}{cl:List (Str×Addr)}{fp:List Addr}{h₁:Heap}{acc C:Addr}{na:Nat}{m:Str->Option Value}{tk:Nat}
  (I:Inv X pins σ H s) (S:CompScopeZ X scope N' n ix z) (hcl1:∀x c,cl.lookup x=some c->X.env.cells.lookup x=some c) (hcl2:∀y∈scope.names,y.2=.free->cl.lookup y.1=X.env.cells.lookup y.1)
  (hf:∀b∈fp,FpOk X pins H b) (hlt:∀b∈fp,b<s.heap.objs.size) (ha:s.heap.objs.size<=acc) (hC:s.heap.objs.size<=C) (hne:C≠acc) (hZ:s.heap.objs.size<=Z) (hZC:Z≠C) (hZa:Z≠acc) (hZc:h₁.IsCell Z none)
  (k:∀b u,s.heap.get? b=some u->h₁.get? b=some u) (hacc:h₁.get? acc=some {cls:=.type "list",data:=.seq ([]:List Value).toArray na}) (hns:h₁.Ns C m):
  Inv (X.compZ s H N' scope cl C fp z Z) [] (zaW n ix σ) (upd H acc (.lst [])) {s with heap:=h₁,toks:=tk}:=by
 have fr:∀b:Addr,s.heap.objs.size<=b->H b=none:=fun b hb=>I.hok.fresh hb
 have cellLt:∀x c,cl.lookup x=some c->c<s.heap.objs.size:=fun x c e=>by
  obtain⟨v,q⟩:=I.cell x c (hcl1 x c e)
  exact q.lt
 have look:∀x c,List.lookup x ((z,Z)::cl)=some c->(x=z/\c=Z)∨(x≠z/\cl.lookup x=some c):=fun x c e=>by
  rw[List.lookup_cons] at e
  cases hb:x==z with
  |true=>
   rw[hb] at e
   exact .inl ⟨eq_of_beq hb,(Option.some.inj e).symm⟩
  |false=>
   rw[hb] at e
   exact .inr ⟨fun q=>by (rw[q,beq_self_eq_true] at hb;cases hb),e⟩
 have look2:∀x,x≠z->List.lookup x ((z,Z)::cl)=cl.lookup x:=fun x hx=>by
  rw[List.lookup_cons]
  have hb:(x==z)=false:=beq_eq_false_iff_ne.mpr hx
  rw[hb]
 have nZ:∀x c,cl.lookup x=some c->c≠Z:=fun x c e q=>absurd (cellLt x c e) (by rw[q];exact Nat.not_lt.mpr hZ)
 refine⟨⟨I.ok.mod,S.kind,I.ok.glob,I.ok.blt,hC,fun x y c e1 e2=> ?inj,fun x hx=> ?has,fun x c e e'=> ?cab,I.ok.hd,I.ok.frames,.inl rfl,fun b hb=>⟨Nat.ne_of_lt (Nat.lt_of_lt_of_le (hlt b hb) hC),fun x c e=> ?exf⟩,
   I.bs,Nat.le_trans I.ok.bsz I.sz,fun b o e hb=> ?noex,fun b hb hs=> ?exfs,I.stack,I.stkFree⟩,
  rfl,I.bare,Un.laid k ha (fr acc ha),⟨m,hns,fun i x v e1 e2 e3=> ?loc⟩,fun x c e=> ?cell, ?free,fun x c e=> ?freeC,fun p hp=>absurd (show p∈([]:List (Addr×Obj)) from hp) (by simp),I.hok.laid k ha ⟨Nat.zero_le _,[],na,.nil,hacc⟩, ?len⟩
 case inj=>
  rcases look x c e1 with⟨h1,h2⟩|⟨h1,h2⟩<;>rcases look y c e2 with⟨h3,h4⟩|⟨h3,h4⟩
  ·rw[h1,h3]
  ·exact absurd h2 (nZ y c h4)
  ·exact absurd h4 (nZ x c h2)
  ·exact I.ok.inj x y c (hcl1 x c h2) (hcl1 y c h4)
 case has=>
  by_cases hxz:x=z
  ·exact⟨Z,by show List.lookup x ((z,Z)::cl)=_;rw[hxz,List.lookup_cons,beq_self_eq_true]⟩
  ·have hx':scope.names.lookup x=some .free:=zeq (env:=X.env) S.onecell hxz hx
   have hm:=PySem.mem_of_lookup hx'
   obtain⟨c,e⟩:=I.ok.has x (S.free _ hm rfl)
   exact⟨c,by show List.lookup x ((z,Z)::cl)=_;rw[look2 x hxz];exact (hcl2 _ hm rfl).trans e⟩
 case cab=>
  rcases look x c e' with⟨_,h2⟩|⟨h1,_⟩
  ·rw[h2];exact hZ
  ·exact absurd (eq_of_beq (show (x==z)=true from e)) h1
 case exf=>
  rcases look x c e with⟨_,h2⟩|⟨_,h2⟩
  ·rw[h2];exact Nat.ne_of_gt (Nat.lt_of_lt_of_le (hlt b hb) hZ)
  ·exact (hf b hb).2.2.2.2.1 x c (hcl1 x c h2)
 case noex=>
  rcases (hf b hb).2.2.2.1 with z|z
  ·exact I.ok.noex b o e z
  ·exact absurd (Nat.lt_of_lt_of_le (Heap.lt_size e) (Nat.le_trans I.ok.bsz z)) (Nat.lt_irrefl _)
 case exfs=>
  rcases List.mem_cons.mp (I.stkSub b hs) with z|z
  ·exact (hf b hb).2.1 z
  ·exact (hf b hb).2.2.1 z
 case loc=>
  have hi:n<=i:=by
   by_cases hi:n<=i
   ·exact hi
   ·unfold zaW at e2
    rw[List.getElem?_append_left (by simp;(first|lia|omega)),List.getElem?_replicate] at e2
    split at e2<;>cases e2
  obtain⟨j,rfl⟩:∃j,i=n+j:=⟨i-n,by (first|lia|omega)⟩
  unfold zaW at e2
  rw[List.getElem?_append_right (by simp),List.length_replicate,Nat.add_sub_cancel_left,List.getElem?_map] at e2
  cases ej:ix[j]? with
  |none=>rw[ej] at e2;cases e2
  | some q=>
   rw[ej] at e2
   have e2':σ.getD q none=some v:=Option.some.inj e2
   have e2'':σ[q]? =some (some v):=by
    rw[List.getD_eq_getElem?_getD] at e2'
    cases eq:σ[q]? with
    |none=>rw[eq] at e2';cases e2'
    |some z=>rw[eq] at e2';exact congrArg some e2'
   obtain⟨y,h1,h2,h3⟩:=S.at_ j q ej
   have ey:y=x:=Option.some.inj (h1.symm.trans e1)
   subst ey
   have hk:=S.free _ h3 rfl
   obtain⟨mX,_,hl⟩:=I.loc
   obtain⟨u,r,l⟩:=hl q y v h2 e2'' (.inr hk)
   refine⟨u,r,.inr ?_⟩
   have hkc:X.env.kindOf y=some .cell∨X.env.kindOf y=some .free:=hk
   have l':∃c,X.env.cells.lookup y=some c/\s.heap.IsCell c (some u):=by
    rcases l with⟨z,_⟩|⟨_,c,ec,hc⟩
    ·rcases hkc with q|q<;>(rw[q] at z;cases z)
    ·exact⟨c,ec,hc⟩
   obtain⟨c,ec,o,ho,hd⟩:=l'
   have e3':Vis (relabel scope X.env) y:=e3
   have hyz:y≠z:=S.nz y h3
   refine⟨?_,c,by show List.lookup y ((z,Z)::cl)=_;rw[look2 y hyz];exact (hcl2 _ h3 rfl).trans ec,o,k _ _ ho,hd⟩
   have nl:scope.names.lookup y≠some .local:=fun z=> ?_
   ·cases el:scope.names.lookup y with
    |none=>
     have:(relabel scope X.env).names.lookup y=none:=by rw[zaC,el];rfl
     rcases e3' with z|z|z<;>(rw[this] at z;cases z)
    | some kk=>
     have hmem:=PySem.mem_of_lookup el
     have ncell:kk≠.cell:=fun q=>hyz (S.onecell _ hmem q)
     have hr:(relabel scope X.env).names.lookup y=some (if (kk==NameKind.free&&X.env.scope.kind==.function&&X.env.kindOf y==some .cell)=true then .cell else kk):=by rw[zaC,el];rfl
     by_cases hkf:kk=.free
     ·subst hkf
      exact zcg (env:=X.env) el
     ·have hb:(kk==NameKind.free)=false:=by simpa using hkf
      have hr':(relabel scope X.env).names.lookup y=some kk:=by rw[hr,hb];rfl
      rcases e3' with z|z|z
      ·rw[hr'] at z;cases z;exact absurd el nl
      ·rw[hr'] at z;cases z;exact absurd rfl ncell
      ·rw[hr'] at z;cases z;exact absurd rfl hkf
   ·exact S.nodup _ h3 z
 case cell=>
  rcases look x c e with⟨_,h2⟩|⟨_,h2⟩
  ·rw[h2];exact⟨none,hZc⟩
  ·obtain ⟨v,o,ho,hd⟩:=I.cell x c (hcl1 x c h2)
   exact⟨v,o,k _ _ ho,hd⟩
 case free=>
  show upd H acc (.lst []) C=none
  rw[zah hne];exact fr C hC
 case freeC=>
  show upd H acc (.lst []) c=none
  rcases look x c e with⟨_,h2⟩|⟨_,h2⟩
  ·rw[h2,zah hZa];exact fr Z hZ
  ·have:=cellLt x c h2
   rw[zah (Nat.ne_of_lt (Nat.lt_of_lt_of_le this ha))]
   exact I.freeC x c (hcl1 x c h2)
 case len=>
  show (zaW n ix σ).length=N'.length
  unfold zaW
  rw[List.length_append,List.length_replicate,List.length_map,S.len]
end
section
variable {X:Cx}{elt tg iter:Expr}{ifs:List Expr}{scope:Scope}{pos:Pos}{wi:TI}{g:TG}{tt:TT}{te:TE}{N':List Str}{n:Nat}{ix:List Nat}
theorem zg8 {z:Str}{pins:List (Addr×Obj)}{σ:St}{H2:Hp}{s2:Shared}{cl:List (Str×Addr)}{it:Addr}{fp:List Addr}{tn:Nat->Heap->Prop}{J:It}{Q:VK}{R:Value->Addr->Result->Shared->Prop}
  (hc:X.calm=true) (S:CompScopeZ X scope N' n ix z)
  (hY:∀s₂ H₂ cl C fp Z,PG (X.compZ s₂ H₂ N' scope cl C fp z Z) tg g/\PTs (X.compZ s₂ H₂ N' scope cl C fp z Z) ifs tt/\PE (X.compZ s₂ H₂ N' scope cl C fp z Z) elt te)
  (I2:Inv X pins σ H2 s2) (hcl1:∀x c,cl.lookup x=some c->X.env.cells.lookup x=some c) (hcl2:∀y∈scope.names,y.2=.free->cl.lookup y.1=X.env.cells.lookup y.1)
  (T:Turn X.prog X.w X.K tg J fp it tn) (st2:tn 0 s2.heap) (f2:∀b∈fp,FpOk X pins H2 b)
  (hW:LcW J H2 g tt te n ix σ Q)
  (hR:∀acc C s' H' m,s'.heap.Ns C m->Inv X pins σ H' s'->H' C=none->C≠X.env.locals->(C∈X.ex∨X.s₀.heap.objs.size<=C)->(∀x c,X.env.cells.lookup x=some c->c≠C)->(∀p∈X.pn++pins,p.1≠C)->C∉X.fs->Q (.ref acc) H'->R (.ref acc) C (.ok .next) s'):
  wpAny (model X.prog X.w) X.A (newList []) (fun acc s₃=>wpAny (model X.prog X.w) X.A (newFunctionEnv scope X.env.globals cl [] X.env.qual none .none (some X.env)) (fun cenv s₄=>
   codeAny (model X.prog X.w) X.A (.compStart (.ListComp elt [⟨tg,iter,ifs,0⟩] scope pos) 0 (.ref it) acc {cenv with scope:=relabel scope X.env}) (R acc cenv.locals) s₄) X.xe s₃) X.xe s2:=by
 refine wpAny_newObj_type (zim (z:=z) (fun a=>S.cf a cl) S.pc fun env' he'=> ?_)
 subst he'
 dsimp only
 generalize hH2:s2.heap.push {cls:=.type "list",dict:=none,data:=.seq ([]:List Value).toArray}=G
 have hC:G.objs.size=s2.heap.objs.size+1:=by rw[<-hH2,Heap.size_push]
 generalize hh1:(G.push {cls:=.type "dict",data:=.dict #[]}).push {cls:=.type "cell",data:=.cell none}=h₁
 have hkp:∀b o,G.get? b=some o->h₁.get? b=some o:=fun b o e=>hh1▸Heap.get?_push_of_some _ (Heap.get?_push_of_some _ e)
 have hns₁:h₁.Ns G.objs.size fun _=>none:=hh1▸(Heap.Ns.new G (.type "dict")).keeps fun b o e=>Heap.get?_push_of_some _ e
 have hZc:h₁.IsCell (G.objs.size+1) none:=by
  rw[<-hh1]
  refine⟨{cls:=.type "cell",data:=.cell none}, ?_,rfl⟩
  have:=Heap.get?_push_size (G.push {cls:=.type "dict",data:=.dict #[]}) (o:={cls:=.type "cell",data:=.cell none}) rfl
  rwa [Heap.size_push] at this
 have hlt:∀b∈fp,b<s2.heap.objs.size:=fun b hb=>by
  obtain⟨o,e,_⟩:=T.obj _ _ st2 b hb
  exact Heap.lt_size e
 have old:∀b o,s2.heap.get? b=some o->h₁.get? b=some o:=fun b o e=>hkp b o (hH2▸Heap.get?_push_of_some _ e)
 have hacc:h₁.get? s2.heap.objs.size=some {cls:=.type "list",dict:=none,data:=.seq ([]:List Value).toArray}:=hkp _ _ (hH2▸Heap.get?_push_size _ rfl)
 obtain⟨W,⟨m0,w0⟩,turn⟩:=hW s2.heap.objs.size (I2.hok.fresh (Nat.le_refl _))
 obtain⟨hYg,hYt,hYe⟩:=hY s2 H2 cl G.objs.size fp (G.objs.size+1)
 have fpY:∀{H':Hp},(∀b∈fp,H' b=none)->∀b∈fp,FpOk (X.compZ s2 H2 N' scope cl G.objs.size fp z (G.objs.size+1)) [] H' b:=fun {H'} hn b hb=>by
  obtain⟨_,q1,q2,q3,q4,q5⟩:=f2 b hb
  refine⟨hn b hb, ?_,fun z=> ?_,.inl hb,fun x c e=> ?_,fun p hp=>absurd (show p∈([]:List (Addr×Obj)) from hp) (by simp)⟩
  ·show b≠G.objs.size
   rw[hC]
   exact Nat.ne_of_lt (Nat.lt_succ_of_lt (hlt b hb))
  ·rcases List.mem_cons.mp (I2.stkSub b z) with y|y
   ·exact q1 y
   ·exact q2 y
  ·have e':List.lookup x ((z,G.objs.size+1)::cl)=some c:=e
   rw[List.lookup_cons] at e'
   cases hb':x==z with
   |true=>
    rw[hb'] at e'
    have e2:G.objs.size+1=c:=Option.some.inj e'
    rw[<-e2,hC]
    have:=hlt b hb
    exact Nat.ne_of_gt (Nat.lt_of_lt_of_le this (Nat.le_trans (Nat.le_succ _) (Nat.le_succ _)))
   |false=>
    rw[hb'] at e'
    exact q4 x c (hcl1 x c e')
 have loop:∀s₃:Shared,s₃={s2 with heap:=h₁}->
   codeAny (model X.prog X.w) X.A (.compLoop (.ListComp elt [⟨tg,iter,ifs,0⟩] scope pos) 0 (.ref it) (.ref s2.heap.objs.size) (compEnvC scope ((z,G.objs.size+1)::cl) G.objs.size X.env)) (R (.ref s2.heap.objs.size) G.objs.size) s₃:=by
  rintro s₃ rfl
  have I4:=zgf (Z:=G.objs.size+1) (tk:=s2.toks) I2 S hcl1 hcl2 f2 hlt (Nat.le_refl _) (by rw[hC];exact Nat.le_succ _) (by rw[hC];exact Nat.ne_of_gt (Nat.lt_succ_self _)) (by rw[hC];exact Nat.le_trans (Nat.le_succ _) (Nat.le_succ _)) (Nat.ne_of_gt (Nat.lt_succ_self _)) (by rw[hC];exact Nat.ne_of_gt (Nat.lt_succ_of_lt (Nat.lt_succ_self _))) hZc old hacc hns₁
  refine zch (fun n' s'=>∃i H',Inv (X.compZ s2 H2 N' scope cl G.objs.size fp z (G.objs.size+1)) [] (zaW n ix σ) H' s'/\tn i s'.heap/\(∀b∈fp,H' b=none)/\W i n' H') ?_ m0
   ⟨0,_,I4,T.keep _ _ _ st2 fun b hb o e=>old b o e,fun b hb=> ?_,w0⟩
  ·rintro n' s3 ⟨i,H3,I3,st3,fr3,w3⟩
   rcases turn i n' H3 w3 with⟨stop,q⟩|⟨go,step⟩
   ·refine thn (T.done (X.compZ s2 H2 N' scope cl G.objs.size fp z (G.objs.size+1)) rfl rfl rfl hc i [] s3 _ H3 _ I3 (fpY fr3) st3 stop) fun r s4 zq=> ?_
    obtain⟨hr,I5⟩:=zq
    subst hr
    obtain⟨mC,hnC,_⟩:=I5.loc
    have IX:Inv X pins σ H3 s4:=I2.call' I5.os I5.base I5.hok I5.bare fun b hb=>by
     obtain⟨_,q1,q2,q3,q4,q5⟩:=f2 b hb
     exact⟨q3,q1,q4,q5⟩
    refine hR _ _ s4 H3 mC hnC IX I5.free ?_ (.inr ?_) (fun x c e z=> ?_) (fun p hp z=> ?_) (I2.nofs (by rw[hC];exact Nat.le_succ _)) q
    ·rw [hC]
     exact Nat.ne_of_gt (Nat.lt_succ_of_lt I2.lt)
    ·rw [hC]
     exact Nat.le_succ_of_le I2.sz
    ·obtain ⟨v,q⟩:=I2.cell x c e
     rw[hC] at z
     exact absurd z (Nat.ne_of_lt (Nat.lt_succ_of_lt q.lt))
    ·rw [hC] at z
     exact absurd z (Nat.ne_of_lt (Nat.lt_succ_of_lt (Heap.lt_size (I2.pin p hp).1)))
   ·refine thn (T.item (X.compZ s2 H2 N' scope cl G.objs.size fp z (G.objs.size+1)) rfl rfl rfl hc i [] s3 _ H3 _ I3 (fpY fr3) st3 go) fun r s4 zq=> ?_
    obtain⟨u,hr,h4⟩:=zq
    subst hr
    refine thn h4 fun _ s5 zq=> ?_
    obtain⟨x,H5,I5,r5,y5,st5,fr5⟩:=zq
    have I5':=I5.pinned (fpY fr5) (T.obj _ _ st5)
    refine thn (hYg _ s5 _ H5 x u _ I5' r5 (step x H5 y5)) fun _ s6 zq=> ?_
    obtain⟨σ6,H6,I6,wk,q6⟩:=zq
    have back:∀{H':Hp} {s':Shared},Inv (X.compZ s2 H2 N' scope cl G.objs.size fp z (G.objs.size+1)) ([]++zbx fp s5.heap) σ6 H' s'->
      Inv (X.compZ s2 H2 N' scope cl G.objs.size fp z (G.objs.size+1)) [] (zaW n ix σ) H' s'/\tn (i+1) s'.heap/\∀b∈fp,H' b=none:=fun {H' s'} I7=>by
     refine⟨I7.unpinned.weak wk.1 wk.2,T.keep _ _ _ st5 fun b hb o e=>(I7.pin (b,o) (List.mem_append_right _ (List.mem_append_right _ (zaL hb e)))).1,fun b hb=> ?_⟩
     obtain⟨o,e,d⟩:=T.obj _ _ st5 b hb
     exact (I7.pin (b,o) (List.mem_append_right _ (List.mem_append_right _ (zaL hb e)))).2.1
    refine thn (hYt _ s6 σ6 H6 _ I6 q6) fun ok s7 zq=> ?_
    obtain⟨H7,I7,q7⟩:=zq
    cases ok with
    |false=>
     rw[if_neg Bool.false_ne_true] at q7 ⊢
     obtain⟨m',hm,w7⟩:=q7
     obtain⟨b1,b2,b3⟩:=back I7
     exact⟨m',hm,i+1,H7,b1,b2,b3,w7⟩
    |true=>
     rw[if_pos rfl] at q7 ⊢
     refine thn (hYe _ s7 σ6 H7 _ I7 q7) fun xv s8 zq=> ?_
     obtain⟨v8,H8,I8,r8,ys,ha,hz,m',hm,w8⟩:=zq
     refine thn (zbB _ s8 σ6 H8 (.ref s2.heap.objs.size) [v8] (.ref s2.heap.objs.size) [xv] (fun _ H'=>H'=upd H8 s2.heap.objs.size (.lst (ys++[v8]))) I8 rfl (.cons r8 .nil) ⟨_,ys,v8,rfl,rfl,ha,hz,rfl⟩) fun _ s9 zq=> ?_
     obtain⟨_,H9,I9,_,e9⟩:=zq
     subst e9
     obtain⟨b1,b2,b3⟩:=back I9
     exact⟨m',hm,i+1,_,b1,b2,b3,w8⟩
  ·rw [zah (Nat.ne_of_lt (hlt b hb))]
   exact (f2 b hb).1
 exact codeAny_compStart_list (loop _ rfl) (T.self _ 0 _ _ _ (T.keep _ _ _ st2 fun b hb o e=>old b o e) (loop _ rfl))
theorem zjf {z:Str}(hc:X.calm=true)(S:CompScopeZ X scope N' n ix z)(hi:PI X tg iter wi)
  (hY:∀s₂ H₂ cl C fp Z,PG (X.compZ s₂ H₂ N' scope cl C fp z Z) tg g/\PTs (X.compZ s₂ H₂ N' scope cl C fp z Z) ifs tt/\PE (X.compZ s₂ H₂ N' scope cl C fp z Z) elt te)
  (hs:∀x,foldedSetIterable iter X.env x=pure x:=by intro _;rfl):PE X (.ListComp elt [⟨tg,iter,ifs,0⟩] scope pos) (tLc wi g tt te n ix):=by
 intro pins s σ H Q I h
 obtain⟨cl,hcl,hcl1,hcl2⟩:=zbK (env:=X.env) (scope:=scope) fun y hy hf=>I.ok.has _ (S.free y hy hf)
 rw[eval_ListComp]
 refine wpAny_comprehension_free (use:=none) rfl hs hcl S.kind S.names (thn (hi pins s σ H _ I h) fun v s1 h1=>thn h1 fun itv s2 h2=> ?_)
 obtain⟨it,fp,tn,J,H2,rfl,I2,T,st2,f2,hW⟩:=h2
 refine zg8 (R:=fun acc C=>compPost (model X.prog X.w) X.A X.xe none (EP X pins σ Q) acc C) hc S hY I2 hcl1 hcl2 T st2 f2 hW ?_
 intro acc C s' H' m hn IX hf hL h1 h2 h3 h4 q
 exact⟨m,hn,fun h' sb=>⟨.ref acc,H',IX.turned (t':=s'.toks) (fun b o hb e=>sb.extBut b o hb e) hf hL h1 h2 h3,rfl,q⟩⟩
end
mutual
inductive IsK (K:PySem.W.Frag) (H:Hp):V->PyData->Prop
 |non:IsK K H .non .none
 |bl (b:Bool):IsK K H (.bl b) (.bool b)
 |int (i:Int):IsK K H (.int i) (.int i)
 |str (x:Str):IsK K H (.str x) (.str x)
 |tup {a:Addr} {vs:List V} {ds:List PyData}:SqT K H a vs->IsAllK K H vs ds->IsK K H (.ref a) (.tuple ds)
 |lst {a:Addr} {vs:List V} {ds:List PyData}:H a=some (.lst vs)->IsAllK K H vs ds->IsK K H (.ref a) (.list ds)
inductive IsAllK (K:PySem.W.Frag) (H:Hp):List V->List PyData->Prop
 |nil:IsAllK K H [] []
 |cons {v:V} {vs:List V} {d:PyData} {ds:List PyData}:IsK K H v d->IsAllK K H vs ds->IsAllK K H (v::vs) (d::ds)
end
section
variable {X:Cx}{pins:List (Addr×Obj)}{σ:St}{H:Hp}{s:Shared}
end
noncomputable def zj2 (K:PySem.W.Frag):List V->Hp->VK->Prop:=fun xs H Q=>∃x T t b,xs=[x,.ty T]/\(TyOf K H x t∨∃a ys,x=.ref a/\SqT K H a ys/\t=.type "tuple")/\PySem.W.kitOne K t (.type T)=some b/\Q (.bl b) H
theorem zbi {X:Cx}:zbA X (.builtin "isinstance") (zj2 X.K):=by
 intro pins s σ H xs us Q I rs h
 obtain⟨x,T,t,b,rfl,ty,hk,q⟩:=h
 rcases ty with ty|⟨a,ys,rfl,hq,rfl⟩
 ·exact zg2 pins s σ H _ us Q I rs ⟨x,T,t,b,rfl,ty,hk,q⟩
 ·obtain ⟨u,u',rfl,ru,ru'⟩:=zgS rs
  cases (show u=Value.ref a from ru)
  cases (show u'=Value.type T from ru')
  obtain⟨its,_,⟨o,h1,h2,_⟩,_⟩:=I.tuple hq
  exact PySem.W.kia_one PySem.W.kitx_tuple I.kIn ⟨o,h1,h2⟩ hk (fun z=>nomatch z) fun tk=>⟨.bl b,H,I.tok _,rfl,q⟩
theorem Same.seqT {K:PySem.W.Frag}{H H':Hp}{a:Addr}{xs:List V}(e:Same H H')(h:SqT K H a xs):SqT K H' a xs:=by
 rcases h with (h|⟨o,h⟩)|h
 ·exact .inl (.inl (e _ _ h))
 ·exact .inl (.inr ⟨o,e _ _ h⟩)
 ·exact .inr h
noncomputable abbrev RowsK (K:PySem.W.Frag)(H:Hp)(zs:List Addr)(rows:List (List Int)):Prop:=Paired (fun (z:Addr) (r:List Int)=>SqT K H z (r.map V.int)) zs rows
theorem RowsK.same {K:PySem.W.Frag}{H H':Hp}{zs:List Addr}{rows:List (List Int)}(h:RowsK K H zs rows)(s:Same H H'):RowsK K H' zs rows:=Paired.mapP h fun _ _ q=>s.seqT q
noncomputable def AlikeK (K:PySem.W.Frag)(H:Hp):Nat->V->V->Prop
 |0,x,y=>∃a:Int,x=.int a/\y=.int a
 |n+1,x,y=>(∃a:Int,x=.int a/\y=.int a)∨∃a b xs ys,x=.ref a/\y=.ref b/\SqT K H a xs/\SqT K H b ys/\xs.length<=1000/\Paired (AlikeK K H n) xs ys
theorem AlikeK.same {K:PySem.W.Frag}{H H':Hp}(s:Same H H'):∀{n:Nat} {x y:V},AlikeK K H n x y->AlikeK K H' n x y
 |0,_,_,h=>h
 |n+1,_,_,.inl h=>.inl h
 |n+1,_,_,.inr ⟨a,b,xs,ys,e1,e2,h1,h2,h3,pr⟩=>.inr ⟨a,b,xs,ys,e1,e2,s.seqT h1,s.seqT h2,h3,Paired.mapP pr fun _ _ q=>AlikeK.same s q⟩
theorem zer {K:PySem.W.Frag}{H:Hp}{a b:Addr}{ns:List Int}(ha:SqT K H a (ns.map V.int))(hb:SqT K H b (ns.map V.int))(hl:ns.length<=1000):AlikeK K H 1 (.ref a) (.ref b):=by
 refine .inr ⟨a,b,_,_,rfl,rfl,ha,hb,by rw[zaw];exact hl, ?_⟩
 clear ha hb hl
 induction ns with
 |nil=>exact .nil
 |cons x r ih=>exact .cons ⟨x,rfl,rfl⟩ ih
noncomputable def zcP (K:PySem.W.Frag)(n:Nat):Sp:=fun vs H Q _=>∃x y,vs=[x,y]/\AlikeK K H n x y/\∀H',Same H H'->Q (.bl true) H'
noncomputable def Pot (H:Hp)(p q:Addr):Prop:=∃(ns:List Int) (seed turn:Int),H p=some (.lst [.ref q,.int seed,.int turn])/\H q=some (.lst (ns.map V.int))/\(∀n∈ns,0<=n)/\ns.length<=63
theorem Pot.same {p q:Addr}{H H':Hp}(h:Pot H p q)(s:Same H H'):Pot H' p q:=by
 obtain⟨ns,seed,turn,h1,h2,h3,h4⟩:=h
 exact⟨ns,seed,turn,s _ _ h1,s _ _ h2,h3,h4⟩
theorem Pot.ne {p q:Addr}{H:Hp}(h:Pot H p q):p≠q:=by
 obtain⟨ns,seed,turn,h1,h2,_⟩:=h
 refine zfd h1 h2 fun z=> ?_
 injection z with z
 cases ns with
 |nil=>cases z
 |cons a r=>injection z with z _;cases z
theorem Pot.tup_ne {p q:Addr}{H:Hp}(h:Pot H p q){a:Addr}{xs:List V}(ha:H a=some (.tup xs)):a≠p/\a≠q:=by
 obtain⟨ns,seed,turn,h1,h2,_⟩:=h
 exact⟨zfd ha h1 (by intro z;cases z),zfd ha h2 (by intro z;cases z)⟩
theorem Pot.keepT {p q:Addr}{H H':Hp}(h:Pot H p q)(k:Keep p q H H'){a:Addr}{xs:List V}(ha:H a=some (.tup xs)):H' a=some (.tup xs):=k a _ ha (h.tup_ne ha).1 (h.tup_ne ha).2
noncomputable def zg9 (K:PySem.W.Frag):Sp:=fun vs H Q _=>∃(a:Addr) (ns:List Int),vs=[.ref a]/\SqL K H a (ns.map V.int)/\ns.length<=63/\∀p q H',Same H H'->Pot H' p q->H p=none->H q=none->Q (.ref p) H'
noncomputable def zeZ:Sp:=fun vs H Q _=>∃(p q:Addr) (m:Int),vs=[.ref p,.int m]/\0<m/\m<1073741824/\Pot H p q/\∀d H',0<=d->d<m->Pot H' p q->Keep p q H H'->Q (.int d) H'
theorem zin {X:Cx}:OpR X (binaryOp .Mult) (rI (fun i j=>IntMulOk i j) fun i j=>.int (i*j)):=opI fun _ _ _ _ _ _ _ hc q=>mul_int q hc
theorem zha:∀i:Nat,i<=15->IntMulOk (((10:Int)^(60:Int).toNat)^i) ((10:Int)^(60:Int).toNat):=fun i hi=>by
 have h10:Builtin.Int.intBits (10:Int)<=4:=intBits_le_iff.mpr (by decide)
 have h1:Builtin.Int.intBits ((10:Int)^(60:Int).toNat)<=241:=intBits_pow_le h10 60
 have h2:Builtin.Int.intBits (((10:Int)^(60:Int).toNat)^i)<=241*i+1:=intBits_pow_le h1 i
 exact IntMulOk.of_le h2 h1 (by (first|lia|omega))
noncomputable def atZ (ns:List Int)(k:Int):Int:=if k<0 then 0 else ns.getD k.toNat 0
theorem zjg {ns:List Int}{k:Int}(h:0<=k):ns.getD k.toNat 0=atZ ns k:=by
 unfold atZ
 rw[if_neg (by (first|lia|omega))]
theorem zhV {ns:List Int}{k:Int}(h:k<0):atZ ns k=0:=by
 unfold atZ
 rw[if_pos h]
theorem zjh {ns:List Int}{k:Int}(h:(ns.length:Int)<=k):atZ ns k=0:=by
 unfold atZ
 rw[if_neg (by (first|lia|omega)),List.getD_eq_getElem?_getD,List.getElem?_eq_none (by (first|lia|omega))]
 rfl
noncomputable def zcQ (K:PySem.W.Frag):Sp:=fun vs H Q _=>∃(a:Addr) (ns:List Int) (k:Int),vs=[.ref a,.int k]/\SqT K H a (ns.map V.int)/\Q (.int (atZ ns k)) H
noncomputable def zbD (m:Nat)(ns:List Int):List Int:=(num0 (m+1)).map fun k=>atZ ns (k-1)+((m:Int)-1)*atZ ns k
noncomputable def zb2 (m:Nat)(ns:List Int):List Int:=(num0 (m+1)).map fun k=>atZ ns (k-1)+((m:Int)-1-k)*atZ ns k+(k+1)*atZ ns (k+1)
noncomputable def zb3 (m:Nat)(ns:List Int):List Int:=(num0 m).map fun k=>(k+1)*atZ ns k+((m:Int)-k)*atZ ns (k-1)
noncomputable def zcq (K:PySem.W.Frag)(B:Nat)(g:Nat->List Int->List Int):Sp:=fun vs H Q _=>∃(m:Nat) (a:Addr) (ns:List Int),vs=[.int m,.ref a]/\1<=m/\m<=B/\SqT K H a (ns.map V.int)/\ns.length<=1000/\∀p H',Same H H'->H' p=some (.tup ((g m ns).map V.int))->Q (.ref p) H'
theorem zbb {i j:Int}(h0:-100<=i)(h1:i<=1000):CMul i j:=.inl ⟨Int.lt_of_lt_of_le (by decide) h0,Int.lt_of_le_of_lt h1 (by decide)⟩
section
variable {X:Cx}
noncomputable def rSlK (K:PySem.W.Frag):V->Option Int->Option Int->Hp->VK->Prop:=fun x lo hi H Q=>∃a xs,x=.ref a/\SqT K H a xs/\∀p H',Same H H'->SqT K H' p (cutV xs lo hi)->Q (.ref p) H'
theorem zio:SlR X (rSlK X.K):=by
 intro pins s σ H x v vl vu lo hi sl Q I rx hs pl pu h
 obtain⟨a,xs,rfl,ha,q⟩:=h
 by_cases hw:HT.sIx xs.length 0 lo=0/\HT.sIx xs.length xs.length hi=xs.length
 ·cases rx
  obtain⟨its,r,ht,hz⟩:=I.tuple ha
  have hl:its.toArray.size=xs.length:=by rw[List.size_toArray];exact r.length.symm
  refine⟨"tuple",_,PyProof.Rows.slot_tuple_getitem.lookup,ht.typeIs, ?_⟩
  refine zbg ht hs pl pu (by rw[hl];exact hw) ⟨.ref a,H,I,rfl,q a H (Same.refl H) ?_⟩
  unfold cutV
  rw[hw.1,hw.2,List.drop_zero,Nat.sub_zero,List.take_length]
  exact ha
 ·exact zhS pins s σ H _ v vl vu lo hi sl Q I rx hs pl pu ⟨a,xs,rfl,ha,hw,fun p hp=>q p _ (zac hp) (SqT.of zab)⟩
theorem zhb (K:PySem.W.Frag)(hK:X.K=K):SlR X (rSlK K):=hK▸zio
noncomputable def zji (K:PySem.W.Frag):List V->Hp->VK->Prop:=fun xs H Q=>∃(l:Addr) (ns:List Int),xs=[.ref l]/\SqT K H l (ns.map V.int)/\Q (.int ns.sum) H
theorem zgg (hc:X.calm=true):zbA X (.builtin "sum") (zji X.K):=by
 intro pins s σ H xs us Q I rs h
 obtain⟨l,ns,rfl,hH,q⟩:=h
 obtain⟨u,rfl,ru⟩:=zb8 rs
 cases (show u=Value.ref l from ru)
 obtain⟨its,r,ht,hz⟩:=I.tuple hH
 have hI:=zb9 r
 obtain⟨xs,hxs⟩:=hI.allInts.items
 have hnum:(numsOf its.toArray.toList)=ns:=hI.numsOf
 refine PySem.W.ktm_sumG (xs:=xs) (I.ok.hd hc) (by rw[<-hxs];exact ht) fun h' tk t' hk=> ?_
 have hs:preSum (numAt xs) xs.size=ns.sum:=by
  rw[preSum_eq,List.take_of_length_le (by simp)]
  rw[<-nums_intItems,<-hxs,hnum]
 rw[hs]
 exact⟨.int ns.sum,H,I.kept (t':=tk) hk,⟨_,rfl⟩,q⟩
theorem zfs (K:PySem.W.Frag)(hK:X.K=K)(hc:X.calm=true):zbA X (.builtin "sum") (zji K):=hK▸zgg hc
end
noncomputable def win (ns:List Int)(lo:Int)(n:Nat):Int:=((List.range n).map fun (i:Nat)=>atZ ns (lo+(i:Int))).sum
theorem zdj (ns:List Int)(lo:Int)(n:Nat):win ns lo (n+1)=win ns lo n+atZ ns (lo+(n:Int)):=by
 unfold win
 rw[List.range_succ,List.map_append,List.sum_append]
 simp
theorem zgh (ns:List Int)(lo:Nat):∀n:Nat,((ns.drop lo).take n).sum=win ns (lo:Int) n
 |0=>by simp[win]
 |n+1=>by
  rw[List.take_succ,List.sum_append,zgh ns lo n,zdj,List.getElem?_drop]
  congr 1
  unfold atZ
  rw[if_neg (by (first|lia|omega)),show ((lo:Int)+(n:Int)).toNat=lo+n by (first|lia|omega),List.getD_eq_getElem?_getD]
  cases ns[lo+n]? <;>simp
theorem zgi (ns:List Int)(lo:Int):∀n:Nat,win ns lo n=win ns (max lo 0) (n-(-lo).toNat)
 |0=>by simp[win]
 | n+1=>by
  rw[zdj,zgi ns lo n]
  by_cases h:lo+(n:Int)<0
  ·rw [zhV h,show n+1-(-lo).toNat=0 by (first|lia|omega),show n-(-lo).toNat=0 by (first|lia|omega)]
   simp
  ·rw [show n+1-(-lo).toNat=(n-(-lo).toNat)+1 by (first|lia|omega),zdj]
   congr 2
   (first|lia|omega)
theorem ziq (ns:List Int)(lo hi:Nat):(ns.drop (min lo ns.length)).take (min hi ns.length-min lo ns.length)=(ns.drop lo).take (hi-lo):=by
 by_cases h:lo<=ns.length
 ·rw [Nat.min_eq_left h]
  by_cases h2:hi<=ns.length
  ·rw[Nat.min_eq_left h2]
  ·rw[Nat.min_eq_right (by (first|lia|omega)),List.take_of_length_le (by rw[List.length_drop];exact Nat.le_refl _),List.take_of_length_le (by rw[List.length_drop];(first|lia|omega))]
 ·rw[show min lo ns.length=ns.length by (first|lia|omega),List.drop_length,List.drop_of_length_le (by (first|lia|omega)),List.take_nil,List.take_nil]
theorem zgj (ns:List Int)(lo hi:Nat):cutV (ns.map V.int) (some (lo:Int)) (some (hi:Int))=((ns.drop lo).take (hi-lo)).map V.int:=by
 unfold cutV
 rw[HT.sIx_nat,HT.sIx_nat,zaw,<-List.map_drop,<-List.map_take,ziq]
theorem zcb {g:Int->Int}:∀{l:List Int} {ys:List V},Paired (fun x v=>∀k,x=V.int k->v=V.int (g k)) (l.map V.int) ys->ys=(l.map g).map V.int
 |[],_,.nil=>rfl
 |a::l,_,.cons h t=>by
  rw[List.map_cons,List.map_cons,<-zcb t,h a rfl]
theorem zir {n:Nat}{te:TE}{ix:List Nat}{σ:L2.St}{H1:Hp}{Q:VK}(g:Int->Int)(small:n<=1000)(he:∀k:Int,0<=k->k<n->∀H,Same H1 H->∀Q':VK,(∀H',Same H H'->Q' (.int (g k)) H')->te (some (.int k)::ix.map fun i=>σ.getD i none) H Q')
  (fin:∀acc H',H1 acc=none->Same H1 H'->H' acc=some (.lst (((num0 n).map g).map V.int))->Q (.ref acc) H'):LcW (Itr 0 n) H1 (zaT 0) zaO te 1 ix σ Q:=by
 refine zei (zaX (lo:=0) (n:=n)) (za5 (by rw[zaH];exact small)) (fun x v _=>∀k,x=V.int k->v=V.int (g k)) (fun _ _ _ _ _ h=>h) (fun _ _=>trivial) (fun x hx H' s' Q' q=> ?_) fun acc ys H' hacc sm hys pr=> ?_
 ·obtain ⟨k,rfl,k0,k1⟩:=za2 hx
  exact he k k0 k1 H' s' Q' fun H2 s2=>q _ H2 s2 fun k' e=>by cases e;rfl
 ·rw [zbf] at pr
  rw[zcb pr] at hys
  exact fin acc H' hacc sm hys
noncomputable def zbn (m:Nat)(ns:List Int):List Int:=(num0 (m*(m-1)/2+1)).map fun k=>win ns (k-(m:Int)+1) m
noncomputable def zb4:List Str:=["rounds", "stays", "rises", "highs", "crossed"]
theorem zcm {kind:Str}(h:kind∈zb4):kind= "rounds" ∨kind= "stays" ∨kind= "rises" ∨kind= "highs" ∨kind= "crossed" :=by
 unfold zb4 at h
 simpa using h
noncomputable def zhc (kind:Str)(m:Nat)(ns:List Int):List Int:=
 if kind= "crossed" then zbn m ns else if kind= "rises" then zb3 m ns else if kind= "stays" then zb2 m ns else zbD m ns
noncomputable def bOf (kind:Str):Nat:=if kind= "crossed" then 24 else 60
noncomputable def zgk (K:PySem.W.Frag):Sp:=fun vs H Q _=>∃(kind:Str) (m:Nat) (a:Addr) (ns:List Int),vs=[.str kind,.int m,.ref a]/\kind∈zb4/\1<=m/\m<=bOf kind/\SqT K H a (ns.map V.int)/\ns.length<=1000/\∀p H',Same H H'->H' p=some (.tup ((zhc kind m ns).map V.int))->Q (.ref p) H'
noncomputable def rowZ (kind:Str):Nat->List Int
 |0=>[1]
 |n+1=>zhc kind (n+1) (rowZ kind n)
noncomputable def zdk (kind:Str)(n:Nat):List (List Int):=(List.range (n+1)).map (rowZ kind)
theorem zbE (n:Nat):(num0 n).length=n:=by simp[num0]
theorem zjj (kind:Str):bOf kind<=60:=by
 unfold bOf
 split<;>(first|lia|omega)
theorem zgl {kind:Str}{m:Nat}(ns:List Int)(hm:m<=bOf kind):(zhc kind m ns).length<=277:=by
 unfold zhc
 unfold bOf at hm
 split
 ·rename_i h
  rw[if_pos h] at hm
  unfold zbn
  rw[List.length_map,zbE]
  have:m*(m-1)<=24*23:=Nat.mul_le_mul hm (by (first|lia|omega))
  (first|lia|omega)
 ·rename_i h
  rw[if_neg h] at hm
  split
  ·unfold zb3;rw[List.length_map,zbE];(first|lia|omega)
  ·split
   ·unfold zb2;rw[List.length_map,zbE];(first|lia|omega)
   ·unfold zbD;rw[List.length_map,zbE];(first|lia|omega)
theorem zdl {kind:Str}{n:Nat}(hn:n<=bOf kind):(rowZ kind n).length<=277:=by
 cases n with
 |zero=>show 1<=277;(first|lia|omega)
 |succ n=>exact zgl _ hn
theorem zft (kind:Str)(n:Nat):zdk kind (n+1)=zdk kind n++[rowZ kind (n+1)]:=by
 unfold zdk
 rw[List.range_succ,List.map_append]
 rfl
theorem zgm (kind:Str)(n:Nat):(zdk kind n).length=n+1:=by simp[zdk]
noncomputable def zes (K:PySem.W.Frag):Sp:=fun vs H Q _=>∃(kind:Str) (m:Nat),vs=[.str kind,.int m]/\kind∈zb4/\m<=bOf kind/\∀p zs H',Same H H'->H' p=some (.tup (zs.map V.ref))->RowsK K H' zs (zdk kind m)->Q (.ref p) H'
noncomputable def ze0 (K:PySem.W.Frag):Sp:=fun vs H Q _=>∃(kind:Str) (m:Nat),vs=[.str kind,.int m]/\kind∈zb4/\m<=bOf kind/\∀p H',Same H H'->SqT K H' p ((rowZ kind m).map V.int)->Q (.ref p) H'
theorem ze1 {K:PySem.W.Frag}{H:Hp}{a l:Addr}{xs ys:List V}{o:HO}(h:SqT K H a xs)(hl:H l=some (.lst ys)):SqT K (upd H l o) a xs:=by
 have hne:∀u,H a=some u->(∀ys,u≠.lst ys)->a≠l:=fun u e hu hal=>by
  subst hal
  rw[hl] at e
  cases e
  exact hu _ rfl
 rcases h with (h|⟨o',h⟩)|h
 ·exact .inl (.inl (by rw[zah (hne _ h (fun _ q=>nomatch q))];exact h))
 ·exact .inl (.inr ⟨o',by rw[zah (hne _ h (fun _ q=>nomatch q))];exact h⟩)
 ·exact .inr h
theorem RowsK.updL {K:PySem.W.Frag}{H:Hp}{zs:List Addr}{rows:List (List Int)}{l:Addr}{ys:List V}{o:HO}(h:RowsK K H zs rows)(hl:H l=some (.lst ys)):RowsK K (upd H l o) zs rows:=Paired.mapP h fun _ _ q=>ze1 q hl
theorem RowsK.get {K:PySem.W.Frag}{H:Hp}:∀{zs:List Addr} {rows:List (List Int)},RowsK K H zs rows->∀{i:Nat} {r:List Int},rows[i]? =some r->∃z,zs[i]? =some z/\SqT K H z (r.map V.int)
 |_,_,.nil,_,_,e=>nomatch e
 |_,_,.cons h t,0,_,e=>by cases e;exact⟨_,rfl,h⟩
 |_,_,.cons h t,i+1,_,e=>RowsK.get t e
end L2
namespace L2
theorem zhd {α:Type}{xs:List α}(h:0<xs.length):atI xs (-1)=xs[xs.length-1]? :=by
 unfold atI ixN
 rw[if_neg (by decide),if_pos (by (first|lia|omega))]
 show xs[((-1:Int)+xs.length).toNat]? =_
 rw[show ((-1:Int)+xs.length).toNat=xs.length-1 by (first|lia|omega)]
end L2
namespace L2
open PySem PySem.Spec PyProof.Rows
theorem GDict.of {K:PySem.W.Frag}{P:Params}{C:Addr}{kvs:List (Str×Addr)}{es:Array DictEntry}{n:Nat}(l:K.lookup C=some {cls:=.type "dict",data:=.dict es n})(en:Ents P es.toList kvs)(nd:(kvs.map (·.1)).Nodup):GDict K P C kvs:=⟨⟨es,n,l,en⟩,nd⟩
theorem CalF.of {P:Program}{w:World}{K:PySem.W.Frag}{mg:Str->Option Value}{base:Heap}{k k':Nat}{x:Str}{f:Addr}{ps:List Str}{sp:Sp}(C:Cal P w K mg base k x ps sp)(h:mg x=some (.ref f))(hk:k<=k'):CalF P w K mg base k' f ps sp:=by
 obtain⟨f',fd,F,hm,kp,hb⟩:=C.ex
 rw[h] at hm
 cases hm
 exact⟨fd,F.mono hk,kp,hb⟩
theorem sqT_ofK {K:PySem.W.Frag}{a:Addr}{xs:List V}{its:Array Value}{n:Nat}(l:K.lookup a=some {cls:=.type "tuple",data:=.seq its n})(hz:its.size<=sizeLine)(r:Vals xs its.toList):∀H,SqT K H a xs:=fun _=>.inr ⟨_,its,n,l,rfl,rfl,hz,r⟩
section
variable {κ:Type}[DecidableEq κ]
noncomputable def valV (kvs:List (κ×V))(k:κ):Option V:=(kvs.find? fun kv=>decide (kv.1=k)).map (·.2)
noncomputable def putK (kvs:List (κ×V))(k:κ)(v:V):List (κ×V):=
 if (kvs.any fun kv=>decide (kv.1=k))=true then kvs.map (fun kv=>if kv.1=k then (kv.1,v) else kv) else kvs++[(k,v)]
theorem zdm {p:κ×V}{r:List (κ×V)}{k:κ}(e:p.1=k):valV (p::r) k=some p.2:=by simp[valV,List.find?_cons,e]
theorem zdn {p:κ×V}{r:List (κ×V)}{k:κ}(e:¬p.1=k):valV (p::r) k=valV r k:=by simp[valV,List.find?_cons,e]
theorem zcx (k:κ):∀kvs:List (κ×V),(kvs.any fun kv=>decide (kv.1=k))=(valV kvs k).isSome
 |[]=>rfl
 |p::r=>by
  rw[List.any_cons]
  by_cases e:p.1=k
  ·simp only[zdm e,decide_eq_true e,Bool.true_or,Option.isSome_some]
  ·rw[zdn e,decide_eq_false e,Bool.false_or];exact zcx k r
theorem zcR (kvs:List (κ×V))(k:κ)(v:V):(putK kvs k v).length<=kvs.length+1:=by
 unfold putK
 split
 ·rw[List.length_map];(first|lia|omega)
 ·rw[List.length_append,List.length_cons,List.length_nil];(first|lia|omega)
theorem zhe {kvs:List (κ×V)}{k:κ}(v:V)(h:valV kvs k=none):putK kvs k v=kvs++[(k,v)]:=by
 unfold putK
 rw[zcx,h]
 exact if_neg (by decide)
theorem RelO.isSome_eq {o:Option V}{u:Option Value}(r:RelO o u):o.isSome=u.isSome:=by
 cases o with
 |none=>cases u with
  |none=>rfl
  |some _=>exact (show False from r).elim
 |some _=>cases u with
  |none=>exact (show False from r).elim
  |some _=>rfl
theorem RelO.getD {o:Option V}{u:Option Value}{d:V}{d':Value}(r:RelO o u)(rd:RelV d d'):RelV (o.getD d) (u.getD d'):=by
 cases o with
 |none=>cases u with
  |none=>exact rd
  |some _=>exact (show False from r).elim
 |some _=>cases u with
  |none=>exact (show False from r).elim
  |some _=>exact r
theorem KV.val {kvs:List (κ×V)}{vs:List (κ×Value)}(r:KV kvs vs)(k:κ):RelO (valV kvs k) (valueAt vs k):=by
 unfold KV at r
 induction r with
 |nil=>exact True.intro
 | @cons p q ps qs h t ih=>
  obtain⟨h1,h2⟩:=h
  by_cases e:p.1=k
  ·have e':q.1=k:=h1.symm.trans e
   have b:valueAt (q::qs) k=some q.2:=by simp[valueAt,List.find?_cons,e']
   rw[zdm e,b];exact h2
  ·have e':¬q.1=k:=fun z=>e (h1.trans z)
   have b:valueAt (q::qs) k=valueAt qs k:=by simp[valueAt,List.find?_cons,e']
   rw[zdn e,b];exact ih
theorem KV.any {kvs:List (κ×V)}{vs:List (κ×Value)}(r:KV kvs vs)(k:κ):(kvs.any fun kv=>decide (kv.1=k))=vs.any fun kv=>decide (kv.1=k):=by
 unfold KV at r
 induction r with
 |nil=>rfl
 |cons h t ih=>rw[List.any_cons,List.any_cons,ih,h.1]
theorem KV.repl {kvs:List (κ×V)}{vs:List (κ×Value)}(r:KV kvs vs)(k:κ){y:V}{u:Value}(ry:RelV y u):
  KV (kvs.map fun kv=>if kv.1=k then (kv.1,y) else kv) (vs.map fun kv=>if kv.1=k then (kv.1,u) else kv):=by
 unfold KV at r ⊢
 induction r with
 |nil=>exact .nil
 |@cons p q ps qs h t ih=>
  rw[List.map_cons,List.map_cons]
  refine .cons ?_ ih
  obtain⟨h1,h2⟩:=h
  by_cases e:p.1=k
  ·rw[if_pos e,if_pos (h1.symm.trans e)];exact⟨h1,ry⟩
  ·rw[if_neg e,if_neg (fun z=>e (h1.trans z))];exact⟨h1,h2⟩
theorem KV.put {kvs:List (κ×V)}{vs:List (κ×Value)}(r:KV kvs vs)(k:κ){y:V}{u:Value}(ry:RelV y u):KV (putK kvs k y) (stored vs k u):=by
 unfold putK stored
 rw[r.any k]
 by_cases e:(vs.any fun kv=>decide (kv.1=k))=true
 ·rw[if_pos e,if_pos e];exact r.repl k ry
 ·rw[if_neg e,if_neg e];exact Paired.snoc r ⟨rfl,ry⟩
theorem KV.length {kvs:List (κ×V)}{vs:List (κ×Value)}(r:KV kvs vs):kvs.length=vs.length:=Paired.length r
end
theorem zhf {P:Program}{w:World}{k:Key}{u:Value}(r:RelV (kV k) u):(zaE P w).is k u=true:=by
 cases k with
 |inl i=>obtain⟨t,e⟩:=(show ∃t,u=Value.int i t from r);subst e;exact zec P w i t
 |inr x=>obtain⟨t,e⟩:=(show ∃t,u=Value.str x t from r);subst e;exact zed P w x t
theorem zdY {P:Program}{w:World}:∀{ks:List Key} {us:List Value},Vals (ks.map kV) us->ItemsAre (zaE P w) ks us
 |[],_,r=>by rw[List.map_nil] at r;cases r;exact .nil
 |k::ks,_,r=>by
  rw[List.map_cons] at r
  cases r with
  |cons h t=>exact .cons (zhf h) (zdY t)
noncomputable abbrev KT (H:Hp):List (List Key×V)->List (List Key×Addr×Value)->Prop:=Paired fun p q=>p.1=q.1/\H q.2.1=some (.tup (p.1.map kV))/\RelV p.2 q.2.2
theorem KT.val {H:Hp}{kvs:List (List Key×V)}{xs:List (List Key×Addr×Value)}(r:KT H kvs xs)(k:List Key):RelO (valV kvs k) ((atKey xs k).map (·.2)):=by
 induction r with
 |nil=>exact True.intro
 | @cons p q ps qs h t ih=>
  obtain⟨h1,_,h2⟩:=h
  by_cases e:p.1=k
  ·have e':q.1=k:=h1.symm.trans e
   have b:atKey (q::qs) k=some q.2:=by simp[atKey,List.find?_cons,e']
   rw[zdm e,b];exact h2
  ·have e':¬q.1=k:=fun z=>e (h1.trans z)
   have b:atKey (q::qs) k=atKey qs k:=by simp[atKey,List.find?_cons,e']
   rw[zdn e,b];exact ih
theorem KT.repl {H:Hp}{kvs:List (List Key×V)}{xs:List (List Key×Addr×Value)}(r:KT H kvs xs)(k:List Key){y:V}{u:Value}(ry:RelV y u):
  KT H (kvs.map fun kv=>if kv.1=k then (kv.1,y) else kv) (xs.map (putAt k u)):=by
 induction r with
 |nil=>exact .nil
 |@cons p q ps qs h t ih=>
  rw[List.map_cons,List.map_cons]
  refine .cons ?_ ih
  obtain⟨h1,h2,h3⟩:=h
  unfold putAt
  by_cases e:p.1=k
  ·rw[if_pos e,if_pos (h1.symm.trans e)];exact⟨h1,h2,ry⟩
  ·rw[if_neg e,if_neg (fun z=>e (h1.trans z))];exact⟨h1,h2,h3⟩
theorem KT.put {H:Hp}{kvs:List (List Key×V)}{xs:List (List Key×Addr×Value)}(r:KT H kvs xs)(k:List Key){b:Addr}{y:V}{u:Value}(hb:H b=some (.tup (k.map kV)))(ry:RelV y u):
  KT H (putK kvs k y) (storedH xs k b u):=by
 have e:(kvs.any fun kv=>decide (kv.1=k))=(atKey xs k).isSome:=by
  rw[zcx,(r.val k).isSome_eq,Option.isSome_map]
 unfold putK storedH
 rw[e]
 by_cases q:(atKey xs k).isSome=true
 ·rw[if_pos q,if_pos q];exact r.repl k ry
 ·rw[if_neg q,if_neg q];exact Paired.snoc r ⟨rfl,hb,ry⟩
theorem KT.keeps {H H':Hp}{kvs:List (List Key×V)}{xs:List (List Key×Addr×Value)}(r:KT H kvs xs)(ht:∀b ys,H b=some (.tup ys)->H' b=some (.tup ys)):KT H' kvs xs:=
 Paired.mapP r fun _ _ z=>⟨z.1,ht _ _ z.2.1,z.2.2⟩
section
variable {P:Program}{w:World}{H:Hp}{h:Heap}{a:Addr}
theorem zjk {u:HO}(ok:HOk P w H h)(e:Rd H a u):ObjOk P w H h a u:=e.ok ok
theorem zhg {kvs:List (Key×V)}(ok:HOk P w H h)(e:Rd H a (.dK kvs)):kvs.length<=sizeLine/\(a==sysModules)=false/\∃vs,KV kvs vs/\h.DictOf (zaE P w) a vs:=
 show ObjOk P w H h a (.dK kvs) from zjk ok e
theorem zj3 {kvs:List (Key×V)}(ok:HOk P w H h)(e:H a=some (.dK kvs)):kvs.length<=sizeLine/\(a==sysModules)=false/\∃vs,KV kvs vs/\h.DictOf (zaE P w) a vs:=zhg ok (.inl e)
theorem zc3 {ks:List Key}(ok:HOk P w H h)(e:H a=some (.tup (ks.map kV))):(tupleKind (zaE P w)).is h ks a:=by
 obtain⟨_,its,r,o,h1,h2,⟨n,h3⟩,_⟩:=(show ObjOk P w H h a (.tup (ks.map kV)) from ok a _ e)
 exact⟨o,its.toArray,n,h1,h2,h3,by simpa using zdY r⟩
theorem zhh {kvs:List (List Key×V)}(ok:HOk P w H h)(e:Rd H a (.dT kvs)):kvs.length<=sizeLine/\(a==sysModules)=false/\
  ∃xs,KT H kvs xs/\h.DictOfH (tupleKind (zaE P w)) a xs:=by
 obtain⟨z,y,xs,r,o,es,ep,h1,h2,h3,h4,h5⟩:=(show ObjOk P w H h a (.dT kvs) from zjk ok e)
 refine⟨z,y,xs,r,o,es,ep,h1,h2,h3,h4,fun x hx=> ?_,h5⟩
 have all:∀{l:List (List Key×V)} {m:List (List Key×Addr×Value)},KT H l m->∀x∈m,(tupleKind (zaE P w)).is h x.1 x.2.1:=by
  intro l m q
  induction q with
  |nil=>intro x hx;exact nomatch hx
  | @cons p q ps qs hq t ih=>
   intro x hx
   rcases List.mem_cons.mp hx with e|hx
   ·subst e
    exact zc3 ok (by rw[<-hq.1];exact hq.2.1)
   ·exact ih x hx
 exact all r x hx
theorem zjl {kvs:List (List Key×V)}(ok:HOk P w H h)(e:H a=some (.dT kvs)):kvs.length<=sizeLine/\(a==sysModules)=false/\
  ∃xs,KT H kvs xs/\h.DictOfH (tupleKind (zaE P w)) a xs:=zhh ok (.inl e)
end
noncomputable def DGet (H:Hp)(a:Addr)(y:V)(r:Option V):Prop:=
 (∃kvs k,Rd H a (.dK kvs)/\y=kV k/\r=valV kvs k)∨∃kvs k b,Rd H a (.dT kvs)/\y=.ref b/\H b=some (.tup (k.map kV))/\r=valV kvs k
noncomputable def DPut (H:Hp)(a:Addr)(y v:V)(H':Hp):Prop:=
 (∃kvs k,H a=some (.dK kvs)/\y=kV k/\kvs.length<sizeLine/\H'=upd H a (.dK (putK kvs k v)))∨
 ∃kvs k b,H a=some (.dT kvs)/\y=.ref b/\H b=some (.tup (k.map kV))/\kvs.length<sizeLine/\H'=upd H a (.dT (putK kvs k v))
theorem DGet.k {H:Hp}{a:Addr}{kvs:List (Key×V)}{k:Key}(e:H a=some (.dK kvs)):DGet H a (kV k) (valV kvs k):=.inl ⟨kvs,k,.inl e,rfl,rfl⟩
theorem DGet.t {H:Hp}{a b:Addr}{kvs:List (List Key×V)}{k:List Key}(e:H a=some (.dT kvs))(eb:H b=some (.tup (k.map kV))):DGet H a (.ref b) (valV kvs k):=.inr ⟨kvs,k,b,.inl e,rfl,eb,rfl⟩
theorem DPut.k {H:Hp}{a:Addr}{kvs:List (Key×V)}{k:Key}{v:V}(e:H a=some (.dK kvs))(hl:kvs.length<sizeLine):DPut H a (kV k) v (upd H a (.dK (putK kvs k v))):=.inl ⟨kvs,k,e,rfl,hl,rfl⟩
theorem DPut.t {H:Hp}{a b:Addr}{kvs:List (List Key×V)}{k:List Key}{v:V}(e:H a=some (.dT kvs))(eb:H b=some (.tup (k.map kV)))(hl:kvs.length<sizeLine):
  DPut H a (.ref b) v (upd H a (.dT (putK kvs k v))):=.inr ⟨kvs,k,b,e,rfl,eb,hl,rfl⟩
section
variable {X:Cx}{pins:List (Addr×Obj)}{σ:St}{H:Hp}{s:Shared}{a:Addr}{y v:V}{u r:Value}{o:Option V}{A:Around}{E:Value->Shared->Prop}
theorem Inv.big (I:Inv X pins σ H s):sysModules<s.heap.objs.size:=by
 have h:mainGlobals<s.heap.objs.size:=(I.mod.glob.keeps I.bk).lt
 exact Nat.lt_trans (by decide) h
theorem zis {Q:Value->Shared->Prop}(hu:A.units+1<cLine)(I:Inv X pins σ H s)(g:DGet H a y o)(ry:RelV y u)(h:∀s',Inv X pins σ H s'->Q (.bool (!o.isSome)) s'):
  wpAny (model X.prog X.w) A (compareOp .NotIn u (.ref a)) Q E s:=by
 rcases g with⟨kvs,k,e,ey,l⟩|⟨kvs,k,b,e,ey,eb,l⟩
 ·subst ey
  obtain⟨z,hd,vs,rel,dd⟩:=zhg I.hok e
  refine wpAny_notIn_of (zhf ry) hd dd.mapOf ?_
  rw[<-(rel.val k).isSome_eq,<-l]
  exact h _ (I.tok _)
 ·subst ey
  cases (show u=Value.ref b from ry)
  obtain⟨z,hd,xs,rel,dd⟩:=zhh I.hok e
  refine wpAny_notIn_heap (tupleKind_room_in1 hu) (zc3 I.hok eb) hd dd ?_
  have q:=(rel.val k).isSome_eq
  rw[Option.isSome_map] at q
  rw[<-q,<-l]
  exact h _ (I.tok _)
theorem zet {h':Heap}{t':Nat}{ob:HO}(I:Inv X pins σ H s)(mu:Mut (H a))(hs:Heap.SameBut a s.heap h')(he:∃q,h'.get? a=some q)(new:ObjOk X.prog X.w (upd H a ob) h' a ob):
  Inv X pins σ (upd H a ob) {s with heap:=h',toks:=t'}:=
 I.write (x:=a) (e:=a) mu (.inl rfl) (fun b q hb z=>(hs.2 b hb).trans z) he new
theorem zjm {P:Program}{w:World}{H':Hp}{h':Heap}{kvs:List (Key×V)}{vs:List (Key×Value)}(z:kvs.length<=sizeLine)(hd:(a==sysModules)=false)(rel:KV kvs vs)(dd:h'.DictOf (zaE P w) a vs):
  ObjOk P w H' h' a (.dK kvs):=⟨z,hd,vs,rel,dd⟩
theorem zgn {H':Hp}{Q:Unit->Shared->Prop}(hu:A.units+1<cLine)(I:Inv X pins σ H s)(g:DPut H a y v H')(ry:RelV y u)(rv:RelV v r)(h:∀s',Inv X pins σ H' s'->Q () s'):
  wpAny (model X.prog X.w) A (setItem (.ref a) u r) Q E s:=by
 rcases g with⟨kvs,k,e,ey,l,eH⟩|⟨kvs,k,b,e,ey,eb,l,eH⟩
 ·subst ey eH
  obtain⟨z,hd,vs,rel,dd⟩:=zj3 I.hok e
  have hz:vs.length<=sizeLine:=by rw[<-rel.length];exact z
  have hl:(putK kvs k v).length<=sizeLine:=by have:=zcR kvs k v;(first|lia|omega)
  refine wpAny_setItem_pairs (hsz:=hz) (zhf ry) dd fun h' dd' hs=>h _ ?_
  have he:∃q,h'.get? a=some q:=let ⟨q,_,_,hq,_⟩:=dd';⟨q,hq⟩
  exact zet I (by rw[e];exact True.intro) hs he (zjm hl hd (rel.put k rv) dd')
 ·subst ey eH
  cases (show u=Value.ref b from ry)
  obtain⟨z,hd,xs,rel,dd⟩:=zjl I.hok e
  have hz:xs.length<=sizeLine:=by rw[<-Paired.length rel];exact z
  have hl:(putK kvs k v).length<=sizeLine:=by have:=zcR kvs k v;(first|lia|omega)
  refine wpAny_setItem_heap (hsz:=hz) (tupleKind_room_in1 hu) (zc3 I.hok eb) dd fun h' dd' hs=>h _ ?_
  obtain⟨q,es,ep,hq,h2,h3,h4,_,h5⟩:=dd'
  refine zet I (by rw[e];exact True.intro) hs ⟨q,hq⟩ ⟨hl,hd,_,(rel.put k eb rv).keeps fun c ys ec=> ?_,q,es,ep,hq,h2,h3,h4,h5⟩
  rw[zah (zfd ec e (fun z=>nomatch z))]
  exact ec
end
section
variable {X:Cx}{pins:List (Addr×Obj)}{σ:St}{H:Hp}{s:Shared}{a:Addr}{kvs:List (Key×V)}{k:Key}{u:Value}{A:Around}{E:Value->Shared->Prop}
end
noncomputable def zit (ty td:TE):TE:=fun σ H Q=>ty σ H fun y H1=>td σ H1 fun x H2=>∃a o,x=.ref a/\DGet H2 a y o/\Q (.bl (!o.isSome)) H2
noncomputable def zj4 (td ty tv:TE):TS:=fun D σ H=>tv σ H fun v H1=>td σ H1 fun x H2=>ty σ H2 fun y H3=>∃a H4,x=.ref a/\DPut H3 a y v H4/\D.nx σ H4
section
variable {X:Cx}{o i e value:Expr}{pos pos' tpos:Pos}{td ty tv:TE}
theorem zdZ (hu:X.A.units+1<cLine)(hi:PE X i ty)(ho:PE X o td):PC X .NotIn i o (zit ty td):=by
 intro pins s σ H Q I h
 refine thn (hi pins s σ H _ I h) fun iv s1 ⟨y,H1,I1,ry,q1⟩=>thn (ho pins s1 σ H1 _ I1 q1) fun u s2 ⟨x,H2,I2,rx,a,ov,ex,g,q2⟩=> ?_
 subst ex
 obtain rfl:u=Value.ref a:=rx
 exact zis hu I2 g ry fun s3 I3=>⟨.bl (!ov.isSome),H2,I3,rfl,q2⟩
theorem zgo (hu:X.A.units+1<cLine)(ho:PE X o td)(hi:PE X i ty)(hv:PE X value tv)(hs:swapsWith value (some (.Subscript o i pos')) pos.line X.env=pure false):
  PS X (.Assign [.Subscript o i pos'] value pos) (zj4 td ty tv):=by
 intro pins s σ H D I h
 refine wpAny_Assign_Subscript (thn (hv pins s σ H _ I h) fun r s1 ⟨v,H1,I1,rv,q1⟩=>thn (ho pins s1 σ H1 _ I1 q1) fun u s2 ⟨x,H2,I2,rx,q2⟩=>thn (hi pins s2 σ H2 _ I2 q2) fun iv s3 ⟨y,H3,I3,ry,a,H4,ex,g,q3⟩=> ?_) hs
 subst ex
 obtain rfl:u=Value.ref a:=rx
 exact zgn hu I3 g ry rv fun s4 I4=>⟨σ,H4,I4,q3⟩
end
theorem zhi {P:Program}{w:World}{H:Hp}(h:Heap)(hb:sysModules<h.objs.size):ObjOk P w H (h.push {cls:=.type "dict",data:=.dict #[]}) h.objs.size (.dK []):=
 ⟨Nat.zero_le _,beq_eq_false_iff_ne.mpr (Ne.symm (Nat.ne_of_lt hb)),[],.nil,Heap.DictOf.new h⟩
theorem ze2 {P:Program}{w:World}{H:Hp}(h:Heap)(hb:sysModules<h.objs.size):ObjOk P w H (h.push {cls:=.type "dict",data:=.dict #[]}) h.objs.size (.dT []):=
 ⟨Nat.zero_le _,beq_eq_false_iff_ne.mpr (Ne.symm (Nat.ne_of_lt hb)),[],.nil,_,#[],0,Heap.get?_push_size _ rfl,⟨rfl,rfl,rfl⟩,rfl,rfl,List.nodup_nil⟩
noncomputable def zjn:TE:=fun _ H Q=>∀p,H p=none->Q (.ref p) (upd H p (.dK []))
noncomputable def zjo:TE:=fun _ H Q=>∀p,H p=none->Q (.ref p) (upd H p (.dT []))
section
variable {X:Cx}{pos:Pos}
theorem zhj:PE X (.Dict [] [] pos) zjn:=fun pins s σ H Q I h=>
 wpAny_Dict_empty ⟨.ref s.heap.objs.size,_,I.laid (a:=s.heap.objs.size) (o:=.dK []) (t':=s.toks) (fun _ _ q=>Heap.get?_push_of_some _ q) (Nat.le_refl _) (zhi s.heap I.big),rfl,h _ (I.hok.fresh (Nat.le_refl _))⟩
theorem zhk:PE X (.Dict [] [] pos) zjo:=fun pins s σ H Q I h=>
 wpAny_Dict_empty ⟨.ref s.heap.objs.size,_,I.laid (a:=s.heap.objs.size) (o:=.dT []) (t':=s.toks) (fun _ _ q=>Heap.get?_push_of_some _ q) (Nat.le_refl _) (ze2 s.heap I.big),rfl,h _ (I.hok.fresh (Nat.le_refl _))⟩
end
structure M1 (X:Cx) (o:Expr) (m:Str) (apos:Pos) (e:Expr) (cpos:Pos):Prop where
 base:attributeBase o m X.env (eval o X.env)=eval o X.env
 few:((backTo cpos (starEach [e] X.env)).all (fun x=> !x.1)&&(backToKw cpos (keywordEach [] X.env)).all (fun x=>x.1.isSome)
  &&decide (([e]:List Expr).length+([]:List Keyword).length+(if ([]:List Keyword).isEmpty then 0 else 1)<30))=true
 line:(apos.endLine==cpos.line)=true
 trees:backTo cpos (starEach [e] X.env)=[(false,eval e X.env)]
structure M2 (X:Cx) (o:Expr) (m:Str) (apos:Pos) (e f:Expr) (cpos:Pos):Prop where
 base:attributeBase o m X.env (eval o X.env)=eval o X.env
 few:((backTo cpos (starEach [e,f] X.env)).all (fun x=> !x.1)&&(backToKw cpos (keywordEach [] X.env)).all (fun x=>x.1.isSome)
  &&decide (([e,f]:List Expr).length+([]:List Keyword).length+(if ([]:List Keyword).isEmpty then 0 else 1)<30))=true
 line:(apos.endLine==cpos.line)=true
 trees:backTo cpos (starEach [e,f] X.env)=[(false,eval e X.env),(false,eval f X.env)]
noncomputable def IsD (H:Hp)(a:Addr):Prop:=(∃kvs,Rd H a (.dK kvs))∨∃kvs,Rd H a (.dT kvs)
theorem zhW {X:Cx}{pins:List (Addr×Obj)}{σ:St}{H:Hp}{s:Shared}{a:Addr}(I:Inv X pins σ H s)(d:IsD H a):
  s.TypeIs (.ref a) "dict" /\(∀b,Value.ref a=.ref b->∃ob,s.heap.get? b=some ob/\ob.dict=none)/\(a==sysModules)=false:=by
 rcases d with⟨kvs,e⟩|⟨kvs,e⟩
 ·obtain ⟨_,hd,vs,_,dd⟩:=zhg I.hok e
  refine⟨dd.typeIs,fun b q=> ?_,hd⟩
  cases q
  obtain⟨ob,_,_,h1,h2,_⟩:=dd
  exact⟨ob,h1,h2.2.1⟩
 ·obtain ⟨_,hd,xs,_,dd⟩:=zhh I.hok e
  refine⟨dd.typeIs,fun b q=> ?_,hd⟩
  cases q
  obtain⟨ob,_,_,h1,h2,_⟩:=dd
  exact⟨ob,h1,h2.2.1⟩
section
variable {X:Cx}{pins:List (Addr×Obj)}{σ:St}{H:Hp}{s:Shared}{a:Addr}{y d:V}{u r:Value}{o:Option V}{A:Around}{E:Value->Shared->Prop}
theorem zjp {Q:Value->Shared->Prop}(hu:A.units+1<cLine)(I:Inv X pins σ H s)(g:DGet H a y o)(ry:RelV y u)(rd:RelV d r)(h:∀w' s',Inv X pins σ H s'->RelV (o.getD d) w'->Q w' s'):
  wpAny (model X.prog X.w) A (call (.builtin "dict.get") [.ref a,u,r]) Q E s:=by
 rcases g with⟨kvs,k,e,ey,l⟩|⟨kvs,k,b,e,ey,eb,l⟩
 ·subst ey
  obtain⟨z,hd,vs,rel,dd⟩:=zhg I.hok e
  refine call_meetsIn PySem.F.slot_dict_get dd.typeIs PySem.F.entry_dict_get (PySem.F.args_dict_get_3 _ _ _) (meets_dict_get_default (zaE X.prog X.w) a (zhf ry) hd r) ⟨_,dd.mapOf,h _ _ (I.tok _) ?_⟩
  rw[l]
  exact (rel.val k).getD rd
 ·subst ey
  cases (show u=Value.ref b from ry)
  obtain⟨z,hd,xs,rel,dd⟩:=zhh I.hok e
  refine call_meetsIn PySem.F.slot_dict_get dd.typeIs PySem.F.entry_dict_get (PySem.F.args_dict_get_3 _ _ _) (meetsH_dict_get_default (tupleKind (zaE X.prog X.w)) a b hd r) ⟨tupleKind_room_in1 hu,k,xs,zc3 I.hok eb,dd,h _ _ (I.tok _) ?_⟩
  rw[l]
  exact (rel.val k).getD rd
end
noncomputable def zjq (td ty tx:TE):TE:=fun σ H Q=>td σ H fun x H1=>∃a,x=.ref a/\IsD H1 a/\ty σ H1 fun y H2=>tx σ H2 fun z H3=>∃o,DGet H3 a y o/\Q (o.getD z) H3
section
variable {X:Cx}{o e f:Expr}{apos cpos:Pos}{td ty tx:TE}
theorem ze3 (hu:X.A.units+1<cLine)(ho:PE X o td)(he:PE X e ty)(hf:PE X f tx)(m:M2 X o "get" apos e f cpos):PE X (.Call (.Attribute o "get" apos) [e,f] [] cpos) (zjq td ty tx):=by
 intro pins s σ H Q I h
 refine wpAny_Call_method m.base m.few m.line PySem.F.plainAttrs_dict PySem.F.slot_dict_get PySem.F.type_dict_get (thn (ho pins s σ H _ I h) fun u s1 zq=> ?_)
 obtain⟨x,H1,I1,rx,a,ex,d,q1⟩:=zq
 subst ex
 obtain rfl:u=Value.ref a:=rx
 obtain⟨t1,t2,_⟩:=zhW I1 d
 refine⟨t1,t2, ?_⟩
 rw[m.trees]
 refine Calls.callWith_builtin rfl (Calls.evalArgs_plain (Calls.spliced_cons (thn (he pins s1 σ H1 _ I1 q1) fun iv s2 ⟨y,H2,I2,ry,q2⟩=>
  Calls.spliced_cons (thn (hf pins s2 σ H2 _ I2 q2) fun fv s3 ⟨z,H3,I3,rz,ov,g,q3⟩=>Calls.spliced_nil ?_))))
 exact zjp hu I3 g ry rz fun w' s4 I4 rw'=>⟨_,H3,I4,rw',q3⟩
end
section
variable {X:Cx}{pins:List (Addr×Obj)}{σ:St}{H:Hp}{s:Shared}{a:Addr}{kvs:List (Key×V)}{A:Around}{E:Value->Shared->Prop}
end
section
variable {X:Cx}{pins:List (Addr×Obj)}{σ:St}{H:Hp}{s:Shared}{a:Addr}{y:V}{u:Value}{A:Around}{E:Value->Shared->Prop}
end
noncomputable def RawD (h:Heap)(d:Addr)(es:Array DictEntry)(ep:Nat):Prop:=∃ob,h.get? d=some ob/\ob.ExactDict/\ob.data=.dict es ep
section
variable {prog:Program}{w:World}{A:Around}{E:Value->Shared->Prop}{s:Shared}{d it v:Addr}{es:Array DictEntry}{ep:Nat}
theorem zgp (hd:(d==sysModules)=false):MeetsIn prog w (Builtin.«dict.items» ⟨[.ref d],[]⟩) (fun _ R s=>s.TypeIs (.ref d) "dict" /\R (.ok (.ret (.ref s.heap.objs.size))) {s with heap:=s.heap.push {cls:=.type "dict_items",data:=.fields #[.ref d]}}):=
 .of_wp fun A R s h=>by
  obtain⟨ht,h⟩:=h
  unfold Builtin.«dict.items» Builtin.Dict.noArgs
  refine wpAny_bind (wpAny_bind (wpAny_notOrdered_dict ht (wpAny_pure ?_)))
  unfold Builtin.Dict.showsAll
  refine wpAny_bind ?_
  rw[if_neg (fun z=>by rw[hd] at z;cases z)]
  exact wpAny_pure (wpAny_bind (wpAny_newObj_type (wpAny_pure ⟨_,rfl,h⟩)))
theorem zhl {Q:Value->Shared->Prop}(hv:s.heap.get? v=some {cls:=.type "dict_items",data:=.fields #[.ref d]})(hm:RawD s.heap d es ep)
  (q:Q (.ref s.heap.objs.size) {s with heap:=s.heap.push {cls:=.type "dict_itemiterator",data:=.fields #[.none,.bool false,.ref d,.int 0 0,.int es.size 0,.int ep 0,.none,.none]}}):wpAny (model prog w) A (pyIter (.ref v)) Q E s:=by
 obtain⟨ob,ho,_,hdat⟩:=hm
 have tv:s.TypeIs (.ref v) "dict_items" :=⟨_,hv,rfl⟩
 refine wpAny_pyIter_slot tv F.slot_dict_items_iter (wpAny_call_entry F.slot_dict_items_iter tv F.entry_dict_items_iter ?_ (F.args_dict_items_iter_1 _))
 unfold Builtin.«dict_items.__iter__» Builtin.Dict_items.dictOf Builtin.Dict_items.newIterator
 refine wpAny_bind (wpAny_pure (wpAny_bind (wpAny_bind (wpAny_field hv rfl (x:=.ref d) rfl (wpAny_pure (wpAny_bind (wpAny_bind (wpAny_dictEntries ho hdat (wpAny_bind (wpAny_dictEpoch ho hdat ?_))))))))))
 have own:Builtin.Dict_items.ownsTuple "dict_itemiterator" =true:=by decide
 simp only[own,if_true]
 refine wpAny_newObj_type (wpAny_pure ⟨_,rfl, "dict_itemiterator",_,⟨_,Heap.get?_push_size _ rfl,rfl⟩,F.slot_dict_itemiterator_next.lookup, ?_⟩) (by
  simp only[sizeOk,Builtin.Dict_items.ownedTupleFields,List.size_toArray,List.length_append,List.length_cons,List.length_nil,sizeLine_eq]
  (first|lia|omega))
 simpa [rawInt,Builtin.Dict_items.ownedTupleFields] using q
theorem zhm {i:Nat}{e:DictEntry}{ok ov:Value}{Q:Option Value->Shared->Prop}(hit:IsItemIter s.heap it d i es.size ep ok ov)(hm:RawD s.heap d es ep)(hx:es[i]? =some e)
  (q:∀h',IsItemIterOut h' it d (i+1) es.size ep e.key e.val s.heap.objs.size->h'.get? s.heap.objs.size=some {cls:=.type "tuple",data:=.seq #[e.key,e.val]}->(∀b o,b≠it->s.heap.get? b=some o->h'.get? b=some o)->
   Q (some (.ref s.heap.objs.size)) {s with heap:=h'}):wpAny (model prog w) A (pyNext (.ref it)) Q E s:=by
 obtain⟨hp,g,dr,tk,os⟩:=s
 obtain⟨ob,hod,_,hdd⟩:=hm
 have tI:Shared.TypeIs ⟨hp,g,dr,tk,os⟩ (.ref it) "dict_itemiterator" :=⟨_,hit,rfl⟩
 have own:Builtin.Dict_items.ownsTuple "dict_itemiterator" =true:=by decide
 have hil:it<hp.objs.size:=Heap.lt_size hit
 unfold pyNext
 refine wpAny_bind (wpAny_attempt (wpAny_callSpecial?_slot (name:=Str.ofString "__next__") tI F.slot_dict_itemiterator_next (wpAny_call_entry F.slot_dict_itemiterator_next tI F.entry_dict_itemiterator_next ?_ (F.args_dict_itemiterator_next_1 _))))
 refine wpAny_bind (wpAny_pure (wpAny_bind (wpAny_bind ?_)))
 refine wpAny_bind (wpAny_typeNameOfWhole_itemiter tI (wpAny_pure (wpAny_bind (wpAny_fieldsOf hit rfl ?_))))
 simp only[own,if_true]
 show wpAny _ _ (if (Value.ref d==Value.none)=true then _ else _) _ _ _
 have nd:¬((Value.ref d==Value.none)=true):=Bool.false_ne_true
 rw[if_neg nd]
 refine wpAny_bind (wpAny_pure (wpAny_bind (wpAny_dictEntries hod hdd ?_)))
 rw[if_neg (by simp)]
 refine wpAny_bind (wpAny_pure (wpAny_bind (wpAny_dictEpoch hod hdd ?_)))
 rw[if_neg (by simp)]
 refine wpAny_pure ?_
 simp only[show ¬((i:Int)<0) by (first|lia|omega),if_false,Int.toNat_natCast,hx]
 refine wpAny_bind (wpAny_bind (wpAny_typeNameOfWhole_itemiter tI (wpAny_pure (wpAny_bind (wpAny_isOneOf_itemiter tI ?_)))))
 show wpAny _ _ (setField (.ref it) 3 (rawInt ((i:Int)+1)) >>= _) _ _ ⟨hp,g,dr,tk,os⟩
 refine wpAny_bind (wpAny_setField_rec hit (by simp) fun h1 (e1:_) (k1:Heap.SameBut it hp h1)=> ?_)
 have e1':IsItemIter h1 it d (i+1) es.size ep ok ov:=by
  unfold IsItemIter
  rw[show ((i+1:Nat):Int)=(i:Int)+1 by (first|lia|omega)]
  simpa [rawInt] using e1
 have t1:Shared.TypeIs ⟨h1,g,dr,tk,os⟩ (.ref it) "dict_itemiterator" :=⟨_,e1',rfl⟩
 refine wpAny_bind (wpAny_holding (wpAny_bind (wpAny_isOneOf_itemiter t1 (wpAny_bind (wpAny_isOneOf_itemiter t1 ?_)))))
 show wpAny _ _ (Builtin.Dict_items.pairFromOwner (.ref it) 6 e.key e.val) _ _ ⟨h1,g,dr,tk,os⟩
 unfold Builtin.Dict_items.pairFromOwner Builtin.Dict_items.ownedTupleIsFree
 have z1:h1.objs.size=hp.objs.size:=k1.1
 have e2:IsItemIter (h1.push {cls:=.type "tuple",data:=.seq #[e.key,e.val]}) it d (i+1) es.size ep ok ov:=Heap.get?_push_of_some _ e1'
 have t2:(h1.push {cls:=.type "tuple",data:=.seq #[e.key,e.val]}).get? hp.objs.size=some {cls:=.type "tuple",data:=.seq #[e.key,e.val]}:=by
  rw[<-z1]
  exact Heap.get?_push_size _ rfl
 have k2:∀b o,b≠it->hp.get? b=some o->(h1.push {cls:=.type "tuple",data:=.seq #[e.key,e.val]}).get? b=some o:=fun b o hb x=>Heap.get?_push_of_some _ (k1.extBut b o hb x)
 refine wpAny_bind (wpAny_newTuple ?_)
 show wpAny _ _ (_ >>= _) _ _ ⟨h1.push {cls:=.type "tuple",data:=.seq #[e.key,e.val]},g,dr,tk,os⟩
 rw[z1]
 generalize h1.push {cls:=.type "tuple",data:=.seq #[e.key,e.val]}=h2 at e2 t2 k2
 refine wpAny_bind (wpAny_bind (wpAny_field e2 rfl (x:=.none) rfl (wpAny_pure ?_)))
 simp only[if_true]
 refine wpAny_bind (wpAny_field e2 rfl (x:=ok) rfl (wpAny_bind (wpAny_field e2 rfl (x:=ov) rfl (wpAny_bind (wpAny_setField_rec e2 (by simp) fun h3 (e3:IsItemIter h3 it d (i+1) es.size ep e.key ov) (k3:Heap.SameBut it h2 h3)=> ?_)))))
 refine wpAny_bind (wpAny_setField_rec e3 (by simp) fun h4 (e4:IsItemIter h4 it d (i+1) es.size ep e.key e.val) (k4:Heap.SameBut it h3 h4)=> ?_)
 refine wpAny_bind (wpAny_setField_rec e4 (by simp) fun h5 (e5:IsItemIterOut h5 it d (i+1) es.size ep e.key e.val hp.objs.size) (k5:Heap.SameBut it h4 h5)=> ?_)
 refine wpAny_bind (wpAny_setField_rec e5 (by simp) fun h6 (e6:IsItemIterOut h6 it d (i+1) es.size ep e.key e.val hp.objs.size) (k6:Heap.SameBut it h5 h6)=> ?_)
 have k:∀b o,b≠it->h2.get? b=some o->h6.get? b=some o:=fun b o hb x=>k6.extBut b o hb (k5.extBut b o hb (k4.extBut b o hb (k3.extBut b o hb x)))
 exact wpAny_bind (wpAny_letGo (wpAny_pure (wpAny_pure ⟨_,rfl,wpAny_pure (q h6 e6 (k _ _ (Nat.ne_of_gt hil) t2) fun b o hb x=>k b o hb (k2 b o hb x))⟩)))
theorem ziu {i:Nat}{ok ov:Value}{Q:Option Value->Shared->Prop}(hh:A.handled=none)(hit:IsItemIter s.heap it d i es.size ep ok ov)(hm:RawD s.heap d es ep)(hx:es[i]? =none)
  (q:∀h',Heap.ExtBut it s.heap h'->Q none {s with heap:=h'}):wpAny (model prog w) A (pyNext (.ref it)) Q E s:=by
 obtain⟨ob,hod,_,hdd⟩:=hm
 have tI:s.TypeIs (.ref it) "dict_itemiterator" :=⟨_,hit,rfl⟩
 have own:Builtin.Dict_items.ownsTuple "dict_itemiterator" =true:=by decide
 unfold pyNext
 refine wpAny_bind (wpAny_attempt (wpAny_callSpecial?_slot (name:=Str.ofString "__next__") tI F.slot_dict_itemiterator_next (wpAny_call_entry F.slot_dict_itemiterator_next tI F.entry_dict_itemiterator_next ?_ (F.args_dict_itemiterator_next_1 _))))
 refine wpAny_bind (wpAny_pure (wpAny_bind (wpAny_bind ?_)))
 refine wpAny_bind (wpAny_typeNameOfWhole_itemiter tI (wpAny_pure (wpAny_bind (wpAny_fieldsOf hit rfl ?_))))
 simp only[own,if_true]
 show wpAny _ _ (if (Value.ref d==Value.none)=true then _ else _) _ _ s
 have nd:¬((Value.ref d==Value.none)=true):=Bool.false_ne_true
 rw[if_neg nd]
 refine wpAny_bind (wpAny_pure (wpAny_bind (wpAny_dictEntries hod hdd ?_)))
 rw[if_neg (by simp)]
 refine wpAny_bind (wpAny_pure (wpAny_bind (wpAny_dictEpoch hod hdd ?_)))
 rw[if_neg (by simp)]
 refine wpAny_pure ?_
 simp only[show ¬((i:Int)<0) by (first|lia|omega),if_false,Int.toNat_natCast,hx]
 refine wpAny_bind (wpAny_bind (wpAny_typeNameOfWhole_itemiter tI ?_))
 refine wpAny_pure (wpAny_bind (wpAny_setField hit rfl (by rw[own];simp) ?_))
 refine wpAny_bind ?_
 simp only[newExc,newTuple]
 refine wpAny_bind (wpAny_newObj_type (wpAny_bind (m:=firstArgMember _ _) (wpAny_of_eq (a:=Value.none) (by first|rfl|(simp only[firstArgMember];rfl)) (wpAny_newObj_type ?_ (by size_fits)))) (by size_fits))
 simp only[raiseNew]
 refine wpAny_bind (wpAny_handled ?_)
 rw[show A.in1.handled=none from hh]
 refine wpAny_bind (wpAny_pure (wpAny_throw ?_))
 refine wpAny_bind (wpAny_isInstance (T:= "StopIteration") (b:=true) ⟨_,Heap.get?_push_size _ rfl,rfl⟩ isSubtype_stop (wpAny_pure ?_))
 exact q _ (((Heap.SameBut.update ..).extBut.push _).push _)
end
theorem zd0 {α β:Type}{F:α->β->Prop}:∀{l₁:List α} {l₂:List β},Paired F l₁ l₂->∀{i:Nat} {a:α},l₁[i]? =some a->∃b,l₂[i]? =some b/\F a b
 |_,_,.nil,_,_,h=>by cases h
 |_,_,.cons p q,0,_,h=>by cases h;exact⟨_,rfl,p⟩
 |_,_,.cons p q,i+1,_,h=>zd0 q (i:=i) h
section
variable {X:Cx}{pins:List (Addr×Obj)}{σ:St}{H:Hp}{s:Shared}{a:Addr}{kvs:List (List Key×V)}{ob:Obj}
theorem Inv.freeze (I:Inv X pins σ H s)(e:H a=some (.dT kvs))(ho:s.heap.get? a=some ob):Inv X pins σ (upd H a (.frz ob (.dT kvs))) s:=by
 refine I.write (t':=s.toks) (h':=s.heap) (x:=a) (e:=a) (o:=.frz ob (.dT kvs)) (by rw[e];trivial) (.inl rfl) (fun _ _ _ q=>q) ⟨_,ho⟩ ⟨ho, ?_⟩
 refine (I.hok a _ e).stay (fun _ _ _ q=>q) (fun b q=> ?_) fun b xs q=> ?_
 ·rw[zah (fun z=>by rw[z,e] at q;cases q)];exact q
 ·rw[zah (fun z=>by rw[z,e] at q;cases q)];exact q
theorem Inv.froz (I:Inv X pins σ H s)(e:H a=some (.frz ob (.dT kvs))):s.heap.get? a=some ob/\∃xs:List (List Key×Addr×Value),Paired (fun (p:List Key×V) (q:List Key×Addr×Value)=>p.1=q.1/\H q.2.1=some (.tup (p.1.map kV))/\RelV p.2 q.2.2) kvs xs/\
  ∃es ep,ob.ExactDict/\ob.data=.dict es ep/\es.toList=xs.map (entryOfKey (tupleKind (zaE X.prog X.w))):=by
 obtain⟨ho,z,y,xs,rel,o',es,ep,e1,c,e2,e3,_⟩:=(show ObjOk X.prog X.w H s.heap a (.frz ob (.dT kvs)) from I.hok a _ e)
 rw[ho] at e1
 cases e1
 exact⟨ho,xs,rel,es,ep,c,e2,e3⟩
end
noncomputable def Itx (a:Addr)(ob:Obj):It:=
  ⟨fun i H=>∃kvs kv,H a=some (.frz ob (.dT kvs))/\kvs[i]? =some kv,
   fun i H x H'=>∃t b k v,H t=none/\x=.ref t/\H b=some (.tup (k.map kV))/\H'=upd H t (.tup [.ref b,v])/\∀kvs,H a=some (.frz ob (.dT kvs))->kvs[i]? =some (k,v),
   fun i H=>∃kvs,H a=some (.frz ob (.dT kvs))/\kvs.length=i⟩
theorem zfu {P:Program}{w:World}{K:PySem.W.Frag}{els:List Expr}{kx}{tp:Pos}(a it:Addr)(ob:Obj)(es:Array DictEntry)(ep:Nat)(hdat:ob.data=.dict es ep):
  Turn P w K (.Tuple els kx tp) (Itx a ob) [it] it (fun i h=>∃ok ov,IsItemIter h it a i es.size ep ok ov) where
 mem:=by simp
 obj:=fun i h st b hb=>by
  obtain⟨ok,ov,hi⟩:=st
  rw[List.mem_singleton.mp hb]
  exact⟨_,hi,fun v z=>by cases z⟩
 keep:=fun i h h' st k=>by
  obtain⟨ok,ov,hi⟩:=st
  exact⟨ok,ov,k it (by simp) _ hi⟩
 item:=by
  intro X hP hw hK hc i pins s σ H E I hf st hg
  subst hP hw hK
  obtain⟨kvs,⟨k,v⟩,hq,hx⟩:=hg
  obtain⟨ok,ov,hi⟩:=st
  obtain⟨ho,xs,rel,es',ep',c,e2,e3⟩:=I.froz hq
  rw[hdat] at e2
  cases e2
  obtain⟨⟨k',b,u⟩,hxs,r1,r2,r3⟩:=zd0 rel hx
  have hes:es[i]? =some (entryOfKey (tupleKind (zaE X.prog X.w)) (k',b,u)):=by
   rw[<-Array.getElem?_toList,e3,List.getElem?_map,hxs]
   rfl
  refine zhm hi ⟨ob,ho,c,hdat⟩ hes fun h1 ho1 ht1 hk1=>⟨_,rfl,wpAny_letOwnedTupleGo_items ho1 fun h2 he2 hs2=> ?_⟩
  have hne0:s.heap.objs.size≠it:=Nat.ne_of_gt (Heap.lt_size hi)
  have keep:∀b o,b∉[it]->s.heap.get? b=some o->h2.get? b=some o:=fun b o hb e0=>(hs2.2 b fun z=>hb (by simp[z])).trans (hk1 b o (fun z=>hb (by simp[z])) e0)
  have I':Inv X pins σ (upd H s.heap.objs.size (.tup [.ref b,v])) {s with heap:=h2,toks:=s.toks}:=I.turnedT (h':=h2) (t':=s.toks) (xs:=[.ref b,v]) (its:=[.ref b,u]) hf keep (.cons rfl (.cons r3 .nil)) ⟨_,(hs2.2 _ hne0).trans ht1,rfl,⟨_,rfl⟩,rfl,rfl⟩ (by show 2<=sizeLine;decide)
  refine⟨.ref s.heap.objs.size,_,I',rfl,⟨_,b,k,v,I.hok.fresh (Nat.le_refl _),rfl,r2,rfl,fun kvs' hy=> ?_⟩,⟨_,_,he2⟩,fun b' hb=> ?_⟩
  ·rw [hq] at hy
   cases hy
   exact hx
  ·have e9:=List.mem_singleton.mp hb
   subst e9
   rw[zah (Nat.ne_of_lt (Heap.lt_size hi))]
   exact (hf _ hb).1
 done:=by
  intro X hP hw hK hc i pins s σ H E I hf st hg
  subst hP hw hK
  obtain⟨kvs,hq,hl⟩:=hg
  obtain⟨ok,ov,hi⟩:=st
  obtain⟨ho,xs,rel,es',ep',c,e2,e3⟩:=I.froz hq
  rw[hdat] at e2
  cases e2
  have hsz:es.size=i:=by
   rw[<-Array.length_toList,e3,List.length_map,<-Paired.length rel,hl]
  refine ziu (I.ok.hd hc) hi ⟨ob,ho,c,hdat⟩ (Array.getElem?_eq_none (Nat.le_of_eq hsz)) fun h1 hk=>⟨rfl, ?_⟩
  exact I.turnedN (t':=s.toks) hf fun b o hb e0=>hk b o (fun z=>hb (by simp[z])) e0
 self:=fun _ _ _ _ _ st h=>by
  obtain⟨ok,ov,hi⟩:=st
  exact PySem.W.kcp_self hi h
noncomputable def zjr (td:TE):TI:=fun σ H R=>td σ H fun x H1=>∃a kvs,x=.ref a/\H1 a=some (.dT kvs)/\∀ob,R (Itx a ob) (upd H1 a (.frz ob (.dT kvs)))
section
variable {X:Cx}
theorem zhn {els:List Expr}{kx}{tp:Pos}{o:Expr}{td:TE}{apos cpos:Pos}(ho:PE X o td)(hbase:attributeBase o "items" X.env (eval o X.env)=eval o X.env:=by rfl)(hline:(apos.endLine==cpos.line)=true:=by rfl):
  PI X (.Tuple els kx tp) (.Call (.Attribute o "items" apos) [] [] cpos) (zjr td):=by
 intro pins s σ H R I h
 refine wpAny_Call_method0_late hbase hline (thn (ho pins s σ H _ I h) fun v s1 zq=> ?_)
 obtain⟨x,H1,I1,r1,a,kvs,ex,hd,q1⟩:=zq
 subst ex
 cases (show v=Value.ref a from r1)
 obtain⟨t1,t2,t3⟩:=zhW I1 (.inr ⟨kvs,.inl hd⟩)
 refine⟨"dict",_,PySem.F.plainAttrs_dict,PySem.F.slot_dict_items,PySem.F.type_dict_items,t1,t2,Calls.callWith_builtin rfl (PySem.evalArgs_none ?_)⟩
 refine call_meetsIn PySem.F.slot_dict_items t1 PySem.F.entry_dict_items (PySem.F.args_dict_items_1 _) (zgp t3) ⟨t1, ?_⟩
 obtain⟨z,y,xs,rel,ob,es,ep,e1,c,e2,e3,_⟩:=(show ObjOk X.prog X.w H1 s1.heap a (.dT kvs) from I1.hok a _ hd)
 have I2:Inv X pins σ H1 {s1 with heap:=s1.heap.push {cls:=.type "dict_items",data:=.fields #[.ref a]}}:=I1.kept (t':=s1.toks) fun b o e=>Heap.get?_push_of_some _ e
 have e1':(s1.heap.push {cls:=.type "dict_items",data:=.fields #[.ref a]}).get? a=some ob:=Heap.get?_push_of_some _ e1
 have hz:(s1.heap.push {cls:=.type "dict_items",data:=.fields #[.ref a]}).objs.size=s1.heap.objs.size+1:=Heap.size_push ..
 refine zhl (Heap.get?_push_size _ rfl) ⟨ob,e1',c,e2⟩ ?_
 have I3:=(I2.freeze hd e1').kept (t':=s1.toks) (h':=(s1.heap.push {cls:=.type "dict_items",data:=.fields #[.ref a]}).push {cls:=.type "dict_itemiterator",data:=.fields #[.none,.bool false,.ref a,.int 0 0,.int es.size 0,.int ep 0,.none,.none]}) fun b o e=>Heap.get?_push_of_some _ e
 refine⟨_,[_],_,_,_,rfl,I3,zfu a _ ob es ep e2,⟨_,_,Heap.get?_push_size _ rfl⟩,fun b hb=> ?_,q1 ob⟩
 rw[List.mem_singleton.mp hb]
 exact (I2.freeze hd e1').fpOk (Nat.le_refl _) ((I2.freeze hd e1').hok.fresh (Nat.le_refl _))
end
theorem zgq {a:Addr}{ob:Obj}{kvs:List (List Key×V)}{g:TG}{tb:TS}{D:Ends}{σ:L2.St}{H:Hp}(Pv:Nat->L2.St->Hp->Prop)(h0:Pv 0 σ H)(hl:∀i σ H,i<=kvs.length->Pv i σ H->H a=some (.frz ob (.dT kvs)))
  (hs:∀i k v t b σ H,kvs[i]? =some (k,v)->Pv i σ H->H t=none->H b=some (.tup (k.map kV))->g (.ref t) σ (upd H t (.tup [.ref b,v])) fun σ2 H2=>tb {D with nx:=Pv (i+1),ct:=Pv (i+1),bk:=D.nx} σ2 H2) (hd:∀σ H,Pv kvs.length σ H->D.nx σ H):
  ∃W:Nat->Nat->L2.St->Hp->Prop,(∃m,W 0 m σ H)/\∀i m σ H,W i m σ H->
   ((Itx a ob).stop i H/\D.nx σ H)∨((Itx a ob).go i H/\∃N:L2.St->Hp->Prop,(∀σ' H',N σ' H'->∃m',m'<m/\W (i+1) m' σ' H')/\∀x H',(Itx a ob).yld i H x H'->g x σ H' fun σ2 H2=>tb {D with nx:=N,ct:=N,bk:=D.nx} σ2 H2):=by
 refine⟨fun i m σ H=>m=kvs.length-i/\i<=kvs.length/\Pv i σ H,⟨kvs.length,by simp,Nat.zero_le _,h0⟩, ?_⟩
 rintro i m σ H ⟨rfl,hi,p⟩
 have q:=hl i σ H hi p
 by_cases hlt:i<kvs.length
 ·refine .inr ⟨⟨kvs,kvs[i],q,by simp[hlt]⟩,Pv (i+1),fun σ' H' p'=>⟨kvs.length-(i+1),by (first|lia|omega),rfl,hlt,p'⟩,fun x H' y=> ?_⟩
  obtain⟨t,b,k,v,y1,rfl,y2,rfl,y3⟩:=y
  exact hs i k v t b σ H (y3 kvs q) p y1 y2
 ·have e:i=kvs.length:=by (first|lia|omega)
  subst e
  exact .inl ⟨⟨kvs,q,rfl⟩,hd σ H p⟩
section
variable {X:Cx}
noncomputable def ziv (tk tv:TE):TE:=fun σ H Q=>∀p,H p=none->tk σ (upd H p (.dT [])) fun y H1=>tv σ H1 fun v H2=>∃b ks,y=.ref b/\H2 b=some (.tup (ks.map kV))/\H2 p=some (.dT [])/\Q (.ref p) (upd H2 p (.dT [(ks,v)]))
theorem zgr {k v:Expr}{pos:Pos}{tk tv:TE}(hu:X.A.units+1<cLine)(hk:PE X k tk)(hv:PE X v tv):PE X (.Dict [some k] [v] pos) (ziv tk tv):=by
 intro pins s σ H Q I q
 have hn:=I.hok.fresh (Nat.le_refl s.heap.objs.size)
 have I1:=I.laid (a:=s.heap.objs.size) (o:=.dT []) (h':=s.heap.push {cls:=.type "dict",data:=.dict #[]}) (t':=s.toks) (fun _ _ q=>Heap.get?_push_of_some _ q) (Nat.le_refl _) (ze2 s.heap I.big)
 refine wpAny_Dict_any rfl rfl (by simp) (by show 1<=15;decide) (pairTrees_cons_walk (thn (hk pins _ σ _ _ I1 (q _ hn)) fun u s1 ⟨y,H1,I2,ry,q1⟩=>thn (hv pins s1 σ H1 _ I2 q1) fun r s2 ⟨z,H2,I3,rz,b,ks,ey,eb,ep,q2⟩=>pairTrees_nil_walk ?_))
 subst ey
 cases (show u=Value.ref b from ry)
 obtain⟨z0,hd,xs,rel,dd⟩:=zjl I3.hok ep
 cases rel
 unfold storeAll
 rw[List.forIn_cons]
 refine wpAny_bind (wpAny_bind (wpAny_dictSet_heap (hsz:=Nat.zero_le _) (knd:=tupleKind (zaE X.prog X.w)) (show X.A.units<cLine by (first|lia|omega)) (zc3 I3.hok eb) dd fun h' dd' hs=>wpAny_pure ?_))
 refine wpAny_pure ⟨.ref s.heap.objs.size,_, ?_,rfl,q2⟩
 obtain⟨qo,es,epp,hq,h2,h3,h4,_,h5⟩:=dd'
 refine zet I3 (by rw[ep];exact True.intro) hs ⟨qo,hq⟩ ⟨by show 1<=sizeLine;decide,hd,_,KT.keeps (H:=H2) (xs:=[(ks,b,r)]) (.cons ⟨rfl,eb,rz⟩ .nil) fun c ys ec=> ?_,qo,es,epp,hq,h2,h3,by rw[h4];rfl,by simp⟩
 rw[zah (zfd ec ep (fun z=>nomatch z))]
 exact ec
end
noncomputable abbrev ShD:=List (List Int×Int)
noncomputable def putS (d:ShD)(k:List Int)(v:Int):ShD:=if d.any (fun kv=>kv.1==k) then d.map fun kv=>if kv.1==k then (kv.1,v) else kv else d++[(k,v)]
noncomputable def getS (d:ShD)(k:List Int):Int:=((d.find? fun kv=>kv.1==k).map (·.2)).getD 0
noncomputable def keyI (ks:List Int):List Key:=ks.map Sum.inl
noncomputable def dV (d:ShD):List (List Key×V):=d.map fun kv=>(keyI kv.1,V.int kv.2)
theorem zdo (ks:List Int):(keyI ks).map kV=ks.map V.int:=by
 unfold keyI
 rw[List.map_map]
 rfl
theorem ze4 {a b:List Int}(h:keyI a=keyI b):a=b:=by
 have:=congrArg (List.map fun k:Key=>match k with| .inl i=>i| .inr _=>0) h
 simpa [keyI,List.map_map,Function.comp_def] using this
theorem ze5 (a b:List Int):decide (keyI a=keyI b)=(a==b):=by
 by_cases h:a=b
 ·subst h;simp
 ·rw [decide_eq_false (fun e=>h (ze4 e))]
  exact (beq_eq_false_iff_ne.mpr h).symm
theorem zhX (d:ShD)(k:List Int):(valV (dV d) (keyI k)).getD (.int 0)=.int (getS d k):=by
 unfold valV dV getS
 rw[List.find?_map,Option.map_map]
 have e:((fun kv:List Key×V=>decide (kv.1=keyI k))∘fun kv:List Int×Int=>(keyI kv.1,V.int kv.2))=fun kv=>kv.1==k:=funext fun kv=>ze5 kv.1 k
 rw[e]
 cases d.find? fun kv=>kv.1==k<;>rfl
theorem zjs (d:ShD)(k:List Int)(v:Int):putK (dV d) (keyI k) (.int v)=dV (putS d k v):=by
 unfold putK putS dV
 rw[List.any_map]
 have e:((fun kv:List Key×V=>decide (kv.1=keyI k))∘fun kv:List Int×Int=>(keyI kv.1,V.int kv.2))=fun kv=>kv.1==k:=funext fun kv=>ze5 kv.1 k
 rw[e]
 cases h:d.any fun kv=>kv.1==k
 ·simp
 ·simp only[if_true,List.map_map]
  refine List.map_congr_left fun kv _=> ?_
  show (if keyI kv.1=keyI k then _ else _)=_
  by_cases c:kv.1=k
  ·rw [if_pos (by rw[c])]
   simp[c]
  ·rw [if_neg (fun e=>c (ze4 e))]
   simp[c]
theorem zho {H:Hp}{a:Addr}{kvs:List (List Key×V)}{o:HO}(h:H a=some (.dT kvs)):SameT H (upd H a o):=fun b zs e=>by
 rw[zah (fun z=>by rw[z,h] at e;cases e)]
 exact e
theorem ziw (ns:List Int)(k:Nat)(h:k<=ns.length):cutV (ns.map V.int) none (some (k:Int))=(ns.take k).map V.int:=by
 unfold cutV
 rw[HT.sIx_none,HT.sIx_nat,List.drop_zero,Nat.sub_zero,zaw,Nat.min_eq_left h,List.map_take]
end L2
namespace K21
open PySem PySem.Spec PyProof.Rows L2
noncomputable def top (i:Nat):Stmt:=PySem.Challenge.pw_shuffletold_k21_leans.main.body.getD i (.Pass ⟨0,0,0,0⟩)
end K21
namespace L2
open PySem PySem.Spec PyProof.Rows
structure TopX (mg:Str->Option Value):Prop where
 n_str:mg "str" =none
 n_repr:mg "repr" =none
 n_divmod:mg "divmod" =none
structure TopXK (K:PySem.W.Frag):Prop where
 k_str:PySem.W.nsIn K mainGlobals "str" =some none
 k_repr:PySem.W.nsIn K mainGlobals "repr" =some none
 k_divmod:PySem.W.nsIn K mainGlobals "divmod" =some none
theorem zhp {J:It}{Ok:Hp->Prop}{xs:List V}{tt:TT}{te:TE}{ix:List Nat}{σ:L2.St}{H1:Hp}{Q:VK}(Y:Yields J Ok xs)(small:xs.length<sizeLine)(p:V->Bool)(R:V->V->Hp->Prop)(hR:∀x v H H',SameT H H'->R x v H->R x v H')(hok:∀H,Same H1 H->Ok H)
  (ht:∀x∈xs,∀H,Same H1 H->∀Q':Bool->Hp->Prop,Q' (p x) H->tt (some x::ix.map fun i=>σ.getD i none) H Q')
  (he:∀x∈xs,p x=true->∀H,Same H1 H->∀Q':VK,(∀v H',Same H H'->R x v H'->Q' v H')->te (some x::ix.map fun i=>σ.getD i none) H Q')
  (fin:∀acc ys H',H1 acc=none->Same H1 H'->H' acc=some (.lst ys)->Paired (fun x v=>R x v H') (xs.filter p) ys->Q (.ref acc) H'):
  LcW J H1 (zaT 0) tt te 1 ix σ Q:=by
 intro acc ha
 refine⟨fun i m H=>m=xs.length-i/\i<=xs.length/\Same H1 H/\∃ys,H acc=some (.lst ys)/\Paired (fun x v=>R x v H) ((xs.take i).filter p) ys,⟨xs.length,by simp,Nat.zero_le _,zac ha,[],zab,.nil⟩, ?_⟩
 rintro i m H ⟨rfl,hi,sm,ys,hacc,pr⟩
 have o:=hok _ sm
 have hlen:ys.length<=i:=by
  rw[<-Paired.length pr]
  exact Nat.le_trans (List.length_filter_le _ _) (by rw[List.length_take];(first|lia|omega))
 by_cases hlt:i<xs.length
 ·refine .inr ⟨Y.go i _ o hlt,fun x H' y=> ?_⟩
  obtain⟨rfl,hx⟩:=Y.yld i _ x H' o hlt y
  have hmem:x∈xs:=List.mem_of_getElem? hx
  have htk:xs.take (i+1)=xs.take i++[x]:=by
   rw[List.take_succ,hx];rfl
  refine⟨⟨rfl,fun j v e=> ?_⟩, ?_⟩
  ·cases j with
   |zero=>cases e
   |succ j=>exact e
  ·refine ht x hmem _ sm _ ?_
   cases hp:p x with
   |false=>
    rw[if_neg Bool.false_ne_true]
    refine⟨xs.length-(i+1),by (first|lia|omega),rfl,hlt,sm,ys,hacc, ?_⟩
    rw[htk,List.filter_append]
    simpa [hp] using pr
   |true=>
    rw[if_pos rfl]
    refine he x hmem hp _ sm _ fun v H4 s4 r4=> ?_
    have h4:H4 acc=some (.lst ys):=s4 _ _ hacc
    refine⟨ys,h4,by (first|lia|omega),xs.length-(i+1),by (first|lia|omega),rfl,hlt,zav (sm.trans s4) ha,ys++[v],zab, ?_⟩
    have st:SameT H4 (upd H4 acc (.lst (ys++[v]))):=zbX h4
    rw[htk,List.filter_append,show [x].filter p=[x] by simp[hp]]
    exact Paired.snoc (Paired.mapP pr fun x' v' r'=>hR _ _ _ _ (s4.t.trans st) r') (hR _ _ _ _ st r4)
 ·have e:i=xs.length:=by (first|lia|omega)
  subst e
  refine .inl ⟨Y.stop _ o, ?_⟩
  rw[List.take_length] at pr
  exact fin acc ys H ha sm hacc pr
noncomputable def RTab (g:Int->List Int)(x v:V)(H:Hp):Prop:=∃(k:Int) (z:Addr),x=.int k/\v=.ref z/\H z=some (.tup ((g k).map V.int))
theorem ze6 {H:Hp}{g:Int->List Int}:∀{ks:List Int} {vs:List V},Paired (fun x v=>RTab g x v H) (ks.map V.int) vs->∃zs:List Addr,vs=zs.map V.ref/\RowsAt H zs (ks.map g)
 |[],_,.nil=>⟨[],rfl,.nil⟩
 |k::ks,_,.cons p t=>by
  obtain⟨k',z,e1,rfl,h⟩:=p
  cases e1
  obtain⟨zs,rfl,R⟩:=ze6 t
  exact⟨z::zs,rfl,.cons h R⟩
theorem Paired.append {α β:Type}{F:α->β->Prop}:∀{l1 l2:List α} {v1 v2:List β},Paired F l1 v1->Paired F l2 v2->Paired F (l1++l2) (v1++v2)
 |_,_,_,_,.nil,h=>h
 |_,_,_,_,.cons r t,h=>.cons r (Paired.append t h)
noncomputable abbrev Sm (x:Int)(n:Nat):Prop:=Builtin.Int.intBits x<=n
theorem Sm.of {x:Int}{n:Nat}(h:x.natAbs<2^n):Sm x n:=intBits_le_iff.mpr h
theorem Sm.lt {x:Int}{n:Nat}(h:Sm x n):x.natAbs<2^n:=intBits_le_iff.mp h
theorem Sm.mono {x:Int}{m n:Nat}(h:Sm x m)(k:m<=n):Sm x n:=Nat.le_trans h k
theorem Sm.mul {x y:Int}{m n:Nat}(h:Sm x m)(k:Sm y n):Sm (x*y) (m+n):=by
 refine Sm.of ?_
 rw[Int.natAbs_mul,Nat.pow_add]
 have h1:=h.lt
 have h2:=k.lt
 exact Nat.lt_of_le_of_lt (Nat.mul_le_mul_right _ (Nat.le_of_lt h1)) (Nat.mul_lt_mul_of_pos_left h2 (Nat.two_pow_pos _))
theorem Sm.le {x y:Int}{n:Nat}(h:Sm y n)(k:x.natAbs<=y.natAbs):Sm x n:=Sm.of (Nat.lt_of_le_of_lt k h.lt)
theorem zcS {X:Cx}:OpR X (binaryOp .Mult) (rI (fun i j=>Sm i 8000/\Sm j 8000) fun i j=>.int (i*j)):=opI fun _ _ _ _ _ _ _ hc q=>mul_int q (IntMulOk.of_le hc.1 hc.2 (by decide))
theorem zcy {X:Cx}:OpR X (binaryOp .FloorDiv) (rI (fun _ j=>0<j/\Sm j 8000) fun i j=>.int (i/j)):=opI fun i j _ _ _ _ _ hc q=>by
 have e:i/j=i.fdiv j:=(Int.fdiv_eq_ediv_of_nonneg _ (Int.le_of_lt hc.1)).symm
 rw[e] at q
 have h1:=hc.1
 refine floordiv_int (by (first|lia|omega)) q (.inl (PyProof.noPylong_of_log2 ?_))
 have h0:j.natAbs≠0:=by (first|lia|omega)
 rw[Nat.log2_lt h0]
 exact (hc.2.mono (by decide)).lt
noncomputable def gcdZ (a b:Int):Int:=(Int.gcd a b:Int)
noncomputable def lowZ (a b:Int):Int×Int:=(a/gcdZ a b,b/gcdZ a b)
theorem zb5 {a b:Int}(h:0<b):0<gcdZ a b:=by
 unfold gcdZ
 have:=Int.gcd_pos_of_ne_zero_right (a:=a) (b:=b) (by (first|lia|omega))
 (first|lia|omega)
theorem zgs {a b:Int}(h:0<b):gcdZ a b<=b:=Int.le_of_dvd h (Int.gcd_dvd_right ..)
theorem zd1 {a b:Int}(h:0<b):gcdZ b (a%b)=gcdZ a b:=by
 unfold gcdZ
 have e:a%b=a+b*(-(a/b)):=by
  have:=Int.mul_ediv_add_emod a b
  have e2:b*(-(a/b))=-(b*(a/b)):=Int.mul_neg ..
  (first|lia|omega)
 rw[e,Int.gcd_add_mul_left_right,Int.gcd_comm]
theorem zd2 {a:Int}(h:0<=a):gcdZ a 0=a:=by
 unfold gcdZ
 rw[Int.gcd_zero_right]
 (first|lia|omega)
theorem zhq (a b:Int):gcdZ (if a<0 then-a else a) b=gcdZ a b:=by
 unfold gcdZ Int.gcd
 congr 2
 split<;>(first|lia|omega)
theorem low1 {a b:Int}:(lowZ a b).1*gcdZ a b=a:=Int.ediv_mul_cancel (Int.gcd_dvd_left ..)
theorem low2 {a b:Int}:(lowZ a b).2*gcdZ a b=b:=Int.ediv_mul_cancel (Int.gcd_dvd_right ..)
theorem zix {a b:Int}(h:0<b):0<(lowZ a b).2:=by
 have h1:=zb5 (a:=a) h
 have h2:=low2 (a:=a) (b:=b)
 refine Int.pos_of_mul_pos_left ?_ h1
 rw[h2];exact h
theorem zhr {a b:Int}(h:0<b):(lowZ a b).1.natAbs<=a.natAbs:=by
 have h1:=low1 (a:=a) (b:=b)
 have h2:=zb5 (a:=a) h
 generalize (lowZ a b).1=x at*
 generalize gcdZ a b=g at*
 subst h1
 rw[Int.natAbs_mul]
 exact Nat.le_mul_of_pos_right _ (by (first|lia|omega))
theorem zhs {a b:Int}(h:0<b):(lowZ a b).2.natAbs<=b.natAbs:=by
 have h1:=low2 (a:=a) (b:=b)
 have h2:=zb5 (a:=a) h
 generalize (lowZ a b).2=x at*
 generalize gcdZ a b=g at*
 subst h1
 rw[Int.natAbs_mul]
 exact Nat.le_mul_of_pos_right _ (by (first|lia|omega))
noncomputable abbrev Shr (H:Hp)(z:Addr)(p:Int×Int):Prop:=H z=some (.tup [.int p.1,.int p.2])
structure ShB (p:Int×Int) (n:Nat):Prop where
 pos:0<p.2
 s1:Sm p.1 n
 s2:Sm p.2 n
theorem ShB.mono {p:Int×Int}{m n:Nat}(h:ShB p m)(k:m<=n):ShB p n:=⟨h.pos,h.s1.mono k,h.s2.mono k⟩
theorem ShB.low {a b:Int}{n:Nat}(h:0<b)(ha:Sm a n)(hb:Sm b n):ShB (lowZ a b) n:=⟨zix h,ha.le (zhr h),hb.le (zhs h)⟩
noncomputable def leZ (p q:Int×Int):Int×Int:=lowZ (p.1*q.2-q.1*p.2) (p.2*q.2)
noncomputable def tmZ (p q:Int×Int):Int×Int:=lowZ (p.1*q.1) (p.2*q.2)
noncomputable def ziy:Sp:=fun vs H Q _=>∃a b:Int,vs=[.int a,.int b]/\0<b/\Q (.int (gcdZ a b)) H
noncomputable def zfv:Sp:=fun vs H Q _=>∃a b:Int,vs=[.int a,.int b]/\0<b/\Sm b 8000/\∀z H',Same H H'->Shr H' z (lowZ a b)->Q (.ref z) H'
noncomputable def spSh (g:Int×Int->Int×Int->Int×Int):Sp:=fun vs H Q _=>∃(x y:Addr) (p q:Int×Int),vs=[.ref x,.ref y]/\Shr H x p/\Shr H y q/\ShB p 3900/\ShB q 3900/\∀z H',Same H H'->Shr H' z (g p q)->Q (.ref z) H'
end L2
namespace K21
open PySem PySem.Spec PyProof.Rows L2
noncomputable abbrev zaZ:Stmt:=top 4
noncomputable abbrev zcc:Stmt:=top 1
noncomputable abbrev zgt:Stmt:=top 2
noncomputable abbrev zeu:Stmt:=top 3
section
variable {P:Program}{w:World}{K:PySem.W.Frag}{mg:Str->Option Value}{base:Heap}
theorem sc_greatest_divisor:FnScope ["over", "under", "one", "other"] ["over", "under"] (zaf zaZ):=⟨rfl,rfl,rfl,by decide+kernel,rfl,by decide+kernel,by decide+kernel⟩
theorem zbS {f:Addr}{fd:FuncData}(F:Fun K "greatest_divisor" "greatest_divisor" zaZ f fd):FnOk P w K mg base CX0 1 f fd ["over", "under"] ziy:=by
 refine F.ok sc_greatest_divisor (fun vs H Q E h=> ?_) (fun cdv A outer s H vs Q E hr h=> ?_)
 ·obtain ⟨a,b,rfl,_⟩:=h
  rfl
 ·obtain ⟨a,b,rfl,hb,k⟩:=h
  refine⟨_,(zag (zcD (i:=2) (j:=3) rfl sc_greatest_divisor.nd rfl rfl (by decide) rfl rfl (zaa (pv 0) (zaa (pv 1) zad)) rfl)
   (zag (zcs PassesOwn.never (zaN zi3 (pv 3) zae (zaV _))
    (zai (zcD (i:=2) (j:=3) rfl sc_greatest_divisor.nd rfl rfl (by decide) rfl rfl (zaa (pv 3) (zaa (zaj zbO (pv 2) (pv 3)) zad)) rfl)))
   (zai (zan (pv 2))))), ?_⟩
  refine⟨_,rfl,_,rfl,_,_,rfl, ?_⟩
  refine⟨fun m σ G=>∃x y:Int,m=y.toNat/\σ=[some (.int a),some (.int b),some (.int x),some (.int y)]/\G=H/\0<=y/\(y=0->0<x)/\gcdZ x y=gcdZ a b,⟨_,a,b,rfl,rfl,rfl,by (first|lia|omega),by (first|lia|omega),rfl⟩, ?_⟩
  rintro m σ G ⟨x,y,rfl,rfl,rfl,y0,x0,e⟩
  refine⟨_,rfl,rfl,_,rfl, ?_⟩
  by_cases hy:y=0
  ·subst hy
   refine iteF ⟨_,rfl, ?_⟩
   rw[zd2 (Int.le_of_lt (x0 rfl))] at e
   rw[e]
   exact k
  ·rw [show (!decide (V.int y=V.int 0))=true from by rw[decide_eq_false (fun z=>hy (V.int.inj z))];rfl]
   refine iteT ⟨fun σ' G'=>∃x' y':Int,y'<y/\σ'=[some (.int a),some (.int b),some (.int x'),some (.int y')]/\G'=G/\0<=y'/\(y'=0->0<x')/\gcdZ x' y'=gcdZ a b, ?_, ?_⟩
   ·rintro σ' G' ⟨x',y',h1,h2,h3,h4,h5⟩
    exact⟨_,by (first|lia|omega),x',y',rfl,h2,h3,h4,h5⟩
   ·refine ⟨_,rfl,_,rfl,_,rfl,_,_,rfl,rfl,by (first|lia|omega),_,_,rfl, ?_⟩
    exact⟨_,_,Int.emod_lt_of_pos _ (by (first|lia|omega)),rfl,rfl,Int.emod_nonneg _ hy,fun _=>by (first|lia|omega),by rw[zd1 (by (first|lia|omega))];exact e⟩
theorem sc_share_of:FnScope ["over", "under", "both"] ["over", "under"] (zaf zcc):=⟨rfl,rfl,rfl,by decide+kernel,rfl,by decide+kernel,by decide+kernel⟩
theorem zev {f:Addr}{fd:FuncData}(F:Fun K "share_of" "share_of" zcc f fd)(Cgreatest_divisor:Cal P w K mg base 1 "greatest_divisor" ["over", "under"] ziy):FnOk P w K mg base CX0 2 f fd ["over", "under"] zfv:=by
 refine F.ok sc_share_of (fun vs H Q E h=> ?_) (fun cdv A outer s H vs Q E hr h=> ?_)
 ·obtain ⟨a,b,rfl,_⟩:=h
  rfl
 ·obtain ⟨a,b,rfl,hb,sb,k⟩:=h
  refine⟨_,(zag (zaq (i:=2) sc_share_of.nd rfl (Or.inl rfl) (zau Cgreatest_divisor (hr.mono (by decide)) rfl (zaa (pv 0) (zaa (pv 1) zad))))
   (zai (zan (zaz (zaa (zaj zcy (pv 0) (pv 2)) (zaa (zaj zcy (pv 1) (pv 2)) zad)))))), ?_⟩
  have g0:=zb5 (a:=a) hb
  have gs:Sm (gcdZ a b) 8000:=sb.le (by have:=zgs (a:=a) hb;(first|lia|omega))
  refine⟨_,rfl,_,rfl,a,b,rfl,hb, ?_⟩
  refine⟨_,rfl,_,rfl,_,_,rfl,rfl,⟨g0,gs⟩,_,rfl,_,rfl,_,_,rfl,rfl,⟨g0,gs⟩,by show 2<=sizeLine;decide,fun z hz=> ?_⟩
  exact k z _ (zac hz) zab
theorem ziz:FnScope ["one", "other"] ["one", "other"] (zaf zgt):=⟨rfl,rfl,rfl,by decide+kernel,rfl,by decide+kernel,by decide+kernel⟩
theorem ziA {f:Addr}{fd:FuncData}(F:Fun K "less" "less" zgt f fd)(Cshare_of:Cal P w K mg base 2 "share_of" ["over", "under"] zfv):FnOk P w K mg base CX0 3 f fd ["one", "other"] (spSh leZ):=by
 refine F.ok ziz (fun vs H Q E h=> ?_) (fun cdv A outer s H vs Q E hr h=> ?_)
 ·obtain ⟨x,y,p,q,rfl,_⟩:=h
  rfl
 ·obtain ⟨x,y,p,q,rfl,hx,hy,bp,bq,k⟩:=h
  refine⟨_,(zai (zan (zau Cshare_of (hr.mono (by decide)) rfl (zaa (zaj za0 (zaj zcS (zaF za8 (pv 0) zae (fun _ _=>rfl)) (zaF za8 (pv 1) zae (fun _ _=>rfl))) (zaj zcS (zaF za8 (pv 1) zae (fun _ _=>rfl)) (zaF za8 (pv 0) zae (fun _ _=>rfl)))) (zaa (zaj zcS (zaF za8 (pv 0) zae (fun _ _=>rfl)) (zaF za8 (pv 1) zae (fun _ _=>rfl))) zad))))), ?_⟩
  refine⟨_,rfl,x,_,0,_,rfl,rfl,SqT.of hx,zat (j:=0) rfl,_,rfl,y,_,1,_,rfl,rfl,SqT.of hy,zat (j:=1) rfl,_,_,rfl,rfl,⟨bp.s1.mono (by decide),bq.s2.mono (by decide)⟩,_,rfl,y,_,0,_,rfl,rfl,SqT.of hy,zat (j:=0) rfl,_,rfl,x,_,1,_,rfl,rfl,SqT.of hx,zat (j:=1) rfl,_,_,rfl,rfl,⟨bq.s1.mono (by decide),bp.s2.mono (by decide)⟩,_,_,rfl,rfl,_,rfl,x,_,1,_,rfl,rfl,SqT.of hx,zat (j:=1) rfl,_,rfl,y,_,1,_,rfl,rfl,SqT.of hy,zat (j:=1) rfl,_,_,rfl,rfl,⟨bp.s2.mono (by decide),bq.s2.mono (by decide)⟩,_,_,rfl,Int.mul_pos bp.pos bq.pos,(bp.s2.mul bq.s2).mono (by decide),fun z H2 s2 hz=>k z H2 s2 hz⟩
theorem zht:FnScope ["one", "other"] ["one", "other"] (zaf zeu):=⟨rfl,rfl,rfl,by decide+kernel,rfl,by decide+kernel,by decide+kernel⟩
theorem zhu {f:Addr}{fd:FuncData}(F:Fun K "times" "times" zeu f fd)(Cshare_of:Cal P w K mg base 2 "share_of" ["over", "under"] zfv):FnOk P w K mg base CX0 3 f fd ["one", "other"] (spSh tmZ):=by
 refine F.ok zht (fun vs H Q E h=> ?_) (fun cdv A outer s H vs Q E hr h=> ?_)
 ·obtain ⟨x,y,p,q,rfl,_⟩:=h
  rfl
 ·obtain ⟨x,y,p,q,rfl,hx,hy,bp,bq,k⟩:=h
  refine⟨_,(zai (zan (zau Cshare_of (hr.mono (by decide)) rfl (zaa (zaj zcS (zaF za8 (pv 0) zae (fun _ _=>rfl)) (zaF za8 (pv 1) zae (fun _ _=>rfl))) (zaa (zaj zcS (zaF za8 (pv 0) zae (fun _ _=>rfl)) (zaF za8 (pv 1) zae (fun _ _=>rfl))) zad))))), ?_⟩
  refine⟨_,rfl,x,_,0,_,rfl,rfl,SqT.of hx,zat (j:=0) rfl,_,rfl,y,_,0,_,rfl,rfl,SqT.of hy,zat (j:=0) rfl,_,_,rfl,rfl,⟨bp.s1.mono (by decide),bq.s1.mono (by decide)⟩,_,rfl,x,_,1,_,rfl,rfl,SqT.of hx,zat (j:=1) rfl,_,rfl,y,_,1,_,rfl,rfl,SqT.of hy,zat (j:=1) rfl,_,_,rfl,rfl,⟨bp.s2.mono (by decide),bq.s2.mono (by decide)⟩,_,_,rfl,Int.mul_pos bp.pos bq.pos,(bp.s2.mul bq.s2).mono (by decide),fun z H2 s2 hz=>k z H2 s2 hz⟩
end
noncomputable abbrev zbM:Stmt:=top 29
noncomputable abbrev zbT:Stmt:=top 30
section
variable {P:Program}{w:World}{K:PySem.W.Frag}{mg:Str->Option Value}{base:Heap}
theorem sc__law_pot:FnScope ["_law_script", "_law_seed", "_law_k", "_law_cell", "_law_far", "_law_turn"] ["_law_script"] (zaf zbM):=⟨rfl,rfl,rfl,by decide+kernel,rfl,by decide+kernel,by decide+kernel⟩
theorem zew {f:Addr}{fd:FuncData}(F:Fun K "_law_pot" "_law_pot" zbM f fd)(T:Top mg):FnOk P w K mg base CX0 1 f fd ["_law_script"] (zg9 K):=by
 refine F.ok sc__law_pot (fun vs H Q E h=> ?_) (fun cdv A outer s H vs Q E hr h=> ?_)
 ·obtain ⟨a,ns,rfl,_⟩:=h
  rfl
 ·obtain ⟨a,ns,rfl,hS,hl,k⟩:=h
  refine⟨_,(zag (zaq (i:=1) sc__law_pot.nd rfl (Or.inl rfl) zae)
   (zag (zbj PassesOwn.never rfl (zg6 rfl T.n_enumerate (zaa (zct zfW (pv 0) zeg (zcG zae)) zad)) (zdg (i:=2) (j:=3) rfl sc__law_pot.nd rfl rfl (Or.inl rfl) (Or.inl rfl) (Or.inl rfl) (Or.inl rfl))
    (zai (zaq (i:=1) sc__law_pot.nd rfl (Or.inl rfl) (zaj zbO (zaj zao (zaj zao (zaj zao (zaj zaI (pv 1) zae) (zaj zbO (pv 3) (zaj zfI zae zae))) (zaj zaI zae (pv 2))) zae) zae))))
   (zag (zaq (i:=4) sc__law_pot.nd rfl (Or.inr rfl) zae)
   (zag (zbj PassesOwn.never rfl (zaQ rfl T.n_range (zaa zae zad)) (zak (i:=5) sc__law_pot.nd rfl (Or.inl rfl))
    (zai (zaq (i:=4) sc__law_pot.nd rfl (Or.inr rfl) (zaj zin (pv 4) (zaj zfI zae zae)))))
   (zai (zan (zbd (zaa (zbq (N':=["_law_cell", "_law_far"]) (n:=1) (ix:=[4]) rfl (CompScope.of (sc:=zaf zbM) (N:=["_law_script", "_law_seed", "_law_k", "_law_cell", "_law_far", "_law_turn"]) (by decide+kernel) rfl rfl) (za1 (zct zfW (pv 0) zeg (zcG zae))) (fun _ _ _ _ _=>⟨(zak (i:=0) (show (["_law_cell", "_law_far"]:List Str).Nodup by decide+kernel) rfl (Or.inl rfl)),(zca (zaN zjS (zal zda (by rfl) T.n_abs boot_abs (zaa (pv 0) zad)) (zaj zfI zae zae) (zaV _))),(zaj zbO (zal zda (by rfl) T.n_abs boot_abs (zaa (pv 0) zad)) (pv 1))⟩)) (zaa (pv 1) (zaa zae zad)))))))))), ?_⟩
  have hcut:∃ms:List Int,cutV (ns.map V.int) none (some 63)=ms.map V.int/\ms.length<=63:=by
   refine⟨(ns.drop (HT.sIx (ns.map V.int).length 0 none)).take (HT.sIx (ns.map V.int).length (ns.map V.int).length (some 63)-HT.sIx (ns.map V.int).length 0 none), ?_, ?_⟩
   ·unfold cutV
    rw[List.map_take,List.map_drop]
   ·rw[List.length_take,List.length_drop];(first|lia|omega)
  obtain⟨ms,ecut,hms⟩:=hcut
  refine⟨_,rfl,63,rfl,a,_,rfl,hS,fun p hp=>⟨p,rfl,⟨_,SqL.of zab⟩, ?_⟩⟩
  have s1:=zac (o:=.lst (cutV (ns.map V.int) none (some 63))) hp
  refine zga (K:=K) (a:=p) (xs:=ms.map V.int) (fun i σ H2=>∃(seed:Int) (c2 c3:Option V),σ=[some (.ref a),some (.int seed),c2,c3,none,none]/\Same H H2/\H2 p=some (.lst (ms.map V.int))) ⟨1000003,none,none,rfl,s1,by rw[zab,ecut]⟩ (fun i σ H2 _ h=>by obtain⟨_,_,_,_,_,h⟩:=h;exact SqL.of h) ?_ ?_
  ·rintro i y t σ H2 hi ⟨seed,c2,c3,rfl,sm,hp2⟩ ht
   obtain⟨z,_,rfl⟩:=List.mem_map.mp (List.mem_of_getElem? hi)
   have st:=zac (o:=.tup [.int (i:Int),.int z]) ht
   refine⟨t,_,rfl,SqT.of zab,rfl,_,_,rfl,_,_,rfl,rfl, ?_⟩
   refine⟨_,rfl,_,_,rfl,rfl,.inr ⟨by decide,by decide⟩,_,rfl,_,_,rfl,rfl,⟨by decide,by decide,by decide⟩,_,_,rfl,rfl,(by show (0:Int)<10^(40:Int).toNat;decide),_,_,rfl,rfl,_,rfl,_,_,rfl,rfl,.inl ⟨by decide,by decide⟩,_,_,rfl,rfl,_,_,rfl,rfl,_,_,rfl,rfl,(by show (0:Int)<2305843009213693951;decide), ?_⟩
   exact⟨_,_,_,rfl,sm.trans st,st _ _ hp2⟩
  ·rintro σ H2 ⟨seed,c2,c3,rfl,sm,hp2⟩
   refine⟨15,rfl,by decide,by decide, ?_⟩
   refine zbm (n:=15) (fun i σ H3=>∃c5:Option V,σ=[some (.ref a),some (.int seed),c2,c3,some (.int (((10:Int)^(60:Int).toNat)^i)),c5]/\Same H H3) ⟨none,rfl,sm⟩ ?_ ?_
   ·rintro i σ H3 hi ⟨c5,rfl,sm3⟩
    refine⟨_,rfl,_,_,rfl,rfl,⟨by decide,by decide,by decide⟩,_,_,rfl,rfl,zha i (by (first|lia|omega)), ?_⟩
    refine⟨some (.int (0+(i:Int))), ?_,sm3⟩
    rw[Int.pow_succ]
    rfl
   ·rintro σ H3 ⟨c5,rfl,sm3⟩
    refine⟨_,rfl,63,rfl,a,_,rfl,sm3.seq hS,fun p' hp'=>⟨p',rfl,⟨_,SqL.of zab⟩, ?_⟩⟩
    have u1:=zac (o:=.lst (cutV (ns.map V.int) none (some 63))) hp'
    rw[ecut]
    have hfar:(0:Int)<((10:Int)^(60:Int).toNat)^15:=Int.pow_pos (Int.pow_pos (by decide))
    refine zcJ (zbr (xs:=ms.map V.int)) (za5 (by rw[zaw];(first|lia|omega))) (fun v=>match v with| .int n=>decide (10^(18:Int).toNat<=(if n<0 then-n else n))|_=>false) (fun v=>match v with| .int n=>.int ((if n<0 then-n else n)%((10:Int)^(60:Int).toNat)^15)|v=>v) (fun H' s'=>SqL.of (s' _ _ zab)) (fun x hx H' s' Q' q=> ?_) (fun x hx _ H' s' Q' q=> ?_) fun acc hacc=> ?_
    ·obtain ⟨n,_,rfl⟩:=List.mem_map.mp hx
     exact⟨_,rfl,n,rfl,_,_,rfl,rfl,⟨by decide,by decide,by decide⟩,_,_,rfl,rfl,_,rfl,q⟩
    ·obtain ⟨n,_,rfl⟩:=List.mem_map.mp hx
     exact⟨_,rfl,n,rfl,_,rfl,_,_,rfl,rfl,hfar,q⟩
    ·refine ⟨_,rfl,(by show 3<=sizeLine;decide),fun r hr'=> ?_⟩
     have nacc:r≠acc:=fun z=>by rw[z,zab] at hr';cases hr'
     have u1':=zac (o:=.lst (ms.map V.int)) hp'
     have hacc1:H acc=none:=sm3.free (u1'.free hacc)
     have hr1:H r=none:=sm3.free (u1'.free ((zac hacc).free hr'))
     refine k r acc _ ?_ ?_ hr1 hacc1
     ·exact ((sm3.trans u1').trans (zac hacc)).trans (zac hr')
     ·refine ⟨(ms.filter fun n=>decide (10^(18:Int).toNat<=(if n<0 then-n else n))).map fun n=>(if n<0 then-n else n)%((10:Int)^(60:Int).toNat)^15,seed,0,zab, ?_,fun n hn=> ?_, ?_⟩
      ·rw [zah (Ne.symm nacc),zab,List.filter_map,List.map_map,List.map_map]
       rfl
      ·obtain ⟨c,_,rfl⟩:=List.mem_map.mp hn
       exact Int.emod_nonneg _ (by (first|lia|omega))
      ·rw [List.length_map]
       exact Nat.le_trans (List.length_filter_le _ _) hms
theorem ziB {n j:Nat}(h:j<n):ixN n (j:Int)=some j:=by
 unfold ixN
 rw[if_pos (by (first|lia|omega)),if_pos (by (first|lia|omega))]
 rfl
theorem ziC {H:Hp}{q e:Addr}{ns:List Int}{Q:VK}(hq:H q=some (.lst (ns.map V.int)))(he:H e=none)(h:Q (.bl (!ns.isEmpty)) (upd H e (.lst []))):rNeD (.ref q) (.ref e) (upd H e (.lst [])) Q:=by
 refine⟨_,_,.lst (by rw[zah (zam hq he)];exact hq) (IsAll.ints ns),.lst zab .nil,zcj ns,zcj [], ?_⟩
 have e1:PyData.eqv (.list (ns.map PyData.int)) (.list [])=ns.isEmpty:=by
  show PyData.eqvAll (ns.map PyData.int) []=_
  cases ns with
  |nil=>simp[PyData.eqvAll]
  |cons a r=>simp[PyData.eqvAll]
 rw[e1]
 exact h
theorem sc__law_take:FnScope ["_law_pot_here", "_law_many", "_law_number", "_law_high"] ["_law_pot_here", "_law_many"] (zaf zbT):=⟨rfl,rfl,rfl,by decide+kernel,rfl,by decide+kernel,by decide+kernel⟩
theorem zd3 {f:Addr}{fd:FuncData}(F:Fun K "_law_take" "_law_take" zbT f fd):FnOk P w K mg base CX0 1 f fd ["_law_pot_here", "_law_many"] zeZ:=by
 refine F.ok sc__law_take (fun vs H Q E h=> ?_) (fun cdv A outer s H vs Q E hr h=> ?_)
 ·obtain ⟨p,q,m,rfl,_⟩:=h
  rfl
 ·obtain ⟨p,q,m,rfl,hm0,hm1,hh,k⟩:=h
  have hu:_:=hr.units
  refine⟨_,(zag (zcs PassesOwn.never (PW.pt (zhN (zaN (zf7 hu) (zaF zaR (pv 0) zae (fun _ _=>rfl)) (zbd zad) (zaV _)) (zfD (zaN zc8 (zaF zaR (zaF zaR (pv 0) zae (fun _ _=>rfl)) zae (fun _ _=>rfl)) zae (zaV _)))))
    (zai (zc6 (zgV PySem.F.plainAttrs_list PySem.F.slot_list_pop PySem.F.type_list_pop zgX (zaF zaR (pv 0) zae (fun _ _=>rfl)) (zaa zae zad)))))
   (zag (zcT (zaN (zf7 hu) (zaF zaR (pv 0) zae (fun _ _=>rfl)) (zbd zad) (zaV _))
    (zag (zaq (i:=2) sc__law_take.nd rfl (Or.inl rfl) (zaF zaR (zaF zaR (pv 0) zae (fun _ _=>rfl)) zae (fun _ _=>rfl)))
    (zag (zcC (zaj zc7 (pv 2) (pv 1)) (zeK (zaF zaR (pv 0) zae (fun _ _=>rfl)) zae zcu))
    (zai (zan (zaj zbO (pv 2) (pv 1))))))
    zbl)
   (zag (zcC (zaj zao (zaF zaR (pv 0) zae (fun _ _=>rfl)) zae) (zeK (pv 0) zae zcu))
   (zag (zcC (zaj zbO (zaj zaI (zaF zaR (pv 0) zae (fun _ _=>rfl)) zae) zae) (zeK (pv 0) zae zcu))
   (zag (zcC (zaj zbO (zaj zao (zaj zao (zaF zaR (pv 0) zae (fun _ _=>rfl)) (zaj zaI zae (zaF zaR (pv 0) zae (fun _ _=>rfl)))) zae) zae) (zeK (pv 0) zae zcu))
   (zag (zaq (i:=3) sc__law_take.nd rfl (Or.inl rfl) (zaj zc7 (zaF zaR (pv 0) zae (fun _ _=>rfl)) zae))
   (zai (zan (zaj zbO (zaj zao (zaj zaI (pv 3) (zaj zao (zaj zbO (pv 3) zae) zae)) (zaj zc7 (pv 3) zae)) (pv 1)))))))))), ?_⟩
  refine⟨fun n σ H1=>∃(ns:List Int) (seed turn:Int),n=ns.length/\σ=[some (.ref p),some (.int m),none,none]/\H1 p=some (.lst [.ref q,.int seed,.int turn])/\H1 q=some (.lst (ns.map V.int))/\(∀n∈ns,0<=n)/\ns.length<=63/\Keep p q H H1, ?_, ?_⟩
  ·obtain ⟨ns,seed,turn,h1,h2,h3,h4⟩:=hh
   exact⟨_,ns,seed,turn,rfl,rfl,h1,h2,h3,h4,Keep.refl _ _ _⟩
  rintro n σ H1 ⟨ns,seed,turn,rfl,rfl,hp,hq,hn,hlen,kp⟩
  refine⟨_,rfl,p,_,0,_,rfl,rfl,SqL.of hp,zat (j:=0) rfl,Nat.zero_le _,fun e he=>ziC hq he ⟨_,rfl, ?_⟩⟩
  have hnpq:p≠q:=Pot.ne ⟨ns,seed,turn,hp,hq,hn,hlen⟩
  have hp1:(upd H1 e (.lst [])) p=some (.lst [.ref q,.int seed,.int turn]):=by rw[zah (zam hp he)];exact hp
  have hq1:(upd H1 e (.lst [])) q=some (.lst (ns.map V.int)):=by rw[zah (zam hq he)];exact hq
  have kp1:Keep p q H (upd H1 e (.lst [])):=kp.trans (zac he).keep
  cases ns with
  | nil=>
   refine iteF ?_
   refine iteF ?_
   refine⟨_,rfl,p,_,0,_,rfl,rfl,SqL.of hp1,zat (j:=0) rfl,Nat.zero_le _,fun e' he'=>ziC hq1 he' ⟨_,rfl, ?_⟩⟩
   have hp3:(upd (upd H1 e (.lst [])) e' (.lst [])) p=some (.lst [.ref q,.int seed,.int turn]):=by rw[zah (zam hp1 he')];exact hp1
   have hq3:(upd (upd H1 e (.lst [])) e' (.lst [])) q=some (.lst (([]:List Int).map V.int)):=by rw[zah (zam hq1 he')];exact hq1
   have kp3:Keep p q H (upd (upd H1 e (.lst [])) e' (.lst [])):=kp1.trans (zac he').keep
   refine iteF ?_
   refine⟨_,rfl,p,_,2,_,rfl,rfl,SqL.of hp3,zat (j:=2) rfl,_,_,rfl,rfl,_,rfl,p,_,2,2,rfl,rfl,hp3,rfl, ?_⟩
   refine⟨_,rfl,p,_,1,_,rfl,rfl,SqL.of zab,zat (j:=1) rfl,_,_,rfl,rfl,.inr ⟨by decide,by decide⟩,_,_,rfl,rfl,(by show (0:Int)<2305843009213693951;decide),_,rfl,p,_,1,1,rfl,rfl,zab,rfl, ?_⟩
   refine⟨_,rfl,p,_,1,_,rfl,rfl,SqL.of zab,zat (j:=1) rfl,_,rfl,p,_,2,_,rfl,rfl,SqL.of zab,zat (j:=2) rfl,_,_,rfl,rfl,.inl ⟨by decide,by decide⟩,_,_,rfl,rfl,_,_,rfl,rfl,_,_,rfl,rfl,(by show (0:Int)<2305843009213693951;decide),_,rfl,p,_,1,1,rfl,rfl,zab,rfl, ?_⟩
   refine⟨_,rfl,p,_,1,_,rfl,rfl,SqL.of zab,zat (j:=1) rfl,_,_,rfl,rfl,⟨by decide,by decide⟩, ?_⟩
   refine⟨_,rfl,_,rfl,_,_,rfl,rfl,(by show (0:Int)<1021;decide),_,_,rfl,rfl,_,_,rfl,rfl,.inr ?_,_,rfl,_,_,rfl,rfl,⟨by decide,by decide⟩,_,_,rfl,rfl,_,rfl,_,_,rfl,rfl,hm0, ?_⟩
   ·refine ⟨?_, ?_⟩
    ·exact Int.lt_of_lt_of_le (by decide) (Int.add_le_add (Int.emod_nonneg _ (by decide)) (Int.le_refl 2))
    ·exact Int.lt_trans (Int.add_lt_add_right (Int.emod_lt_of_pos _ (by decide:(0:Int)<1021)) 2) (by decide)
   ·refine k _ _ (Int.emod_nonneg _ (by (first|lia|omega))) (Int.emod_lt_of_pos _ hm0) ⟨[],_,_,zab,by rw[zah (Ne.symm hnpq),zah (Ne.symm hnpq),zah (Ne.symm hnpq)];exact hq3,hn,by simp⟩ ?_
    exact kp3.trans fun b o hb h1 _=>by rw[zah h1,zah h1,zah h1];exact hb
  | cons x r=>
   refine iteT ?_
   refine⟨_,rfl,p,_,0,_,rfl,rfl,SqL.of hp1,zat (j:=0) rfl,q,_,0,_,rfl,rfl,SqL.of hq1,zat (j:=0) rfl,rfl,_,rfl, ?_⟩
   refine ite2 (fun hz=> ?_) (fun hz=> ?_)
   ·refine ⟨fun σ' H'=>∃(ns:List Int) (seed turn:Int),ns.length<(x::r).length/\σ'=[some (.ref p),some (.int m),none,none]/\H' p=some (.lst [.ref q,.int seed,.int turn])/\H' q=some (.lst (ns.map V.int))/\(∀n∈ns,0<=n)/\ns.length<=63/\Keep p q H H', ?_, ?_⟩
    ·rintro σ' H' ⟨ns',seed',turn',hlt,h1,h2,h3,h4,h5,h6⟩
     exact⟨_,hlt,ns',seed',turn',rfl,h1,h2,h3,h4,h5,h6⟩
    ·refine ⟨_,rfl,p,_,0,_,rfl,rfl,SqL.of hp1,zat (j:=0) rfl,.inl ⟨rfl,_,SqL.of hq1⟩,q,_,0,0,_,rfl,rfl,hq1,by decide,by decide,(by simp[seqIndex?]),rfl, ?_⟩
     refine⟨r,seed,turn,by simp,rfl,by rw[zah hnpq];exact hp1,by rw[zab];rfl,fun y hy=>hn y (List.mem_cons_of_mem _ hy),by have:(x::r).length=r.length+1:=rfl;(first|lia|omega), ?_⟩
     exact kp1.trans fun b o hb _ h2=>by rw[zah h2];exact hb
   ·refine ⟨_,rfl,p,_,0,_,rfl,rfl,SqL.of hp1,zat (j:=0) rfl,Nat.zero_le _,fun e' he'=>ziC hq1 he' ⟨_,rfl, ?_⟩⟩
    have hp3:(upd (upd H1 e (.lst [])) e' (.lst [])) p=some (.lst [.ref q,.int seed,.int turn]):=by rw[zah (zam hp1 he')];exact hp1
    have hq3:(upd (upd H1 e (.lst [])) e' (.lst [])) q=some (.lst ((x::r).map V.int)):=by rw[zah (zam hq1 he')];exact hq1
    have kp3:Keep p q H (upd (upd H1 e (.lst [])) e' (.lst [])):=kp1.trans (zac he').keep
    refine iteT ?_
    have hx0:0<=x:=hn x List.mem_cons_self
    refine⟨_,rfl,p,_,0,_,rfl,rfl,SqL.of hp3,zat (j:=0) rfl,q,_,0,_,rfl,rfl,SqL.of hq3,zat (j:=0) rfl, ?_⟩
    refine⟨_,rfl,_,rfl,_,_,rfl,rfl,⟨hm0,hm1⟩,_,rfl,p,_,0,_,rfl,rfl,SqL.of hp3,zat (j:=0) rfl,q,_,0,0,rfl,rfl,hq3,ziB (j:=0) (by simp), ?_⟩
    refine⟨_,rfl,_,rfl,_,_,rfl,rfl,hm0, ?_⟩
    refine k _ _ (Int.emod_nonneg _ (by (first|lia|omega))) (Int.emod_lt_of_pos _ hm0) ⟨(x/m)::r,seed,turn,by rw[zah hnpq];exact hp3,by rw[zab];rfl,fun y hy=> ?_,by simpa using hlen⟩ ?_
    ·rcases List.mem_cons.mp hy with rfl|hy
     ·exact Int.ediv_nonneg hx0 (by (first|lia|omega))
     ·exact hn y (List.mem_cons_of_mem _ hy)
    ·exact kp3.trans fun b o hb _ h2=>by rw[zah h2];exact hb
noncomputable abbrev zbU:Stmt:=top 7
theorem zd4:FnScope ["row", "place"] ["row", "place"] (zaf zbU):=⟨rfl,rfl,rfl,by decide+kernel,rfl,by decide+kernel,by decide+kernel⟩
theorem zd5 {f:Addr}{fd:FuncData}(F:Fun K "number_at" "number_at" zbU f fd)(T:Top mg):FnOk P w K mg base CX0 1 f fd ["row", "place"] (zcQ K):=by
 refine F.ok zd4 (fun vs H Q E h=> ?_) (fun cdv A outer s H vs Q E hr h=> ?_)
 ·obtain ⟨a,ns,k,rfl,_⟩:=h
  rfl
 ·obtain ⟨a,ns,k,rfl,ha,q⟩:=h
  refine⟨_,(zai (zan (zgQ (zgR zjR zfM zae (pv 1) (zal zap (by rfl) T.n_len boot_len (zaa (pv 0) zad))) (zaF za8 (pv 0) (pv 1) (fun _ _=>rfl)) zae))), ?_⟩
  refine⟨_,rfl,_,_,rfl,rfl,_,rfl, ?_⟩
  by_cases h0:0<=k
  ·rw [if_pos (by simpa using h0)]
   refine⟨_,rfl,a,_,rfl,.inr ha,_,_,rfl,rfl,_,rfl, ?_⟩
   rw[List.length_map]
   by_cases h1:k<(ns.length:Int)
   ·rw [decide_eq_true h1]
    refine iteT ⟨_,rfl,_,rfl,a,_,_,_,rfl,rfl,ha,zbR h0 h1, ?_⟩
    rw[zjg h0]
    exact q
   ·rw [decide_eq_false h1]
    rw[zjh (by (first|lia|omega))] at q
    exact iteF q
  ·rw [if_neg (by simpa using h0)]
   refine⟨_,rfl, ?_⟩
   rw[zhV (by (first|lia|omega))] at q
   exact iteF q
noncomputable abbrev zbk:Stmt:=top 8
noncomputable abbrev zbs:Stmt:=top 9
noncomputable abbrev zbt:Stmt:=top 10
theorem zdp:FnScope ["many", "ahead"] ["many", "ahead"] (zaf zbk):=⟨rfl,rfl,rfl,by decide+kernel,rfl,by decide+kernel,by decide+kernel⟩
theorem zd6:FnScope ["many", "ahead"] ["many", "ahead"] (zaf zbs):=⟨rfl,rfl,rfl,by decide+kernel,rfl,by decide+kernel,by decide+kernel⟩
theorem zd7:FnScope ["many", "ahead"] ["many", "ahead"] (zaf zbt):=⟨rfl,rfl,rfl,by decide+kernel,rfl,by decide+kernel,by decide+kernel⟩
theorem zdq {f:Addr}{fd:FuncData}(F:Fun K "rounds_row" "rounds_row" zbk f fd)(T:Top mg)(Cnumber_at:Cal P w K mg base 1 "number_at" ["row", "place"] (zcQ K)):FnOk P w K mg base CX0 2 f fd ["many", "ahead"] (zcq K 60 zbD):=by
 refine F.ok zdp (fun vs H Q E h=> ?_) (fun cdv A outer s H vs Q E hr h=> ?_)
 ·obtain ⟨m,a,ns,rfl,_⟩:=h
  rfl
 ·obtain ⟨m,a,ns,rfl,m1,m2,ha,hl,k⟩:=h
  refine⟨_,(zai (zan (zaA zaK (by rfl) T.n_tuple boot_tuple (zaa (zbq (N':=["k", "ahead", "many"]) (n:=1) (ix:=[1,0]) rfl (CompScope.of (sc:=zaf zbk) (N:=["many", "ahead"]) (by decide+kernel) rfl rfl) (zaQ rfl T.n_range (zaa (zaj zao (pv 0) zae) zad)) (fun _ _ _ _ _=>⟨(zak (i:=0) (show (["k", "ahead", "many"]:List Str).Nodup by decide+kernel) rfl (Or.inl rfl)),zaP,(zaj zao (zau Cnumber_at (hr.mono (by decide)) rfl (zaa (pv 1) (zaa (zaj za0 (pv 0) zae) zad))) (zaj zaI (zaj za0 (pv 2) zae) (zau Cnumber_at (hr.mono (by decide)) rfl (zaa (pv 1) (zaa (pv 0) zad)))))⟩)) zad)))), ?_⟩
  refine⟨_,rfl,_,_,rfl,rfl,_,rfl,by (first|lia|omega),by (first|lia|omega), ?_⟩
  refine zf9 (n:=m+1) (fun k=>atZ ns (k-1)+((m:Int)-1)*atZ ns k) (by (first|lia|omega)) (fun k k0 k1 H' s' Q' q=> ?_) fun acc hacc=> ?_
  ·exact⟨_,rfl,_,rfl,_,_,rfl,rfl,a,ns,_,rfl,s'.seqT ha,_,rfl,_,_,rfl,rfl,_,rfl,_,rfl,a,ns,_,rfl,s'.seqT ha,_,_,rfl,rfl,zbb (by (first|lia|omega)) (by (first|lia|omega)),_,_,rfl,rfl,q⟩
  ·refine ⟨acc,_,rfl,.inl ⟨SqL.of zab,fun p hp=> ?_⟩⟩
   exact k p _ ((zac hacc).trans (zac hp)) zab
theorem zd8 {f:Addr}{fd:FuncData}(F:Fun K "stays_row" "stays_row" zbs f fd)(T:Top mg)(Cnumber_at:Cal P w K mg base 1 "number_at" ["row", "place"] (zcQ K)):FnOk P w K mg base CX0 2 f fd ["many", "ahead"] (zcq K 60 zb2):=by
 refine F.ok zd6 (fun vs H Q E h=> ?_) (fun cdv A outer s H vs Q E hr h=> ?_)
 ·obtain ⟨m,a,ns,rfl,_⟩:=h
  rfl
 ·obtain ⟨m,a,ns,rfl,m1,m2,ha,hl,k⟩:=h
  refine⟨_,(zai (zan (zaA zaK (by rfl) T.n_tuple boot_tuple (zaa (zbq (N':=["k", "ahead", "many"]) (n:=1) (ix:=[1,0]) rfl (CompScope.of (sc:=zaf zbs) (N:=["many", "ahead"]) (by decide+kernel) rfl rfl) (zaQ rfl T.n_range (zaa (zaj zao (pv 0) zae) zad)) (fun _ _ _ _ _=>⟨(zak (i:=0) (show (["k", "ahead", "many"]:List Str).Nodup by decide+kernel) rfl (Or.inl rfl)),zaP,(zaj zao (zaj zao (zau Cnumber_at (hr.mono (by decide)) rfl (zaa (pv 1) (zaa (zaj za0 (pv 0) zae) zad))) (zaj zaI (zaj za0 (zaj za0 (pv 2) zae) (pv 0)) (zau Cnumber_at (hr.mono (by decide)) rfl (zaa (pv 1) (zaa (pv 0) zad))))) (zaj zaI (zaj zao (pv 0) zae) (zau Cnumber_at (hr.mono (by decide)) rfl (zaa (pv 1) (zaa (zaj zao (pv 0) zae) zad)))))⟩)) zad)))), ?_⟩
  refine⟨_,rfl,_,_,rfl,rfl,_,rfl,by (first|lia|omega),by (first|lia|omega), ?_⟩
  refine zf9 (n:=m+1) (fun k=>atZ ns (k-1)+((m:Int)-1-k)*atZ ns k+(k+1)*atZ ns (k+1)) (by (first|lia|omega)) (fun k k0 k1 H' s' Q' q=> ?_) fun acc hacc=> ?_
  ·refine ⟨_,rfl,_,rfl,_,_,rfl,rfl,a,ns,_,rfl,s'.seqT ha,_,rfl,_,_,rfl,rfl,_,rfl,_,_,rfl,rfl,_,rfl,_,rfl,a,ns,_,rfl,s'.seqT ha,_,_,rfl,rfl,zbb (by (first|lia|omega)) (by (first|lia|omega)),_,_,rfl,rfl, ?_⟩
   exact⟨_,rfl,_,_,rfl,rfl,_,rfl,_,rfl,_,_,rfl,rfl,a,ns,_,rfl,s'.seqT ha,_,_,rfl,rfl,zbb (by (first|lia|omega)) (by (first|lia|omega)),_,_,rfl,rfl,q⟩
  ·refine ⟨acc,_,rfl,.inl ⟨SqL.of zab,fun p hp=> ?_⟩⟩
   exact k p _ ((zac hacc).trans (zac hp)) zab
theorem zd9 {f:Addr}{fd:FuncData}(F:Fun K "rises_row" "rises_row" zbt f fd)(T:Top mg)(Cnumber_at:Cal P w K mg base 1 "number_at" ["row", "place"] (zcQ K)):FnOk P w K mg base CX0 2 f fd ["many", "ahead"] (zcq K 60 zb3):=by
 refine F.ok zd7 (fun vs H Q E h=> ?_) (fun cdv A outer s H vs Q E hr h=> ?_)
 ·obtain ⟨m,a,ns,rfl,_⟩:=h
  rfl
 ·obtain ⟨m,a,ns,rfl,m1,m2,ha,hl,k⟩:=h
  refine⟨_,(zai (zan (zaA zaK (by rfl) T.n_tuple boot_tuple (zaa (zbq (N':=["k", "ahead", "many"]) (n:=1) (ix:=[1,0]) rfl (CompScope.of (sc:=zaf zbt) (N:=["many", "ahead"]) (by decide+kernel) rfl rfl) (zaQ rfl T.n_range (zaa (pv 0) zad)) (fun _ _ _ _ _=>⟨(zak (i:=0) (show (["k", "ahead", "many"]:List Str).Nodup by decide+kernel) rfl (Or.inl rfl)),zaP,(zaj zao (zaj zaI (zaj zao (pv 0) zae) (zau Cnumber_at (hr.mono (by decide)) rfl (zaa (pv 1) (zaa (pv 0) zad)))) (zaj zaI (zaj za0 (pv 2) (pv 0)) (zau Cnumber_at (hr.mono (by decide)) rfl (zaa (pv 1) (zaa (zaj za0 (pv 0) zae) zad)))))⟩)) zad)))), ?_⟩
  refine⟨_,rfl,_,rfl,by (first|lia|omega),by (first|lia|omega), ?_⟩
  refine zf9 (n:=m) (fun k=>(k+1)*atZ ns k+((m:Int)-k)*atZ ns (k-1)) (by (first|lia|omega)) (fun k k0 k1 H' s' Q' q=> ?_) fun acc hacc=> ?_
  ·refine ⟨_,rfl,_,_,rfl,rfl,_,rfl,_,rfl,a,ns,_,rfl,s'.seqT ha,_,_,rfl,rfl,zbb (by (first|lia|omega)) (by (first|lia|omega)), ?_⟩
   exact⟨_,rfl,_,rfl,_,_,rfl,rfl,_,rfl,_,rfl,_,_,rfl,rfl,a,ns,_,rfl,s'.seqT ha,_,_,rfl,rfl,zbb (by (first|lia|omega)) (by (first|lia|omega)),_,_,rfl,rfl,q⟩
  ·refine ⟨acc,_,rfl,.inl ⟨SqL.of zab,fun p hp=> ?_⟩⟩
   exact k p _ ((zac hacc).trans (zac hp)) zab
noncomputable abbrev za9:Stmt:=top 11
theorem zcV:FnScope ["many", "ahead"] ["many", "ahead"] (zaf za9):=⟨rfl,rfl,rfl,by decide+kernel,rfl,by decide+kernel,by decide+kernel⟩
theorem zjt {m:Nat}(h:m<=24):m*(m-1)/2<=276:=by
 have:m*(m-1)<=24*23:=Nat.mul_le_mul h (by (first|lia|omega))
 (first|lia|omega)
theorem zhv {m:Nat}(h:1<=m):(m:Int)*((m:Int)-1)/2+1=((m*(m-1)/2+1:Nat):Int):=by
 rw[show ((m:Int)-1)=((m-1:Nat):Int) by (first|lia|omega)]
 push_cast
 rfl
theorem zcW {f:Addr}{fd:FuncData}(F:Fun K "crossed_row" "crossed_row" za9 f fd)(T:Top mg):FnOk P w K mg base CX0 2 f fd ["many", "ahead"] (zcq K 24 zbn):=by
 refine F.ok zcV (fun vs H Q E h=> ?_) (fun cdv A outer s H vs Q E hr h=> ?_)
 ·obtain ⟨m,a,ns,rfl,_⟩:=h
  rfl
 ·obtain ⟨m,a,ns,rfl,m1,m2,ha,hl,k⟩:=h
  have t1:=zjt m2
  refine⟨_,(zai (zan (zaA zaK (by rfl) T.n_tuple boot_tuple (zaa (zbq (N':=["k", "ahead", "many"]) (n:=1) (ix:=[1,0]) rfl (CompScope.of (sc:=zaf za9) (N:=["many", "ahead"]) (by decide+kernel) rfl rfl) (zaQ rfl T.n_range (zaa (zaj zao (zaj zc7 (zaj zaI (pv 0) (zaj za0 (pv 0) zae)) zae) zae) zad)) (fun _ _ _ _ _=>⟨(zak (i:=0) (show (["k", "ahead", "many"]:List Str).Nodup by decide+kernel) rfl (Or.inl rfl)),zaP,(zal (zfs K rfl rfl) (by rfl) T.n_sum boot_sum (zaa (zct (zhb K rfl) (pv 1) (zcG (zal (zfN rfl) (by rfl) T.n_max boot_max (zaa zae (zaa (zaj zao (zaj za0 (pv 0) (pv 2)) zae) zad)))) (zcG (zaj zao (pv 0) zae))) zad))⟩)) zad)))), ?_⟩
  refine⟨_,rfl,_,rfl,_,_,rfl,rfl,_,_,rfl,rfl,zbb (by (first|lia|omega)) (by (first|lia|omega)),_,_,rfl,rfl,⟨by decide,by decide⟩,_,_,rfl,rfl,_,rfl, ?_⟩
  rw[zhv m1]
  refine⟨by (first|lia|omega),by (first|lia|omega), ?_⟩
  refine zir (fun k=>win ns (k-(m:Int)+1) m) (by (first|lia|omega)) (fun k k0 k1 H' s' Q' q=> ?_) fun acc H' hacc sm hys=> ?_
  ·refine ⟨_,rfl,_,rfl,_,rfl,_,_,rfl,rfl,_,_,rfl,rfl,_,_,rfl,_,rfl,_,rfl,_,_,rfl,rfl,_,rfl, ?_⟩
   refine⟨a,_,rfl,s'.seqT ha,fun p H2 s2 hp=> ?_⟩
   rw[show (if k-(m:Int)+1>0 then k-(m:Int)+1 else 0)=(((k-(m:Int)+1).toNat:Nat):Int) by split<;>(first|lia|omega),show k+1=((k+1).toNat:Int) by (first|lia|omega),zgj] at hp
   refine⟨p,_,rfl,hp, ?_⟩
   rw[zgh]
   have e:=zgi ns (k-(m:Int)+1) m
   rw[show max (k-(m:Int)+1) 0=((k-(m:Int)+1).toNat:Int) by (first|lia|omega),show m-(-(k-(m:Int)+1)).toNat=(k+1).toNat-(k-(m:Int)+1).toNat by (first|lia|omega)] at e
   rw[<-e]
   exact q H2 s2
  ·refine ⟨acc,_,rfl,.inl ⟨SqL.of hys,fun p hp=> ?_⟩⟩
   exact k p _ (sm.trans (zac hp)) zab
noncomputable abbrev zcd:Stmt:=top 13
noncomputable abbrev zgu:Stmt:=top 15
noncomputable abbrev zex:Stmt:=top 16
theorem sc_next_row:FnScope ["kind", "many", "ahead", "row"] ["kind", "many", "ahead"] (zaf zcd):=⟨rfl,rfl,rfl,by decide+kernel,rfl,by decide+kernel,by decide+kernel⟩
theorem ziD:FnScope ["kind", "many"] ["kind", "many"] (zaf zgu):=⟨rfl,rfl,rfl,by decide+kernel,rfl,by decide+kernel,by decide+kernel⟩
theorem sc_steps:FnScope ["kind", "many", "rows", "size"] ["kind", "many"] (zaf zex):=⟨rfl,rfl,rfl,by decide+kernel,rfl,by decide+kernel,by decide+kernel⟩
theorem zey {f C f1 f2 f3 f5:Addr}{fd:FuncData}(F:Fun K "next_row" "next_row" zcd f fd)(hC:mg "ROWS" =some (.ref C))(GD:GDict K w.params C [("rounds",f1),("stays",f2),("rises",f3),("highs",f1),("crossed",f5)])
  (c1:CalF P w K mg base 2 f1 ["many", "ahead"] (zcq K 60 zbD)) (c2:CalF P w K mg base 2 f2 ["many", "ahead"] (zcq K 60 zb2)) (c3:CalF P w K mg base 2 f3 ["many", "ahead"] (zcq K 60 zb3)) (c5:CalF P w K mg base 2 f5 ["many", "ahead"] (zcq K 24 zbn)):FnOk P w K mg base CX0 3 f fd ["kind", "many", "ahead"] (zgk K):=by
 refine F.ok sc_next_row (fun vs H Q E h=> ?_) (fun cdv A outer s H vs Q E hr h=> ?_)
 ·obtain ⟨kind,m,a,ns,rfl,_⟩:=h
  rfl
 ·obtain ⟨kind,m,a,ns,rfl,hk,m1,m2,ha,hl,k⟩:=h
  refine⟨_,(zag (zaq (i:=3) sc_next_row.nd rfl (Or.inl rfl) (zaF zjZ (zef (v:=.ref C) rfl hC rfl) (pv 0) (fun _ _=>rfl)))
   (zai (zan (zeX (k:=2) (pv 3) hr (zaa (pv 1) (zaa (pv 2) zad)))))), ?_⟩
  rcases zcm hk with rfl|rfl|rfl|rfl|rfl
  ·exact⟨_,rfl,C,_,_,f1,rfl,rfl,GD,rfl,_,rfl,f1,_,_,rfl,c1,_,rfl,_,rfl,m,a,ns,rfl,m1,m2,ha,hl,k⟩
  ·exact⟨_,rfl,C,_,_,f2,rfl,rfl,GD,rfl,_,rfl,f2,_,_,rfl,c2,_,rfl,_,rfl,m,a,ns,rfl,m1,m2,ha,hl,k⟩
  ·exact⟨_,rfl,C,_,_,f3,rfl,rfl,GD,rfl,_,rfl,f3,_,_,rfl,c3,_,rfl,_,rfl,m,a,ns,rfl,m1,m2,ha,hl,k⟩
  ·exact⟨_,rfl,C,_,_,f1,rfl,rfl,GD,rfl,_,rfl,f1,_,_,rfl,c1,_,rfl,_,rfl,m,a,ns,rfl,m1,m2,ha,hl,k⟩
  ·exact⟨_,rfl,C,_,_,f5,rfl,rfl,GD,rfl,_,rfl,f5,_,_,rfl,c5,_,rfl,_,rfl,m,a,ns,rfl,m1,m2,ha,hl,k⟩
theorem zhw {f FR:Addr}{fd:FuncData}(F:Fun K "steps" "steps" zex f fd)(T:Top mg)(hFR:mg "FIRST_ROW" =some (.ref FR))(hF:∀H,SqT K H FR ([1].map V.int))(Cnext_row:Cal P w K mg base 3 "next_row" ["kind", "many", "ahead"] (zgk K)):FnOk P w K mg base CX0 4 f fd ["kind", "many"] (zes K):=by
 refine F.ok sc_steps (fun vs H Q E h=> ?_) (fun cdv A outer s H vs Q E hr h=> ?_)
 ·obtain ⟨kind,m,rfl,_⟩:=h
  rfl
 ·obtain ⟨kind,m,rfl,hk,hm,k⟩:=h
  have hb:=zjj kind
  refine⟨_,(zag (zaq (i:=2) sc_steps.nd rfl (Or.inl rfl) (zbd (zaa (zef (v:=.ref FR) rfl hFR rfl) zad)))
   (zag (zbj PassesOwn.never rfl (zcE rfl T.n_range (zaa zae (zaa (zaj zao (pv 1) zae) zad))) (zak (i:=3) sc_steps.nd rfl (Or.inl rfl))
    (zai (zc6 (zgV PySem.F.plainAttrs_list PySem.F.slot_list_append PySem.F.type_list_append zbB (pv 2) (zaa (zau Cnext_row (hr.mono (by decide)) rfl (zaa (pv 0) (zaa (pv 3) (zaa (zaF zaR (pv 2) (zjQ zi2 zae) (fun _ _=>rfl)) zad)))) zad)))))
   (zai (zan (zaA zaK (by rfl) T.n_tuple boot_tuple (zaa (pv 2) zad)))))), ?_⟩
  refine⟨by show 1<=sizeLine;decide,fun l hl=> ?_⟩
  have s1:=zac (o:=.lst [.ref FR]) hl
  refine⟨_,rfl,_,_,rfl,rfl,_,_,rfl,⟨by decide,by decide,by (first|lia|omega),by (first|lia|omega)⟩, ?_⟩
  rw[show ((m:Int)+1-1).toNat=m by (first|lia|omega)]
  refine zbm (fun i σ H2=>∃(zs:List Addr) (c3:Option V),σ=[some (.str kind),some (.int m),some (.ref l),c3]/\Same H H2/\H2 l=some (.lst (zs.map V.ref))/\RowsK K H2 zs (zdk kind i)) ?_ ?_ ?_
  ·exact⟨[FR],none,rfl,s1,zab,.cons (hF _) .nil⟩
  ·rintro i σ H2 hi ⟨zs,c3,rfl,sm,hl2,R⟩
   have ez:zs.length=i+1:=by rw[Paired.length R,zgm]
   obtain⟨z,hz,hzr⟩:=R.get (i:=i) (r:=rowZ kind i) (by unfold zdk;simp)
   refine⟨_,rfl,.inl ⟨rfl,_,SqL.of hl2⟩, ?_⟩
   refine⟨_,rfl,_,rfl,_,rfl,_,rfl,l,_,_,(.ref z),rfl,rfl,SqL.of hl2, ?_, ?_⟩
   ·have hzl:zs.length-1=i:=by (first|lia|omega)
    show atI (zs.map V.ref) (-1)=some (V.ref z)
    rw[zhd (by rw[List.length_map];(first|lia|omega)),List.length_map,hzl,List.getElem?_map,hz]
    rfl
   refine⟨kind,i+1,z,rowZ kind i, ?_,hk,by (first|lia|omega),by (first|lia|omega),hzr,Nat.le_trans (zdl (by (first|lia|omega))) (by decide),fun p H3 s3 hp=> ?_⟩
   ·rw[show (1:Int)+(i:Int)=((i+1:Nat):Int) by (first|lia|omega)]
   refine⟨l,_,_,rfl,rfl,s3 _ _ hl2,za5 (by rw[List.length_map];(first|lia|omega)),zs++[p],_,rfl,zav (sm.trans s3) hl, ?_, ?_⟩
   ·rw [zab,List.map_append]
    rfl
   ·rw [zft]
    exact Paired.snoc ((R.same s3).updL (s3 _ _ hl2)) (ze1 (SqT.of hp) (s3 _ _ hl2))
  ·rintro σ H2 ⟨zs,c3,rfl,sm,hl2,R⟩
   refine⟨_,rfl,l,_,rfl,.inl ⟨SqL.of hl2,fun p hp=> ?_⟩⟩
   exact k p zs _ (sm.trans (zac hp)) zab (R.same (zac hp))
theorem ziE {f:Addr}{fd:FuncData}(F:Fun K "told" "told" zgu f fd)(T:Top mg)(Csteps:Cal P w K mg base 4 "steps" ["kind", "many"] (zes K)):FnOk P w K mg base CX0 5 f fd ["kind", "many"] (ze0 K):=by
 refine F.ok ziD (fun vs H Q E h=> ?_) (fun cdv A outer s H vs Q E hr h=> ?_)
 ·obtain ⟨kind,m,rfl,_⟩:=h
  rfl
 ·obtain ⟨kind,m,rfl,hk,hm,k⟩:=h
  refine⟨_,(zag (zcT (zaN zc8 (pv 0) zcB (zaV _))
    zdJ
    zbl)
   (zai (zan (zaF za8 (zau Csteps (hr.mono (by decide)) rfl (zaa (pv 0) (zaa (pv 1) zad))) (pv 1) (fun _ _=>rfl))))), ?_⟩
  have hne:¬kind= "longest" :=by
   rcases zcm hk with rfl|rfl|rfl|rfl|rfl<;>decide
  refine⟨_,rfl,rfl,_,rfl, ?_⟩
  rw[decide_eq_false (fun e=>hne (V.str.inj e))]
  refine iteF ?_
  refine⟨_,rfl,_,rfl,kind,m,rfl,hk,hm,fun p zs H' s' hp R=> ?_⟩
  obtain⟨z,hz,hzr⟩:=R.get (i:=m) (r:=rowZ kind m) (by unfold zdk;simp)
  refine⟨_,rfl,p,_,_,(.ref z),rfl,rfl,SqT.of hp,zat (by rw[List.getElem?_map,hz];rfl), ?_⟩
  exact k z H' s' hzr
end
end K21
namespace L2
open PySem PySem.Spec PyProof.Rows
noncomputable def nmP:Nat->Str×Str
 |0=>("rounds", "stays")
 |1=>("rises", "highs")
 |_=>("highs", "crossed")
noncomputable def onZ (i n:Nat)(f s:Int):List (List Int):=match i with
 |0=>[[f+1,s+1,1],[f,s-1,s],[f,s,(n:Int)-s]]
 |1=>if n=0 then [[0,1,1]] else [[f+1,s+1,1],[f,s,f+1],[f+1,s,(n:Int)-1-f]]
 |_=>[f+1,s,1]::(List.range n).map fun (a:Nat)=>[f,s+((a:Int)+1),1]
noncomputable def keyT (t:List Int):List Int:=[t.getD 0 0,t.getD 1 0]
noncomputable def addP (w:Int)(d:ShD)(t:List Int):ShD:=putS d (keyT t) (getS d (keyT t)+w*t.getD 2 0)
noncomputable def zdr (i n:Nat)(d:ShD)(kv:List Int×Int):ShD:=(onZ i n (kv.1.getD 0 0) (kv.1.getD 1 0)).foldl (addP kv.2) d
noncomputable def ziF (i n:Nat)(d:ShD):ShD:=d.foldl (zdr i n) []
noncomputable def zaB (i:Nat):Nat->ShD
 |0=>[([0,0],1)]
 |n+1=>ziF i n (zaB i n)
noncomputable def bP (i:Nat):Nat:=if i=2 then 10 else 16
noncomputable def zez (i n:Nat)(k:List Int):Prop:=∃f s:Int,k=[f,s]/\0<=f/\f<=n/\-(n:Int)<=s/\s<=(if i=2 then (n:Int)*n else n)
noncomputable def KeysOk (i n:Nat)(d:ShD):Prop:=(d.map (·.1)).Nodup/\∀kv∈d,zez i n kv.1
theorem zgv (d:ShD)(k:List Int)(v:Int):(putS d k v).map (·.1)=if k∈d.map (·.1) then d.map (·.1) else d.map (·.1)++[k]:=by
 unfold putS
 by_cases h:k∈d.map (·.1)
 ·have:(d.any fun kv=>kv.1==k)=true:=by
   obtain⟨kv,h1,h2⟩:=List.mem_map.mp h
   exact List.any_eq_true.mpr ⟨kv,h1,by rw[h2];simp⟩
  rw[if_pos h,if_pos this,List.map_map]
  refine List.map_congr_left fun kv _=> ?_
  show (if (kv.1==k)=true then (kv.1,v) else kv).1=kv.1
  split<;>rfl
 ·have:¬(d.any fun kv=>kv.1==k)=true:=fun z=>by
   obtain⟨kv,h1,h2⟩:=List.any_eq_true.mp z
   exact h (List.mem_map.mpr ⟨kv,h1,by simpa using h2⟩)
  rw[if_neg h,if_neg this,List.map_append]
  rfl
theorem KeysOk.put {i n:Nat}{d:ShD}(h:KeysOk i n d){k:List Int}(hk:zez i n k)(v:Int):KeysOk i n (putS d k v):=by
 have e:=zgv d k v
 refine⟨?_,fun kv hkv=> ?_⟩
 ·rw [e]
  split
  ·exact h.1
  ·rename_i hn
   exact List.nodup_append.mpr ⟨h.1,by simp,fun a ha c hc z=>by rw[List.mem_singleton] at hc;subst hc z;exact hn ha⟩
 ·have hm:kv.1∈(putS d k v).map (·.1):=List.mem_map.mpr ⟨kv,hkv,rfl⟩
  rw[e] at hm
  have:kv.1∈d.map (·.1)∨kv.1=k:=by
   split at hm
   ·exact .inl hm
   ·rcases List.mem_append.mp hm with q|q
    ·exact .inl q
    ·exact .inr (List.mem_singleton.mp q)
  rcases this with q|q
  ·obtain ⟨kw,h1,h2⟩:=List.mem_map.mp q
   rw[<-h2]
   exact h.2 kw h1
  ·rw[q];exact hk
structure WayOk (i n:Nat) (t:List Int):Prop where
 key:zez i (n+1) (keyT t)
 eq:t=[t.getD 0 0,t.getD 1 0,t.getD 2 0]
 lo:-(2*(n:Int)+1)<=t.getD 2 0
 hi:t.getD 2 0<=2*(n:Int)+1
theorem WayOk.of {i n:Nat}{a b c:Int}(q1:0<=a)(q2:a<=(n:Int)+1)(q3:-((n:Int)+1)<=b)(q4:b<=(if i=2 then ((n:Int)+1)*((n:Int)+1) else (n:Int)+1))(q5:-(2*(n:Int)+1)<=c)(q6:c<=2*(n:Int)+1):WayOk i n [a,b,c]:=
 ⟨⟨a,b,rfl,q1,by rw[show ((n+1:Nat):Int)=(n:Int)+1 by (first|lia|omega)];exact q2,by rw[show ((n+1:Nat):Int)=(n:Int)+1 by (first|lia|omega)];exact q3,by rw[show ((n+1:Nat):Int)=(n:Int)+1 by (first|lia|omega)];exact q4⟩,rfl,q5,q6⟩
theorem zhY {i n:Nat}(hi:i<3){k:List Int}(h:zez i n k){t:List Int}(ht:t∈onZ i n (k.getD 0 0) (k.getD 1 0)):WayOk i n t:=by
 obtain⟨f,s,rfl,h1,h2,h3,h4⟩:=h
 replace ht:t∈onZ i n f s:=ht
 have hh:i=0∨i=1∨i=2:=by (first|lia|omega)
 rcases hh with rfl|rfl|rfl
 ·rw [if_neg (by decide)] at h4
  have:t=[f+1,s+1,1]∨t=[f,s-1,s]∨t=[f,s,(n:Int)-s]:=by simpa [onZ] using ht
  rcases this with rfl|rfl|rfl<;>refine WayOk.of ?_ ?_ ?_ ?_ ?_ ?_<;>(try rw[if_neg (by decide)])<;>(first|lia|omega)
 ·rw [if_neg (by decide)] at h4
  by_cases hn:n=0
  ·subst hn
   have:t=[0,1,1]:=by simpa [onZ] using ht
   subst this
   exact WayOk.of (by decide) (by decide) (by decide) (by decide) (by decide) (by decide)
  ·have:t=[f+1,s+1,1]∨t=[f,s,f+1]∨t=[f+1,s,(n:Int)-1-f]:=by simpa [onZ,hn] using ht
   rcases this with rfl|rfl|rfl<;>refine WayOk.of ?_ ?_ ?_ ?_ ?_ ?_<;>(try rw[if_neg (by decide)])<;>(first|lia|omega)
 ·rw [if_pos rfl] at h4
  have hsq:((n:Int)+1)*((n:Int)+1)=(n:Int)*n+2*n+1:=by grind
  have:t=[f+1,s,1]∨∃a,a<n/\[f,s+((a:Int)+1),1]=t:=by simpa [onZ] using ht
  rcases this with rfl|⟨a,ha,rfl⟩<;>refine WayOk.of ?_ ?_ ?_ ?_ ?_ ?_<;>(try rw[if_pos rfl,hsq])<;>(first|lia|omega)
theorem KeysOk.nil {i n:Nat}:KeysOk i n []:=⟨List.nodup_nil,fun kv h=>by cases h⟩
theorem KeysOk.adds {i n:Nat}{w:Int}:∀{ts:List (List Int)} {d:ShD},KeysOk i n d->(∀t∈ts,zez i n (keyT t))->KeysOk i n (ts.foldl (addP w) d)
 |[],_,h,_=>h
 |t::ts,d,h,hk=>by
  rw[List.foldl_cons]
  exact KeysOk.adds (h.put (hk t (List.mem_cons_self ..)) _) fun u hu=>hk u (List.mem_cons_of_mem _ hu)
theorem KeysOk.grow {i n:Nat}(hi:i<3){d:ShD}(h:KeysOk i (n+1) d){kv:List Int×Int}(hk:zez i n kv.1):KeysOk i (n+1) (zdr i n d kv):=h.adds fun t ht=>(zhY hi hk ht).key
theorem KeysOk.grows {i n:Nat}(hi:i<3):∀{l:ShD} {d:ShD},KeysOk i (n+1) d->(∀kv∈l,zez i n kv.1)->KeysOk i (n+1) (l.foldl (zdr i n) d)
 |[],_,h,_=>h
 |kv::l,d,h,hk=>by
  rw[List.foldl_cons]
  exact KeysOk.grows hi (h.grow hi (hk kv (List.mem_cons_self ..))) fun u hu=>hk u (List.mem_cons_of_mem _ hu)
theorem zce {i:Nat}(hi:i<3):∀n,KeysOk i n (zaB i n)
 | 0=>⟨by simp[zaB],fun kv h=>by
   have:kv=([0,0],1):=by simpa [zaB] using h
   subst this
   exact⟨0,0,rfl,by decide,by decide,by decide,by split<;>decide⟩⟩
 |n+1=>KeysOk.grows hi KeysOk.nil (zce hi n).2
noncomputable def boxP:List (List Int):=(List.range 20).flatMap fun (a:Nat)=>(List.range 140).map fun (b:Nat)=>[(a:Int),(b:Int)-20]
theorem KeysOk.len {i n:Nat}{d:ShD}(h:KeysOk i n d)(hi:i<3)(hn:n<=bP i):d.length<=2800:=by
 have h1:=zeW h.1 (L:=boxP) fun k hk=>by
  obtain⟨kv,m,rfl⟩:=List.mem_map.mp hk
  obtain⟨f,s,e,h1,h2,h3,h4⟩:=h.2 kv m
  have hs:s<=100/\n<=16:=by
   unfold bP at hn
   by_cases h2':i=2
   ·rw [if_pos h2'] at hn h4
    have:(n:Int)*n<=10*10:=Int.mul_le_mul (by (first|lia|omega)) (by (first|lia|omega)) (by (first|lia|omega)) (by (first|lia|omega))
    (first|lia|omega)
   ·rw [if_neg h2'] at hn h4
    (first|lia|omega)
  rw[e]
  refine List.mem_flatMap.mpr ⟨f.toNat,List.mem_range.mpr (by (first|lia|omega)),List.mem_map.mpr ⟨(s+20).toNat,List.mem_range.mpr (by (first|lia|omega)), ?_⟩⟩
  rw[Int.toNat_of_nonneg h1,Int.toNat_of_nonneg (by (first|lia|omega))]
  congr 2
  (first|lia|omega)
 rw[List.length_map] at h1
 exact Nat.le_trans h1 (by decide)
noncomputable def togZ (i n:Nat):List (List Int):=(List.range (rowZ (nmP i).1 n).length).map fun (k:Nat)=>(List.range (rowZ (nmP i).2 n).length).map fun (j:Nat)=>getS (zaB i n) [(k:Int),(j:Int)]
structure GTup (K:PySem.W.Frag) (w:World) (C:Addr) (xs:List (List Key×Addr×Addr)):Prop where
 sys:(C==sysModules)=false
 ex:∃n,K.lookup C=some {cls:=.type "dict",data:=.dict (xs.map fun x=>(⟨reduceHash (PySem.Builtin.Tuple.tupleHashOf (x.1.map (keyH w))),.ref x.2.1,.ref x.2.2⟩:DictEntry)).toArray n}
 key:∀x∈xs,∃o its n,K.lookup x.2.1=some o/\o.cls=.type "tuple" /\o.data=.seq its n/\∀(prog:Program),ItemsAre (zaE prog w) x.1 its.toList
 nd:(xs.map (·.1)).Nodup
section
variable {X:Cx}
noncomputable def rGt (K:PySem.W.Frag)(w:World):R2:=fun x y H Q=>∃C xs ks t a f,x=.ref C/\y=.ref t/\GTup K w C xs/\H t=some (.tup (ks.map kV))/\(ks,a,f)∈xs/\Q (.ref f) H
theorem zj5 (hu:X.A.units+1<cLine):IxR X (rGt X.K X.w):=by
 intro value slice pins s σ H x y v u Q I rx ry h hs
 obtain⟨C,xs,ks,t,a,f,rfl,rfl,⟨sys,⟨n,hk⟩,hkey,nd⟩,ht,hm,q⟩:=h
 cases rx
 cases ry
 have hg:=I.kIn C _ hk
 have hD:s.heap.DictOfH (tupleKind (zaE X.prog X.w)) C (xs.map fun x=>(x.1,x.2.1,Value.ref x.2.2)):=by
  refine⟨_,_,n,hg,⟨rfl,rfl,rfl⟩,rfl, ?_,fun x hx=> ?_, ?_⟩
  ·rw [List.map_map]
   rfl
  ·obtain ⟨z,hz,rfl⟩:=List.mem_map.mp hx
   obtain⟨o,its,n,h1,h2,h3,h4⟩:=hkey z hz
   exact⟨o,its,n,I.kIn _ _ h1,h2,h3,h4 X.prog⟩
  ·rw [List.map_map]
   exact nd
 have hp:atKey (xs.map fun x=>(x.1,x.2.1,Value.ref x.2.2)) ks=some (a,Value.ref f):=by
  obtain⟨i,hi⟩:=List.getElem?_of_mem hm
  refine atKey_of_get (i:=i) ?_ (by rw[List.getElem?_map,hi];rfl)
  rw[List.map_map]
  exact nd
 have fin:EP X pins σ Q (.ref f) {s with toks:=s.toks+(ks.length+1)}:=⟨.ref f,H,I.tok _,rfl,q⟩
 exact subscriptTail_builtinR (x:=.ref f) hD.typeIs PySem.F.slot_dict_getitem.lookup
  (wpAny_getItem_heap (tupleKind_room_in1 hu) (zc3 I.hok ht) hD hp ⟨rfl,fin⟩) hs
end
theorem ze7 {J:It}{Ok:Hp->Prop}{n:Nat}{lo:Int}{te:TE}{ix:List Nat}{σ:L2.St}{H1:Hp}{Q:VK}(Y:Yields J Ok (zaD lo n))(g:Int->List Int)(small:n<=1000)(hok:∀H,Same H1 H->Ok H)
  (he:∀i:Nat,i<n->∀H,Same H1 H->∀Q':VK,(∀z H',Same H H'->H' z=some (.tup ((g (lo+(i:Int))).map V.int))->Q' (.ref z) H')->te (some (.int (lo+(i:Int)))::ix.map fun i=>σ.getD i none) H Q')
  (fin:∀acc zs H',H1 acc=none->Same H1 H'->H' acc=some (.lst (zs.map V.ref))->RowsAt H' zs ((List.range n).map fun (i:Nat)=>g (lo+(i:Int)))->Q (.ref acc) H'):LcW J H1 (zaT 0) zaO te 1 ix σ Q:=by
 refine zei Y (za5 (by rw[zaH];exact small)) (fun x v H=>∀k,x=V.int k->∃z,v=V.ref z/\H z=some (.tup ((g k).map V.int))) (fun x v H H' s h k e=> ?_) hok (fun x hx H' s' Q' q=> ?_) fun acc ys H' hacc sm hys pr=> ?_
 ·obtain ⟨z,rfl,hz⟩:=h k e
  exact⟨z,rfl,s _ _ hz⟩
 ·unfold zaD at hx
  obtain⟨i,hi,rfl⟩:=List.mem_map.mp hx
  exact he i (List.mem_range.mp hi) H' s' Q' fun z H2 s2 hz=>q _ H2 s2 fun k e=>by cases e;exact⟨z,rfl,hz⟩
 ·have key:∀(l:List Nat) (ys:List V),Paired (fun x v=>∀k,x=V.int k->∃z,v=V.ref z/\H' z=some (.tup ((g k).map V.int))) (l.map fun (i:Nat)=>V.int (lo+(i:Int))) ys->∃zs:List Addr,ys=zs.map V.ref/\RowsAt H' zs (l.map fun (i:Nat)=>g (lo+(i:Int))):=by
   intro l
   induction l with
   |nil=>intro ys h;cases h;exact⟨[],rfl,.nil⟩
   | cons a l ih=>
    intro ys h
    cases h with
    |cons h1 h2=>
     obtain⟨z,rfl,hz⟩:=h1 _ rfl
     obtain⟨zs,rfl,hR⟩:=ih _ h2
     exact⟨z::zs,rfl,.cons hz hR⟩
  obtain⟨zs,rfl,hR⟩:=key _ _ pr
  exact fin acc zs H' hacc sm hys hR
theorem ziG {J:It}{Ok:Hp->Prop}{n:Nat}{te:TE}{ix:List Nat}{σ:L2.St}{H1:Hp}{Q:VK}(Y:Yields J Ok (zaD 0 n))(g:Int->Int)(small:n<=1000)(hok:∀H,Same H1 H->Ok H)(he:∀k:Int,0<=k->k<n->∀H,Same H1 H->∀Q':VK,(∀H',Same H H'->Q' (.int (g k)) H')->te (some (.int k)::ix.map fun i=>σ.getD i none) H Q')
  (fin:∀acc H',H1 acc=none->Same H1 H'->H' acc=some (.lst (((num0 n).map g).map V.int))->Q (.ref acc) H'):LcW J H1 (zaT 0) zaO te 1 ix σ Q:=by
 refine zei Y (za5 (by rw[zaH];exact small)) (fun x v _=>∀k,x=V.int k->v=V.int (g k)) (fun _ _ _ _ _ h=>h) hok (fun x hx H' s' Q' q=> ?_) fun acc ys H' hacc sm hys pr=> ?_
 ·obtain ⟨k,rfl,k0,k1⟩:=za2 hx
  exact he k k0 k1 H' s' Q' fun H2 s2=>q _ H2 s2 fun k' e=>by cases e;rfl
 ·rw [zbf] at pr
  rw[zcb pr] at hys
  exact fin acc H' hacc sm hys
noncomputable def spOn (i:Nat):Sp:=fun vs H Q _=>∃(n:Nat) (f s:Int),vs=[.int n,.int f,.int s]/\n<=16/\∀(L:Addr) (zs:List Addr) (H':Hp),Same H H'->H' L=some (.lst (zs.map V.ref))->RowsAt H' zs (onZ i n f s)->Q (.ref L) H'
end L2
namespace K21
open PySem PySem.Spec PyProof.Rows L2
noncomputable abbrev zaS:Stmt:=top 23
noncomputable abbrev zaU:Stmt:=top 24
noncomputable abbrev zax:Stmt:=top 25
section
variable {P:Program}{w:World}{K:PySem.W.Frag}{mg:Str->Option Value}{base:Heap}
theorem zby:FnScope ["many", "rounds", "stays"] ["many", "rounds", "stays"] (zaf zaS):=⟨rfl,rfl,rfl,by decide+kernel,rfl,by decide+kernel,by decide+kernel⟩
theorem zbz {f:Addr}{fd:FuncData}(F:Fun K "rounds_and_stays_on" "rounds_and_stays_on" zaS f fd):FnOk P w K mg base CX0 1 f fd ["many", "rounds", "stays"] (spOn 0):=by
 refine F.ok zby (fun vs H Q E h=> ?_) (fun cdv A outer s H vs Q E hr h=> ?_)
 ·obtain ⟨n,f,s,rfl,_⟩:=h
  rfl
 ·obtain ⟨n,fi,se,rfl,hn,k⟩:=h
  refine⟨_,(zai (zan (zbd (zaa (zaz (zaa (zaj zao (pv 1) zae) (zaa (zaj zao (pv 2) zae) (zaa zae zad)))) (zaa (zaz (zaa (pv 1) (zaa (zaj za0 (pv 2) zae) (zaa (pv 2) zad)))) (zaa (zaz (zaa (pv 1) (zaa (pv 2) (zaa (zaj za0 (pv 0) (pv 2)) zad)))) zad)))))), ?_⟩
  refine⟨_,rfl,_,_,rfl,rfl,_,rfl,_,_,rfl,rfl,by show 3<=sizeLine;decide,fun t1 ht1=> ?_⟩
  refine⟨_,rfl,_,rfl,_,_,rfl,rfl,_,rfl,by show 3<=sizeLine;decide,fun t2 ht2=> ?_⟩
  refine⟨_,rfl,_,rfl,_,rfl,_,rfl,_,_,rfl,rfl,by show 3<=sizeLine;decide,fun t3 ht3=> ?_⟩
  refine⟨by show 3<=sizeLine;decide,fun L hL=> ?_⟩
  have g1:=zac (o:=.tup [.int (fi+1),.int (se+1),.int 1]) ht1
  have g2:=zac (o:=.tup [.int fi,.int (se-1),.int se]) ht2
  have g3:=zac (o:=.tup [.int fi,.int se,.int ((n:Int)-se)]) ht3
  have gL:=zac (o:=.lst [.ref t1,.ref t2,.ref t3]) hL
  refine k L [t1,t2,t3] _ (((g1.trans g2).trans g3).trans gL) zab ?_
  exact .cons (gL _ _ (g3 _ _ (g2 _ _ zab))) (.cons (gL _ _ (g3 _ _ zab)) (.cons (gL _ _ zab) .nil))
theorem sc_rises_and_highs_on:FnScope ["many", "rises", "highs", "falls"] ["many", "rises", "highs"] (zaf zaU):=⟨rfl,rfl,rfl,by decide+kernel,rfl,by decide+kernel,by decide+kernel⟩
theorem zbF {f:Addr}{fd:FuncData}(F:Fun K "rises_and_highs_on" "rises_and_highs_on" zaU f fd):FnOk P w K mg base CX0 1 f fd ["many", "rises", "highs"] (spOn 1):=by
 refine F.ok sc_rises_and_highs_on (fun vs H Q E h=> ?_) (fun cdv A outer s H vs Q E hr h=> ?_)
 ·obtain ⟨n,f,s,rfl,_⟩:=h
  rfl
 ·obtain ⟨n,fi,se,rfl,hn,k⟩:=h
  refine⟨_,(zag (zcT (zaN zc8 (pv 0) zae (zaV _))
    (zai (zan (zbd (zaa (zaz (zaa zae (zaa zae (zaa zae zad)))) zad))))
    zbl)
   (zag (zaq (i:=3) sc_rises_and_highs_on.nd rfl (Or.inl rfl) (zaj za0 (zaj za0 (pv 0) zae) (pv 1)))
   (zai (zan (zbd (zaa (zaz (zaa (zaj zao (pv 1) zae) (zaa (zaj zao (pv 2) zae) (zaa zae zad)))) (zaa (zaz (zaa (pv 1) (zaa (pv 2) (zaa (zaj zao (pv 1) zae) zad)))) (zaa (zaz (zaa (zaj zao (pv 1) zae) (zaa (pv 2) (zaa (pv 3) zad)))) zad)))))))), ?_⟩
  refine⟨_,rfl,rfl,_,rfl, ?_⟩
  by_cases h0:n=0
  ·subst h0
   rw[decide_eq_true (by rfl)]
   refine iteT ?_
   refine⟨by show 3<=sizeLine;decide,fun t1 ht1=>⟨by show 1<=sizeLine;decide,fun L hL=> ?_⟩⟩
   have g1:=zac (o:=.tup [.int 0,.int 1,.int 1]) ht1
   have gL:=zac (o:=.lst [.ref t1]) hL
   exact k L [t1] _ (g1.trans gL) zab (.cons (gL _ _ zab) .nil)
  ·rw [decide_eq_false (fun e=>h0 (by have:=V.int.inj e;(first|lia|omega)))]
   refine iteF ?_
   refine⟨_,rfl,_,_,rfl,rfl,_,rfl,_,_,rfl,rfl, ?_⟩
   refine⟨_,rfl,_,_,rfl,rfl,_,rfl,_,_,rfl,rfl,by show 3<=sizeLine;decide,fun t1 ht1=> ?_⟩
   refine⟨_,rfl,_,rfl,_,rfl,_,_,rfl,rfl,by show 3<=sizeLine;decide,fun t2 ht2=> ?_⟩
   refine⟨_,rfl,_,_,rfl,rfl,_,rfl,_,rfl,by show 3<=sizeLine;decide,fun t3 ht3=> ?_⟩
   refine⟨by show 3<=sizeLine;decide,fun L hL=> ?_⟩
   have g1:=zac (o:=.tup [.int (fi+1),.int (se+1),.int 1]) ht1
   have g2:=zac (o:=.tup [.int fi,.int se,.int (fi+1)]) ht2
   have g3:=zac (o:=.tup [.int (fi+1),.int se,.int ((n:Int)-1-fi)]) ht3
   have gL:=zac (o:=.lst [.ref t1,.ref t2,.ref t3]) hL
   refine k L [t1,t2,t3] _ (((g1.trans g2).trans g3).trans gL) zab ?_
   have e:onZ 1 n fi se=[[fi+1,se+1,1],[fi,se,fi+1],[fi+1,se,(n:Int)-1-fi]]:=by simp[onZ,h0]
   rw[e]
   exact .cons (gL _ _ (g3 _ _ (g2 _ _ zab))) (.cons (gL _ _ (g3 _ _ zab)) (.cons (gL _ _ zab) .nil))
theorem sc_highs_and_crossed_on:FnScope ["many", "highs", "crossed", "behind"] ["many", "highs", "crossed"] (zaf zax):=⟨rfl,rfl,rfl,by decide+kernel,rfl,by decide+kernel,by decide+kernel⟩
theorem zbu {f:Addr}{fd:FuncData}(F:Fun K "highs_and_crossed_on" "highs_and_crossed_on" zax f fd)(T:Top mg):FnOk P w K mg base CX0 1 f fd ["many", "highs", "crossed"] (spOn 2):=by
 refine F.ok sc_highs_and_crossed_on (fun vs H Q E h=> ?_) (fun cdv A outer s H vs Q E hr h=> ?_)
 ·obtain ⟨n,f,s,rfl,_⟩:=h
  rfl
 ·obtain ⟨n,fi,se,rfl,hn,k⟩:=h
  refine⟨_,(zag (zeR (i:=3) rfl sc_highs_and_crossed_on.nd rfl rfl (N':=["ahead", "highs", "crossed"]) (n:=1) (ix:=[1,2]) rfl (CompScope.of (sc:=zaf zax) (N:=["many", "highs", "crossed", "behind"]) (by decide+kernel) rfl rfl) (zcE rfl T.n_range (zaa zae (zaa (zaj zao (pv 0) zae) zad))) (fun _ _ _ _ _=>⟨(zak (i:=0) (show (["ahead", "highs", "crossed"]:List Str).Nodup by decide+kernel) rfl (Or.inl rfl)),zaP,(zaz (zaa (pv 1) (zaa (zaj zao (pv 2) (pv 0)) (zaa zae zad))))⟩))
   (zai (zan (zaj zfY (zbd (zaa (zaz (zaa (zaj zao (pv 1) zae) (zaa (pv 2) (zaa zae zad)))) zad)) (pv 3))))), ?_⟩
  refine⟨_,rfl,_,_,rfl,rfl,_,_,rfl,⟨by decide,by decide,by (first|lia|omega),by (first|lia|omega)⟩, ?_⟩
  rw[show ((n:Int)+1-1).toNat=n by (first|lia|omega)]
  refine ze7 (lo:=1) (n:=n) zaX (fun a=>[fi,se+a,1]) (by (first|lia|omega)) (fun _ _=>trivial) (fun i hi G sG Q' q=> ?_) fun acc zs G hacc sG hG R=> ?_
  ·refine ⟨_,rfl,_,rfl,_,rfl,_,_,rfl,rfl,by show 3<=sizeLine;decide,fun z hz=> ?_⟩
   exact q z _ (zac hz) zab
  ·refine ⟨_,rfl,_,_,rfl,rfl,_,rfl,by show 3<=sizeLine;decide,fun t1 ht1=>⟨by show 1<=sizeLine;decide,fun l1 hl1=> ?_⟩⟩
   have g1:=zac (o:=.tup [.int (fi+1),.int se,.int 1]) ht1
   have gL:=zac (o:=.lst [.ref t1]) hl1
   have hlen:=Paired.length R
   rw[List.length_map,List.length_range] at hlen
   refine⟨_,rfl,l1,acc,_,_,rfl,rfl,zab,gL _ _ (g1 _ _ hG), ?_,fun L hL=> ?_⟩
   ·rw [List.length_map,hlen]
    exact Nat.le_trans (by show 1+n<=100;(first|lia|omega)) (by decide)
   have g2:=zac (o:=.lst ([V.ref t1]++zs.map V.ref)) hL
   refine k L (t1::zs) _ (((sG.trans g1).trans gL).trans g2) zab ?_
   refine .cons (g2 _ _ (gL _ _ zab)) ?_
   have e:(List.range n).map (fun (a:Nat)=>[fi,se+((a:Int)+1),1])=(List.range n).map fun (i:Nat)=>[fi,se+(1+(i:Int)),1]:=List.map_congr_left fun a _=>by rw[Int.add_comm 1]
   rw[e]
   exact ((R.same g1).same gL).same g2
end
end K21
namespace L2
open PySem PySem.Spec PyProof.Rows
noncomputable def zds:Sp:=fun vs H Q _=>∃i n:Nat,vs=[.str (nmP i).1,.str (nmP i).2,.int n]/\i<3/\n<=bP i/\∀(d:Addr) (H':Hp),Same H H'->H d=none->H' d=some (.dT (dV (zaB i n)))->Q (.ref d) H'
theorem zgw {i:Nat}:bP i<=16:=by
 unfold bP
 split<;>decide
theorem zfw {i n:Nat}{l:ShD}{j:Nat}{kv:List Int×Int}(h:l[j]? =some kv):(l.take (j+1)).foldl (zdr i n) []=zdr i n ((l.take j).foldl (zdr i n) []) kv:=by
 rw[List.take_succ,h,List.foldl_append]
 rfl
end L2
namespace K21
open PySem PySem.Spec PyProof.Rows L2
noncomputable abbrev zaY:Stmt:=top 27
section
variable {P:Program}{w:World}{K:PySem.W.Frag}{mg:Str->Option Value}{base:Heap}
theorem sc_pairs_told:FnScope ["one", "other", "many", "onward", "numbers", "size", "larger", "first", "second", "orders", "first_on", "second_on", "ways", "pair"] ["one", "other", "many"] (zaf zaY):=⟨rfl,rfl,rfl,by decide+kernel,rfl,by decide+kernel,by decide+kernel⟩
set_option maxHeartbeats 16000000 in
noncomputable def zju {C:Addr}{f:Addr}{cdv:Value}{A:Around}{outer:List Env}{s:Shared}{H:Hp}{E:XK}(hr:Room 1 (A.deeper (envOfC "pairs_told" (zaf zaY) s.heap.objs.size f cdv)))(T:Top mg)(hC:mg "ONWARDS" =some (.ref C)):{t:TS//PSs (cxOf CX0 P w K mg base ["one", "other", "many", "onward", "numbers", "size", "larger", "first", "second", "orders", "first_on", "second_on", "ways", "pair"] "pairs_told" (zaf zaY) f cdv A outer s H E).nox (zaG zaY) t}:=
 have hu1:=zif hr
 ⟨_, (zag (zaq (i:=3) sc_pairs_told.nd rfl (Or.inl rfl) (zaF (zj5 hu1) (zef (v:=.ref C) rfl hC rfl) (zaz (zaa (pv 0) (zaa (pv 1) zad))) (fun _ _=>rfl)))
   (zag (zaq (i:=4) sc_pairs_told.nd rfl (Or.inl rfl) (zgr hu1 (zaz (zaa zae (zaa zae zad))) zae))
   (zag (zbj PassesOwn.never rfl (zaQ rfl T.n_range (zaa (pv 2) zad)) (zak (i:=5) sc_pairs_told.nd rfl (Or.inl rfl))
    (zag (zaq (i:=6) sc_pairs_told.nd rfl (Or.inl rfl) zhk)
    (zag (zbj PassesOwn.never rfl (zhn (pv 4)) (zbW rfl (zar (zbW rfl (zar (zak (i:=7) sc_pairs_told.nd rfl (Or.inl rfl)) (zar (zak (i:=8) sc_pairs_told.nd rfl (Or.inl rfl)) zbp))) (zar (zak (i:=9) sc_pairs_told.nd rfl (Or.inl rfl)) zbp)))
     (zai (zbj PassesOwn.never rfl (za1 (zeX (k:=1) (pv 3) hr (zaa (pv 5) (zaa (pv 7) (zaa (pv 8) zad))))) (zbW rfl (zar (zak (i:=10) sc_pairs_told.nd rfl (Or.inl rfl)) (zar (zak (i:=11) sc_pairs_told.nd rfl (Or.inl rfl)) (zar (zak (i:=12) sc_pairs_told.nd rfl (Or.inl rfl)) zbp))))
      (zag (zaq (i:=13) sc_pairs_told.nd rfl (Or.inl rfl) (zaz (zaa (pv 10) (zaa (pv 11) zad))))
      (zai (zgo hu1 (pv 6) (pv 13) (zaj zao (ze3 hu1 (pv 6) (pv 13) zae ⟨rfl,rfl,rfl,rfl⟩) (zaj zaI (pv 9) (pv 12))) rfl))))))
    (zai (zaq (i:=4) sc_pairs_told.nd rfl (Or.inl rfl) (pv 6))))))
   (zai (zan (pv 4))))))⟩
set_option maxHeartbeats 4000000 in
theorem zdt {C:Addr}{xs:List (List Key×Addr×Addr)}{f:Addr}{fd:FuncData}(F:Fun K "pairs_told" "pairs_told" zaY f fd)(T:Top mg)(hC:mg "ONWARDS" =some (.ref C))(GT:GTup K w C xs)
  (hx:∀i,i<3->∃ps a g,CalF P w K mg base 1 g ps (spOn i)/\([.inr (nmP i).1,.inr (nmP i).2],a,g)∈xs):FnOk P w K mg base CX0 2 f fd ["one", "other", "many"] zds:=by
 refine F.ok sc_pairs_told (fun vs H Q E h=> ?_) (fun cdv A outer s H vs Q E hr h=> ?_)
 ·obtain ⟨i,n,rfl,_⟩:=h
  rfl
 ·obtain ⟨pi,n,rfl,hi,hn,k⟩:=h
  refine⟨_,(zju hr T hC).2, ?_⟩
  obtain⟨ps,a,g,cg,hm⟩:=hx pi hi
  have hn16:n<=16:=Nat.le_trans hn zgw
  refine⟨_,rfl,_,rfl,by show 2<=sizeLine;decide,fun tk htk=> ?_⟩
  refine⟨C,xs,[.inr (nmP pi).1,.inr (nmP pi).2],tk,a,g,rfl,rfl,GT,zab,hm, ?_⟩
  have sk:=zac (o:=.tup [.str (nmP pi).1,.str (nmP pi).2]) htk
  generalize (upd H tk (.tup [.str (nmP pi).1,.str (nmP pi).2]))=H1 at sk ⊢
  refine fun F0 hF0=>⟨by show 2<=sizeLine;decide,fun t0 ht0=>⟨t0,keyI [0,0],rfl,zab, ?_, ?_⟩⟩
  ·rw[zah (fun z=>by rw[z,zab] at ht0;cases ht0),zab]
  have hF00:(upd (upd (upd H1 F0 (.dT [])) t0 (.tup [.int 0,.int 0])) F0 (.dT [(keyI [0,0],.int 1)])) F0=some (.dT (dV (zaB pi 0))):=zab
  have sF0:Same H (upd (upd (upd H1 F0 (.dT [])) t0 (.tup [.int 0,.int 0])) F0 (.dT [(keyI [0,0],.int 1)])):=sk.trans (zav ((zac hF0).trans (zac ht0)) hF0)
  have hHF0:H F0=none:=sk.free hF0
  generalize (upd (upd (upd H1 F0 (.dT [])) t0 (.tup [.int 0,.int 0])) F0 (.dT [(keyI [0,0],.int 1)]))=C0 at hF00 sF0 ⊢
  refine⟨_,rfl,_,rfl,by (first|lia|omega),by (first|lia|omega), ?_⟩
  rw[Int.toNat_natCast]
  refine zbm (n:=n) (fun i σ G=>∃(Fd:Addr) (c5 c6 c7 c8 c9 c10 c11 c12 c13:Option V),σ=[some (.str (nmP pi).1),some (.str (nmP pi).2),some (.int n),some (.ref g),some (.ref Fd),c5,c6,c7,c8,c9,c10,c11,c12,c13]/\Same H G/\H Fd=none/\G Fd=some (.dT (dV (zaB pi i)))) ?_ ?_ ?_
  ·exact⟨F0,none,none,none,none,none,none,none,none,none,rfl,sF0,hHF0,hF00⟩
  ·rintro i σ G hin ⟨Fd,c5,c6,c7,c8,c9,c10,c11,c12,c13,rfl,sG,hFd,hG⟩
   have KO:=zce hi i
   refine fun L hL=> ?_
   have hL0:H L=none:=sG.free hL
   have hLF:Fd≠L:=fun z=>by rw[z,hL] at hG;cases hG
   have sL:=zac (o:=.dT []) hL
   refine⟨_,rfl,Fd,_,rfl,sL _ _ hG,fun ob=> ?_⟩
   refine zgq (kvs:=dV (zaB pi i)) (fun j σ G'=>∃(c7 c8 c9 c10 c11 c12 c13:Option V) (D:ShD),σ=[some (.str (nmP pi).1),some (.str (nmP pi).2),some (.int n),some (.ref g),some (.ref Fd),some (.int (0+(i:Int))),some (.ref L),c7,c8,c9,c10,c11,c12,c13]/\Same H G'/\G' Fd=some (.frz ob (.dT (dV (zaB pi i))))/\G' L=some (.dT (dV D))/\D=((zaB pi i).take j).foldl (zdr pi i) []/\KeysOk pi (i+1) D) ?_ ?_ ?_ ?_
   ·refine ⟨_,_,_,_,_,_,_,[],rfl,zav (sG.trans sL) hFd,zab, ?_,rfl,KeysOk.nil⟩
    rw[zah (Ne.symm hLF),zab]
    rfl
   ·rintro j σ G' _ ⟨c7,c8,c9,c10,c11,c12,c13,D,rfl,_,h,_⟩
    exact h
   ·rintro j kk vv t b σ G' hx ⟨c7,c8,c9,c10,c11,c12,c13,D,rfl,sG',hF',hL',hD,hDk⟩ ht hb
    have hj:j<(zaB pi i).length:=by
     have:=(List.getElem?_eq_some_iff.mp hx).1
     unfold dV at this
     rwa [List.length_map] at this
    have hxx:(zaB pi i)[j]? =some (zaB pi i)[j]:=List.getElem?_eq_getElem hj
    have hmem:(zaB pi i)[j]∈zaB pi i:=List.getElem_mem hj
    have htk':=zfw (i:=pi) (n:=i) hxx
    unfold dV at hx
    rw[List.getElem?_map,hxx] at hx
    generalize (zaB pi i)[j]=sw at hx htk' hmem
    obtain⟨sh,wt⟩:=sw
    cases hx
    have hkey:=KO.2 _ hmem
    have hkey':=hkey
    obtain⟨fi,se,esh,q1,q2,q3,q4⟩:=hkey'
    replace esh:sh=[fi,se]:=esh
    subst esh
    rw[zdo] at hb
    have st:=zac (o:=.tup [.ref b,.int wt]) ht
    refine⟨t,_,rfl,SqT.of zab,rfl,_,_,rfl,b,_,rfl,SqT.of (st _ _ hb),rfl,_,_,rfl,_,_,rfl,rfl,_,_,rfl,rfl, ?_⟩
    refine⟨_,rfl,g,ps,_,rfl,cg,_,rfl,_,rfl,_,rfl,i,fi,se,by rw[Int.zero_add],by (first|lia|omega),fun l zs G3 s3 hl R=>⟨l,rfl,⟨_,SqL.of hl⟩, ?_⟩⟩
    have S3:=st.trans s3
    have hzl:zs.length=(onZ pi i fi se).length:=Paired.length R
    have hWay:∀t∈onZ pi i fi se,WayOk pi i t:=fun t ht=>zhY hi (k:=[fi,se]) hkey ht
    refine zeM (K:=K) (a:=l) (xs:=zs.map V.ref) (fun q σ G'=>∃(c10 c11 c12 c13:Option V) (D':ShD),σ=[some (.str (nmP pi).1),some (.str (nmP pi).2),some (.int n),some (.ref g),some (.ref Fd),some (.int (0+(i:Int))),some (.ref L),some (.int fi),some (.int se),some (.int wt),c10,c11,c12,c13]/\Same H G'/\G' Fd=some (.frz ob (.dT (dV (zaB pi i))))/\G' L=some (.dT (dV D'))/\G' l=some (.lst (zs.map V.ref))/\RowsAt G' zs (onZ pi i fi se)/\D'=((onZ pi i fi se).take q).foldl (addP wt) D/\KeysOk pi (i+1) D') ?_ ?_ ?_ ?_
    ·exact⟨_,_,_,_,D,rfl,sG'.trans S3,S3 _ _ hF',S3 _ _ hL',hl,R,rfl,hDk⟩
    ·rintro q σ G4 _ ⟨c10,c11,c12,c13,D',rfl,_,_,_,h,_⟩
     exact SqL.of h
    ·rintro q x σ G4 hx ⟨c10,c11,c12,c13,D',rfl,s4,hF4,hL4,hl4,R4,hD',hD'k⟩
     rw[List.getElem?_map] at hx
     obtain⟨z,hz,rfl⟩:=Option.map_eq_some_iff.mp hx
     obtain⟨tt,htt,hztt⟩:=R4.get hz
     have htg:(onZ pi i fi se).take (q+1)=(onZ pi i fi se).take q++[tt]:=by rw[List.take_succ,htt];rfl
     have W:=hWay tt (List.mem_of_getElem? htt)
     have e3:=W.eq
     generalize ea:tt.getD 0 0=ta at e3
     generalize eb:tt.getD 1 0=tb at e3
     generalize ec:tt.getD 2 0=tc at e3
     have elo:=W.lo
     have ehi:=W.hi
     rw[ec] at elo ehi
     have ekt:keyT tt=[ta,tb]:=by unfold keyT;rw[ea,eb]
     rw[e3] at hztt
     refine⟨z,_,rfl,SqT.of hztt,rfl,_,_,rfl,_,_,rfl,_,_,rfl,rfl, ?_⟩
     refine⟨_,rfl,_,rfl,by show 2<=sizeLine;decide,fun u hu=> ?_⟩
     have su:=zac (o:=.tup [.int ta,.int tb]) hu
     have hL5:=su _ _ hL4
     have hu5:(upd G4 u (.tup [.int ta,.int tb])) u=some (.tup ((keyI (keyT tt)).map kV)):=by rw[zdo,ekt];exact zab
     refine⟨_,rfl,L,rfl,.inr ⟨_,.inl hL5⟩,_,rfl,_,DGet.t hL5 hu5, ?_⟩
     rw[zhX]
     refine⟨_,rfl,_,rfl,_,_,rfl,rfl,.inr ⟨by (first|lia|omega),by (first|lia|omega)⟩,_,_,rfl,rfl, ?_⟩
     have hlen:(dV D').length<sizeLine:=by
      unfold dV
      rw[List.length_map]
      exact Nat.lt_of_le_of_lt (hD'k.len hi (by (first|lia|omega))) (by decide)
     refine⟨_,rfl,_,rfl,L,_,rfl,DPut.t hL5 hu5 hlen, ?_⟩
     rw[zjs]
     have hlF:Fd≠L:=hLF
     have hlL:l≠L:=fun z=>by rw[z,hL4] at hl4;cases hl4
     refine⟨_,_,_,_,addP wt D' tt,rfl,zav (s4.trans su) hL0,by rw[zah hlF];exact su _ _ hF4, ?_,by rw[zah hlL];exact su _ _ hl4,(R4.same su).sameT (zho hL5), ?_,hD'k.put (by rw[ekt];exact ekt▸W.key) _⟩
     ·rw [zab]
      unfold addP
      rw[ec]
     ·rw [htg,List.foldl_append,<-hD']
      rfl
    ·rintro σ G4 ⟨c10,c11,c12,c13,D',rfl,s4,hF4,hL4,hl4,R4,hD',hD'k⟩
     rw[za4] at hD'
     refine⟨_,_,_,_,_,_,_,D',rfl,s4,hF4,hL4, ?_,hD'k⟩
     rw[htk',<-hD,hD',hzl,List.take_length]
     rfl
   ·rintro σ G' ⟨c7,c8,c9,c10,c11,c12,c13,D,rfl,sG',hF',hL',hD,hDk⟩
    refine⟨_,rfl, ?_⟩
    refine⟨L,_,_,_,_,_,_,_,_,_,rfl,sG',hL0, ?_⟩
    rw[hL',hD]
    unfold dV
    rw[List.length_map,List.take_length]
    rfl
  ·rintro σ G ⟨Fd,c5,c6,c7,c8,c9,c10,c11,c12,c13,rfl,sG,hFd,hG⟩
   exact⟨_,rfl,k Fd G sG hFd hG⟩
end
end K21
namespace L2
open PySem PySem.Spec PyProof.Rows
noncomputable def zgx (sc:Scope)(N:List Str)(scope:Scope)(N':List Str)(n:Nat)(ix:List Nat)(z:Str):Bool:=
 scope.kind==.function&&scope.names.all (fun y=>y.2 != .cell||y.1==z)&&scope.names.all (fun y=>y.2 != .free||y.1 != z)&&scope.names.all (fun y=>y.2 != .local||scope.names.lookup y.1==some .local)&&
 scope.names.all (fun y=>y.2 != .free||(sc.names.lookup y.1==some .cell||sc.names.lookup y.1==some .free))&&scope.names.all (fun y=>y.2 != .free||scope.names.lookup y.1 != some .local)&&
 N'.length==n+ix.length&&(List.range ix.length).all fun j=>match ix[j]?,N'[n+j]? with
  |some i,some x=>N[i]? ==some x&&scope.names.contains (x,.free)
  |_,_=>false
theorem CompScopeZ.ofC {X:Cx}{sc:Scope}{N:List Str}{scope:Scope}{N':List Str}{n:Nat}{ix:List Nat}{z:Str}(h:zgx sc N scope N' n ix z=true)(hs:X.env.scope=sc)(hN:X.N=N)(hcf:∀(a:Addr) (cl:List (Str×Addr)),cellsFrom a scope.names cl=(z,a)::cl)
  (hpc:∀h:Heap,pushCells h scope.names=h.push {cls:=.type "cell",data:=.cell none}):CompScopeZ X scope N' n ix z:=by
 unfold zgx at h
 simp only[Bool.and_eq_true,List.all_eq_true] at h
 obtain⟨⟨⟨⟨⟨⟨⟨h1,h2⟩,h2'⟩,h3⟩,h4⟩,h5⟩,h6⟩,h7⟩:=h
 subst hs hN
 refine⟨eq_of_beq h1,fun y hy hc=> ?_,fun y hy=> ?_,hcf,hpc,fun y hy hl=> ?_,fun y hy hf=> ?_,fun y hy hl=> ?_,eq_of_beq h6,fun j i e=> ?_⟩
 ·have:=h2 y hy
  rw[hc] at this
  simpa using this
 ·have:=h2' _ hy
  simpa using this
 ·have:=h3 y hy
  rw[hl] at this
  simpa using this
 ·have:=h4 y hy
  rw[hf] at this
  simpa using this
 ·have:=h5 _ hy
  rw[hl] at this
  simp at this
 ·have hj:j<ix.length:=(List.getElem?_eq_some_iff.mp e).1
  have:=h7 j (List.mem_range.mpr hj)
  rw[e] at this
  cases hx:N'[n+j]? with
  |none=>rw[hx] at this;simp at this
  |some x=>
   rw[hx] at this
   simp only[Bool.and_eq_true] at this
   exact⟨x,rfl,eq_of_beq this.1,by simpa using this.2⟩
theorem zgy {X:Cx}{tg l:Expr}{tl:TE}(K:PySem.W.Frag)(hK:X.K=K)(hl:PE X l tl):PI X tg l (zi1 K tl):=hK▸za1 hl
theorem zfx {X:Cx}(K:PySem.W.Frag)(hK:X.K=K):zbA X (.type "tuple") (fun xs H Q=>∃p ys,xs=[.ref p]/\((SqL K H p ys/\∀l,H l=none->Q (.ref l) (upd H l (.tup ys)))∨(SqT K H p ys/\Q (.ref p) H))):=hK▸zaK
noncomputable def zhx:Sp:=fun vs H Q _=>∃i n:Nat,vs=[.str (nmP i).1,.str (nmP i).2,.int n]/\i<3/\n<=bP i/\∀(p:Addr) (zs:List Addr) (H':Hp),Same H H'->H' p=some (.tup (zs.map V.ref))->RowsAt H' zs (togZ i n)->Q (.ref p) H'
theorem zjv (i:Nat):(nmP i).1∈zb4/\(nmP i).2∈zb4:=by
 match i with
 |0=>decide
 |1=>decide
 |n+2=>show ("highs" :Str)∈zb4/\("crossed" :Str)∈zb4;decide
theorem zjw {i n:Nat}(h:n<=bP i):n<=bOf (nmP i).1/\n<=bOf (nmP i).2:=by
 match i with
 |0=>exact⟨Nat.le_trans h (by decide),Nat.le_trans h (by decide)⟩
 |1=>exact⟨Nat.le_trans h (by decide),Nat.le_trans h (by decide)⟩
 |2=>exact⟨Nat.le_trans h (by decide),Nat.le_trans h (by decide)⟩
 |n+3=>exact⟨Nat.le_trans h (Nat.le_trans zgw (show 16<=bOf "highs" by decide)),Nat.le_trans h (Nat.le_trans zgw (show 16<=bOf "crossed" by decide))⟩
end L2
namespace K21
open PySem PySem.Spec PyProof.Rows L2
noncomputable abbrev za3:Stmt:=top 21
section
variable {P:Program}{w:World}{K:PySem.W.Frag}{mg:Str->Option Value}{base:Heap}
theorem sc_together:FnScope ["one", "other", "many", "numbers", "rows", "columns"] ["one", "other", "many"] (zaf za3):=⟨rfl,rfl,rfl,by decide+kernel,rfl,by decide+kernel,by decide+kernel⟩
set_option maxHeartbeats 16000000 in
noncomputable def togT {f:Addr}{cdv:Value}{A:Around}{outer:List Env}{s:Shared}{H:Hp}{E:XK}(hr:Room 5 (A.deeper (envOfC "together" (zaf za3) s.heap.objs.size f cdv)))(T:Top mg)(Cpairs_told:Cal P w K mg base 2 "pairs_told" ["one", "other", "many"] zds)(Ctold:Cal P w K mg base 5 "told" ["kind", "many"] (ze0 K)):{t:TS//PSs (cxOf CX0 P w K mg base ["one", "other", "many", "numbers", "rows", "columns"] "together" (zaf za3) f cdv A outer s H E).nox (zaG za3) t}:=
 have hu1:=zif hr
 ⟨_,(zag (zaq (i:=3) sc_together.nd rfl (Or.inr rfl) (zau Cpairs_told (hr.mono (by decide)) rfl (zaa (pv 0) (zaa (pv 1) (zaa (pv 2) zad)))))
   (zag (zaq (i:=4) sc_together.nd rfl (Or.inl rfl) (zaA (zbZ rfl) (by rfl) T.n_list boot_list (zaa (zaA zcL (by rfl) T.n_range boot_range (zaa (zal zap (by rfl) T.n_len PySem.boot_len (zaa (zau Ctold (hr.mono (by decide)) rfl (zaa (pv 0) (zaa (pv 2) zad))) zad)) zad)) zad)))
   (zag (zaq (i:=5) sc_together.nd rfl (Or.inr rfl) (zaA (zbZ rfl) (by rfl) T.n_list boot_list (zaa (zaA zcL (by rfl) T.n_range boot_range (zaa (zal zap (by rfl) T.n_len PySem.boot_len (zaa (zau Ctold (hr.mono (by decide)) rfl (zaa (pv 1) (zaa (pv 2) zad))) zad)) zad)) zad)))
   (zai (zan (zaA zaK (by rfl) T.n_tuple boot_tuple (zaa (zjf (z:= "k") (N':=["k", "columns", "numbers"]) (n:=1) (ix:=[5,3]) rfl (CompScopeZ.ofC (sc:=zaf za3) (N:=["one", "other", "many", "numbers", "rows", "columns"]) (by decide+kernel) rfl rfl (fun _ _=>rfl) (fun _=>rfl)) (za1 (pv 4)) (fun _ _ _ _ _ _=>⟨(zak (i:=0) (show (["k", "columns", "numbers"]:List Str).Nodup by decide+kernel) rfl (Or.inr rfl) (Or.inl rfl)),zaP,(zaA (zfx K rfl) (by rfl) T.n_tuple boot_tuple (zaa (zbq (N':=["j", "numbers", "k"]) (n:=1) (ix:=[2,0]) rfl (CompScope.of (N:=["k", "columns", "numbers"]) rfl rfl rfl) (zgy K rfl (pv 1)) (fun _ _ _ _ _=>⟨(zak (i:=0) (show (["j", "numbers", "k"]:List Str).Nodup by decide+kernel) rfl (Or.inl rfl)),zaP,(ze3 hu1 (pv 1) (zaz (zaa (pv 2) (zaa (pv 0) zad))) zae ⟨rfl,rfl,rfl,rfl⟩)⟩)) zad))⟩)) zad)))))))⟩
set_option maxHeartbeats 4000000 in
theorem zeA {f:Addr}{fd:FuncData}(F:Fun K "together" "together" za3 f fd)(T:Top mg)(Cpairs_told:Cal P w K mg base 2 "pairs_told" ["one", "other", "many"] zds)(Ctold:Cal P w K mg base 5 "told" ["kind", "many"] (ze0 K)):FnOk P w K mg base CX0 6 f fd ["one", "other", "many"] zhx:=by
 refine F.ok sc_together (fun vs H Q E h=> ?_) (fun cdv A outer s H vs Q E hr h=> ?_)
 ·obtain ⟨i,n,rfl,_⟩:=h
  rfl
 ·obtain ⟨i,n,rfl,hi,hn,k⟩:=h
  refine⟨_,(togT hr T Cpairs_told Ctold).2, ?_⟩
  obtain⟨k1,k2⟩:=zjv i
  obtain⟨b1,b2⟩:=zjw hn
  have l1:=zdl b1
  have l2:=zdl b2
  refine⟨_,rfl,_,rfl,_,rfl,i,n,rfl,hi,hn,fun d H1 s1 hd0 hd=> ?_⟩
  refine⟨_,rfl,_,rfl,_,n,rfl,k1,b1,fun p1 H2 s2 hp1=>⟨p1,_,rfl,.inr hp1, ?_⟩⟩
  rw[List.length_map]
  generalize hL1:(rowZ (nmP i).1 n).length=m1 at l1
  refine⟨_,rfl,fun r1 hr1=>⟨r1,_,rfl,zab,by (first|lia|omega),by (first|lia|omega),fun q1 hq1=> ?_⟩⟩
  rw[Int.toNat_natCast]
  have s3:=(zac (o:=.rng 0 (m1:Int)) hr1).trans (zac (o:=.lst (zaD 0 m1)) hq1)
  have hq1':(upd (upd H2 r1 (.rng 0 (m1:Int))) q1 (.lst (zaD 0 m1))) q1=some (.lst (zaD 0 m1)):=zab
  generalize (upd (upd H2 r1 (.rng 0 (m1:Int))) q1 (.lst (zaD 0 m1)))=H3 at s3 hq1' ⊢
  refine⟨_,rfl,_,rfl,_,n,rfl,k2,b2,fun p2 H4 s4 hp2=>⟨p2,_,rfl,.inr hp2, ?_⟩⟩
  rw[List.length_map]
  generalize hL2:(rowZ (nmP i).2 n).length=m2 at l2
  refine⟨_,rfl,fun r2 hr2=>⟨r2,_,rfl,zab,by (first|lia|omega),by (first|lia|omega),fun q2 hq2=> ?_⟩⟩
  rw[Int.toNat_natCast]
  have s5:=(zac (o:=.rng 0 (m2:Int)) hr2).trans (zac (o:=.lst (zaD 0 m2)) hq2)
  have hq2':(upd (upd H4 r2 (.rng 0 (m2:Int))) q2 (.lst (zaD 0 m2))) q2=some (.lst (zaD 0 m2)):=zab
  generalize (upd (upd H4 r2 (.rng 0 (m2:Int))) q2 (.lst (zaD 0 m2)))=H5 at s5 hq2' ⊢
  have hd5:=s5 _ _ (s4 _ _ (s3 _ _ (s2 _ _ hd)))
  have hq15:=s5 _ _ (s4 _ _ hq1')
  have S5:=(((s1.trans s2).trans s3).trans s4).trans s5
  refine⟨_,rfl,q1,rfl,⟨_,SqL.of hq15⟩, ?_⟩
  refine ze7 (n:=m1) (lo:=0) (zbr (K:=K) (a:=q1)) (fun kk=>(num0 m2).map fun j=>getS (zaB i n) [kk,j]) (by (first|lia|omega)) (fun G s=>SqL.of (s _ _ hq15)) (fun a ha G sG Q' q=> ?_) fun acc zs G hacc sG hG R=> ?_
  ·have hq25:=sG _ _ hq2'
   have hdG:=sG _ _ hd5
   refine⟨_,rfl,q2,rfl,⟨_,SqL.of hq25⟩, ?_⟩
   refine ziG (n:=m2) (zbr (K:=K) (a:=q2)) (fun j=>getS (zaB i n) [0+(a:Int),j]) (by (first|lia|omega)) (fun G2 s=>SqL.of (s _ _ hq25)) (fun j j0 j1 G2 sG2 Q2 hQ2=> ?_) fun acc2 G2 hacc2 sG2 hG2=> ?_
   ·have hd2:=sG2 _ _ hdG
    refine⟨_,rfl,d,rfl,.inr ⟨_,.inl hd2⟩,_,rfl,_,rfl,by show 2<=sizeLine;decide,fun u hu=> ?_⟩
    have su:=zac (o:=.tup [.int (0+(a:Int)),.int j]) hu
    have hu5:(upd G2 u (.tup [.int (0+(a:Int)),.int j])) u=some (.tup ((keyI [0+(a:Int),j]).map kV)):=by rw[zdo];exact zab
    refine⟨_,DGet.t (su _ _ hd2) hu5, ?_⟩
    rw[zhX]
    exact hQ2 _ su
   ·refine ⟨acc2,_,rfl,.inl ⟨SqL.of hG2,fun z hz=> ?_⟩⟩
    exact q z _ (sG2.trans (zac hz)) zab
  ·refine ⟨acc,_,rfl,.inl ⟨SqL.of hG,fun z hz=> ?_⟩⟩
   refine k z zs _ ((S5.trans sG).trans (zac hz)) zab ?_
   have e:togZ i n=(List.range m1).map fun (a:Nat)=>(num0 m2).map fun j=>getS (zaB i n) [0+(a:Int),j]:=by
    unfold togZ num0
    rw[hL1,hL2]
    refine List.map_congr_left fun a _=> ?_
    rw[List.map_map]
    refine List.map_congr_left fun j _=> ?_
    simp
   rw[e]
   exact R.same (zac hz)
end
noncomputable abbrev zbv:Stmt:=top 31
section
variable {P:Program}{w:World}{K:PySem.W.Frag}{mg:Str->Option Value}{base:Heap}
theorem zcn:FnScope ["_law_found", "_law_due_here"] ["_law_found", "_law_due_here"] (zaf zbv):=⟨rfl,rfl,rfl,by decide+kernel,rfl,by decide+kernel,by decide+kernel⟩
theorem zco {f:Addr}{fd:FuncData}(F:Fun K "_law_same" "_law_same" zbv f fd)(T:Top mg)(hm:mg "_law_same" =some (.ref f))(hb:Binds K fd ["_law_found", "_law_due_here"] []):
  ∀n,FnOk P w K mg base CX0 (n+1) f fd ["_law_found", "_law_due_here"] (zcP K n)
 | 0=>by
  refine F.ok zcn (fun vs H Q E h=> ?_) (fun cdv A outer s H vs Q E hr h=> ?_)
  ·obtain ⟨x,y,rfl,_⟩:=h
   rfl
  ·obtain ⟨x,y,rfl,⟨a,rfl,rfl⟩,k⟩:=h
   have hu:_:=hr.units
   refine⟨_,(zag (zcT (zeI (zal zbi (by rfl) T.n_isinstance boot_isinstance (zaa (pv 1) (zaa (zbP (v:=.ty "tuple") rfl T.n_tuple boot_tuple rfl) zad))))
    zdJ
    zbl)
   (zai (zan (zeJ (zal zbi (by rfl) T.n_isinstance boot_isinstance (zaa (pv 0) (zaa (zbP (v:=.ty "int") rfl T.n_int boot_int rfl) zad))) (zeJ (zhQ (zal zbi (by rfl) T.n_isinstance boot_isinstance (zaa (pv 0) (zaa (zbP (v:=.ty "bool") rfl T.n_bool boot_bool rfl) zad)))) (zhP (zc9 zc8 (pv 0) (pv 1) (zaV _)))))))), ?_⟩
   refine⟨_,rfl,_,_,_,_,rfl,.inl (.int _),zb0,_,rfl,iteF ?_⟩
   refine⟨_,rfl,_,_,_,_,rfl,.inl (.int _),zcN,_,rfl,iteT ?_⟩
   refine⟨_,rfl,_,_,_,_,rfl,.inl (.int _),zck,_,rfl,_,rfl,iteT ?_⟩
   refine⟨_,rfl,_,rfl,rfl, ?_⟩
   rw[decide_eq_true rfl]
   exact k H (Same.refl H)
 | n +1=>by
  have ih:Cal P w K mg base (n+1) "_law_same" ["_law_found", "_law_due_here"] (zcP K n):=⟨f,fd,zco F T hm hb n,hm,F.kp,hb⟩
  refine F.ok zcn (fun vs H Q E h=> ?_) (fun cdv A outer s H vs Q E hr h=> ?_)
  ·obtain ⟨x,y,rfl,_⟩:=h
   rfl
  ·obtain ⟨x,y,rfl,al,k⟩:=h
   have hu:_:=hr.units
   refine⟨_,(zag (zcT (zeI (zal zbi (by rfl) T.n_isinstance boot_isinstance (zaa (pv 1) (zaa (zbP (v:=.ty "tuple") rfl T.n_tuple boot_tuple rfl) zad))))
    (zag (zcT (PW.pt (zjJ (zhO (zeI (zal zbi (by rfl) T.n_isinstance boot_isinstance (zaa (pv 0) (zaa (zbP (v:=.ty "tuple") rfl T.n_tuple boot_tuple rfl) zad))))) (ziY (zaN zi3 (zal zap (by rfl) T.n_len PySem.boot_len (zaa (pv 0) zad)) (zal zap (by rfl) T.n_len PySem.boot_len (zaa (pv 1) zad)) (zaV _)))))
     (zai (zan zfC))
     zbl)
    (zai (zan (zal (zg3 rfl) (by rfl) T.n_all boot_all (zaa (zbq (N':=["_law_one", "_law_other"]) (n:=2) (ix:=[]) rfl (CompScope.of (sc:=zaf zbv) (N:=["_law_found", "_law_due_here"]) (by decide+kernel) rfl rfl) (zih rfl T.n_zip (zaa (pv 0) (zaa (pv 1) zad))) (fun _ _ _ _ _=>⟨(zcv K (i:=0) (j:=1) rfl rfl (show (["_law_one", "_law_other"]:List Str).Nodup by decide+kernel) rfl rfl (Or.inl rfl) (Or.inl rfl) (Or.inr rfl) (Or.inr rfl)),zaP,(zau ih hr rfl (zaa (pv 0) (zaa (pv 1) zad)))⟩)) zad)))))
    zbl)
   (zai (zan (zeJ (zal zbi (by rfl) T.n_isinstance boot_isinstance (zaa (pv 0) (zaa (zbP (v:=.ty "int") rfl T.n_int boot_int rfl) zad))) (zeJ (zhQ (zal zbi (by rfl) T.n_isinstance boot_isinstance (zaa (pv 0) (zaa (zbP (v:=.ty "bool") rfl T.n_bool boot_bool rfl) zad)))) (zhP (zc9 zc8 (pv 0) (pv 1) (zaV _)))))))), ?_⟩
   rcases al with⟨a,rfl,rfl⟩|⟨a,b,xs,ys,rfl,rfl,ha,hbb,hl,pr⟩
   ·refine ⟨_,rfl,_,_,_,_,rfl,.inl (.int _),zb0,_,rfl,iteF ?_⟩
    refine⟨_,rfl,_,_,_,_,rfl,.inl (.int _),zcN,_,rfl,iteT ?_⟩
    refine⟨_,rfl,_,_,_,_,rfl,.inl (.int _),zck,_,rfl,_,rfl,iteT ?_⟩
    refine⟨_,rfl,_,rfl,rfl, ?_⟩
    rw[decide_eq_true rfl]
    exact k H (Same.refl H)
   ·have hxy:xs.length=ys.length:=Paired.length pr
    refine⟨_,rfl,_,_,_,_,rfl,.inr ⟨b,_,rfl,hbb,rfl⟩,zbC,_,rfl,iteT ?_⟩
    refine⟨_,rfl,_,_,_,_,rfl,.inr ⟨a,_,rfl,ha,rfl⟩,zbC,_,rfl,iteF ?_⟩
    refine⟨_,rfl,a,_,rfl,.inr (ha),_,rfl,b,_,rfl,.inr (hbb),rfl,_,rfl, ?_⟩
    rw[hxy]
    refine zjX rfl ?_
    refine⟨_,rfl,_,rfl,a,b,rfl,⟨_,ha⟩,⟨_,hbb⟩, ?_⟩
    refine zem (xs:=xs) (ys:=ys) (ha) (hbb) hxy hl (fun s'=>s'.seqT ha) (fun s'=>s'.seqT hbb) (fun i x y hx hy H' s' Q' q=> ?_) fun acc H' hacc s' h'=> ?_
    ·refine ⟨_,rfl,_,rfl,x,y,rfl, ?_,fun H2 s2=>q H2 s2⟩
     have al:=zc1 pr hx hy
     exact al.same s'
    ·refine ⟨acc,_,rfl,h', ?_⟩
     have e:(List.replicate xs.length true).all id=true:=by simp
     rw[e]
     exact k H' s'
end
end K21
namespace L2
open PySem PySem.Spec PyProof.Rows
theorem zeB {X:Cx}{k:Nat}{sp:Sp}{x:Str}{p pos:Pos}(C:Cal X.prog X.w X.K X.mg X.base k x [] sp)(hr:Room k X.A)(hg:Gl X x)(hdb:(x==("__debug__" :Str))=false:=by decide):PE X (.Call (.Name x p) [] [] pos) (fun _ H Q=>sp [] H Q E0):=by
 obtain⟨f,fd,F,hm,hk,hb⟩:=C.ex
 exact zgT F hr hg hm hk hb .nil zie hdb
noncomputable def zdu:Sp:=fun vs H Q _=>vs=[]/\∀z H',Same H H'->H' z=some (.tup [.str "rounds",.str "stays",.str "rises",.str "highs",.str "crossed",.str "longest"])->Q (.ref z) H'
theorem zdv {X:Cx}(K:PySem.W.Frag)(hK:X.K=K):OpR X (compareOp .NotIn) (rIn K true):=hK▸zdQ
end L2
namespace K21
open PySem PySem.Spec PyProof.Rows L2
section
variable {P:Program}{w:World}{K:PySem.W.Frag}{mg:Str->Option Value}{base:Heap}
noncomputable abbrev zbG:Stmt:=top 32
theorem zdw:FnScope [] [] (zaf zbG):=⟨rfl,rfl,rfl,by decide+kernel,rfl,by decide+kernel,by decide+kernel⟩
theorem zdx {f:Addr}{fd:FuncData}(F:Fun K "_law_kinds" "_law_kinds" zbG f fd):FnOk P w K mg base CX0 1 f fd [] zdu:=by
 refine F.ok zdw (fun vs H Q E h=> ?_) (fun cdv A outer s H vs Q E hr h=> ?_)
 ·obtain ⟨rfl,_⟩:=h
  rfl
 ·obtain ⟨rfl,k⟩:=h
  refine⟨_,(zai (zan (zaz (zaa zcB (zaa zcB (zaa zcB (zaa zcB (zaa zcB (zaa zcB zad))))))))), ?_⟩
  exact⟨by show 6<=sizeLine;decide,fun z hz=>k z _ (zac hz) zab⟩
end
end K21
namespace L2
open PySem PySem.Spec PyProof.Rows
noncomputable def zdy:Sp:=fun vs H Q _=>∃m:Nat,vs=[.int m]/\m<=6/\∀p zs H',Same H H'->H p=none->H' p=some (.lst (zs.map V.ref))->RowsAt H' zs (allA m)->Q (.ref p) H'
theorem zhy {m:Nat}{o:List Int}(h:o∈allA m):Ord m o/\o.length=m:=by
 have:=(zcw m m).1 o h
 exact⟨this.ord,this.len⟩
noncomputable def wlkZ:Nat->List Int->List Int->Int->List Int
 |0,_,g,_=>g
 |k+1,o,g,x=>if x∈g then g else wlkZ k o (g++[x]) (o.getD x.toNat 0)
noncomputable def rnTo (o:List Int):Nat->Int×List Int
 |0=>(0,[])
 |i+1=>((rnTo o i).1+(if o.getD i 0∈(rnTo o i).2 then 0 else 1),wlkZ (o.length+1) o (rnTo o i).2 (o.getD i 0))
noncomputable def gtZ (o:List Int)(p:Nat):Nat:=((o.take p).filter fun y=>decide (o.getD p 0<y)).length
noncomputable def hiTo (o:List Int):Nat->Int
 |0=>0
 |p+1=>hiTo o p+(if gtZ o p=0 then 1 else 0)
noncomputable def crTo (o:List Int):Nat->Int
 |0=>0
 |p+1=>crTo o p+(gtZ o p:Int)
noncomputable def mxZ6 (l:List Int):Int:=l.foldl (fun a b=>if a<b then b else a) 0
noncomputable def belZ (o:List Int)(p:Nat):List Nat:=(List.range p).filter fun k=>decide (o.getD k 0<o.getD p 0)
noncomputable def lrTo (o:List Int):Nat->List Int
 |0=>[]
 |p+1=>lrTo o p++[1+mxZ6 ((belZ o p).map fun k=>(lrTo o p).getD k 0)]
noncomputable def stZ6 (o:List Int):Int:=(((List.range o.length).filter fun (i:Nat)=>decide ((i:Int)=o.getD i 0)).length:Nat)
noncomputable def riZ6 (o:List Int):Int:=(((List.range (o.length-1)).filter fun i=>decide (o.getD i 0<o.getD (i+1) 0)).length:Nat)
noncomputable def sixZ (o:List Int):List Int:=[(rnTo o o.length).1,stZ6 o,riZ6 o,hiTo o o.length,crTo o o.length,mxZ6 (lrTo o o.length)]
noncomputable def zhz:Sp:=fun vs H Q _=>∃(a:Addr) (o:List Int) (m:Nat),vs=[.ref a]/\H a=some (.tup (o.map V.int))/\Ord m o/\o.length=m/\m<=6/\∀z H',Same H H'->H' z=some (.tup ((sixZ o).map V.int))->Q (.ref z) H'
theorem zgz:∀(l:List Int) (a:Int),(l.foldl (fun a b=>if a<b then b else a) a∈a::l)/\∀x∈a::l,x<=l.foldl (fun a b=>if a<b then b else a) a
 |[],a=>⟨by simp,fun x hx=>by rw[List.mem_singleton.mp hx];exact Int.le_refl _⟩
 | b ::t,a=>by
  obtain⟨h1,h2⟩:=zgz t (if a<b then b else a)
  rw[List.foldl_cons]
  refine⟨?_,fun x hx=> ?_⟩
  ·rcases List.mem_cons.mp h1 with h|h
   ·rw [h]
    split<;>simp
   ·exact List.mem_cons_of_mem _ (List.mem_cons_of_mem _ h)
  ·have hb:=h2 (if a<b then b else a) (by simp)
   rcases List.mem_cons.mp hx with rfl|hx
   ·refine Int.le_trans ?_ hb
    split<;>(first|lia|omega)
   ·rcases List.mem_cons.mp hx with rfl|hx
    ·refine Int.le_trans ?_ hb
     split<;>(first|lia|omega)
    ·exact h2 x (List.mem_cons_of_mem _ hx)
theorem zhZ {l:List Int}{M:Int}(h1:M∈0::l)(h2:∀x∈0::l,x<=M):M=mxZ6 l:=by
 obtain⟨q1,q2⟩:=zgz l 0
 have a:=q2 M h1
 have b:=h2 _ q1
 unfold mxZ6
 (first|lia|omega)
structure GoneOk (m:Nat) (g:List Int):Prop where
 nd:g.Nodup
 rng:∀x∈g,0<=x/\x<(m:Int)
theorem GoneOk.len {m:Nat}{g:List Int}(h:GoneOk m g):g.length<=m:=by
 have:=zeW h.nd (L:=num0 m) fun y hy=>mem_num0.mpr (h.rng y hy)
 rwa [zbE] at this
theorem GoneOk.more {m:Nat}{g:List Int}(h:GoneOk m g){x:Int}(hx:x∉g)(hr:0<=x/\x<(m:Int)):GoneOk m (g++[x]):=by
 refine⟨List.nodup_append.mpr ⟨h.nd,by simp,fun a ha c hc e=> ?_⟩,fun y hy=> ?_⟩
 ·rw [List.mem_singleton] at hc
  subst hc e
  exact hx ha
 ·rcases List.mem_append.mp hy with hy|hy
  ·exact h.rng y hy
  ·rw[List.mem_singleton.mp hy];exact hr
noncomputable def gV (g:List Int):List (Key×V):=g.map fun x=>(Sum.inl x,V.bl true)
theorem zgA (g:List Int)(x:Int):(valV (gV g) (Sum.inl x)).isSome=decide (x∈g):=by
 rw[<-zcx]
 unfold gV
 rw[List.any_map]
 by_cases h:x∈g
 ·rw [decide_eq_true h]
  exact List.any_eq_true.mpr ⟨x,h,by simp⟩
 ·rw [decide_eq_false h]
  refine List.any_eq_false.mpr fun y hy=> ?_
  simp
  exact fun e=>h (e▸hy)
theorem zjx {g:List Int}{x:Int}(h:x∉g):putK (gV g) (Sum.inl x) (.bl true)=gV (g++[x]):=by
 have:valV (gV g) (Sum.inl x)=none:=by
  have e:=zgA g x
  rw[decide_eq_false h] at e
  cases q:valV (gV g) (Sum.inl x) with
  |none=>rfl
  |some v=>rw[q] at e;cases e
 rw[zhe _ this]
 unfold gV
 rw[List.map_append]
 rfl
end L2
namespace K21
open PySem PySem.Spec PyProof.Rows L2
noncomputable abbrev zba:Stmt:=top 34
section
variable {P:Program}{w:World}{K:PySem.W.Frag}{mg:Str->Option Value}{base:Heap}
theorem sc__law_orders:FnScope ["_law_many", "_law_found", "_law_turn", "_law_longer", "_law_begun"] ["_law_many"] (zaf zba):=⟨rfl,rfl,rfl,by decide+kernel,rfl,by decide+kernel,by decide+kernel⟩
set_option maxHeartbeats 8000000 in
theorem zcX {f:Addr}{fd:FuncData}(F:Fun K "_law_orders" "_law_orders" zba f fd)(T:Top mg):FnOk P w K mg base CX0 1 f fd ["_law_many"] zdy:=by
 refine F.ok sc__law_orders (fun vs H Q E h=> ?_) (fun cdv A outer s H vs Q E hr h=> ?_)
 ·obtain ⟨m,rfl,_⟩:=h
  rfl
 ·obtain ⟨m,rfl,hm,k⟩:=h
  refine⟨_,(zag (zaq (i:=1) sc__law_orders.nd rfl (Or.inl rfl) (zbd (zaa (zaz zad) zad)))
   (zag (zbj PassesOwn.never rfl (zaQ rfl T.n_range (zaa (pv 0) zad)) (zak (i:=2) sc__law_orders.nd rfl (Or.inl rfl))
    (zag (zaq (i:=3) sc__law_orders.nd rfl (Or.inl rfl) (zbd zad))
    (zag (zbj PassesOwn.never rfl (za1 (pv 1)) (zak (i:=4) sc__law_orders.nd rfl (Or.inr rfl))
     (zai (zc6 (zgV PySem.F.plainAttrs_list PySem.F.slot_list_extend PySem.F.type_list_extend zfX (pv 3) (zaa (zbq (N':=["_law_number", "_law_begun"]) (n:=1) (ix:=[4]) rfl (CompScope.of (sc:=zaf zba) (N:=["_law_many", "_law_found", "_law_turn", "_law_longer", "_law_begun"]) (by decide+kernel) rfl rfl) (zaQ rfl T.n_range (zaa (pv 0) zad)) (fun _ _ _ _ _=>⟨(zak (i:=0) (show (["_law_number", "_law_begun"]:List Str).Nodup by decide+kernel) rfl (Or.inl rfl)),(zca (zaN (zdv K rfl) (pv 0) (pv 1) (by rfl))),(zaj zij (pv 1) (zaz (zaa (pv 0) zad)))⟩)) zad)))))
    (zai (zaq (i:=1) sc__law_orders.nd rfl (Or.inl rfl) (pv 3))))))
   (zai (zan (pv 1))))), ?_⟩
  refine⟨Nat.zero_le _,fun t0 ht0=>⟨by show 1<=sizeLine;decide,fun p0 hp0=> ?_⟩⟩
  have s0:=(zac (o:=.tup []) ht0).trans (zac (o:=.lst [.ref t0]) hp0)
  refine⟨_,rfl,_,rfl,by (first|lia|omega),by (first|lia|omega), ?_⟩
  rw[Int.toNat_natCast]
  refine zbm (n:=m) (fun i σ G=>∃(p:Addr) (zs:List Addr) (rows:List (List Int)) (c2 c3 c4:Option V),σ=[some (.int m),some (.ref p),c2,c3,c4]/\Same H G/\H p=none/\G p=some (.lst (zs.map V.ref))/\RowsAt G zs rows/\rows=zfq m [[]] i) ?_ ?_ ?_
  ·exact⟨p0,[t0],[[]],none,none,none,rfl,s0,(zac ht0).free hp0,zab,.cons (zac hp0 _ _ zab) .nil,rfl⟩
  ·rintro i σ G hi ⟨p,zs,rows,c2,c3,c4,rfl,sm,hpn,hp2,R,hrows⟩
   have B:∀r∈rows,Beg m i r:=fun r hr'=>(zcw m i).1 r (hrows▸hr')
   have hlen:rows.length<=720:=by rw[hrows,(zcw m i).2];exact zgd m (by (first|lia|omega)) i (by (first|lia|omega))
   refine⟨Nat.zero_le _,fun L hL=> ?_⟩
   have sL:=zac (o:=.lst []) hL
   have hLp:L≠p:=fun e=>by rw[e,hp2] at hL;cases hL
   have hL0:H L=none:=sm.free hL
   have lz:zs.length=rows.length:=Paired.length R
   refine⟨_,rfl,p,rfl,⟨_,SqL.of (sL _ _ hp2)⟩, ?_⟩
   refine zeM (K:=K) (a:=p) (xs:=zs.map V.ref) (fun j σ G2=>∃(zs2:List Addr) (rows2:List (List Int)) (c4:Option V),σ=[some (.int m),some (.ref p),some (.int (0+(i:Int))),some (.ref L),c4]/\Same G G2/\G2 L=some (.lst (zs2.map V.ref))/\RowsAt G2 zs2 rows2/\rows2=zdh m (rows.take j)/\rows2.length<=j*6) ?_ ?_ ?_ ?_
   ·exact⟨[],[],c4,rfl,sL,zab,.nil,rfl,Nat.le_refl _⟩
   ·rintro j σ G2 _ ⟨zs2,rows2,c4,rfl,s2,_⟩
    exact SqL.of (s2 _ _ hp2)
   ·rintro j x σ G2 hx ⟨zs2,rows2,c4,rfl,s2,hL2,R2,B2,hlen2⟩
    have hj:j<zs.length:=by
     have:=(List.getElem?_eq_some_iff.mp hx).1
     rwa [List.length_map] at this
    rw[List.getElem?_map] at hx
    obtain⟨z,hz,rfl⟩:=Option.map_eq_some_iff.mp hx
    obtain⟨r,hr0,hr2⟩:=R.get hz
    have hr1:=List.mem_of_getElem? hr0
    have htk:rows.take (j+1)=rows.take j++[r]:=by rw[List.take_succ,hr0];rfl
    have hb:=B r hr1
    refine⟨_,rfl,.inl ⟨rfl,_,SqL.of hL2⟩, ?_⟩
    refine⟨_,rfl,_,rfl,by (first|lia|omega),by (first|lia|omega), ?_⟩
    rw[Int.toNat_natCast]
    refine zhp (zaX (lo:=0) (n:=m)) (za5 (by rw[zaH];(first|lia|omega))) (fun v=>match v with| .int k=> !inV (.int k) (r.map V.int)|_=>false) (RTab fun k=>r++[k]) (fun x v G G' st ⟨k,z,e1,e2,e3⟩=>⟨k,z,e1,e2,st _ _ e3⟩) (fun _ _=>trivial) (fun x hx G s' Q' q'=> ?_) (fun x hx _ G s' Q' q'=> ?_) fun acc ys G3 hacc s' hys pr=> ?_
    ·obtain ⟨n,rfl,n0,n1⟩:=za2 hx
     exact⟨_,rfl,_,rfl,z,_,rfl,.inr (SqT.of (s' _ _ (s2 _ _ hr2))),rfl,by rw[List.all_map];simp[zdc],_,rfl,q'⟩
    ·obtain ⟨n,rfl,n0,n1⟩:=za2 hx
     refine⟨_,rfl,_,rfl,by show 1<=sizeLine;decide,fun t ht=>⟨z,t,_,_,rfl,rfl,zac ht _ _ (s' _ _ (s2 _ _ hr2)),zab, ?_,fun z' G' s'' hz'=> ?_⟩⟩
     ·rw [zaw,hb.len]
      exact Nat.le_trans (by show i+1<=1000;(first|lia|omega)) (by decide)
     ·refine q' _ _ ((zac ht).trans s'') ⟨n,z',rfl,rfl, ?_⟩
      rw[hz',List.map_append]
      rfl
    ·have ef:((zaD 0 m).filter fun v=>match v with| .int k=> !inV (.int k) (r.map V.int)|_=>false)=(zb1 m r).map V.int:=by
      rw[zbf,List.filter_map]
      unfold zb1
      congr 1
      refine List.filter_congr fun k _=> ?_
      show (!inV (.int k) (r.map V.int))=_
      rw[zeY]
      by_cases c:k∈r
      ·rw[decide_eq_true c,decide_eq_false (fun z=>z c)];rfl
      ·rw[decide_eq_false c,decide_eq_true c];rfl
     rw[ef] at pr
     obtain⟨zs3,rfl,R3⟩:=ze6 pr
     have hf:=hb.free
     have l3:zs3.length=(zb1 m r).length:=by rw[Paired.length R3,List.length_map]
     have l2:zs2.length=rows2.length:=Paired.length R2
     have hL3:=s' _ _ hL2
     refine⟨L,acc,_,_,rfl,rfl,hL3,hys, ?_, ?_⟩
     ·rw [za4,za4]
      refine Nat.le_trans (by (first|lia|omega):zs2.length+zs3.length<=10000) (by decide)
     ·have stp:SameT G3 (upd G3 L (.lst (zs2.map V.ref++zs3.map V.ref))):=zbX hL3
      refine⟨zs2++zs3,rows2++(zb1 m r).map (fun k=>r++[k]),_,rfl,zav (s2.trans s') hL,by rw[zab,List.map_append],Paired.append ((R2.same s').sameT stp) (R3.sameT stp), ?_, ?_⟩
      ·rw [htk,B2]
       unfold zdh
       rw[List.flatMap_append]
       simp
      ·rw [List.length_append,List.length_map]
       (first|lia|omega)
   ·rintro σ G2 ⟨zs2,rows2,c4,rfl,s2,hL2,R2,B2,hlen2⟩
    refine⟨_,rfl, ?_⟩
    refine⟨L,zs2,rows2,_,_,_,rfl,sm.trans s2,hL0,hL2,R2, ?_⟩
    rw[B2,List.length_map,lz,List.take_length,hrows]
    rfl
  ·rintro σ G ⟨p,zs,rows,c2,c3,c4,rfl,sm,hpn,hp2,R,hrows⟩
   subst hrows
   exact⟨_,rfl,k p zs G sm hpn hp2 R⟩
end
noncomputable abbrev zaM:Stmt:=top 35
section
variable {P:Program}{w:World}{K:PySem.W.Frag}{mg:Str->Option Value}{base:Heap}
theorem sc__law_six:FnScope ["_law_order", "_law_rounds", "_law_gone", "_law_first", "_law_number", "_law_highs", "_law_crossed", "_law_rows", "_law_place", "_law_greater", "_law_stays", "_law_rises"] ["_law_order"] (zaf zaM):=⟨rfl,rfl,rfl,by decide+kernel,rfl,by decide+kernel,by decide+kernel⟩
set_option maxHeartbeats 16000000 in
noncomputable def sixT {f:Addr}{cdv:Value}{A:Around}{outer:List Env}{s:Shared}{H:Hp}{E:XK}(hr:Room 0 (A.deeper (envOfC "_law_six" (zaf zaM) s.heap.objs.size f cdv)))(T:Top mg):{t:TS//PSs (cxOf CX0 P w K mg base ["_law_order", "_law_rounds", "_law_gone", "_law_first", "_law_number", "_law_highs", "_law_crossed", "_law_rows", "_law_place", "_law_greater", "_law_stays", "_law_rises"] "_law_six" (zaf zaM) f cdv A outer s H E).nox (zaG zaM) t}:=
 have hu1:=zif hr
 ⟨_, (zag (zcD (i:=1) (j:=2) rfl sc__law_six.nd rfl rfl (by decide) rfl rfl (zaa zae (zaa zhj zad)) rfl)
   (zag (zbj PassesOwn.never rfl (zfF (pv 0)) (zak (i:=3) sc__law_six.nd rfl (Or.inl rfl))
    (zag (zaq (i:=1) sc__law_six.nd rfl (Or.inl rfl) (zaj zao (pv 1) (zaA zcF (by rfl) T.n_int boot_int (zaa (ziW (zdZ hu1 (pv 3) (pv 2))) zad))))
    (zag (zaq (i:=4) sc__law_six.nd rfl (Or.inr rfl) (pv 3))
    (zai (zcs PassesOwn.never (ziX (zdZ hu1 (pv 4) (pv 2)))
     (zag (zgo hu1 (pv 2) (pv 4) zfC rfl)
     (zai (zaq (i:=4) sc__law_six.nd rfl (Or.inr rfl) (zaF za8 (pv 0) (pv 4) (fun _ _=>rfl))))))))))
   (zag (zcC (zaz (zaa zae (zaa zae (zaa (zbd zad) zad)))) (zbW rfl (zar (zak (i:=5) sc__law_six.nd rfl (Or.inl rfl) (Or.inl rfl)) (zar (zak (i:=6) sc__law_six.nd rfl (Or.inl rfl) (Or.inl rfl)) (zar (zak (i:=7) sc__law_six.nd rfl (Or.inr rfl) (Or.inl rfl)) zbp)))))
   (zag (zbj PassesOwn.never rfl (zbY rfl T.n_enumerate (zaa (pv 0) zad)) (zdg (i:=8) (j:=4) rfl sc__law_six.nd rfl rfl (Or.inl rfl) (Or.inr rfl) (Or.inl rfl) (Or.inl rfl))
    (zag (zaq (i:=9) sc__law_six.nd rfl (Or.inl rfl) (zal zap (by rfl) T.n_len PySem.boot_len (zaa (zbq (N':=["_law_one", "_law_number"]) (n:=1) (ix:=[4]) rfl (CompScope.of (sc:=zaf zaM) (N:=["_law_order", "_law_rounds", "_law_gone", "_law_first", "_law_number", "_law_highs", "_law_crossed", "_law_rows", "_law_place", "_law_greater", "_law_stays", "_law_rises"]) (by decide+kernel) rfl rfl) (zfF (zct zik (pv 0) zeg (zcG (pv 8)))) (fun _ _ _ _ _=>⟨(zak (i:=0) (show (["_law_one", "_law_number"]:List Str).Nodup by decide+kernel) rfl (Or.inl rfl)),(zca (zaN zi4 (pv 0) (pv 1) (zaV _))),(pv 0)⟩)) zad)))
    (zag (zcD (i:=5) (j:=6) rfl sc__law_six.nd rfl rfl (by decide) rfl rfl (zaa (zaj zao (pv 5) (zaA zcF (by rfl) T.n_int boot_int (zaa (zc9 zc8 (pv 9) zae (zaV _)) zad))) (zaa (zaj zao (pv 6) (pv 9)) zad)) rfl)
    (zai (zc6 (zgV PySem.F.plainAttrs_list PySem.F.slot_list_append PySem.F.type_list_append zbB (pv 7) (zaa (zaj zao zae (zal (zdX rfl) (by rfl) T.n_max boot_max (zaa (zaj zfY (zbd (zaa zae zad)) (zbq (N':=["_law_k", "_law_rows", "_law_number", "_law_order"]) (n:=1) (ix:=[7,4,0]) rfl (CompScope.of (sc:=zaf zaM) (N:=["_law_order", "_law_rounds", "_law_gone", "_law_first", "_law_number", "_law_highs", "_law_crossed", "_law_rows", "_law_place", "_law_greater", "_law_stays", "_law_rises"]) (by decide+kernel) rfl rfl) (zaQ rfl T.n_range (zaa (pv 8) zad)) (fun _ _ _ _ _=>⟨(zak (i:=0) (show (["_law_k", "_law_rows", "_law_number", "_law_order"]:List Str).Nodup by decide+kernel) rfl (Or.inl rfl)),(zca (zaN zfM (zaF (zbQ K rfl) (pv 3) (pv 0) (fun _ _=>rfl)) (pv 2) (zaV _))),(zaF (zg4 K rfl) (pv 1) (pv 0) (fun _ _=>rfl))⟩))) zad))) zad)))))))
   (zag (zaq (i:=10) sc__law_six.nd rfl (Or.inl rfl) (zal zap (by rfl) T.n_len PySem.boot_len (zaa (zbq (N':=["_law_place", "_law_number"]) (n:=2) (ix:=[]) rfl (CompScope.of (sc:=zaf zaM) (N:=["_law_order", "_law_rounds", "_law_gone", "_law_first", "_law_number", "_law_highs", "_law_crossed", "_law_rows", "_law_place", "_law_greater", "_law_stays", "_law_rises"]) (by decide+kernel) rfl rfl) (zbY rfl T.n_enumerate (zaa (pv 0) zad)) (fun _ _ _ _ _=>⟨(zcv K (i:=0) (j:=1) rfl rfl (show (["_law_place", "_law_number"]:List Str).Nodup by decide+kernel) rfl rfl (Or.inl rfl) (Or.inl rfl) (Or.inr rfl) (Or.inr rfl)),(zca (zaN zc8 (pv 0) (pv 1) (zaV _))),(pv 0)⟩)) zad)))
   (zag (zaq (i:=11) sc__law_six.nd rfl (Or.inl rfl) (zal zap (by rfl) T.n_len PySem.boot_len (zaa (zbq (N':=["_law_place", "_law_order"]) (n:=1) (ix:=[0]) rfl (CompScope.of (sc:=zaf zaM) (N:=["_law_order", "_law_rounds", "_law_gone", "_law_first", "_law_number", "_law_highs", "_law_crossed", "_law_rows", "_law_place", "_law_greater", "_law_stays", "_law_rises"]) (by decide+kernel) rfl rfl) (zcE rfl T.n_range (zaa zae (zaa (zal zap (by rfl) T.n_len PySem.boot_len (zaa (pv 0) zad)) zad))) (fun _ _ _ _ _=>⟨(zak (i:=0) (show (["_law_place", "_law_order"]:List Str).Nodup by decide+kernel) rfl (Or.inl rfl)),(zca (zaN zfM (zaF (zbQ K rfl) (pv 1) (zaj za0 (pv 0) zae) (fun _ _=>rfl)) (zaF (zbQ K rfl) (pv 1) (pv 0) (fun _ _=>rfl)) (zaV _))),(pv 0)⟩)) zad)))
   (zai (zan (zaz (zaa (pv 1) (zaa (pv 10) (zaa (pv 11) (zaa (pv 5) (zaa (pv 6) (zaa (zal (zdX rfl) (by rfl) T.n_max boot_max (zaa (zaj zfY (zbd (zaa zae zad)) (pv 7)) zad)) zad)))))))))))))))⟩
end
end K21
namespace L2
open PySem PySem.Spec PyProof.Rows
theorem zgB (q:Nat->Bool):∀(k:Nat) (xs:List V),enF (fun i _=>q i) (fun i _=>.int (i:Int)) k xs=(((List.range xs.length).filter fun j=>q (k+j)).map fun j=>V.int ((k+j:Nat):Int))
 |_,[]=>rfl
 | k,x::t=>by
  show (if q k then [V.int (k:Int)] else [])++enF _ _ (k+1) t=_
  rw[zgB q (k+1) t,List.length_cons,List.range_succ_eq_map,List.filter_cons,List.filter_map]
  have e:(fun j=>q (k+1+j))=(fun j=>q (k+j))∘Nat.succ:=funext fun j=>by
   show q (k+1+j)=q (k+(j+1))
   rw[show k+1+j=k+(j+1) by (first|lia|omega)]
  rw[e]
  by_cases c:q k
  ·rw [if_pos c,if_pos (show q (k+0)=true from c),List.map_cons,List.map_map]
   show _::_=_::_
   congr 1
   refine List.map_congr_left fun j _=> ?_
   show V.int ((k+1+j:Nat):Int)=V.int ((k+(j+1):Nat):Int)
   rw[show k+1+j=k+(j+1) by (first|lia|omega)]
  ·rw [if_neg c,if_neg (show ¬q (k+0)=true from c),List.map_map]
   show []++_=_
   rw[List.nil_append]
   refine List.map_congr_left fun j _=> ?_
   show V.int ((k+1+j:Nat):Int)=V.int ((k+(j+1):Nat):Int)
   rw[show k+1+j=k+(j+1) by (first|lia|omega)]
noncomputable def ltPV (y:Int):V->Bool
 | .int x=>decide (y<x)
 |_=>false
theorem zgC (y:Int)(l:List Int):(l.map V.int).filter (ltPV y)=(l.filter fun x=>decide (y<x)).map V.int:=by
 rw[List.filter_map]
 rfl
noncomputable def zjy (o:List Int)(y:Int):V->Bool
 | .int k=>decide (o.getD k.toNat 0<y)
 |_=>false
noncomputable def atPV (l:List Int):V->V
 | .int k=>.int (l.getD k.toNat 0)
 |_=>.non
theorem zhA (o l:List Int)(p:Nat):(((zaD 0 p).filter (zjy o (o.getD p 0))).map (atPV l))=((belZ o p).map fun k=>l.getD k 0).map V.int:=by
 unfold belZ zaD
 rw[List.filter_map,List.map_map,List.map_map]
 congr 1
 ·funext k
  show V.int (l.getD (0+(k:Int)).toNat 0)=V.int (l.getD k 0)
  rw[Int.zero_add,Int.toNat_natCast]
 ·refine List.filter_congr fun k _=> ?_
  show decide (o.getD (0+(k:Int)).toNat 0<o.getD p 0)=_
  rw[Int.zero_add,Int.toNat_natCast]
noncomputable def ziH (o:List Int):V->Bool
 | .int k=>decide (o.getD (k-1).toNat 0<o.getD k.toNat 0)
 |_=>false
theorem ziI (o:List Int):((((zaD 1 (o.length-1)).filter (ziH o)).length:Nat):Int)=riZ6 o:=by
 unfold zaD riZ6
 rw[List.filter_map,List.length_map]
 congr 2
 refine List.filter_congr fun k _=> ?_
 show decide (o.getD ((1:Int)+(k:Int)-1).toNat 0<o.getD ((1:Int)+(k:Int)).toNat 0)=_
 rw[show ((1:Int)+(k:Int)-1).toNat=k by (first|lia|omega),show ((1:Int)+(k:Int)).toNat=k+1 by (first|lia|omega)]
theorem zjz (o:List Int):(((enF (fun i _=>decide ((i:Int)=o.getD i 0)) (fun i _=>V.int (i:Int)) 0 (o.map V.int)).length:Nat):Int)=stZ6 o:=by
 rw[zgB (fun i=>decide ((i:Int)=o.getD i 0)),List.length_map,zaw]
 unfold stZ6
 simp only[Nat.zero_add]
theorem zdz (o:List Int):∀p,(lrTo o p).length=p
 |0=>rfl
 |p+1=>by
  unfold lrTo
  rw[List.length_append,zdz o p]
  rfl
theorem Ord.rngD {m:Nat}{o:List Int}(h:Ord m o):∀y∈o,0<=y/\y<(m:Int):=fun y hy=>mem_num0.mp (h.mem_iff.mp hy)
end L2
namespace K21
open PySem PySem.Spec PyProof.Rows L2
section
variable {P:Program}{w:World}{K:PySem.W.Frag}{mg:Str->Option Value}{base:Heap}
set_option maxHeartbeats 16000000 in
theorem zeC {f:Addr}{fd:FuncData}(F:Fun K "_law_six" "_law_six" zaM f fd)(T:Top mg):FnOk P w K mg base CX0 1 f fd ["_law_order"] zhz:=by
 refine F.ok sc__law_six (fun vs H Q E h=> ?_) (fun cdv A outer s H vs Q E hr h=> ?_)
 ·obtain ⟨a,o,m,rfl,_⟩:=h
  rfl
 ·obtain ⟨a,o,m,rfl,ha,hord,hom,hm6,k⟩:=h
  refine⟨_,(sixT hr T).2, ?_⟩
  have hrng:=hord.rngD
  have gD:∀i,i<m->o[i]? =some (o.getD i 0):=fun i hi=>by
   rw[List.getD_eq_getElem?_getD,List.getElem?_eq_getElem (by (first|lia|omega))]
   rfl
  have rD:∀i,i<m->0<=o.getD i 0/\o.getD i 0<(m:Int):=fun i hi=>hrng _ (List.mem_of_getElem? (gD i hi))
  refine fun D hD=>⟨_,_,rfl, ?_⟩
  have sD:=zac (o:=.dK []) hD
  refine⟨_,rfl,a,rfl,⟨_,SqT.of (sD _ _ ha)⟩, ?_⟩
  refine zfH (K:=K) (xs:=o.map V.int) (fun i σ G=>∃c3 c4:Option V,σ=[some (.ref a),some (.int (rnTo o i).1),some (.ref D),c3,c4,none,none,none,none,none,none,none]/\Same H G/\G D=some (.dK (gV (rnTo o i).2))/\GoneOk m (rnTo o i).2) ?_ ?_ ?_ ?_
  ·exact⟨none,none,rfl,sD,zab,⟨by simp[rnTo],fun x hx=>by cases hx⟩⟩
  ·rintro i σ G _ ⟨c3,c4,rfl,sG,_⟩
   exact SqT.of (sG _ _ ha)
  ·rintro i v σ G hx ⟨c3,c4,rfl,sG,hG,hgo⟩
   have hi:i<m:=by
    have:=(List.getElem?_eq_some_iff.mp hx).1
    rw[zaw] at this
    (first|lia|omega)
   rw[List.getElem?_map,gD i hi] at hx
   cases hx
   obtain⟨x0,x1⟩:=rD i hi
   have ernd:(rnTo o i).1+(if (!decide (o.getD i 0∈(rnTo o i).2))=true then (1:Int) else 0)=(rnTo o (i+1)).1:=by
    show _=(rnTo o i).1+(if o.getD i 0∈(rnTo o i).2 then (0:Int) else 1)
    by_cases c:o.getD i 0∈(rnTo o i).2
    ·rw[decide_eq_true c,if_pos c];rfl
    ·rw[decide_eq_false c,if_neg c];rfl
   have egone:(rnTo o (i+1)).2=wlkZ (o.length+1) o (rnTo o i).2 (o.getD i 0):=rfl
   generalize o.getD i 0=x at x0 x1 ernd egone
   refine⟨_,rfl,_,rfl,_,rfl,D,_,rfl,DGet.k (k:=Sum.inl x) hG,.inr ⟨_,rfl,_,_,rfl,rfl, ?_⟩⟩
   rw[zgA]
   refine⟨_,rfl, ?_⟩
   refine⟨fun mm σ G'=>∃(g:List Int) (y:Int) (fuel:Nat),mm=m-g.length/\σ=[some (.ref a),some (.int ((rnTo o i).1+(if (!decide (x∈(rnTo o i).2))=true then (1:Int) else 0))),some (.ref D),some (.int x),some (.int y),none,none,none,none,none,none,none]/\Same H G'/\G' D=some (.dK (gV g))/\GoneOk m g/\0<=y/\y<(m:Int)/\m+1<=fuel+g.length/\wlkZ fuel o g y=wlkZ (o.length+1) o (rnTo o i).2 x,⟨_,(rnTo o i).2,x,o.length+1,rfl,rfl,sG,hG,hgo,x0,x1,by (first|lia|omega),rfl⟩, ?_⟩
   rintro mm σ G' ⟨g,y,fuel,rfl,rfl,sG',hG',hgo',y0,y1,hfu,ew⟩
   refine⟨_,rfl,_,rfl,D,_,rfl,DGet.k (k:=Sum.inl y) hG',_,rfl, ?_⟩
   rw[zgA]
   by_cases c:y∈g
   ·rw [decide_eq_true c]
    refine iteF ?_
    have e2:wlkZ fuel o g y=g:=by
     cases fuel with
     |zero=>rfl
     |succ k=>unfold wlkZ;rw[if_pos c]
    rw[e2,<-egone] at ew
    rw[ernd]
    exact⟨_,_,rfl,sG',by rw[<-ew];exact hG',by rw[<-ew];exact hgo'⟩
   ·rw [decide_eq_false c]
    have hgo2:=hgo'.more c ⟨y0,y1⟩
    have hl2:=hgo2.len
    rw[List.length_append] at hl2
    replace hl2:g.length+1<=m:=hl2
    obtain⟨fu,rfl⟩:∃fu,fuel=fu+1:=⟨fuel-1,by (first|lia|omega)⟩
    have e2:wlkZ (fu+1) o g y=wlkZ fu o (g++[y]) (o.getD y.toNat 0):=by
     conv=>lhs;unfold wlkZ
     rw[if_neg c]
    rw[e2] at ew
    have hD0:H D=none:=hD
    refine iteT ⟨fun σ' G''=>σ'=[some (.ref a),some (.int ((rnTo o i).1+(if (!decide (x∈(rnTo o i).2))=true then (1:Int) else 0))),some (.ref D),some (.int x),some (.int (o.getD y.toNat 0)),none,none,none,none,none,none,none]/\Same H G''/\G'' D=some (.dK (gV (g++[y]))), ?_, ?_⟩
    ·rintro σ' G'' ⟨rfl,sG'',hG''⟩
     have hy:=rD y.toNat (by (first|lia|omega))
     refine⟨_, ?_,g++[y],o.getD y.toNat 0,fu,rfl,rfl,sG'',hG'',hgo2,hy.1,hy.2, ?_,ew⟩
     ·rw [List.length_append]
      show m-(g.length+1)<m-g.length
      (first|lia|omega)
     ·rw [List.length_append]
      show m+1<=fu+(g.length+1)
      (first|lia|omega)
    ·refine ⟨_,rfl,_,rfl,D,_,rfl,DPut.k (k:=Sum.inl y) hG' ?_, ?_⟩
     ·unfold gV
      rw[List.length_map]
      exact Nat.lt_of_le_of_lt (by (first|lia|omega):g.length<=10) (by decide)
     ·rw [zjx c]
      have hne:a≠D:=fun z=>by rw[z,hD] at ha;cases ha
      refine⟨_,rfl,_,rfl,a,_,y,.int (o.getD y.toNat 0),rfl,rfl,SqT.of (by rw[zah hne];exact sG' _ _ ha),zbR y0 (by (first|lia|omega)), ?_⟩
      exact⟨rfl,zav sG' hD0,zab⟩
  ·rintro σ G ⟨c3,c4,rfl,sG,hG,hgo⟩
   rw[zaw]
   refine⟨Nat.zero_le _,fun L hL=>⟨by show 3<=sizeLine;decide,fun t ht=>⟨t,_,rfl,SqT.of zab,rfl,_,_,rfl,_,_,rfl,_,_,rfl,rfl, ?_⟩⟩⟩
   have sL:=(zac (o:=.lst []) hL).trans (zac (o:=.tup [V.int 0,.int 0,.ref L]) ht)
   have hL0:H L=none:=sG.free hL
   have hLL:upd (upd G L (.lst [])) t (.tup [V.int 0,.int 0,.ref L]) L=some (.lst []):=zac ht _ _ zab
   have SL:=sG.trans sL
   generalize upd (upd G L (.lst [])) t (.tup [V.int 0,.int 0,.ref L])=C0 at hLL SL ⊢
   refine⟨_,rfl,a,rfl,⟨_,SqT.of (SL _ _ ha)⟩, ?_⟩
   refine zeV (K:=K) (xs:=o.map V.int) (fun p σ G=>∃c4 c8 c9:Option V,σ=[some (.ref a),some (.int (rnTo o o.length).1),some (.ref D),c3,c4,some (.int (hiTo o p)),some (.int (crTo o p)),some (.ref L),c8,c9,none,none]/\Same H G/\G L=some (.lst ((lrTo o p).map V.int))) ?_ ?_ ?_ ?_
   ·exact⟨_,_,_,rfl,SL,hLL⟩
   ·rintro p σ G _ ⟨c4,c8,c9,rfl,sG,_⟩
    exact SqT.of (sG _ _ ha)
   ·rintro p v t2 σ G hx ⟨c4,c8,c9,rfl,sG,hGL⟩ ht2
    have hp:p<m:=by
     have:=(List.getElem?_eq_some_iff.mp hx).1
     rw[zaw] at this
     (first|lia|omega)
    rw[List.getElem?_map,gD p hp] at hx
    cases hx
    have s2:=zac (o:=.tup [.int (p:Int),.int (o.getD p 0)]) ht2
    have S2:=sG.trans s2
    have hL2:=s2 _ _ hGL
    have hlr:=zdz o p
    refine⟨t2,_,rfl,SqT.of zab,rfl,_,_,rfl,_,_,rfl,rfl, ?_⟩
    refine⟨_,rfl,_,rfl,_,rfl,a,_,rfl,S2 _ _ ha,fun q1 G1 g1 hq1=>⟨q1,rfl,⟨_,SqT.of hq1⟩, ?_⟩⟩
    rw[ziw _ _ (by (first|lia|omega))] at hq1
    refine zcJ (zfk (xs:=(o.take p).map V.int)) (za5 (by rw[zaw,List.length_take];(first|lia|omega))) (ltPV (o.getD p 0)) (fun v=>v) (fun _ s'=>SqT.of (s' _ _ hq1)) (fun x hx' G2 s2' Q' q=> ?_) (fun x hx' _ G2 s2' Q' q=>⟨_,rfl,q⟩) fun acc hacc=> ?_
    ·obtain ⟨y,_,rfl⟩:=List.mem_map.mp hx'
     exact⟨_,rfl,_,rfl,_,_,rfl,rfl,_,rfl,q⟩
    rw[List.map_id'' (fun _=>rfl),zgC]
    refine⟨acc,_,rfl,.inl (SqL.of zab), ?_⟩
    rw[zaw]
    have sA:=zac (o:=.lst (((o.take p).filter fun x=>decide (o.getD p 0<x)).map V.int)) hacc
    have S3:=(S2.trans g1).trans sA
    have hL3:=(g1.trans sA) _ _ hL2
    generalize upd G1 acc (.lst (((o.take p).filter fun x=>decide (o.getD p 0<x)).map V.int))=G3 at S3 hL3 ⊢
    show zaT 9 (V.int ((gtZ o p:Nat):Int)) _ _ _
    refine⟨_,rfl,_,rfl,rfl,.inr ⟨_,rfl,_,_,rfl,rfl,_,rfl,_,rfl,_,_,rfl,rfl,_,_,rfl, ?_⟩⟩
    have ehi:hiTo o p+(if decide (V.int ((gtZ o p:Nat):Int)=V.int 0)=true then (1:Int) else 0)=hiTo o (p+1):=by
     show _=hiTo o p+(if gtZ o p=0 then (1:Int) else 0)
     by_cases c:gtZ o p=0
     ·rw[if_pos c,c];rfl
     ·rw[if_neg c,decide_eq_false (fun e=>c (by have:=V.int.inj e;(first|lia|omega)))];rfl
    refine⟨_,rfl,.inl ⟨rfl,_,SqL.of hL3⟩, ?_⟩
    refine⟨by show 1<=sizeLine;decide,fun l1 hl1=> ?_⟩
    have g4:=zac (o:=.lst [V.int 0]) hl1
    refine⟨_,rfl,_,rfl,by (first|lia|omega),by (first|lia|omega), ?_⟩
    rw[Int.toNat_natCast]
    refine zcJ (zaX (lo:=0) (n:=p)) (za5 (by rw[zaH];(first|lia|omega))) (zjy o (o.getD p 0)) (atPV (lrTo o p)) (fun _ _=>trivial) (fun x hx' G4 s4 Q' q=> ?_) (fun x hx' _ G4 s4 Q' q=> ?_) fun acc2 hacc2=> ?_
    ·obtain ⟨n,rfl,n0,n1⟩:=za2 hx'
     exact⟨_,rfl,_,rfl,a,_,n,_,rfl,rfl,SqT.of (s4 _ _ (g4 _ _ (S3 _ _ ha))),zbR (by (first|lia|omega)) (by (first|lia|omega)),_,rfl,_,_,rfl,rfl,_,rfl,q⟩
    ·obtain ⟨n,rfl,n0,n1⟩:=za2 hx'
     exact⟨_,rfl,_,rfl,L,_,n,_,rfl,rfl,SqL.of (s4 _ _ (g4 _ _ hL3)),zbR (by (first|lia|omega)) (by (first|lia|omega)),q⟩
    rw[zhA]
    have g5:=zac (o:=.lst (((belZ o p).map fun k=>(lrTo o p).getD k 0).map V.int)) hacc2
    have hbl:(belZ o p).length<=p:=Nat.le_trans (List.length_filter_le _ _) (Nat.le_of_eq List.length_range)
    refine⟨l1,acc2,_,_,rfl,rfl,g5 _ _ zab,zab, ?_,fun l3 hl3=> ?_⟩
    ·rw [zaw,List.length_map]
     exact Nat.le_trans (by show 1+_<=100;(first|lia|omega)) (by decide)
    have g6:=zac (o:=.lst ([V.int 0]++((belZ o p).map fun k=>(lrTo o p).getD k 0).map V.int)) hl3
    refine⟨l3,0::((belZ o p).map fun k=>(lrTo o p).getD k 0),rfl,by rw[zab];rfl,by simp,fun M hM1 hM2=> ?_⟩
    have eM:=zhZ hM1 hM2
    subst eM
    refine⟨_,_,rfl,rfl, ?_⟩
    have S6:=((S3.trans g4).trans g5).trans g6
    have hL6:=((g4.trans g5).trans g6) _ _ hL3
    refine⟨L,_,_,rfl,rfl,hL6,za5 (by rw[zaw];(first|lia|omega)), ?_⟩
    refine⟨some (.int (o.getD p 0)),some (.int (p:Int)),some (.int ((gtZ o p:Nat):Int)), ?_,zav S6 hL0, ?_⟩
    ·rw [<-ehi]
     rfl
    ·rw [zab]
     show _=some (HO.lst ((lrTo o p++[1+mxZ6 ((belZ o p).map fun k=>(lrTo o p).getD k 0)]).map V.int))
     rw[List.map_append]
     rfl
   ·rintro σ G ⟨c4,c8,c9,rfl,sG,hGL⟩
    rw[zaw] at hGL ⊢
    refine⟨_,rfl,a,rfl,⟨_,SqT.of (sG _ _ ha)⟩, ?_⟩
    refine zil (xs:=o.map V.int) (fun s'=>SqT.of (s' _ _ (sG _ _ ha))) (by rw[zaw];(first|lia|omega)) (fun i _=>decide ((i:Int)=o.getD i 0)) (fun i _=>V.int (i:Int)) (fun i x hx G' s' Q' q=> ?_) (fun i x hx _ G' s' Q' q=>⟨_,rfl,q⟩) fun acc G1 hacc s1 hs1=> ?_
    ·have hi:i<m:=by
      have:=(List.getElem?_eq_some_iff.mp hx).1
      rw[zaw] at this
      (first|lia|omega)
     rw[List.getElem?_map,gD i hi] at hx
     cases hx
     refine⟨_,rfl,_,rfl,rfl,_,rfl, ?_⟩
     have e:decide (V.int (i:Int)=V.int (o.getD i 0))=decide ((i:Int)=o.getD i 0):=decide_eq_decide.mpr ⟨fun e=>V.int.inj e,fun e=>by rw[e]⟩
     rw[e]
     exact q
    refine⟨acc,_,rfl,.inl (SqL.of hs1), ?_⟩
    rw[zjz]
    have S1:=sG.trans s1
    refine⟨_,rfl,a,_,rfl,.inr (SqT.of (S1 _ _ ha)),_,_,rfl, ?_⟩
    rw[zaw]
    refine⟨⟨by decide,by decide,by (first|lia|omega),by (first|lia|omega)⟩, ?_⟩
    rw[show ((o.length:Int)-1).toNat=o.length-1 by (first|lia|omega)]
    refine zcJ (zaX (lo:=1) (n:=o.length-1)) (za5 (by rw[zaH];(first|lia|omega))) (ziH o) (fun v=>v) (fun _ _=>trivial) (fun x hx G' s' Q' q=> ?_) (fun x hx _ G' s' Q' q=>⟨_,rfl,q⟩) fun acc2 hacc2=> ?_
    ·obtain ⟨n,rfl,n0,n1⟩:∃n:Int,x=.int n/\1<=n/\n<(o.length:Int):=by
      unfold zaD at hx
      obtain⟨i,hi,rfl⟩:=List.mem_map.mp hx
      have:=List.mem_range.mp hi
      exact⟨1+(i:Int),rfl,by (first|lia|omega),by (first|lia|omega)⟩
     refine⟨_,rfl,_,rfl,_,_,rfl,rfl,a,_,_,_,rfl,rfl,SqT.of (s' _ _ (S1 _ _ ha)),zbR (by (first|lia|omega)) (by (first|lia|omega)), ?_⟩
     exact⟨_,rfl,_,rfl,a,_,_,_,rfl,rfl,SqT.of (s' _ _ (S1 _ _ ha)),zbR (by (first|lia|omega)) (by (first|lia|omega)),_,_,rfl,rfl,_,rfl,q⟩
    rw[List.map_id'' (fun _=>rfl)]
    refine⟨acc2,_,rfl,.inl (SqL.of zab), ?_⟩
    rw[ziI]
    have s2:=zac (o:=.lst ((zaD 1 (o.length-1)).filter (ziH o))) hacc2
    have S2:=S1.trans s2
    have hL2:=(s1.trans s2) _ _ hGL
    refine⟨_,rfl,_,rfl,_,rfl,_,rfl,_,rfl,by show 1<=sizeLine;decide,fun l4 hl4=> ?_⟩
    have s4:=zac (o:=.lst [V.int 0]) hl4
    have hlr:=zdz o o.length
    refine⟨_,rfl,l4,L,_,_,rfl,rfl,zab,s4 _ _ hL2, ?_,fun l5 hl5=> ?_⟩
    ·rw [zaw]
     exact Nat.le_trans (by show 1+_<=100;(first|lia|omega)) (by decide)
    have s5:=zac (o:=.lst ([V.int 0]++(lrTo o o.length).map V.int)) hl5
    refine⟨l5,0::lrTo o o.length,rfl,by rw[zab];rfl,by simp,fun M hM1 hM2=> ?_⟩
    have eM:=zhZ hM1 hM2
    subst eM
    refine⟨by show 6<=sizeLine;decide,fun z hz=> ?_⟩
    exact k z _ (((S2.trans s4).trans s5).trans (zac hz)) zab
end
end K21
namespace L2
open PySem PySem.Spec PyProof.Rows
structure LstsAt (H:Hp) (zs:List Addr) (R:List (List Int)):Prop where
 nd:zs.Nodup
 len:zs.length=R.length
 at_:∀(i:Nat) (z:Addr),zs[i]? =some z->H z=some (.lst ((R.getD i []).map V.int))
noncomputable def ixP:Nat->Nat×Nat
 |0=>(0,1)
 |1=>(2,3)
 |_=>(3,4)
theorem zjA (i:Nat):(ixP i).1<5/\(ixP i).2<5:=by
 match i with
 |0=>decide
 |1=>decide
 |n+2=>exact⟨by show 3<5;decide,by show 4<5;decide⟩
noncomputable def zhB:Sp:=fun vs H Q _=>vs=[]/\∀(p a b c:Addr) (H':Hp),Same H H'->H' p=some (.tup [.ref a,.ref b,.ref c])->H' a=some (.tup [.int 0,.int 1])->H' b=some (.tup [.int 2,.int 3])->H' c=some (.tup [.int 3,.int 4])->Q (.ref p) H'
end L2
namespace K21
open PySem PySem.Spec PyProof.Rows L2
noncomputable abbrev za6:Stmt:=top 36
section
variable {P:Program}{w:World}{K:PySem.W.Frag}{mg:Str->Option Value}{base:Heap}
theorem zdA:FnScope [] [] (zaf za6):=⟨rfl,rfl,rfl,by decide+kernel,rfl,by decide+kernel,by decide+kernel⟩
set_option maxHeartbeats 16000000 in
noncomputable def prsT {f:Addr}{cdv:Value}{A:Around}{outer:List Env}{s:Shared}{H:Hp}{E:XK}:{t:TS//PSs (cxOf CX0 P w K mg base [] "_law_pairs" (zaf za6) f cdv A outer s H E).nox (zaG za6) t}:=
 ⟨_,(zai (zan (zaz (zaa (zaz (zaa zae (zaa zae zad))) (zaa (zaz (zaa zae (zaa zae zad))) (zaa (zaz (zaa zae (zaa zae zad))) zad))))))⟩
theorem zdB {f:Addr}{fd:FuncData}(F:Fun K "_law_pairs" "_law_pairs" za6 f fd):FnOk P w K mg base CX0 1 f fd [] zhB:=by
 refine F.ok zdA (fun vs H Q E h=> ?_) (fun cdv A outer s H vs Q E hr h=> ?_)
 ·obtain ⟨rfl,_⟩:=h
  rfl
 ·obtain ⟨rfl,k⟩:=h
  refine⟨_,(prsT).2, ?_⟩
  refine⟨by show 2<=sizeLine;decide,fun a ha=>⟨by show 2<=sizeLine;decide,fun b hb=>⟨by show 2<=sizeLine;decide,fun c hc=>⟨by show 3<=sizeLine;decide,fun p hp=> ?_⟩⟩⟩⟩
  have g1:=zac (o:=.tup [.int 0,.int 1]) ha
  have g2:=zac (o:=.tup [.int 2,.int 3]) hb
  have g3:=zac (o:=.tup [.int 3,.int 4]) hc
  have g4:=zac (o:=.tup [.ref a,.ref b,.ref c]) hp
  exact k p a b c _ (((g1.trans g2).trans g3).trans g4) zab (g4 _ _ (g3 _ _ (g2 _ _ zab))) (g4 _ _ (g3 _ _ zab)) (g4 _ _ zab)
end
end K21
namespace L2
open PySem PySem.Spec PyProof.Rows
noncomputable def zc4:Sp:=fun vs H Q _=>∃a b:Int,vs=[.int a,.int b]/\0<b/\Sm b 8000/\∀z H',Same H H'->Shr H' z (lowZ a b)->Q (.ref z) H'
theorem zgD {K:PySem.W.Frag}{H:Hp}{a b:Addr}{x:Int×Int}(ha:Shr H a x)(hb:Shr H b x):AlikeK K H 1 (.ref a) (.ref b):=
 zer (ns:=[x.1,x.2]) (SqT.of ha) (SqT.of hb) (by show 2<=1000;decide)
end L2
namespace K21
open PySem PySem.Spec PyProof.Rows L2
noncomputable abbrev zbw:Stmt:=top 33
section
variable {P:Program}{w:World}{K:PySem.W.Frag}{mg:Str->Option Value}{base:Heap}
theorem sc__law_lowest:FnScope ["_law_over", "_law_under", "_law_one", "_law_other"] ["_law_over", "_law_under"] (zaf zbw):=⟨rfl,rfl,rfl,by decide+kernel,rfl,by decide+kernel,by decide+kernel⟩
theorem zcY {f:Addr}{fd:FuncData}(F:Fun K "_law_lowest" "_law_lowest" zbw f fd)(T:Top mg):FnOk P w K mg base CX0 1 f fd ["_law_over", "_law_under"] zc4:=by
 refine F.ok sc__law_lowest (fun vs H Q E h=> ?_) (fun cdv A outer s H vs Q E hr h=> ?_)
 ·obtain ⟨a,b,rfl,_⟩:=h
  rfl
 ·obtain ⟨a,b,rfl,hb,sb,k⟩:=h
  refine⟨_,(zag (zcD (i:=2) (j:=3) rfl sc__law_lowest.nd rfl rfl (by decide) rfl rfl (zaa (zal zda (by rfl) T.n_abs boot_abs (zaa (pv 0) zad)) (zaa (pv 1) zad)) rfl)
   (zag (zcs PassesOwn.never (zaN zi4 (pv 3) zae (zaV _))
    (zai (zcD (i:=2) (j:=3) rfl sc__law_lowest.nd rfl rfl (by decide) rfl rfl (zaa (pv 3) (zaa (zaj zbO (pv 2) (pv 3)) zad)) rfl)))
   (zai (zan (zaz (zaa (zaj zcy (pv 0) (pv 2)) (zaa (zaj zcy (pv 1) (pv 2)) zad))))))), ?_⟩
  have g0:=zb5 (a:=a) hb
  have gs:Sm (gcdZ a b) 8000:=sb.le (by have:=zgs (a:=a) hb;(first|lia|omega))
  refine⟨_,rfl,a,rfl,_,rfl,_,_,rfl, ?_⟩
  refine⟨fun m σ G=>∃x y:Int,m=y.toNat/\σ=[some (.int a),some (.int b),some (.int x),some (.int y)]/\G=H/\0<=y/\(y=0->0<x)/\gcdZ x y=gcdZ a b,⟨_,_,b,rfl,rfl,rfl,by (first|lia|omega),by (first|lia|omega),zhq a b⟩, ?_⟩
  rintro m σ G ⟨x,y,rfl,rfl,rfl,y0,x0,e⟩
  refine⟨_,rfl,_,_,rfl,rfl,_,rfl, ?_⟩
  by_cases hy:y=0
  ·subst hy
   rw[decide_eq_false (by decide)]
   rw[zd2 (Int.le_of_lt (x0 rfl))] at e
   subst e
   refine iteF ⟨_,rfl,_,rfl,_,_,rfl,rfl,⟨g0,gs⟩,_,rfl,_,rfl,_,_,rfl,rfl,⟨g0,gs⟩,by show 2<=sizeLine;decide,fun z hz=> ?_⟩
   exact k z _ (zac hz) zab
  ·rw [decide_eq_true (by (first|lia|omega))]
   refine iteT ⟨fun σ' G'=>∃x' y':Int,y'<y/\σ'=[some (.int a),some (.int b),some (.int x'),some (.int y')]/\G'=G/\0<=y'/\(y'=0->0<x')/\gcdZ x' y'=gcdZ a b, ?_, ?_⟩
   ·rintro σ' G' ⟨x',y',h1,h2,h3,h4,h5⟩
    exact⟨_,by (first|lia|omega),x',y',rfl,h2,h3,h4,h5⟩
   ·refine ⟨_,rfl,_,rfl,_,rfl,_,_,rfl,rfl,by (first|lia|omega),_,_,rfl, ?_⟩
    exact⟨_,_,Int.emod_lt_of_pos _ (by (first|lia|omega)),rfl,rfl,Int.emod_nonneg _ hy,fun _=>by (first|lia|omega),by rw[zd1 (by (first|lia|omega))];exact e⟩
end
end K21
namespace L2
open PySem PySem.Spec PyProof.Rows
theorem zbH (a:List Int)(x:Int)(d:ShD)(k:List Int):getS ((a,x)::d) k=if a=k then x else getS d k:=by
 unfold getS
 rw[List.find?_cons]
 by_cases h:a=k
 ·simp[h]
 ·have hb:(a==k)=false:=beq_eq_false_iff_ne.mpr h
  simp[hb,h]
theorem ze8 (k k':List Int)(v:Int):∀d:ShD,getS (d.map fun kv=>if kv.1==k then (kv.1,v) else kv) k'=if k=k'/\(d.any fun kv=>kv.1==k)=true then v else getS d k'
 |[]=>by simp[getS]
 | (a,x)::d=>by
  have ih:=ze8 k k' v d
  rw[List.map_cons,List.any_cons]
  by_cases h:a=k
  ·subst h
   rw[if_pos (show ((a,x).1==a)=true by simp),zbH,zbH,ih]
   by_cases h2:a=k'
   ·simp[h2]
   ·simp[h2]
  ·have hb:(a==k)=false:=beq_eq_false_iff_ne.mpr h
   rw[if_neg (show ¬((a,x).1==k)=true by simpa using h),zbH,zbH,ih]
   show _=if k=k'/\((a==k)||_)=true then v else _
   rw[hb,Bool.false_or]
   by_cases h2:a=k'
   ·have:¬k=k':=fun z=>h (h2.trans z.symm)
    simp[h2,this]
   ·simp[h2]
theorem zhC (d:ShD)(k k':List Int)(v:Int):getS (putS d k v) k'=if k=k' then v else getS d k':=by
 unfold putS
 by_cases h:(d.any fun kv=>kv.1==k)=true
 ·rw [if_pos h,ze8]
  simp[h]
 ·rw [if_neg h]
  unfold getS
  rw[List.find?_append]
  by_cases e:k=k'
  ·subst e
   have:d.find? (fun kv=>kv.1==k)=none:=by
    rw[List.find?_eq_none]
    intro kv hm hk
    exact h (List.any_eq_true.mpr ⟨kv,hm,hk⟩)
   rw[this]
   simp
  ·cases q:d.find? fun kv=>kv.1==k'<;>simp[e]
theorem zea (w:Int)(k':List Int):∀(ts:List (List Int)) (d:ShD),getS (ts.foldl (addP w) d) k'=getS d k'+(ts.map fun t=>if keyT t=k' then w*t.getD 2 0 else 0).sum
 |[],d=>by simp
 | t::ts,d=>by
  rw[List.foldl_cons,zea w k' ts,List.map_cons,List.sum_cons]
  have:getS (addP w d t) k'=getS d k'+if keyT t=k' then w*t.getD 2 0 else 0:=by
   unfold addP
   rw[zhC]
   split
   ·rename_i e;rw[e]
   ·simp
  rw[this]
  (first|lia|omega)
theorem zc5 (i n:Nat)(k':List Int):∀(l d:ShD),getS (l.foldl (zdr i n) d) k'=getS d k'+(l.map fun kv=>((onZ i n (kv.1.getD 0 0) (kv.1.getD 1 0)).map fun t=>if keyT t=k' then kv.2*t.getD 2 0 else 0).sum).sum
 |[],d=>by simp
 |kv::l,d=>by
  rw[List.foldl_cons,zc5 i n k' l,List.map_cons,List.sum_cons]
  unfold zdr
  rw[zea]
  (first|lia|omega)
theorem zb6 (k0:List Int)(c:Int):∀{l:ShD},(l.map (·.1)).Nodup->(l.map fun kv=>if kv.1=k0 then kv.2*c else 0).sum=getS l k0*c
 |[],_=>by simp[getS]
 | (a,x)::l,h=>by
  rw[List.map_cons,List.nodup_cons] at h
  rw[List.map_cons,List.sum_cons,zb6 k0 c h.2]
  unfold getS
  rw[List.find?_cons]
  by_cases e:a=k0
  ·subst e
   have:l.find? (fun kv=>kv.1==a)=none:=by
    rw[List.find?_eq_none]
    intro kv hm hk
    exact h.1 (List.mem_map.mpr ⟨kv,hm,by simpa using hk⟩)
   rw[this]
   simp
  ·have hb:(a==k0)=false:=beq_eq_false_iff_ne.mpr e
   simp[hb,e]
theorem zbV {p q:Prop}[Decidable p][Decidable q](h:p↔q)(x:Int):(if p then x else 0)=if q then x else 0:=by
 by_cases hp:p
 ·rw[if_pos hp,if_pos (h.mp hp)]
 ·rw[if_neg hp,if_neg fun z=>hp (h.mpr z)]
theorem zdC {α:Type}(f g h:α->Int):∀l:List α,(l.map fun x=>f x+g x+h x).sum=(l.map f).sum+(l.map g).sum+(l.map h).sum
 |[]=>by simp
 |x::l=>by
  rw[List.map_cons,List.sum_cons,zdC f g h l,List.map_cons,List.map_cons,List.map_cons,List.sum_cons,List.sum_cons,List.sum_cons]
  (first|lia|omega)
theorem zdD {α:Type}(f g:α->Int):∀l:List α,(l.map fun x=>f x+g x).sum=(l.map f).sum+(l.map g).sum
 |[]=>by simp
 |x::l=>by
  rw[List.map_cons,List.sum_cons,zdD f g l,List.map_cons,List.map_cons,List.sum_cons,List.sum_cons]
  (first|lia|omega)
theorem zdE {α:Type}:∀l:List α,(l.map fun _=>(0:Int)).sum=0
 |[]=>by simp
 |_::l=>by rw[List.map_cons,List.sum_cons,zdE l];rfl
theorem ze9 {α β:Type}(f:α->β->Int)(m:List β):∀l:List α,(l.map fun x=>(m.map fun y=>f x y).sum).sum=(m.map fun y=>(l.map fun x=>f x y).sum).sum
 |[]=>by simp[zdE]
 |x::l=>by
  rw[List.map_cons,List.sum_cons,ze9 f m l,<-zdD]
  rfl
noncomputable def cP (i n:Nat)(a b:Int):Int:=getS (zaB i n) [a,b]
noncomputable def ePst (i n:Nat)(T:Int->Int->Int)(a b:Int):Int:=match i with
 |0=>T (a-1) (b-1)*1+T a (b+1)*(b+1)+T a b*((n:Int)-b)
 |1=>if n=0 then (if a=0/\b=1 then T 0 0*1 else 0) else T (a-1) (b-1)*1+T a b*(a+1)+T (a-1) b*((n:Int)-a)
 |_=>T (a-1) b*1+((List.range n).map fun (j:Nat)=>T a (b-((j:Int)+1))*1).sum
theorem zcp:zaB 1 0=[([0,0],1)]:=rfl
theorem ziJ {i:Nat}(hi:i<3)(n:Nat)(a b:Int):cP i (n+1) a b=ePst i n (cP i n) a b:=by
 have KO:=zce hi n
 have h0:cP i (n+1) a b=((zaB i n).map fun kv=>((onZ i n (kv.1.getD 0 0) (kv.1.getD 1 0)).map fun t=>if keyT t=[a,b] then kv.2*t.getD 2 0 else 0).sum).sum:=by
  unfold cP
  show getS (ziF i n (zaB i n)) [a,b]=_
  unfold ziF
  rw[zc5]
  simp[getS]
 rw[h0]
 have key:∀kv∈zaB i n,∃f s:Int,kv.1=[f,s]:=fun kv hm=>by
  obtain⟨f,s,e,_⟩:=KO.2 kv hm
  exact⟨f,s,e⟩
 have two:∀f s c d:Int,([f,s]=[c,d])=(f=c/\s=d):=fun f s c d=>by simp
 have hh:i=0∨i=1∨i=2:=by (first|lia|omega)
 rcases hh with rfl|rfl|rfl
 ·have e:∀kv∈zaB 0 n,((onZ 0 n (kv.1.getD 0 0) (kv.1.getD 1 0)).map fun t=>if keyT t=[a,b] then kv.2*t.getD 2 0 else 0).sum=
    (if kv.1=[a-1,b-1] then kv.2*1 else 0)+(if kv.1=[a,b+1] then kv.2*(b+1) else 0)+(if kv.1=[a,b] then kv.2*((n:Int)-b) else 0):=fun kv hm=>by
   obtain⟨f,s,e⟩:=key kv hm
   rw[e]
   show ((onZ 0 n f s).map _).sum=_
   simp only[onZ,List.map_cons,List.map_nil,List.sum_cons,List.sum_nil,keyT,two]
   show (if f+1=a/\s+1=b then kv.2*1 else 0)+((if f=a/\s-1=b then kv.2*s else 0)+((if f=a/\s=b then kv.2*((n:Int)-s) else 0)+0))=_
   rw[zbV (p:=f+1=a/\s+1=b) (q:=f=a-1/\s=b-1) (by (first|lia|omega)),zbV (p:=f=a/\s-1=b) (q:=f=a/\s=b+1) (by (first|lia|omega))]
   rw[Int.add_zero,<-Int.add_assoc]
   congr 1
   ·congr 1
    split
    ·rename_i h;rw[h.2]
    ·rfl
   ·split
    ·rename_i h;rw[h.2]
    ·rfl
  rw[List.map_congr_left e,zdC,zb6 _ _ KO.1,zb6 _ _ KO.1,zb6 _ _ KO.1]
  rfl
 ·by_cases hn:n=0
  ·subst hn
   rw[zcp]
   unfold ePst cP
   rw[zcp]
   simp only[if_true,List.map_cons,List.map_nil,List.sum_cons,List.sum_nil,Int.add_zero]
   show ((onZ 1 0 0 0).map fun t=>if keyT t=[a,b] then (1:Int)*t.getD 2 0 else 0).sum=_
   simp only[onZ,if_true,List.map_cons,List.map_nil,List.sum_cons,List.sum_nil,keyT,two,Int.add_zero]
   show (if (0:Int)=a/\(1:Int)=b then (1:Int)*1 else 0)=if a=0/\b=1 then getS [([0,0],1)] [0,0]*1 else 0
   rw[zbV (p:=(0:Int)=a/\(1:Int)=b) (q:=a=0/\b=1) (by (first|lia|omega))]
   rfl
  ·have e:∀kv∈zaB 1 n,((onZ 1 n (kv.1.getD 0 0) (kv.1.getD 1 0)).map fun t=>if keyT t=[a,b] then kv.2*t.getD 2 0 else 0).sum=
     (if kv.1=[a-1,b-1] then kv.2*1 else 0)+(if kv.1=[a,b] then kv.2*(a+1) else 0)+(if kv.1=[a-1,b] then kv.2*((n:Int)-a) else 0):=fun kv hm=>by
    obtain⟨f,s,e⟩:=key kv hm
    rw[e]
    show ((onZ 1 n f s).map _).sum=_
    simp only[onZ,if_neg hn,List.map_cons,List.map_nil,List.sum_cons,List.sum_nil,keyT,two]
    show (if f+1=a/\s+1=b then kv.2*1 else 0)+((if f=a/\s=b then kv.2*(f+1) else 0)+((if f+1=a/\s=b then kv.2*((n:Int)-1-f) else 0)+0))=_
    rw[zbV (p:=f+1=a/\s+1=b) (q:=f=a-1/\s=b-1) (by (first|lia|omega)),zbV (p:=f+1=a/\s=b) (q:=f=a-1/\s=b) (by (first|lia|omega))]
    rw[Int.add_zero,<-Int.add_assoc]
    congr 1
    ·congr 1
     split
     ·rename_i h;rw[h.1]
     ·rfl
    ·split
     ·rename_i h;rw[h.1,show (n:Int)-1-(a-1)=(n:Int)-a by (first|lia|omega)]
     ·rfl
   rw[List.map_congr_left e,zdC,zb6 _ _ KO.1,zb6 _ _ KO.1,zb6 _ _ KO.1]
   show _=if n=0 then _ else _
   rw[if_neg hn]
   rfl
 ·have e:∀kv∈zaB 2 n,((onZ 2 n (kv.1.getD 0 0) (kv.1.getD 1 0)).map fun t=>if keyT t=[a,b] then kv.2*t.getD 2 0 else 0).sum=
    (if kv.1=[a-1,b] then kv.2*1 else 0)+((List.range n).map fun (j:Nat)=>if kv.1=[a,b-((j:Int)+1)] then kv.2*1 else 0).sum:=fun kv hm=>by
   obtain⟨f,s,e⟩:=key kv hm
   rw[e]
   show ((onZ 2 n f s).map _).sum=_
   simp only[onZ,List.map_cons,List.sum_cons,keyT,two,List.map_map]
   show (if f+1=a/\s=b then kv.2*1 else 0)+_=_
   rw[zbV (p:=f+1=a/\s=b) (q:=f=a-1/\s=b) (by (first|lia|omega))]
   congr 2
   refine List.map_congr_left fun j _=> ?_
   show (if f=a/\s+((j:Int)+1)=b then kv.2*1 else 0)=_
   exact zbV (by (first|lia|omega)) _
  rw[List.map_congr_left e,zdD,zb6 _ _ KO.1,ze9]
  show _=cP 2 n (a-1) b*1+_
  congr 2
  refine List.map_congr_left fun j _=> ?_
  exact zb6 _ _ KO.1
noncomputable def tbA (T:List (List Int))(a b:Int):Int:=if a<0∨b<0 then 0 else (T.getD a.toNat []).getD b.toNat 0
noncomputable def wdP (i n:Nat):Nat:=if i=2 then n*(n-1)/2+1 else n+1
noncomputable def mkT (i n:Nat)(f:Int->Int->Int):List (List Int):=(List.range (n+1)).map fun (a:Nat)=>(List.range (wdP i n)).map fun (b:Nat)=>f (a:Int) (b:Int)
noncomputable def tabZ (i:Nat):Nat->List (List Int)
 |0=>[[1]]
 |n+1=>mkT i (n+1) (ePst i n (tbA (tabZ i n)))
theorem zcz {α:Type}(n k:Nat)(g:Nat->α)(d:α):((List.range n).map g).getD k d=if k<n then g k else d:=by
 rw[List.getD_eq_getElem?_getD,List.getElem?_map]
 by_cases h:k<n
 ·rw[List.getElem?_range h,if_pos h];rfl
 ·rw[List.getElem?_eq_none (by rw[List.length_range];(first|lia|omega)),if_neg h];rfl
theorem zjB {i n:Nat}{f:Int->Int->Int}{a b:Int}(a0:0<=a)(a1:a<=n)(b0:0<=b)(b1:b<wdP i n):tbA (mkT i n f) a b=f a b:=by
 unfold tbA mkT
 rw[if_neg (by (first|lia|omega)),zcz,if_pos (by (first|lia|omega)),zcz,if_pos (by (first|lia|omega)),Int.toNat_of_nonneg a0,Int.toNat_of_nonneg b0]
theorem zgE {i n:Nat}{f:Int->Int->Int}{a b:Int}(h:a<0∨(n:Int)<a∨b<0∨(wdP i n:Int)<=b):tbA (mkT i n f) a b=0:=by
 unfold tbA mkT
 by_cases h0:a<0∨b<0
 ·rw[if_pos h0]
 ·rw [if_neg h0,zcz]
  by_cases h1:(n:Int)<a
  ·rw [if_neg (by (first|lia|omega))]
   rfl
  ·rw[if_pos (by (first|lia|omega)),zcz,if_neg (by (first|lia|omega))]
noncomputable def OutZ (i n:Nat)(T:Int->Int->Int):Prop:=∀a b:Int,(a<0∨(n:Int)<a∨b<0∨(wdP i n:Int)<=b)->T a b=0
theorem zhD (n:Nat):(n+1)*n/2=n*(n-1)/2+n:=by
 cases n with
 |zero=>rfl
 |succ k=>
  rw[show (k+1+1)*(k+1)=(k+1)*(k+1-1)+(k+1)*2 by rw[Nat.add_sub_cancel];grind,Nat.add_mul_div_right _ _ (by decide)]
theorem OutZ.step {i n:Nat}(hi:i<3){T:Int->Int->Int}(h:OutZ i n T):OutZ i (n+1) (ePst i n T):=by
 intro a b hab
 have hh:i=0∨i=1∨i=2:=by (first|lia|omega)
 rcases hh with rfl|rfl|rfl
 ·have w1:wdP 0 (n+1)=n+2:=rfl
  have w0:wdP 0 n=n+1:=rfl
  rw[w1] at hab
  show T (a-1) (b-1)*1+T a (b+1)*(b+1)+T a b*((n:Int)-b)=0
  have e1:T (a-1) (b-1)=0:=h _ _ (by rw[w0];(first|lia|omega))
  have e2:T a (b+1)*(b+1)=0:=by
   by_cases hb:b=-1
   ·subst hb;simp
   ·rw[h a (b+1) (by rw[w0];(first|lia|omega))];simp
  have e3:T a b=0:=h _ _ (by rw[w0];(first|lia|omega))
  rw[e1,e2,e3]
  simp
 ·have w1:wdP 1 (n+1)=n+2:=rfl
  have w0:wdP 1 n=n+1:=rfl
  rw[w1] at hab
  by_cases hn:n=0
  ·subst hn
   show (if a=0/\b=1 then T 0 0*1 else 0)=0
   rw[if_neg (by (first|lia|omega))]
  ·show (if n=0 then _ else T (a-1) (b-1)*1+T a b*(a+1)+T (a-1) b*((n:Int)-a))=0
   rw[if_neg hn]
   have e1:T (a-1) (b-1)=0:=h _ _ (by rw[w0];(first|lia|omega))
   have e2:T a b=0:=h _ _ (by rw[w0];(first|lia|omega))
   have e3:T (a-1) b*((n:Int)-a)=0:=by rw[h (a-1) b (by rw[w0];(first|lia|omega))];simp
   rw[e1,e2,e3]
   simp
 ·have w1:wdP 2 (n+1)=n*(n-1)/2+n+1:=by
   show (n+1)*(n+1-1)/2+1=_
   rw[Nat.add_sub_cancel,zhD]
  have w0:wdP 2 n=n*(n-1)/2+1:=rfl
  rw[w1] at hab
  show T (a-1) b*1+((List.range n).map fun (j:Nat)=>T a (b-((j:Int)+1))*1).sum=0
  generalize n*(n-1)/2=t at w0 hab
  have e1:T (a-1) b=0:=h _ _ (by rw[w0];(first|lia|omega))
  have e2:((List.range n).map fun (j:Nat)=>T a (b-((j:Int)+1))*1)=(List.range n).map fun _=>(0:Int):=List.map_congr_left fun j hj=>by
   have:=List.mem_range.mp hj
   rw[h a (b-((j:Int)+1)) (by rw[w0];(first|lia|omega))]
   rfl
  rw[e1,e2,zdE]
  rfl
theorem zh0 {i:Nat}(hi:i<3):∀n,cP i n=tbA (tabZ i n)/\OutZ i n (tbA (tabZ i n))
 | 0 =>by
  refine⟨funext fun a=>funext fun b=> ?_,fun a b h=> ?_⟩
  ·unfold cP
   show getS [([0,0],1)] [a,b]=tbA [[1]] a b
   rw[zbH]
   unfold tbA
   by_cases h:a<0∨b<0
   ·rw [if_pos h,if_neg (by simp;(first|lia|omega))]
    rfl
   ·rw [if_neg h]
    by_cases e:a=0/\b=0
    ·rw[e.1,e.2];rfl
    ·rw [if_neg (by simp;(first|lia|omega))]
     show (0:Int)=_
     by_cases ea:a=0
     ·subst ea
      obtain⟨m,rfl⟩:∃m:Nat,b=((m+1:Nat):Int):=⟨b.toNat-1,by (first|lia|omega)⟩
      rfl
     ·obtain ⟨m,rfl⟩:∃m:Nat,a=((m+1:Nat):Int):=⟨a.toNat-1,by (first|lia|omega)⟩
      rfl
  ·have w0:wdP i 0=1:=by unfold wdP;split<;>rfl
   rw[w0] at h
   unfold tbA
   by_cases h0:a<0∨b<0
   ·rw[if_pos h0]
   ·rw [if_neg h0]
    show (List.getD [[1]] a.toNat []).getD b.toNat 0=0
    by_cases ea:a=0
    ·subst ea
     obtain⟨m,rfl⟩:∃m:Nat,b=((m+1:Nat):Int):=⟨b.toNat-1,by (first|lia|omega)⟩
     rfl
    ·obtain ⟨m,rfl⟩:∃m:Nat,a=((m+1:Nat):Int):=⟨a.toNat-1,by (first|lia|omega)⟩
     rfl
 | n+1=>by
  obtain⟨e,o⟩:=zh0 hi n
  have o':=o.step hi
  refine⟨funext fun a=>funext fun b=> ?_,fun a b h=>zgE h⟩
  rw[ziJ hi,e]
  by_cases h:a<0∨((n+1:Nat):Int)<a∨b<0∨(wdP i (n+1):Int)<=b
  ·rw [o' a b h]
   exact (zgE h).symm
  ·exact (zjB (by (first|lia|omega)) (by (first|lia|omega)) (by (first|lia|omega)) (by (first|lia|omega))).symm
noncomputable def zgF (i n:Nat):List (List Int):=(List.range (rowZ (nmP i).1 n).length).map fun (k:Nat)=>(List.range (rowZ (nmP i).2 n).length).map fun (j:Nat)=>tbA (tabZ i n) (k:Int) (j:Int)
theorem zgG {i:Nat}(hi:i<3)(n:Nat):togZ i n=zgF i n:=by
 unfold togZ zgF
 refine List.map_congr_left fun k _=>List.map_congr_left fun j _=> ?_
 exact congrFun (congrFun (zh0 hi n).1 (k:Int)) (j:Int)
noncomputable def za7 (R:List (List Int))(n:Nat):List (List Int):=(List.range n).flatMap fun (k:Nat)=>(List.range (R.getD k []).length).map fun (j:Nat)=>[(k:Int),((j:Nat):Int),(R.getD k []).getD j 0]
noncomputable def zb7 (R:List (List Int)):List (List Int):=za7 R R.length
noncomputable def gO (t:List Int):Int:=t.getD 2 0
noncomputable def gP (t:List Int):Int:=t.getD 0 0*t.getD 1 0*t.getD 2 0
noncomputable def gX (t:List Int):Int:=t.getD 0 0*t.getD 2 0
noncomputable def gY (t:List Int):Int:=t.getD 1 0*t.getD 2 0
noncomputable def sumC (g:List Int->Int)(C:List (List Int)):Int:=(C.map g).sum
noncomputable def ziK (C:List (List Int)):Int×Int:=leZ (lowZ (sumC gP C) (sumC gO C)) (tmZ (lowZ (sumC gX C) (sumC gO C)) (lowZ (sumC gY C) (sumC gO C)))
noncomputable def ziL (i n:Nat):Int×Int:=ziK (zb7 (togZ i n))
noncomputable def dueL (n:Nat):Int×Int:=(List.range n).foldl (fun p (k:Nat)=>lowZ (p.1*2*((k:Int)+1)-(k:Int)*p.2) (p.2*2*((k:Int)+1))) (0,1)
noncomputable def dueZ (i n:Nat):Int×Int:=if n=0 then (0,1) else if i<2 then lowZ ((n:Int)-1) ((n:Int)*(1+(i:Int))) else dueL n
noncomputable def okC (C:List (List Int)):Bool:=decide (0<sumC gO C)&&[sumC gO C,sumC gP C,sumC gX C,sumC gY C].all (fun x=>decide (x.natAbs<2^100))&&C.all (fun t=>decide ((t.getD 0 0).natAbs<2^10)&&decide ((t.getD 1 0).natAbs<2^10)&&decide ((t.getD 2 0).natAbs<2^60))&&decide (C.length<=900)
noncomputable def zeb (i n:Nat):Bool:=let C:=zb7 (zgF i n);decide (ziK C=dueZ i n)&&okC C
theorem zj6:(List.range 17).all (zeb 0)=true:=by decide+kernel
theorem zj7:(List.range 17).all (zeb 1)=true:=by decide+kernel
theorem zj8:(List.range 11).all (zeb 2)=true:=by decide+kernel
noncomputable def zjC (p:Int×Int):Bool:=decide (0<p.2)&&decide (p.1.natAbs<2^60)&&decide (p.2.natAbs<2^60)
theorem zhE:(List.range 11).all (fun n=>zjC (dueL n))=true:=by decide+kernel
noncomputable def zjD (i:Nat)(S:List (List Int)):Int×Int:=lowZ ((S.map fun s=>s.getD (ixP i).1 0*s.getD (ixP i).2 0).sum*(S.length:Int)-(S.map fun s=>s.getD (ixP i).1 0).sum*(S.map fun s=>s.getD (ixP i).2 0).sum) ((S.length:Int)*(S.length:Int))
noncomputable def zh1 (m:Nat):Bool:=let S:=(allA m).map sixZ;(List.range 3).all (fun i=>decide (zjD i S=dueZ i m))&&S.all (fun s=>s.all fun x=>decide (x.natAbs<100))&&decide (S.length<=120)&&decide (0<S.length)
theorem zj9:(List.range 6).all zh1=true:=by decide+kernel
theorem zfa {i n:Nat}(hi:i<3)(hn:n<=bP i):ziL i n=dueZ i n/\okC (zb7 (togZ i n))=true:=by
 have h:zeb i n=true:=by
  have hh:i=0∨i=1∨i=2:=by (first|lia|omega)
  rcases hh with rfl|rfl|rfl
  ·exact List.all_eq_true.mp zj6 n (List.mem_range.mpr (Nat.lt_succ_of_le hn))
  ·exact List.all_eq_true.mp zj7 n (List.mem_range.mpr (Nat.lt_succ_of_le hn))
  ·exact List.all_eq_true.mp zj8 n (List.mem_range.mpr (Nat.lt_succ_of_le hn))
 unfold zeb at h
 rw[<-zgG hi] at h
 simp only[Bool.and_eq_true,decide_eq_true_eq] at h
 exact h
structure OkC (C:List (List Int)):Prop where
 pos:0<sumC gO C
 o:(sumC gO C).natAbs<2^100
 p:(sumC gP C).natAbs<2^100
 x:(sumC gX C).natAbs<2^100
 y:(sumC gY C).natAbs<2^100
 c:∀t∈C,(t.getD 0 0).natAbs<2^10/\(t.getD 1 0).natAbs<2^10/\(t.getD 2 0).natAbs<2^60
 l:C.length<=900
theorem zjE {C:List (List Int)}(h:okC C=true):OkC C:=by
 unfold okC at h
 simp only[Bool.and_eq_true,decide_eq_true_eq,List.all_eq_true,List.mem_cons,List.not_mem_nil,or_false,forall_eq_or_imp,forall_eq] at h
 obtain⟨⟨⟨h1,h2,h3,h4,h5⟩,h6⟩,h7⟩:=h
 exact⟨h1,h2,h3,h4,h5,fun t ht=>⟨(h6 t ht).1.1,(h6 t ht).1.2,(h6 t ht).2⟩,h7⟩
theorem zhF {i m:Nat}(hi:i<3)(hm:m<6):zjD i ((allA m).map sixZ)=dueZ i m/\(∀s∈(allA m).map sixZ,∀x∈s,x.natAbs<100)/\(allA m).length<=120/\0<(allA m).length:=by
 have h:=List.all_eq_true.mp zj9 m (List.mem_range.mpr hm)
 unfold zh1 at h
 simp only[Bool.and_eq_true,decide_eq_true_eq,List.all_eq_true] at h
 obtain⟨⟨⟨h1,h2⟩,h3⟩,h4⟩:=h
 rw[List.length_map] at h3 h4
 exact⟨h1 i (List.mem_range.mpr hi),fun s hs x hx=>h2 s hs x hx,h3,h4⟩
theorem ziM {n:Nat}(hn:n<=10):0<(dueL n).2/\(dueL n).1.natAbs<2^60/\(dueL n).2.natAbs<2^60:=by
 have h:=List.all_eq_true.mp zhE n (List.mem_range.mpr (by (first|lia|omega)))
 unfold zjC at h
 simp only[Bool.and_eq_true,decide_eq_true_eq] at h
 exact⟨h.1.1,h.1.2,h.2⟩
theorem zgH (n:Nat):dueL (n+1)=lowZ ((dueL n).1*2*((n:Int)+1)-(n:Int)*(dueL n).2) ((dueL n).2*2*((n:Int)+1)):=by
 unfold dueL
 rw[List.range_succ,List.foldl_append]
 rfl
theorem zbI (R:List (List Int))(n:Nat):za7 R (n+1)=za7 R n++(List.range (R.getD n []).length).map fun (j:Nat)=>[(n:Int),(j:Int),(R.getD n []).getD j 0]:=by
 unfold za7
 rw[List.range_succ,List.flatMap_append]
 simp
theorem zdF {R:List (List Int)}{n:Nat}{t:List Int}(h:t∈za7 R n):t=[t.getD 0 0,t.getD 1 0,t.getD 2 0]:=by
 unfold za7 at h
 obtain⟨k,_,h⟩:=List.mem_flatMap.mp h
 obtain⟨j,_,rfl⟩:=List.mem_map.mp h
 rfl
theorem zeD {R:List (List Int)}{n k:Nat}(h:n<=k):(za7 R n).length<=(za7 R k).length:=by
 induction k with
 |zero=>rw[show n=0 by (first|lia|omega)];exact Nat.le_refl _
 | succ k ih=>
  by_cases e:n=k+1
  ·rw[e];exact Nat.le_refl _
  ·refine Nat.le_trans (ih (by (first|lia|omega))) ?_
   rw[zbI,List.length_append]
   exact Nat.le_add_right _ _
theorem RowsAt.snoc {H:Hp}{zs:List Addr}{R:List (List Int)}{z:Addr}{r:List Int}(h:RowsAt H zs R)(hz:H z=some (.tup (r.map V.int))):RowsAt H (zs++[z]) (R++[r]):=Paired.append h (.cons hz .nil)
theorem zgI {K:PySem.W.Frag}{a:Addr}{zs:List Addr}{R:List (List Int)}{σ:L2.St}{H1:Hp}{Q:VK}(ha:H1 a=some (.tup (zs.map V.ref)))(hR:RowsAt H1 zs R)(small:(zb7 R).length<=1000)
  (fin:∀acc cs H',H1 acc=none->Same H1 H'->H' acc=some (.lst (cs.map V.ref))->RowsAt H' cs (zb7 R)->Q (.ref acc) H'):
  LcW2 (Ite K a) H1 (gTup K 2 (zbo (zaT 0) (zbo (zaT 1) gNil))) zaO (zig K (zfQ (tVar 1) tNil)) (gTup K 2 (zbo (zaT 2) (zbo (zaT 3) gNil))) zaO (tTup (zfQ (tVar 0) (zfQ (tVar 2) (zfQ (tVar 3) tNil)))) 4 [] σ Q:=by
 have hzl:zs.length=R.length:=Paired.length hR
 intro acc hacc
 refine⟨fun i m H=>m=zs.length-i/\i<=zs.length/\Same H1 H/\∃cs:List Addr,H acc=some (.lst (cs.map V.ref))/\RowsAt H cs (za7 R i),⟨zs.length,by simp,Nat.zero_le _,zac hacc,[],zab,.nil⟩, ?_⟩
 rintro i m H ⟨rfl,hi,sm,cs,hcs,RC⟩
 have haH:=sm _ _ ha
 by_cases hlt:i<zs.length
 ·refine .inr ⟨⟨zs.map V.ref,(zs.map V.ref)[i]'(by rw[List.length_map];exact hlt),SqT.of haH,List.getElem?_eq_getElem _⟩,fun v H' y=> ?_⟩
  obtain⟨t,x,hn,rfl,rfl,hv⟩:=y
  have e1:=hv _ (SqT.of haH)
  rw[List.getElem?_map] at e1
  obtain⟨z,hz,rfl⟩:=Option.map_eq_some_iff.mp e1
  obtain⟨r,hr,hzr⟩:=hR.get hz
  have er:R.getD i []=r:=by rw[List.getD_eq_getElem?_getD,hr];rfl
  have st:=zac (o:=.tup [.int i,.ref z]) hn
  refine⟨t,_,rfl,SqT.of zab,rfl,_,_,rfl,_,_,rfl,rfl,⟨rfl,fun j v e=> ?_⟩, ?_⟩
  ·match j,e with
   |0,e=>cases e
   |1,e=>cases e
   |2,e=>cases e
   |3,e=>cases e
  ·unfold zaO
   dsimp only
   rw[if_pos rfl]
   have sm2:=sm.trans st
   have hcs2:=st _ _ hcs
   have RC2:=RC.same st
   generalize (upd H t (.tup [.int i,.ref z]))=G0 at sm2 hcs2 RC2 ⊢
   have hz2:=sm2 _ _ hzr
   refine⟨_,rfl,z,rfl,⟨_,SqT.of hz2⟩, ?_⟩
   have hlen:(za7 R (i+1)).length<=1000:=Nat.le_trans (zeD (by (first|lia|omega))) small
   rw[zbI,List.length_append,List.length_map,List.length_range,er] at hlen
   refine⟨fun j m2 G=>m2=r.length-j/\j<=r.length/\Same H1 G/\G z=some (.tup (r.map V.int))/\∃cs:List Addr,G acc=some (.lst (cs.map V.ref))/\RowsAt G cs (za7 R i++(List.range j).map fun (j:Nat)=>[(i:Int),(j:Int),r.getD j 0]),⟨r.length,by simp,Nat.zero_le _,sm2,hz2,cs,hcs2,by simpa using RC2⟩, ?_⟩
   rintro j m2 G ⟨rfl,hj,sG,hzG,cs,hcsG,RCG⟩
   by_cases hjl:j<r.length
   ·refine .inr ⟨⟨r.map V.int,(r.map V.int)[j]'(by rw[List.length_map];exact hjl),SqT.of hzG,List.getElem?_eq_getElem _⟩,fun y G' yy=> ?_⟩
    obtain⟨t2,x2,hn2,rfl,rfl,hv2⟩:=yy
    have e2:=hv2 _ (SqT.of hzG)
    rw[List.getElem?_map] at e2
    obtain⟨nu,hnu,rfl⟩:=Option.map_eq_some_iff.mp e2
    have enu:r.getD j 0=nu:=by rw[List.getD_eq_getElem?_getD,hnu];rfl
    have st2:=zac (o:=.tup [.int j,.int nu]) hn2
    refine⟨t2,_,rfl,SqT.of zab,rfl,_,_,rfl,_,_,rfl,rfl,⟨rfl,fun k v e=> ?_⟩, ?_⟩
    ·match k,e with
     |0,e=>exact e
     |1,e=>exact e
     |2,e=>cases e
     |3,e=>cases e
    ·dsimp only
     rw[if_pos rfl]
     have sG2:=sG.trans st2
     have hz3:=st2 _ _ hzG
     have hcs3:=st2 _ _ hcsG
     have RC3:=RCG.same st2
     generalize (upd G t2 (.tup [.int j,.int nu]))=G2 at sG2 hz3 hcs3 RC3 ⊢
     refine⟨_,rfl,_,rfl,_,rfl,by show 3<=sizeLine;decide,fun u hu=> ?_⟩
     have su:=zac (o:=.tup [.int i,.int j,.int nu]) hu
     have hcl:cs.length=(za7 R i).length+j:=by
      have:=Paired.length RC3
      rw[List.length_append,List.length_map,List.length_range] at this
      exact this
     refine⟨_,su _ _ hcs3,za5 (by rw[List.length_map];(first|lia|omega)),r.length-(j+1),by (first|lia|omega),rfl,hjl,zav (sG2.trans su) hacc, ?_,cs++[u], ?_, ?_⟩
     ·rw [zah (fun z'=>by rw[z',hcs3] at hz3;cases hz3)]
      exact su _ _ hz3
     ·rw [zab,List.map_append]
      rfl
     ·rw [List.range_succ,List.map_append,<-List.append_assoc]
      have hu':(upd G2 u (.tup [.int i,.int j,.int nu])) u=some (.tup (([(i:Int),(j:Int),r.getD j 0]).map V.int)):=by rw[zab,enu];rfl
      exact (RowsAt.snoc (RC3.same su) hu').sameT (zbX (su _ _ hcs3))
   ·have e:j=r.length:=by (first|lia|omega)
    subst e
    refine .inl ⟨⟨_,SqT.of hzG,by rw[List.length_map]⟩,zs.length-(i+1),by (first|lia|omega),rfl,hlt,sG,cs,hcsG, ?_⟩
    rw[zbI,er]
    exact RCG
 ·have e:i=zs.length:=by (first|lia|omega)
  subst e
  rw[hzl] at RC
  exact .inl ⟨⟨_,SqT.of haH,by rw[List.length_map]⟩,fin acc cs H hacc sm hcs RC⟩
theorem zdG {K:PySem.W.Frag}{a:Addr}{cs:List Addr}{C:List (List Int)}{te:TE}{σ:L2.St}{H1:Hp}{Q:VK}(ha:H1 a=some (.lst (cs.map V.ref)))(hR:RowsAt H1 cs C)(h3:∀t∈C,t=[t.getD 0 0,t.getD 1 0,t.getD 2 0])(small:C.length<=1000)(g:List Int->Int)
  (he:∀t∈C,∀H (Q':VK),Q' (.int (g t)) H->te [some (.int (t.getD 0 0)),some (.int (t.getD 1 0)),some (.int (t.getD 2 0))] H Q')
  (fin:∀acc H',H1 acc=none->Same H1 H'->H' acc=some (.lst ((C.map g).map V.int))->Q (.ref acc) H'):
  LcW (Itl K a) H1 (gTup K 3 (zbo (zaT 0) (zbo (zaT 1) (zbo (zaT 2) gNil)))) zaO te 3 [] σ Q:=by
 have hcl:cs.length=C.length:=Paired.length hR
 intro acc hacc
 refine⟨fun i m H=>m=cs.length-i/\i<=cs.length/\Same H1 H/\H acc=some (.lst (((C.take i).map g).map V.int)),⟨cs.length,by simp,Nat.zero_le _,zac hacc,zab⟩, ?_⟩
 rintro i m H ⟨rfl,hi,sm,hH⟩
 have haH:=sm _ _ ha
 by_cases hlt:i<cs.length
 ·refine .inr ⟨⟨cs.map V.ref,(cs.map V.ref)[i]'(by rw[List.length_map];exact hlt),SqL.of haH,List.getElem?_eq_getElem _⟩,fun v H' y=> ?_⟩
  obtain⟨rfl,hv⟩:=y
  have e1:=hv _ (SqL.of haH)
  rw[List.getElem?_map] at e1
  obtain⟨z,hz,rfl⟩:=Option.map_eq_some_iff.mp e1
  obtain⟨t,ht,hzt⟩:=hR.get hz
  have e3:=h3 t (List.mem_of_getElem? ht)
  have hzH:=sm _ _ hzt
  rw[e3] at hzH
  refine⟨z,_,rfl,SqT.of hzH,rfl,_,_,rfl,_,_,rfl,_,_,rfl,rfl,⟨rfl,fun j v e=> ?_⟩, ?_⟩
  ·match j,e with
   |0,e=>cases e
   |1,e=>cases e
   |2,e=>cases e
  ·unfold zaO
   dsimp only
   rw[if_pos rfl]
   refine he t (List.mem_of_getElem? ht) _ _ ?_
   refine⟨_,hH,za5 (by rw[List.length_map,List.length_map,List.length_take];(first|lia|omega)),cs.length-(i+1),by (first|lia|omega),rfl,hlt,zav sm hacc, ?_⟩
   rw[zab,List.take_succ,ht,List.map_append,List.map_append]
   rfl
 ·have e:i=cs.length:=by (first|lia|omega)
  subst e
  rw[hcl,List.take_length] at hH
  exact .inl ⟨⟨_,SqL.of haH,by rw[List.length_map];exact Nat.le_refl _⟩,fin acc H hacc sm hH⟩
theorem zgJ {X:Cx}(K:PySem.W.Frag)(hK:X.K=K){els:List Expr}{kx}{tp:Pos}{l:Expr}{ta:TA}{p pos:Pos}(hg:Gl X "enumerate")(hm:X.mg "enumerate" =none)(ha:PA X [l] ta)(hs:starEach [l] X.env=[(false,eval l X.env)]:=by rfl):
  PI X (.Tuple els kx tp) (.Call (.Name "enumerate" p) [l] [] pos) (zig K ta):=hK▸zbY hg hm ha hs
theorem zcA {X:Cx}(K:PySem.W.Frag){i j k:Nat}{x y z:Str}{px py pz pt:Pos}{kt:Nat}(hK:X.K=K)(hc:X.calm=true)(hN:X.N.Nodup)(hi:X.N[i]? =some x)(hj:X.N[j]? =some y)(hk:X.N[k]? =some z)(hx:Loc X.env.scope x)(hy:Loc X.env.scope y)(hz:Loc X.env.scope z)(fx:X.fn x=true∨X.env.scope.names.lookup x=some .local)(fy:X.fn y=true∨X.env.scope.names.lookup y=some .local)(fz:X.fn z=true∨X.env.scope.names.lookup z=some .local):
  PG X (.Tuple [.Name x px,.Name y py,.Name z pz] kt pt) (gTup K 3 (zbo (zaT i) (zbo (zaT j) (zbo (zaT k) gNil)))):=hK▸zbW hc (zar (zak hN hi hx fx) (zar (zak hN hj hy fy) (zar (zak hN hk hz fz) zbp)))
end L2
namespace K21
open PySem PySem.Spec PyProof.Rows L2
noncomputable abbrev zbJ:Stmt:=top 22
section
variable {P:Program}{w:World}{K:PySem.W.Frag}{mg:Str->Option Value}{base:Heap}
theorem sc_lean:FnScope ["one", "other", "many", "table", "cells", "orders", "product_mean", "one_mean", "other_mean"] ["one", "other", "many"] (zaf zbJ):=⟨rfl,rfl,rfl,by decide+kernel,rfl,by decide+kernel,by decide+kernel⟩
set_option maxHeartbeats 16000000 in
noncomputable def zka {f:Addr}{cdv:Value}{A:Around}{outer:List Env}{s:Shared}{H:Hp}{E:XK}(hr:Room 6 (A.deeper (envOfC "lean" (zaf zbJ) s.heap.objs.size f cdv)))(T:Top mg)(Ctogether:Cal P w K mg base 6 "together" ["one", "other", "many"] zhx)(Cshare_of:Cal P w K mg base 2 "share_of" ["over", "under"] zfv)(Cless:Cal P w K mg base 3 "less" ["one", "other"] (spSh leZ))(Ctimes:Cal P w K mg base 3 "times" ["one", "other"] (spSh tmZ)):{t:TS//PSs (cxOf CX0 P w K mg base ["one", "other", "many", "table", "cells", "orders", "product_mean", "one_mean", "other_mean"] "lean" (zaf zbJ) f cdv A outer s H E).nox (zaG zbJ) t}:=
 ⟨_,(zag (zaq (i:=3) sc_lean.nd rfl (Or.inl rfl) (zau Ctogether (hr.mono (by decide)) rfl (zaa (pv 0) (zaa (pv 1) (zaa (pv 2) zad)))))
   (zag (zgb (i:=4) rfl sc_lean.nd rfl rfl (N':=["k", "row", "j", "number"]) (n:=4) (ix:=[]) rfl (CompScope.of (sc:=zaf zbJ) (N:=["one", "other", "many", "table", "cells", "orders", "product_mean", "one_mean", "other_mean"]) (by decide+kernel) rfl rfl) (zbY rfl T.n_enumerate (zaa (pv 3) zad)) (fun _ _ _ _ _=>⟨(zcv K (i:=0) (j:=1) rfl rfl (show (["k", "row", "j", "number"]:List Str).Nodup by decide+kernel) rfl rfl (Or.inl rfl) (Or.inl rfl) (Or.inr rfl) (Or.inr rfl)),zaP,(zgJ K rfl rfl T.n_enumerate (zaa (pv 1) zad)),(zcv K (i:=2) (j:=3) rfl rfl (show (["k", "row", "j", "number"]:List Str).Nodup by decide+kernel) rfl rfl (Or.inl rfl) (Or.inl rfl) (Or.inr rfl) (Or.inr rfl)),zaP,(zaz (zaa (pv 0) (zaa (pv 2) (zaa (pv 3) zad))))⟩))
   (zag (zaq (i:=5) sc_lean.nd rfl (Or.inl rfl) (zal (zbh rfl) (by rfl) T.n_sum boot_sum (zaa (zbq (N':=["k", "j", "number"]) (n:=3) (ix:=[]) rfl (CompScope.of (sc:=zaf zbJ) (N:=["one", "other", "many", "table", "cells", "orders", "product_mean", "one_mean", "other_mean"]) (by decide+kernel) rfl rfl) (za1 (pv 4)) (fun _ _ _ _ _=>⟨(zcA K (i:=0) (j:=1) (k:=2) rfl rfl (show (["k", "j", "number"]:List Str).Nodup by decide+kernel) rfl rfl rfl (Or.inl rfl) (Or.inl rfl) (Or.inl rfl) (Or.inr rfl) (Or.inr rfl) (Or.inr rfl)),zaP,(pv 2)⟩)) zad)))
   (zag (zaq (i:=6) sc_lean.nd rfl (Or.inl rfl) (zau Cshare_of (hr.mono (by decide)) rfl (zaa (zal (zbh rfl) (by rfl) T.n_sum boot_sum (zaa (zbq (N':=["k", "j", "number"]) (n:=3) (ix:=[]) rfl (CompScope.of (sc:=zaf zbJ) (N:=["one", "other", "many", "table", "cells", "orders", "product_mean", "one_mean", "other_mean"]) (by decide+kernel) rfl rfl) (za1 (pv 4)) (fun _ _ _ _ _=>⟨(zcA K (i:=0) (j:=1) (k:=2) rfl rfl (show (["k", "j", "number"]:List Str).Nodup by decide+kernel) rfl rfl rfl (Or.inl rfl) (Or.inl rfl) (Or.inl rfl) (Or.inr rfl) (Or.inr rfl) (Or.inr rfl)),zaP,(zaj zaI (zaj zaI (pv 0) (pv 1)) (pv 2))⟩)) zad)) (zaa (pv 5) zad))))
   (zag (zaq (i:=7) sc_lean.nd rfl (Or.inl rfl) (zau Cshare_of (hr.mono (by decide)) rfl (zaa (zal (zbh rfl) (by rfl) T.n_sum boot_sum (zaa (zbq (N':=["k", "j", "number"]) (n:=3) (ix:=[]) rfl (CompScope.of (sc:=zaf zbJ) (N:=["one", "other", "many", "table", "cells", "orders", "product_mean", "one_mean", "other_mean"]) (by decide+kernel) rfl rfl) (za1 (pv 4)) (fun _ _ _ _ _=>⟨(zcA K (i:=0) (j:=1) (k:=2) rfl rfl (show (["k", "j", "number"]:List Str).Nodup by decide+kernel) rfl rfl rfl (Or.inl rfl) (Or.inl rfl) (Or.inl rfl) (Or.inr rfl) (Or.inr rfl) (Or.inr rfl)),zaP,(zaj zaI (pv 0) (pv 2))⟩)) zad)) (zaa (pv 5) zad))))
   (zag (zaq (i:=8) sc_lean.nd rfl (Or.inl rfl) (zau Cshare_of (hr.mono (by decide)) rfl (zaa (zal (zbh rfl) (by rfl) T.n_sum boot_sum (zaa (zbq (N':=["k", "j", "number"]) (n:=3) (ix:=[]) rfl (CompScope.of (sc:=zaf zbJ) (N:=["one", "other", "many", "table", "cells", "orders", "product_mean", "one_mean", "other_mean"]) (by decide+kernel) rfl rfl) (za1 (pv 4)) (fun _ _ _ _ _=>⟨(zcA K (i:=0) (j:=1) (k:=2) rfl rfl (show (["k", "j", "number"]:List Str).Nodup by decide+kernel) rfl rfl rfl (Or.inl rfl) (Or.inl rfl) (Or.inl rfl) (Or.inr rfl) (Or.inr rfl) (Or.inr rfl)),zaP,(zaj zaI (pv 1) (pv 2))⟩)) zad)) (zaa (pv 5) zad))))
   (zai (zan (zau Cless (hr.mono (by decide)) rfl (zaa (pv 6) (zaa (zau Ctimes (hr.mono (by decide)) rfl (zaa (pv 7) (zaa (pv 8) zad))) zad)))))))))))⟩
end
end K21
namespace L2
open PySem PySem.Spec PyProof.Rows
noncomputable def zfb:Sp:=fun vs H Q _=>∃i n:Nat,vs=[.str (nmP i).1,.str (nmP i).2,.int n]/\i<3/\n<=bP i/\∀(z:Addr) (H':Hp),Same H H'->Shr H' z (ziL i n)->Q (.ref z) H'
end L2
namespace K21
open PySem PySem.Spec PyProof.Rows L2
section
variable {P:Program}{w:World}{K:PySem.W.Frag}{mg:Str->Option Value}{base:Heap}
set_option maxHeartbeats 4000000 in
theorem ziN {f:Addr}{fd:FuncData}(F:Fun K "lean" "lean" zbJ f fd)(T:Top mg)(Ctogether:Cal P w K mg base 6 "together" ["one", "other", "many"] zhx)(Cshare_of:Cal P w K mg base 2 "share_of" ["over", "under"] zfv)(Cless:Cal P w K mg base 3 "less" ["one", "other"] (spSh leZ))(Ctimes:Cal P w K mg base 3 "times" ["one", "other"] (spSh tmZ)):FnOk P w K mg base CX0 7 f fd ["one", "other", "many"] zfb:=by
 refine F.ok sc_lean (fun vs H Q E h=> ?_) (fun cdv A outer s H vs Q E hr h=> ?_)
 ·obtain ⟨i,n,rfl,_⟩:=h
  rfl
 ·obtain ⟨i,n,rfl,hi,hn,k⟩:=h
  refine⟨_,(zka hr T Ctogether Cshare_of Cless Ctimes).2, ?_⟩
  obtain⟨eL,okb⟩:=zfa hi hn
  have OK:=zjE okb
  have c3:∀t∈zb7 (togZ i n),t=[t.getD 0 0,t.getD 1 0,t.getD 2 0]:=fun t ht=>zdF ht
  have cl:(zb7 (togZ i n)).length<=1000:=by have:=OK.l;(first|lia|omega)
  refine⟨_,rfl,_,rfl,_,rfl,i,n,rfl,hi,hn,fun p zs H1 s1 hp hR=> ?_⟩
  refine⟨_,rfl,p,rfl,⟨_,SqT.of hp⟩, ?_⟩
  refine zgI hp hR cl fun acc cs H2 hacc s2 hcs RC=> ?_
  refine⟨_,rfl,acc,rfl,⟨_,SqL.of hcs⟩, ?_⟩
  have eleanC:ziL i n=ziK (zb7 (togZ i n)):=rfl
  rw[eleanC] at k
  clear eL okb eleanC hR
  generalize zb7 (togZ i n)=C at OK c3 cl RC k
  refine zdG hcs RC c3 cl gO (fun t ht G Q' q=>⟨_,rfl,q⟩) fun a1 H3 ha1 s3 h3=>⟨a1,_,rfl,h3, ?_⟩
  have eO:(C.map gO).sum=sumC gO C:=rfl
  rw[eO]
  have so:Sm (sumC gO C) 100:=Sm.of OK.o
  have hcs3:=s3 _ _ hcs
  have RC3:=RC.same s3
  refine⟨_,rfl,acc,rfl,⟨_,SqL.of hcs3⟩, ?_⟩
  refine zdG hcs3 RC3 c3 cl gP (fun t ht G Q' q=> ?_) fun a2 H4 ha2 s4 h4=>⟨a2,_,rfl,h4, ?_⟩
  ·obtain ⟨b0,b1,b2⟩:=OK.c t ht
   exact⟨_,rfl,_,rfl,_,_,rfl,rfl,.inl ⟨by (first|lia|omega),by (first|lia|omega)⟩,_,rfl,_,_,rfl,rfl,.inr ⟨by (first|lia|omega),by (first|lia|omega)⟩,q⟩
  refine⟨_,rfl,_,_,rfl,OK.pos,so.mono (by decide),fun z1 H5 s5 hz1=> ?_⟩
  have hcs5:=s5 _ _ (s4 _ _ hcs3)
  have RC5:=(RC3.same s4).same s5
  refine⟨_,rfl,acc,rfl,⟨_,SqL.of hcs5⟩, ?_⟩
  refine zdG hcs5 RC5 c3 cl gX (fun t ht G Q' q=> ?_) fun a3 H6 ha3 s6 h6=>⟨a3,_,rfl,h6, ?_⟩
  ·obtain ⟨b0,b1,b2⟩:=OK.c t ht
   exact⟨_,rfl,_,rfl,_,_,rfl,rfl,.inl ⟨by (first|lia|omega),by (first|lia|omega)⟩,q⟩
  refine⟨_,rfl,_,_,rfl,OK.pos,so.mono (by decide),fun z2 H7 s7 hz2=> ?_⟩
  have hcs7:=s7 _ _ (s6 _ _ hcs5)
  have RC7:=(RC5.same s6).same s7
  refine⟨_,rfl,acc,rfl,⟨_,SqL.of hcs7⟩, ?_⟩
  refine zdG hcs7 RC7 c3 cl gY (fun t ht G Q' q=> ?_) fun a4 H8 ha4 s8 h8=>⟨a4,_,rfl,h8, ?_⟩
  ·obtain ⟨b0,b1,b2⟩:=OK.c t ht
   exact⟨_,rfl,_,rfl,_,_,rfl,rfl,.inl ⟨by (first|lia|omega),by (first|lia|omega)⟩,q⟩
  refine⟨_,rfl,_,_,rfl,OK.pos,so.mono (by decide),fun z3 H9 s9 hz3=> ?_⟩
  have S2:=(s8.trans s9)
  have S1:=((s6.trans s7).trans S2)
  have B1:ShB (lowZ (sumC gP C) (sumC gO C)) 100:=ShB.low OK.pos (Sm.of OK.p) so
  have B2:ShB (lowZ (sumC gX C) (sumC gO C)) 100:=ShB.low OK.pos (Sm.of OK.x) so
  have B3:ShB (lowZ (sumC gY C) (sumC gO C)) 100:=ShB.low OK.pos (Sm.of OK.y) so
  have B4:ShB (tmZ (lowZ (sumC gX C) (sumC gO C)) (lowZ (sumC gY C) (sumC gO C))) 200:=ShB.low (Int.mul_pos B2.pos B3.pos) (B2.s1.mul B3.s1) (B2.s2.mul B3.s2)
  refine⟨_,rfl,_,rfl,_,rfl,z2,z3,_,_,rfl,S2 _ _ hz2,hz3,B2.mono (by decide),B3.mono (by decide),fun z4 Ha sa hz4=> ?_⟩
  refine⟨z1,z4,_,_,rfl,sa _ _ (S1 _ _ hz1),hz4,B1.mono (by decide),B4.mono (by decide),fun z5 Hb sb hz5=> ?_⟩
  exact k z5 Hb (((((s1.trans s2).trans s3).trans (s4.trans s5)).trans S1).trans (sa.trans sb)) hz5
end
end K21
namespace L2
open PySem PySem.Spec PyProof.Rows
noncomputable def zhG:Sp:=fun vs H Q _=>∃i m:Nat,vs=[.int i,.int m]/\i<3/\m<=bP i/\∀(z:Addr) (H':Hp),Same H H'->Shr H' z (dueZ i m)->Q (.ref z) H'
end L2
namespace K21
open PySem PySem.Spec PyProof.Rows L2
noncomputable abbrev zbc:Stmt:=top 37
section
variable {P:Program}{w:World}{K:PySem.W.Frag}{mg:Str->Option Value}{base:Heap}
theorem sc__law_due:FnScope ["_law_at", "_law_many", "_law_over", "_law_under", "_law_k"] ["_law_at", "_law_many"] (zaf zbc):=⟨rfl,rfl,rfl,by decide+kernel,rfl,by decide+kernel,by decide+kernel⟩
set_option maxHeartbeats 16000000 in
noncomputable def dueT {f:Addr}{cdv:Value}{A:Around}{outer:List Env}{s:Shared}{H:Hp}{E:XK}(hr:Room 1 (A.deeper (envOfC "_law_due" (zaf zbc) s.heap.objs.size f cdv)))(T:Top mg)(C_law_lowest:Cal P w K mg base 1 "_law_lowest" ["_law_over", "_law_under"] zc4):{t:TS//PSs (cxOf CX0 P w K mg base ["_law_at", "_law_many", "_law_over", "_law_under", "_law_k"] "_law_due" (zaf zbc) f cdv A outer s H E).nox (zaG zbc) t}:=
 ⟨_,(zag (zcT (zaN zc8 (pv 1) zae (zaV _))
    (zai (zan (zaz (zaa zae (zaa zae zad)))))
    zbl)
   (zag (zcT (zaN zfM (pv 0) zae (zaV _))
    (zai (zan (zau C_law_lowest (hr.mono (by decide)) rfl (zaa (zaj za0 (pv 1) zae) (zaa (zaj zaI (pv 1) (zaj zao zae (pv 0))) zad)))))
    zbl)
   (zag (zcC (zaz (zaa zae (zaa zae zad))) (zdg (i:=2) (j:=3) rfl sc__law_due.nd rfl rfl (Or.inl rfl) (Or.inl rfl) (Or.inl rfl) (Or.inl rfl)))
   (zag (zbj PassesOwn.never rfl (zaQ rfl T.n_range (zaa (pv 1) zad)) (zak (i:=4) sc__law_due.nd rfl (Or.inl rfl))
    (zai (zcC (zau C_law_lowest (hr.mono (by decide)) rfl (zaa (zaj za0 (zaj zaI (zaj zaI (pv 2) zae) (zaj zao (pv 4) zae)) (zaj zaI (pv 4) (pv 3))) (zaa (zaj zaI (zaj zaI (pv 3) zae) (zaj zao (pv 4) zae)) zad))) (zdg (i:=2) (j:=3) rfl sc__law_due.nd rfl rfl (Or.inl rfl) (Or.inl rfl) (Or.inl rfl) (Or.inl rfl)))))
   (zai (zan (zaz (zaa (pv 2) (zaa (pv 3) zad)))))))))⟩
set_option maxHeartbeats 4000000 in
theorem zeE {f:Addr}{fd:FuncData}(F:Fun K "_law_due" "_law_due" zbc f fd)(T:Top mg)(C_law_lowest:Cal P w K mg base 1 "_law_lowest" ["_law_over", "_law_under"] zc4):FnOk P w K mg base CX0 2 f fd ["_law_at", "_law_many"] zhG:=by
 refine F.ok sc__law_due (fun vs H Q E h=> ?_) (fun cdv A outer s H vs Q E hr h=> ?_)
 ·obtain ⟨i,m,rfl,_⟩:=h
  rfl
 ·obtain ⟨i,m,rfl,hi,hm,k⟩:=h
  refine⟨_,(dueT hr T C_law_lowest).2, ?_⟩
  have hb16:=zgw (i:=i)
  refine⟨_,rfl,rfl,_,rfl, ?_⟩
  by_cases h0:m=0
  ·subst h0
   rw[decide_eq_true (show V.int ((0:Nat):Int)=V.int 0 from rfl)]
   refine iteT ⟨by show 2<=sizeLine;decide,fun z hz=>k z _ (zac hz) zab⟩
  ·rw [decide_eq_false (fun e=>h0 (by have:=V.int.inj e;(first|lia|omega)))]
   refine iteF ⟨_,rfl,_,_,rfl,rfl,_,rfl, ?_⟩
   by_cases hi2:i<2
   ·rw [decide_eq_true (show (i:Int)<2 by (first|lia|omega))]
    refine iteT ⟨_,rfl,_,_,rfl,rfl,_,rfl,_,rfl,_,_,rfl,rfl,_,_,rfl,rfl,.inl ⟨by (first|lia|omega),by (first|lia|omega)⟩,_,_,rfl, ?_, ?_,fun z H' s hz=>k z H' s ?_⟩
    ·exact Int.mul_pos (by (first|lia|omega)) (by (first|lia|omega))
    ·have a1:Sm (m:Int) 10:=Sm.of (by (first|lia|omega))
     have a2:Sm (1+(i:Int)) 10:=Sm.of (by (first|lia|omega))
     exact (a1.mul a2).mono (by decide)
    ·unfold dueZ
     rw[if_neg h0,if_pos hi2]
     exact hz
   ·rw [decide_eq_false (show ¬(i:Int)<2 by (first|lia|omega))]
    have hm10:m<=10:=by
     have:i=2:=by (first|lia|omega)
     subst this
     exact hm
    refine iteF ⟨by show 2<=sizeLine;decide,fun t0 ht0=> ?_⟩
    have g0:=zac (o:=.tup [.int 0,.int 1]) ht0
    refine⟨t0,_,rfl,SqT.of zab,rfl,_,_,rfl,_,_,rfl,rfl, ?_⟩
    refine⟨_,rfl,_,rfl,by (first|lia|omega),by (first|lia|omega), ?_⟩
    rw[Int.toNat_natCast]
    refine zbm (n:=m) (fun q σ G=>∃c4:Option V,σ=[some (.int i),some (.int m),some (.int (dueL q).1),some (.int (dueL q).2),c4]/\Same H G) ⟨_,rfl,g0⟩ ?_ ?_
    ·rintro q σ G hq ⟨c4,rfl,sG⟩
     obtain⟨d1,d2,d3⟩:=ziM (n:=q) (by (first|lia|omega))
     rw[zgH]
     generalize dueL q=pq at d1 d2 d3
     have s1:Sm pq.1 60:=Sm.of d2
     have s2:Sm pq.2 60:=Sm.of d3
     have t2:Sm (2:Int) 10:=Sm.of (by decide)
     have tq:Sm ((q:Int)+1) 10:=Sm.of (by (first|lia|omega))
     have ez:(0:Int)+(q:Int)=(q:Int):=by (first|lia|omega)
     refine⟨_,rfl,_,_,rfl,rfl,.inr ⟨by decide,by decide⟩,_,rfl,_,_,rfl,rfl,_,_,rfl,rfl,.inr ⟨by (first|lia|omega),by (first|lia|omega)⟩,_,rfl,_,rfl,_,_,rfl,rfl,.inl ⟨by (first|lia|omega),by (first|lia|omega)⟩,_,_,rfl,rfl, ?_⟩
     refine⟨_,rfl,_,_,rfl,rfl,.inr ⟨by decide,by decide⟩,_,rfl,_,_,rfl,rfl,_,_,rfl,rfl,.inr ⟨by (first|lia|omega),by (first|lia|omega)⟩, ?_⟩
     refine⟨_,_,rfl, ?_, ?_,fun z H' s hz=> ?_⟩
     ·exact Int.mul_pos (Int.mul_pos d1 (by decide)) (by (first|lia|omega))
     ·show Sm (pq.2*2*(0+(q:Int)+1)) 8000
      rw[ez]
      exact ((s2.mul t2).mul tq).mono (by decide)
     ·refine ⟨z,_,rfl,SqT.of hz,rfl,_,_,rfl,_,_,rfl,rfl, ?_⟩
      dsimp only
      rw[ez]
      exact⟨_,rfl,sG.trans s⟩
    ·rintro σ G ⟨c4,rfl,sG⟩
     refine⟨_,rfl,_,rfl,by show 2<=sizeLine;decide,fun z hz=>k z _ (sG.trans (zac hz)) ?_⟩
     unfold dueZ
     rw[if_neg h0,if_neg hi2]
     exact zab
end
end K21
namespace L2
open PySem PySem.Spec PyProof.Rows
theorem zhH {J:It}{Ok:Hp->Prop}{xs:List V}{te:TE}{ix:List Nat}{σ:L2.St}{H1:Hp}{Q:VK}(Y:Yields J Ok xs)(small:xs.length<sizeLine)(f:Nat->List Int)(hok:∀H,Same H1 H->Ok H)
  (he:∀(i:Nat) (x:V) (H:Hp),xs[i]? =some x->Same H1 H->∀(QT:VK),(∀(a:Addr) (H':Hp),Same H H'->H' a=some (.tup ((f i).map V.int))->QT (.ref a) H')->te (some x::ix.map fun i=>σ.getD i none) H QT)
  (fin:∀acc (zs:List Addr) H',H1 acc=none->Same H1 H'->H' acc=some (.lst (zs.map V.ref))->zs.length=xs.length->(∀(i:Nat) (z:Addr),zs[i]? =some z->H' z=some (.tup ((f i).map V.int)))->Q (.ref acc) H'):
  LcW J H1 (zaT 0) zaO te 1 ix σ Q:=by
 intro acc ha
 refine⟨fun i m H=>m=xs.length-i/\i<=xs.length/\Same H1 H/\∃(zs:List Addr),H acc=some (.lst (zs.map V.ref))/\zs.length=i/\∀(j:Nat) (z:Addr),zs[j]? =some z->H z=some (.tup ((f j).map V.int)),⟨xs.length,by simp,Nat.zero_le _,zac ha,[],zab,rfl,fun _ _ h=>by cases h⟩, ?_⟩
 rintro i m H ⟨rfl,hi,kp,zs,hacc,hl,hD⟩
 have o:=hok _ kp
 by_cases hlt:i<xs.length
 ·refine .inr ⟨Y.go i _ o hlt,fun x H' y=> ?_⟩
  obtain⟨rfl,hx⟩:=Y.yld i _ x H' o hlt y
  refine⟨⟨rfl,fun j v e=> ?_⟩, ?_⟩
  ·cases j with
   |zero=>cases e
   |succ j=>exact e
  ·unfold zaO
   dsimp only
   rw[if_pos rfl]
   refine he i x H' hx kp _ (fun a H4 k4 a4=> ?_)
   have h4:=k4 _ _ hacc
   refine⟨_,h4,by rw[List.length_map];(first|lia|omega),xs.length-(i+1),by (first|lia|omega),rfl,hlt,zav (kp.trans k4) ha,zs++[a],by rw[zab,List.map_append];rfl,by simp;(first|lia|omega),fun j z hj=> ?_⟩
   have hne:∀{b:Addr} {ns:List Int},H4 b=some (.tup (ns.map V.int))->b≠acc:=fun {b ns} hb e=>by rw[e,h4] at hb;cases hb
   by_cases c:j<zs.length
   ·rw [List.getElem?_append_left c] at hj
    have q:=k4 _ _ (hD j z hj)
    rw[zah (hne q)]
    exact q
   ·rw [List.getElem?_append_right (by (first|lia|omega))] at hj
    have hj0:j-zs.length=0:=by
     have:=(List.getElem?_eq_some_iff.mp hj).1
     simp at this
     (first|lia|omega)
    rw[hj0] at hj
    simp at hj
    subst hj
    have:j=i:=by (first|lia|omega)
    subst this
    rw[zah (hne a4)]
    exact a4
 ·have e:i=xs.length:=by (first|lia|omega)
  subst e
  exact .inl ⟨Y.stop _ o,fin acc zs H ha kp hacc hl hD⟩
theorem zgK {H:Hp}:∀{zs:List Addr} {R:List (List Int)},zs.length=R.length->(∀(i:Nat) (z:Addr),zs[i]? =some z->H z=some (.tup ((R.getD i []).map V.int)))->RowsAt H zs R
 |[],[],_,_=>.nil
 |z::zs,r::R,h,k=>.cons (k 0 z rfl) (zgK (by simpa using h) fun i y hy=>k (i+1) y hy)
theorem zeF {K:PySem.W.Frag}{a:Addr}{cs:List Addr}{C:List (List Int)}{te:TE}{ix:List Nat}{σ:L2.St}{H1:Hp}{Q:VK}(ha:H1 a=some (.lst (cs.map V.ref)))(hR:RowsAt H1 cs C)(small:C.length<=1000)(g:List Int->Int)
  (he:∀t∈C,∀(z:Addr) (H:Hp) (Q':VK),H z=some (.tup (t.map V.int))->Q' (.int (g t)) H->te (some (.ref z)::ix.map fun i=>σ.getD i none) H Q')
  (fin:∀acc H',H1 acc=none->Same H1 H'->H' acc=some (.lst ((C.map g).map V.int))->Q (.ref acc) H'):LcW (Itl K a) H1 (zaT 0) zaO te 1 ix σ Q:=by
 have hcl:cs.length=C.length:=Paired.length hR
 intro acc hacc
 refine⟨fun i m H=>m=cs.length-i/\i<=cs.length/\Same H1 H/\H acc=some (.lst (((C.take i).map g).map V.int)),⟨cs.length,by simp,Nat.zero_le _,zac hacc,zab⟩, ?_⟩
 rintro i m H ⟨rfl,hi,sm,hH⟩
 have haH:=sm _ _ ha
 by_cases hlt:i<cs.length
 ·refine .inr ⟨⟨cs.map V.ref,(cs.map V.ref)[i]'(by rw[List.length_map];exact hlt),SqL.of haH,List.getElem?_eq_getElem _⟩,fun v H' y=> ?_⟩
  obtain⟨rfl,hv⟩:=y
  have e1:=hv _ (SqL.of haH)
  rw[List.getElem?_map] at e1
  obtain⟨z,hz,rfl⟩:=Option.map_eq_some_iff.mp e1
  obtain⟨t,ht,hzt⟩:=hR.get hz
  refine⟨⟨rfl,fun j v e=> ?_⟩, ?_⟩
  ·cases j with
   |zero=>cases e
   |succ j=>exact e
  ·unfold zaO
   dsimp only
   rw[if_pos rfl]
   refine he t (List.mem_of_getElem? ht) z _ _ (sm _ _ hzt) ?_
   refine⟨_,hH,za5 (by rw[List.length_map,List.length_map,List.length_take];(first|lia|omega)),cs.length-(i+1),by (first|lia|omega),rfl,hlt,zav sm hacc, ?_⟩
   rw[zab,List.take_succ,ht,List.map_append,List.map_append]
   rfl
 ·have e:i=cs.length:=by (first|lia|omega)
  subst e
  rw[hcl,List.take_length] at hH
  exact .inl ⟨⟨_,SqL.of haH,by rw[List.length_map];exact Nat.le_refl _⟩,fin acc H hacc sm hH⟩
theorem zgL {b:Nat}:∀(l:List Int),(∀x∈l,x.natAbs<=b)->l.sum.natAbs<=b*l.length
 |[],_=>by simp
 |x::l,h=>by
  have h1:=zgL l fun y hy=>h y (List.mem_cons_of_mem _ hy)
  have h2:=h x (List.mem_cons_self ..)
  rw[List.sum_cons,List.length_cons,Nat.mul_succ]
  (first|lia|omega)
noncomputable def zdH:Sp:=fun vs H Q _=>∃i m:Nat,vs=[.int (ixP i).1,.int (ixP i).2,.int m]/\i<3/\m<6/\∀(z:Addr) (H':Hp),Same H H'->Shr H' z (dueZ i m)->Q (.ref z) H'
end L2
namespace K21
open PySem PySem.Spec PyProof.Rows L2
noncomputable abbrev zas:Stmt:=top 38
section
variable {P:Program}{w:World}{K:PySem.W.Frag}{mg:Str->Option Value}{base:Heap}
theorem sc__law_walked:FnScope ["_law_one", "_law_other", "_law_many", "_law_sixes", "_law_first", "_law_second", "_law_product"] ["_law_one", "_law_other", "_law_many"] (zaf zas):=⟨rfl,rfl,rfl,by decide+kernel,rfl,by decide+kernel,by decide+kernel⟩
set_option maxHeartbeats 16000000 in
noncomputable def zkb {f:Addr}{cdv:Value}{A:Around}{outer:List Env}{s:Shared}{H:Hp}{E:XK}(hr:Room 1 (A.deeper (envOfC "_law_walked" (zaf zas) s.heap.objs.size f cdv)))(T:Top mg)(C_law_orders:Cal P w K mg base 1 "_law_orders" ["_law_many"] zdy)(C_law_six:Cal P w K mg base 1 "_law_six" ["_law_order"] zhz)(C_law_lowest:Cal P w K mg base 1 "_law_lowest" ["_law_over", "_law_under"] zc4):{t:TS//PSs (cxOf CX0 P w K mg base ["_law_one", "_law_other", "_law_many", "_law_sixes", "_law_first", "_law_second", "_law_product"] "_law_walked" (zaf zas) f cdv A outer s H E).nox (zaG zas) t}:=
 ⟨_,(zag (zeR (i:=3) rfl sc__law_walked.nd rfl rfl (N':=["_law_order"]) (n:=1) (ix:=[]) rfl (CompScope.of (sc:=zaf zas) (N:=["_law_one", "_law_other", "_law_many", "_law_sixes", "_law_first", "_law_second", "_law_product"]) (by decide+kernel) rfl rfl) (za1 (zau C_law_orders (hr.mono (by decide)) rfl (zaa (pv 2) zad))) (fun _ _ _ _ _=>⟨(zak (i:=0) (show (["_law_order"]:List Str).Nodup by decide+kernel) rfl (Or.inl rfl)),zaP,(zau C_law_six (hr.mono (by decide)) rfl (zaa (pv 0) zad))⟩))
   (zag (zcD (i:=4) (j:=5) rfl sc__law_walked.nd rfl rfl (by decide) rfl rfl (zaa (zal (zbh rfl) (by rfl) T.n_sum boot_sum (zaa (zbq (N':=["_law_six_here", "_law_one"]) (n:=1) (ix:=[0]) rfl (CompScope.of (sc:=zaf zas) (N:=["_law_one", "_law_other", "_law_many", "_law_sixes", "_law_first", "_law_second", "_law_product"]) (by decide+kernel) rfl rfl) (za1 (pv 3)) (fun _ _ _ _ _=>⟨(zak (i:=0) (show (["_law_six_here", "_law_one"]:List Str).Nodup by decide+kernel) rfl (Or.inl rfl)),zaP,(zaF (zbQ K rfl) (pv 0) (pv 1) (fun _ _=>rfl))⟩)) zad)) (zaa (zal (zbh rfl) (by rfl) T.n_sum boot_sum (zaa (zbq (N':=["_law_six_here", "_law_other"]) (n:=1) (ix:=[1]) rfl (CompScope.of (sc:=zaf zas) (N:=["_law_one", "_law_other", "_law_many", "_law_sixes", "_law_first", "_law_second", "_law_product"]) (by decide+kernel) rfl rfl) (za1 (pv 3)) (fun _ _ _ _ _=>⟨(zak (i:=0) (show (["_law_six_here", "_law_other"]:List Str).Nodup by decide+kernel) rfl (Or.inl rfl)),zaP,(zaF (zbQ K rfl) (pv 0) (pv 1) (fun _ _=>rfl))⟩)) zad)) zad)) rfl)
   (zag (zaq (i:=6) sc__law_walked.nd rfl (Or.inl rfl) (zal (zbh rfl) (by rfl) T.n_sum boot_sum (zaa (zbq (N':=["_law_six_here", "_law_one", "_law_other"]) (n:=1) (ix:=[0,1]) rfl (CompScope.of (sc:=zaf zas) (N:=["_law_one", "_law_other", "_law_many", "_law_sixes", "_law_first", "_law_second", "_law_product"]) (by decide+kernel) rfl rfl) (za1 (pv 3)) (fun _ _ _ _ _=>⟨(zak (i:=0) (show (["_law_six_here", "_law_one", "_law_other"]:List Str).Nodup by decide+kernel) rfl (Or.inl rfl)),zaP,(zaj zaI (zaF (zbQ K rfl) (pv 0) (pv 1) (fun _ _=>rfl)) (zaF (zbQ K rfl) (pv 0) (pv 2) (fun _ _=>rfl)))⟩)) zad)))
   (zai (zan (zau C_law_lowest (hr.mono (by decide)) rfl (zaa (zaj za0 (zaj zaI (pv 6) (zal zap (by rfl) T.n_len PySem.boot_len (zaa (pv 3) zad))) (zaj zaI (pv 4) (pv 5))) (zaa (zaj zaI (zal zap (by rfl) T.n_len PySem.boot_len (zaa (pv 3) zad)) (zal zap (by rfl) T.n_len PySem.boot_len (zaa (pv 3) zad))) zad))))))))⟩
set_option maxHeartbeats 4000000 in
theorem zcZ {f:Addr}{fd:FuncData}(F:Fun K "_law_walked" "_law_walked" zas f fd)(T:Top mg)(C_law_orders:Cal P w K mg base 1 "_law_orders" ["_law_many"] zdy)(C_law_six:Cal P w K mg base 1 "_law_six" ["_law_order"] zhz)(C_law_lowest:Cal P w K mg base 1 "_law_lowest" ["_law_over", "_law_under"] zc4):FnOk P w K mg base CX0 2 f fd ["_law_one", "_law_other", "_law_many"] zdH:=by
 refine F.ok sc__law_walked (fun vs H Q E h=> ?_) (fun cdv A outer s H vs Q E hr h=> ?_)
 ·obtain ⟨i,m,rfl,_⟩:=h
  rfl
 ·obtain ⟨i,m,rfl,hi,hm,k⟩:=h
  refine⟨_,(zkb hr T C_law_orders C_law_six C_law_lowest).2, ?_⟩
  obtain⟨e1,big,len1,len0⟩:=zhF hi hm
  refine⟨_,rfl,m,rfl,by (first|lia|omega),fun p os H1 s1 hp0 hp R=>⟨p,rfl,⟨_,SqL.of hp⟩, ?_⟩⟩
  have lo:os.length=(allA m).length:=Paired.length R
  refine zhH (zbr (K:=K) (a:=p)) (za5 (by rw[za4,lo];(first|lia|omega))) (fun j=>((allA m).map sixZ).getD j []) (fun G s=>SqL.of (s _ _ hp)) (fun j x G hx sG QT q=> ?_) fun acc ys H2 hacc s2 hys hyl hyr=> ?_
  ·rw [List.getElem?_map] at hx
   obtain⟨z,hz,rfl⟩:=Option.map_eq_some_iff.mp hx
   obtain⟨o,hog,hoo⟩:=R.get hz
   obtain⟨ho,hol⟩:=zhy (List.mem_of_getElem? hog)
   refine⟨_,rfl,z,o,m,rfl,sG _ _ hoo,ho,hol,by (first|lia|omega),fun s6 G2 g2 hs6=> ?_⟩
   have e6:((allA m).map sixZ).getD j []=sixZ o:=by rw[List.getD_eq_getElem?_getD,List.getElem?_map,hog];rfl
   exact q s6 _ g2 (by rw[e6];exact hs6)
  rw[za4] at hyl
  have RS:RowsAt H2 ys ((allA m).map sixZ):=zgK (by rw[hyl,lo,List.length_map]) hyr
  have l6:∀s∈(allA m).map sixZ,s.length=6:=fun s hs=>by
   obtain⟨o,_,rfl⟩:=List.mem_map.mp hs
   rfl
  have lS:((allA m).map sixZ).length=(allA m).length:=List.length_map ..
  generalize (allA m).map sixZ=S at RS big l6 e1 lS
  obtain⟨i1,i2⟩:=zjA i
  have at6:∀s∈S,∀q:Nat,q<5->atI (s.map V.int) (q:Int)=some (.int (s.getD q 0)):=fun s hs q hq=>by
   have:=zbR (ys:=s) (i:=(q:Int)) (by (first|lia|omega)) (by rw[l6 s hs];(first|lia|omega))
   rwa [Int.toNat_natCast] at this
  have bg:∀s∈S,∀q:Nat,(s.getD q 0).natAbs<100:=fun s hs q=>by
   by_cases h:q<s.length
   ·have:s.getD q 0∈s:=by
     rw[List.getD_eq_getElem?_getD,List.getElem?_eq_getElem h]
     exact List.getElem_mem _
    exact big s hs _ this
   ·rw [List.getD_eq_getElem?_getD,List.getElem?_eq_none (by (first|lia|omega))]
    decide
  refine⟨_,rfl,acc,rfl,⟨_,SqL.of hys⟩, ?_⟩
  refine zeF hys RS (by (first|lia|omega)) (fun s=>s.getD (ixP i).1 0) (fun s hs z G Q' hz q=> ?_) fun a1 H3 ha1 s3 h3=>⟨a1,_,rfl,h3, ?_⟩
  ·exact⟨_,rfl,_,rfl,z,_,_,_,rfl,rfl,SqT.of hz,at6 s hs _ i1,q⟩
  have hys3:=s3 _ _ hys
  refine⟨_,rfl,acc,rfl,⟨_,SqL.of hys3⟩, ?_⟩
  refine zeF hys3 (RS.same s3) (by (first|lia|omega)) (fun s=>s.getD (ixP i).2 0) (fun s hs z G Q' hz q=> ?_) fun a2 H4 ha2 s4 h4=>⟨a2,_,rfl,h4, ?_⟩
  ·exact⟨_,rfl,_,rfl,z,_,_,_,rfl,rfl,SqT.of hz,at6 s hs _ i2,q⟩
  have hys4:=s4 _ _ hys3
  refine⟨_,_,rfl, ?_⟩
  refine⟨_,rfl,acc,rfl,⟨_,SqL.of hys4⟩, ?_⟩
  refine zeF hys4 ((RS.same s3).same s4) (by (first|lia|omega)) (fun s=>s.getD (ixP i).1 0*s.getD (ixP i).2 0) (fun s hs z G Q' hz q=> ?_) fun a3 H5 ha3 s5 h5=>⟨a3,_,rfl,h5, ?_⟩
  ·have b1:=bg s hs (ixP i).1
   exact⟨_,rfl,_,rfl,z,_,_,_,rfl,rfl,SqT.of hz,at6 s hs _ i1,_,rfl,_,rfl,z,_,_,_,rfl,rfl,SqT.of hz,at6 s hs _ i2,_,_,rfl,rfl,.inl ⟨by (first|lia|omega),by (first|lia|omega)⟩,q⟩
  have hys5:=s5 _ _ hys4
  have ysl:ys.length=S.length:=Paired.length RS
  have s12:((S.map fun (s:List Int)=>s.getD (ixP i).1 0).sum).natAbs<=100*120:=by
   refine Nat.le_trans (zgL (b:=100) _ fun x hx=> ?_) ?_
   ·obtain ⟨s,hs,rfl⟩:=List.mem_map.mp hx
    exact Nat.le_of_lt (bg s hs _)
   ·rw [List.length_map]
    (first|lia|omega)
  have SA:=s5 _ _ hys4
  have sl:Sm (S.length:Int) 20:=Sm.of (by (first|lia|omega))
  refine⟨_,rfl,_,rfl,acc,_,rfl,.inl (SqL.of hys5),_,_,rfl,rfl,.inr ⟨?_, ?_⟩,_,rfl,_,rfl,_,_,rfl,rfl,.inl ⟨?_, ?_⟩,_,_,rfl,rfl,_,rfl,acc,_,rfl,.inl (SqL.of hys5),_,rfl,acc,_,rfl,.inl (SqL.of hys5),_,_,rfl,rfl,.inl ⟨?_, ?_⟩, ?_⟩
  ·rw[za4,ysl];(first|lia|omega)
  ·rw[za4,ysl];(first|lia|omega)
  ·(first|lia|omega)
  ·(first|lia|omega)
  ·rw[za4,ysl];(first|lia|omega)
  ·rw[za4,ysl];(first|lia|omega)
  rw[za4,ysl]
  refine⟨_,_,rfl,Int.mul_pos (by (first|lia|omega)) (by (first|lia|omega)),(sl.mul sl).mono (by decide),fun z H' s hz=> ?_⟩
  refine k z H' (((((s1.trans s2).trans s3).trans s4).trans s5).trans s) ?_
  rw[<-e1]
  exact hz
end
end K21
namespace L2
open PySem PySem.Spec PyProof.Rows
theorem ifS {b:Bool}{A B:Prop}(hb:b=false)(h:B):if b=true then A else B:=by
 subst hb
 exact iteF h
theorem eqv2 (a b:Int):PyData.eqvAll [.int a,.int b] [.int a,.int b]=true:=(zeT [a,b] [a,b]).trans (by simp)
noncomputable def tChk:TS:=fun D σ H=>∃(i m:Nat) (z:Addr),σ[3]? =some (some (.int (ixP i).1))/\σ[4]? =some (some (.int (ixP i).2))/\σ[6]? =some (some (.int m))/\σ[7]? =some (some (.ref z))/\i<3/\Shr H z (dueZ i m)/\∀H',Same H H'->D.nx σ H'
end L2
namespace K21
open PySem PySem.Spec PyProof.Rows L2
noncomputable abbrev zdI:Stmt:=top 39
noncomputable def zhI (K:PySem.W.Frag):Sp:=fun vs H Q _=>∃(a:Addr) (ns:List Int),vs=[.ref a]/\SqL K H a (ns.map V.int)/\ns.length<=63/\∀H',Q (.bl true) H'
section
variable {P:Program}{w:World}{K:PySem.W.Frag}{mg:Str->Option Value}{base:Heap}
theorem sc_law:FnScope ["_law_script", "_law_pot_here", "_law_at", "_law_one", "_law_other", "_law_far", "_law_many", "_law_due_here", "_law_again"] ["_law_script"] (zaf zdI):=⟨rfl,rfl,rfl,by decide+kernel,rfl,by decide+kernel,by decide+kernel⟩
set_option maxHeartbeats 16000000 in
noncomputable def lawT {f:Addr}{cdv:Value}{A:Around}{outer:List Env}{s:Shared}{H:Hp}{E:XK}(hr:Room 7 (A.deeper (envOfC "law" (zaf zdI) s.heap.objs.size f cdv)))(T:Top mg)(C_law_pot:Cal P w K mg base 1 "_law_pot" ["_law_script"] (zg9 K))(C_law_take:Cal P w K mg base 1 "_law_take" ["_law_pot_here", "_law_many"] zeZ)(C_law_kinds:Cal P w K mg base 1 "_law_kinds" [] zdu)(C_law_pairs:Cal P w K mg base 1 "_law_pairs" [] zhB)(C_law_due:Cal P w K mg base 2 "_law_due" ["_law_at", "_law_many"] zhG)
  (C_law_walked:Cal P w K mg base 2 "_law_walked" ["_law_one", "_law_other", "_law_many"] zdH) (Clean:Cal P w K mg base 7 "lean" ["one", "other", "many"] zfb) (C_law_same:Cal P w K mg base 2 "_law_same" ["_law_found", "_law_due_here"] (zcP K 1)):{t:TS//PSs (cxOf CX0 P w K mg base ["_law_script", "_law_pot_here", "_law_at", "_law_one", "_law_other", "_law_far", "_law_many", "_law_due_here", "_law_again"] "law" (zaf zdI) f cdv A outer s H E).nox (zaG zdI) t}:=
 have hu:_:=hr.units
 ⟨_, (zag (zaq (i:=1) sc_law.nd rfl (Or.inl rfl) (zau C_law_pot (hr.mono (by decide)) rfl (zaa (pv 0) zad)))
   (zag (zbj PassesOwn.never rfl (zbY rfl T.n_enumerate (zaa (zeB C_law_pairs (hr.mono (by decide)) rfl) zad)) (zbW rfl (zar (zak (i:=2) sc_law.nd rfl (Or.inl rfl)) (zar (zbW rfl (zar (zak (i:=3) sc_law.nd rfl (Or.inl rfl)) (zar (zak (i:=4) sc_law.nd rfl (Or.inl rfl)) zbp))) zbp)))
    (zag (zaq (i:=5) sc_law.nd rfl (Or.inl rfl) (zaA zcF (by rfl) T.n_int boot_int (zaa (zc9 zc8 (zau C_law_take (hr.mono (by decide)) rfl (zaa (pv 1) (zaa zae zad))) zae (zaV _)) zad)))
    (zai (zbj PassesOwn.never rfl (zfF (zaz (zaa zae (zaa zae (zaa zae (zaa (zau C_law_take (hr.mono (by decide)) rfl (zaa (pv 1) (zaa (zaF zaR (zbd (zaa zae (zaa (zaF zaR (zbd (zaa zae (zaa zae (zaa zae zad)))) (pv 2) (fun _ _=>rfl)) zad))) (pv 5) (fun _ _=>rfl)) zad))) (zaa (zau C_law_take (hr.mono (by decide)) rfl (zaa (pv 1) (zaa zae zad))) zad))))))) (zak (i:=6) sc_law.nd rfl (Or.inl rfl))
     (zag (zaq (i:=7) sc_law.nd rfl (Or.inl rfl) (zau C_law_due (hr.mono (by decide)) rfl (zaa (pv 2) (zaa (pv 6) zad))))
     (zag (PS.mono (zcT (PW.pt (zhN (zaN zfM (pv 6) zae (zaV _)) (zfD (zaN (zf7 hu) (zau C_law_walked (hr.mono (by decide)) rfl (zaa (pv 3) (zaa (pv 4) (zaa (pv 6) zad)))) (pv 7) (zaV _)))))
      (zai (zan zfC))
      zbl) (t':=tChk) (by
      rintro D σ H ⟨i,m,z,e3,e4,e6,e7,hi,hz,k⟩
      refine⟨.int m,e6,_,_,rfl,rfl,_,rfl, ?_⟩
      by_cases h6:(m:Int)<6
      ·rw [decide_eq_true h6]
       refine iteT ⟨_,e3,_,e4,_,e6,i,m,rfl,hi,by (first|lia|omega),fun y H1 s1 hy=> ?_⟩
       refine⟨_,e7,_,_,Is.ints (ns:=[(dueZ i m).1,(dueZ i m).2]) hy,Is.ints (ns:=[(dueZ i m).1,(dueZ i m).2]) (s1 _ _ hz),zci _,zci _,_,rfl,ifS (by simp[PyData.eqv,eqv2]) ?_⟩
       exact k _ s1
      ·rw [decide_eq_false h6]
       exact iteF (iteF (k _ (Same.refl _)))))
     (zai (zbj PassesOwn.never rfl (zaQ rfl T.n_range (zaa zae zad)) (zak (i:=8) sc_law.nd rfl (Or.inl rfl))
      (zai (zcT (zhO (zeI (zau C_law_same (hr.mono (by decide)) rfl (zaa (zau Clean (hr.mono (by decide)) rfl (zaa (zaF za8 (zeB C_law_kinds (hr.mono (by decide)) rfl) (pv 3) (fun _ _=>rfl)) (zaa (zaF za8 (zeB C_law_kinds (hr.mono (by decide)) rfl) (pv 4) (fun _ _=>rfl)) (zaa (pv 6) zad)))) (zaa (pv 7) zad)))))
       (zai (zan zfC))
       zbl))))))))))
   (zai (zan zfC))))⟩
end
end K21
namespace L2
open PySem PySem.Spec PyProof.Rows
theorem zhJ (i:Nat):atI [V.str "rounds",.str "stays",.str "rises",.str "highs",.str "crossed",.str "longest"] ((ixP i).1:Nat)=some (.str (nmP i).1)/\atI [V.str "rounds",.str "stays",.str "rises",.str "highs",.str "crossed",.str "longest"] ((ixP i).2:Nat)=some (.str (nmP i).2):=by
 match i with
 |0=>exact⟨rfl,rfl⟩
 |1=>exact⟨rfl,rfl⟩
 |n+2=>exact⟨rfl,rfl⟩
theorem zjF {H:Hp}{a b c:Addr}(ha:H a=some (.tup [.int 0,.int 1]))(hb:H b=some (.tup [.int 2,.int 3]))(hc:H c=some (.tup [.int 3,.int 4])){i:Nat}{x:V}(h:[V.ref a,.ref b,.ref c][i]? =some x):i<3/\∃z,x=.ref z/\H z=some (.tup [.int (ixP i).1,.int (ixP i).2]):=by
 match i,h with
 |0,h=>cases h;exact⟨by (first|lia|omega),a,rfl,ha⟩
 |1,h=>cases h;exact⟨by (first|lia|omega),b,rfl,hb⟩
 |2,h=>cases h;exact⟨by (first|lia|omega),c,rfl,hc⟩
theorem zhK {n m b:Nat}(h2:2<=b)(hn:n<=b)(hm:m<=b){i:Nat}{x:V}(h:[V.int 0,.int 1,.int 2,.int n,.int m][i]? =some x):∃q:Nat,x=.int q/\q<=b:=by
 match i,h with
 |0,h=>cases h;exact⟨0,rfl,by (first|lia|omega)⟩
 |1,h=>cases h;exact⟨1,rfl,by (first|lia|omega)⟩
 |2,h=>cases h;exact⟨2,rfl,h2⟩
 |3,h=>cases h;exact⟨n,rfl,hn⟩
 |4,h=>cases h;exact⟨m,rfl,hm⟩
end L2
namespace K21
open PySem PySem.Spec PyProof.Rows L2
section
variable {P:Program}{w:World}{K:PySem.W.Frag}{mg:Str->Option Value}{base:Heap}
set_option maxHeartbeats 4000000 in
theorem zjG {f:Addr}{fd:FuncData}(F:Fun K "law" "law" zdI f fd)(T:Top mg)(C_law_pot:Cal P w K mg base 1 "_law_pot" ["_law_script"] (zg9 K))(C_law_take:Cal P w K mg base 1 "_law_take" ["_law_pot_here", "_law_many"] zeZ)(C_law_kinds:Cal P w K mg base 1 "_law_kinds" [] zdu)(C_law_pairs:Cal P w K mg base 1 "_law_pairs" [] zhB)(C_law_due:Cal P w K mg base 2 "_law_due" ["_law_at", "_law_many"] zhG)
  (C_law_walked:Cal P w K mg base 2 "_law_walked" ["_law_one", "_law_other", "_law_many"] zdH) (Clean:Cal P w K mg base 7 "lean" ["one", "other", "many"] zfb) (C_law_same:Cal P w K mg base 2 "_law_same" ["_law_found", "_law_due_here"] (zcP K 1)):FnOk P w K mg base CX0 8 f fd ["_law_script"] (zhI K):=by
 refine F.ok sc_law (fun vs H Q E h=> ?_) (fun cdv A outer s H vs Q E hr h=> ?_)
 ·obtain ⟨a,ns,rfl,_⟩:=h
  rfl
 ·obtain ⟨a,ns,rfl,hS,hl,k⟩:=h
  refine⟨_,(lawT hr T C_law_pot C_law_take C_law_kinds C_law_pairs C_law_due C_law_walked Clean C_law_same).2, ?_⟩
  refine⟨_,rfl,a,ns,rfl,hS,hl,fun p q H1 s1 hh1 _ _=> ?_⟩
  refine⟨rfl,fun pp a1 b1 c1 G0 s0 hpp ha hb hc=>⟨pp,rfl,⟨_,SqT.of hpp⟩, ?_⟩⟩
  refine zeV (K:=K) (a:=pp) (xs:=[V.ref a1,.ref b1,.ref c1]) (fun i σ G=>∃c2 c3 c4 c5 c6 c7 c8:Option V,σ=[some (.ref a),some (.ref p),c2,c3,c4,c5,c6,c7,c8]/\Pot G p q/\G pp=some (.tup [.ref a1,.ref b1,.ref c1])/\G a1=some (.tup [.int 0,.int 1])/\G b1=some (.tup [.int 2,.int 3])/\G c1=some (.tup [.int 3,.int 4])) ⟨_,_,_,_,_,_,_,rfl,hh1.same s0,hpp,ha,hb,hc⟩ ?_ ?_ ?_
  ·rintro i σ G _ ⟨c2,c3,c4,c5,c6,c7,c8,rfl,_,h,_⟩
   exact SqT.of h
  ·rintro i x t σ G hx ⟨c2,c3,c4,c5,c6,c7,c8,rfl,hG,hpp,ha,hb,hc⟩ ht
   obtain⟨hi,z,rfl,hz⟩:=zjF ha hb hc hx
   obtain⟨q1,q2⟩:=zhJ i
   have st:=zac (o:=.tup [.int (i:Int),.ref z]) ht
   refine⟨t,_,rfl,SqT.of zab,rfl,_,_,rfl,_,_,rfl,z,_,rfl,SqT.of (st _ _ hz),rfl,_,_,rfl,_,_,rfl,rfl,rfl, ?_⟩
   have hG1:=hG.same st
   have hpp1:=st _ _ hpp
   have ha1:=st _ _ ha
   have hb1:=st _ _ hb
   have hc1:=st _ _ hc
   generalize (upd G t (.tup [.int (i:Int),.ref z]))=G1 at hG1 hpp1 ha1 hb1 hc1 ⊢
   refine⟨_,rfl,p,q,8,rfl,by decide,by decide,hG1,fun fr G2 f0 f1 hG2 k2=> ?_⟩
   have hpp2:=hG1.keepT k2 hpp1
   have ha2:=hG1.keepT k2 ha1
   have hb2:=hG1.keepT k2 hb1
   have hc2:=hG1.keepT k2 hc1
   refine⟨rfl,.inr ⟨_,rfl, ?_⟩⟩
   generalize hfar:decide (V.int fr=V.int 0)=far
   have h17:∃B:Int,atI [V.int 17,V.int 17,V.int 11] (i:Int)=some (V.int B)/\B=bP i+1/\10<=bP i:=by
    have hh:i=0∨i=1∨i=2:=by (first|lia|omega)
    rcases hh with rfl|rfl|rfl<;>exact⟨_,rfl,rfl,by decide⟩
   obtain⟨B,hB,eB,hb10⟩:=h17
   have hb16:=zgw (i:=i)
   have h9:atI [V.int 10,V.int B] (if far=true then 1 else 0)=some (V.int (if far=true then B else 10)):=by cases far<;>rfl
   refine⟨_,rfl,by show 3<=sizeLine;decide,fun l1 hl1=> ?_⟩
   refine⟨_,rfl,l1,_,_,_,rfl,rfl,SqL.of zab,hB,by show 2<=sizeLine;decide,fun l2 hl2=> ?_⟩
   refine⟨_,rfl,l2,_,_,_,rfl,rfl,SqL.of zab,h9, ?_⟩
   have u2:=(zac (o:=.lst [.int 17,.int 17,.int 11]) hl1).trans (zac (o:=.lst [.int 10,.int B]) hl2)
   have hG3:=hG2.same u2
   have hpp3:=u2 _ _ hpp2
   have ha3:=u2 _ _ ha2
   have hb3:=u2 _ _ hb2
   have hc3:=u2 _ _ hc2
   generalize (upd (upd G2 l1 (.lst [.int 17,.int 17,.int 11])) l2 (.lst [.int 10,.int B]))=G3 at hG3 hpp3 ha3 hb3 hc3 ⊢
   refine⟨p,q,_,rfl,by split<;>(first|lia|omega),by split<;>(first|lia|omega),hG3,fun mm G4 m0 m1 hG4 k4=> ?_⟩
   have hpp4:=hG3.keepT k4 hpp3
   have ha4:=hG3.keepT k4 ha3
   have hb4:=hG3.keepT k4 hb3
   have hc4:=hG3.keepT k4 hc3
   obtain⟨m,rfl⟩:∃m:Nat,mm=(m:Int):=⟨mm.toNat,by (first|lia|omega)⟩
   have hm:m<=bP i:=by
    split at m1<;>(first|lia|omega)
   refine⟨_,rfl,p,q,6,rfl,by decide,by decide,hG4,fun mm2 G5 n0 n1 hG5 k5=> ?_⟩
   have hpp5:=hG4.keepT k5 hpp4
   have ha5:=hG4.keepT k5 ha4
   have hb5:=hG4.keepT k5 hb4
   have hc5:=hG4.keepT k5 hc4
   obtain⟨m2,rfl⟩:∃m:Nat,mm2=(m:Int):=⟨mm2.toNat,by (first|lia|omega)⟩
   refine⟨by show 5<=sizeLine;decide,fun t5 ht5=>⟨t5,rfl,⟨_,SqT.of zab⟩, ?_⟩⟩
   have s5:=zac (o:=.tup [.int 0,.int 1,.int 2,.int m,.int m2]) ht5
   have ht5':(upd G5 t5 (.tup [.int 0,.int 1,.int 2,.int m,.int m2])) t5=some (.tup [.int 0,.int 1,.int 2,.int m,.int m2]):=zab
   generalize (upd G5 t5 (.tup [.int 0,.int 1,.int 2,.int m,.int m2]))=G6 at s5 ht5' ⊢
   refine zfH (K:=K) (xs:=[V.int 0,.int 1,.int 2,.int m,.int m2]) (fun j σ G=>∃c6 c7 c8:Option V,σ=[some (.ref a),some (.ref p),some (.int (i:Int)),some (.int (ixP i).1),some (.int (ixP i).2),some (.int (if far=true then 1 else 0)),c6,c7,c8]/\Same G6 G) ⟨_,_,_,rfl,fun _ _ h=>h⟩ ?_ ?_ ?_
   ·rintro j σ G _ ⟨c6,c7,c8,rfl,sG⟩
    exact SqT.of (sG _ _ ht5')
   ·rintro j x σ G hx ⟨c6,c7,c8,rfl,sG⟩
    obtain⟨mq,rfl,hmq⟩:=zhK (b:=bP i) (by (first|lia|omega)) hm (by (first|lia|omega)) hx
    refine⟨_,rfl,_,rfl,i,mq,rfl,hi,hmq,fun zd G7 s7 hzd=> ?_⟩
    refine⟨i,mq,zd,rfl,rfl,rfl,rfl,hi,hzd,fun G8 s8=> ?_⟩
    refine⟨_,rfl,by decide,by decide, ?_⟩
    refine zbm (lo:=0) (n:=2) (fun r σ G=>∃c8:Option V,σ=[some (.ref a),some (.ref p),some (.int (i:Int)),some (.int (ixP i).1),some (.int (ixP i).2),some (.int (if far=true then 1 else 0)),some (.int (mq:Int)),some (.ref zd),c8]/\Same G8 G) ⟨_,rfl,fun _ _ h=>h⟩ ?_ ?_
    ·rintro r σ G9 hr ⟨c8,rfl,s9⟩
     refine⟨rfl,fun z1 Ga sa hz1=>⟨_,rfl,z1,_,_,_,rfl,rfl,SqT.of hz1,q1, ?_⟩⟩
     refine⟨rfl,fun z2 Gb sb hz2=>⟨_,rfl,z2,_,_,_,rfl,rfl,SqT.of hz2,q2, ?_⟩⟩
     refine⟨_,rfl,i,mq,rfl,hi,hmq,fun zl Gc sc hzl=> ?_⟩
     rw[(zfa hi hmq).1] at hzl
     have S9:=((s9.trans sa).trans sb).trans sc
     refine⟨_,rfl,_,_,rfl,zgD hzl (S9 _ _ (s8 _ _ hzd)),fun Gd sd=>⟨_,rfl,iteF ?_⟩⟩
     exact⟨_,rfl,S9.trans sd⟩
    ·rintro σ G9 ⟨c8,rfl,s9⟩
     exact⟨_,_,_,rfl,((sG.trans s7).trans s8).trans s9⟩
   ·rintro σ G ⟨c6,c7,c8,rfl,sG⟩
    have S:=s5.trans sG
    exact⟨_,_,_,_,_,_,_,rfl,hG5.same S,S _ _ hpp5,S _ _ ha5,S _ _ hb5,S _ _ hc5⟩
  ·rintro σ G ⟨c2,c3,c4,c5,c6,c7,c8,rfl,_⟩
   exact k G
end
end K21
namespace L2
open PySem PySem.Spec PyProof.Rows
section
variable {K:PySem.W.Frag}{x qual:Str}{st:Stmt}{f:Addr}{fd:FuncData}
theorem Fun.b0 (F:Fun K x qual st f fd)(h:∀(kV doc pm:Value) (an:Option Addr) (cdv ct:Value),bindArgs (PySem.W.fnOf x qual (zbe st) (zaG st) (zaf st) .none kV doc pm an cdv ct) ⟨[],[]⟩=pure (([]:List Str).zip [])):Binds K fd [] []:=
 F.binds fun kV doc pm an cdv ct us hl=>match us,hl with|[],_=>h kV doc pm an cdv ct
theorem Fun.b1 {p0:Str}(F:Fun K x qual st f fd)(h:∀(kV doc pm:Value) (an:Option Addr) (cdv ct:Value) (a0:Value),bindArgs (PySem.W.fnOf x qual (zbe st) (zaG st) (zaf st) .none kV doc pm an cdv ct) ⟨[a0],[]⟩=pure (([p0]:List Str).zip [a0])):Binds K fd [p0] []:=
 F.binds fun kV doc pm an cdv ct us hl=>match us,hl with|[a0],_=>h kV doc pm an cdv ct a0
theorem Fun.b2 {p0 p1:Str}(F:Fun K x qual st f fd)(h:∀(kV doc pm:Value) (an:Option Addr) (cdv ct:Value) (a0 a1:Value),bindArgs (PySem.W.fnOf x qual (zbe st) (zaG st) (zaf st) .none kV doc pm an cdv ct) ⟨[a0,a1],[]⟩=pure (([p0,p1]:List Str).zip [a0,a1])):Binds K fd [p0,p1] []:=
 F.binds fun kV doc pm an cdv ct us hl=>match us,hl with|[a0,a1],_=>h kV doc pm an cdv ct a0 a1
theorem Fun.b3 {p0 p1 p2:Str}(F:Fun K x qual st f fd)(h:∀(kV doc pm:Value) (an:Option Addr) (cdv ct:Value) (a0 a1 a2:Value),bindArgs (PySem.W.fnOf x qual (zbe st) (zaG st) (zaf st) .none kV doc pm an cdv ct) ⟨[a0,a1,a2],[]⟩=pure (([p0,p1,p2]:List Str).zip [a0,a1,a2])):Binds K fd [p0,p1,p2] []:=
 F.binds fun kV doc pm an cdv ct us hl=>match us,hl with|[a0,a1,a2],_=>h kV doc pm an cdv ct a0 a1 a2
end
theorem on3 {p:Nat->Prop}(h0:p 0)(h1:p 1)(h2:p 2):∀i,i<3->p i:=fun i h=>by
 have:i=0∨i=1∨i=2:=by (first|lia|omega)
 rcases this with rfl|rfl|rfl
 ·exact h0
 ·exact h1
 ·exact h2
end L2
namespace K21
open PySem PySem.Spec PyProof.Rows L2
set_option maxHeartbeats 8000000 in
theorem all_mk {l:PySem.W.OpenLaw}{w:World}{K:PySem.W.Frag}{h:Heap}{mg:Str->Option Value}{fa C_ROWS C_ONWARDS k_ONWARDS_0 k_ONWARDS_1 k_ONWARDS_2 T_FIRST_ROW g_rounds_row g_stays_row g_rises_row g_crossed_row g_rounds_and_stays_on g_rises_and_highs_on g_highs_and_crossed_on:Addr}(X:K.In h)(G:h.Ns mainGlobals mg)(hfa:mg "law" =some (.ref fa))(TK:TopK K)(a_ROWS:PySem.W.nsIn K mainGlobals "ROWS" =some (some (.ref C_ROWS)))(GD_ROWS:GDict K w.params C_ROWS [("rounds",g_rounds_row),("stays",g_stays_row),("rises",g_rises_row),("highs",g_rounds_row),("crossed",g_crossed_row)])(a_ONWARDS:PySem.W.nsIn K mainGlobals "ONWARDS" =some (some (.ref C_ONWARDS)))(GT_ONWARDS:GTup K w C_ONWARDS [([.inr "rounds",.inr "stays"],k_ONWARDS_0,g_rounds_and_stays_on),([.inr "rises",.inr "highs"],k_ONWARDS_1,g_rises_and_highs_on),([.inr "highs",.inr "crossed"],k_ONWARDS_2,g_highs_and_crossed_on)])(a_FIRST_ROW:PySem.W.nsIn K mainGlobals "FIRST_ROW" =some (some (.ref T_FIRST_ROW)))(h_FIRST_ROW:∀H,SqT K H T_FIRST_ROW ([1].map V.int))(n_rounds_row:PySem.W.nsIn K mainGlobals "rounds_row" =some (some (.ref g_rounds_row)))(n_stays_row:PySem.W.nsIn K mainGlobals "stays_row" =some (some (.ref g_stays_row)))(n_rises_row:PySem.W.nsIn K mainGlobals "rises_row" =some (some (.ref g_rises_row)))(n_crossed_row:PySem.W.nsIn K mainGlobals "crossed_row" =some (some (.ref g_crossed_row)))(n_rounds_and_stays_on:PySem.W.nsIn K mainGlobals "rounds_and_stays_on" =some (some (.ref g_rounds_and_stays_on)))(n_rises_and_highs_on:PySem.W.nsIn K mainGlobals "rises_and_highs_on" =some (some (.ref g_rises_and_highs_on)))(n_highs_and_crossed_on:PySem.W.nsIn K mainGlobals "highs_and_crossed_on" =some (some (.ref g_highs_and_crossed_on)))
  (d__law_pot:Def K "_law_pot" zbM) (d__law_take:Def K "_law_take" zbT) (d__law_kinds:Def K "_law_kinds" zbG) (d__law_pairs:Def K "_law_pairs" za6) (d__law_lowest:Def K "_law_lowest" zbw) (d__law_due:Def K "_law_due" zbc) (d__law_orders:Def K "_law_orders" zba) (d__law_six:Def K "_law_six" zaM) (d__law_walked:Def K "_law_walked" zas) (d_rounds_and_stays_on:Def K "rounds_and_stays_on" zaS) (d_rises_and_highs_on:Def K "rises_and_highs_on" zaU) (d_highs_and_crossed_on:Def K "highs_and_crossed_on" zax) (d_pairs_told:Def K "pairs_told" zaY) (d_number_at:Def K "number_at" zbU) (d_rounds_row:Def K "rounds_row" zbk) (d_stays_row:Def K "stays_row" zbs) (d_rises_row:Def K "rises_row" zbt) (d_crossed_row:Def K "crossed_row" za9) (d_next_row:Def K "next_row" zcd) (d_steps:Def K "steps" zex) (d_told:Def K "told" zgu) (d_together:Def K "together" za3) (d_greatest_divisor:Def K "greatest_divisor" zaZ) (d_share_of:Def K "share_of" zcc) (d_less:Def K "less" zgt) (d_times:Def K "times" zeu) (d_lean:Def K "lean" zbJ) (d__law_same:Def K "_law_same" zbv) (d_law:Def K "law" zdI):
  ∃fd:FuncData,(∀(s:Shared) (v:Value),BindsTo s fd ⟨[v],[]⟩ [("_law_script",v)])/\∀base:Heap,K.In base->base.Ns mainGlobals mg->FnOk l.prog w K mg base CX0 8 fa fd ["_law_script"] (zhI K):=by
 have T:Top mg:=TK.top X G
 obtain⟨f__law_pot,e__law_pot,F__law_pot,m__law_pot⟩:=d__law_pot.fn X G
 obtain⟨f__law_take,e__law_take,F__law_take,m__law_take⟩:=d__law_take.fn X G
 obtain⟨f__law_kinds,e__law_kinds,F__law_kinds,m__law_kinds⟩:=d__law_kinds.fn X G
 obtain⟨f__law_pairs,e__law_pairs,F__law_pairs,m__law_pairs⟩:=d__law_pairs.fn X G
 obtain⟨f__law_lowest,e__law_lowest,F__law_lowest,m__law_lowest⟩:=d__law_lowest.fn X G
 obtain⟨f__law_due,e__law_due,F__law_due,m__law_due⟩:=d__law_due.fn X G
 obtain⟨f__law_orders,e__law_orders,F__law_orders,m__law_orders⟩:=d__law_orders.fn X G
 obtain⟨f__law_six,e__law_six,F__law_six,m__law_six⟩:=d__law_six.fn X G
 obtain⟨f__law_walked,e__law_walked,F__law_walked,m__law_walked⟩:=d__law_walked.fn X G
 obtain⟨f_rounds_and_stays_on,e_rounds_and_stays_on,F_rounds_and_stays_on,m_rounds_and_stays_on⟩:=d_rounds_and_stays_on.fn X G
 obtain⟨f_rises_and_highs_on,e_rises_and_highs_on,F_rises_and_highs_on,m_rises_and_highs_on⟩:=d_rises_and_highs_on.fn X G
 obtain⟨f_highs_and_crossed_on,e_highs_and_crossed_on,F_highs_and_crossed_on,m_highs_and_crossed_on⟩:=d_highs_and_crossed_on.fn X G
 obtain⟨f_pairs_told,e_pairs_told,F_pairs_told,m_pairs_told⟩:=d_pairs_told.fn X G
 obtain⟨f_number_at,e_number_at,F_number_at,m_number_at⟩:=d_number_at.fn X G
 obtain⟨f_rounds_row,e_rounds_row,F_rounds_row,m_rounds_row⟩:=d_rounds_row.fn X G
 obtain⟨f_stays_row,e_stays_row,F_stays_row,m_stays_row⟩:=d_stays_row.fn X G
 obtain⟨f_rises_row,e_rises_row,F_rises_row,m_rises_row⟩:=d_rises_row.fn X G
 obtain⟨f_crossed_row,e_crossed_row,F_crossed_row,m_crossed_row⟩:=d_crossed_row.fn X G
 obtain⟨f_next_row,e_next_row,F_next_row,m_next_row⟩:=d_next_row.fn X G
 obtain⟨f_steps,e_steps,F_steps,m_steps⟩:=d_steps.fn X G
 obtain⟨f_told,e_told,F_told,m_told⟩:=d_told.fn X G
 obtain⟨f_together,e_together,F_together,m_together⟩:=d_together.fn X G
 obtain⟨f_greatest_divisor,e_greatest_divisor,F_greatest_divisor,m_greatest_divisor⟩:=d_greatest_divisor.fn X G
 obtain⟨f_share_of,e_share_of,F_share_of,m_share_of⟩:=d_share_of.fn X G
 obtain⟨f_less,e_less,F_less,m_less⟩:=d_less.fn X G
 obtain⟨f_times,e_times,F_times,m_times⟩:=d_times.fn X G
 obtain⟨f_lean,e_lean,F_lean,m_lean⟩:=d_lean.fn X G
 obtain⟨f__law_same,e__law_same,F__law_same,m__law_same⟩:=d__law_same.fn X G
 obtain⟨f_law,e_law,F_law,m_law⟩:=d_law.fn X G
 have b__law_pot:Binds K _ ["_law_script"] []:=F__law_pot.b1 fun _ _ _ _ _ _ _=>rfl
 have b__law_take:Binds K _ ["_law_pot_here", "_law_many"] []:=F__law_take.b2 fun _ _ _ _ _ _ _ _=>rfl
 have b__law_kinds:Binds K _ [] []:=F__law_kinds.b0 fun _ _ _ _ _ _=>rfl
 have b__law_pairs:Binds K _ [] []:=F__law_pairs.b0 fun _ _ _ _ _ _=>rfl
 have b__law_lowest:Binds K _ ["_law_over", "_law_under"] []:=F__law_lowest.b2 fun _ _ _ _ _ _ _ _=>rfl
 have b__law_due:Binds K _ ["_law_at", "_law_many"] []:=F__law_due.b2 fun _ _ _ _ _ _ _ _=>rfl
 have b__law_orders:Binds K _ ["_law_many"] []:=F__law_orders.b1 fun _ _ _ _ _ _ _=>rfl
 have b__law_six:Binds K _ ["_law_order"] []:=F__law_six.b1 fun _ _ _ _ _ _ _=>rfl
 have b__law_walked:Binds K _ ["_law_one", "_law_other", "_law_many"] []:=F__law_walked.b3 fun _ _ _ _ _ _ _ _ _=>rfl
 have b_rounds_and_stays_on:Binds K _ ["many", "rounds", "stays"] []:=F_rounds_and_stays_on.b3 fun _ _ _ _ _ _ _ _ _=>rfl
 have b_rises_and_highs_on:Binds K _ ["many", "rises", "highs"] []:=F_rises_and_highs_on.b3 fun _ _ _ _ _ _ _ _ _=>rfl
 have b_highs_and_crossed_on:Binds K _ ["many", "highs", "crossed"] []:=F_highs_and_crossed_on.b3 fun _ _ _ _ _ _ _ _ _=>rfl
 have b_pairs_told:Binds K _ ["one", "other", "many"] []:=F_pairs_told.b3 fun _ _ _ _ _ _ _ _ _=>rfl
 have b_number_at:Binds K _ ["row", "place"] []:=F_number_at.b2 fun _ _ _ _ _ _ _ _=>rfl
 have b_rounds_row:Binds K _ ["many", "ahead"] []:=F_rounds_row.b2 fun _ _ _ _ _ _ _ _=>rfl
 have b_stays_row:Binds K _ ["many", "ahead"] []:=F_stays_row.b2 fun _ _ _ _ _ _ _ _=>rfl
 have b_rises_row:Binds K _ ["many", "ahead"] []:=F_rises_row.b2 fun _ _ _ _ _ _ _ _=>rfl
 have b_crossed_row:Binds K _ ["many", "ahead"] []:=F_crossed_row.b2 fun _ _ _ _ _ _ _ _=>rfl
 have b_next_row:Binds K _ ["kind", "many", "ahead"] []:=F_next_row.b3 fun _ _ _ _ _ _ _ _ _=>rfl
 have b_steps:Binds K _ ["kind", "many"] []:=F_steps.b2 fun _ _ _ _ _ _ _ _=>rfl
 have b_told:Binds K _ ["kind", "many"] []:=F_told.b2 fun _ _ _ _ _ _ _ _=>rfl
 have b_together:Binds K _ ["one", "other", "many"] []:=F_together.b3 fun _ _ _ _ _ _ _ _ _=>rfl
 have b_greatest_divisor:Binds K _ ["over", "under"] []:=F_greatest_divisor.b2 fun _ _ _ _ _ _ _ _=>rfl
 have b_share_of:Binds K _ ["over", "under"] []:=F_share_of.b2 fun _ _ _ _ _ _ _ _=>rfl
 have b_less:Binds K _ ["one", "other"] []:=F_less.b2 fun _ _ _ _ _ _ _ _=>rfl
 have b_times:Binds K _ ["one", "other"] []:=F_times.b2 fun _ _ _ _ _ _ _ _=>rfl
 have b_lean:Binds K _ ["one", "other", "many"] []:=F_lean.b3 fun _ _ _ _ _ _ _ _ _=>rfl
 have b__law_same:Binds K _ ["_law_found", "_law_due_here"] []:=F__law_same.b2 fun _ _ _ _ _ _ _ _=>rfl
 have e:fa=f_law:=by
  have q:=hfa.symm.trans m_law
  cases q
  rfl
 subst e
 obtain⟨oc,od,kV,doc,pm,an,cdv,ct,osl,rfl,lk,hcd⟩:=F_law.ex
 refine⟨PySem.W.fnOf "law" "law" (zbe zdI) (zaG zdI) (zaf zdI) .none kV doc pm an cdv ct,fun s v=>.of_eq rfl,fun base _ _=> ?_⟩
 have C_law_pot:Cal l.prog w K mg base 1 "_law_pot" ["_law_script"] (zg9 K):=⟨f__law_pot,e__law_pot,zew F__law_pot T,m__law_pot,F__law_pot.kp,b__law_pot⟩
 have C_law_take:Cal l.prog w K mg base 1 "_law_take" ["_law_pot_here", "_law_many"] (zeZ):=⟨f__law_take,e__law_take,zd3 F__law_take,m__law_take,F__law_take.kp,b__law_take⟩
 have C_law_kinds:Cal l.prog w K mg base 1 "_law_kinds" [] (zdu):=⟨f__law_kinds,e__law_kinds,zdx F__law_kinds,m__law_kinds,F__law_kinds.kp,b__law_kinds⟩
 have C_law_pairs:Cal l.prog w K mg base 1 "_law_pairs" [] (zhB):=⟨f__law_pairs,e__law_pairs,zdB F__law_pairs,m__law_pairs,F__law_pairs.kp,b__law_pairs⟩
 have C_law_lowest:Cal l.prog w K mg base 1 "_law_lowest" ["_law_over", "_law_under"] (zc4):=⟨f__law_lowest,e__law_lowest,zcY F__law_lowest T,m__law_lowest,F__law_lowest.kp,b__law_lowest⟩
 have C_law_due:Cal l.prog w K mg base 2 "_law_due" ["_law_at", "_law_many"] (zhG):=⟨f__law_due,e__law_due,zeE F__law_due T C_law_lowest,m__law_due,F__law_due.kp,b__law_due⟩
 have C_law_orders:Cal l.prog w K mg base 1 "_law_orders" ["_law_many"] (zdy):=⟨f__law_orders,e__law_orders,zcX F__law_orders T,m__law_orders,F__law_orders.kp,b__law_orders⟩
 have C_law_six:Cal l.prog w K mg base 1 "_law_six" ["_law_order"] (zhz):=⟨f__law_six,e__law_six,zeC F__law_six T,m__law_six,F__law_six.kp,b__law_six⟩
 have C_law_walked:Cal l.prog w K mg base 2 "_law_walked" ["_law_one", "_law_other", "_law_many"] (zdH):=⟨f__law_walked,e__law_walked,zcZ F__law_walked T C_law_orders C_law_six C_law_lowest,m__law_walked,F__law_walked.kp,b__law_walked⟩
 have Crounds_and_stays_on:Cal l.prog w K mg base 1 "rounds_and_stays_on" ["many", "rounds", "stays"] (spOn 0):=⟨f_rounds_and_stays_on,e_rounds_and_stays_on,zbz F_rounds_and_stays_on,m_rounds_and_stays_on,F_rounds_and_stays_on.kp,b_rounds_and_stays_on⟩
 have Crises_and_highs_on:Cal l.prog w K mg base 1 "rises_and_highs_on" ["many", "rises", "highs"] (spOn 1):=⟨f_rises_and_highs_on,e_rises_and_highs_on,zbF F_rises_and_highs_on,m_rises_and_highs_on,F_rises_and_highs_on.kp,b_rises_and_highs_on⟩
 have Chighs_and_crossed_on:Cal l.prog w K mg base 1 "highs_and_crossed_on" ["many", "highs", "crossed"] (spOn 2):=⟨f_highs_and_crossed_on,e_highs_and_crossed_on,zbu F_highs_and_crossed_on T,m_highs_and_crossed_on,F_highs_and_crossed_on.kp,b_highs_and_crossed_on⟩
 have Cpairs_told:Cal l.prog w K mg base 2 "pairs_told" ["one", "other", "many"] (zds):=⟨f_pairs_told,e_pairs_told,zdt F_pairs_told T (PySem.W.mg_of X G a_ONWARDS) GT_ONWARDS (on3 ⟨_,_,_,CalF.of Crounds_and_stays_on (PySem.W.mg_of X G n_rounds_and_stays_on) (by decide),.head _⟩ ⟨_,_,_,CalF.of Crises_and_highs_on (PySem.W.mg_of X G n_rises_and_highs_on) (by decide),.tail _ (.head _)⟩ ⟨_,_,_,CalF.of Chighs_and_crossed_on (PySem.W.mg_of X G n_highs_and_crossed_on) (by decide),.tail _ (.tail _ (.head _))⟩),m_pairs_told,F_pairs_told.kp,b_pairs_told⟩
 have Cnumber_at:Cal l.prog w K mg base 1 "number_at" ["row", "place"] (zcQ K):=⟨f_number_at,e_number_at,zd5 F_number_at T,m_number_at,F_number_at.kp,b_number_at⟩
 have Crounds_row:Cal l.prog w K mg base 2 "rounds_row" ["many", "ahead"] (zcq K 60 zbD):=⟨f_rounds_row,e_rounds_row,zdq F_rounds_row T Cnumber_at,m_rounds_row,F_rounds_row.kp,b_rounds_row⟩
 have Cstays_row:Cal l.prog w K mg base 2 "stays_row" ["many", "ahead"] (zcq K 60 zb2):=⟨f_stays_row,e_stays_row,zd8 F_stays_row T Cnumber_at,m_stays_row,F_stays_row.kp,b_stays_row⟩
 have Crises_row:Cal l.prog w K mg base 2 "rises_row" ["many", "ahead"] (zcq K 60 zb3):=⟨f_rises_row,e_rises_row,zd9 F_rises_row T Cnumber_at,m_rises_row,F_rises_row.kp,b_rises_row⟩
 have Ccrossed_row:Cal l.prog w K mg base 2 "crossed_row" ["many", "ahead"] (zcq K 24 zbn):=⟨f_crossed_row,e_crossed_row,zcW F_crossed_row T,m_crossed_row,F_crossed_row.kp,b_crossed_row⟩
 have Cnext_row:Cal l.prog w K mg base 3 "next_row" ["kind", "many", "ahead"] (zgk K):=⟨f_next_row,e_next_row,zey F_next_row (PySem.W.mg_of X G a_ROWS) GD_ROWS (CalF.of Crounds_row (PySem.W.mg_of X G n_rounds_row) (by decide)) (CalF.of Cstays_row (PySem.W.mg_of X G n_stays_row) (by decide)) (CalF.of Crises_row (PySem.W.mg_of X G n_rises_row) (by decide)) (CalF.of Ccrossed_row (PySem.W.mg_of X G n_crossed_row) (by decide)),m_next_row,F_next_row.kp,b_next_row⟩
 have Csteps:Cal l.prog w K mg base 4 "steps" ["kind", "many"] (zes K):=⟨f_steps,e_steps,zhw F_steps T (PySem.W.mg_of X G a_FIRST_ROW) h_FIRST_ROW Cnext_row,m_steps,F_steps.kp,b_steps⟩
 have Ctold:Cal l.prog w K mg base 5 "told" ["kind", "many"] (ze0 K):=⟨f_told,e_told,ziE F_told T Csteps,m_told,F_told.kp,b_told⟩
 have Ctogether:Cal l.prog w K mg base 6 "together" ["one", "other", "many"] (zhx):=⟨f_together,e_together,zeA F_together T Cpairs_told Ctold,m_together,F_together.kp,b_together⟩
 have Cgreatest_divisor:Cal l.prog w K mg base 1 "greatest_divisor" ["over", "under"] (ziy):=⟨f_greatest_divisor,e_greatest_divisor,zbS F_greatest_divisor,m_greatest_divisor,F_greatest_divisor.kp,b_greatest_divisor⟩
 have Cshare_of:Cal l.prog w K mg base 2 "share_of" ["over", "under"] (zfv):=⟨f_share_of,e_share_of,zev F_share_of Cgreatest_divisor,m_share_of,F_share_of.kp,b_share_of⟩
 have Cless:Cal l.prog w K mg base 3 "less" ["one", "other"] (spSh leZ):=⟨f_less,e_less,ziA F_less Cshare_of,m_less,F_less.kp,b_less⟩
 have Ctimes:Cal l.prog w K mg base 3 "times" ["one", "other"] (spSh tmZ):=⟨f_times,e_times,zhu F_times Cshare_of,m_times,F_times.kp,b_times⟩
 have Clean:Cal l.prog w K mg base 7 "lean" ["one", "other", "many"] (zfb):=⟨f_lean,e_lean,ziN F_lean T Ctogether Cshare_of Cless Ctimes,m_lean,F_lean.kp,b_lean⟩
 have C_law_same_1:Cal l.prog w K mg base 2 "_law_same" ["_law_found", "_law_due_here"] (zcP K 1):=⟨f__law_same,e__law_same,zco F__law_same T m__law_same b__law_same 1,m__law_same,F__law_same.kp,b__law_same⟩
 exact zjG F_law T C_law_pot C_law_take C_law_kinds C_law_pairs C_law_due C_law_walked Clean C_law_same_1
theorem walk {l:PySem.W.OpenLaw}{q:Program}{loose:List Str}{XP:(Str->Option Value)->Heap->Prop}{YP:World->Heap->Prop}{d:DefRec}{K:Params->PySem.W.Frag}(hn:l.most=some 63)(hdf:d.params.defaults=[])
  (hY:∀(w:World) (h:Heap),YP w h->(K w.params).In h)
  (F:∀(w:World) (mg:Str->Option Value) (fa:Addr) (h:Heap),(K w.params).In h->h.Ns mainGlobals mg->mg d.name=some (.ref fa)->
   ∃fd:FuncData,(∀(s:Shared) (u:Value),BindsTo s fd ⟨[u],[]⟩ [("_law_script",u)])/\∀base:Heap,(K w.params).In base->base.Ns mainGlobals mg->FnOk l.prog w (K w.params) mg base CX0 8 fa fd ["_law_script"] (zhI (K w.params))):
  PySem.W.WalkO q loose XP YP l.row.toRowW d [] (fun f vs=>PySem.call f vs):=
 L2.zid (n:=63) (k:=8) (x:= "_law_script") (CX:=fun _=>CX0) (sp:=fun w=>zhI (K w.params)) hn (by decide) hdf ⟨rfl,by decide,by decide,rfl⟩ hY F (fun _ _ a ns hl _ hS=>⟨a,ns,rfl,hS,hl,fun _=>rfl⟩) fun _ _ _ _ _ z=>z
end K21
namespace SH
open PySem PySem.W PySem.Calls PyProof.Rows
noncomputable def Sg (p:Program)(m₀:Nat)(ann:Option Value)(q:Pos)(c:Code)(w:World)(b:Nat){α:Type}(S:Shared)(x:Sem α)(a:α)(S':Shared):Prop:=
 ∀(K:α->Sem Fin) (H:Value->Sem Fin) (gd:Bool->Bool) (lv:List Value->List Value) (pos:Pos),∃n pos',n<=b/\∀N r,segRun treeTable p w m₀ ann 1 N S' ⟨K a,c,pos',[topFrame q]⟩=some r->
  segRun treeTable p w m₀ ann 1 (n+N) S ⟨x.wrap K H gd lv,c,pos,[topFrame q]⟩=some r
section
variable {p:Program}{w:World}{m₀:Nat}{ann:Option Value}{q:Pos}{c:Code}{α β:Type}{S S₁ S₂ S₃ S₄ S':Shared}{b b₁ b₂ b₃ b₄:Nat}
theorem Sg.mono {x:Sem α}{a:α}(h:Sg p m₀ ann q c w b S x a S')(hb:b<=b₁):Sg p m₀ ann q c w b₁ S x a S':=fun K H gd lv pos=>by
 obtain⟨n,p',hn,h⟩:=h K H gd lv pos
 exact⟨n,p',Nat.le_trans hn hb,h⟩
theorem Sg.pure {a:α}:Sg p m₀ ann q c w 0 S (Pure.pure a:Sem α) a S:=fun K H gd lv pos=>⟨0,pos,Nat.le_refl 0,fun N r h=>by rw[Nat.zero_add];exact h⟩
theorem Sg.bind {x:Sem α}{f:α->Sem β}{a:α}{y:β}(hx:Sg p m₀ ann q c w b₁ S x a S₁)(hf:Sg p m₀ ann q c w b₂ S₁ (f a) y S'):Sg p m₀ ann q c w (b₁+b₂) S (x >>= f) y S':=fun K H gd lv pos=>by
 rw[Sem.bind_eq_wrap',Sem.wrap_wrap]
 obtain⟨n,p1,n1,h1⟩:=hx (fun a=>(f a).wrap K H gd lv) (fun e=>(Sem.raise e).wrap K H gd lv) (fun g=>gd (id g)) (fun l=>lv (id l)) pos
 obtain⟨m,p2,n2,h2⟩:=hf K H gd lv p1
 exact⟨n+m,p2,Nat.add_le_add n1 n2,fun N r h=>by rw[Nat.add_assoc];exact h1 _ _ (h2 _ _ h)⟩
theorem Sg.keep {vs:List Value}{x:Sem α}{a:α}(hx:Sg p m₀ ann q c w b S x a S'):Sg p m₀ ann q c w b S (x.keep vs) a S':=fun K H gd lv pos=>by
 rw[Sem.keep_eq_wrap,Sem.wrap_wrap]
 exact hx (fun a=>(Sem.pure a).wrap K H gd lv) _ _ _ pos
theorem Sg.holding {vs:List Value}{x:Sem α}{a:α}(hx:Sg p m₀ ann q c w b S x a S'):Sg p m₀ ann q c w b S (PySem.holding vs x) a S':=by
 unfold PySem.holding
 split
 ·exact hx
 ·exact hx.keep
theorem Sg.go {x:Sem α}{a:α}(n:Nat)(f:Pos->Pos)(h:∀K H gd lv pos,segGo treeTable p w m₀ ann 1 n S ⟨x.wrap K H gd lv,c,pos,[topFrame q]⟩=some (S',⟨K a,c,f pos,[topFrame q]⟩)):Sg p m₀ ann q c w n S x a S':=
 fun K H gd lv pos=>⟨n,f pos,Nat.le_refl n,fun N r hr=>seg_go (h K H gd lv pos) hr⟩
theorem Sg.goR {S S':World->Shared}{x:Sem α}{a:World->α}(row:String)(n:Nat)(f:Pos->Pos)
  (h0:∀(w:World) (K:α->Sem Fin) (H:Value->Sem Fin) (gd:Bool->Bool) (lv:List Value->List Value) (pos:Pos),segGo treeTable p (w.withFollow row false) m₀ ann 1 n (S (w.withFollow row false)) ⟨x.wrap K H gd lv,c,pos,[topFrame q]⟩=some (S' (w.withFollow row false),⟨K (a (w.withFollow row false)),c,f pos,[topFrame q]⟩))
  (h1:∀(w:World) (K:α->Sem Fin) (H:Value->Sem Fin) (gd:Bool->Bool) (lv:List Value->List Value) (pos:Pos),segGo treeTable p (w.withFollow row true) m₀ ann 1 n (S (w.withFollow row true)) ⟨x.wrap K H gd lv,c,pos,[topFrame q]⟩=some (S' (w.withFollow row true),⟨K (a (w.withFollow row true)),c,f pos,[topFrame q]⟩)) (w:World):
  Sg p m₀ ann q c w n (S w) x (a w) (S' w):=
 byRow2 row (P:=fun w=>Sg p m₀ ann q c w n (S w) x (a w) (S' w)) (fun w=>Sg.go n f (h0 w)) (fun w=>Sg.go n f (h1 w)) w
theorem Sg.piece {st:Stmt}{env:Env}{pos:Pos}(h:Sg p m₀ ann q c w b S (exec st env) .next S'):∃n pos',n<=b+1/\segRun treeTable p w m₀ ann 1 n S (piecesOf [st] env c pos [topFrame q])=some (.next,S',c,pos'):=by
 obtain⟨n,p',hn,k⟩:=h (fun f=>match f with| .next=>(execs [] env).wrap doneF deadEnd id id|f=>doneF f) deadEnd id id pos
 refine⟨n+1,p',Nat.succ_le_succ hn, ?_⟩
 have:=k 1 (.next,S',c,p') rfl
 unfold piecesOf
 rw[execs_cons_wrap]
 exact this
theorem Sg.rule {tag:String}:Sg p m₀ ann q c w 1 S (PySem.rule tag) () S:=Sg.go 1 id fun K H gd lv pos=>rfl
theorem Sg.standAt {pos:Pos}:Sg p m₀ ann q c w 1 S (PySem.standAt pos) () S:=Sg.go 1 (fun _=>pos) fun K H gd lv ps=>rfl
theorem Sg.alloc {o:Obj}:Sg p m₀ ann q c w 1 S (PySem.alloc o) S.heap.objs.size {S with heap:=S.heap.push o}:=Sg.go 1 id fun K H gd lv ps=>rfl
theorem Sg.reduced {i:Int}:Sg p m₀ ann q c w 1 S (pyHashByItsType.reduced i) (reduceHash i) S:=by
 unfold pyHashByItsType.reduced reduceHash
 by_cases hr:(decide (-(2:Int)^63<=i)&&decide (i<2^63))=true
 ·rw [if_pos hr,if_pos hr]
  exact Sg.pure.mono (Nat.zero_le 1)
 ·rw [if_neg hr,if_neg hr]
  refine Sg.bind (b₁:=1) (b₂:=0) (a:=()) (S₁:=S) Sg.rule ?_
  exact Sg.pure
theorem Sg.pyHash {a:Addr}{i:Int}{t:Tok}(h1:Sg p m₀ ann q c w b₁ S (cRoomFor "hash" [.ref a]) () S)(h2:Sg p m₀ ann q c w b₂ S (specialOf (.ref a) "__hash__") (some (.builtin "tuple.__hash__")) S)
  (h3:∀x,Sg p m₀ ann q c w b₃ S (callSpecialIfBoundUnlessNone? (.ref a) "__hash__" x) (some (.int i t)) S'):Sg p m₀ ann q c w (b₁+(b₂+(b₂+(b₃+1)))) S (PySem.pyHash (.ref a)) (reduceHash i) S':=by
 unfold PySem.pyHash
 unfold pyHashByItsType
 refine Sg.bind h1 (Sg.bind h2 ?_)
 show Sg p m₀ ann q c w _ S (if (some (Value.builtin "tuple.__hash__")==some Value.none)=true then _ else _) _ _
 rw[if_neg (by simp)]
 refine Sg.bind h2 ?_
 show Sg p m₀ ann q c w _ S (callSpecialIfBoundUnlessNone? (.ref a) "__hash__" _ >>= _) _ _
 exact Sg.bind (h3 _) Sg.reduced
theorem Sg.forIn {γ:Type}{y:β}{f:γ->β->Sem (ForInStep β)}:∀{l:List γ},(∀x∈l,Sg p m₀ ann q c w b S (f x y) (.yield y) S)->Sg p m₀ ann q c w (l.length*b) S (ForIn.forIn l y f) y S
 |[],_=>by rw[List.forIn_nil];exact Sg.pure.mono (Nat.zero_le _)
 |x::l,h=>by
  rw[List.forIn_cons]
  exact (Sg.bind (h x (List.mem_cons_self ..)) (Sg.forIn fun z hz=>h z (List.mem_cons_of_mem _ hz))).mono (by rw[List.length_cons,Nat.add_mul,Nat.one_mul,Nat.add_comm];exact Nat.le_refl _)
theorem Sg.tellsNot {key:Value}{st:List Value}(hk:Sg p m₀ ann q c w b S (eqIsQuiet 8 key) true S)(hs:∀k∈st,Sg p m₀ ann q c w b S (eqIsQuiet 8 k) true S):Sg p m₀ ann q c w (b+st.length*b) S (tableMayTell key st) false S:=by
 unfold tableMayTell
 by_cases h:st.isEmpty=true
 ·rw[if_pos h];exact Sg.pure.mono (Nat.zero_le _)
 ·rw [if_neg h]
  refine Sg.bind hk ?_
  rw[if_neg (by simp)]
  refine (Sg.bind (b₁:=st.length*b) (b₂:=0) (Sg.forIn fun k hm=>(Sg.bind (b₁:=b) (b₂:=0) (hs k hm) ?_).mono (Nat.le_refl _)) Sg.pure)
  rw[if_neg (by simp)]
  exact Sg.pure
theorem Sg.dictFind {d a:Addr}{h:Int}{es:Array DictEntry}{ep:Nat}(hes:Sg p m₀ ann q c w b₁ S (dictEntries d none) es S)(hne:∀e∈es.toList,(e.key==Value.ref a)=false)(hk:Sg p m₀ ann q c w b₂ S (eqIsQuiet 8 (.ref a)) true S)
  (hs:∀e∈es.toList,Sg p m₀ ann q c w b₂ S (eqIsQuiet 8 e.key) true S) (he:Sg p m₀ ann q c w b₃ S (dictEpoch d none) ep S) (hq:∀e∈es.toList,Sg p m₀ ann q c w b₄ S (eqBool e.key (.ref a)) false S):
  Sg p m₀ ann q c w (b₁+((b₂+es.size*b₂)+es.size*(b₃+(b₄+(b₃+1))))) S (PySem.dictFind d (.ref a) h) none S:=by
 unfold PySem.dictFind
 refine Sg.holding (Sg.bind hes ?_)
 dsimp only
 have hlen:(placesWithHash es.size (fun i=>Option.map (fun x=>x.hash) es[i]?) h).length<=es.size:=by
  unfold placesWithHash
  exact Nat.le_trans (List.length_filter_le _ _) (by rw[List.length_range];exact Nat.le_refl _)
 generalize placesWithHash es.size (fun i=>Option.map (fun x=>x.hash) es[i]?) h=pl at hlen
 have hmem:∀i e,es[i]? =some e->e∈es.toList:=fun i e he=>by
  obtain⟨h1,h2⟩:=Array.getElem?_eq_some_iff.mp he
  rw[<-h2]
  exact Array.getElem_mem_toList h1
 have hst:∀k∈List.filterMap (fun i=>Option.map (fun x=>x.key) es[i]?) pl,∃e∈es.toList,e.key=k:=fun k hm=>by
  obtain⟨i,_,hi⟩:=List.mem_filterMap.mp hm
  obtain⟨e,h1,h2⟩:=Option.map_eq_some_iff.mp hi
  exact⟨e,hmem i e h1,h2⟩
 have hsl:(List.filterMap (fun i=>Option.map (fun x=>x.key) es[i]?) pl).length<=es.size:=Nat.le_trans (List.length_filterMap_le _ _) hlen
 generalize List.filterMap (fun i=>Option.map (fun x=>x.key) es[i]?) pl=st at hst hsl ⊢
 rw[if_neg (by simp[carriedByValue])]
 rw[if_neg (by
  rw[Array.any_eq_true']
  rintro⟨e,hm,z⟩
  rw[hne e (Array.mem_toList_iff.mpr hm)] at z
  simp at z)]
 rw[if_neg (by
  intro z
  rw[beq_iff_eq] at z
  obtain⟨e,h1,h2⟩:=hst (.ref a) (by rw[z];exact List.mem_singleton.mpr rfl)
  have:=hne e h1
  rw[h2] at this
  simp at this)]
 refine (Sg.bind (b₁:=b₂+st.length*b₂) (b₂:=pl.length*(b₃+(b₄+(b₃+1)))) (Sg.tellsNot hk fun k hm=> ?_) ?_).mono ?_
 ·obtain ⟨e,h1,h2⟩:=hst k hm
  rw[<-h2]
  exact hs e h1
 ·rw [if_neg (by simp)]
  refine (Sg.bind (b₂:=0) (Sg.forIn (b:=b₃+(b₄+(b₃+1))) (y:=((none:Option (Option Nat)),(none:Option Nat))) fun i _=> ?_) Sg.pure)
  cases hi:es[i]? with
  |none=>exact Sg.pure.mono (Nat.zero_le _)
  | some e=>
   have hm:=hmem i e hi
   dsimp only
   split
   ·refine Sg.bind he (Sg.bind (hq e hm) (Sg.bind he ?_))
    rw[if_neg (by simp),if_neg (by simp)]
    refine (Sg.bind (b₁:=1) (b₂:=0) Sg.rule ?_)
    rw[if_neg (by simp)]
    exact Sg.pure
   ·exact Sg.pure.mono (Nat.zero_le _)
 ·exact Nat.add_le_add (Nat.add_le_add_left (Nat.mul_le_mul_right _ hsl) _) (Nat.mul_le_mul_right _ hlen)
theorem Sg.dictSet {d:Addr}{key v:Value}{h:Int}(hh:Sg p m₀ ann q c w b₁ S (PySem.pyHash key) h S₁)(hf:Sg p m₀ ann q c w b₂ S₁ (PySem.dictFind d key h) none S₁)
  (hu:Sg p m₀ ann q c w b₃ S₁ (updateDictKeys d (·.push ⟨h,key,v⟩) (keyPart key)) () S'):Sg p m₀ ann q c w (b₁+(b₂+(1+b₃))) S (PySem.dictSet d key v) () S':=by
 unfold PySem.dictSet
 refine Sg.holding (Sg.bind hh ?_)
 unfold dictSetHashed
 refine Sg.holding (Sg.bind hf ?_)
 exact Sg.bind Sg.rule hu
theorem Sg.subDict3 {pairs:List (Sem Value×Sem Value)}{k1 v1 k2 v2 k3 v3:Value}(hl:pairs.length<=15)(he:Sg p m₀ ann q c w b₁ {S with heap:=S.heap.push {cls:=.type "dict",data:=.dict #[]}} (evalPairs pairs) [(k1,v1),(k2,v2),(k3,v3)] S₁)
  (h1:Sg p m₀ ann q c w b₂ S₁ (PySem.dictSet S.heap.objs.size k1 v1) () S₂) (h2:Sg p m₀ ann q c w b₃ S₂ (PySem.dictSet S.heap.objs.size k2 v2) () S₃) (h3:Sg p m₀ ann q c w b₄ S₃ (PySem.dictSet S.heap.objs.size k3 v3) () S₄):
  Sg p m₀ ann q c w (1+(b₁+(b₂+(b₃+b₄)))) S (subDict pairs) S.heap.objs.size S₄:=by
 unfold subDict
 refine Sg.bind Sg.alloc (Sg.bind (b₂:=0) (a:=()) (S₁:=S₄) (Sg.holding ?_) Sg.pure)
 rw[if_pos hl]
 refine Sg.bind he (Sg.holding ?_)
 simp only[List.forIn_cons,List.forIn_nil,bind_assoc,pure_bind]
 exact Sg.bind h1 (Sg.bind h2 (Sg.bind (b₂:=0) h3 Sg.pure))
theorem Sg.dict3 {env:Env}{ks:List (Option Expr)}{es:List Expr}{pos:Pos}{k1 v1 k2 v2 k3 v3:Value}(all:ks.all (·.isSome)=true)(three:ks.length=3)(same:es.length=3)
  (he:Sg p m₀ ann q c w b₁ {S with heap:=S.heap.push {cls:=.type "dict",data:=.dict #[]}} (evalPairs (pairTrees ks es env pos)) [(k1,v1),(k2,v2),(k3,v3)] S₁)
  (h1:Sg p m₀ ann q c w b₂ S₁ (PySem.dictSet S.heap.objs.size k1 v1) () S₂) (h2:Sg p m₀ ann q c w b₃ S₂ (PySem.dictSet S.heap.objs.size k2 v2) () S₃) (h3:Sg p m₀ ann q c w b₄ S₃ (PySem.dictSet S.heap.objs.size k3 v3) () S₄):
  Sg p m₀ ann q c w (1+(1+(b₁+(b₂+(b₃+b₄))))) S (eval (.Dict ks es pos) env) (.ref S.heap.objs.size) S₄:=by
 have len:(pairTrees ks es env pos).length=3:=(pairTrees_length ks es env pos all (three.trans same.symm)).trans three
 have some_:pairTrees ks es env pos≠[]:=fun z=>by rw[z] at len;cases len
 rw[arm_eval_Dict,zip_pairTrees ks es env pos all (three.trans same.symm),dictDisplay_pairs _ some_ (by (first|lia|omega))]
 exact Sg.bind Sg.standAt (Sg.bind (b₂:=0) (Sg.subDict3 (by (first|lia|omega)) he h1 h2 h3) Sg.pure)
theorem Sg.assign {env:Env}{x:Str}{pt pos:Pos}{e:Expr}{v:Value}(hs:swapsWith e (some (.Name x pt)) pos.line env=Pure.pure false)(hv:Sg p m₀ ann q c w b₁ S (eval e env) v S₁)
  (hb:Sg p m₀ ann q c w b₂ S₁ (bindName env x v) () S'):Sg p m₀ ann q c w (1+(b₁+(1+b₂))) S (exec (.Assign [.Name x pt] e pos) env) .next S':=by
 refine (Sg.bind (b₂:=0+(b₁+(0+(1+b₂+0)))) (x:=PySem.standAt pos) Sg.standAt (Sg.bind (a:=false) (S₁:=S) ?_ ?_)).mono (by (first|lia|omega))
 ·show Sg p m₀ ann q c w 0 S (swapsWith e (some (.Name x pt)) pos.line env) false S
  rw[hs]
  exact Sg.pure
 ·refine Sg.bind hv (Sg.bind (a:=none) (S₁:=S₁) Sg.pure (Sg.bind (b₂:=0) (x:=PySem.assign (.Name x pt) env v) (a:=()) (S₁:=S') ?_ Sg.pure))
  exact Sg.bind Sg.standAt hb
end
end SH
open PySem PySem.W PyProof.Rows
set_option maxHeartbeats 0
open_shared topA21 for (PySem.Challenge.pw_shuffletold_k21_leans) leaving 14
open PySem PySem.W PySem.Calls PyProof.Rows
namespace SH21
noncomputable section
noncomputable abbrev PP:=PySem.Challenge.pw_shuffletold_k21_leans
noncomputable abbrev q0:Pos:={line:=0,col:=0,endLine:=0,endCol:=0}
noncomputable abbrev cE:Code:=.body (behindTheImports PP) topA21.env_1
noncomputable def stO:Stmt:=((behindTheImports PP)[26]?).getD (.Pass default)
noncomputable def S0 (w:World)(os:OsState):Shared:=({tree:=topA21.tree_139 w.params,n:=143,life:={},gens:={toList:=[]},drawn:={},toks:=374,os:=os}:SharedT).abs
noncomputable def iT (P:Params)(x y:Str):Int:=PySem.Builtin.Tuple.tupleHashOf [PyData.keyHash P x,PyData.keyHash P y]
noncomputable def hT (P:Params)(x y:Str):Int:=reduceHash (iT P x y)
noncomputable def tupO (x y:Str)(t:Nat):Obj:={cls:=.type "tuple",data:=.seq #[.str x t,.str y (t+1)] 0}
noncomputable def dO (es:List DictEntry):Obj:={cls:=.type "dict",data:=.dict es.toArray es.length}
noncomputable def e1 (w:World):DictEntry:=⟨hT w.params "rounds" "stays",.ref 144,.ref 130⟩
noncomputable def e2 (w:World):DictEntry:=⟨hT w.params "rises" "highs",.ref 145,.ref 137⟩
noncomputable def e3 (w:World):DictEntry:=⟨hT w.params "highs" "crossed",.ref 146,.ref 142⟩
noncomputable def dOP (P:Params):Obj:=dO [⟨hT P "rounds" "stays",.ref 144,.ref 130⟩,⟨hT P "rises" "highs",.ref 145,.ref 137⟩,⟨hT P "highs" "crossed",.ref 146,.ref 142⟩]
noncomputable abbrev dAd:Addr:=143
noncomputable def Sd (w:World)(os:OsState)(es:List DictEntry)(t:Nat):Shared:={(S0 w os) with heap:=((((S0 w os).heap.push (dO es)).push (tupO "rounds" "stays" 374)).push (tupO "rises" "highs" 376)).push (tupO "highs" "crossed" 378),toks:=t}
noncomputable abbrev G (w:World)(b:Nat){α:Type}(S:Shared)(x:Sem α)(a:α)(S':Shared):Prop:=SH.Sg PP 11 (some (.ref 6)) q0 cE w b S x a S'
theorem quiet (w:World)(os:OsState)(es:List DictEntry)(t:Nat)(a:Addr)(ha:a=144∨a=145∨a=146):G w 3 (Sd w os es t) (eqIsQuiet 8 (.ref a)) true (Sd w os es t):=by
 rcases ha with rfl|rfl|rfl<;>exact SH.Sg.go 3 id fun K H gd lv pos=>by kernel_rfl
theorem ziO (w:World)(os:OsState)(es:List DictEntry)(t:Nat):G w 1 (Sd w os es t) (dictEpoch 143 none) es.length (Sd w os es t):=SH.Sg.go 1 id fun K H gd lv pos=>by kernel_rfl
theorem zeG (w:World)(os:OsState)(es:List DictEntry)(t:Nat):G w 1 (Sd w os es t) (dictEntries 143 none) es.toArray (Sd w os es t):=SH.Sg.go 1 id fun K H gd lv pos=>by kernel_rfl
theorem eqf (w:World)(os:OsState)(es:List DictEntry)(t:Nat)(a b:Addr)(ha:a=144/\b=145∨a=144/\b=146∨a=145/\b=146):G w 16 (Sd w os es t) (eqBool (.ref a) (.ref b)) false (Sd w os es t):=by
 rcases ha with⟨rfl,rfl⟩|⟨rfl,rfl⟩|⟨rfl,rfl⟩<;>exact SH.Sg.goR (S:=fun w=>Sd w os es t) (S':=fun w=>Sd w os es t) (a:=fun _=>false) "special-get-raises" 16 id (fun w K H gd lv pos=>by kernel_rfl) (fun w K H gd lv pos=>by kernel_rfl) w
theorem room (w:World)(os:OsState)(es:List DictEntry)(t:Nat)(a:Addr)(ha:a=144∨a=145∨a=146):G w 1 (Sd w os es t) (cRoomFor "hash" [.ref a]) () (Sd w os es t):=by
 rcases ha with rfl|rfl|rfl<;>exact SH.Sg.go 1 id fun K H gd lv pos=>by kernel_rfl
theorem spec (w:World)(os:OsState)(es:List DictEntry)(t:Nat)(a:Addr)(ha:a=144∨a=145∨a=146):G w 1 (Sd w os es t) (specialOf (.ref a) "__hash__") (some (.builtin "tuple.__hash__")) (Sd w os es t):=by
 rcases ha with rfl|rfl|rfl<;>exact SH.Sg.go 1 id fun K H gd lv pos=>by kernel_rfl
theorem zkc (w:World)(os:OsState)(es:List DictEntry)(t:Nat)(x):G w 22 (Sd w os es t) (callSpecialIfBoundUnlessNone? (.ref 144) "__hash__" x) (some (.int (iT w.params "rounds" "stays") (t+2))) (Sd w os es (t+3)):=
 SH.Sg.goR (S:=fun w=>Sd w os es t) (S':=fun w=>Sd w os es (t+3)) (a:=fun w=>(some (Value.int (iT w.params "rounds" "stays") (t+2)):Option Value)) "special-get-raises" 22 id (fun w K H gd lv pos=>by kernel_rfl) (fun w K H gd lv pos=>by kernel_rfl) w
theorem zkd (w:World)(os:OsState)(es:List DictEntry)(t:Nat)(x):G w 22 (Sd w os es t) (callSpecialIfBoundUnlessNone? (.ref 145) "__hash__" x) (some (.int (iT w.params "rises" "highs") (t+2))) (Sd w os es (t+3)):=
 SH.Sg.goR (S:=fun w=>Sd w os es t) (S':=fun w=>Sd w os es (t+3)) (a:=fun w=>(some (Value.int (iT w.params "rises" "highs") (t+2)):Option Value)) "special-get-raises" 22 id (fun w K H gd lv pos=>by kernel_rfl) (fun w K H gd lv pos=>by kernel_rfl) w
theorem zke (w:World)(os:OsState)(es:List DictEntry)(t:Nat)(x):G w 22 (Sd w os es t) (callSpecialIfBoundUnlessNone? (.ref 146) "__hash__" x) (some (.int (iT w.params "highs" "crossed") (t+2))) (Sd w os es (t+3)):=
 SH.Sg.goR (S:=fun w=>Sd w os es t) (S':=fun w=>Sd w os es (t+3)) (a:=fun w=>(some (Value.int (iT w.params "highs" "crossed") (t+2)):Option Value)) "special-get-raises" 22 id (fun w K H gd lv pos=>by kernel_rfl) (fun w K H gd lv pos=>by kernel_rfl) w
end
end SH21
open PySem PySem.W PySem.Calls PyProof.Rows
namespace SH21
noncomputable section
theorem upd1 (w:World)(os:OsState)(t:Nat):G w 3 (Sd w os [] t) (updateDictKeys 143 (·.push ⟨hT w.params "rounds" "stays",.ref 144,.ref 130⟩) (keyPart (.ref 144))) () (Sd w os [e1 w] t):=SH.Sg.go 3 id fun K H gd lv pos=>by kernel_rfl
theorem upd2 (w:World)(os:OsState)(t:Nat):G w 3 (Sd w os [e1 w] t) (updateDictKeys 143 (·.push ⟨hT w.params "rises" "highs",.ref 145,.ref 137⟩) (keyPart (.ref 145))) () (Sd w os [e1 w,e2 w] t):=SH.Sg.go 3 id fun K H gd lv pos=>by kernel_rfl
theorem upd3 (w:World)(os:OsState)(t:Nat):G w 3 (Sd w os [e1 w,e2 w] t) (updateDictKeys 143 (·.push ⟨hT w.params "highs" "crossed",.ref 146,.ref 142⟩) (keyPart (.ref 146))) () (Sd w os [e1 w,e2 w,e3 w] t):=SH.Sg.go 3 id fun K H gd lv pos=>by kernel_rfl
noncomputable def zgM:Stmt->List (Option Expr)
 | .Assign _ (.Dict ks _ _) _=>ks
 |_=>[]
noncomputable def zhL:Stmt->List Expr
 | .Assign _ (.Dict _ vs _) _=>vs
 |_=>[]
noncomputable def dPos:Stmt->Pos
 | .Assign _ (.Dict _ _ p) _=>p
 |_=>default
noncomputable def tPos:Stmt->Pos
 | .Assign [.Name _ p] _ _=>p
 |_=>default
noncomputable def sPos:Stmt->Pos
 | .Assign _ _ p=>p
 |_=>default
theorem zjH:stO=.Assign [.Name "ONWARDS" (tPos stO)] (.Dict (zgM stO) (zhL stO) (dPos stO)) (sPos stO):=by kernel_rfl
theorem zkf (w:World)(os:OsState):G w 21 {S0 w os with heap:=(S0 w os).heap.push {cls:=.type "dict",data:=.dict #[]}} (evalPairs (pairTrees (zgM stO) (zhL stO) topA21.env_1 (dPos stO))) [(.ref 144,.ref 130),(.ref 145,.ref 137),(.ref 146,.ref 142)] (Sd w os [] 380):=
 SH.Sg.go 21 (fun _=>dPos stO) fun K H gd lv pos=>by kernel_rfl
noncomputable def Sf (w:World)(os:OsState):Shared:={Sd w os [e1 w,e2 w,e3 w] 390 with heap:=(Sd w os [e1 w,e2 w,e3 w] 390).heap.update mainNs (Obj.mapDictKeys (·.push ⟨PyData.keyHash w.params "ONWARDS",.str "ONWARDS" 389,.ref 143⟩))}
theorem zkg (w:World)(os:OsState):G w 6 (Sd w os [e1 w,e2 w,e3 w] 389) (bindName topA21.env_1 "ONWARDS" (.ref 143)) () (Sf w os):=SH.Sg.go 6 id fun K H gd lv pos=>by kernel_rfl
end
end SH21
open PySem PySem.W PySem.Calls PyProof.Rows
namespace SH21
noncomputable section
theorem set1 (w:World)(os:OsState):G w 34 (Sd w os [] 380) (dictSet 143 (.ref 144) (.ref 130)) () (Sd w os [e1 w] 383):=
 (SH.Sg.dictSet (SH.Sg.pyHash (room w os _ _ 144 (.inl rfl)) (spec w os _ _ 144 (.inl rfl)) fun x=>zkc w os [] 380 x)
  (SH.Sg.dictFind (b₄:=16) (zeG w os [] 383) (fun e he=>by simp at he) (quiet w os _ _ 144 (.inl rfl)) (fun e he=>by simp at he) (ziO w os _ _) fun e he=>by simp at he) (upd1 w os 383)).mono (by simp)
theorem set2 (w:World)(os:OsState):G w 60 (Sd w os [e1 w] 383) (dictSet 143 (.ref 145) (.ref 137)) () (Sd w os [e1 w,e2 w] 386):=
 (SH.Sg.dictSet (SH.Sg.pyHash (room w os _ _ 145 (.inr (.inl rfl))) (spec w os _ _ 145 (.inr (.inl rfl))) fun x=>zkd w os [e1 w] 383 x)
  (SH.Sg.dictFind (b₄:=16) (zeG w os [e1 w] 386) (fun e he=>by
    obtain rfl:e=e1 w:=by simpa using he
    rfl) (quiet w os _ _ 145 (.inr (.inl rfl))) (fun e he=>by
    obtain rfl:e=e1 w:=by simpa using he
    exact quiet w os _ _ 144 (.inl rfl)) (ziO w os _ _)
   fun e he=>by
    obtain rfl:e=e1 w:=by simpa using he
    exact eqf w os _ _ 144 145 (.inl ⟨rfl,rfl⟩)) (upd2 w os 386)).mono (by simp)
theorem set3 (w:World)(os:OsState):G w 90 (Sd w os [e1 w,e2 w] 386) (dictSet 143 (.ref 146) (.ref 142)) () (Sd w os [e1 w,e2 w,e3 w] 389):=
 (SH.Sg.dictSet (SH.Sg.pyHash (room w os _ _ 146 (.inr (.inr rfl))) (spec w os _ _ 146 (.inr (.inr rfl))) fun x=>zke w os [e1 w,e2 w] 386 x)
  (SH.Sg.dictFind (b₄:=16) (zeG w os [e1 w,e2 w] 389) (fun e he=>by
    have:e=e1 w∨e=e2 w:=by simpa using he
    rcases this with rfl|rfl<;>rfl) (quiet w os _ _ 146 (.inr (.inr rfl))) (fun e he=>by
    have:e=e1 w∨e=e2 w:=by simpa using he
    rcases this with rfl|rfl
    ·exact quiet w os _ _ 144 (.inl rfl)
    ·exact quiet w os _ _ 145 (.inr (.inl rfl))) (ziO w os _ _)
   fun e he=>by
    have:e=e1 w∨e=e2 w:=by simpa using he
    rcases this with rfl|rfl
    ·exact eqf w os _ _ 144 146 (.inr (.inl ⟨rfl,rfl⟩))
    ·exact eqf w os _ _ 145 146 (.inr (.inr ⟨rfl,rfl⟩))) (upd3 w os 389)).mono (by simp)
theorem zjI (w:World)(os:OsState):(S0 w os).heap.objs.size=143:=by kernel_rfl
theorem zkh:(zgM stO).all (·.isSome)=true/\(zgM stO).length=3/\(zhL stO).length=3:=⟨by kernel_rfl,by kernel_rfl,by kernel_rfl⟩
theorem zki:swapsWith (.Dict (zgM stO) (zhL stO) (dPos stO)) (some (.Name "ONWARDS" (tPos stO))) (sPos stO).line topA21.env_1=Pure.pure false:=rfl
theorem onw (w:World)(os:OsState):G w 250 (S0 w os) (exec stO topA21.env_1) .next (Sf w os):=by
 obtain⟨k1,k2,k3⟩:=zkh
 have hs:=zjI w os
 have D:=SH.Sg.dict3 (p:=PP) (m₀:=11) (ann:=(some (.ref 6))) (q:=q0) (c:=cE) (w:=w) (S:=S0 w os) (env:=topA21.env_1) (pos:=dPos stO) k1 k2 k3 (zkf w os) (by rw[hs];exact set1 w os) (by rw[hs];exact set2 w os) (by rw[hs];exact set3 w os)
 rw[hs] at D
 rw[zjH]
 exact (SH.Sg.assign zki D (zkg w os)).mono (by (first|lia|omega))
noncomputable def rest:List Stmt:=(behindTheImports PP).drop 27
noncomputable def Sfin (w:World)(os:OsState):Shared:=(topRun treeTable PP w 11 (some (.ref 6)) 1334 (Sf w os) (restOf rest topA21.env_1 cE default [topFrame q0])).getD (Sf w os)
set_option maxHeartbeats 0 in
theorem zhM (w:World)(os:OsState)(pos:Pos):topRun treeTable PP w 11 (some (.ref 6)) 1334 (Sf w os) (restOf rest topA21.env_1 cE pos [topFrame q0])=some (Sfin w os):=by kernel_rfl
end
end SH21
namespace SH
open PySem PySem.W PySem.Calls PyProof.Rows
theorem left_of {p q:Program}{loose:List Str}{Xt:Shared->Bool}{α:Type}{Yf:Shared->α}{Ya:World->α}{N:Nat}
  (way:∀w:World,∃s₀ s,fencedOpening treeTable p w N=some s₀/\(s₀.heap.isNs mainGlobals&&s₀.gens.size==0)=true/\(∃M,M<=N/\topRun treeTable p w s₀.heap.objs.size (s₀.heap.nsMap mainGlobals "__annotations__") M s₀ (topStub p)=some s)/\
   (staticsOk (importedModules p.main.body) s₀.heap s.heap&&namesBound p s.heap&&gensDone s&&laidKept s₀.heap s.heap)=true/\openSeen q loose (importedModules p.main.body) Xt true s=openGood q loose/\Yf s=Ya w):LeftO p q loose Xt Yf Ya N true:=fun w=>by
 obtain⟨s₀,s,e0,z,⟨M,le,run⟩,good,seen,y⟩:=way w
 obtain⟨d,rfl⟩:∃d,N=M+d:=⟨N-M,by (first|lia|omega)⟩
 have t:topFrom treeTable p w (M+d) s₀=some s:=by
  simp only[topFrom,z,topRun_mono d _ _ _ _ run,Option.bind_some,good]
 simp only[openEnds,e0,Option.bind_some,t,Option.map_some,seen,y]
noncomputable def hookD (H:Hook)(d:Addr)(o:World->Obj):Hook where
 α:=H.α×Option Obj
 obs:=fun s=>(H.obs s,s.heap.get? d)
 val:=fun w=>(H.val w,some (o w))
 says:=fun w h=>H.says w h/\h.get? d=some (o w)
 of:=fun w s e=>⟨H.of w s (congrArg Prod.fst e),congrArg Prod.snd e⟩
 keeps:=fun w h h' x k=>⟨H.keeps w h h' x.1 k,k _ _ x.2⟩
theorem look_cons {d a:Addr}{o:Obj}{K:Frag}(h:(a==d)=false):List.lookup a ((d,o)::K:Frag)=List.lookup a K:=by
 rw[List.lookup_cons,h]
theorem nsIn_cons {d a:Addr}{o:Obj}{K:Frag}{x:Str}(h:(a==d)=false):nsIn ((d,o)::K:Frag) a x=nsIn K a x:=by
 unfold nsIn
 rw[look_cons h]
theorem in_cons {d:Addr}{o:Obj}{K:Frag}{h:Heap}(x:K.In h)(e:h.get? d=some o):Frag.In ((d,o)::K:Frag) h:=fun a u q=>by
 rw[List.lookup_cons] at q
 cases c:a==d with
 |true=>
  rw[c] at q
  cases q
  rw[beq_iff_eq.mp c]
  exact e
 |false=>
  rw[c] at q
  exact x _ _ q
theorem keys3 {α:Type}{p:α->Prop}{a b c:α}(x:p a)(y:p b)(z:p c):∀u∈[a,b,c],p u:=fun u h=>by
 rcases List.mem_cons.mp h with rfl|h
 ·exact x
 ·rcases List.mem_cons.mp h with rfl|h
  ·exact y
  ·rw [List.mem_singleton.mp h]
   exact z
end SH
open PySem PySem.W PySem.Calls PyProof.Rows
namespace SH21
noncomputable section
noncomputable def Sb (w:World)(os:OsState):Shared:=⟨boot_heap w.params,Array.mk [],boot_drawn,boot_toks,os⟩
noncomputable def Sa (w:World)(os:OsState):Shared:=((topGo treeTable PP w 11 (some (.ref 6)) 12 (Sb w os) (topStub PP)).map (·.1)).getD (Sb w os)
theorem ziP (w:World)(os:OsState):topGo treeTable PP w 11 (some (.ref 6)) 12 (Sb w os) (topStub PP)=some (Sa w os,⟨denote treeTable cE,cE,default,[topFrame q0]⟩):=by kernel_rfl
theorem zgN (w:World)(os:OsState):segRun treeTable PP w 11 (some (.ref 6)) 1 1 (Sa w os) (blockOf (behindTheImports PP) topA21.env_1 cE default [topFrame q0])=
  some (.next,({tree:=topA21.tree_4 w.params,n:=15,life:={},gens:={toList:=[]},drawn:={},toks:=187,os:=os}:SharedT).abs,cE,default):=by kernel_rfl
theorem ziQ:behindTheImports PP=topA21.sts_4++(topA21.sts_67++([stO]++rest)):=by kernel_rfl
theorem zgO (w:World)(os:OsState):∃M,M<=2868/\topRun treeTable PP w 11 (some (.ref 6)) M (Sb w os) (topStub PP)=some (Sfin w os):=by
 obtain⟨n,p',hn,hp⟩:=SH.Sg.piece (pos:={line:=82,col:=0,endLine:=84,endCol:=45}) (onw w os)
 have a:=piece_app hp (zhM w os p')
 have b:=topA21.chain PP (behindTheImports PP) w os ([stO]++rest) _ _ a
 rw[<-ziQ] at b
 have c:=piece_block (zgN w os) b
 have d:=go_top (ziP w os) c
 exact⟨_,by simp only[Nat.add_eq];(first|lia|omega),d⟩
noncomputable def qV:Program:=view PP [1,2,3,4,6,7,8,9,10,11,12,13,15,16,17,18,19,21,22,23,24,25,27,29,30,31,32,33,34,35,36,37,38,39]
noncomputable abbrev loose:List Str:=["ROWS", "ONWARDS"]
set_option maxHeartbeats 0 in
theorem zkj:∀w:World,(fencedOpening treeTable PP w 2868).map (fun s=>(s.heap,s.gens,s.drawn,s.toks))=some (boot_heap w.params,Array.mk [],boot_drawn,boot_toks):=
 boot_open (by kernel_rfl) (by decide) (fun s=>by kernel_rfl)
theorem zkk (w:World):((boot_heap w.params).isNs mainGlobals&&(Array.mk []:Array GenState).size==0,(boot_heap w.params).objs.size,(boot_heap w.params).nsMap mainGlobals "__annotations__")=(true,11,some (.ref 6)):=by kernel_rfl
theorem good (w:World)(os:OsState):(staticsOk (importedModules PP.main.body) (boot_heap w.params) (Sfin w os).heap&&namesBound PP (Sfin w os).heap&&gensDone (Sfin w os)&&laidKept (boot_heap w.params) (Sfin w os).heap)=true:=by kernel_rfl
theorem seen (w:World)(os:OsState):openSeen qV loose (importedModules PP.main.body) (fun s=>xlAt qV [] s&&recOk [] s) true (Sfin w os)=openGood qV loose:=by kernel_rfl
theorem left {α:Type}{Yf:Shared->α}{Ya:World->α}(hY:∀w os,Yf (Sfin w os)=Ya w):LeftO PP qV loose (fun s=>xlAt qV [] s&&recOk [] s) Yf Ya 2868:=
 SH.left_of fun w=>by
  obtain⟨s₀,e0,e1⟩:=Option.map_eq_some_iff.mp (zkj w)
  have e:s₀=Sb w s₀.os:=by
   cases s₀
   cases e1
   rfl
  have z:=zkk w
  obtain⟨M,le,r⟩:=zgO w s₀.os
  rw[e] at e0
  refine⟨Sb w s₀.os,Sfin w s₀.os,e0,congrArg (·.1) z,⟨M,by (first|lia|omega), ?_⟩,good w s₀.os,seen w s₀.os,hY w s₀.os⟩
  rw[show (Sb w s₀.os).heap.objs.size=11 from congrArg (·.2.1) z,show (Sb w s₀.os).heap.nsMap mainGlobals "__annotations__" =some (.ref 6) from congrArg (·.2.2) z]
  exact r
end
end SH21
end
namespace PySem.W.Fast
theorem tw7905553831062679839:True:=trivial
end PySem.W.Fast
open PySem PySem.W PyProof.Rows
local macro_rules
 |`(tactic|o_head $H)=>`(tactic|refine holds_open (q:=SH21.qV) (loose:=SH21.loose) (Xt:=fun s=>xlAt SH21.qV [] s&&recOk [] s) (XP:=XL SH21.qV []) (Yf:=Hook.obs (SH.hookD $H SH21.dAd fun w=>SH21.dOP w.params)) (Ya:=Hook.val (SH.hookD $H SH21.dAd fun w=>SH21.dOP w.params)) (YP:=Hook.says (SH.hookD $H SH21.dAd fun w=>SH21.dOP w.params)) (N:=2868) (SH21.left fun w os=>by kernel_rfl) (Hook.of _) (Hook.keeps _) (fun s e=>xl_of s (Bool.and_eq_true_iff.mp e).1) XL.keeps (by rfl) (by rfl) (by rfl) (fun s e=>recFacts_of (Bool.and_eq_true_iff.mp e).2) (by rfl) (by first|assumption|decide+kernel) (by decide+kernel) ⟨rfl,rfl,rfl,rfl,rfl,by decide+kernel⟩ ?hw ?hc)
set_option maxHeartbeats 0 in
theorem PySem.Challenge.cw_shuffletold_k21_leans_holds : PySem.Challenge.rw_shuffletold_k21_leans.Holds := by
 w_on;o_law;k_head;(case hw=>w_witness2)
 k_fill
 refine K21.walk (l:=PySem.Challenge.rw_shuffletold_k21_leans) (K:=fun P=>(SH21.dAd,SH21.dOP P)::_) rfl rfl (fun w h Y=>SH.in_cons (PySem.W.kIn_of Y.1) Y.2) ?F
 case F=>
  intro w mg fa h KX G hmg
  refine' K21.all_mk KX G hmg ⟨?_, ?_, ?_, ?_, ?_, ?_, ?_, ?_, ?_, ?_, ?_, ?_, ?_, ?_, ?_⟩ ?dA0 (L2.GDict.of ?dL0 ?dE0 ?dN0) ?eA0 ?eG0 ?tA0 (L2.sqT_ofK ?tL0 ?tZ0 ?tR0) ?nF0 ?nF1 ?nF2 ?nF3 ?nF4 ?nF5 ?nF6 (L2.Def.of ?a0 ?l0 ?c0 ?k0) (L2.Def.of ?a1 ?l1 ?c1 ?k1) (L2.Def.of ?a2 ?l2 ?c2 ?k2) (L2.Def.of ?a3 ?l3 ?c3 ?k3) (L2.Def.of ?a4 ?l4 ?c4 ?k4) (L2.Def.of ?a5 ?l5 ?c5 ?k5) (L2.Def.of ?a6 ?l6 ?c6 ?k6) (L2.Def.of ?a7 ?l7 ?c7 ?k7) (L2.Def.of ?a8 ?l8 ?c8 ?k8) (L2.Def.of ?a9 ?l9 ?c9 ?k9) (L2.Def.of ?a10 ?l10 ?c10 ?k10) (L2.Def.of ?a11 ?l11 ?c11 ?k11) (L2.Def.of ?a12 ?l12 ?c12 ?k12) (L2.Def.of ?a13 ?l13 ?c13 ?k13) (L2.Def.of ?a14 ?l14 ?c14 ?k14) (L2.Def.of ?a15 ?l15 ?c15 ?k15) (L2.Def.of ?a16 ?l16 ?c16 ?k16) (L2.Def.of ?a17 ?l17 ?c17 ?k17) (L2.Def.of ?a18 ?l18 ?c18 ?k18) (L2.Def.of ?a19 ?l19 ?c19 ?k19) (L2.Def.of ?a20 ?l20 ?c20 ?k20) (L2.Def.of ?a21 ?l21 ?c21 ?k21) (L2.Def.of ?a22 ?l22 ?c22 ?k22) (L2.Def.of ?a23 ?l23 ?c23 ?k23) (L2.Def.of ?a24 ?l24 ?c24 ?k24) (L2.Def.of ?a25 ?l25 ?c25 ?k25) (L2.Def.of ?a26 ?l26 ?c26 ?k26) (L2.Def.of ?a27 ?l27 ?c27 ?k27) (L2.Def.of ?a28 ?l28 ?c28 ?k28)
  (case dA0=>refine (SH.nsIn_cons rfl).trans ?_;k_is);(case dL0=>refine (SH.look_cons rfl).trans ?_;k_is);(case dE0=>exact (.cons (.cons (.cons (.cons (.cons .nil))))));(case dN0=>decide+kernel)
  (case eA0=>refine (SH.nsIn_cons rfl).trans ?_;k_is)
  (case tA0=>refine (SH.nsIn_cons rfl).trans ?_;k_is);(case tL0=>refine (SH.look_cons rfl).trans ?_;k_is);(case tZ0=>exact (by decide));(case tR0=>exact (.cons ⟨_,rfl⟩ .nil))
  (case nF0=>refine (SH.nsIn_cons rfl).trans ?_;k_is)
  (case nF1=>refine (SH.nsIn_cons rfl).trans ?_;k_is)
  (case nF2=>refine (SH.nsIn_cons rfl).trans ?_;k_is)
  (case nF3=>refine (SH.nsIn_cons rfl).trans ?_;k_is)
  (case nF4=>refine (SH.nsIn_cons rfl).trans ?_;k_is)
  (case nF5=>refine (SH.nsIn_cons rfl).trans ?_;k_is)
  (case nF6=>refine (SH.nsIn_cons rfl).trans ?_;k_is)
  (case eG0=>exact⟨by decide,⟨_,rfl⟩,SH.keys3 ⟨_,_,_,(SH.look_cons rfl).trans (by k_is),rfl,rfl,fun _=>.cons rfl (.cons rfl .nil)⟩ ⟨_,_,_,(SH.look_cons rfl).trans (by k_is),rfl,rfl,fun _=>.cons rfl (.cons rfl .nil)⟩ ⟨_,_,_,(SH.look_cons rfl).trans (by k_is),rfl,rfl,fun _=>.cons rfl (.cons rfl .nil)⟩,by decide⟩)
  (case a0=>refine (SH.nsIn_cons rfl).trans ?_;k_is);(case l0=>refine (SH.look_cons rfl).trans ?_;k_is);(case c0=>kernel_rfl);(case k0=>kernel_rfl)
  (case a1=>refine (SH.nsIn_cons rfl).trans ?_;k_is);(case l1=>refine (SH.look_cons rfl).trans ?_;k_is);(case c1=>kernel_rfl);(case k1=>kernel_rfl)
  (case a2=>refine (SH.nsIn_cons rfl).trans ?_;k_is);(case l2=>refine (SH.look_cons rfl).trans ?_;k_is);(case c2=>kernel_rfl);(case k2=>kernel_rfl)
  (case a3=>refine (SH.nsIn_cons rfl).trans ?_;k_is);(case l3=>refine (SH.look_cons rfl).trans ?_;k_is);(case c3=>kernel_rfl);(case k3=>kernel_rfl)
  (case a4=>refine (SH.nsIn_cons rfl).trans ?_;k_is);(case l4=>refine (SH.look_cons rfl).trans ?_;k_is);(case c4=>kernel_rfl);(case k4=>kernel_rfl)
  (case a5=>refine (SH.nsIn_cons rfl).trans ?_;k_is);(case l5=>refine (SH.look_cons rfl).trans ?_;k_is);(case c5=>kernel_rfl);(case k5=>kernel_rfl)
  (case a6=>refine (SH.nsIn_cons rfl).trans ?_;k_is);(case l6=>refine (SH.look_cons rfl).trans ?_;k_is);(case c6=>kernel_rfl);(case k6=>kernel_rfl)
  (case a7=>refine (SH.nsIn_cons rfl).trans ?_;k_is);(case l7=>refine (SH.look_cons rfl).trans ?_;k_is);(case c7=>kernel_rfl);(case k7=>kernel_rfl)
  (case a8=>refine (SH.nsIn_cons rfl).trans ?_;k_is);(case l8=>refine (SH.look_cons rfl).trans ?_;k_is);(case c8=>kernel_rfl);(case k8=>kernel_rfl)
  (case a9=>refine (SH.nsIn_cons rfl).trans ?_;k_is);(case l9=>refine (SH.look_cons rfl).trans ?_;k_is);(case c9=>kernel_rfl);(case k9=>kernel_rfl)
  (case a10=>refine (SH.nsIn_cons rfl).trans ?_;k_is);(case l10=>refine (SH.look_cons rfl).trans ?_;k_is);(case c10=>kernel_rfl);(case k10=>kernel_rfl)
  (case a11=>refine (SH.nsIn_cons rfl).trans ?_;k_is);(case l11=>refine (SH.look_cons rfl).trans ?_;k_is);(case c11=>kernel_rfl);(case k11=>kernel_rfl)
  (case a12=>refine (SH.nsIn_cons rfl).trans ?_;k_is);(case l12=>refine (SH.look_cons rfl).trans ?_;k_is);(case c12=>kernel_rfl);(case k12=>kernel_rfl)
  (case a13=>refine (SH.nsIn_cons rfl).trans ?_;k_is);(case l13=>refine (SH.look_cons rfl).trans ?_;k_is);(case c13=>kernel_rfl);(case k13=>kernel_rfl)
  (case a14=>refine (SH.nsIn_cons rfl).trans ?_;k_is);(case l14=>refine (SH.look_cons rfl).trans ?_;k_is);(case c14=>kernel_rfl);(case k14=>kernel_rfl)
  (case a15=>refine (SH.nsIn_cons rfl).trans ?_;k_is);(case l15=>refine (SH.look_cons rfl).trans ?_;k_is);(case c15=>kernel_rfl);(case k15=>kernel_rfl)
  (case a16=>refine (SH.nsIn_cons rfl).trans ?_;k_is);(case l16=>refine (SH.look_cons rfl).trans ?_;k_is);(case c16=>kernel_rfl);(case k16=>kernel_rfl)
  (case a17=>refine (SH.nsIn_cons rfl).trans ?_;k_is);(case l17=>refine (SH.look_cons rfl).trans ?_;k_is);(case c17=>kernel_rfl);(case k17=>kernel_rfl)
  (case a18=>refine (SH.nsIn_cons rfl).trans ?_;k_is);(case l18=>refine (SH.look_cons rfl).trans ?_;k_is);(case c18=>kernel_rfl);(case k18=>kernel_rfl)
  (case a19=>refine (SH.nsIn_cons rfl).trans ?_;k_is);(case l19=>refine (SH.look_cons rfl).trans ?_;k_is);(case c19=>kernel_rfl);(case k19=>kernel_rfl)
  (case a20=>refine (SH.nsIn_cons rfl).trans ?_;k_is);(case l20=>refine (SH.look_cons rfl).trans ?_;k_is);(case c20=>kernel_rfl);(case k20=>kernel_rfl)
  (case a21=>refine (SH.nsIn_cons rfl).trans ?_;k_is);(case l21=>refine (SH.look_cons rfl).trans ?_;k_is);(case c21=>kernel_rfl);(case k21=>kernel_rfl)
  (case a22=>refine (SH.nsIn_cons rfl).trans ?_;k_is);(case l22=>refine (SH.look_cons rfl).trans ?_;k_is);(case c22=>kernel_rfl);(case k22=>kernel_rfl)
  (case a23=>refine (SH.nsIn_cons rfl).trans ?_;k_is);(case l23=>refine (SH.look_cons rfl).trans ?_;k_is);(case c23=>kernel_rfl);(case k23=>kernel_rfl)
  (case a24=>refine (SH.nsIn_cons rfl).trans ?_;k_is);(case l24=>refine (SH.look_cons rfl).trans ?_;k_is);(case c24=>kernel_rfl);(case k24=>kernel_rfl)
  (case a25=>refine (SH.nsIn_cons rfl).trans ?_;k_is);(case l25=>refine (SH.look_cons rfl).trans ?_;k_is);(case c25=>kernel_rfl);(case k25=>kernel_rfl)
  (case a26=>refine (SH.nsIn_cons rfl).trans ?_;k_is);(case l26=>refine (SH.look_cons rfl).trans ?_;k_is);(case c26=>kernel_rfl);(case k26=>kernel_rfl)
  (case a27=>refine (SH.nsIn_cons rfl).trans ?_;k_is);(case l27=>refine (SH.look_cons rfl).trans ?_;k_is);(case c27=>kernel_rfl);(case k27=>kernel_rfl)
  (case a28=>refine (SH.nsIn_cons rfl).trans ?_;k_is);(case l28=>refine (SH.look_cons rfl).trans ?_;k_is);(case c28=>kernel_rfl);(case k28=>kernel_rfl)
  all_goals (refine (SH.nsIn_cons rfl).trans ?_;k_is)
