import PyProof.Rows.All
import Wide.All
import OpenK.AllK
import Wide.FinOn
import Lean
import PyProof.EqAt
import PyProof.EqKinds
import PyProof.TupleCall
import PySem.Challenge.RW_shuffletold_k85_whole_means_and_spreads
set_option Elab.async false
set_option linter.all false
set_option maxRecDepth 100000
set_option genSizeOfSpec false
noncomputable section
namespace L2
open PySem PySem.Spec PyProof.Rows
noncomputable abbrev Key:=Sum Int Str
noncomputable def zhd:Key->Value->Bool
 | .inl k,v=>Value.isInt k v
 | .inr x,v=>Value.isStrOf x v
noncomputable def keyH (w:World):Key->Int
 | .inl k=>hashInt k
 | .inr x=>hashStr w x
theorem zaD:∀{k:Key} {v:Value},zhd k v=true->(∃i t,k=Sum.inl i/\v=Value.int i t)∨(∃x t,k=Sum.inr x/\v=Value.str x t)
 | .inl i,v,h=>by
  obtain⟨t,e⟩:=Value.isInt_shape (k:=i) (v:=v) h
  exact .inl ⟨i,t,rfl,e⟩
 | .inr x,v,h=>by
  obtain⟨t,e⟩:=Value.isStrOf_shape (x:=x) (v:=v) h
  exact .inr ⟨x,t,rfl,e⟩
theorem zhJ (i:Int)(t:Tok):zhd (.inl i) (.int i t)=true:=by simp[zhd,Value.isInt]
theorem zhK (x:Str)(t:Tok):zhd (.inr x) (.str x t)=true:=by simp[zhd,Value.isStrOf]
theorem zkH (a b:Int):decide ((Sum.inl a:Key)=Sum.inl b)=(a==b):=by
 by_cases e:a=b
 ·subst e;simp
 ·have h:¬(Sum.inl a:Key)=Sum.inl b:=fun q=>e (Sum.inl.inj q)
  rw[decide_eq_false h]
  exact (beq_eq_false_iff_ne.mpr e).symm
theorem zkI (a b:Str):decide ((Sum.inr a:Key)=Sum.inr b)=decide (a=b):=by
 by_cases e:a=b
 ·subst e;simp
 ·have h:¬(Sum.inr a:Key)=Sum.inr b:=fun q=>e (Sum.inr.inj q)
  rw[decide_eq_false h,decide_eq_false e]
theorem zkJ (a:Int)(b:Str):decide ((Sum.inl a:Key)=Sum.inr b)=false:=decide_eq_false (fun q=>nomatch q)
theorem zkK (a:Str)(b:Int):decide ((Sum.inr a:Key)=Sum.inl b)=false:=decide_eq_false (fun q=>nomatch q)
noncomputable def zaE (prog:Program)(w:World):PySem.KeyKind prog w Key where
 is:=zhd
 hash:=keyH w
 inj:=fun v a b ha hb=>by
  rcases zaD ha with⟨i,t,rfl,rfl⟩|⟨x,t,rfl,rfl⟩
  ·rcases zaD hb with⟨j,u,rfl,e⟩|⟨y,u,rfl,e⟩
   ·injection e with e1 _;rw[e1]
   ·exact nomatch e
  ·rcases zaD hb with⟨j,u,rfl,e⟩|⟨y,u,rfl,e⟩
   ·exact nomatch e
   ·injection e with e1 _;rw[e1]
 byValue:=fun k v h=>by
  rcases zaD h with⟨i,t,rfl,rfl⟩|⟨x,t,rfl,rfl⟩<;>rfl
 pyHash:=fun hv h=>by
  rcases zaD hv with⟨i,t,rfl,rfl⟩|⟨x,t,rfl,rfl⟩
  ·exact wpAny_pyHash_int h
  ·exact wpAny_pyHash_str h
 eqBool:=fun hu hv h=>by
  rcases zaD hu with⟨i,t,rfl,rfl⟩|⟨x,t,rfl,rfl⟩
  ·rcases zaD hv with⟨j,u,rfl,rfl⟩|⟨y,u,rfl,rfl⟩
   ·rw[zkH] at h;exact wpAny_eqBool_int h
   ·rw[zkJ] at h;exact SeqAt.EqAt.int_str i t y u _ _ _ _ h
  ·rcases zaD hv with⟨j,u,rfl,rfl⟩|⟨y,u,rfl,rfl⟩
   ·rw[zkK] at h;exact SeqAt.EqAt.str_int x t j u _ _ _ _ h
   ·rw[zkI] at h;exact wpAny_eqBool_str h
 «strs»:=fun k x t v h=>by
  rcases zaD h with⟨i,u,rfl,e⟩|⟨y,u,rfl,e⟩
  ·exact nomatch e
  ·injection e with e1 _
   subst e1
   cases v<;>rfl
theorem zfQ (prog:Program)(w:World)(i:Int)(t:Tok):(zaE prog w).is (.inl i) (.int i t)=true:=zhJ i t
theorem zfR (prog:Program)(w:World)(x:Str)(t:Tok):(zaE prog w).is (.inr x) (.str x t)=true:=zhK x t
inductive V where
 |non|bl (b:Bool)|int (i:Int)|str (x:Str)|byt (b:Array UInt8)|flt (b:UInt64)|ref (a:Addr)|ty (n:String)
 deriving DecidableEq
noncomputable def RelV:V->Value->Prop
 | .non,u=>u=Value.none
 | .bl b,u=>u=Value.bool b
 | .int i,u=>∃t,u=Value.int i t
 | .str x,u=>∃t,u=Value.str x t
 | .byt b,u=>∃t,u=Value.bytes b t
 | .flt b,u=>∃t,u=Value.float b t
 | .ref a,u=>u=Value.ref a
 | .ty n,u=>u=Value.type n
noncomputable abbrev Vals:List V->List Value->Prop:=Paired RelV
theorem Vals.length {xs:List V}{us:List Value}(r:Vals xs us):xs.length=us.length:=Paired.length r
theorem Vals.get:∀{xs:List V} {us:List Value} {i:Nat} {x:V},Vals xs us->xs[i]? =some x->∃u,us[i]? =some u/\RelV x u
 |_,_,_,_,.nil,e=>by simp at e
 |_,_,0,_,.cons r _,e=>by simp at e;subst e;exact⟨_,rfl,r⟩
 |_,_,i+1,x,.cons _ t,e=>by
  obtain⟨u,h1,h2⟩:=Vals.get (i:=i) (x:=x) t (by simpa using e)
  exact⟨u,by simpa using h1,h2⟩
theorem Vals.set {x:V}{u:Value}(r:RelV x u):∀{xs:List V} {us:List Value} (i:Nat),Vals xs us->Vals (xs.set i x) (us.set i u)
 |_,_,_,.nil=>.nil
 |_,_,0,.cons _ t=>.cons r t
 |_,_,i+1,.cons q t=>.cons q (Vals.set r i t)
theorem Vals.append:∀{xs ys:List V} {us ws:List Value},Vals xs us->Vals ys ws->Vals (xs++ys) (us++ws)
 |_,_,_,_,.nil,s=>s
 |_,_,_,_,.cons r t,s=>.cons r (Vals.append t s)
theorem Vals.take:∀{xs:List V} {us:List Value} (n:Nat),Vals xs us->Vals (xs.take n) (us.take n)
 |_,_,0,_=>.nil
 |_,_,_+1,.nil=>.nil
 |_,_,n+1,.cons r t=>.cons r (Vals.take n t)
theorem Vals.drop:∀{xs:List V} {us:List Value} (n:Nat),Vals xs us->Vals (xs.drop n) (us.drop n)
 |_,_,0,r=>r
 |_,_,_+1,.nil=>.nil
 |_,_,n+1,.cons _ t=>Vals.drop n t
theorem Vals.none_of:∀{xs:List V} {us:List Value} {i:Nat},Vals xs us->xs[i]? =none->us[i]? =none:=fun {xs us i} r e=>by
 have h1:=r.length
 have h2:xs.length<=i:=List.getElem?_eq_none_iff.mp e
 exact List.getElem?_eq_none_iff.mpr (by (first|lia|omega))
noncomputable def RelO:Option V->Option Value->Prop
 |some v,some u=>RelV v u
 |none,none=>True
 |_,_=>False
noncomputable def KV {κ:Type}:List (κ×V)->List (κ×Value)->Prop:=Paired fun (p:κ×V) (q:κ×Value)=>p.1=q.1/\RelV p.2 q.2
noncomputable def kV:Key->V
 | .inl i=>.int i
 | .inr x=>.str x
inductive HO where
  |lst (xs:List V)
  |tup (xs:List V)
  |dK (kvs:List (Key×V))|dT (kvs:List (List Key×V))
  |set (S:Int->Bool) (n:Nat)
  |ins (C dx:Addr) (fs:List (Str×V))
  |own (x:Addr)
  |xd (fs:List (Str×V))
  |met (f x:Addr)
  |rng (lo hi:Int)
  |frz (o:Obj) (u:HO)
  |tbl (ps:Array Value)
  |ext (φ:Heap->Prop)
noncomputable abbrev Hp:=Addr->Option HO
noncomputable def upd (H:Hp)(a:Addr)(o:HO):Hp:=fun b=>if b=a then some o else H b
theorem zaa {H:Hp}{a:Addr}{o:HO}:upd H a o a=some o:=by unfold upd;rw[if_pos rfl]
theorem zan {H:Hp}{a b:Addr}{o:HO}(h:b≠a):upd H a o b=H b:=by unfold upd;rw[if_neg h]
theorem zfS {H:Hp}{a:Addr}{o u:HO}:upd (upd H a o) a u=upd H a u:=by
 funext b;unfold upd;split<;>rfl
theorem zhe {H:Hp}{a b:Addr}{o u:HO}(h:H a=some o)(h':H b=some u)(d:o≠u):a≠b:=by
 intro e;subst e;rw[h] at h';exact d (Option.some.inj h')
theorem zaR {H:Hp}{a b:Addr}{o:HO}(h:H a=some o)(h':H b=none):a≠b:=by
 intro e;subst e;rw[h] at h';cases h'
noncomputable def PTup (h:Heap)(a:Addr)(items:Array Value):Prop:=∃o,h.get? a=some o/\o.cls=.type "tuple" /\(∃n,o.data=.seq items n)/\o.dict=none/\o.slots=#[]
theorem PTup.tup {h:Heap}{a:Addr}{items:Array Value}(p:PTup h a items):IsTup h a items:=by
 obtain⟨o,e,c,d,_⟩:=p
 exact⟨o,e,c,d⟩
theorem PTup.new {h:Heap}{items:Array Value}{n:Nat}:PTup (h.push {cls:=.type "tuple",data:=.seq items n}) h.objs.size items:=⟨_,Heap.get?_push_size _ rfl,rfl,⟨_,rfl⟩,rfl,rfl⟩
section
variable (P:Program)(w:World)
noncomputable def ObjOk (H:Hp)(h:Heap)(a:Addr):HO->Prop
 | .lst xs=>xs.length<=sizeLine/\∃(its:List Value) (n:Nat),Vals xs its/\h.get? a=some {cls:=.type "list",data:=.seq its.toArray n}
 | .tup xs=>xs.length<=sizeLine/\∃its:List Value,Vals xs its/\PTup h a its.toArray
 | .dK kvs=>kvs.length<=sizeLine/\(a==sysModules)=false/\∃vs,KV kvs vs/\h.DictOf (zaE P w) a vs
 | .dT kvs=>kvs.length<=sizeLine/\(a==sysModules)=false/\∃xs:List (List Key×Addr×Value),
   Paired (fun (p:List Key×V) (q:List Key×Addr×Value)=>p.1=q.1/\H q.2.1=some (.tup (p.1.map kV))/\RelV p.2 q.2.2) kvs xs/\
   ∃o es ep,h.get? a=some o/\o.ExactDict/\o.data=.dict es ep/\es.toList=xs.map (entryOfKey (tupleKind (zaE P w)))/\(xs.map (·.1)).Nodup
 | .set S n=>h.SetOf (intKind P w) a S n
 | .ins C dx fs=>H dx=some (.own a)/\fs.length<=1000/\dx≠a/\h.get? a=some (PySem.W.instObj C dx)/\
   ∃mA,h.Ns1 dx mA/\(∀f,RelO (fs.lookup f) (mA f))/\PySem.Within mA (fs.map (·.1))
 | .own _=>∃o,h.get? a=some o
 | .xd fs=>∃mA,h.Ns1 a mA/\∀f,RelO (fs.lookup f) (mA f)
 | .rng lo hi=>∃t u v,h.get? a=some {cls:=.type "range",data:=.fields #[.int lo t,.int hi u,.int 1 v]}
 | .frz o u=>h.get? a=some o/\ObjOk H h a u
 | .tbl ps=>h.get? a=some {cls:=.none,data:=.fields ps}
 | .met f x=>h.get? a=some (PySem.W.methodObj (.ref f) (.ref x))
 | .ext φ=>φ h/\(∃o,h.get? a=some o)/\∀h1 h2:Heap,φ h1->(∀o,h1.get? a=some o->h2.get? a=some o)->φ h2
noncomputable def HOk (H:Hp)(h:Heap):Prop:=∀a o,H a=some o->ObjOk P w H h a o
end
section
variable {P:Program}{w:World}{H H':Hp}{h h':Heap}{a:Addr}{o:HO}
theorem ObjOk.lt (x:ObjOk P w H h a o):a<h.objs.size:=by
 cases o with
 |lst xs=>obtain⟨_,_,_,_,e⟩:=x;exact Heap.lt_size e
 |tup xs=>obtain⟨_,_,_,p⟩:=x;exact p.tup.lt
 |dK kvs=>obtain⟨_,_,_,_,o,_,_,e,_⟩:=x;exact Heap.lt_size e
 |dT kvs=>obtain⟨_,_,_,_,o,_,_,e,_⟩:=x;exact Heap.lt_size e
 |set S n=>obtain⟨o,_,_,_,e,_⟩:=x;exact Heap.lt_size e
 |ins C dx fs=>obtain⟨_,_,_,e,_⟩:=x;exact Heap.lt_size e
 |own y=>obtain⟨_,e⟩:=x;exact Heap.lt_size e
 |xd fs=>obtain⟨_,⟨_,_,_,e,_⟩,_⟩:=x;exact Heap.lt_size e
 |rng lo hi=>obtain⟨_,_,_,e⟩:=x;exact Heap.lt_size e
 |frz ob u=>obtain⟨e,_⟩:=x;exact Heap.lt_size e
 |tbl ps=>exact Heap.lt_size (show h.get? a=some _ from x)
 |met f y=>exact Heap.lt_size (show h.get? a=some _ from x)
 |ext φ=>obtain⟨_,⟨_,e⟩,_⟩:=x;exact Heap.lt_size e
theorem Paired.mapP {α β:Type}{F G:α->β->Prop}:∀{l₁:List α} {l₂:List β},Paired F l₁ l₂->(∀a b,F a b->G a b)->Paired G l₁ l₂
 |_,_,.nil,_=>.nil
 |_,_,.cons r t,f=>.cons (f _ _ r) (Paired.mapP t f)
theorem ObjOk.stay (x:ObjOk P w H h a o)(k:∀b u,(b=a∨H b=some (.own a))->h.get? b=some u->h'.get? b=some u)
  (ho:∀b,H b=some (.own a)->H' b=some (.own a)) (ht:∀b xs,H b=some (.tup xs)->H' b=some (.tup xs)):ObjOk P w H' h' a o:=by
 induction o with
 |lst xs=>obtain⟨z,its,n,r,e⟩:=x;exact⟨z,its,n,r,k _ _ (.inl rfl) e⟩
 |tup xs=>obtain⟨z,its,r,ob,e,c⟩:=x;exact⟨z,its,r,ob,k _ _ (.inl rfl) e,c⟩
 |dK kvs=>obtain⟨z,y,vs,r,ob,es,ep,e,c⟩:=x;exact⟨z,y,vs,r,ob,es,ep,k _ _ (.inl rfl) e,c⟩
 |dT kvs=>
  obtain⟨z,y,xs,r,ob,es,ep,e,c⟩:=x
  exact⟨z,y,xs,Paired.mapP r fun p q z=>⟨z.1,ht _ _ z.2.1,z.2.2⟩,ob,es,ep,k _ _ (.inl rfl) e,c⟩
 |set S n=>obtain⟨ob,es,ep,t,e,c⟩:=x;exact⟨ob,es,ep,t,k _ _ (.inl rfl) e,c⟩
 |ins C dx fs=>
  obtain⟨d,z,ne,e,mA,⟨od,es,ep,e2,c⟩,r⟩:=x
  exact⟨ho _ d,z,ne,k _ _ (.inl rfl) e,mA,⟨od,es,ep,k _ _ (.inr d) e2,c⟩,r⟩
 |own y=>obtain⟨ob,e⟩:=x;exact⟨ob,k _ _ (.inl rfl) e⟩
 |xd fs=>obtain⟨mA,⟨od,es,ep,e,c⟩,r⟩:=x;exact⟨mA,⟨od,es,ep,k _ _ (.inl rfl) e,c⟩,r⟩
 |rng lo hi=>obtain⟨t,u,v,e⟩:=x;exact⟨t,u,v,k _ _ (.inl rfl) e⟩
 |frz ob u ih=>obtain⟨e,q⟩:=x;exact⟨k _ _ (.inl rfl) e,ih q⟩
 |tbl ps=>
  have e:h.get? a=some {cls:=.none,data:=.fields ps}:=x
  show h'.get? a=some {cls:=.none,data:=.fields ps}
  exact k a _ (.inl rfl) e
 |met f y=>
  have e:h.get? a=some (PySem.W.methodObj (.ref f) (.ref y)):=x
  show h'.get? a=some (PySem.W.methodObj (.ref f) (.ref y))
  exact k a _ (.inl rfl) e
 |ext φ=>obtain⟨p,⟨o,e⟩,st⟩:=x;exact⟨st _ _ p fun o q=>k _ _ (.inl rfl) q,⟨o,k _ _ (.inl rfl) e⟩,st⟩
theorem HOk.lt (x:HOk P w H h)(e:H a=some o):a<h.objs.size:=(x a o e).lt
theorem HOk.fresh (x:HOk P w H h)(e:h.objs.size<=a):H a=none:=by
 cases q:H a with
 |none=>rfl
 |some u=>exact absurd (Nat.lt_of_lt_of_le (x.lt q) e) (Nat.lt_irrefl _)
theorem HOk.kept (x:HOk P w H h)(k:∀b u,h.get? b=some u->h'.get? b=some u):HOk P w H h':=fun a o e=>
 (x a o e).stay (fun b u _ q=>k b u q) (fun _ q=>q) fun _ _ q=>q
theorem HOk.laid (x:HOk P w H h)(k:∀b u,h.get? b=some u->h'.get? b=some u)(hp:h.objs.size<=a)(new:ObjOk P w (upd H a o) h' a o):HOk P w (upd H a o) h':=fun b u e=>by
 have hn:=x.fresh hp
 by_cases hb:b=a
 ·subst hb;rw[zaa] at e;cases e;exact new
 ·rw [zan hb] at e
  exact (x b u e).stay (fun c v _ q=>k c v q) (fun c q=>by rw[zan (zaR q hn)];exact q) fun c xs q=>by rw[zan (zaR q hn)];exact q
end
noncomputable def Rd (H:Hp)(a:Addr)(u:HO):Prop:=H a=some u∨∃o,H a=some (.frz o u)
theorem Rd.ok {P:Program}{w:World}{H:Hp}{h:Heap}{a:Addr}{u:HO}(r:Rd H a u)(x:HOk P w H h):ObjOk P w H h a u:=by
 rcases r with r|⟨o,r⟩
 ·exact x a u r
 ·obtain ⟨_,q⟩:=x a _ r
  exact q
noncomputable def Mut:Option HO->Prop
 |some (.lst _)=>True
 |some (.dK _)=>True
 |some (.dT _)=>True
 |some (.set _ _)=>True
 |some (.ins _ _ _)=>True
 |some (.ext _)=>True
 |_=>False
section
variable {P:Program}{w:World}{H:Hp}{h h':Heap}{x e:Addr}{o':HO}
theorem HOk.write (ok:HOk P w H h)(mu:Mut (H x))(he:e=x∨H e=some (.own x))(k:∀b u,b≠e->h.get? b=some u->h'.get? b=some u)(heo:∃u,h'.get? e=some u)
  (new:ObjOk P w (upd H x o') h' x o'):HOk P w (upd H x o') h':=fun b u q=>by
 have nown:∀c y,H c=some (.own y)->c≠x:=fun c y r z=>by subst z;rw[r] at mu;exact mu
 have ntup:∀c xs,H c=some (.tup xs)->c≠x:=fun c xs r z=>by subst z;rw[r] at mu;exact mu
 by_cases hb:b=x
 ·subst hb;rw[zaa] at q;cases q;exact new
 ·rw [zan hb] at q
  by_cases hbe:b=e
  ·have q':H b=some (.own x):=by
    rcases he with z|z
    ·exact absurd (hbe.trans z) hb
    ·rw[hbe];exact z
   rw[q] at q';cases q'
   obtain⟨v,hv⟩:=heo
   exact⟨v,by rw[hbe];exact hv⟩
  ·refine (ok b u q).stay (fun c v hc r=>k c v ?_ r) (fun c r=>by rw[zan (nown c b r)];exact r) fun c xs r=>by rw[zan (ntup c xs r)];exact r
   rcases hc with rfl|hc
   ·exact hbe
   ·rintro rfl
    rcases he with z|z
    ·exact nown c b hc z
    ·rw[hc] at z;cases z;exact hb rfl
end
structure Un (fs ex:List Addr) (H H':Hp) (h h':Heap):Prop where
 keep:∀b o,h.get? b=some o->H b=none->b∉fs->b∉ex->h'.get? b=some o
 slot:∀b o,h.get? b=some o->H b=none->b∈fs->b∉ex->∃sl,h'.get? b=some {o with slots:=sl}
 free:∀b o,h.get? b=some o->H b=none->b∉ex->H' b=none
 there:∀b o,h.get? b=some o->b∉ex->∃o',h'.get? b=some o'
 tups:∀b xs,H b=some (.tup xs)->H' b=some (.tup xs)
 frzs:∀b o u,H b=some (.frz o u)->H' b=some (.frz o u)
 tbls:∀b ps,H b=some (.tbl ps)->∃more,H' b=some (.tbl (ps++more))
section
variable {fs fs' ex ex':List Addr}{H H1 H2:Hp}{h h1 h2 h':Heap}{a x e:Addr}{o:HO}
theorem Un.any (u:Un fs ex H H1 h h1){b:Addr}{ob:Obj}(q:h.get? b=some ob)(n:H b=none)(hx:b∉ex):∃sl,h1.get? b=some {ob with slots:=sl}:=by
 by_cases hb:b∈fs
 ·exact u.slot b ob q n hb hx
 ·exact⟨ob.slots,u.keep b ob q n hb hx⟩
theorem Un.kept (k:∀b u,h.get? b=some u->h'.get? b=some u):Un fs ex H H h h':=
 ⟨fun b ob q _ _ _=>k b ob q,fun b ob q _ _ _=>⟨ob.slots,k b ob q⟩,fun _ _ _ n _=>n,fun b ob q _=>⟨ob,k b ob q⟩,fun _ _ q=>q,fun _ _ _ q=>q,fun _ ps q=>⟨#[],by rw[q];simp⟩⟩
theorem Un.refl:Un fs ex H H h h:=Un.kept fun _ _ q=>q
theorem Un.laid (k:∀b u,h.get? b=some u->h'.get? b=some u)(hp:h.objs.size<=a)(hn:H a=none):Un fs ex H (upd H a o) h h' where
 keep:=fun b u q _ _ _=>k b u q
 slot:=fun b u q _ _ _=>⟨u.slots,k b u q⟩
 free:=fun b u q n _=>by rw[zan (Nat.ne_of_lt (Nat.lt_of_lt_of_le (Heap.lt_size q) hp))];exact n
 there:=fun b u q _=>⟨u,k b u q⟩
 tups:=fun b xs q=>by rw[zan (zaR q hn)];exact q
 frzs:=fun b u xs q=>by rw[zan (zaR q hn)];exact q
 tbls:=fun b ps q=>⟨#[],by rw[zan (zaR q hn),q];simp⟩
theorem Un.write (mu:Mut (H x))(he:e=x∨H e=some (.own x))(k:∀b u,b≠e->h.get? b=some u->h'.get? b=some u)(heo:∃u,h'.get? e=some u):Un fs ex H (upd H x o) h h':=by
 have hx:∀b,H b=none->b≠x:=fun b n z=>by subst z;rw[n] at mu;exact mu
 have hb:∀b,H b=none->b≠e:=fun b n z=>by
  subst z
  rcases he with r|r
  ·exact hx b n r
  ·rw[n] at r;cases r
 have hm:∀b u,H b=some u->¬Mut (some u)->b≠x:=fun b u q nm z=>by subst z;rw[q] at mu;exact nm mu
 refine⟨fun b u q n _ _=>k b u (hb b n) q,fun b u q n _ _=>⟨u.slots,k b u (hb b n) q⟩,fun b u q n _=>by rw[zan (hx b n)];exact n,fun b u q _=> ?_,
  fun b xs q=>by rw[zan (hm b _ q fun z=>z)];exact q,fun b u xs q=>by rw[zan (hm b _ q fun z=>z)];exact q,fun b ps q=>⟨#[],by rw[zan (hm b _ q fun z=>z),q];simp⟩⟩
 by_cases hbe:b=e
 ·subst hbe;exact heo
 ·exact⟨u,k b u hbe q⟩
end
noncomputable def trk (h:Heap)(H:Hp):List Addr:=(List.range h.objs.size).filter fun a=>(H a).isSome
noncomputable def hidT (h:Heap)(H:Hp):Heap:=PySem.W.hideAll h (trk h H)
theorem zhL (h:Heap)(H:Hp):(hidT h H).objs.size=h.objs.size:=PySem.W.hideAll_size _ _
theorem ziZ {h:Heap}{H:Hp}{b:Addr}{o:Obj}(e:h.get? b=some o)(n:H b=none):(hidT h H).get? b=some o:=
 PySem.W.hideAll_get _ e fun hm=>by
  have q:(H b).isSome=true:=(List.mem_filter.mp hm).2
  rw[n] at q;simp at q
theorem zjZ {h:Heap}{H:Hp}{b:Addr}{o:Obj}(e:(hidT h H).get? b=some o):h.get? b=some o/\H b=none:=by
 have e':h.get? b=some o:=PySem.W.of_hideAll (trk h H) e
 refine⟨e', ?_⟩
 cases q:H b with
 |none=>rfl
 |some x=>
  have hm:b∈trk h H:=List.mem_filter.mpr ⟨List.mem_range.mpr (Heap.lt_size e'),by simp[q]⟩
  have z:(hidT h H).get? b=none:=PySem.W.hideAll_none (trk h H) hm
  rw[z] at e;cases e
noncomputable def zj0 (g h:Heap)(L:Addr):List (Addr×Obj):=(List.range h.objs.size).filterMap fun a=>if a=L∨(g.get? a).isSome=true then none else (h.get? a).map fun o=>(a,o)
noncomputable def rest (g h:Heap)(L d:Addr):List (Addr×Obj):=(zj0 g h L).filter fun p=>decide (p.1≠d)
structure Mod (K:PySem.W.Frag) (mg:Str->Option Value) (base:Heap):Prop where
 kin:K.In base
 glob:base.Ns mainGlobals mg
 blt:∃mb,base.Ns builtinsNs mb/\∀x:Str,x≠ "__name__" ->mb x=bootBuiltins x
 nolimit:base.NoLimit
structure Cx where
 prog:Program
 w:World
 K:PySem.W.Frag
 mg:Str->Option Value
 base:Heap
 A:Around
 N:List Str
 s₀:Shared
 H₀:Hp
 env:Env
 outer:List Env
 stack:List Env
 ex:List Addr
 fn:Str->Bool
 calm:Bool
 pn:List (Addr×Obj)
 xe:Value->Shared->Prop
noncomputable def frs (l:List Env):List Addr:=l.filterMap (·.frame)
noncomputable abbrev Cx.fs (X:Cx):List Addr:=frs X.outer
noncomputable def Vis (sc:Scope)(x:Str):Prop:=sc.names.lookup x=some .local∨sc.names.lookup x=some .cell∨sc.names.lookup x=some .free
noncomputable def Loc (sc:Scope)(x:Str):Prop:=sc.names.lookup x=some .local∨sc.names.lookup x=some .cell
noncomputable def Look (env:Env)(h:Heap)(m:Str->Option Value)(x:Str)(u:Value):Prop:=
 (env.kindOf x=some .local/\m x=some u)∨((env.kindOf x=some .cell∨env.kindOf x=some .free)/\∃c,env.cells.lookup x=some c/\h.IsCell c (some u))
structure Cx.Ok (X:Cx):Prop where
 mod:Mod X.K X.mg X.base
 kind:X.env.scope.kind=.function
 glob:X.env.globals=mainGlobals
 blt:X.env.builtins=builtinsNs
 above:X.s₀.heap.objs.size<=X.env.locals
 inj:∀x y c,X.env.cells.lookup x=some c->X.env.cells.lookup y=some c->x=y
 has:∀x,(X.env.kindOf x=some .cell∨X.env.kindOf x=some .free)->∃c,X.env.cells.lookup x=some c
 cab:∀x c,X.fn x=true->X.env.cells.lookup x=some c->X.s₀.heap.objs.size<=c
 hd:X.calm=true->X.A.handled=none
 frames:X.A.frames=some X.stack
 stk:X.stack=X.outer∨(X.stack=X.env::X.outer/\X.env.frame=some X.env.locals)
 exf:∀b∈X.ex,b≠X.env.locals/\∀x c,X.env.cells.lookup x=some c->c≠b
 bs:∀b o,X.base.get? b=some o->X.s₀.heap.get? b=some o/\X.H₀ b=none
 bsz:X.base.objs.size<=X.s₀.heap.objs.size
 noex:∀b o,X.base.get? b=some o->b∉X.ex
 exfs:∀b∈X.ex,b∉X.fs
 funs:X.s₀.heap.FunFrames X.base X.outer
 frf:∀b∈X.fs,X.H₀ b=none
structure Inv (X:Cx) (pins:List (Addr×Obj)) (σ:List (Option V)) (H:Hp) (s:Shared):Prop where
 ok:X.Ok
 os:s.os=X.s₀.os
 bare:AllBare s.gens
 base:Un X.fs X.ex X.H₀ H X.s₀.heap s.heap
 loc:∃m,s.heap.Ns X.env.locals m/\∀(i:Nat) (x:Str) (v:V),X.N[i]? =some x->σ[i]? =some (some v)->Vis X.env.scope x->∃u,RelV v u/\Look X.env s.heap m x u
 cell:∀x c,X.env.cells.lookup x=some c->∃v,s.heap.IsCell c v
 free:H X.env.locals=none
 freeC:∀x c,X.env.cells.lookup x=some c->H c=none
 pin:∀p∈X.pn++pins,s.heap.get? p.1=some p.2/\H p.1=none/\p.1≠X.env.locals/\p.1∉X.fs/\∀v,p.2.data≠.cell v
 hok:HOk X.prog X.w H s.heap
 len:σ.length=X.N.length
section
variable {X:Cx}{pins:List (Addr×Obj)}{σ:List (Option V)}{H H':Hp}{s:Shared}{h':Heap}
theorem Cx.Ok.nofr (ok:X.Ok){b:Addr}{o:Obj}(e:X.base.get? b=some o):b∉X.fs:=fun hb=>by
 have:=(ok.funs.mem hb).1
 rw[e] at this;cases this
theorem Inv.bs (I:Inv X pins σ H s):∀b o,X.base.get? b=some o->s.heap.get? b=some o/\H b=none:=fun b o e=>
 ⟨I.base.keep b o (I.ok.bs b o e).1 (I.ok.bs b o e).2 (I.ok.nofr e) (I.ok.noex b o e),I.base.free b o (I.ok.bs b o e).1 (I.ok.bs b o e).2 (I.ok.noex b o e)⟩
theorem Inv.bk (I:Inv X pins σ H s):∀b o,X.base.get? b=some o->s.heap.get? b=some o:=fun b o e=>(I.bs b o e).1
theorem Inv.mod (I:Inv X pins σ H s):Mod X.K X.mg X.base:=I.ok.mod
theorem Inv.kIn (I:Inv X pins σ H s):X.K.In s.heap:=I.ok.mod.kin.keeps I.bk
theorem Inv.lt (I:Inv X pins σ H s):X.env.locals<s.heap.objs.size:=let ⟨_,hn,_⟩:=I.loc;hn.lt
theorem Inv.sz (I:Inv X pins σ H s):X.s₀.heap.objs.size<=s.heap.objs.size:=Nat.le_trans I.ok.above (Nat.le_of_lt I.lt)
theorem Inv.nofs (I:Inv X pins σ H s){a:Addr}(h:s.heap.objs.size<=a):a∉X.fs:=fun hb=>by
 obtain⟨_,o,ho,_⟩:=I.ok.funs.mem hb
 exact absurd (Nat.lt_of_lt_of_le (Heap.lt_size ho) (Nat.le_trans I.sz h)) (Nat.lt_irrefl _)
theorem Inv.cne (I:Inv X pins σ H s):∀x c,X.env.cells.lookup x=some c->c≠X.env.locals:=fun x c e z=>by
 obtain⟨v,o,ho,hd⟩:=I.cell x c e
 obtain⟨m,⟨o',es,ep,ho',hd',_⟩,_⟩:=I.loc
 rw[z,ho'] at ho;cases ho;rw[hd'] at hd;cases hd
theorem Inv.funs (I:Inv X pins σ H s):s.heap.FunFrames X.base X.outer:=by
 have all:∀(l:List Env),(∀b∈frs l,b∈X.fs)->X.s₀.heap.FunFrames X.base l->s.heap.FunFrames X.base l:=by
  intro l
  induction l with
  |nil=>intro _ _;trivial
  |cons env r ih=>
   intro hs hl
   obtain⟨hk,⟨L,o,hf,hn,ho,hd⟩,hr⟩:=hl
   have hL:L∈X.fs:=hs L (by unfold frs;rw[List.filterMap_cons,hf];exact List.mem_cons_self)
   obtain⟨sl,e⟩:=I.base.slot L o ho (I.ok.frf L hL) hL fun z=>I.ok.exfs L z hL
   exact⟨hk,⟨L,_,hf,hn,e,hd⟩,ih (fun b hb=>hs b (by unfold frs;rw[List.filterMap_cons,hf];exact List.mem_cons_of_mem _ hb)) hr⟩
 exact all X.outer (fun _ hb=>hb) I.ok.funs
theorem Inv.stack (I:Inv X pins σ H s):s.heap.FunFrames X.base X.stack:=by
 rcases I.ok.stk with e|⟨e,hf⟩
 ·rw[e];exact I.funs
 ·rw [e]
  obtain⟨m,hn,_⟩:=I.loc
  refine .cons (by rw[I.ok.kind];decide) hf hn ?_ I.funs
  exact Heap.get?_none_of_le (Nat.le_trans I.ok.bsz I.ok.above)
theorem Inv.stkSub (I:Inv X pins σ H s):∀b∈frs X.stack,b∈X.env.locals::X.fs:=fun b hb=>by
 rcases I.ok.stk with e|⟨e,hf⟩
 ·rw[e] at hb;exact List.mem_cons_of_mem _ hb
 ·rw [e] at hb
  unfold frs at hb
  rw[List.filterMap_cons,hf] at hb
  exact hb
theorem Inv.stkFree (I:Inv X pins σ H s):∀b∈frs X.stack,H b=none:=fun b hb=>by
 rcases List.mem_cons.mp (I.stkSub b hb) with e|hb
 ·rw[e];exact I.free
 ·obtain ⟨_,o,ho,_⟩:=I.ok.funs.mem hb
  exact I.base.free b o ho (I.ok.frf b hb) fun z=>I.ok.exfs b z hb
theorem Inv.step {g':Array GenState}{t':Nat}{d':Drawn}{ch:List Addr}(I:Inv X pins σ H s)
  (hch:∀b∈ch,(b∈X.ex∨X.s₀.heap.objs.size<=b)/\b≠X.env.locals/\(∀x c,X.env.cells.lookup x=some c->c≠b)/\∀p∈X.pn++pins,p.1≠b)
  (keep:∀b o,b≠X.env.locals->b∉X.fs->b∉ch->s.heap.get? b=some o->H b=none->h'.get? b=some o)
  (slot:∀b o,b≠X.env.locals->b∈X.fs->b∉ch->s.heap.get? b=some o->H b=none->∃sl,h'.get? b=some {o with slots:=sl}) (free:∀b o,b∉ch->s.heap.get? b=some o->H b=none->H' b=none)
  (there:∀b o,b∉ch->s.heap.get? b=some o->∃o',h'.get? b=some o')
  (tups:∀b xs,H b=some (.tup xs)->H' b=some (.tup xs)) (frzs:∀b o u,H b=some (.frz o u)->H' b=some (.frz o u)) (tbls:∀b ps,H b=some (.tbl ps)->∃more,H' b=some (.tbl (ps++more)))
  (ns:∀m,s.heap.Ns X.env.locals m->h'.Ns X.env.locals m) (hok:HOk X.prog X.w H' h') (hg:AllBare g'):
  Inv X pins σ H' {s with heap:=h',gens:=g',drawn:=d',toks:=t'}:=by
 have neL:∀b o,X.s₀.heap.get? b=some o->b≠X.env.locals:=fun b o e=>Nat.ne_of_lt (Nat.lt_of_lt_of_le (Heap.lt_size e) I.ok.above)
 have neC:∀b o,X.s₀.heap.get? b=some o->b∉X.ex->b∉ch:=fun b o e hx hb=>by
  rcases (hch b hb).1 with z|z
  ·exact hx z
  ·exact absurd (Nat.lt_of_lt_of_le (Heap.lt_size e) z) (Nat.lt_irrefl _)
 have cellK:∀x c,X.env.cells.lookup x=some c->∀v,s.heap.IsCell c v->h'.IsCell c v:=fun x c e v ⟨o,ho,hd⟩=>by
  have nch:c∉ch:=fun z=>(hch c z).2.2.1 x c e rfl
  by_cases hc:c∈X.fs
  ·obtain ⟨sl,q⟩:=slot c o (I.cne x c e) hc nch ho (I.freeC x c e)
   exact⟨_,q,hd⟩
  ·exact⟨o,keep c o (I.cne x c e) hc nch ho (I.freeC x c e),hd⟩
 refine⟨I.ok,I.os,hg,⟨fun b o e n hb hx=> ?_,fun b o e n hb hx=> ?_,fun b o e n hx=> ?_,fun b o e hx=> ?_,fun b xs e=>tups b xs (I.base.tups b xs e),fun b o xs e=>frzs b o xs (I.base.frzs b o xs e),fun b ps e=> ?_⟩, ?_,fun x c e=> ?_, ?_,fun x c e=> ?_,fun p hp=> ?_,hok,I.len⟩
 ·exact keep b o (neL b o e) hb (neC b o e hx) (I.base.keep b o e n hb hx) (I.base.free b o e n hx)
 ·obtain ⟨sl,e1⟩:=I.base.slot b o e n hb hx
  obtain⟨sl',e2⟩:=slot b _ (neL b o e) hb (neC b o e hx) e1 (I.base.free b o e n hx)
  exact⟨sl',e2⟩
 ·obtain ⟨o',e1⟩:=I.base.there b o e hx
  exact free b o' (neC b o e hx) e1 (I.base.free b o e n hx)
 ·obtain ⟨o',e1⟩:=I.base.there b o e hx
  exact there b o' (neC b o e hx) e1
 ·obtain ⟨m1,e1⟩:=I.base.tbls b ps e
  obtain⟨m2,e2⟩:=tbls b _ e1
  exact⟨m1++m2,by rw[e2,Array.append_assoc]⟩
 ·obtain ⟨m,hn,hl⟩:=I.loc
  refine⟨m,ns m hn,fun i x v e1 e2 e3=> ?_⟩
  obtain⟨u,r,l⟩:=hl i x v e1 e2 e3
  refine⟨u,r, ?_⟩
  rcases l with l|⟨k,c,e,z⟩
  ·exact .inl l
  ·exact .inr ⟨k,c,e,cellK x c e _ z⟩
 ·obtain ⟨v,z⟩:=I.cell x c e
  exact⟨v,cellK x c e v z⟩
 ·obtain ⟨m,⟨o,_,_,ho,_⟩,_⟩:=I.loc
  exact free _ o (fun z=>(hch _ z).2.1 rfl) ho I.free
 ·obtain ⟨v,o,ho,hd⟩:=I.cell x c e
  exact free c o (fun z=>(hch c z).2.2.1 x c e rfl) ho (I.freeC x c e)
 ·obtain ⟨e,n,ne,nf,d⟩:=I.pin p hp
  have nch:p.1∉ch:=fun z=>(hch p.1 z).2.2.2 p hp rfl
  exact⟨keep p.1 p.2 ne nf nch e n,free p.1 p.2 nch e n,ne,nf,d⟩
theorem Inv.un {t':Nat}(I:Inv X pins σ H s)(u:Un X.fs [] H H' s.heap h')(hok:HOk X.prog X.w H' h'):Inv X pins σ H' {s with heap:=h',toks:=t'}:=by
 obtain⟨m,⟨o,es,ep,ho,r⟩,_⟩:=id I.loc
 obtain⟨sl,hL⟩:=u.any ho I.free (by simp)
 exact I.step (g':=s.gens) (d':=s.drawn) (ch:=[]) (fun _ z=>nomatch z) (fun b o _ hb _ e n=>u.keep b o e n hb (by simp)) (fun b o _ hb _ e n=>u.slot b o e n hb (by simp)) (fun b o _ e n=>u.free b o e n (by simp)) (fun b o _ e=>u.there b o e (by simp)) u.tups u.frzs u.tbls (fun m' hm=>by
  obtain⟨o',es',ep',ho',r'⟩:=hm
  rw[ho] at ho';cases ho'
  exact⟨_,es',ep',hL,r'⟩) hok I.bare
theorem Inv.call {g':Array GenState}{t':Nat}{d':Drawn}{ch:List Addr}(I:Inv X pins σ H s)(u:Un (frs X.stack) ch H H' s.heap h')(hok:HOk X.prog X.w H' h')(hg:AllBare g')
  (hch:∀b∈ch,(b∈X.ex∨X.s₀.heap.objs.size<=b)/\b≠X.env.locals/\(∀x c,X.env.cells.lookup x=some c->c≠b)/\∀p∈X.pn++pins,p.1≠b):
  Inv X pins σ H' {s with heap:=h',gens:=g',drawn:=d',toks:=t'}:=by
 obtain⟨m,⟨o,es,ep,ho,r⟩,_⟩:=id I.loc
 obtain⟨sl,hL⟩:=u.any ho I.free fun z=>(hch _ z).2.1 rfl
 exact I.step (ch:=ch) hch (fun b o hL hb hc e n=>u.keep b o e n (fun z=>(List.mem_cons.mp (I.stkSub b z)).elim hL hb) hc) (fun b o _ _ hc e n=>u.any e n hc) (fun b o hc e n=>u.free b o e n hc) (fun b o hc e=>u.there b o e hc) u.tups u.frzs u.tbls (fun m' hm=>by
  obtain⟨o',es',ep',ho',r'⟩:=hm
  rw[ho] at ho';cases ho'
  exact⟨_,es',ep',hL,r'⟩) hok hg
theorem Inv.turned {t':Nat}{it:Addr}(I:Inv X pins σ H s)(k:∀b o,b≠it->s.heap.get? b=some o->h'.get? b=some o)(hn:H it=none)(hL:it≠X.env.locals)
  (h1:it∈X.ex∨X.s₀.heap.objs.size<=it) (h2:∀x c,X.env.cells.lookup x=some c->c≠it) (h3:∀p∈X.pn++pins,p.1≠it):Inv X pins σ H {s with heap:=h',toks:=t'}:=by
 have nit:∀b u,H b=some u->b≠it:=fun b u e z=>by rw[z,hn] at e;cases e
 refine I.step (g':=s.gens) (d':=s.drawn) (ch:=[it]) (fun b hb=> ?_) (fun b o _ _ hc e _=>k b o (fun z=>hc (by simp[z])) e) (fun b o _ _ hc e _=>⟨o.slots,k b o (fun z=>hc (by simp[z])) e⟩) (fun _ _ _ _ n=>n)
  (fun b o hc e=>⟨o,k b o (fun z=>hc (by simp[z])) e⟩) (fun _ _ e=>e) (fun _ _ _ e=>e) (fun b ps e=>⟨#[],by rw[e];simp⟩) (fun m hm=> ?_) (fun b u e=> ?_) I.bare
 ·have e:b=it:=by simpa using hb
  subst e
  exact⟨h1,hL,h2,h3⟩
 ·obtain ⟨o,es,ep,ho,r⟩:=hm
  exact⟨o,es,ep,k _ o (Ne.symm hL) ho,r⟩
 ·refine (I.hok b u e).stay (fun c v hc q=>k c v ?_ q) (fun _ q=>q) fun _ _ q=>q
  rcases hc with z|z
  ·rw[z];exact nit b u e
  ·exact nit c _ z
theorem Inv.tok (I:Inv X pins σ H s)(t:Nat):Inv X pins σ H {s with toks:=t}:=I.un (h':=s.heap) (t':=t) Un.refl I.hok
theorem Inv.kept {t':Nat}(I:Inv X pins σ H s)(k:∀b u,s.heap.get? b=some u->h'.get? b=some u):Inv X pins σ H {s with heap:=h',toks:=t'}:=I.un (Un.kept k) (I.hok.kept k)
theorem Inv.laid {a:Addr}{o:HO}{t':Nat}(I:Inv X pins σ H s)(k:∀b u,s.heap.get? b=some u->h'.get? b=some u)(hp:s.heap.objs.size<=a)(new:ObjOk X.prog X.w (upd H a o) h' a o):
  Inv X pins σ (upd H a o) {s with heap:=h',toks:=t'}:=I.un (Un.laid k hp (I.hok.fresh hp)) (I.hok.laid k hp new)
theorem Inv.write {x e:Addr}{o:HO}{t':Nat}(I:Inv X pins σ H s)(mu:Mut (H x))(he:e=x∨H e=some (.own x))(k:∀b u,b≠e->s.heap.get? b=some u->h'.get? b=some u)(heo:∃u,h'.get? e=some u)
  (new:ObjOk X.prog X.w (upd H x o) h' x o):Inv X pins σ (upd H x o) {s with heap:=h',toks:=t'}:=I.un (Un.write mu he k heo) (I.hok.write mu he k heo new)
theorem Inv.weak {σ':List (Option V)}(I:Inv X pins σ H s)(hl:σ'.length=σ.length)(w:∀(i:Nat) v,σ'[i]? =some (some v)->σ[i]? =some (some v)):Inv X pins σ' H s:=
 ⟨I.ok,I.os,I.bare,I.base,let ⟨m,hn,hl'⟩:=I.loc;⟨m,hn,fun i x v e1 e2 e3=>hl' i x v e1 (w i v e2) e3⟩,I.cell,I.free,I.freeC,I.pin,I.hok,hl.trans I.len⟩
theorem Inv.pins_of {pins':List (Addr×Obj)}(I:Inv X pins σ H s)(h:∀p∈pins',s.heap.get? p.1=some p.2/\H p.1=none/\p.1≠X.env.locals/\p.1∉X.fs/\∀v,p.2.data≠.cell v):Inv X pins' σ H s:=
 ⟨I.ok,I.os,I.bare,I.base,I.loc,I.cell,I.free,I.freeC,fun p hp=>(List.mem_append.mp hp).elim (fun z=>I.pin p (List.mem_append_left _ z)) (h p),I.hok,I.len⟩
theorem zgF {N:List Str}(hN:N.Nodup){i j:Nat}{x:Str}(a:N[i]? =some x)(b:N[j]? =some x):i=j:=by
 obtain⟨h1,e1⟩:=List.getElem?_eq_some_iff.mp a
 obtain⟨h2,e2⟩:=List.getElem?_eq_some_iff.mp b
 exact (List.getElem_inj hN).mp (e1.trans e2.symm)
theorem zhM {M:Model}{A:Around}{E:Value->Shared->Prop}{i:Nat}{x:Str}{v:V}{u:Value}{Q:Unit->Shared->Prop}(I:Inv X pins σ H s)(hN:X.N.Nodup)(hi:X.N[i]? =some x)(hx:Loc X.env.scope x)(r:RelV v u)
  (h:∀s',Inv X pins (σ.set i (some v)) H s'->(∃a,Heap.SameBut a s.heap s'.heap/\(a=X.env.locals∨X.env.cells.lookup x=some a))->Q () s') (hf:X.fn x=true∨X.env.scope.names.lookup x=some .local:=by first|exact .inl rfl|exact .inr rfl|assumption):wpAny M A (storeName X.env x u) Q E s:=by
 obtain⟨m,hn,hl⟩:=id I.loc
 have hcls:(X.env.scope.kind==.class||(X.env.scope.kind==.module&&X.env.locals != X.env.globals))=false:=by rw[I.ok.kind];rfl
 have hiσ:i<σ.length:=by rw[I.len];exact (List.getElem?_eq_some_iff.mp hi).1
 have cne:=I.cne
 have tracked:∀{a:Addr} {h':Heap},(∃o,s.heap.get? a=some o/\H a=none)->Heap.SameBut a s.heap h'->HOk X.prog X.w H h':=fun {a h'} ha hs b ob e=>by
  obtain⟨_,_,hfree⟩:=ha
  refine (I.hok b ob e).stay (fun c w' hc q=>(hs.2 c ?_).trans q) (fun _ q=>q) fun _ _ q=>q
  rintro rfl
  rcases hc with rfl|hc
  ·rw[hfree] at e;cases e
  ·rw[hfree] at hc;cases hc
 rcases hx with hk|hk
 ·refine wpAny_storeName_local hk hn (fun h' hn' hs=> ?_) hcls
  obtain⟨oL,_,_,hoL,_⟩:=id hn
  refine h _ ⟨I.ok,I.os,I.bare,⟨fun b o e n hb hx=> ?_,fun b o e n hb hx=> ?_,I.base.free,fun b o e hx=> ?_,I.base.tups,I.base.frzs,I.base.tbls⟩,⟨_,hn',fun j y v' e1 e2 e3=> ?_⟩,fun y c e=> ?_,I.free,I.freeC,fun p hp=> ?_,tracked ⟨oL,hoL,I.free⟩ hs,by simpa using I.len⟩ ⟨_,hs,.inl rfl⟩
  ·exact (hs.2 b (Nat.ne_of_lt (Nat.lt_of_lt_of_le (Heap.lt_size e) I.ok.above))).trans (I.base.keep b o e n hb hx)
  ·obtain ⟨sl,e1⟩:=I.base.slot b o e n hb hx
   exact⟨sl,(hs.2 b (Nat.ne_of_lt (Nat.lt_of_lt_of_le (Heap.lt_size e) I.ok.above))).trans e1⟩
  ·obtain ⟨o',e1⟩:=I.base.there b o e hx
   exact⟨o',(hs.2 b (Nat.ne_of_lt (Nat.lt_of_lt_of_le (Heap.lt_size e) I.ok.above))).trans e1⟩
  ·by_cases hj:j=i
   ·subst hj
    rw[hi] at e1;cases e1
    rw[List.getElem?_set_self hiσ] at e2
    cases e2
    exact⟨u,r,.inl ⟨hk,by simp⟩⟩
   ·rw [List.getElem?_set_ne (Ne.symm hj)] at e2
    obtain⟨u',r',q⟩:=hl j y v' e1 e2 e3
    refine⟨u',r', ?_⟩
    rcases q with⟨k,e⟩|⟨k,c,e,z⟩
    ·refine .inl ⟨k, ?_⟩
     have:y≠x:=fun e=>hj (zgF hN e1 (e▸hi))
     simp[this,e]
    ·exact .inr ⟨k,c,e,z.sameBut hs (cne y c e)⟩
  ·obtain ⟨w',z⟩:=I.cell y c e
   exact⟨w',z.sameBut hs (cne y c e)⟩
  ·obtain ⟨e,n,ne,nf,d⟩:=I.pin p hp
   exact⟨(hs.2 p.1 ne).trans e,n,ne,nf,d⟩
 ·have hfn:X.fn x=true:=by
   rcases hf with z|z
   ·exact z
   ·rw[z] at hk;cases hk
  obtain⟨c,hc⟩:=I.ok.has x (.inl hk)
  obtain⟨w',z⟩:=I.cell x c hc
  refine wpAny_storeName_cell I.ok.kind hk hc z (fun h' hc' hs=> ?_)
  obtain⟨oc,hoc,hocd⟩:=id z
  refine h {s with heap:=h'} ⟨I.ok,I.os,I.bare,⟨fun b o e n hb hx=> ?_,fun b o e n hb hx=> ?_,I.base.free,fun b o e hx=> ?_,I.base.tups,I.base.frzs,I.base.tbls⟩,⟨m,hn.sameBut hs (Ne.symm (cne x c hc)),fun j y v' e1 e2 e3=> ?_⟩,fun y c' e=> ?_,I.free,I.freeC,fun p hp=> ?_,tracked ⟨oc,hoc,I.freeC x c hc⟩ hs,by simpa using I.len⟩ ⟨c,hs,.inr hc⟩
  ·exact (hs.2 b (Nat.ne_of_lt (Nat.lt_of_lt_of_le (Heap.lt_size e) (I.ok.cab x c hfn hc)))).trans (I.base.keep b o e n hb hx)
  ·obtain ⟨sl,e1⟩:=I.base.slot b o e n hb hx
   exact⟨sl,(hs.2 b (Nat.ne_of_lt (Nat.lt_of_lt_of_le (Heap.lt_size e) (I.ok.cab x c hfn hc)))).trans e1⟩
  ·obtain ⟨o',e1⟩:=I.base.there b o e hx
   exact⟨o',(hs.2 b (Nat.ne_of_lt (Nat.lt_of_lt_of_le (Heap.lt_size e) (I.ok.cab x c hfn hc)))).trans e1⟩
  ·by_cases hj:j=i
   ·subst hj
    rw[hi] at e1;cases e1
    rw[List.getElem?_set_self hiσ] at e2
    cases e2
    exact⟨u,r,.inr ⟨.inl hk,c,hc,hc'⟩⟩
   ·rw [List.getElem?_set_ne (Ne.symm hj)] at e2
    obtain⟨u',r',q⟩:=hl j y v' e1 e2 e3
    refine⟨u',r', ?_⟩
    rcases q with q|⟨k,c',e,z'⟩
    ·exact .inl q
    ·refine .inr ⟨k,c',e,z'.sameBut hs ?_⟩
     rintro rfl
     exact hj (zgF hN e1 (I.ok.inj _ _ _ e hc▸hi))
  ·by_cases hcc:c'=c
   ·subst hcc;exact⟨_,hc'⟩
   ·obtain ⟨w2,z2⟩:=I.cell y c' e
    exact⟨w2,z2.sameBut hs hcc⟩
  ·obtain ⟨e,n,ne,nf,d⟩:=I.pin p hp
   refine⟨(hs.2 p.1 ?_).trans e,n,ne,nf,d⟩
   intro q
   rw[q,hoc] at e
   have q':oc=p.2:=Option.some.inj e
   exact d w' (by rw[<-q'];exact hocd)
theorem zcE {M:Model}{A:Around}{E:Value->Shared->Prop}{i:Nat}{x:Str}{v:V}{u:Value}{Q:Unit->Shared->Prop}(I:Inv X pins σ H s)(hN:X.N.Nodup)(hi:X.N[i]? =some x)(hx:Loc X.env.scope x)(r:RelV v u)
  (h:∀s',Inv X pins (σ.set i (some v)) H s'->Q () s') (hf:X.fn x=true∨X.env.scope.names.lookup x=some .local:=by first|exact .inl rfl|exact .inr rfl|assumption):wpAny M A (storeName X.env x u) Q E s:=
 zhM I hN hi hx r (fun s' I' _=>h s' I') hf
theorem Inv.call' {s':Shared}{ch:List Addr}(I:Inv X pins σ H s)(ho:s'.os=s.os)(u:Un (frs X.stack) ch H H' s.heap s'.heap)(hok:HOk X.prog X.w H' s'.heap)(hg:AllBare s'.gens)
  (hch:∀b∈ch,(b∈X.ex∨X.s₀.heap.objs.size<=b)/\b≠X.env.locals/\(∀x c,X.env.cells.lookup x=some c->c≠b)/\∀p∈X.pn++pins,p.1≠b):Inv X pins σ H' s':=by
 obtain⟨h',g',d',t',o'⟩:=s'
 have e:o'=s.os:=ho
 subst e
 exact I.call (g':=g') (t':=t') (d':=d') u hok hg hch
end
noncomputable abbrev XK:=Value->Option Addr->Hp->Prop
noncomputable abbrev St:=List (Option V)
noncomputable abbrev VK:=V->Hp->Prop
noncomputable abbrev TE:=St->Hp->VK->Prop
noncomputable abbrev TT:=St->Hp->(Bool->Hp->Prop)->Prop
noncomputable abbrev TA:=St->Hp->(List V->Hp->Prop)->Prop
structure Ends where
 nx:St->Hp->Prop
 rt:VK
 bk:St->Hp->Prop:=fun _ _=>False
 ct:St->Hp->Prop:=fun _ _=>False
noncomputable abbrev TS:=Ends->St->Hp->Prop
noncomputable def EP (X:Cx)(pins:List (Addr×Obj))(σ:St)(Q:VK)(u:Value)(s':Shared):Prop:=∃v H',Inv X pins σ H' s'/\RelV v u/\Q v H'
noncomputable def TP (X:Cx)(pins:List (Addr×Obj))(σ:St)(Q:Bool->Hp->Prop)(b:Bool)(s':Shared):Prop:=∃H',Inv X pins σ H' s'/\Q b H'
noncomputable def AP (X:Cx)(pins:List (Addr×Obj))(σ:St)(Q:List V->Hp->Prop)(us:List Value)(s':Shared):Prop:=∃vs H',Inv X pins σ H' s'/\Vals vs us/\Q vs H'
noncomputable def SP (X:Cx)(pins:List (Addr×Obj))(D:Ends)(f:Flow)(s':Shared):Prop:=
 match f with
 | .next=>∃σ' H',Inv X pins σ' H' s'/\D.nx σ' H'
 | .brk=>∃σ' H',Inv X pins σ' H' s'/\D.bk σ' H'
 | .cont=>∃σ' H',Inv X pins σ' H' s'/\D.ct σ' H'
 | .ret u=>∃v σ' H',Inv X pins σ' H' s'/\RelV v u/\D.rt v H'
noncomputable def PE (X:Cx)(e:Expr)(t:TE):Prop:=
 ∀(pins:List (Addr×Obj)) (s:Shared) (σ:St) (H:Hp) (Q:VK),Inv X pins σ H s->t σ H Q->wpAny (model X.prog X.w) X.A (eval e X.env) (EP X pins σ Q) X.xe s
noncomputable def PT (X:Cx)(e:Expr)(t:TT):Prop:=
 ∀(pins:List (Addr×Obj)) (s:Shared) (σ:St) (H:Hp) (Q:Bool->Hp->Prop),Inv X pins σ H s->t σ H Q->wpAny (model X.prog X.w) X.A (isTrue e X.env (eval e X.env)) (TP X pins σ Q) X.xe s
noncomputable def PW (X:Cx)(e:Expr)(t:TT):Prop:=
 ∀(whole:Sem Value) (pins:List (Addr×Obj)) (s:Shared) (σ:St) (H:Hp) (Q:Bool->Hp->Prop),Inv X pins σ H s->t σ H Q->wpAny (model X.prog X.w) X.A (isTrue e X.env whole) (TP X pins σ Q) X.xe s
theorem PW.pt {X:Cx}{e:Expr}{t:TT}(h:PW X e t):PT X e t:=h _
noncomputable def PA (X:Cx)(es:List Expr)(t:TA):Prop:=
 ∀(pos:Pos) (pins:List (Addr×Obj)) (s:Shared) (σ:St) (H:Hp) (Q:List V->Hp->Prop),Inv X pins σ H s->t σ H Q->wpAny (model X.prog X.w) X.A (spliced (backTo pos (starEach es X.env))) (AP X pins σ Q) X.xe s
noncomputable def PS (X:Cx)(st:Stmt)(t:TS):Prop:=
 ∀(pins:List (Addr×Obj)) (s:Shared) (σ:St) (H:Hp) (D:Ends),Inv X pins σ H s->t D σ H->wpAny (model X.prog X.w) X.A (exec st X.env) (SP X pins D) X.xe s
noncomputable def PSs (X:Cx)(st:List Stmt)(t:TS):Prop:=
 ∀(pins:List (Addr×Obj)) (s:Shared) (σ:St) (H:Hp) (D:Ends),Inv X pins σ H s->t D σ H->wpAny (model X.prog X.w) X.A (execs st X.env) (SP X pins D) X.xe s
theorem thn {α:Type}{t:Sem α}{Q Q':α->Shared->Prop}{M:Model}{A:Around}{E:Value->Shared->Prop}{s:Shared}(h:wpAny M A t Q E s)(hQ:∀a s,Q a s->Q' a s):wpAny M A t Q' E s:=wpAny_mono h hQ fun _ _ x=>x
section
variable {X:Cx}
noncomputable def tVar (i:Nat):TE:=fun σ H Q=>∃v,σ[i]? =some (some v)/\Q v H
noncomputable def tC (v:V):TE:=fun _ H Q=>Q v H
theorem zkL {i:Nat}{x:Str}{pos:Pos}(hN:X.N[i]? =some x)(hv:Vis X.env.scope x)(hd:(x==("__debug__" :Str))=false:=by decide)(hcd:(x==("__classdict__" :Str))=false:=by decide):PE X (.Name x pos) (tVar i):=by
 intro pins s σ H Q I h
 obtain⟨v,e,h⟩:=h
 obtain⟨m,hn,hl⟩:=I.loc
 obtain⟨u,r,l⟩:=hl i x v hN e hv
 have fin:EP X pins σ Q u s:=⟨v,H,I,r,h⟩
 rcases l with⟨hk,hm⟩|⟨hk,c,hc,hcell⟩
 ·exact wpAny_Name (wpAny_loadName_local I.ok.kind hk hn hm fin) hd
 ·rcases hk with hk|hk
  ·exact wpAny_Name (wpAny_loadName_cell I.ok.kind hk hc hcell fin) hd
  ·exact wpAny_Name (wpAny_loadName_free I.ok.kind hk hc hcell fin hcd) hd
theorem pe_int {i j pos}:PE X (.Constant (.int i) j pos) (tC (.int i)):=fun _ _ _ H _ I h=>wpAny_Constant_int ⟨.int i,H,I.tok _,⟨_,rfl⟩,h⟩
theorem zhf {b j pos}:PE X (.Constant (.bool b) j pos) (tC (.bl b)):=fun _ _ _ H _ I h=>Constant_bool ⟨.bl b,H,I,rfl,h⟩
theorem pe_str {x j pos}:PE X (.Constant (.str x) j pos) (tC (.str x)):=fun _ _ _ H _ I h=>Calls.Constant_str ⟨.str x,H,I.tok _,⟨_,rfl⟩,h⟩
noncomputable def Gl (X:Cx)(x:Str):Prop:=X.env.kindOf x=some .globalImplicit
theorem zhN {E:Value->Shared->Prop}{pins:List (Addr×Obj)}{s:Shared}{σ:St}{H:Hp}{x:Str}{u:Value}{pos:Pos}{Q:Value->Shared->Prop}(I:Inv X pins σ H s)(hg:Gl X x)(hm:X.mg x=some u)(h:Q u s)
  (hd:(x==("__debug__" :Str))=false:=by decide):wpAny (model X.prog X.w) X.A (eval (.Name x pos) X.env) Q E s:=
 Calls.Name_function_global I.ok.kind hg (Calls.loadGlobal_global (by rw[I.ok.glob];exact I.mod.glob.keeps I.bk) hm h) hd
theorem zdu {E:Value->Shared->Prop}{pins:List (Addr×Obj)}{s:Shared}{σ:St}{H:Hp}{x:Str}{u:Value}{pos:Pos}{Q:Value->Shared->Prop}(I:Inv X pins σ H s)(hg:Gl X x)(hm:X.mg x=none)(hv:bootBuiltins x=some u)(h:Q u s)
  (hn:x≠ "__name__" :=by decide) (hd:(x==("__debug__" :Str))=false:=by decide):wpAny (model X.prog X.w) X.A (eval (.Name x pos) X.env) Q E s:=by
 obtain⟨mb,h1,h2⟩:=I.mod.blt
 exact Calls.Name_function_global I.ok.kind hg (Calls.loadGlobal_builtin (by rw[I.ok.glob];exact I.mod.glob.keeps I.bk) hm (by rw[I.ok.blt];exact h1.keeps I.bk) ((h2 x hn).trans hv) h) hd
theorem zbh {x:Str}{v:V}{u:Value}{pos:Pos}(hg:Gl X x)(hm:X.mg x=some u)(r:RelV v u)(hd:(x==("__debug__" :Str))=false:=by decide):PE X (.Name x pos) (tC v):=
 fun _ _ _ H _ I h=>zhN I hg hm ⟨v,H,I,r,h⟩ hd
variable {a b:Expr}{ta tb:TE}{pos:Pos}
noncomputable def tB (t:TE):TT:=fun σ H Q=>t σ H fun x H1=>∃c,x=.bl c/\Q c H1
theorem zgG {e:Expr}{t:TE}(h:PE X e t)(he:∀whole,isTrue e X.env whole=(do let v<-whole;standAt e.pos;holding [v] (truthy v)):=by intro _;rfl):PT X e (tB t):=by
 intro pins s σ H Q I hw
 refine isTrue_plain (thn (h pins s σ H _ I hw) fun v s1 zq=> ?_) (he _)
 obtain⟨x,H1,I1,r1,q1⟩:=zq
 obtain⟨d,rfl,q⟩:=q1
 cases r1
 exact wpAny_truthy_bool ⟨H1,I1,q⟩
variable {tA tB':TT}{rest:List Expr}
noncomputable def tOr (t u:TT):TT:=fun σ H Q=>t σ H fun c H1=>if c=true then Q true H1 else u σ H1 Q
noncomputable def tNot (t:TT):TT:=fun σ H Q=>t σ H fun c H1=>Q (!c) H1
theorem zgH (ha:PT X a tA):PW X (.BoolOp .Or [a] pos) tA:=by
 intro wh pins s σ H Q I h
 refine isTrue_or (thn (ha pins s σ H Q I h) fun c s1 e=> ?_)
 cases c with
 |false=>exact isTrue_or_nil e
 |true=>exact e
theorem zi0 (ha:PT X a tA)(hb:PW X (.BoolOp .Or (b::rest) pos) tB'):PW X (.BoolOp .Or (a::b::rest) pos) (tOr tA tB'):=by
 intro wh pins s σ H Q I h
 refine isTrue_or (thn (ha pins s σ H _ I h) fun c s1 zq=> ?_)
 obtain⟨H1,I1,q1⟩:=zq
 cases c with
 |true=>exact⟨H1,I1,q1⟩
 |false=>exact hb wh pins s1 σ H1 Q I1 q1
theorem zhO (ha:PT X a tA):PT X (.UnaryOp .Not a pos) (tNot tA):=by
 intro pins s σ H Q I h
 exact isTrue_not (ha pins s σ H (fun c H1=>Q (!c) H1) I h)
noncomputable def zlz (ta tb:TE):TE:=fun σ H Q=>ta σ H fun x H1=>∃c,x=.bl c/\if c=true then tb σ H1 Q else Q (.bl false) H1
theorem zkM {op}{t:TE}(h:PE X a t):PE X (.BoolOp op [a] pos) t:=fun pins s σ H Q I hw=>BoolOp_one (h pins s σ H Q I hw)
theorem zkN (ha:PE X a ta)(hb:PE X (.BoolOp .And (b::rest) pos) tb):PE X (.BoolOp .And (a::b::rest) pos) (zlz ta tb):=by
 intro pins s σ H Q I h
 refine BoolOp_and (thn (ha pins s σ H _ I h) fun v s1 zq=> ?_)
 obtain⟨x,H1,I1,r1,q1⟩:=zq
 obtain⟨c,rfl,q1⟩:=q1
 cases r1
 refine wpAny_truthy_bool ?_
 cases c with
 |true=>exact hb pins s1 σ H1 Q I1 q1
 |false=>exact⟨.bl false,H1,I1,rfl,q1⟩
noncomputable def tIf (t:TT)(ta tb:TE):TE:=fun σ H Q=>t σ H fun c H1=>if c=true then ta σ H1 Q else tb σ H1 Q
theorem zcF {c:Expr}(hc:PT X c tA)(ha:PE X a ta)(hb:PE X b tb):PE X (.IfExp c a b pos) (tIf tA ta tb):=by
 intro pins s σ H Q I h
 refine wpAny_IfExp (thn (hc pins s σ H _ I h) fun d s1 zq=> ?_)
 obtain⟨H1,I1,q1⟩:=zq
 cases d with
 |true=>exact ha pins s1 σ H1 Q I1 q1
 |false=>exact hb pins s1 σ H1 Q I1 q1
end
noncomputable def SqL (K:PySem.W.Frag)(H:Hp)(a:Addr)(xs:List V):Prop:=
 Rd H a (.lst xs)∨
  ∃(o:Obj) (its:Array Value) (n:Nat),K.lookup a=some o/\o.cls=.type "list" /\o.dict=none/\o.data=.seq its n/\its.size<=sizeLine/\Vals xs its.toList
noncomputable def SqT (K:PySem.W.Frag)(H:Hp)(a:Addr)(xs:List V):Prop:=
 Rd H a (.tup xs)∨
  ∃(o:Obj) (its:Array Value) (n:Nat),K.lookup a=some o/\o.cls=.type "tuple" /\o.data=.seq its n/\its.size<=sizeLine/\Vals xs its.toList
noncomputable def absV:Value->Option V
 | .none=>some .non
 | .bool b=>some (.bl b)
 | .int i _=>some (.int i)
 | .str x _=>some (.str x)
 | .bytes b _=>some (.byt b)
 | .float b _=>some (.flt b)
 | .ref a=>some (.ref a)
 | .type n=>some (.ty n)
 |_=>none
theorem RelV.abs {x:V}{u:Value}(r:RelV x u):absV u=some x:=by
 cases x with
 |non=>cases r;rfl
 |bl _=>cases r;rfl
 |int _=>obtain⟨t,rfl⟩:=r;rfl
 |str _=>obtain⟨t,rfl⟩:=r;rfl
 |byt _=>obtain⟨t,rfl⟩:=r;rfl
 |flt _=>obtain⟨t,rfl⟩:=r;rfl
 |ref _=>cases r;rfl
 |ty _=>cases r;rfl
theorem RelV.inj {x y:V}{u:Value}(r:RelV x u)(q:RelV y u):x=y:=Option.some.inj (r.abs.symm.trans q.abs)
theorem Vals.inj:∀{xs ys:List V} {us:List Value},Vals xs us->Vals ys us->xs=ys
 |_,_,_,.nil,.nil=>rfl
 |_,_,_,.cons r t,.cons r' t'=>by rw[r.inj r',Vals.inj t t']
section
variable {X:Cx}{pins:List (Addr×Obj)}{σ:St}{H:Hp}{s:Shared}{a:Addr}{xs ys:List V}
theorem SqL.of {K:PySem.W.Frag}(h:H a=some (.lst xs)):SqL K H a xs:=.inl (.inl h)
theorem SqT.of {K:PySem.W.Frag}(h:H a=some (.tup xs)):SqT K H a xs:=.inl (.inl h)
theorem Inv.list (I:Inv X pins σ H s)(h:SqL X.K H a xs):∃its:List Value,Vals xs its/\PlainL s.heap a its.toArray/\xs.length<=sizeLine:=by
 rcases h with h|⟨o,its,n,hk,hc,hd,hs,hz,r⟩
 ·obtain ⟨z,its,n,r,e⟩:=h.ok I.hok
  exact⟨its,r,⟨_,n,e,rfl,rfl,rfl⟩,z⟩
 ·refine ⟨its.toList,r,⟨o,n,I.kIn a o hk,hc,hd,by simpa using hs⟩, ?_⟩
  have e:=r.length
  simp only[Array.length_toList] at e
  (first|lia|omega)
theorem Inv.tuple (I:Inv X pins σ H s)(h:SqT X.K H a xs):∃its:List Value,Vals xs its/\IsTup s.heap a its.toArray/\xs.length<=sizeLine:=by
 rcases h with h|⟨o,its,n,hk,hc,hs,hz,r⟩
 ·obtain ⟨z,its,r,p⟩:=h.ok I.hok
  exact⟨its,r,p.tup,z⟩
 ·refine ⟨its.toList,r,⟨o,I.kIn a o hk,hc,n,by simpa using hs⟩, ?_⟩
  have e:=r.length
  simp only[Array.length_toList] at e
  (first|lia|omega)
theorem Inv.list_inj (I:Inv X pins σ H s)(h:SqL X.K H a xs)(h':SqL X.K H a ys):xs=ys:=by
 obtain⟨its,r,⟨o,n,e,_,_,d⟩,_⟩:=I.list h
 obtain⟨its',r',⟨o',n',e',_,_,d'⟩,_⟩:=I.list h'
 rw[e] at e';cases e'
 rw[d] at d'
 injection d' with d1 _
 have:its=its':=by simpa using congrArg Array.toList d1
 subst this
 exact r.inj r'
theorem Inv.tuple_inj (I:Inv X pins σ H s)(h:SqT X.K H a xs)(h':SqT X.K H a ys):xs=ys:=by
 obtain⟨its,r,⟨o,e,_,n,d⟩,_⟩:=I.tuple h
 obtain⟨its',r',⟨o',e',_,n',d'⟩,_⟩:=I.tuple h'
 rw[e] at e';cases e'
 rw[d] at d'
 injection d' with d1 _
 have:its=its':=by simpa using congrArg Array.toList d1
 subst this
 exact r.inj r'
end
noncomputable abbrev Cx.wish (X:Cx)(E:Value->Shared->Prop):Cx:={X with xe:=E}
noncomputable abbrev Cx.nox (X:Cx):Cx:=X.wish fun _ _=>False
theorem Cx.Ok.wish {X:Cx}(ok:X.Ok)(E:Value->Shared->Prop):(X.wish E).Ok:=
 ⟨ok.mod,ok.kind,ok.glob,ok.blt,ok.above,ok.inj,ok.has,ok.cab,ok.hd,ok.frames,ok.stk,ok.exf,ok.bs,ok.bsz,ok.noex,ok.exfs,ok.funs,ok.frf⟩
theorem Cx.Ok.unwish {X:Cx}{E:Value->Shared->Prop}(ok:(X.wish E).Ok):X.Ok:=
 ⟨ok.mod,ok.kind,ok.glob,ok.blt,ok.above,ok.inj,ok.has,ok.cab,ok.hd,ok.frames,ok.stk,ok.exf,ok.bs,ok.bsz,ok.noex,ok.exfs,ok.funs,ok.frf⟩
section
variable {X:Cx}{pins:List (Addr×Obj)}{σ:St}{H:Hp}{s:Shared}{E:Value->Shared->Prop}
theorem Inv.wish (I:Inv X pins σ H s)(E:Value->Shared->Prop):Inv (X.wish E) pins σ H s:=⟨I.ok.wish E,I.os,I.bare,I.base,I.loc,I.cell,I.free,I.freeC,I.pin,I.hok,I.len⟩
theorem Inv.unwish (I:Inv (X.wish E) pins σ H s):Inv X pins σ H s:=⟨I.ok.unwish,I.os,I.bare,I.base,I.loc,I.cell,I.free,I.freeC,I.pin,I.hok,I.len⟩
theorem SP.unwish {D:Ends}{f:Flow}{s':Shared}(h:SP (X.wish E) pins D f s'):SP X pins D f s':=by
 cases f with
 |next=>obtain⟨σ',H',I,q⟩:=h;exact⟨σ',H',I.unwish,q⟩
 |brk=>obtain⟨σ',H',I,q⟩:=h;exact⟨σ',H',I.unwish,q⟩
 |cont=>obtain⟨σ',H',I,q⟩:=h;exact⟨σ',H',I.unwish,q⟩
 |ret u=>obtain⟨v,σ',H',I,r,q⟩:=h;exact⟨v,σ',H',I.unwish,r,q⟩
theorem PSs.nox {st:List Stmt}{t:TS}(h:PSs X.nox st t):PSs X st t:=fun pins s σ H D I hw=>
 wpAny_mono (h pins s σ H D (I.wish _) hw) (fun _ _ q=>q.unwish) fun _ _ z=>False.elim z
end
section
variable {X:Cx}{st:Stmt}{rest:List Stmt}{t u:TS}{e:Expr}{te:TE}{pos:Pos}
noncomputable def zlA:TS:=fun D σ H=>D.nx σ H
noncomputable def tSeq (t u:TS):TS:=fun D σ H=>t {D with nx:=u D} σ H
theorem zaV:PSs X [] zlA:=fun _ _ σ H _ I h=>wpAny_execs_nil ⟨σ,H,I,h⟩
theorem zad (h1:PS X st t)(h2:PSs X rest u):PSs X (st::rest) (tSeq t u):=by
 intro pins s σ H D I h
 refine wpAny_execs_cons (thn (h1 pins s σ H {D with nx:=u D} I h) fun f s1 q=> ?_)
 cases f with
 |next=>
  obtain⟨σ',H',I',q⟩:=q
  exact h2 pins s1 σ' H' D I' q
 |ret v=>exact q
 |brk=>exact q
 |cont=>exact q
theorem zae (h1:PS X st t):PSs X [st] t:=by
 intro pins s σ H D I h
 refine wpAny_execs_cons (thn (h1 pins s σ H D I h) fun f s1 q=> ?_)
 cases f with
 |next=>exact wpAny_execs_nil q
 |ret v=>exact q
 |brk=>exact q
 |cont=>exact q
theorem Inv.quiet {pins:List (Addr×Obj)}{σ:St}{H:Hp}{s:Shared}(I:Inv X pins σ H s):interactive X.env=false:=by simp[interactive,I.ok.kind]
noncomputable def zlB (te:TE):TS:=fun D σ H=>te σ H fun _ H1=>D.nx σ H1
theorem zdv (he:PE X e te)(hs:swapsWith e none pos.line X.env=pure false:=by rfl):PS X (.Expr e pos) (zlB te):=by
 intro pins s σ H D I h
 exact wpAny_Expr_any (thn (he pins s σ H _ I h) fun v s1 ⟨x,H1,I1,r1,q1⟩=>⟨σ,H1,I1,q1⟩) I.quiet hs
noncomputable def tRet (te:TE):TS:=fun D σ H=>te σ H D.rt
theorem zaf (he:PE X e te):PS X (.Return (some e) pos) (tRet te):=by
 intro pins s σ H D I h
 exact wpAny_Return_some (thn (he pins s σ H _ I h) fun v s1 ⟨x,H1,I1,r1,q1⟩=>⟨x,σ,H1,I1,r1,q1⟩)
noncomputable def tIfS (c:TT)(t u:TS):TS:=fun D σ H=>c σ H fun b H1=>if b=true then t D σ H1 else u D σ H1
theorem zcs {c:Expr}{a b:List Stmt}{tc:TT}(hc:PT X c tc)(ha:PSs X a t)(hb:PSs X b u):PS X (.If c a b pos) (tIfS tc t u):=by
 intro pins s σ H D I h
 refine wpAny_If (thn (hc pins s σ H _ I h) fun d s1 zq=> ?_)
 obtain⟨H1,I1,q1⟩:=zq
 cases d with
 |true=>exact ha pins s1 σ H1 D I1 q1
 |false=>exact hb pins s1 σ H1 D I1 q1
noncomputable def zkO:TS:=fun _ _ _=>False
theorem zhP {sts:List Stmt}:PSs X sts zkO:=fun _ _ _ _ _ _ h=>h.elim
end
noncomputable abbrev TG:=V->St->Hp->(St->Hp->Prop)->Prop
noncomputable abbrev TGs:=List V->St->Hp->(St->Hp->Prop)->Prop
noncomputable def PG (X:Cx)(target:Expr)(t:TG):Prop:=
 ∀(pins:List (Addr×Obj)) (s:Shared) (σ:St) (H:Hp) (v:V) (u:Value) (Q:St->Hp->Prop),Inv X pins σ H s->RelV v u->t v σ H Q->
  wpAny (model X.prog X.w) X.A (assign target X.env u) (fun _ s'=>∃σ' H',Inv X pins σ' H' s'/\Q σ' H') X.xe s
noncomputable def PGs (X:Cx)(ts:List Expr)(t:TGs):Prop:=
 ∀(pins:List (Addr×Obj)) (s:Shared) (σ:St) (H:Hp) (vs:List V) (us:List Value) (Q:St->Hp->Prop),Inv X pins σ H s->Vals vs us->t vs σ H Q->
  wpAny (model X.prog X.w) X.A (assignInOrder ((assignEach ts X.env).map (·.2)) us) (fun _ s'=>∃σ' H',Inv X pins σ' H' s'/\Q σ' H') X.xe s
noncomputable abbrev TSet:=V->V->V->Hp->(Hp->Prop)->Prop
noncomputable def PSet (X:Cx)(t:TSet):Prop:=
 ∀(pins:List (Addr×Obj)) (s:Shared) (σ:St) (H:Hp) (o i v:V) (ov iv u:Value) (Q:Hp->Prop),Inv X pins σ H s->RelV o ov->RelV i iv->RelV v u->t o i v H Q->
  wpAny (model X.prog X.w) X.A (setItem ov iv u) (fun _ s'=>∃H',Inv X pins σ H' s'/\Q H') X.xe s
noncomputable abbrev TIp:=V->V->Hp->VK->Prop
noncomputable def PIp (X:Cx)(op:Operator)(t:TIp):Prop:=
 ∀(pins:List (Addr×Obj)) (s:Shared) (σ:St) (H:Hp) (x y:V) (v u:Value) (Q:VK),Inv X pins σ H s->RelV x v->RelV y u->t x y H Q->
  wpAny (model X.prog X.w) X.A (inplaceOp op v u) (EP X pins σ Q) X.xe s
section
variable {X:Cx}{pos:Pos}
noncomputable def zbi (i:Nat):TG:=fun v σ H Q=>Q (σ.set i (some v)) H
theorem zaq {i:Nat}{x:Str}(hN:X.N.Nodup)(hi:X.N[i]? =some x)(hx:Loc X.env.scope x)(hf:X.fn x=true∨X.env.scope.names.lookup x=some .local:=by first|exact .inl rfl|exact .inr rfl|assumption):PG X (.Name x pos) (zbi i):=by
 intro pins s σ H v u Q I r h
 exact wpAny_assign_Name (zcE I hN hi hx r (fun s' I'=>⟨_,H,I',h⟩) hf)
noncomputable def gNil:TGs:=fun vs σ H Q=>vs=[]/\Q σ H
noncomputable def zdw (t:TG)(u:TGs):TGs:=fun vs σ H Q=>∃v r,vs=v::r/\t v σ H fun σ' H'=>u r σ' H' Q
theorem zfT:PGs X [] gNil:=by
 intro pins s σ H vs us Q I r h
 obtain⟨e,h⟩:=h
 subst e
 cases r
 exact assignInOrder_nil ⟨σ,H,I,h⟩
theorem zch {e:Expr}{es:List Expr}{t:TG}{u:TGs}(h1:PG X e t)(h2:PGs X es u)
  (hs:(assignEach (e::es) X.env).map (·.2)=assign e X.env::(assignEach es X.env).map (·.2):=by rfl):PGs X (e::es) (zdw t u):=by
 intro pins s σ H vs us Q I r h
 obtain⟨v,vr,e1,h⟩:=h
 subst e1
 cases r with
 |cons r rr=>
  rw[hs]
  refine assignInOrder_cons (thn (h1 pins s σ H _ _ _ I r h) fun _ s1 zq=> ?_)
  obtain⟨σ1,H1,I1,q1⟩:=zq
  exact h2 pins s1 σ1 H1 _ _ Q I1 rr q1
noncomputable def gTup (K:PySem.W.Frag)(n:Nat)(t:TGs):TG:=fun v σ H Q=>∃a xs,v=.ref a/\SqT K H a xs/\xs.length=n/\t xs σ H Q
theorem zhQ {es:List Expr}{k:Nat}{t:TGs}{n:Nat}(hc:X.calm=true)(h:PGs X es t)
  (hn:(assignEach es X.env).length=n:=by rfl) (hst:(assignEach es X.env).findIdx? (·.1)=none:=by rfl):PG X (.Tuple es k pos) (gTup X.K n t):=by
 intro pins s σ H v u Q I r hw
 obtain⟨a,xs,e1,hq,hl,hw⟩:=hw
 subst e1
 cases r
 obtain⟨its,rv,ht,hz⟩:=I.tuple hq
 refine assign_Tuple_tuple (I.ok.hd hc) ht (by simp[hn,<-hl,rv.length]) hst fun h' hx=> ?_
 have I1:Inv X pins σ H {s with heap:=h'}:=I.kept (t':=s.toks) fun b o e=>hx b o (Nat.ne_of_lt (Heap.lt_size e)) e
 exact h pins _ σ H xs _ Q I1 (by simpa using rv) hw
noncomputable def gSub (to ti:TE)(t:TSet):TG:=fun v σ H Q=>to σ H fun o H1=>ti σ H1 fun i H2=>t o i v H2 fun H3=>Q σ H3
theorem zdx {o i:Expr}{to ti:TE}{t:TSet}(ho:PE X o to)(hi:PE X i ti)(hs:PSet X t)
  (ha:∀v,assign (.Subscript o i pos) X.env v=(do
   let ov<-holding [v] (eval o X.env)
   let iv<-holding [v,ov] (eval i X.env)
   standAt pos
   holding [v,ov,iv] (setItem ov iv v)
   release [v,ov,iv] []):=by intro _;rfl):PG X (.Subscript o i pos) (gSub to ti t):=by
 intro pins s σ H v u Q I r h
 rw[ha]
 refine wpAny_bind (wpAny_holding (thn (ho pins s σ H _ I h) fun ov s1 zq=> ?_))
 obtain⟨x,H1,I1,r1,q1⟩:=zq
 refine wpAny_bind (wpAny_holding (thn (hi pins s1 σ H1 _ I1 q1) fun iv s2 zq=> ?_))
 obtain⟨y,H2,I2,r2,q2⟩:=zq
 refine wpAny_bind (wpAny_standAt (wpAny_bind (wpAny_holding (thn (hs pins s2 σ H2 x y v ov iv u _ I2 r1 r2 r q2) fun _ s3 zq=> ?_))))
 obtain⟨H3,I3,q3⟩:=zq
 exact wpAny_release ⟨σ,H3,I3,q3⟩
noncomputable def tAsg (te:TE)(g:TG):TS:=fun D σ H=>te σ H fun x H1=>g x σ H1 D.nx
theorem zdy {tg e:Expr}{te:TE}{g:TG}(he:PE X e te)(hg:PG X tg g)(hs:swapsWithSole [tg] e pos.line X.env=pure false:=by rfl)(hw:swappedStores [tg] e X.env=pure none:=by rfl)
  (h1:(assignEach [tg] X.env).map (·.2)=[assign tg X.env]:=by rfl):PS X (.Assign [tg] e pos) (tAsg te g):=by
 intro pins s σ H D I h
 refine wpAny_Assign_stores (thn (he pins s σ H _ I h) fun v s1 zq=> ?_) hs hw
 obtain⟨x,H1,I1,r1,q1⟩:=zq
 rw[h1]
 exact thn (hg pins s1 σ H1 x v _ I1 r1 q1) fun _ s2 q=>q
theorem zak {i:Nat}{x:Str}{e:Expr}{te:TE}{pos':Pos}(hN:X.N.Nodup)(hi:X.N[i]? =some x)(hx:Loc X.env.scope x)(he:PE X e te)(hs:swapsWith e (some (.Name x pos')) pos.line X.env=pure false:=by rfl)(hf:X.fn x=true∨X.env.scope.names.lookup x=some .local:=by first|exact .inl rfl|exact .inr rfl|assumption):
  PS X (.Assign [.Name x pos'] e pos) (tAsg te (zbi i)):=by
 intro pins s σ H D I h
 refine wpAny_Assign_Name (thn (he pins s σ H _ I h) fun v s1 zq=> ?_) hs
 obtain⟨y,H1,I1,r1,q1⟩:=zq
 exact zcE I1 hN hi hx r1 (fun s2 I2=>⟨_,H1,I2,q1⟩) hf
noncomputable def tPar (i j:Nat)(ta:TA):TS:=fun D σ H=>ta σ H fun vs H1=>∃v w,vs=[v,w]/\D.nx ((σ.set i (some v)).set j (some w)) H1
theorem zfe {i j:Nat}{x y:Str}{a b:Expr}{ta:TA}{px py pt:Pos}{kt k2 pt2}(hc:X.calm=true)(hN:X.N.Nodup)(hi:X.N[i]? =some x)(hj:X.N[j]? =some y)(hij:i≠j)
  (hx:X.env.scope.names.lookup x=some .local) (hy:X.env.scope.names.lookup y=some .local) (ha:PA X [a,b] ta)
  (hw:swappedStores [.Tuple [.Name x px,.Name y py] kt pt] (.Tuple [a,b] k2 pt2) X.env=pure (some [x,y]))
  (hs:swapsWithSole [.Tuple [.Name x px,.Name y py] kt pt] (.Tuple [a,b] k2 pt2) pos.line X.env=pure false:=by rfl):
  PS X (.Assign [.Tuple [.Name x px,.Name y py] kt pt] (.Tuple [a,b] k2 pt2) pos) (tPar i j ta):=by
 intro pins s σ H D I h
 rw[exec_Assign_arm]
 refine wpAny_bind (wpAny_standAt ?_)
 rw[hs]
 refine wpAny_bind (wpAny_pure ?_)
 rw[if_neg (by decide)]
 refine wpAny_bind (Tuple_ (thn (ha _ pins s σ H _ I h) fun us s1 zq=> ?_))
 obtain⟨vs,H1,I1,r1,q1⟩:=zq
 obtain⟨v,w,e1,q1⟩:=q1
 subst e1
 obtain⟨u1,u2,rfl,rv,rw'⟩:∃u1 u2,us=[u1,u2]/\RelV v u1/\RelV w u2:=by
  cases r1 with
  | cons p q=>
   cases q with
   |cons p' q'=>
    cases q'
    exact⟨_,_,rfl,p,p'⟩
 refine wpAny_newObj_type ?_ (by show 2<=sizeLine;decide)
 have I2:Inv X pins σ H1 {s1 with heap:=s1.heap.push {cls:=.type "tuple",data:=.seq [u1,u2].toArray}}:=I1.kept (t':=s1.toks) fun b o e=>Heap.get?_push_of_some _ e
 rw[hw]
 refine wpAny_bind (wpAny_pure ?_)
 show wpAny (model X.prog X.w) X.A (do rule "assign.swapped-stores";let items<-unpackItems (.ref s1.heap.objs.size) 2 none;assignInOrder [fun v=>bindName X.env y v,fun v=>bindName X.env x v] items.reverse;pure Flow.next) _ _ _
 refine wpAny_bind (wpAny_rule (wpAny_bind (unpackItems_tuple (items:=#[u1,u2]) (I.ok.hd hc) (IsTup.new s1.heap _) fun h' hx'=> ?_)))
 have I3:=I2.kept (h':=h') (t':=s1.toks) fun b o e=>hx' b o (Nat.ne_of_lt (Heap.lt_size e)) e
 show wpAny _ _ (assignInOrder [fun v=>bindName X.env y v,fun v=>bindName X.env x v] [u2,u1] >>= fun _=>pure Flow.next) _ _ _
 refine wpAny_bind (assignInOrder_cons (wpAny_bindName (zcE I3 hN hj (.inl hy) rw' (fun s2 I4=> ?_) (.inr hy))))
 refine assignInOrder_cons (wpAny_bindName (zcE I4 hN hi (.inl hx) rv (fun s3 I5=>assignInOrder_nil (wpAny_pure ?_)) (.inr hx)))
 rw[List.set_comm _ _ (Ne.symm hij)] at I5
 exact⟨_,H1,I5,q1⟩
noncomputable def tAug (i:Nat)(te:TE)(ti:TIp):TS:=fun D σ H=>∃x,σ[i]? =some (some x)/\te σ H fun y H1=>ti x y H1 fun z H2=>D.nx (σ.set i (some z)) H2
theorem zkP {i:Nat}{x:Str}{e:Expr}{te:TE}{op:Operator}{ti:TIp}{pos':Pos}(hN:X.N.Nodup)(hi:X.N[i]? =some x)(hx:Loc X.env.scope x)(he:PE X e te)(ho:PIp X op ti)(hf:X.fn x=true∨X.env.scope.names.lookup x=some .local:=by first|exact .inl rfl|exact .inr rfl|assumption):
  PS X (.AugAssign (.Name x pos') op e pos) (tAug i te ti):=by
 intro pins s σ H D I h
 obtain⟨v,e1,h⟩:=h
 obtain⟨m,hn,hl⟩:=I.loc
 have vis:Vis X.env.scope x:=by rcases hx with k|k;exact .inl k;exact .inr (.inl k)
 obtain⟨u,r,l⟩:=hl i x v hi e1 vis
 refine wpAny_AugAssign_Name ?_
 have go:wpAny (model X.prog X.w) X.A (eval e X.env) (fun w s₂=>wpAny (model X.prog X.w) X.A (inplaceOp op u w) (fun r s₃=>wpAny (model X.prog X.w) X.A (storeName X.env x r) (fun _=>SP X pins D .next) X.xe s₃) X.xe s₂) X.xe s:=by
  refine thn (he pins s σ H _ I h) fun w s1 zq=> ?_
  obtain⟨y,H1,I1,r1,q1⟩:=zq
  refine thn (ho pins s1 σ H1 v y u w _ I1 r r1 q1) fun z s2 zq=> ?_
  obtain⟨zv,H2,I2,r2,q2⟩:=zq
  exact zcE I2 hN hi hx r2 (fun s3 I3=>⟨_,H2,I3,q2⟩) hf
 rcases l with⟨hk,hm⟩|⟨hk,c,hc,hcell⟩
 ·exact wpAny_loadName_local I.ok.kind hk hn hm go
 ·rcases hk with hk|hk
  ·exact wpAny_loadName_cell I.ok.kind hk hc hcell go
  ·rcases hx with k|k
   ·have:X.env.scope.names.lookup x=some .free:=hk
    rw[k] at this;cases this
   ·have:X.env.scope.names.lookup x=some .free:=hk
    rw[k] at this;cases this
noncomputable def ipI (f:Int->Int->Int):TIp:=fun x y H Q=>∃i j,x=.int i/\y=.int j/\Q (.int (f i j)) H
theorem zkQ:PIp X .Add (ipI fun i j=>i+j):=by
 intro pins s σ H x y v u Q I r1 r2 h
 obtain⟨i,j,e1,e2,q⟩:=h
 subst e1;subst e2
 obtain⟨t,rfl⟩:=r1
 obtain⟨t',rfl⟩:=r2
 exact iadd_int ⟨.int _,H,I.tok _,⟨_,rfl⟩,q⟩
noncomputable def zkR (c:TT)(tb:TS):TS:=fun D σ H=>∃W:Nat->St->Hp->Prop,(∃m,W m σ H)/\∀m σ H,W m σ H->
 c σ H fun b H1=>if b=true then ∃N:St->Hp->Prop,(∀σ' H',N σ' H'->∃m',m'<m/\W m' σ' H')/\tb {D with nx:=N,ct:=N,bk:=D.nx} σ H1 else D.nx σ H1
theorem zdj {c:Expr}{body:List Stmt}{tc:TT}{tb:TS}(hp:PassesOwn (model X.prog X.w) X.A X.env X.xe)(hc:PT X c tc)(hb:PSs X body tb):PS X (.While c body [] pos) (zkR tc tb):=by
 intro pins s σ H D I h
 obtain⟨W,⟨m0,w0⟩,turn⟩:=h
 refine wpAny_While (codeAny_whileLoop (fun n s'=>∃σ' H',Inv X pins σ' H' s'/\W n σ' H') ?_ m0 ⟨σ,H,I,w0⟩)
 rintro n s1 ⟨σ1,H1,I1,w1⟩
 refine wpAny_passesOwn hp (thn (hc pins s1 σ1 H1 _ I1 (turn n σ1 H1 w1)) fun b s2 zq=> ?_)
 obtain⟨H2,I2,q2⟩:=zq
 cases b with
 | true=>
  obtain⟨N,hN,q2⟩:=q2
  rw[if_pos rfl]
  refine wpAny_passesOwn hp (thn (hb pins s2 σ1 H2 _ I2 q2) fun f s3 q3=> ?_)
  cases f with
  |next=>
   obtain⟨σ3,H3,I3,n3⟩:=q3
   obtain⟨m',hm,w3⟩:=hN σ3 H3 n3
   exact⟨m',hm,σ3,H3,I3,w3⟩
  |cont=>
   obtain⟨σ3,H3,I3,n3⟩:=q3
   obtain⟨m',hm,w3⟩:=hN σ3 H3 n3
   exact⟨m',hm,σ3,H3,I3,w3⟩
  |brk=>exact q3
  |ret v=>exact q3
 |false=>
  rw[if_neg Bool.false_ne_true]
  exact wpAny_execs_nil ⟨σ1,H2,I2,q2⟩
end
structure It where
 go:Nat->Hp->Prop
 yld:Nat->Hp->V->Hp->Prop
 stop:Nat->Hp->Prop
noncomputable def FpOk (X:Cx)(pins:List (Addr×Obj))(H:Hp)(b:Addr):Prop:=
 H b=none/\b≠X.env.locals/\b∉X.fs/\(b∈X.ex∨X.s₀.heap.objs.size<=b)/\(∀x c,X.env.cells.lookup x=some c->c≠b)/\∀p∈X.pn++pins,p.1≠b
theorem Inv.fpOk {X:Cx}{pins:List (Addr×Obj)}{σ:St}{H H':Hp}{s:Shared}{b:Addr}(I:Inv X pins σ H s)(hb:s.heap.objs.size<=b)(hn:H' b=none):FpOk X pins H' b:=by
 refine⟨hn,Nat.ne_of_gt (Nat.lt_of_lt_of_le I.lt hb),I.nofs hb,.inr (Nat.le_trans I.sz hb),fun x c e z=> ?_,fun p hp z=> ?_⟩
 ·obtain ⟨v,q⟩:=I.cell x c e
  exact absurd (Nat.lt_of_lt_of_le q.lt (by rw[z];exact hb)) (Nat.lt_irrefl _)
 ·exact absurd (Nat.lt_of_lt_of_le (Heap.lt_size (I.pin p hp).1) (by rw[z];exact hb)) (Nat.lt_irrefl _)
structure Turn (P:Program) (w:World) (K:PySem.W.Frag) (tg:Expr) (J:It) (fp:List Addr) (it:Addr) (tn:Nat->Heap->Prop):Prop where
 mem:it∈fp
 obj:∀i h,tn i h->∀b∈fp,∃o,h.get? b=some o/\∀v,o.data≠.cell v
 keep:∀i h h',tn i h->(∀b∈fp,∀o,h.get? b=some o->h'.get? b=some o)->tn i h'
 item:∀(X:Cx),X.prog=P->X.w=w->X.K=K->X.calm=true->∀(i:Nat) (pins:List (Addr×Obj)) (s:Shared) (σ:St) (H:Hp) (E:Value->Shared->Prop),Inv X pins σ H s->(∀b∈fp,FpOk X pins H b)->tn i s.heap->J.go i H->
  wpAny (model P w) X.A (pyNext (.ref it)) (fun r s1=>∃u,r=some u/\
   wpAny (model P w) X.A (letOwnedTupleGo tg (.ref it) u) (fun _ s2=>∃x H',Inv X pins σ H' s2/\RelV x u/\J.yld i H x H'/\tn (i+1) s2.heap/\∀b∈fp,H' b=none) E s1) E s
 done:∀(X:Cx),X.prog=P->X.w=w->X.K=K->X.calm=true->∀(i:Nat) (pins:List (Addr×Obj)) (s:Shared) (σ:St) (H:Hp) (E:Value->Shared->Prop),Inv X pins σ H s->(∀b∈fp,FpOk X pins H b)->tn i s.heap->J.stop i H->
  wpAny (model P w) X.A (pyNext (.ref it)) (fun r s1=>r=none/\Inv X pins σ H s1) E s
 self:∀(A:Around) (i:Nat) (s:Shared) (Q:Value->Shared->Prop) (E:Value->Shared->Prop),tn i s.heap->Q (.ref it) s->wpAny (model P w) A (pyIter (.ref it)) Q E s
noncomputable abbrev TI:=St->Hp->(It->Hp->Prop)->Prop
noncomputable def PIE (X:Cx)(pins:List (Addr×Obj))(σ:St)(tg:Expr)(R:It->Hp->Prop)(itv:Value)(s2:Shared):Prop:=
 ∃(it:Addr) (fp:List Addr) (tn:Nat->Heap->Prop) (J:It) (H':Hp),itv=.ref it/\Inv X pins σ H' s2/\Turn X.prog X.w X.K tg J fp it tn/\tn 0 s2.heap/\(∀b∈fp,FpOk X pins H' b)/\R J H'
noncomputable def PI (X:Cx)(tg iter:Expr)(wi:TI):Prop:=
 ∀(pins:List (Addr×Obj)) (s:Shared) (σ:St) (H:Hp) (R:It->Hp->Prop),Inv X pins σ H s->wi σ H R->
  wpAny (model X.prog X.w) X.A (eval iter X.env) (fun v s1=>wpAny (model X.prog X.w) X.A (pyIter v) (PIE X pins σ tg R) X.xe s1) X.xe s
theorem zj1 {M:Model}{A:Around}{E:Value->Shared->Prop}{s:Shared}{tg:Expr}{it:Addr}{u:Value}{o:Obj}{n:String}{vs:Array Value}{Q:Unit->Shared->Prop}(ho:s.heap.get? it=some o)(hc:o.cls=.type n)(hd:o.data=.fields vs)
    (hn:["enumerate", "zip", "dict_itemiterator", "dict_reverseitemiterator", "odict_iterator", "itertools.zip_longest", "itertools.pairwise"].contains n=false) (hQ:Q () s):wpAny M A (letOwnedTupleGo tg (.ref it) u) Q E s:=by
  unfold letOwnedTupleGo
  cases tg <;>first
    |exact wpAny_pure hQ
    |(cases u<;>first
        |exact wpAny_pure hQ
        | (refine wpAny_bind (wpAny_load ho ?_)
           rw[hc,hd]
           show wpAny M A (if (["enumerate", "zip", "dict_itemiterator", "dict_reverseitemiterator", "odict_iterator", "itertools.zip_longest", "itertools.pairwise"].contains n&&vs[0]? ==some (rawInt _))=true then _ else _) Q E s
           rw[if_neg (by intro h;rw[hn,Bool.false_and] at h;cases h)]
           exact wpAny_pure hQ))
noncomputable def Itl (K:PySem.W.Frag)(a:Addr):It:=
 ⟨fun i H=>∃xs x,SqL K H a xs/\xs[i]? =some x,fun i H x H'=>H'=H/\∀xs,SqL K H a xs->xs[i]? =some x,fun i H=>∃xs,SqL K H a xs/\xs.length<=i⟩
noncomputable def Itt (K:PySem.W.Frag)(a:Addr):It:=
 ⟨fun i H=>∃xs x,SqT K H a xs/\xs[i]? =some x,fun i H x H'=>H'=H/\∀xs,SqT K H a xs->xs[i]? =some x,fun i H=>∃xs,SqT K H a xs/\xs.length<=i⟩
noncomputable def Itr (lo:Int)(n:Nat):It:=⟨fun i _=>i<n,fun i H x H'=>H'=H/\x=.int (lo+i),fun i _=>n<=i⟩
theorem zhR {P:Program}{w:World}{K:PySem.W.Frag}{tg:Expr}(a it:Addr):Turn P w K tg (Itl K a) [it] it (fun i h=>h.IsListIter it a i) where
 mem:=by simp
 obj:=fun i h st b hb=>by
  have e:b=it:=by simpa using hb
  subst e
  obtain⟨o,e,c,d⟩:=st
  exact⟨o,e,fun v z=>by rw[d] at z;cases z⟩
 keep:=fun i h h' st k=>st.at fun o e=>k it (by simp) o e
 item:=by
  intro X hP hw hK hc i pins s σ H E I hf st hg
  subst hP hw hK
  obtain⟨xs,x,hq,hx⟩:=hg
  obtain⟨its,rv,p,hz⟩:=I.list hq
  obtain⟨u,hu,ru⟩:=rv.get hx
  obtain⟨f0,f1,f2,f3,f4,f5⟩:=hf it (by simp)
  refine wpAny_pyNext_list_item st p.isList (x:=u) (by simpa using hu) fun h' st' sb=> ?_
  have I1:Inv X pins σ H {s with heap:=h'}:=I.turned (t':=s.toks) (fun b o hb e=>(sb.2 b hb).trans e) f0 f1 f3 f4 f5
  obtain⟨o,e,c,d⟩:=id st'
  exact⟨u,rfl,zj1 (s:={s with heap:=h'}) e c d (by decide) ⟨x,H,I1,ru,⟨rfl,fun ys hy=>by rw[I.list_inj hy hq];exact hx⟩,st',fun b hb=>(hf b hb).1⟩⟩
 done:=by
  intro X hP hw hK hc i pins s σ H E I hf st hg
  subst hP hw hK
  obtain⟨xs,hq,hx⟩:=hg
  obtain⟨its,rv,p,hz⟩:=I.list hq
  obtain⟨f0,f1,f2,f3,f4,f5⟩:=hf it (by simp)
  have hl:=rv.length
  exact wpAny_pyNext_list_end (I.ok.hd hc) st p.isList (by simp;(first|lia|omega)) fun h' eb=>⟨rfl,I.turned (t':=s.toks) (fun b o hb e=>eb b o hb e) f0 f1 f3 f4 f5⟩
 self:=fun _ _ _ _ _ st h=>wpAny_pyIter_listiter st h
theorem zhg {P:Program}{w:World}{K:PySem.W.Frag}{tg:Expr}(a it:Addr):Turn P w K tg (Itt K a) [it] it (fun i h=>h.IsTupleIter it a i) where
 mem:=by simp
 obj:=fun i h st b hb=>by
  have e:b=it:=by simpa using hb
  subst e
  obtain⟨o,e,c,d⟩:=st
  exact⟨o,e,fun v z=>by rw[d] at z;cases z⟩
 keep:=fun i h h' st k=>st.at fun o e=>k it (by simp) o e
 item:=by
  intro X hP hw hK hc i pins s σ H E I hf st hg
  subst hP hw hK
  obtain⟨xs,x,hq,hx⟩:=hg
  obtain⟨its,rv,p,hz⟩:=I.tuple hq
  obtain⟨u,hu,ru⟩:=rv.get hx
  obtain⟨f0,f1,f2,f3,f4,f5⟩:=hf it (by simp)
  refine wpAny_pyNext_tuple_item st (show s.heap.IsTuple a its.toArray from p) (x:=u) (by simpa using hu) fun h' st' sb=> ?_
  have I1:Inv X pins σ H {s with heap:=h'}:=I.turned (t':=s.toks) (fun b o hb e=>(sb.2 b hb).trans e) f0 f1 f3 f4 f5
  obtain⟨o,e,c,d⟩:=id st'
  exact⟨u,rfl,zj1 (s:={s with heap:=h'}) e c d (by decide) ⟨x,H,I1,ru,⟨rfl,fun ys hy=>by rw[I.tuple_inj hy hq];exact hx⟩,st',fun b hb=>(hf b hb).1⟩⟩
 done:=by
  intro X hP hw hK hc i pins s σ H E I hf st hg
  subst hP hw hK
  obtain⟨xs,hq,hx⟩:=hg
  obtain⟨its,rv,p,hz⟩:=I.tuple hq
  obtain⟨f0,f1,f2,f3,f4,f5⟩:=hf it (by simp)
  have hl:=rv.length
  exact wpAny_pyNext_tuple_end (I.ok.hd hc) st (show s.heap.IsTuple a its.toArray from p) (by simp;(first|lia|omega)) fun h' eb=>⟨rfl,I.turned (t':=s.toks) (fun b o hb e=>eb b o hb e) f0 f1 f3 f4 f5⟩
 self:=fun _ _ _ _ _ st h=>wpAny_pyIter_tupleiter st h
theorem zhh {P:Program}{w:World}{K:PySem.W.Frag}{tg:Expr}(it:Addr)(lo:Int)(n:Nat):Turn P w K tg (Itr lo n) [it] it (fun i h=>IsRangeIter h it (lo+(i:Nat)*1) ((n:Int)-(i:Nat)) 1) where
 mem:=by simp
 obj:=fun i h st b hb=>by
  have e:b=it:=by simpa using hb
  subst e
  exact⟨_,st,fun v z=>by
   have z':Data.fields _=Data.cell v:=z
   cases z'⟩
 keep:=fun i h h' st k=>k it (by simp) _ st
 item:=by
  intro X hP hw hK hc i pins s σ H E I hf st hg
  subst hP hw hK
  obtain⟨f0,f1,f2,f3,f4,f5⟩:=hf it (by simp)
  have W:=Walks.range (prog:=X.prog) (w:=X.w) (I.ok.hd hc) it lo 1 n
  refine W.item i s _ _ hg st fun v h' tk hv st' kk=> ?_
  obtain⟨t,rfl⟩:=hv
  have I1:Inv X pins σ H {s with heap:=h',toks:=tk}:=I.turned (fun b o hb e=>kk b o (by simpa using hb) e) f0 f1 f3 f4 f5
  refine⟨_,rfl,zj1 (s:={s with heap:=h',toks:=tk}) (n:= "range_iterator") st' rfl rfl (by decide) ⟨.int (lo+i),H,I1,⟨t, ?_⟩,⟨rfl,rfl⟩,st',fun b hb=>(hf b hb).1⟩⟩
  rw[Int.mul_one]
 done:=by
  intro X hP hw hK hc i pins s σ H E I hf st hg
  subst hP hw hK
  obtain⟨f0,f1,f2,f3,f4,f5⟩:=hf it (by simp)
  exact wpAny_pyNext_range_end (I.ok.hd hc) st (by have:n<=i:=hg;(first|lia|omega)) fun h' eb=>⟨rfl,I.turned (t':=s.toks) (fun b o hb e=>eb b o hb e) f0 f1 f3 f4 f5⟩
 self:=fun _ _ _ _ _ st h=>wpAny_pyIter_rangeiter st h
section
variable {X:Cx}{tg:Expr}
noncomputable def zlC (K:PySem.W.Frag)(tl:TE):TI:=fun σ H R=>tl σ H fun x H1=>∃a,x=.ref a/\(∃xs,SqL K H1 a xs)/\R (Itl K a) H1
noncomputable def iTup (K:PySem.W.Frag)(tl:TE):TI:=fun σ H R=>tl σ H fun x H1=>∃a,x=.ref a/\(∃xs,SqT K H1 a xs)/\R (Itt K a) H1
theorem zfU {l:Expr}{tl:TE}(hl:PE X l tl):PI X tg l (zlC X.K tl):=by
 intro pins s σ H R I h
 refine thn (hl pins s σ H _ I h) fun v s1 zq=> ?_
 obtain⟨x,H1,I1,r1,q1⟩:=zq
 obtain⟨a,e,⟨xs,hq⟩,q⟩:=q1
 subst e
 cases r1
 obtain⟨its,rv,p,hz⟩:=I1.list hq
 refine wpAny_pyIter_list p.isList ?_
 refine⟨s1.heap.objs.size,[s1.heap.objs.size],_,_,H1,rfl,I1.kept (t':=s1.toks) fun b o e=>Heap.get?_push_of_some _ e,zhR a _,⟨_,Heap.get?_push_size _ rfl,rfl,rfl⟩,fun b hb=> ?_,q⟩
 have e:b=s1.heap.objs.size:=by simpa using hb
 subst e
 exact I1.fpOk (Nat.le_refl _) (I1.hok.fresh (Nat.le_refl _))
theorem zbU {l:Expr}{tl:TE}(hl:PE X l tl):PI X tg l (iTup X.K tl):=by
 intro pins s σ H R I h
 refine thn (hl pins s σ H _ I h) fun v s1 zq=> ?_
 obtain⟨x,H1,I1,r1,q1⟩:=zq
 obtain⟨a,e,⟨xs,hq⟩,q⟩:=q1
 subst e
 cases r1
 obtain⟨its,rv,p,hz⟩:=I1.tuple hq
 refine wpAny_pyIter_tuple (show s1.heap.IsTuple a its.toArray from p) ?_
 refine⟨s1.heap.objs.size,[s1.heap.objs.size],_,_,H1,rfl,I1.kept (t':=s1.toks) fun b o e=>Heap.get?_push_of_some _ e,zhg a _,⟨_,Heap.get?_push_size _ rfl,rfl,rfl⟩,fun b hb=> ?_,q⟩
 have e:b=s1.heap.objs.size:=by simpa using hb
 subst e
 exact I1.fpOk (Nat.le_refl _) (I1.hok.fresh (Nat.le_refl _))
theorem zgI {pins:List (Addr×Obj)}{σ:St}{H:Hp}{s:Shared}{R:It->Hp->Prop}{E:Value->Shared->Prop}{lo hi:Int}{t u v:Tok}{tk:Nat}(I:Inv X pins σ H s)(h1:-(2^62)<=lo)(h2:lo<2^62)(h3:-(2^62)<=hi)(h4:hi<2^62)
  (q:R (Itr lo (hi-lo).toNat) H):wpAny (model X.prog X.w) X.A (pyIter (.ref s.heap.objs.size)) (PIE X pins σ tg R) E {s with heap:=s.heap.push {cls:=.type "range",data:=.fields #[.int lo t,.int hi u,.int 1 v]},toks:=tk}:=by
 refine wpAny_pyIter_range (IsRange.new ..) (small_one h1 h2 h3 h4) ?_
 have I1:Inv X pins σ H {s with heap:=s.heap.push {cls:=.type "range",data:=.fields #[.int lo t,.int hi u,.int 1 v]},toks:=tk}:=I.kept fun b o e=>Heap.get?_push_of_some _ e
 refine⟨(s.heap.push {cls:=.type "range",data:=.fields #[.int lo t,.int hi u,.int 1 v]}).objs.size,[(s.heap.push {cls:=.type "range",data:=.fields #[.int lo t,.int hi u,.int 1 v]}).objs.size],_,_,H,rfl,
  I1.kept (t':=tk) fun b o e=>Heap.get?_push_of_some _ e,zhh _ lo (hi-lo).toNat, ?_,fun b hb=> ?_,q⟩
 ·have e1:lo+((0:Nat):Int)*1=lo:=by simp
  have e2:(((hi-lo).toNat:Nat):Int)-((0:Nat):Int)=Builtin.Range.rangeSize lo hi 1:=by rw[rangeSize_one];split<;>(first|lia|omega)
  show IsRangeIter _ _ (lo+((0:Nat):Int)*1) ((((hi-lo).toNat:Nat):Int)-((0:Nat):Int)) 1
  rw[e1,e2]
  exact Heap.get?_push_size _ rfl
 ·have e:b=(s.heap.push {cls:=.type "range",data:=.fields #[.int lo t,.int hi u,.int 1 v]}).objs.size:=by simpa using hb
  subst e
  exact I1.fpOk (Nat.le_refl _) (I1.hok.fresh (Nat.le_refl _))
noncomputable def zlD (ta:TA):TI:=fun σ H R=>ta σ H fun vs H1=>∃j:Int,vs=[.int j]/\-(2^62)<=j/\j<2^62/\R (Itr 0 j.toNat) H1
noncomputable def zlE (ta:TA):TI:=fun σ H R=>ta σ H fun vs H1=>∃i j:Int,vs=[.int i,.int j]/\(-(2^62)<=i/\i<2^62/\-(2^62)<=j/\j<2^62)/\R (Itr i (j-i).toNat) H1
theorem zaA {a:Expr}{ta:TA}{p pos:Pos}(hg:Gl X "range")(hm:X.mg "range" =none)(ha:PA X [a] ta)(hs:starEach [a] X.env=[(false,eval a X.env)]:=by rfl):PI X tg (.Call (.Name "range" p) [a] [] pos) (zlD ta):=by
 intro pins s σ H R I h
 refine Call_ (zdu I hg hm boot_range (PyProof.Rows.callWith_type1 (thn (ha pos pins s σ H _ I h) fun us s1 zq=> ?_) hs rfl))
 obtain⟨vs,H1,I1,r1,q1⟩:=zq
 obtain⟨j,e,q1,q2,q⟩:=q1
 subst e
 cases r1 with
 |cons r rr=>
  cases rr
  obtain⟨t,rfl⟩:=r
  exact call_range_1 (zgI I1 (by (first|lia|omega)) (by (first|lia|omega)) q1 q2 (by simpa using q))
theorem zdz {a b:Expr}{ta:TA}{p pos:Pos}(hg:Gl X "range")(hm:X.mg "range" =none)(ha:PA X [a,b] ta)(hs:starEach [a,b] X.env=[(false,eval a X.env),(false,eval b X.env)]:=by rfl)(hs2:starEach [b] X.env=[(false,eval b X.env)]:=by rfl):
  PI X tg (.Call (.Name "range" p) [a,b] [] pos) (zlE ta):=by
 intro pins s σ H R I h
 refine Call_ (zdu I hg hm boot_range (PyProof.Rows.callWith_type1 (thn (ha pos pins s σ H _ I h) fun us s1 zq=> ?_) (by rw[hs,hs2]) (by rw[hs2];rfl)))
 obtain⟨vs,H1,I1,r1,q1⟩:=zq
 obtain⟨i,j,e,⟨q1,q2,q3,q4⟩,q⟩:=q1
 subst e
 cases r1 with
 | cons r rr=>
  cases rr with
  |cons r' rr=>
   cases rr
   obtain⟨t,rfl⟩:=r
   obtain⟨t',rfl⟩:=r'
   exact call_range_2 (zgI I1 q1 q2 q3 q4 q)
noncomputable def tFor (wi:TI)(g:TG)(tb:TS):TS:=fun D σ H=>wi σ H fun J H1=>∃W:Nat->Nat->St->Hp->Prop,(∃m,W 0 m σ H1)/\∀i m σ H,W i m σ H->
 (J.stop i H/\D.nx σ H)∨(J.go i H/\∃N:St->Hp->Prop,(∀σ' H',N σ' H'->∃m',m'<m/\W (i+1) m' σ' H')/\∀x H',J.yld i H x H'->g x σ H' fun σ2 H2=>tb {D with nx:=N,ct:=N,bk:=D.nx} σ2 H2)
noncomputable def zbV (fp:List Addr)(h:Heap):List (Addr×Obj):=fp.filterMap fun b=>(h.get? b).map fun o=>(b,o)
theorem zaS {fp:List Addr}{h:Heap}{b:Addr}{o:Obj}(hb:b∈fp)(e:h.get? b=some o):(b,o)∈zbV fp h:=List.mem_filterMap.mpr ⟨b,hb,by rw[e];rfl⟩
theorem zhS {fp:List Addr}{h:Heap}{p:Addr×Obj}(hp:p∈zbV fp h):p.1∈fp/\h.get? p.1=some p.2:=by
 obtain⟨b,hb,e⟩:=List.mem_filterMap.mp hp
 cases q:h.get? b with
 |none=>rw[q] at e;cases e
 |some o=>
  rw[q] at e
  have e':(b,o)=p:=Option.some.inj e
  subst e'
  exact⟨hb,q⟩
theorem Inv.pinned {pins:List (Addr×Obj)}{σ:St}{H:Hp}{s:Shared}{fp:List Addr}(I:Inv X pins σ H s)(hf:∀b∈fp,FpOk X pins H b)(ho:∀b∈fp,∃o,s.heap.get? b=some o/\∀v,o.data≠.cell v):Inv X (pins++zbV fp s.heap) σ H s:=
 I.pins_of fun p hp=>(List.mem_append.mp hp).elim (fun z=>I.pin p (List.mem_append_right _ z)) fun z=>by
  obtain⟨hb,e⟩:=zhS z
  obtain⟨f0,f1,f2,_⟩:=hf p.1 hb
  obtain⟨o,e',d⟩:=ho p.1 hb
  rw[e] at e';cases e'
  exact⟨e,f0,f1,f2,d⟩
theorem Inv.unpinned {pins pl:List (Addr×Obj)}{σ:St}{H:Hp}{s:Shared}(I:Inv X (pins++pl) σ H s):Inv X pins σ H s:=I.pins_of fun p hp=>I.pin p (List.mem_append_right _ (List.mem_append_left _ hp))
theorem zbj {iter:Expr}{body:List Stmt}{wi:TI}{g:TG}{tb:TS}{pos:Pos}(hp:PassesOwn (model X.prog X.w) X.A X.env X.xe)(hc:X.calm=true)(hi:PI X tg iter wi)(hg:PG X tg g)(hb:PSs X body tb)
  (hs:∀x,foldedSetIterable iter X.env x=pure x:=by intro _;rfl):PS X (.For tg iter body [] pos) (tFor wi g tb):=by
 intro pins s σ H D I h
 refine wpAny_For (thn (hi pins s σ H _ I h) fun v s1 h1=>thn h1 fun itv s2 h2=> ?_) hs
 obtain⟨it,fp,tn,J,H2,e,I2,T,st2,f2,W,⟨m0,w0⟩,turn⟩:=h2
 subst e
 have stat:∀{H':Hp},(∀b∈fp,H' b=none)->∀b∈fp,FpOk X pins H' b:=fun hn b hb=>⟨hn b hb,(f2 b hb).2⟩
 refine codeAny_forLoop_any (fun n s'=>∃i σ' H',Inv X pins σ' H' s'/\tn i s'.heap/\(∀b∈fp,H' b=none)/\W i n σ' H') ?_ m0 ⟨0,σ,H2,I2,st2,fun b hb=>(f2 b hb).1,w0⟩
 rintro n s3 ⟨i,σ3,H3,I3,st3,fr3,w3⟩
 rcases turn i n σ3 H3 w3 with⟨stop,qn⟩|⟨go,N,hN,step⟩
 ·refine wpAny_passesOwn hp (thn (T.done X rfl rfl rfl hc i pins s3 σ3 H3 X.xe I3 (stat fr3) st3 stop) fun r s4 zq=> ?_)
  obtain⟨hr,I4⟩:=zq
  subst hr
  exact wpAny_execs_nil ⟨σ3,H3,I4,qn⟩
 ·refine wpAny_passesOwn hp (thn (T.item X rfl rfl rfl hc i pins s3 σ3 H3 X.xe I3 (stat fr3) st3 go) fun r s4 zq=> ?_)
  obtain⟨u,hr,h4⟩:=zq
  subst hr
  refine wpAny_passesOwn hp (thn h4 fun _ s5 zq=> ?_)
  obtain⟨x,H5,I5,r5,y5,st5,fr5⟩:=zq
  have I5':=I5.pinned (stat fr5) (T.obj _ _ st5)
  refine wpAny_passesOwn hp (thn (hg _ s5 σ3 H5 x u _ I5' r5 (step x H5 y5)) fun _ s6 zq=> ?_)
  obtain⟨σ6,H6,I6,q6⟩:=zq
  refine wpAny_passesOwn hp (thn (hb _ s6 σ6 H6 _ I6 q6) fun f s7 q7=> ?_)
  have again:∀{σ7:St} {H7:Hp},Inv X (pins++zbV fp s5.heap) σ7 H7 s7->N σ7 H7->∃m,m<n/\∃i σ' H',Inv X pins σ' H' s7/\tn i s7.heap/\(∀b∈fp,H' b=none)/\W i m σ' H':=fun {σ7 H7} I7 n7=>by
   obtain⟨m',hm,w7⟩:=hN σ7 H7 n7
   refine⟨m',hm,i+1,σ7,H7,I7.unpinned,T.keep _ _ _ st5 fun b hb o e=>(I7.pin (b,o) (List.mem_append_right _ (List.mem_append_right _ (zaS hb e)))).1,fun b hb=> ?_,w7⟩
   obtain⟨o,e,d⟩:=T.obj _ _ st5 b hb
   exact (I7.pin (b,o) (List.mem_append_right _ (List.mem_append_right _ (zaS hb e)))).2.1
  cases f with
  |next=>obtain⟨σ7,H7,I7,n7⟩:=q7;exact again I7 n7
  |cont=>obtain⟨σ7,H7,I7,n7⟩:=q7;exact again I7 n7
  |brk=>obtain⟨σ7,H7,I7,q7⟩:=q7;exact⟨σ7,H7,I7.unpinned,q7⟩
  |ret v=>obtain⟨x7,σ7,H7,I7,r7,q7⟩:=q7;exact⟨x7,σ7,H7,I7.unpinned,r7,q7⟩
end
theorem zgJ {K:PySem.W.Frag}{a:Addr}{xs:List V}{g:TG}{tb:TS}{D:Ends}{σ:St}{H:Hp}(Pv:Nat->St->Hp->Prop)(h0:Pv 0 σ H)(hl:∀i σ H,i<=xs.length->Pv i σ H->SqL K H a xs)
  (hs:∀i x σ H,xs[i]? =some x->Pv i σ H->g x σ H fun σ2 H2=>tb {D with nx:=Pv (i+1),ct:=Pv (i+1),bk:=D.nx} σ2 H2) (hd:∀σ H,Pv xs.length σ H->D.nx σ H):
  ∃W:Nat->Nat->St->Hp->Prop,(∃m,W 0 m σ H)/\∀i m σ H,W i m σ H->
   ((Itl K a).stop i H/\D.nx σ H)∨((Itl K a).go i H/\∃N:St->Hp->Prop,(∀σ' H',N σ' H'->∃m',m'<m/\W (i+1) m' σ' H')/\∀x H',(Itl K a).yld i H x H'->g x σ H' fun σ2 H2=>tb {D with nx:=N,ct:=N,bk:=D.nx} σ2 H2):=by
 refine⟨fun i m σ H=>m=xs.length-i/\i<=xs.length/\Pv i σ H,⟨xs.length,by simp,Nat.zero_le _,h0⟩, ?_⟩
 rintro i m σ H ⟨rfl,hi,p⟩
 have q:=hl i σ H hi p
 by_cases hlt:i<xs.length
 ·refine .inr ⟨⟨xs,xs[i],q,by simp[hlt]⟩,Pv (i+1),fun σ' H' p'=>⟨xs.length-(i+1),by (first|lia|omega),rfl,hlt,p'⟩,fun x H' y=> ?_⟩
  obtain⟨e,y⟩:=y
  subst e
  exact hs i x σ _ (y xs q) p
 ·have e:i=xs.length:=by (first|lia|omega)
  subst e
  exact .inl ⟨⟨xs,q,Nat.le_refl _⟩,hd σ H p⟩
theorem zct {K:PySem.W.Frag}{a:Addr}{xs:List V}{g:TG}{tb:TS}{D:Ends}{σ:St}{H:Hp}(Pv:Nat->St->Hp->Prop)(h0:Pv 0 σ H)(hl:∀i σ H,i<=xs.length->Pv i σ H->SqT K H a xs)
  (hs:∀i x σ H,xs[i]? =some x->Pv i σ H->g x σ H fun σ2 H2=>tb {D with nx:=Pv (i+1),ct:=Pv (i+1),bk:=D.nx} σ2 H2) (hd:∀σ H,Pv xs.length σ H->D.nx σ H):
  ∃W:Nat->Nat->St->Hp->Prop,(∃m,W 0 m σ H)/\∀i m σ H,W i m σ H->
   ((Itt K a).stop i H/\D.nx σ H)∨((Itt K a).go i H/\∃N:St->Hp->Prop,(∀σ' H',N σ' H'->∃m',m'<m/\W (i+1) m' σ' H')/\∀x H',(Itt K a).yld i H x H'->g x σ H' fun σ2 H2=>tb {D with nx:=N,ct:=N,bk:=D.nx} σ2 H2):=by
 refine⟨fun i m σ H=>m=xs.length-i/\i<=xs.length/\Pv i σ H,⟨xs.length,by simp,Nat.zero_le _,h0⟩, ?_⟩
 rintro i m σ H ⟨rfl,hi,p⟩
 have q:=hl i σ H hi p
 by_cases hlt:i<xs.length
 ·refine .inr ⟨⟨xs,xs[i],q,by simp[hlt]⟩,Pv (i+1),fun σ' H' p'=>⟨xs.length-(i+1),by (first|lia|omega),rfl,hlt,p'⟩,fun x H' y=> ?_⟩
  obtain⟨e,y⟩:=y
  subst e
  exact hs i x σ _ (y xs q) p
 ·have e:i=xs.length:=by (first|lia|omega)
  subst e
  exact .inl ⟨⟨xs,q,Nat.le_refl _⟩,hd σ H p⟩
theorem zbW {lo:Int}{n:Nat}{g:TG}{tb:TS}{D:Ends}{σ:St}{H:Hp}(Pv:Nat->St->Hp->Prop)(h0:Pv 0 σ H)
  (hs:∀i σ H,i<n->Pv i σ H->g (.int (lo+i)) σ H fun σ2 H2=>tb {D with nx:=Pv (i+1),ct:=Pv (i+1),bk:=D.nx} σ2 H2) (hd:∀σ H,Pv n σ H->D.nx σ H):
  ∃W:Nat->Nat->St->Hp->Prop,(∃m,W 0 m σ H)/\∀i m σ H,W i m σ H->
   ((Itr lo n).stop i H/\D.nx σ H)∨((Itr lo n).go i H/\∃N:St->Hp->Prop,(∀σ' H',N σ' H'->∃m',m'<m/\W (i+1) m' σ' H')/\∀x H',(Itr lo n).yld i H x H'->g x σ H' fun σ2 H2=>tb {D with nx:=N,ct:=N,bk:=D.nx} σ2 H2):=by
 refine⟨fun i m σ H=>m=n-i/\i<=n/\Pv i σ H,⟨n,by simp,Nat.zero_le _,h0⟩, ?_⟩
 rintro i m σ H ⟨rfl,hi,p⟩
 by_cases hlt:i<n
 ·refine .inr ⟨hlt,Pv (i+1),fun σ' H' p'=>⟨n-(i+1),by (first|lia|omega),rfl,hlt,p'⟩,fun x H' y=> ?_⟩
  obtain⟨e,y⟩:=y
  subst e y
  exact hs i σ _ hlt p
 ·have e:i=n:=by (first|lia|omega)
  subst e
  exact .inl ⟨Nat.le_refl _,hd σ H p⟩
noncomputable abbrev R2:=V->V->Hp->VK->Prop
noncomputable def OpR (X:Cx)(f:Value->Value->Sem Value)(r:R2):Prop:=
 ∀(pins:List (Addr×Obj)) (s:Shared) (σ:St) (H:Hp) (x y:V) (v u:Value) (Q:VK),Inv X pins σ H s->RelV x v->RelV y u->r x y H Q->
  wpAny (model X.prog X.w) X.A (f v u) (EP X pins σ Q) X.xe s
noncomputable def UnR (X:Cx)(f:Value->Sem Value)(r:V->Hp->VK->Prop):Prop:=
 ∀(pins:List (Addr×Obj)) (s:Shared) (σ:St) (H:Hp) (x:V) (v:Value) (Q:VK),Inv X pins σ H s->RelV x v->r x H Q->
  wpAny (model X.prog X.w) X.A (f v) (EP X pins σ Q) X.xe s
noncomputable def zcn (X:Cx)(f:Value)(r:List V->Hp->VK->Prop):Prop:=
 ∀(pins:List (Addr×Obj)) (s:Shared) (σ:St) (H:Hp) (xs:List V) (us:List Value) (Q:VK),Inv X pins σ H s->Vals xs us->r xs H Q->
  wpAny (model X.prog X.w) X.A (call f us) (EP X pins σ Q) X.xe s
noncomputable def tOp (r:R2)(ta tb:TE):TE:=fun σ H Q=>ta σ H fun x H1=>tb σ H1 fun y H2=>r x y H2 Q
noncomputable def tUn (r:V->Hp->VK->Prop)(ta:TE):TE:=fun σ H Q=>ta σ H fun x H1=>r x H1 Q
noncomputable def rI (C:Int->Int->Prop)(g:Int->Int->V):R2:=fun x y H Q=>∃i j,x=.int i/\y=.int j/\C i j/\Q (g i j) H
noncomputable def rI0 (g:Int->Int->V):R2:=fun x y H Q=>∃i j,x=.int i/\y=.int j/\Q (g i j) H
noncomputable def rU (g:Int->V):V->Hp->VK->Prop:=fun x H Q=>∃i,x=.int i/\Q (g i) H
section
variable {X:Cx}{a b c:Expr}{ta tb tc:TE}{pos:Pos}
theorem binT (ha:PE X a ta)(hb:PE X b tb){pins:List (Addr×Obj)}{s:Shared}{σ:St}{H:Hp}{R:V->V->Hp->Prop}(I:Inv X pins σ H s)
  (h:ta σ H fun x H1=>tb σ H1 fun y H2=>R x y H2) {Q:Value->Shared->Prop} {f:Value->Value->Sem Value}
  (hf:∀v u s2 x y H2,Inv X pins σ H2 s2->RelV x v->RelV y u->R x y H2->wpAny (model X.prog X.w) X.A (f v u) Q X.xe s2):
  wpAny (model X.prog X.w) X.A (eval a X.env) (fun v s₁=>wpAny (model X.prog X.w) X.A (eval b X.env) (fun u s₂=>wpAny (model X.prog X.w) X.A (f v u) Q X.xe s₂) X.xe s₁) X.xe s:=by
 refine thn (ha pins s σ H _ I h) fun v s1 zq=> ?_
 obtain⟨x,H1,I1,r1,q1⟩:=zq
 refine thn (hb pins s1 σ H1 _ I1 q1) fun u s2 zq=> ?_
 obtain⟨y,H2,I2,r2,q2⟩:=zq
 exact hf v u s2 x y H2 I2 r1 r2 q2
theorem zag {op:Operator}{r:R2}(ho:OpR X (binaryOp op) r)(ha:PE X a ta)(hb:PE X b tb):PE X (.BinOp a op b pos) (tOp r ta tb):=by
 intro pins s σ H Q I h
 exact wpAny_BinOp (binT ha hb I h fun v u s2 x y H2 I2 rx ry q=>ho pins s2 σ H2 x y v u Q I2 rx ry q)
theorem pe_un {op:UnaryOp}{r:V->Hp->VK->Prop}(ho:UnR X (unaryOp op) r)(ha:PE X a ta):PE X (.UnaryOp op a pos) (tUn r ta):=by
 intro pins s σ H Q I h
 exact UnaryOp_ (thn (ha pins s σ H _ I h) fun v s1 ⟨x,H1,I1,r1,q1⟩=>ho pins s1 σ H1 x v Q I1 r1 q1)
theorem opI {f:Value->Value->Sem Value}{C:Int->Int->Prop}{g:Int->Int->Int}
  (rule:∀(i j:Int) (t u:Tok) (s:Shared) (Q:Value->Shared->Prop) (E:Value->Shared->Prop),C i j->Q (.int (g i j) s.toks) {s with toks:=s.toks+1}->wpAny (model X.prog X.w) X.A (f (.int i t) (.int j u)) Q E s):
  OpR X f (rI C fun i j=>.int (g i j)):=by
 intro pins s σ H x y v u Q I rx ry h
 obtain⟨i,j,rfl,rfl,hc,q⟩:=h
 obtain⟨t,rfl⟩:=rx
 obtain⟨t',rfl⟩:=ry
 exact rule i j t t' s _ _ hc ⟨.int (g i j),H,I.tok _,⟨_,rfl⟩,q⟩
theorem opI0 {f:Value->Value->Sem Value}{g:Int->Int->Int}
  (rule:∀(i j:Int) (t u:Tok) (s:Shared) (Q:Value->Shared->Prop) (E:Value->Shared->Prop),Q (.int (g i j) s.toks) {s with toks:=s.toks+1}->wpAny (model X.prog X.w) X.A (f (.int i t) (.int j u)) Q E s):
  OpR X f (rI0 fun i j=>.int (g i j)):=by
 intro pins s σ H x y v u Q I rx ry h
 obtain⟨i,j,rfl,rfl,q⟩:=h
 obtain⟨t,rfl⟩:=rx
 obtain⟨t',rfl⟩:=ry
 exact rule i j t t' s _ _ ⟨.int (g i j),H,I.tok _,⟨_,rfl⟩,q⟩
theorem opB0 {f:Value->Value->Sem Value}{g:Int->Int->Bool}
  (rule:∀(i j:Int) (t u:Tok) (s:Shared) (Q:Value->Shared->Prop) (E:Value->Shared->Prop),Q (.bool (g i j)) s->wpAny (model X.prog X.w) X.A (f (.int i t) (.int j u)) Q E s):
  OpR X f (rI0 fun i j=>.bl (g i j)):=by
 intro pins s σ H x y v u Q I rx ry h
 obtain⟨i,j,rfl,rfl,q⟩:=h
 obtain⟨t,rfl⟩:=rx
 obtain⟨t',rfl⟩:=ry
 exact rule i j t t' s _ _ ⟨.bl (g i j),H,I,rfl,q⟩
noncomputable def CDiv (i j:Int):Prop:=0<j/\j<1073741824
noncomputable def CPow (i j:Int):Prop:=0<=j/\j<=1000000/\i.natAbs<2^64
noncomputable def CMul (i j:Int):Prop:=(-(2^64)<i/\i<2^64)∨(-(2^64)<j/\j<2^64)
theorem CMul.ok {i j:Int}(h:CMul i j):IntMulOk i j:=by
 rcases h with⟨h1,h2⟩|⟨h1,h2⟩
 ·exact .of_left (intBits_le_64 h1 h2)
 ·exact .of_right (intBits_le_64 h1 h2)
theorem zaB:OpR X (binaryOp .Add) (rI0 fun i j=>.int (i+j)):=opI0 fun _ _ _ _ _ _ _ q=>add_int q
theorem zaM:OpR X (binaryOp .Sub) (rI0 fun i j=>.int (i-j)):=opI0 fun _ _ _ _ _ _ _ q=>sub_int q
theorem zaN:OpR X (binaryOp .Mult) (rI CMul fun i j=>.int (i*j)):=opI fun _ _ _ _ _ _ _ hc q=>mul_int q hc.ok
theorem zcW:OpR X (binaryOp .FloorDiv) (rI CDiv fun i j=>.int (i/j)):=opI fun i j _ _ _ _ _ hc q=>by
 have h1:(0:Int)<j:=hc.1
 have h2:j<1073741824:=hc.2
 exact floordiv_int (by (first|lia|omega)) (by rw[Int.fdiv_eq_ediv_of_nonneg i (by (first|lia|omega))];exact q) (.inl (PyProof.noPylong_small (by (first|lia|omega))))
theorem zcG:OpR X (binaryOp .Mod) (rI (fun _ j=>0<j) fun i j=>.int (i%j)):=opI fun i j _ _ _ _ _ hc q=>by
 have h1:(0:Int)<j:=hc
 exact mod_int' (by (first|lia|omega)) (by rw[Int.fmod_eq_emod_of_nonneg i (by (first|lia|omega))];exact q)
theorem zjK:OpR X (binaryOp .Pow) (rI CPow fun i j=>.int (i^j.toNat)):=opI fun _ _ _ _ _ _ _ hc q=>pow_int_small hc.1 hc.2.1 hc.2.2 q
theorem unI {f:Value->Sem Value}{g:Int->Int}
  (rule:∀(i:Int) (t:Tok) (s:Shared) (Q:Value->Shared->Prop) (E:Value->Shared->Prop),Q (.int (g i) s.toks) {s with toks:=s.toks+1}->wpAny (model X.prog X.w) X.A (f (.int i t)) Q E s):
  UnR X f (rU fun i=>.int (g i)):=by
 intro pins s σ H x v Q I rx h
 obtain⟨i,rfl,q⟩:=h
 obtain⟨t,rfl⟩:=rx
 exact rule i t s _ _ ⟨.int (g i),H,I.tok _,⟨_,rfl⟩,q⟩
theorem zel:UnR X (unaryOp .USub) (rU fun i=>.int (-i)):=unI fun _ _ _ _ _ q=>neg_int q
end
noncomputable def scal:V->V->Bool
 | .non,.non=>true| .non,.int _=>true| .int _,.non=>true| .non,.bl _=>true| .bl _,.non=>true| .non,.str _=>true| .str _,.non=>true
 | .int _,.int _=>true| .bl _,.bl _=>true| .str _,.str _=>true| .byt _,.byt _=>true
 | .int _,.str _=>true| .str _,.int _=>true| .bl _,.str _=>true| .str _,.bl _=>true
 |_,_=>false
noncomputable def rEq:R2:=fun x y H Q=>scal x y=true/\Q (.bl (decide (x=y))) H
noncomputable def rNe:R2:=fun x y H Q=>scal x y=true/\Q (.bl (!decide (x=y))) H
theorem zbx {i j:Int}:decide (V.int i=V.int j)=(i==j):=by
 rw[Bool.eq_iff_iff]
 simp
theorem zjL {i j:Bool}:decide (V.bl i=V.bl j)=(i==j):=by
 rw[Bool.eq_iff_iff]
 simp
theorem zhT {i j:Str}:decide (V.str i=V.str j)=(i==j):=by
 rw[Bool.eq_iff_iff]
 simp
theorem zhU {i j:Array UInt8}:decide (V.byt i=V.byt j)=(i.toList==j.toList):=by
 rw[Bool.eq_iff_iff]
 cases i
 cases j
 simp
section
variable {X:Cx}{a b c:Expr}{ta tb tc:TE}{pos:Pos}
theorem zay {pins:List (Addr×Obj)}{σ:St}{H:Hp}{s:Shared}{Q:VK}{k k':Bool}(I:Inv X pins σ H s)(q:Q (.bl k) H)(e:k=k'):EP X pins σ Q (.bool k') s:=by
 subst e
 exact⟨.bl k,H,I,rfl,q⟩
theorem zcX:OpR X (compareOp .Eq) rEq:=by
 intro pins s σ H x y v u Q I rx ry h
 obtain⟨hs,q⟩:=h
 cases x with
 |non=>
  cases rx
  cases y with
  |non=>cases ry;exact PySem.EqNone.eq_none_none (zay I q (by simp))
  |bl j=>cases ry;exact PySem.EqNone.eq_none_bool (zay I q (by simp))
  |int j=>obtain⟨t',rfl⟩:=ry;exact PySem.EqNone.eq_none_int (zay I q (by simp))
  |str j=>obtain⟨t',rfl⟩:=ry;exact PySem.EqNone.eq_none_str (zay I q (by simp))
  |_=>exact absurd (show false=true from hs) Bool.false_ne_true
 |bl i=>
  cases rx
  cases y with
  |non=>cases ry;exact PySem.EqNone.eq_bool_none (zay I q (by simp))
  |bl j=>cases ry;exact eq_bool (zay I q zjL)
  |str j=>obtain⟨t',rfl⟩:=ry;exact PySem.EqMixed.eq_bool_str (zay I q (by simp))
  |_=>exact absurd (show false=true from hs) Bool.false_ne_true
 |int i=>
  obtain⟨t,rfl⟩:=rx
  cases y with
  |non=>cases ry;exact PySem.EqNone.eq_int_none (zay I q (by simp))
  |int j=>obtain⟨t',rfl⟩:=ry;exact eq_int (zay I q zbx)
  |str j=>obtain⟨t',rfl⟩:=ry;exact PySem.EqMixed.eq_int_str (zay I q (by simp))
  |_=>exact absurd (show false=true from hs) Bool.false_ne_true
 |str i=>
  obtain⟨t,rfl⟩:=rx
  cases y with
  |non=>cases ry;exact PySem.EqNone.eq_str_none (zay I q (by simp))
  |bl j=>cases ry;exact PySem.EqMixed.eq_str_bool (zay I q (by simp))
  |int j=>obtain⟨t',rfl⟩:=ry;exact PySem.EqMixed.eq_str_int (zay I q (by simp))
  |str j=>obtain⟨t',rfl⟩:=ry;exact eq_str (zay I q zhT)
  |_=>exact absurd (show false=true from hs) Bool.false_ne_true
 |byt i=>
  obtain⟨t,rfl⟩:=rx
  cases y with
  |byt j=>obtain⟨t',rfl⟩:=ry;exact PySem.W.eq_bytes (zay I q zhU)
  |_=>exact absurd (show false=true from hs) Bool.false_ne_true
 |_=>cases y<;>exact absurd (show false=true from hs) Bool.false_ne_true
theorem zi1:OpR X (compareOp .NotEq) rNe:=by
 intro pins s σ H x y v u Q I rx ry h
 obtain⟨hs,q⟩:=h
 cases x with
 |non=>
  cases rx
  cases y with
  |non=>cases ry;exact PySem.EqNone.ne_none_none (zay I q (by simp))
  |bl j=>cases ry;exact PySem.EqNone.ne_none_bool (zay I q (by simp))
  |int j=>obtain⟨t',rfl⟩:=ry;exact PySem.EqNone.ne_none_int (zay I q (by simp))
  |str j=>obtain⟨t',rfl⟩:=ry;exact PySem.EqNone.ne_none_str (zay I q (by simp))
  |_=>exact absurd (show false=true from hs) Bool.false_ne_true
 |bl i=>
  cases rx
  cases y with
  |non=>cases ry;exact PySem.EqNone.ne_bool_none (zay I q (by simp))
  |bl j=>cases ry;exact ne_bool (zay I q (congrArg not zjL))
  |str j=>obtain⟨t',rfl⟩:=ry;exact PySem.EqMixed.ne_bool_str (zay I q (by simp))
  |_=>exact absurd (show false=true from hs) Bool.false_ne_true
 |int i=>
  obtain⟨t,rfl⟩:=rx
  cases y with
  |non=>cases ry;exact PySem.EqNone.ne_int_none (zay I q (by simp))
  |int j=>obtain⟨t',rfl⟩:=ry;exact ne_int (zay I q (congrArg not zbx))
  |str j=>obtain⟨t',rfl⟩:=ry;exact PySem.EqMixed.ne_int_str (zay I q (by simp))
  |_=>exact absurd (show false=true from hs) Bool.false_ne_true
 |str i=>
  obtain⟨t,rfl⟩:=rx
  cases y with
  |non=>cases ry;exact PySem.EqNone.ne_str_none (zay I q (by simp))
  |bl j=>cases ry;exact PySem.EqMixed.ne_str_bool (zay I q (by simp))
  |int j=>obtain⟨t',rfl⟩:=ry;exact PySem.EqMixed.ne_str_int (zay I q (by simp))
  |str j=>obtain⟨t',rfl⟩:=ry;exact ne_str (zay I q (congrArg not zhT))
  |_=>exact absurd (show false=true from hs) Bool.false_ne_true
 |byt i=>
  obtain⟨t,rfl⟩:=rx
  cases y with
  |byt j=>obtain⟨t',rfl⟩:=ry;exact PySem.W.ne_bytes (zay I q (congrArg not zhU))
  |_=>exact absurd (show false=true from hs) Bool.false_ne_true
 |_=>cases y<;>exact absurd (show false=true from hs) Bool.false_ne_true
theorem zff:OpR X (compareOp .Lt) (rI0 fun i j=>.bl (decide (i<j))):=opB0 fun _ _ _ _ _ _ _ q=>lt_int q
theorem zlF:OpR X (compareOp .LtE) (rI0 fun i j=>.bl (decide (i<=j))):=opB0 fun _ _ _ _ _ _ _ q=>le_int q
theorem zev:OpR X (compareOp .Gt) (rI0 fun i j=>.bl (decide (j<i))):=opB0 fun _ _ _ _ _ _ _ q=>gt_int q
theorem zlG:OpR X (compareOp .GtE) (rI0 fun i j=>.bl (decide (j<=i))):=opB0 fun _ _ _ _ _ _ _ q=>ge_int q
theorem zar (b:Expr){op:CmpOp}(h:op≠.In:=by decide)(h2:op≠.NotIn:=by decide):behindInMarks op b=false:=by
 have e1:(op==CmpOp.In)=false:=by cases op<;>first|rfl|exact absurd rfl h
 have e2:(op==CmpOp.NotIn)=false:=by cases op<;>first|rfl|exact absurd rfl h2
 cases b<;>simp[behindInMarks,e1,e2]
theorem zbk {op:CmpOp}{r:R2}(ho:OpR X (compareOp op) r)(ha:PE X a ta)(hb:PE X b tb)(hm:behindInMarks op b=false):PE X (.Compare a [op] [b] pos) (tOp r ta tb):=by
 intro pins s σ H Q I h
 exact wpAny_Compare1 (binT ha hb I h fun v u s2 x y H2 I2 rx ry q=>ho pins s2 σ H2 x y v u Q I2 rx ry q) hm
noncomputable def zkS (t:TE):TT:=fun σ H Q=>t σ H fun x H'=>∃k,x=.bl k/\Q k H'
theorem zau {op:CmpOp}{r:R2}(ho:OpR X (compareOp op) r)(ha:PE X a ta)(hb:PE X b tb)(hm:behindInMarks op b=false):PT X (.Compare a [op] [b] pos) (zkS (tOp r ta tb)):=by
 intro pins s σ H Q I h
 refine wpAny_isTrue_Compare1 (thn (ha pins s σ H _ I h) fun v s1 ⟨x,H1,I1,r1,q1⟩=>thn (hb pins s1 σ H1 _ I1 q1) fun u s2 ⟨y,H2,I2,r2,q2⟩=>
  thn (ho pins s2 σ H2 x y v u _ I2 r1 r2 q2) fun c s3 ⟨z,H3,I3,r3,k,e,q3⟩=> ?_) hm
 subst e
 cases r3
 exact wpAny_truthy_bool ⟨H3,I3,q3⟩
noncomputable def zkT (r r':R2)(ta tb tc:TE):TE:=fun σ H Q=>ta σ H fun x H1=>tb σ H1 fun y H2=>r x y H2 fun z H3=>∃k,z=.bl k/\
 (if k=true then tc σ H3 fun w' H4=>r' y w' H4 Q else Q (.bl false) H3)
theorem zi2 {op op':CmpOp}{r r':R2}(ho:OpR X (compareOp op) r)(ho':OpR X (compareOp op') r')(ha:PE X a ta)(hb:PE X b tb)(hc:PE X c tc)
  (hm:lastMarks [op,op'] [b,c]=false:=by with_unfolding_all rfl):PT X (.Compare a [op,op'] [b,c] pos) (zkS (zkT r r' ta tb tc)):=by
 intro pins s σ H Q I h
 refine isTrue_chain (thn (ha pins s σ H _ I h) fun v s1 ⟨x,H1,I1,r1,q1⟩=>test_link (thn (hb pins s1 σ H1 _ I1 q1) fun u s2 ⟨y,H2,I2,r2,q2⟩=>
  thn (ho pins s2 σ H2 x y v u _ I2 r1 r2 q2) fun d s3 ⟨z,H3,I3,r3,k,e,q3⟩=> ?_)) hm
 subst e
 cases r3
 refine wpAny_truthy_bool ?_
 cases k with
 |false=>
  obtain⟨k',e',q'⟩:=q3
  cases e'
  exact ite_ff ⟨H3,I3,q'⟩
 |true=>
  refine ite_tt (test_last (thn (hc pins s3 σ H3 _ I3 q3) fun w' s4 ⟨z',H4,I4,r4,q4⟩=>thn (ho' pins s4 σ H4 y z' u w' _ I4 r2 r4 q4) fun d' s5 ⟨z2,H5,I5,r5,k2,e2,q5⟩=> ?_))
  subst e2
  cases r5
  exact wpAny_truthy_bool ⟨H5,I5,q5⟩
theorem zfg:(sizeLine:Nat)<2^63:=by rw[sizeLine_eq];decide
theorem zcH {x:V}{us:List Value}(r:Vals [x] us):∃u,us=[u]/\RelV x u:=by
 cases r with
 |cons r1 r2=>cases r2;exact⟨_,rfl,r1⟩
theorem zj2 {x y:V}{us:List Value}(r:Vals [x,y] us):∃u w',us=[u,w']/\RelV x u/\RelV y w':=by
 cases r with
 |cons r1 r2=>
  cases r2 with
  |cons r3 r4=>cases r4;exact⟨_,_,rfl,r1,r3⟩
theorem zew:zcn X (.builtin "abs") (fun xs H Q=>∃i,xs=[.int i]/\Q (.int (if i<0 then-i else i)) H):=by
 intro pins s σ H xs us Q I r h
 obtain⟨i,rfl,q⟩:=h
 obtain⟨u,rfl,t,rfl⟩:=zcH r
 exact call_abs_int fun u tk=>⟨.int (if i<0 then-i else i),H,I.tok _,⟨_,rfl⟩,q⟩
theorem zbX (hc:X.calm=true):zcn X (.builtin "max") (fun xs H Q=>∃i j,xs=[.int i,.int j]/\Q (.int (if j>i then j else i)) H):=by
 intro pins s σ H xs us Q I r h
 obtain⟨i,j,rfl,q⟩:=h
 obtain⟨u,w',rfl,⟨t,rfl⟩,⟨t',rfl⟩⟩:=zj2 r
 refine max_two_ints (I.ok.hd hc) fun h' tk k=>⟨_,H,I.kept k, ?_,q⟩
 by_cases hj:j>i
 ·rw[if_pos hj,if_pos hj];exact⟨_,rfl⟩
 ·rw[if_neg hj,if_neg hj];exact⟨_,rfl⟩
theorem zhV (hc:X.calm=true):zcn X (.builtin "min") (fun xs H Q=>∃i j,xs=[.int i,.int j]/\Q (.int (if j<i then j else i)) H):=by
 intro pins s σ H xs us Q I r h
 obtain⟨i,j,rfl,q⟩:=h
 obtain⟨u,w',rfl,⟨t,rfl⟩,⟨t',rfl⟩⟩:=zj2 r
 refine min_two_ints (I.ok.hd hc) fun h' tk k=>⟨_,H,I.kept k, ?_,q⟩
 by_cases hj:j<i
 ·rw[if_pos hj,if_pos hj];exact⟨_,rfl⟩
 ·rw[if_neg hj,if_neg hj];exact⟨_,rfl⟩
theorem zdA:zcn X (.type "int") (fun xs H Q=>(∃i,xs=[.int i]/\Q (.int i) H)∨∃k,xs=[.bl k]/\Q (.int (if k then 1 else 0)) H):=by
 intro pins s σ H xs us Q I r h
 rcases h with⟨i,rfl,q⟩|⟨k,rfl,q⟩
 ·obtain ⟨u,rfl,t,rfl⟩:=zcH r
  exact call_int_int ⟨.int i,H,I,⟨_,rfl⟩,q⟩
 ·obtain ⟨u,rfl,r1⟩:=zcH r
  cases r1
  exact call_int_bool ⟨.int (if k then 1 else 0),H,I.tok _,⟨_,rfl⟩,q⟩
end
structure ObjM (h:Heap) (x dx C:Addr) (mA:Str->Option Value):Prop where
 obj:h.get? x=some (PySem.W.instObj C dx)
 ns:h.Ns1 dx mA
 ne:dx≠x
section
variable {prog:Program}{w:World}{A:Around}{E:Value->Shared->Prop}{s:Shared}{K:PySem.W.Frag}{x dx C f:Addr}{mA:Str->Option Value}{name:Str}{v:Value}
end
theorem RelO.some_of {v:V}{o:Option Value}(r:RelO (some v) o):∃u,o=some u/\RelV v u:=by
 cases o with
 |none=>exact (show False from r).elim
 |some u=>exact⟨u,rfl,r⟩
section
variable {P:Program}{w:World}{H H':Hp}{h h':Heap}{a C dx:Addr}{fs fs':List (Str×V)}
end
structure Cls (K:PySem.W.Frag) (C:Addr):Prop where
 pg:PySem.W.plainGet K C Str.empty=true
 hd:PySem.W.hasDictIn K C=true
 po:PySem.W.plainOver K C=true
 sa:PySem.W.findIn K (.ref C) "__setattr__" =some (some (.builtin "object.__setattr__"))
structure Con (K:PySem.W.Frag) (C:Addr) (f:Str) (v:V) (u:Value):Prop where
 at_:PySem.W.findIn K (.ref C) f=some (some u)
 rel:RelV v u
 get:PySem.W.specialIn K u "__get__" =some none
 cp:PySem.W.copiedNames.contains f=false
structure Meth (K:PySem.W.Frag) (C:Addr) (m:Str) (f:Addr):Prop where
 at_:PySem.W.findIn K (.ref C) m=some (some (.ref f))
 fn:PySem.W.isFn K (.ref f)=true
 kp:PySem.W.keepIn K (.ref f)=true
section
variable {X:Cx}{pins:List (Addr×Obj)}{σ:St}{H:Hp}{s:Shared}{a C dx:Addr}{fs:List (Str×V)}{f:Str}{v:V}{A:Around}{E:Value->Shared->Prop}
end
section
variable {X:Cx}{o e value:Expr}{f:Str}{pos pos' tpos:Pos}{ta tv:TE}
end
section
variable {X:Cx}{pins:List (Addr×Obj)}{σ:St}{H:Hp}{s:Shared}{A:Around}{E:Value->Shared->Prop}{Q:Value->Shared->Prop}{c:Value}{b:Bool}
inductive TyOf (K:PySem.W.Frag) (H:Hp):V->Value->Prop where
 |non:TyOf K H .non (.type "NoneType")
 |bl (x:Bool):TyOf K H (.bl x) (.type "bool")
 |int (i:Int):TyOf K H (.int i) (.type "int")
 |str (x:Str):TyOf K H (.str x) (.type "str")
 |flt (x:UInt64):TyOf K H (.flt x) (.type "float")
 |lst {a:Addr} {xs:List V} (e:H a=some (.lst xs)):TyOf K H (.ref a) (.type "list")
 |frz {a:Addr} {o:Obj} {xs:List V} (e:H a=some (.frz o (.lst xs))):TyOf K H (.ref a) (.type "list")
 |tup {a:Addr} {xs:List V} (e:H a=some (.tup xs)):TyOf K H (.ref a) (.type "tuple")
 |dK {a:Addr} {kvs:List (Key×V)} (e:H a=some (.dK kvs)):TyOf K H (.ref a) (.type "dict")
 |dT {a:Addr} {kvs:List (List Key×V)} (e:H a=some (.dT kvs)):TyOf K H (.ref a) (.type "dict")
 | ins {a C dx:Addr} {fs:List (Str×V)} (e:H a=some (.ins C dx fs)) (cl:Cls K C) (ha:PySem.W.findIn K (.ref C) "__class__" =some (some (.builtin "object.__class__")))
   (hn:PySem.W.specialIn K (.builtin "object.__class__") "__get__" =some (some (.builtin "getset_descriptor.__get__"))) (htk:PySem.W.takesIn K (.builtin "object.__class__")=some true)
   (hm:PySem.W.mroIn K C (.type "object")=some true):TyOf K H (.ref a) (.ref C)
end
structure Room (k:Nat) (A:Around):Prop where
 hd:A.handled=none
 dp:A.depth+3*k+5<recursionLimit
 un:A.units+16*k+200<cLine
 gd:A.guards=some []
theorem Room.mono {j k:Nat}{A:Around}(r:Room k A)(h:j<=k):Room j A:=⟨r.hd,by have:=r.dp;(first|lia|omega),by have:=r.un;(first|lia|omega),r.gd⟩
theorem Room.deeper {k:Nat}{A:Around}(r:Room (k+1) A)(env:Env):Room k (A.deeper env):=
 ⟨r.hd,by have:=r.dp;show A.depth+1+3*k+5<_;(first|lia|omega),by have:=r.un;show A.units+3+16*k+200<_;(first|lia|omega),r.gd⟩
theorem Room.depth {k:Nat}{A:Around}(r:Room k A):A.depth<recursionLimit:=by have:=r.dp;(first|lia|omega)
theorem Room.units {k:Nat}{A:Around}(r:Room k A):A.units+64<cLine:=by have:=r.un;(first|lia|omega)
noncomputable def tNil:TA:=fun _ H Q=>Q [] H
noncomputable def zkU (ta:TE)(tr:TA):TA:=fun σ H Q=>ta σ H fun x H1=>tr σ H1 fun xs H2=>Q (x::xs) H2
section
variable {X:Cx}{e:Expr}{es:List Expr}{te:TE}{t:TA}{pos:Pos}
theorem pa_nil:PA X [] tNil:=fun _ _ _ _ H Q I h=>Calls.spliced_nil ⟨[],H,I,.nil,h⟩
theorem pa_cons (ha:PE X e te)(hr:PA X es t)(hs:starEach (e::es) X.env=(false,eval e X.env)::starEach es X.env:=by rfl):PA X (e::es) (zkU te t):=by
 intro pos pins s σ H Q I h
 rw[hs]
 show wpAny _ _ (spliced ((false,eval e X.env)::backTo pos (starEach es X.env))) _ _ s
 refine Calls.spliced_cons (thn (ha pins s σ H _ I h) fun u s1 zq=> ?_)
 obtain⟨x,H1,I1,r1,q1⟩:=zq
 exact thn (hr pos pins s1 σ H1 _ I1 q1) fun us s2 ⟨xs,H2,I2,r2,q2⟩=>⟨x::xs,H2,I2,.cons r1 r2,q2⟩
noncomputable def tTup (t:TA):TE:=fun σ H Q=>t σ H fun xs H1=>xs.length<=sizeLine/\∀p,H1 p=none->Q (.ref p) (upd H1 p (.tup xs))
noncomputable def tLst (t:TA):TE:=fun σ H Q=>t σ H fun xs H1=>xs.length<=sizeLine/\∀p,H1 p=none->Q (.ref p) (upd H1 p (.lst xs))
theorem zaC {x1}(h:PA X es t):PE X (.Tuple es x1 pos) (tTup t):=by
 intro pins s σ H Q I hq
 refine wpAny_Tuple_spliced (thn (h pos pins s σ H _ I hq) fun us s1 ⟨xs,H1,I1,r,z,q⟩=>⟨by rw[<-r.length];exact z, ?_⟩)
 have hf:H1 s1.heap.objs.size=none:=I1.hok.fresh (Nat.le_refl _)
 refine⟨.ref s1.heap.objs.size,upd H1 s1.heap.objs.size (.tup xs),I1.laid (t':=s1.toks) (fun b u e=>Heap.get?_push_of_some _ e) (Nat.le_refl _) ?_,rfl,q _ hf⟩
 exact⟨z,us,r,PTup.new⟩
theorem pe_lst (h:PA X es t):PE X (.List es pos) (tLst t):=by
 intro pins s σ H Q I hq
 refine wpAny_List_spliced (thn (h pos pins s σ H _ I hq) fun us s1 ⟨xs,H1,I1,r,z,q⟩=>⟨by rw[<-r.length];exact z, ?_⟩)
 have hf:H1 s1.heap.objs.size=none:=I1.hok.fresh (Nat.le_refl _)
 refine⟨.ref s1.heap.objs.size,upd H1 s1.heap.objs.size (.lst xs),I1.laid (t':=s1.toks) (fun b u e=>Heap.get?_push_of_some _ e) (Nat.le_refl _) ?_,rfl,q _ hf⟩
 exact⟨z,us,0,r,Heap.get?_push_size _ rfl⟩
end
noncomputable abbrev Sp:=List V->Hp->VK->XK->Prop
noncomputable abbrev CXT:=List Env->Hp->Shared->XK->Value->Shared->Prop
structure Env0 (P:Program) (w:World) (K:PySem.W.Frag) (mg:Str->Option Value) (base:Heap) (A:Around) (outer:List Env) (s:Shared) (H:Hp):Prop where
 frames:A.frames=some outer
 mod:Mod K mg base
 bs:∀b o,base.get? b=some o->s.heap.get? b=some o/\H b=none
 bsz:base.objs.size<=s.heap.objs.size
 funs:s.heap.FunFrames base outer
 frf:∀b∈frs outer,H b=none
 hok:HOk P w H s.heap
 bare:AllBare s.gens
noncomputable def CE (outer:List Env)(P:Program)(w:World)(H:Hp)(s:Shared)(Q:VK)(u:Value)(s':Shared):Prop:=
 ∃v H',s'.os=s.os/\AllBare s'.gens/\Un (frs outer) [] H H' s.heap s'.heap/\HOk P w H' s'.heap/\RelV v u/\Q v H'
noncomputable def CR (CX:CXT)(outer:List Env)(P:Program)(w:World)(H:Hp)(s:Shared)(Q:VK)(E:XK)(r:Result)(s':Shared):Prop:=
 match r with
 | .ok (.ret u)=>CE outer P w H s Q u s'
 | .ok _=>False
 | .error e=>CX outer H s E e s'
structure FnOk (P:Program) (w:World) (K:PySem.W.Frag) (mg:Str->Option Value) (base:Heap) (CX:CXT) (k:Nat) (f:Addr) (fd:FuncData) (ps:List Str) (sp:Sp):Prop where
 len:∀vs H Q E,sp vs H Q E->vs.length=ps.length
 run:∀(A:Around) (outer:List Env) (s:Shared) (H:Hp) (args:Args) (us:List Value) (vs:List V) (Q:VK) (E:XK),Room k A->Env0 P w K mg base A outer s H->BindsTo s fd args (ps.zip us)->Vals vs us->sp vs H Q E->
  codeAny (model P w) A (.call (.ref f) args) (CR CX outer P w H s Q E) s
theorem FnOk.mono {P:Program}{w:World}{K:PySem.W.Frag}{mg:Str->Option Value}{base:Heap}{CX:CXT}{j k:Nat}{f:Addr}{fd:FuncData}{ps:List Str}{sp:Sp}(F:FnOk P w K mg base CX j f fd ps sp)(h:j<=k):
  FnOk P w K mg base CX k f fd ps sp:=⟨F.len,fun A outer s H args us vs Q E hr=>F.run A outer s H args us vs Q E (hr.mono h)⟩
section
variable {X:Cx}{pins:List (Addr×Obj)}{σ:St}{H:Hp}{s s':Shared}
theorem Inv.env0 (I:Inv X pins σ H s):Env0 X.prog X.w X.K X.mg X.base X.A X.stack s H:=
 ⟨I.ok.frames,I.ok.mod,I.bs,Nat.le_trans I.ok.bsz I.sz,I.stack,I.stkFree,I.hok,I.bare⟩
theorem Inv.after {Q:VK}{u:Value}(I:Inv X pins σ H s)(h:CE X.stack X.prog X.w H s Q u s'):EP X pins σ Q u s':=by
 obtain⟨v,H',os,bare,un,hok,r,q⟩:=h
 obtain⟨hh,g,d,t,os'⟩:=s'
 obtain rfl:os'=s.os:=os
 exact⟨v,H',I.call (h':=hh) (g':=g) (d':=d) (t':=t) (ch:=[]) un hok bare (fun b z=>absurd z (by simp)),r,q⟩
end
noncomputable def zlH (sp:Sp)(dvs:List V)(E:XK)(t:TA):TE:=fun σ H Q=>t σ H fun vs H1=>sp (vs++dvs) H1 Q E
noncomputable def Binds (K:PySem.W.Frag)(fd:FuncData)(ps:List Str)(ds:List Value):Prop:=
 ∀(s:Shared) (us:List Value),K.In s.heap->(us++ds).length=ps.length->BindsTo s fd ⟨us,[]⟩ (ps.zip (us++ds))
theorem Binds.all {K:PySem.W.Frag}{fd:FuncData}{ps:List Str}(h:∀us:List Value,us.length=ps.length->bindArgs fd ⟨us,[]⟩=pure (ps.zip us)):Binds K fd ps []:=fun s us _ hl=>by
 rw[List.append_nil] at hl ⊢
 exact .of_eq (h us hl)
noncomputable def zhW (CX:CXT)(X:Cx)(E:XK):Prop:=∀(pins:List (Addr×Obj)) (σ:St) (H:Hp) (s:Shared) (e:Value) (s':Shared),Inv X pins σ H s->CX X.stack H s E e s'->X.xe e s'
section
variable {X:Cx}{CX:CXT}{k:Nat}{f C:Addr}{fd:FuncData}{ps:List Str}{sp:Sp}{dvs:List V}{ds:List Value}{E:XK}{x m:Str}{p pos apos:Pos}{e o:Expr}{es:List Expr}{ta:TE}{t:TA}
theorem zjM {pins:List (Addr×Obj)}{σ:St}{H:Hp}{s:Shared}{Q:VK}{us:List Value}{vs:List V}(F:FnOk X.prog X.w X.K X.mg X.base CX k f fd ps sp)(hr:Room k X.A)(hb:Binds X.K fd ps ds)(hd:Vals dvs ds)(hx:zhW CX X E)
  (I:Inv X pins σ H s) (r:Vals vs us) (h:sp (vs++dvs) H Q E):wpAny (model X.prog X.w) X.A (call (.ref f) us) (EP X pins σ Q) X.xe s:=by
 have r2:Vals (vs++dvs) (us++ds):=r.append hd
 have hl:(us++ds).length=ps.length:=by rw[<-r2.length];exact F.len _ _ _ _ h
 refine wpAny_call (codeAny_mono (F.run X.A X.stack s H ⟨us,[]⟩ (us++ds) (vs++dvs) Q E hr I.env0 (hb s us I.kIn hl) r2 h) fun r s' hq=> ?_)
 cases r with
 |error e=>exact hx pins σ H s e s' I hq
 |ok fl=>
  cases fl with
  |ret u=>exact I.after hq
  |next=>exact False.elim hq
  |brk=>exact False.elim hq
  |cont=>exact False.elim hq
theorem zj3 (F:FnOk X.prog X.w X.K X.mg X.base CX k f fd ps sp)(hr:Room k X.A)(hg:Gl X x)(hm:X.mg x=some (.ref f))(hk:PySem.W.keepIn X.K (.ref f)=true)(hb:Binds X.K fd ps ds)(hd:Vals dvs ds)(hx:zhW CX X E)
  (ha:PA X (e::es) t) (hdb:(x==("__debug__" :Str))=false:=by decide) (he:starEach (e::es) X.env=(false,eval e X.env)::starEach es X.env:=by rfl) (hpl:(backTo pos (starEach es X.env)).any (·.1)=false:=by rfl):
  PE X (.Call (.Name x p) (e::es) [] pos) (zlH sp dvs E t):=by
 intro pins s σ H Q I h
 refine wpAny_Call_Name_kw (zhN I hg hm ?_ hdb)
 refine PySem.W.callWith_K (h₀:=X.base) I.ok.mod.kin hk (thn (ha pos pins s σ H _ I h) fun us s1 ⟨vs,H1,I1,r,q⟩=>⟨I1.kIn, ?_⟩) he hpl
 exact zjM F hr hb hd hx I1 r q
structure Mk (K:PySem.W.Frag) (C f:Addr):Prop where
 makes:PySem.W.makesIn K C=true
 init:PySem.W.findIn K (.ref C) "__init__" =some (some (.ref f))
 fn:PySem.W.isFn K (.ref f)=true
 kp:PySem.W.keepIn K (.ref C)=true
end
section
variable {X:Cx}{CX:CXT}{k:Nat}{f C:Addr}{fd:FuncData}{ps ks:List Str}{sp:Sp}{E:XK}{x m:Str}{p pos apos kpos:Pos}{e o:Expr}{es:List Expr}{kws:List Keyword}{te ta:TE}{t tk:TA}{nm:Option Str}
structure KBinds (K:PySem.W.Frag) (fd:FuncData) (ps ks:List Str) (g:List Value->List Value->List Value) (gV:List V->List V->List V):Prop where
 to:∀(s:Shared) (us ws:List Value),K.In s.heap->(g us ws).length=ps.length->BindsTo s fd ⟨us,ks.zip ws⟩ (ps.zip (g us ws))
 rel:∀{vs:List V} {us:List Value} {zs:List V} {ws:List Value},Vals vs us->Vals zs ws->Vals (gV vs zs) (g us ws)
variable {g:List Value->List Value->List Value}{gV:List V->List V->List V}
end
structure FnScope (N P:List Str) (sc:Scope):Prop where
 kind:sc.kind=.function
 co:sc.isCoroutine=false
 gen:sc.isGenerator=false
 nd:N.Nodup
 pre:N.take P.length=P
 par:∀x∈P,sc.names.lookup x=some .local∨sc.names.lookup x=some .cell
 nofree:∀y∈sc.names,y.2≠.free
theorem zfh {kindOf:Str->Option NameKind}{x:Str}:∀{binds:List (Str×Value)} {m:Str->Option Value},(∀v,(x,v)∉binds)->bindL kindOf binds m x=m x
 |[],_,_=>rfl
 | (n,v)::r,m,h=>by
  unfold bindL
  rw[zfh fun w hw=>h w (List.mem_cons_of_mem _ hw)]
  split
  ·have:x≠n:=by rintro rfl;exact h v List.mem_cons_self
   simp[this]
  ·rfl
theorem zfi {kindOf:Str->Option NameKind}{x:Str}:∀{binds:List (Str×Value)} {m:Str->Option Value},(∀v,(x,v)∉binds)->bindC kindOf binds m x=m x
 |[],_,_=>rfl
 | (n,v)::r,m,h=>by
  unfold bindC
  rw[zfi fun w hw=>h w (List.mem_cons_of_mem _ hw)]
  split
  ·rfl
  ·have:x≠n:=by rintro rfl;exact h v List.mem_cons_self
   simp[this]
theorem zfj {kindOf:Str->Option NameKind}{x:Str}{v:Value}:∀{P:List Str} {vs:List Value} {i:Nat} {m:Str->Option Value},P.Nodup->P[i]? =some x->vs[i]? =some v->kindOf x=some .local->
  bindL kindOf (P.zip vs) m x=some v
 |[],_,_,_,_,h,_,_=>by simp at h
 |_::_,[],_,_,_,_,h,_=>by simp at h
 |p::P,w::vs,0,m,nd,h1,h2,hk=>by
  simp at h1 h2;subst h1;subst h2
  show bindL kindOf ((p,w)::P.zip vs) m p=_
  unfold bindL
  rw[zfh fun v hv=>(List.nodup_cons.mp nd).1 (List.of_mem_zip hv).1,if_pos hk]
  simp
 |p::P,w::vs,i+1,m,nd,h1,h2,hk=>by
  show bindL kindOf ((p,w)::P.zip vs) m x=_
  unfold bindL
  exact zfj (i:=i) (List.nodup_cons.mp nd).2 (by simpa using h1) (by simpa using h2) hk
theorem zfk {kindOf:Str->Option NameKind}{x:Str}{v:Value}:∀{P:List Str} {vs:List Value} {i:Nat} {m:Str->Option Value},P.Nodup->P[i]? =some x->vs[i]? =some v->kindOf x≠some .local->
  bindC kindOf (P.zip vs) m x=some v
 |[],_,_,_,_,h,_,_=>by simp at h
 |_::_,[],_,_,_,_,h,_=>by simp at h
 |p::P,w::vs,0,m,nd,h1,h2,hk=>by
  simp at h1 h2;subst h1;subst h2
  show bindC kindOf ((p,w)::P.zip vs) m p=_
  unfold bindC
  rw[zfi fun v hv=>(List.nodup_cons.mp nd).1 (List.of_mem_zip hv).1,if_neg hk]
  simp
 |p::P,w::vs,i+1,m,nd,h1,h2,hk=>by
  show bindC kindOf ((p,w)::P.zip vs) m x=_
  unfold bindC
  exact zfk (i:=i) (List.nodup_cons.mp nd).2 (by simpa using h1) (by simpa using h2) hk
noncomputable def zfl (N:List Str)(vs:List V):St:=vs.map some++List.replicate (N.length-vs.length) none
noncomputable def cxOf (CX:CXT)(P:Program)(w:World)(K:PySem.W.Frag)(mg:Str->Option Value)(base:Heap)(N:List Str)(qual:Str)(scope:Scope)(f:Addr)(cd:Value)(A:Around)(outer:List Env)(s:Shared)(H:Hp)(E:XK):Cx where
 prog:=P
 w:=w
 K:=K
 mg:=mg
 base:=base
 A:=A.deeper (envOfC qual scope s.heap.objs.size f cd)
 N:=N
 s₀:=s
 H₀:=H
 env:=envOfC qual scope s.heap.objs.size f cd
 outer:=outer
 stack:=envOfC qual scope s.heap.objs.size f cd::outer
 ex:=[]
 calm:=true
 fn:=fun _=>true
 pn:=[]
 xe:=fun e s'=>wpAny (model P w) (A.deeper (envOfC qual scope s.heap.objs.size f cd)) (leaving (envOfC qual scope s.heap.objs.size f cd) e) (fun _ s''=>CX outer H s E e s'') (fun e' s''=>CX outer H s E e' s'') s'
theorem zgK {sc:Scope}{n:Nat}{x:Str}(h:sc.names.lookup x=some .cell):∃c,(cellsFrom n sc.names []).lookup x=some c:=by
 have q:=PySem.W.cellsFrom_some sc.names n [] (.inl h)
 exact Option.isSome_iff_exists.mp q
theorem zhX {CX:CXT}{P:Program}{w:World}{K:PySem.W.Frag}{mg:Str->Option Value}{base:Heap}{N ps:List Str}{qual:Str}{scope:Scope}{f:Addr}{cd:Value}{A:Around}{outer:List Env}{s s1:Shared}{H:Hp}{E:XK}{us:List Value}{vs:List V}
  (S:FnScope N ps scope) (hd:A.handled=none) (e0:Env0 P w K mg base A outer s H) (hl:vs.length=ps.length) (r:Vals vs us)
  (x:InCallC s s.heap.objs.size (bindL (envOfC qual scope s.heap.objs.size f cd).kindOf (ps.zip us) fun _=>none) (cellsFrom (s.heap.objs.size+1) scope.names []) (bindC (envOfC qual scope s.heap.objs.size f cd).kindOf (ps.zip us) fun _=>none) s1):
  Inv (cxOf CX P w K mg base N qual scope f cd A outer s H E) [] (zfl N vs) H s1:=by
 have hpl:ps.length<=N.length:=by have:=congrArg List.length S.pre;rw[List.length_take] at this;(first|lia|omega)
 obtain⟨h1,tk,rfl,hk⟩:=x.done
 have noA:∀b:Addr,b∉(cxOf CX P w K mg base N qual scope f cd A outer s H E).ex:=fun b z=>absurd (show b∈([]:List Addr) from z) (by simp)
 refine⟨⟨e0.mod,S.kind,rfl,rfl,Nat.le_refl _,fun y z c h1 h2=> ?_,fun y hy=> ?_,fun y c _ h=> ?_,fun _=>hd,Around.frames_deeper e0.frames,.inr ⟨rfl,rfl⟩,fun b z=>absurd z (noA b),e0.bs,e0.bsz,fun b _ _=>noA b,fun b z=>absurd z (noA b),e0.funs,e0.frf⟩,
  rfl,e0.bare,Un.kept hk,⟨_,x.toInCall.ns,fun i y v h1 h2 h3=> ?_⟩,fun y c h=>⟨_,x.cell y c h⟩,e0.hok.fresh (Nat.le_refl _),fun y c h=> ?_,fun p hp=>absurd (show p∈([]:List (Addr×Obj)) from hp) (by simp),e0.hok.kept hk, ?_⟩
 ·exact name_of_addr x.apart (PySem.mem_of_lookup h1) (PySem.mem_of_lookup h2)
 ·have hy:scope.names.lookup y=some .cell∨scope.names.lookup y=some .free:=hy
  rcases hy with hy|hy
  ·exact zgK hy
  ·exact absurd rfl (S.nofree _ (PySem.mem_of_lookup hy))
 ·exact Nat.le_of_lt (x.above y c (PySem.mem_of_lookup h))
 ·have hi:i<vs.length:=by
   unfold zfl at h2
   by_cases hi:i<vs.length
   ·exact hi
   ·rw [List.getElem?_append_right (by simpa using hi)] at h2
    rw[List.getElem?_replicate] at h2
    split at h2<;>cases h2
  have ha:vs[i]? =some v:=by
   unfold zfl at h2
   rw[List.getElem?_append_left (by simpa using hi),List.getElem?_map] at h2
   cases e:vs[i]? with
   |none=>rw[e] at h2;cases h2
   |some a=>rw[e] at h2;cases h2;rfl
  obtain⟨u,hu,rv⟩:=r.get ha
  have hp:ps[i]? =some y:=by
   rw[<-S.pre,List.getElem?_take_of_lt (by (first|lia|omega))];exact h1
  have ndP:ps.Nodup:=by rw[<-S.pre];exact S.nd.sublist (List.take_sublist _ _)
  refine⟨u,rv, ?_⟩
  rcases S.par y (List.mem_of_getElem? hp) with k|k
  ·exact .inl ⟨k,zfj ndP hp hu k⟩
  ·obtain ⟨c,e⟩:=zgK (n:=s.heap.objs.size+1) k
   refine .inr ⟨.inl k,c,e, ?_⟩
   have q:=x.cell y c e
   rw[zfk ndP hp hu (by show scope.names.lookup y≠_;rw[k];decide)] at q
   exact q
 ·exact e0.hok.fresh (Nat.le_of_lt (x.above y c (PySem.mem_of_lookup h)))
 ·unfold zfl
  show _=N.length
  rw[List.length_append,List.length_map,List.length_replicate]
  (first|lia|omega)
theorem zlI {CX:CXT}{P:Program}{w:World}{K:PySem.W.Frag}{mg:Str->Option Value}{base:Heap}{k:Nat}{f:Addr}{name qual:Str}{params:Arguments}{body:List Stmt}{scope:Scope}{dV kV doc pm cdv ct oc:Value}{an od:Option Addr}
  {osl:Array (Option Value)} {N ps:List Str} {sp:Sp} (lk:K.lookup f=some ⟨oc,od,.func (PySem.W.fnOf name qual params body scope dV kV doc pm an cdv ct),osl⟩) (hcd:PySem.W.codeIn K cdv qual=true) (S:FnScope N ps scope)
  (len:∀vs H Q E,sp vs H Q E->vs.length=ps.length)
  (hbody:∀(A:Around) (outer:List Env) (s:Shared) (H:Hp) (vs:List V) (Q:VK) (E:XK),Room k (A.deeper (envOfC qual scope s.heap.objs.size f cdv))->sp vs H Q E->
   ∃t,PSs (cxOf CX P w K mg base N qual scope f cdv A outer s H E) body t/\t {nx:=fun _ H'=>Q .non H',rt:=Q} (zfl N vs) H):
  FnOk P w K mg base CX (k+1) f (PySem.W.fnOf name qual params body scope dV kV doc pm an cdv ct) ps sp:=by
 refine⟨len,fun A outer s H args us vs Q E hr e0 hb r hsp=> ?_⟩
 have hl:=len _ _ _ _ hsp
 have KX:K.In s.heap:=e0.mod.kin.keeps fun b o e=>(e0.bs b o e).1
 have lim:s.heap.NoLimit:=e0.mod.nolimit.keeps fun b o e=>(e0.bs b o e).1
 have hkind:∀y∈ps.zip us,scope.names.lookup y.1=some .local∨(scope.names.lookup y.1=some .cell/\((cellsFrom (s.heap.objs.size+1) scope.names []).lookup y.1).isSome=true):=fun ⟨n,v⟩ hy=>by
  rcases S.par n (List.of_mem_zip hy).1 with q|q
  ·exact .inl q
  ·exact .inr ⟨q,PySem.W.cellsFrom_some _ _ _ (.inl q)⟩
 refine codeAny_call_function hr.depth (KX _ _ lk) rfl S.co S.gen rfl (PySem.W.codeRec_of KX hcd) (hb _ _ _ _ ?_)
 refine wpAny_newFunctionEnv_cells S.kind hkind fun env he s1 x=> ?_
 subst he
 refine⟨lim.keeps x.toInCall.keep,codeAny_func ?_⟩
 obtain⟨t,ht,hq⟩:=hbody A outer s H vs Q E (hr.deeper _) hsp
 have I:Inv (cxOf CX P w K mg base N qual scope f cdv A outer s H E) [] (zfl N vs) H s1:=zhX S hr.hd e0 hl r x
 refine wpAny_mono (ht [] s1 (zfl N vs) H _ I hq) (fun fl s' hs=> ?_) fun e s' hs=>hs
 have fin:∀{σ':St} {H':Hp} {v:V} {u:Value},Inv (cxOf CX P w K mg base N qual scope f cdv A outer s H E) [] σ' H' s'->RelV v u->Q v H'->CE outer P w H s Q u s':=
  fun {σ' H' v u} J rv q=>⟨v,H',J.os,J.bare,J.base,J.hok,rv,q⟩
 cases fl with
 |ret u=>
  obtain⟨v,σ',H',J,rv,q⟩:=hs
  exact fin J rv q
 |next=>
  obtain⟨σ',H',J,q⟩:=hs
  exact fin (v:=V.non) (u:=Value.none) J rfl q
 |brk=>
  obtain⟨_,_,_,q⟩:=hs
  exact False.elim q
 |cont=>
  obtain⟨_,_,_,q⟩:=hs
  exact False.elim q
section
variable {X:Cx}{x:Str}{p pos:Pos}{e:Expr}{es:List Expr}{t:TA}{id T:String}{r:List V->Hp->VK->Prop}
noncomputable def tCB (r:List V->Hp->VK->Prop)(t:TA):TE:=fun σ H Q=>t σ H fun vs H1=>r vs H1 Q
theorem zao (hc:zcn X (.builtin id) r)(hg:Gl X x)(hm:X.mg x=none)(hv:bootBuiltins x=some (.builtin id))(ha:PA X (e::es) t)(hn:x≠ "__name__" :=by decide)(hdb:(x==("__debug__" :Str))=false:=by decide)
  (he:starEach (e::es) X.env=(false,eval e X.env)::starEach es X.env:=by rfl) (hpl:(backTo pos (starEach es X.env)).any (·.1)=false:=by rfl):PE X (.Call (.Name x p) (e::es) [] pos) (tCB r t):=by
 intro pins s σ H Q I h
 refine wpAny_Call_Name_kw (zdu I hg hm hv ?_ hn hdb)
 exact PyProof.Rows.callWith_builtin1 (thn (ha pos pins s σ H _ I h) fun us s1 ⟨vs,H1,I1,r1,q1⟩=>hc pins s1 σ H1 vs us Q I1 r1 q1) he hpl
theorem zam (hc:zcn X (.type T) r)(hg:Gl X x)(hm:X.mg x=none)(hv:bootBuiltins x=some (.type T))(ha:PA X (e::es) t)(hn:x≠ "__name__" :=by decide)(hdb:(x==("__debug__" :Str))=false:=by decide)
  (he:starEach (e::es) X.env=(false,eval e X.env)::starEach es X.env:=by rfl) (hpl:(backTo pos (starEach es X.env)).any (·.1)=false:=by rfl):PE X (.Call (.Name x p) (e::es) [] pos) (tCB r t):=by
 intro pins s σ H Q I h
 refine wpAny_Call_Name_kw (zdu I hg hm hv ?_ hn hdb)
 exact PyProof.Rows.callWith_type1 (thn (ha pos pins s σ H _ I h) fun us s1 ⟨vs,H1,I1,r1,q1⟩=>hc pins s1 σ H1 vs us Q I1 r1 q1) he hpl
end
end L2
namespace HT
open PySem PyProof.Rows
section
open PySem.SeqAt
open PySem.AutoSeq1 (wpAny_loadPart')
open PySem.MeetsSeq PySem.MeetsSeq2 PySem.MeetsSeq3
end
section
variable {prog:Program}{w:World}{A:Around}{E:Value->Shared->Prop}{s:Shared}
noncomputable def sIx (n d:Nat):Option Int->Nat
 |none=>d
 |some v=>if v<0 then (v+(n:Int)).toNat else min v.toNat n
theorem sIx_none (n d:Nat):sIx n d none=d:=rfl
theorem sIx_nat (n d k:Nat):sIx n d (some (k:Int))=min k n:=by
 show (if (k:Int)<0 then ((k:Int)+(n:Int)).toNat else min (k:Int).toNat n)=min k n
 rw[if_neg (by (first|lia|omega)),Int.toNat_natCast]
theorem zkV (n d:Nat)(hd:d<=n)(o:Option Int):sIx n d o<=n:=by
 cases o with
 |none=>exact hd
 |some v=>
  show (if v<0 then (v+(n:Int)).toNat else min v.toNat n)<=n
  by_cases hv:v<0
  ·rw[if_pos hv];(first|lia|omega)
  ·rw[if_neg hv];exact Nat.min_le_right _ _
theorem zhY (v:Int)(n d:Nat):(if v<0 then max (v+(n:Int)) 0 else min v (n:Int))=((sIx n d (some v):Nat):Int):=by
 show (if v<0 then max (v+(n:Int)) 0 else min v (n:Int))=(((if v<0 then (v+(n:Int)).toNat else min v.toNat n):Nat):Int)
 by_cases hv:v<0
 ·simp only[if_pos hv];(first|lia|omega)
 ·simp only[if_neg hv];(first|lia|omega)
theorem zhi (lo hi:Option Int)(n:Nat):Builtin.Slice.sliceAdjust lo hi 1 (n:Int)=(((sIx n 0 lo:Nat):Int),((sIx n n hi:Nat):Int)):=by
 have h1:¬((1:Int)<0):=by (first|lia|omega)
 unfold Builtin.Slice.sliceAdjust
 simp only[h1,if_false]
 refine Prod.ext ?_ ?_
 ·cases lo with
  |none=>rfl
  |some v=>exact zhY v n 0
 ·cases hi with
  |none=>rfl
  |some v=>exact zhY v n n
theorem zhj (i j:Nat):Builtin.Slice.slicePlaces (i:Int) (j:Int) 1=j-i:=by
 unfold Builtin.Slice.slicePlaces
 have h1:(1:Int)>0:=by (first|lia|omega)
 simp only[h1,if_true,Int.ediv_one]
 split<;>(first|lia|omega)
theorem slicePart_ {v:Value}{o:Option Int}{Q:Option Int->Shared->Prop}(p:IsPart v o)(h:Q o s):wpAny (model prog w) A (Builtin.Slice.slicePartIndex v) Q E s:=by
 cases p with
 |none=>exact slicePart_none h
 |int i t=>exact slicePart_int h
theorem sliceApplied_gen {sl:Addr}{vl vu:Value}{lo hi:Option Int}{n:Nat}{Q:Int×Int×Nat->Shared->Prop}(hs:s.heap.IsSliceOf sl vl vu .none)(pl:IsPart vl lo)(pu:IsPart vu hi)
  (h:Q (((sIx n 0 lo:Nat):Int),1,sIx n n hi-sIx n 0 lo) s):wpAny (model prog w) A (Builtin.Slice.sliceApplied (.ref sl) (pure (n:Int))) Q E s:=by
 obtain⟨os,hos,hcs,hds⟩:=id hs
 unfold Builtin.Slice.sliceApplied Builtin.Slice.sliceFields
 refine wpAny_bind (wpAny_bind (wpAny_field hos hds (x:=vl) rfl (wpAny_bind (wpAny_field hos hds (x:=vu) rfl (wpAny_bind (wpAny_field hos hds (x:=.none) rfl (wpAny_pure ?_)))))))
 refine wpAny_bind (slicePart_none ?_)
 show wpAny _ _ (if ((1:Int)==0)=true then _ else _) _ _ s
 rw[if_neg (by decide)]
 refine wpAny_bind (slicePart_ pl (wpAny_bind (slicePart_ pu (wpAny_bind (wpAny_pure ?_)))))
 show wpAny _ _ (match Builtin.Slice.sliceAdjust lo hi 1 (n:Int) with|(lo,hi)=>pure (lo,(1:Int),Builtin.Slice.slicePlaces lo hi 1)) _ _ s
 rw[zhi lo hi n]
 show wpAny _ _ (pure (((sIx n 0 lo:Nat):Int),(1:Int),Builtin.Slice.slicePlaces ((sIx n 0 lo:Nat):Int) ((sIx n n hi:Nat):Int) 1)) _ _ s
 rw[zhj]
 exact wpAny_pure h
theorem zi3 (xs:Array Value)(i k:Nat):((List.range k).filterMap fun (m:Nat)=>xs[((i:Int)+(m:Int)*1).toNat]?).toArray=((xs.toList.drop i).take k).toArray:=by
 have e:(fun (m:Nat)=>xs[((i:Int)+(m:Int)*1).toNat]?)=fun m=>xs[i+m]? :=by
  funext m
  have:((i:Int)+(m:Int)*1).toNat=i+m:=by (first|lia|omega)
  rw[this]
 rw[e]
 have:=pick_run xs i k
 rw[List.filterMap_map] at this
 have e2:((fun x=>xs[x]?)∘fun x=>i+x)=fun m=>xs[i+m]? :=rfl
 rw[e2] at this
 rw[this]
theorem getItem_tuple_cut {t sl:Addr}{items:Array Value}{vl vu:Value}{lo hi:Option Int}{Q:Value->Shared->Prop}(ht:IsTup s.heap t items)(hs:s.heap.IsSliceOf sl vl vu .none)(pl:IsPart vl lo)(pu:IsPart vu hi)
  (hw:¬(sIx items.size 0 lo=0/\sIx items.size items.size hi=items.size))
  (h:Q (.ref s.heap.objs.size) {s with heap:=s.heap.push {cls:=.type "tuple",data:=.seq ((items.toList.drop (sIx items.size 0 lo)).take (sIx items.size items.size hi-sIx items.size 0 lo)).toArray}})
  (hsz:items.size<=sizeLine):wpAny (model prog w) A (getItem (.ref t) (.ref sl)) Q E s:=by
 have htake:sizeOk (.seq ((items.toList.drop (sIx items.size 0 lo)).take (sIx items.size items.size hi-sIx items.size 0 lo)).toArray):=by
  show ((items.toList.drop (sIx items.size 0 lo)).take (sIx items.size items.size hi-sIx items.size 0 lo)).toArray.size<=sizeLine
  rw[List.size_toArray,List.length_take,List.length_drop,Array.length_toList]
  (first|lia|omega)
 have hj:sIx items.size items.size hi<=items.size:=zkV _ _ (Nat.le_refl _) hi
 obtain⟨os,hos,hcs,hds⟩:=id hs
 have hTs:s.TypeIs (.ref sl) "slice" :=⟨os,hos,hcs⟩
 unfold getItem
 try with_reducible refine wpAny_holding ?_
 first|refine wpAny_bind (wpAny_pure ?_)|skip
 refine wpAny_bind (wpAny_sequenceKey ht.typeIs (by decide) ?_)
 refine wpAny_bind (wpAny_callSpecial?_slot (name:=Str.ofString "__getitem__") ht.typeIs PyProof.Rows.slot_tuple_getitem
  (wpAny_call_entry PyProof.Rows.slot_tuple_getitem ht.typeIs entry_tuple_getitem ?_ (args_tuple_getitem _ _)))
 show wpAny _ _ (Builtin.Tuple.tupleItemsOf (.ref t) >>= _) _ _ s
 refine wpAny_bind (tupleItemsOf_ ht ?_)
 refine wpAny_bind (wpAny_typeOf hTs ?_)
 rw[if_pos (by decide)]
 refine wpAny_bind (sliceApplied_gen hs pl pu ?_)
 have hno:¬((((sIx items.size 0 lo:Nat):Int)==0&&(1:Int)==1&&(sIx items.size items.size hi-sIx items.size 0 lo)==items.size)=true):=by
  intro q
  rw[Bool.and_eq_true,Bool.and_eq_true] at q
  have q1:((sIx items.size 0 lo:Nat):Int)=0:=eq_of_beq q.1.1
  have q2:sIx items.size items.size hi-sIx items.size 0 lo=items.size:=eq_of_beq q.2
  exact hw ⟨by (first|lia|omega),by (first|lia|omega)⟩
 show wpAny _ _ (if (((sIx items.size 0 lo:Nat):Int)==0&&(1:Int)==1&&(sIx items.size items.size hi-sIx items.size 0 lo)==items.size)=true then _ else _) _ _ s
 rw[if_neg hno,zi3]
 first
  |exact wpAny_bind (m:=Builtin.Tuple.tupleExact _) (wpAny_newObj_type (wpAny_pure ⟨_,rfl,wpAny_pure h⟩) htake)
  |exact wpAny_bind (m:=Builtin.Tuple.tupleExact _) (wpAny_newObj_type (wpAny_bind (wpAny_pure (wpAny_pure ⟨_,rfl,wpAny_pure h⟩))) htake)
  |exact wpAny_bind (wpAny_bind (m:=Builtin.Tuple.tupleExact _) (wpAny_newObj_type (wpAny_pure (wpAny_pure ⟨_,rfl,wpAny_pure h⟩)) htake))
  |exact wpAny_bind (wpAny_bind (m:=Builtin.Tuple.tupleExact _) (wpAny_newObj_type (wpAny_pure ⟨_,rfl,wpAny_pure h⟩) htake))
end
end HT
namespace L2
open PySem PySem.Spec PyProof.Rows
noncomputable abbrev TO:=St->Hp->(Option Int->Hp->Prop)->Prop
noncomputable def PO (X:Cx)(e:Option Expr)(t:TO):Prop:=
 ∀(pins:List (Addr×Obj)) (s:Shared) (σ:St) (H:Hp) (Q:Option Int->Hp->Prop),Inv X pins σ H s->t σ H Q->
  wpAny (model X.prog X.w) X.A (evalPart e X.env) (fun u s'=>∃o H',Inv X pins σ H' s'/\IsPart u o/\Q o H') X.xe s
noncomputable def zj4:TO:=fun _ H Q=>Q none H
noncomputable def zkW (t:TE):TO:=fun σ H Q=>t σ H fun x H1=>∃i,x=.int i/\Q (some i) H1
theorem zem {ns:List Int}:∀{us:List Value},Vals (ns.map V.int) us->IntsAre us ns:=by
 induction ns with
 |nil=>intro us r;rw[List.map_nil] at r;cases r;exact .nil
 | cons n ns ih=>
  intro us r
  rw[List.map_cons] at r
  cases r with
  |cons r1 r2=>
   obtain⟨t,e⟩:=r1
   subst e
   exact .cons n t (ih r2)
section
variable {X:Cx}{e:Expr}{te:TE}{lo hi:Option Expr}{tl th:TO}{pos p2:Pos}
theorem zdB:PO X none zj4:=by
 intro pins s σ H Q I h
 rw[evalPart_none]
 exact wpAny_pure ⟨none,H,I,.none,h⟩
theorem zcY (h:PE X e te):PO X (some e) (zkW te):=by
 intro pins s σ H Q I hw
 rw[evalPart_some]
 refine thn (h pins s σ H _ I hw) fun u s1 zq=> ?_
 obtain⟨x,H1,I1,r1,q1⟩:=zq
 obtain⟨i,rfl,q⟩:=q1
 obtain⟨t,rfl⟩:=r1
 exact⟨some i,H1,I1,.int i t,q⟩
noncomputable def SlR (X:Cx)(r:V->Option Int->Option Int->Hp->VK->Prop):Prop:=
 ∀(pins:List (Addr×Obj)) (s:Shared) (σ:St) (H:Hp) (x:V) (v vl vu:Value) (lo hi:Option Int) (sl:Addr) (Q:VK),Inv X pins σ H s->RelV x v->s.heap.IsSliceOf sl vl vu .none->IsPart vl lo->IsPart vu hi->r x lo hi H Q->
  ∃T id,typeLookup (.type T) "__getitem__" =pure (some (.builtin id))/\s.TypeIs v T/\wpAny (model X.prog X.w) X.A (getItem v (.ref sl)) (EP X pins σ Q) X.xe s
noncomputable def tSl (r:V->Option Int->Option Int->Hp->VK->Prop)(te:TE)(tl th:TO):TE:=fun σ H Q=>te σ H fun x H1=>tl σ H1 fun l H2=>th σ H2 fun u H3=>r x l u H3 Q
theorem zdk {r:V->Option Int->Option Int->Hp->VK->Prop}(hr:SlR X r)(he:PE X e te)(hl:PO X lo tl)(hu:PO X hi th):PE X (.Subscript e (.Slice lo hi none p2) pos) (tSl r te tl th):=by
 intro pins s σ H Q I h
 refine Subscript_ (thn (he pins s σ H _ I h) fun v s1 zq=> ?_)
 obtain⟨x,H1,I1,r1,q1⟩:=zq
 refine wpAny_Slice (thn (hl pins s1 σ H1 _ I1 q1) fun vl s2 ⟨l,H2,I2,pl,q2⟩=>thn (hu pins s2 σ H2 _ I2 q2) fun vu s3 ⟨u,H3,I3,pu,q3⟩=> ?_)
 rw[evalPart_none]
 refine wpAny_pure ?_
 have I4:Inv X pins σ H3 {s3 with heap:=s3.heap.push {cls:=.type "slice",data:=.fields #[vl,vu,.none]}}:=I3.kept (t':=s3.toks) fun b ob q=>Heap.get?_push_of_some _ q
 obtain⟨T,id,hT,ht,hg⟩:=hr pins {s3 with heap:=s3.heap.push {cls:=.type "slice",data:=.fields #[vl,vu,.none]}} σ H3 x v vl vu l u s3.heap.objs.size Q I4 r1 (Heap.IsSliceOf.new ..) pl pu q3
 show wpAny (model X.prog X.w) X.A (subscriptTail e (.Slice lo hi none p2) v (.ref s3.heap.objs.size)) (EP X pins σ Q) X.xe {s3 with heap:=s3.heap.push {cls:=.type "slice",data:=.fields #[vl,vu,.none]}}
 exact tail_any (ops:=[.ref s3.heap.objs.size,v]) ht hT hg (by with_unfolding_all rfl)
noncomputable def cutV (xs:List V)(lo hi:Option Int):List V:=(xs.drop (HT.sIx xs.length 0 lo)).take (HT.sIx xs.length xs.length hi-HT.sIx xs.length 0 lo)
theorem zfV (xs:List V)(lo hi:Option Int):(cutV xs lo hi).length<=xs.length:=by
 unfold cutV
 rw[List.length_take,List.length_drop]
 (first|lia|omega)
noncomputable def rSlT (K:PySem.W.Frag):V->Option Int->Option Int->Hp->VK->Prop:=fun x lo hi H Q=>∃a xs,x=.ref a/\SqT K H a xs/\
 ¬(HT.sIx xs.length 0 lo=0/\HT.sIx xs.length xs.length hi=xs.length)/\∀p,H p=none->Q (.ref p) (upd H p (.tup (cutV xs lo hi)))
theorem zjN:SlR X (rSlT X.K):=by
 intro pins s σ H x v vl vu lo hi sl Q I rx hs pl pu h
 obtain⟨a,xs,rfl,hx,hw,q⟩:=h
 cases rx
 obtain⟨its,r,ht,hz⟩:=I.tuple hx
 have hlen:its.toArray.size=xs.length:=by rw[List.size_toArray];exact r.length.symm
 refine⟨"tuple",_,PyProof.Rows.slot_tuple_getitem.lookup,ht.typeIs, ?_⟩
 refine HT.getItem_tuple_cut ht hs pl pu (by rw[hlen];exact hw) ?_ (by rw[hlen];exact hz)
 rw[hlen]
 refine⟨.ref s.heap.objs.size,_,I.laid (t':=s.toks) (o:=.tup (cutV xs lo hi)) (fun b ob q=>Heap.get?_push_of_some _ q) (Nat.le_refl _) ?_,rfl,q _ (I.hok.fresh (Nat.le_refl _))⟩
 exact⟨Nat.le_trans (zfV xs lo hi) hz,_,(r.drop (HT.sIx xs.length 0 lo)).take (HT.sIx xs.length xs.length hi-HT.sIx xs.length 0 lo),PTup.new⟩
end
noncomputable def ixN (n:Nat)(i:Int):Option Nat:=if 0<=i then (if i<n then some i.toNat else none) else if-(n:Int)<=i then some (i+n).toNat else none
noncomputable def atI {α:Type}(xs:List α)(i:Int):Option α:=(ixN xs.length i).bind fun j=>xs[j]?
theorem zhZ {n:Nat}{i:Int}{j:Nat}(h:ixN n i=some j):seqIndex? i n=some j/\j<n/\-(n:Int)<=i/\i<n:=by
 unfold ixN at h
 by_cases h0:0<=i
 ·rw [if_pos h0] at h
  by_cases h1:i<n
  ·rw [if_pos h1] at h
   have e:i.toNat=j:=Option.some.inj h
   exact⟨by rw[seqIndex_of h0 h1,e],by (first|lia|omega),by (first|lia|omega),h1⟩
  ·rw[if_neg h1] at h;cases h
 ·rw [if_neg h0] at h
  by_cases h1:-(n:Int)<=i
  ·rw [if_pos h1] at h
   have e:(i+n).toNat=j:=Option.some.inj h
   exact⟨by rw[seqIndex_neg (by (first|lia|omega)) h1,e],by (first|lia|omega),h1,by (first|lia|omega)⟩
  ·rw[if_neg h1] at h;cases h
theorem zh0 {α:Type}{xs:List α}{i:Int}{v:α}(h:atI xs i=some v):∃j,seqIndex? i xs.length=some j/\xs[j]? =some v/\j<xs.length/\-(xs.length:Int)<=i/\i<xs.length:=by
 unfold atI at h
 cases e:ixN xs.length i with
 |none=>rw[e] at h;cases h
 |some j=>
  rw[e] at h
  obtain⟨h1,h2,h3,h4⟩:=zhZ e
  exact⟨j,h1,h,h2,h3,h4⟩
theorem zah {α:Type}{xs:List α}{j:Nat}{v:α}(h:xs[j]? =some v):atI xs (j:Int)=some v:=by
 have hj:j<xs.length:=(List.getElem?_eq_some_iff.mp h).1
 have e:ixN xs.length (j:Int)=some j:=by
  unfold ixN
  rw[if_pos (by (first|lia|omega)),if_pos (by (first|lia|omega))];simp
 unfold atI;rw[e];exact h
noncomputable def zj5 (b:Expr):Prop:=∀o i,subscripted b false o i=operate [o,i] (getItem o i)
noncomputable def IxR (X:Cx)(r:R2):Prop:=
 ∀(value slice:Expr) (pins:List (Addr×Obj)) (s:Shared) (σ:St) (H:Hp) (x y:V) (v u:Value) (Q:VK),Inv X pins σ H s->RelV x v->RelV y u->r x y H Q->
  subscripted slice false v u=operate [v,u] (getItem v u)->wpAny (model X.prog X.w) X.A (subscriptTail value slice v u) (EP X pins σ Q) X.xe s
noncomputable def MtR (X:Cx)(id:String)(r:V->List V->Hp->VK->Prop):Prop:=
 ∀(pins:List (Addr×Obj)) (s:Shared) (σ:St) (H:Hp) (x:V) (xs:List V) (v:Value) (us:List Value) (Q:VK),Inv X pins σ H s->RelV x v->Vals xs us->r x xs H Q->
  wpAny (model X.prog X.w) X.A (call (.builtin id) (v::us)) (EP X pins σ Q) X.xe s
section
variable {X:Cx}{a b:Expr}{ta tb:TE}{pos:Pos}
theorem zaj {r:R2}(hr:IxR X r)(ha:PE X a ta)(hb:PE X b tb)(hs:zj5 b):PE X (.Subscript a b pos) (tOp r ta tb):=by
 intro pins s σ H Q I h
 exact Subscript_ (binT ha hb I h fun v u s2 x y H2 I2 rx ry q=>hr a b pins s2 σ H2 x y v u Q I2 rx ry q (hs _ _))
noncomputable def rIxL (K:PySem.W.Frag):R2:=fun x y H Q=>∃p xs i v,x=.ref p/\y=.int i/\SqL K H p xs/\atI xs i=some v/\Q v H
noncomputable def rIxT (K:PySem.W.Frag):R2:=fun x y H Q=>∃p xs i v,x=.ref p/\y=.int i/\SqT K H p xs/\atI xs i=some v/\Q v H
theorem za4:IxR X (rIxL X.K):=by
 intro value slice pins s σ H x y v u Q I rx ry h hs
 obtain⟨p,xs,i,z,rfl,rfl,hq,he,q⟩:=h
 cases rx
 obtain⟨t,rfl⟩:=ry
 obtain⟨its,r,pl,hz⟩:=I.list hq
 obtain⟨j,h1,h2,h3,h4,h5⟩:=zh0 he
 obtain⟨w,ew,rw'⟩:=r.get h2
 have hl:=r.length
 have hn:=zfg
 have fin:EP X pins σ Q w s:=⟨z,H,I,rw',q⟩
 by_cases h0:0<=i
 ·have hj:i.toNat=j:=by
   rw[seqIndex_of h0 h5] at h1
   exact Option.some.inj h1
  exact item_listR pl.isList h0 (by (first|lia|omega)) (by rw[hj];simpa using ew) fin hs
 ·have hj:(i+(its.toArray.size:Int)).toNat=j:=by
   rw[seqIndex_neg (by (first|lia|omega)) h4] at h1
   rw[List.size_toArray,<-hl]
   exact Option.some.inj h1
  exact subscriptTail_builtinR (x:=w) pl.isList.typeIs slot_list_getitem.lookup
   (wpAny_getItem_list_neg (Q:=fun r s'=>r=w/\EP X pins σ Q r s') pl.isList (by (first|lia|omega)) (by rw[List.size_toArray]<;>(first|lia|omega)) (by (first|lia|omega)) (by rw[hj];simpa using ew) ⟨rfl,fin⟩) hs
theorem zai:IxR X (rIxT X.K):=by
 intro value slice pins s σ H x y v u Q I rx ry h hs
 obtain⟨p,xs,i,z,rfl,rfl,hq,he,q⟩:=h
 cases rx
 obtain⟨t,rfl⟩:=ry
 obtain⟨its,r,pl,hz⟩:=I.tuple hq
 obtain⟨j,h1,h2,h3,h4,h5⟩:=zh0 he
 obtain⟨w,ew,rw'⟩:=r.get h2
 have hl:=r.length
 have hn:=zfg
 have fin:EP X pins σ Q w s:=⟨z,H,I,rw',q⟩
 exact subscriptTail_builtinR (x:=w) pl.typeIs slot_tuple_getitem.lookup
  (getItem_tuple (j:=j) (Q:=fun r s'=>r=w/\EP X pins σ Q r s') pl (by (first|lia|omega)) (by (first|lia|omega)) (by rw[List.size_toArray,<-hl];exact h1) (by simpa using ew) ⟨rfl,fin⟩) hs
theorem zhk (its:List Value)(n j:Nat)(u:Value):Obj.mapSeq (·.setIfInBounds j u) {cls:=.type "list",data:=.seq its.toArray n}={cls:=.type "list",data:=.seq (its.set j u).toArray n}:=by
 simp[Obj.mapSeq]
theorem Inv.lst {pins:List (Addr×Obj)}{σ:St}{H:Hp}{s:Shared}{p:Addr}{xs:List V}(I:Inv X pins σ H s)(h:H p=some (.lst xs)):
  ∃(its:List Value) (n:Nat),Vals xs its/\s.heap.get? p=some {cls:=.type "list",data:=.seq its.toArray n}/\xs.length<=sizeLine:=by
 obtain⟨z,its,n,r,e⟩:=I.hok p _ h
 exact⟨its,n,r,e,z⟩
theorem Inv.lstUpd {pins:List (Addr×Obj)}{σ:St}{H:Hp}{s:Shared}{p:Addr}{xs ys:List V}{its its':List Value}{n n':Nat}{f:Obj->Obj}(I:Inv X pins σ H s)(h:H p=some (.lst xs))
  (ho:s.heap.get? p=some {cls:=.type "list",data:=.seq its.toArray n}) (hf:f {cls:=.type "list",data:=.seq its.toArray n}={cls:=.type "list",data:=.seq its'.toArray n'}) (r:Vals ys its') (hz:ys.length<=sizeLine) (t:Nat):
  Inv X pins σ (upd H p (.lst ys)) {s with heap:=s.heap.update p f,toks:=t}:=by
 have e:(s.heap.update p f).get? p=some {cls:=.type "list",data:=.seq its'.toArray n'}:=by
  rw[Heap.get?_update_self f ho (by rw[hf]<;>rfl),hf]
 refine I.write (x:=p) (e:=p) (by rw[h];trivial) (.inl rfl) (fun b u hb q=>(Heap.get?_update_other _ _ (Ne.symm hb)).trans q) ⟨_,e⟩ ?_
 exact⟨hz,its',n',r,e⟩
noncomputable def zlJ:V->V->V->Hp->(Hp->Prop)->Prop:=fun o i v H Q=>∃p xs k j,o=.ref p/\i=.int k/\H p=some (.lst xs)/\ixN xs.length k=some j/\Q (upd H p (.lst (xs.set j v)))
theorem zbI:PSet X zlJ:=by
 intro pins s σ H o i v ov iv u Q I ro ri rv h
 obtain⟨p,xs,k,j,rfl,rfl,hp,hj,q⟩:=h
 cases ro
 obtain⟨t,rfl⟩:=ri
 obtain⟨its,n,r,ho,hz⟩:=I.lst hp
 obtain⟨h1,h2,h3,h4⟩:=zhZ hj
 have hl:=r.length
 have hn:=zfg
 have I':Inv X pins σ (upd H p (.lst (xs.set j v))) {s with heap:=s.heap.update p (Obj.mapSeq (·.setIfInBounds j u))}:=
  I.lstUpd hp ho (zhk its n j u) (r.set rv j) (by rw[List.length_set];exact hz) s.toks
 by_cases h0:0<=k
 ·have hk:k.toNat=j:=by
   rw[seqIndex_of h0 h4] at h1
   exact Option.some.inj h1
  exact PySem.W.ki_setAt ho h0 (by (first|lia|omega)) (by rw[List.size_toArray,<-hl];exact h4) (by rw[hk];exact⟨_,I',q⟩)
 ·have hk:(k+(its.toArray.size:Int)).toNat=j:=by
   rw[seqIndex_neg (by (first|lia|omega)) h3] at h1
   rw[List.size_toArray,<-hl]
   exact Option.some.inj h1
  exact PySem.W.ki_setBack ho (by (first|lia|omega)) (by rw[List.size_toArray,<-hl];exact h3) (by (first|lia|omega)) (by rw[hk];exact⟨_,I',q⟩)
theorem zas:zcn X (.builtin "len") (fun xs H Q=>∃p ys,xs=[.ref p]/\(SqL X.K H p ys∨SqT X.K H p ys)/\Q (.int ys.length) H):=by
 intro pins s σ H xs us Q I r h
 obtain⟨p,ys,rfl,hq,q⟩:=h
 obtain⟨u,rfl,rx⟩:=zcH r
 cases rx
 have hn:=zfg
 rcases hq with hq|hq
 ·obtain ⟨its,r',pl,hz⟩:=I.list hq
  have hlen:=r'.length
  exact Calls.call_len_list pl.isList (by simp only[List.size_toArray]<;>(first|lia|omega)) ⟨.int ys.length,H,I.tok _,⟨s.toks+1,by rw[List.size_toArray,hlen]⟩,q⟩
 ·obtain ⟨its,r',pl,hz⟩:=I.tuple hq
  have hlen:=r'.length
  exact len_tuple pl (by simp only[List.size_toArray]<;>(first|lia|omega)) ⟨.int ys.length,H,I.tok _,⟨s.toks+1,by rw[List.size_toArray,hlen]⟩,q⟩
theorem zap:zcn X (.type "tuple") (fun xs H Q=>∃p ys,xs=[.ref p]/\((SqL X.K H p ys/\∀l,H l=none->Q (.ref l) (upd H l (.tup ys)))∨(SqT X.K H p ys/\Q (.ref p) H))):=by
 intro pins s σ H xs us Q I r h
 obtain⟨p,ys,rfl,h⟩:=h
 obtain⟨u,rfl,rx⟩:=zcH r
 cases rx
 rcases h with⟨hq,q⟩|⟨hq,q⟩
 ·obtain ⟨its,r',pl,hz⟩:=I.list hq
  have hlen:=r'.length
  refine call_tuple_list pl.isList (fun h' kp=> ?_) (by simp only[List.size_toArray]<;>(first|lia|omega))
  have I1:Inv X pins σ H {s with heap:=h'}:=I.kept (t':=s.toks) kp
  have I2:Inv X pins σ (upd H h'.objs.size (.tup ys)) {s with heap:=h'.push {cls:=.type "tuple",data:=.seq its.toArray}}:=
   I1.laid (t':=s.toks) (fun b o e=>Heap.get?_push_of_some _ e) (Nat.le_refl _) (show ObjOk X.prog X.w _ _ _ (.tup ys) from ⟨hz,its,r',PTup.new⟩)
  exact⟨.ref h'.objs.size,_,I2,rfl,q _ (I1.hok.fresh (Nat.le_refl _))⟩
 ·obtain ⟨its,r',pl,hz⟩:=I.tuple hq
  exact call_tuple_same pl ⟨.ref p,H,I,rfl,q⟩
noncomputable def tyV (K:PySem.W.Frag)(T:String)(x:V)(H:Hp):Prop:=match x with
 | .str _=>T= "str"
 | .int _=>T= "int"
 | .ref p=>(T= "list" /\∃xs,SqL K H p xs)∨(T= "tuple" /\∃o,K.lookup p=some o/\o.cls=.type "tuple" /\o.dict=none)∨
   (T= "dict" /\((∃kvs,H p=some (.dK kvs))∨∃kvs,H p=some (.dT kvs)))∨(T= "set" /\∃S n,H p=some (.set S n))
 |_=>False
theorem zkX {pins:List (Addr×Obj)}{σ:St}{H:Hp}{s:Shared}{T:String}{x:V}{v:Value}(I:Inv X pins σ H s)(r:RelV x v)(ty:tyV X.K T x H):
  s.TypeIs v T/\∀a,v=.ref a->∃ob,s.heap.get? a=some ob/\ob.dict=none:=by
 cases x with
 |str z=>
  obtain⟨t,rfl⟩:=r
  cases (show T= "str" from ty)
  exact⟨typeIs_str s z t,fun _ e=>nomatch e⟩
 |int i=>
  obtain⟨t,rfl⟩:=r
  cases (show T= "int" from ty)
  exact⟨typeIs_int s i t,fun _ e=>nomatch e⟩
 | ref p=>
  cases r
  rcases ty with⟨rfl,xs,hq⟩|⟨rfl,o,hk,hc,hd⟩|⟨rfl,hk⟩|⟨rfl,S,n,hk⟩
  ·obtain ⟨its,_,pl,_⟩:=I.list hq
   refine⟨pl.isList.typeIs,fun a e=> ?_⟩
   cases e
   obtain⟨o,n,e,c,hd,_⟩:=pl
   exact⟨o,e,hd⟩
  ·refine ⟨⟨o,I.kIn p o hk,hc⟩,fun a e=> ?_⟩
   cases e
   exact⟨o,I.kIn _ o hk,hd⟩
  ·have z:∃o,s.heap.get? p=some o/\o.ExactDict:=by
    rcases hk with⟨kvs,hk⟩|⟨kvs,hk⟩
    ·obtain ⟨_,_,_,_,o,_,_,e,ex,_⟩:=I.hok p _ hk
     exact⟨o,e,ex⟩
    ·obtain ⟨_,_,_,_,o,_,_,e,ex,_⟩:=I.hok p _ hk
     exact⟨o,e,ex⟩
   obtain⟨o,e,ex⟩:=z
   refine⟨⟨o,e,ex.1⟩,fun a e2=> ?_⟩
   cases e2
   exact⟨o,e,ex.2.1⟩
  ·obtain ⟨o,_,_,_,e,ex,_⟩:=I.hok p _ hk
   refine⟨⟨o,e,ex.1⟩,fun a e2=> ?_⟩
   cases e2
   exact⟨o,e,ex.2.1⟩
 |_=>exact False.elim ty
noncomputable def tBM (K:PySem.W.Frag)(T:String)(r:V->List V->Hp->VK->Prop)(to:TE)(t:TA):TE:=fun σ H Q=>to σ H fun x H1=>tyV K T x H1/\t σ H1 fun xs H2=>r x xs H2 Q
variable {o e:Expr}{es:List Expr}{to:TE}{t:TA}{name:Str}{apos cpos:Pos}{T id:String}{r:V->List V->Hp->VK->Prop}
theorem zh1 (pa:PlainAttrs T)(slot:Slot T name id)(hty:typeOf (.builtin id)=pure (.type "method_descriptor"))(hm:MtR X id r)(ho:PE X o to)(ha:PA X (e::es) t)
  (hbase:attributeBase o name X.env (eval o X.env)=eval o X.env:=by rfl)
  (hfew:((backTo cpos (starEach (e::es) X.env)).all (fun x=> !x.1)&&(backToKw cpos (keywordEach [] X.env)).all (fun x=>x.1.isSome)
   &&decide ((e::es).length+([]:List Keyword).length+(if ([]:List Keyword).isEmpty then 0 else 1)<30))=true:=by rfl)
  (hline:(apos.endLine==cpos.line)=true:=by rfl) (hs:starEach (e::es) X.env=(false,eval e X.env)::starEach es X.env:=by rfl) (hplain:(backTo cpos (starEach es X.env)).any (·.1)=false:=by rfl):
  PE X (.Call (.Attribute o name apos) (e::es) [] cpos) (tBM X.K T r to t):=by
 intro pins s σ H Q I h
 refine wpAny_Call_method_late hbase hfew hline rfl (thn (ho pins s σ H _ I h) fun v s1 zq=> ?_)
 obtain⟨x,H1,I1,r1,ty,q1⟩:=zq
 obtain⟨h1,h2⟩:=zkX I1 r1 ty
 refine⟨T,id,pa,slot,hty,h1,h2, ?_⟩
 have hA:=ha cpos pins s1 σ H1 _ I1 q1
 rw[hs] at hA ⊢
 refine Calls.callWith_builtin (by show (false||(backTo cpos (starEach es X.env)).any (·.1))=false;rw[hplain]<;>rfl) (Calls.evalArgs_plain ?_)
 exact thn hA fun us s2 ⟨vs,H2,I2,r2,q2⟩=>hm pins s2 σ H2 x vs v us Q I2 r1 r2 q2
end
noncomputable def MtM (X:Cx)(id:String)(r:V->List V->Hp->VK->Prop):Prop:=
 ∀(pins:List (Addr×Obj)) (s:Shared) (σ:St) (H:Hp) (x:V) (xs:List V) (v:Value) (us:List Value) (Q:VK),Inv X pins σ H s->RelV x v->Vals xs us->r x xs H Q->
  wpAny (model X.prog X.w) X.A (call (.builtin id) (v::us)) (EP X pins σ Q) X.xe s
theorem Vals.one:∀{x:V} {us:List Value},Vals [x] us->∃u,us=[u]/\RelV x u
 |_,_,.cons r .nil=>⟨_,rfl,r⟩
theorem Vals.two:∀{x y:V} {us:List Value},Vals [x,y] us->∃u v,us=[u,v]/\RelV x u/\RelV y v
 |_,_,_,.cons r (.cons q .nil)=>⟨_,_,rfl,r,q⟩
theorem Vals.reverse {xs:List V}{us:List Value}(h:Vals xs us):Vals xs.reverse us.reverse:=by
 induction h with
 |nil=>exact .nil
 |cons r t ih=>rw[List.reverse_cons,List.reverse_cons];exact Vals.append ih (.cons r .nil)
theorem Vals.rep {xs:List V}{us:List Value}(h:Vals xs us):∀k:Nat,Vals (List.replicate k xs).flatten (List.replicate k us).flatten
 |0=>.nil
 |k+1=>by
  rw[List.replicate_succ,List.replicate_succ,List.flatten_cons,List.flatten_cons]
  exact Vals.append h (Vals.rep h k)
theorem zfm (its:List Value):∀(k:Nat) (acc:List Value),
  List.foldl (fun x1 x2=>x1++x2) acc.toArray (List.replicate k its.toArray)=(acc++(List.replicate k its).flatten).toArray
 |0,acc=>by simp
 | k+1,acc=>by
  have e:acc.toArray++its.toArray=(acc++its).toArray:=by simp
  have e2:(acc++its)++(List.replicate k its).flatten=acc++(List.replicate (k+1) its).flatten:=by
   rw[List.replicate_succ,List.flatten_cons,List.append_assoc]
  rw[<-e2,<-zfm its k (acc++its),<-e,List.replicate_succ,List.foldl_cons]
section
variable {X:Cx}{pins:List (Addr×Obj)}{σ:St}{H:Hp}{s:Shared}{l b:Addr}{xs ys zs:List V}
theorem Inv.lset {its its':List Value}{n:Nat}{f:Array Value->Array Value}{t':Nat}(I:Inv X pins σ H s)(hH:H l=some (.lst xs))
  (e:s.heap.get? l=some {cls:=.type "list",data:=.seq its.toArray n}) (hf:f its.toArray=its'.toArray) (hv:Vals ys its') (hz:ys.length<=sizeLine):
  Inv X pins σ (upd H l (.lst ys)) {s with heap:=s.heap.update l (Obj.mapSeq f),toks:=t'}:=by
 have q:=PySem.IsL.update e f
 rw[hf] at q
 refine I.write (x:=l) (e:=l) (by rw[hH];exact trivial) (.inl rfl) (fun b' u hb hu=>(Heap.get?_update_other s.heap (Obj.mapSeq f) (Ne.symm hb)).trans hu) ⟨_,q⟩ ?_
 exact⟨hz,its',_,hv,q⟩
theorem Inv.lnew {its:List Value}{t':Nat}(I:Inv X pins σ H s)(hv:Vals ys its)(hz:ys.length<=sizeLine):
  Inv X pins σ (upd H s.heap.objs.size (.lst ys)) {s with heap:=s.heap.push {cls:=.type "list",data:=.seq its.toArray},toks:=t'}:=
 I.laid (fun _ _ q=>Heap.get?_push_of_some _ q) (Nat.le_refl _) ⟨hz,its,0,hv,Heap.get?_push_size _ rfl⟩
theorem Inv.fresh (I:Inv X pins σ H s):H s.heap.objs.size=none:=I.hok.fresh (Nat.le_refl _)
theorem Inv.lstM (I:Inv X pins σ H s)(hH:H l=some (.lst xs)):xs.length<=sizeLine/\∃(its:List Value) (n:Nat),Vals xs its/\xs.length=its.length/\s.heap.get? l=some {cls:=.type "list",data:=.seq its.toArray n}:=by
 obtain⟨z,its,n,r,e⟩:=I.hok l _ hH
 exact⟨z,its,n,r,r.length,e⟩
theorem zi4 {n:Nat}(h:n<=sizeLine):Builtin.List.listTooLong n=false:=by
 unfold Builtin.List.listTooLong
 exact decide_eq_false (by (first|lia|omega))
end
section
variable {X:Cx}
noncomputable def zj6:V->List V->Hp->VK->Prop:=fun x vs H Q=>∃l xs y,x=.ref l/\vs=[y]/\H l=some (.lst xs)/\xs.length<sizeLine/\Q .non (upd H l (.lst (xs++[y])))
theorem zbE:MtM X "list.append" zj6:=by
 intro pins s σ H x vs v us Q I rx rv h
 obtain⟨l,xs,y,rfl,rfl,hH,hz,q⟩:=h
 cases rx
 obtain⟨u,rfl,ru⟩:=rv.one
 obtain⟨z,its,n,r,hl,e⟩:=I.lstM hH
 refine call_meets F.slot_list_append ⟨_,e,rfl⟩ F.entry_list_append (F.args_list_append_2 _ _) (PySem.list_append l its.toArray n u (by rw[List.size_toArray];(first|lia|omega))) ⟨e, ?_⟩
 refine⟨.non,_,I.lset (its':=its++[u]) hH e (by simp) (r.append (.cons ru .nil)) ?_,rfl,q⟩
 rw[List.length_append,List.length_singleton]
 (first|lia|omega)
noncomputable def rRep:R2:=fun x y H Q=>∃l k xs,x=.ref l/\y=.int k/\H l=some (.lst xs)/\-(2^63)<=k/\k<2^63/\xs.length*k.toNat<=sizeLine/\
 ∀p,H p=none->Q (.ref p) (upd H p (.lst (List.replicate k.toNat xs).flatten))
theorem zj7 {α:Type}(xs:List α)(k:Nat):(List.replicate k xs).flatten.length=k*xs.length:=by
 induction k with
 |zero=>simp
 |succ k ih=>rw[List.replicate_succ,List.flatten_cons,List.length_append,ih,Nat.succ_mul,Nat.add_comm]
theorem zkY:OpR X (binaryOp .Mult) rRep:=by
 intro pins s σ H x y v u Q I rx ry h
 obtain⟨l,k,xs,rfl,rfl,hH,h1,h2,hz,q⟩:=h
 cases rx
 obtain⟨t,rfl⟩:=ry
 obtain⟨z,its,n,r,hl,e⟩:=I.lstM hH
 have hlen:its.toArray.size*k.toNat<=sizeLine:=by rw[List.size_toArray,<-hl];exact hz
 have hcap:¬its.toArray.size*k.toNat>(2^63-1)/8:=by
  have:(sizeLine:Nat)<=(2^63-1)/8:=by decide
  (first|lia|omega)
 have hfit:¬(!Builtin.List.listFitsIndex k)=true:=by
  rw[fitsIndex_both h1 h2]
  exact Bool.false_ne_true
 have hlong:¬Builtin.List.listTooLong (its.toArray.size*k.toNat)=true:=by
  rw[zi4 hlen]
  exact Bool.false_ne_true
 have hnew:List.foldl (fun x1 x2=>x1++x2) #[] (List.replicate (if its.toArray.isEmpty=true then 0 else k.toNat) its.toArray)=(List.replicate k.toNat its).flatten.toArray:=by
  have f0:∀m:Nat,List.foldl (fun x1 x2=>x1++x2) #[] (List.replicate m its.toArray)=(List.replicate m its).flatten.toArray:=fun m=>by
   have:=zfm its m []
   rw[List.nil_append] at this
   exact this
  rw[f0]
  cases its with
  |nil=>simp
  |cons a r'=>rw[if_neg (by simp)]
 refine wpAny_binaryOp_repeat_ref (T:= "list") (U:= "int") (by decide) ⟨_,e,rfl⟩ (fun s'=>typeIs_int s' k t) noFill_list_mul F.fills_int_mul F.slot_int_rmul repeat_list F.slot_int_index.lookup
  (call_meets F.slot_int_rmul (typeIs_int s k t) F.entry_int_rmul (F.args_int_rmul_2 _ _) (int___rmul___int_list k t l its.toArray n)
   ⟨e,rfl,⟨_,e,rfl⟩,call_meets F.slot_list_mul ⟨_,e,rfl⟩ F.entry_list_mul (F.args_list_mul_2 _ _) (AutoListH.list___mul___list_int_3 l its.toArray n k t hfit hcap hlong) ⟨e, ?_⟩⟩)
 rw[hnew]
 exact⟨.ref _,_,I.lnew (t':=s.toks) (r.rep k.toNat) (by rw[zj7,Nat.mul_comm];exact hz),rfl,q _ I.fresh⟩
end
section
variable {prog:Program}{w:World}{A:Around}{E:Value->Shared->Prop}{s:Shared}
end
section
variable {X:Cx}
end
end L2
namespace Att
open PySem PySem.W PySem.Calls PyProof.Rows
theorem zdC {P:Params}{h:Heap}:∀(ns:List Int) (vs:List Value),WellAll P h vs (ns.map WData.int)->IntsAre vs ns:=by
 intro ns
 induction ns with
 |nil=>
  intro vs w
  rw[List.map_nil] at w
  cases w
  exact .nil
 | cons n ns ih=>
  intro vs w
  rw[List.map_cons] at w
  cases w with
  |cons a b=>
   cases a
   exact .cons _ _ (ih _ b)
theorem zh2 {l:OpenLaw}{n:Nat}(hn:l.most=some n){P:Params}{h:Heap}{args:List WData}{vals:List Value}
  (hpre:l.row.toRowW.claim.pre args=true) (hwl:WellAll P h vals args):
  ∃a vs ns,vals=[Value.ref a]/\args=[WData.list (ns.map WData.int)]/\h.get? a=some {cls:=.type "list",data:=.seq vs.toArray}/\IntsAre vs ns/\ns.length<=n:=by
 have hsh:WShape.hasAll [] args [.list .int]=true:=(pre_splitW hpre).1
 have hc:l.pre.holds [] {args:=args}=true:=(pre_splitW hpre).2
 obtain⟨d,r,rfl,h1,h2⟩:=hasAllW_cons hsh
 obtain rfl:=hasAllW_nil h2
 obtain⟨xs,rfl,h3⟩:=hasW_list h1
 obtain⟨ns,rfl⟩:=items_int h3
 have hlen:ns.length<=n:=by
  unfold OpenLaw.pre at hc
  have h4:(WTm.not (.lt (.lit (.int (n:Int))) (.len (.arg 0)))).holds [] {args:=[.list (ns.map .int)]}=true:=by
   have h4:=(holds_andW hc).1
   rw[hn] at h4
   exact h4
  have h5:=condW_of h4 (w_not (w_lt w_lit (w_len_list (w_arg rfl))))
  rw[List.length_map] at h5
  refine Nat.le_of_not_lt fun q=> ?_
  have q':(n:Int)<((ns.length:Nat):Int):=by (first|lia|omega)
  first
   |(rw[decide_eq_true q'] at h5;exact absurd h5 (by decide))
   |(simp at h5;(first|lia|omega))
 cases hwl with
 |cons w1 w2=>
  cases w2
  cases w1 with
  |list ho hall=>exact⟨_,_,ns,rfl,rfl,ho,zdC ns _ hall,hlen⟩
theorem zh3 (l:OpenLaw)(args:List WData):l.row.toRowW.claim.post args (.bool true) args=true:=
 postW_of (r:=l.row.toRowW) (X:=(true==true))
  (show WShape.has [] (.bool true) .bool=true by first|rfl|decide|simp[WShape.has,WShape.arms,WShape.armsAll])
  (show (WTm.eq .res (.lit (.bool true))).value [] {args:=args,res:=some (.bool true),after:=args}=some (.bool (true==true)) from w_eq_bool (w_res rfl) w_lit) rfl
theorem attach_call {l:OpenLaw}{n:Nat}{q:Program}{loose:List Str}{XP:(Str->Option Value)->Heap->Prop}{YP:World->Heap->Prop}{d:DefRec}
  (hn:l.most=some n) (hdf:d.params.defaults=[])
  (call:∀(w:World) (s₀ s₁:Shared) (mg mb:Str->Option Value) (fa:Addr) (o:Obj) (pm cd doc:Value) (a:Addr) (vs:List Value) (ns:List Int),
   Ground q loose [] XP w s₀ mg mb s₁.heap->YP w s₁.heap->
   s₁.heap.get? fa=some o->o.data=.func (docDef d.name d.params d.body d.scope pm cd doc)->s₁.heap.CodeRec cd d.name->mg d.name=some (.ref fa)->
   s₁.heap.get? a=some {cls:=.type "list",data:=.seq vs.toArray}->IntsAre vs ns->ns.length<=n->s₁.gens=#[]->
   codeAny (model l.prog w) callerA (.call (.ref fa) ⟨[.ref a],[]⟩) (fun r s'=>r=.ok (.ret (.bool true))/\OldK s₁.heap s'.heap/\s'.os=s₁.os/\AllBare s'.gens) s₁):
  WalkO q loose XP YP l.row.toRowW d [] (fun f vs=>PySem.call f vs):=by
 intro w s₀ s₁ mg mb G Y fa o pm cd doc dV kV ho hd hcd hD hmg hg args vals as hpre hlay hrd hwl hlo
 obtain rfl:dV=.none:=Dflts.none hD hdf
 obtain rfl:kV=.none:=Dflts.noKw hD
 obtain⟨a,vs,ns,rfl,rfl,hobj,hints,hlen⟩:=zh2 hn hpre hwl
 refine enter_call (codeAny_mono (call w s₀ s₁ mg mb fa o pm cd doc a vs ns G Y ho (fd_plain hd) hcd hmg hobj hints hlen hg) fun r s' hq=> ?_)
 obtain⟨rfl,h2,h3,h4⟩:=hq
 exact⟨.inl ⟨.bool true,.bool true,[],rfl,fun _=>rfl,.bool true,zh3 l _,fun _=>⟨List.Pairwise.nil,fun _ hm=>(nomatch hm)⟩⟩,h2,h3,h4⟩
section
variable {prog:Program}{w:World}{A:Around}{E:Value->Shared->Prop}{s:Shared}{K:Frag}
end
end Att
namespace L2
open PySem PySem.Spec PyProof.Rows
theorem zfn:∀{vs:List Value} {ns:List Int},IntsAre vs ns->Vals (ns.map V.int) vs
 |_,_,.nil=>.nil
 |_,_,.cons n t h=>.cons ⟨t,rfl⟩ (zfn h)
noncomputable def Only (H:Hp):Prop:=∀b,H b=none∨∃o xs,H b=some (.frz o (.lst xs))
theorem zi5 {P:Program}{w:World}{K:PySem.W.Frag}{mg mb:Str->Option Value}{CX:CXT}{k:Nat}{fa a:Addr}{fd:FuncData}{x:Str}{sp:Sp}{s₁:Shared}{vs:List Value}{ns:List Int}
  (KX:K.In s₁.heap) (hns:s₁.heap.Ns mainGlobals mg) (hb:s₁.heap.Ns builtinsNs mb) (hbb:∀x:Str,x≠ "__name__" ->mb x=bootBuiltins x) (hlim:s₁.heap.NoLimit) (hg:s₁.gens=#[])
  (ha:s₁.heap.get? a=some {cls:=.type "list",data:=.seq vs.toArray}) (hi:IntsAre vs ns) (hl:ns.length<=sizeLine) (hr:Room k callerA)
  (F:∀base:Heap,K.In base->base.Ns mainGlobals mg->FnOk P w K mg base CX k fa fd [x] sp) (hbind:∀(s:Shared) (u:Value),BindsTo s fd ⟨[u],[]⟩ [(x,u)])
  (hsp:∀H:Hp,Only H->SqL K H a (ns.map V.int)->sp [.ref a] H (fun v _=>v=.bl true) fun _ _ _=>False)
  (hCX:∀H e s',CX [] H s₁ (fun _ _ _=>False) e s'->False):
  codeAny (model P w) callerA (.call (.ref fa) ⟨[.ref a],[]⟩) (fun r s'=>r=.ok (.ret (.bool true))/\OldK s₁.heap s'.heap/\s'.os=s₁.os/\AllBare s'.gens) s₁:=by
 have rv:=zfn hi
 have lenV:=hi.length
 have core:∀H:Hp,Only H->SqL K H a (ns.map V.int)->HOk P w H s₁.heap->(∀b,H b≠none->b=a)->(H a≠none->K.lookup a=none)->
   codeAny (model P w) callerA (.call (.ref fa) ⟨[.ref a],[]⟩) (fun r s'=>r=.ok (.ret (.bool true))/\OldK s₁.heap s'.heap/\s'.os=s₁.os/\AllBare s'.gens) s₁:=by
  intro H hO hS hok hA hK
  have base_of:∀{b:Addr} {o:Obj},s₁.heap.get? b=some o->H b=none->(hidT s₁.heap H).get? b=some o:=fun e n=>ziZ e n
  have noA:∀{b:Addr} {o:Obj} {es:Array DictEntry} {ep:Nat},s₁.heap.get? b=some o->o.data=.dict es ep->H b=none:=fun {b o es ep} e d=>by
   cases q:H b with
   |none=>rfl
   |some u=>
    have e':b=a:=hA b (by rw[q];simp)
    subst e'
    rw[ha] at e;cases e
    have d':Data.seq vs.toArray _=Data.dict es ep:=d
    cases d'
  have nsK:∀{b:Addr} {m:Str->Option Value},s₁.heap.Ns b m->(hidT s₁.heap H).Ns b m:=fun {b m} ⟨o,es,ep,e,d,r⟩=>⟨o,es,ep,base_of e (noA e d),d,r⟩
  have hKb:K.In (hidT s₁.heap H):=fun b o e=>base_of (KX b o e) (by
   cases q:H b with
   |none=>rfl
   |some u=>
    have e':b=a:=hA b (by rw[q];simp)
    subst e'
    rw[hK (by rw[q];simp)] at e;cases e)
  have hM:Mod K mg (hidT s₁.heap H):=⟨hKb,nsK hns,⟨mb,nsK hb,hbb⟩,let ⟨mc,h1,h2⟩:=hlim;⟨mc,nsK h1,h2⟩⟩
  have e0:Env0 P w K mg (hidT s₁.heap H) callerA [] s₁ H:=⟨rfl,hM,fun b o e=>zjZ e,Nat.le_of_eq (zhL _ _),trivial,fun b hb=>absurd (show b∈([]:List Addr) from hb) (by simp),hok,.of_eq hg⟩
  refine codeAny_mono ((F _ hKb (nsK hns)).run callerA [] s₁ H ⟨[.ref a],[]⟩ [.ref a] [.ref a] _ _ hr e0 (hbind s₁ (.ref a)) (.cons rfl .nil) (hsp H hO hS)) fun r s' h=> ?_
  cases r with
  |error e=>exact (hCX H e s' h).elim
  | ok fl=>
   cases fl with
   |next=>exact False.elim h
   |brk=>exact False.elim h
   |cont=>exact False.elim h
   | ret u=>
    obtain⟨v,H',os,bare,un,hok',r',q⟩:=h
    have q':v=.bl true:=q
    subst q'
    obtain rfl:u=Value.bool true:=r'
    refine⟨rfl,OldK.of_keep fun b o e=> ?_,os,bare⟩
    cases q:H b with
    |none=>exact un.keep b o e q (by intro z;exact absurd (show b∈([]:List Addr) from z) (by simp)) (by simp)
    | some u=>
     rcases hO b with z|⟨ob,xs,z⟩
     ·rw[q] at z;cases z
     ·have z2:=un.frzs b ob _ z
      obtain⟨e1,_⟩:=hok b _ z
      obtain⟨e2,_⟩:=hok' b _ z2
      rw[e] at e1;cases e1
      exact e2
 cases hk:K.lookup a with
 |some o=>
  have e:=KX a o hk
  rw[ha] at e
  cases e
  refine core (fun _=>none) (fun _=>.inl rfl) (.inr ⟨_,vs.toArray,_,hk,rfl,rfl,rfl,by rw[List.size_toArray,lenV];exact hl,by simpa using rv⟩) (fun b u z=>by have z':(none:Option HO)=some u:=z;cases z') (fun b z=>absurd rfl z) fun z=>absurd rfl z
 | none=>
  refine core (fun b=>if b=a then some (.frz {cls:=.type "list",data:=.seq vs.toArray} (.lst (ns.map V.int))) else none) (fun b=> ?_) (.inl (.inr ⟨{cls:=.type "list",data:=.seq vs.toArray},if_pos rfl⟩)) (fun b u z=> ?_) (fun b z=> ?_) fun _=>hk
  ·by_cases hb:b=a
   ·exact .inr ⟨_,_,if_pos hb⟩
   ·exact .inl (if_neg hb)
  ·by_cases hb:b=a
   ·have z':=(if_pos hb).symm.trans z
    cases z'
    subst hb
    exact⟨ha,by rw[List.length_map];exact hl,vs,_,rv,ha⟩
   ·have z':=(if_neg hb).symm.trans z
    cases z'
  ·by_cases hb:b=a
   ·exact hb
   ·exact absurd (if_neg hb) z
theorem zj8 {l:PySem.W.OpenLaw}{n k:Nat}{q:Program}{loose:List Str}{XP:(Str->Option Value)->Heap->Prop}{YP:World->Heap->Prop}{d:DefRec}{K:Params->PySem.W.Frag}{CX:World->CXT}{sp:World->Sp}{x:Str}
  (hn:l.most=some n) (hn2:n<=sizeLine) (hdf:d.params.defaults=[]) (hr:Room k callerA)
  (hY:∀(w:World) (h:Heap),YP w h->(K w.params).In h)
  (F:∀(w:World) (mg:Str->Option Value) (fa:Addr) (h:Heap),(K w.params).In h->h.Ns mainGlobals mg->mg d.name=some (.ref fa)->
   ∃fd:FuncData,(∀(s:Shared) (u:Value),BindsTo s fd ⟨[u],[]⟩ [(x,u)])/\
    ∀base:Heap,(K w.params).In base->base.Ns mainGlobals mg->FnOk l.prog w (K w.params) mg base (CX w) k fa fd [x] (sp w))
  (hsp:∀(w:World) (H:Hp) (a:Addr) (ns:List Int),ns.length<=n->Only H->SqL (K w.params) H a (ns.map V.int)->sp w [.ref a] H (fun v _=>v=.bl true) fun _ _ _=>False)
  (hCX:∀(w:World) (H:Hp) (s:Shared) (e:Value) (s':Shared),CX w [] H s (fun _ _ _=>False) e s'->False):
  PySem.W.WalkO q loose XP YP l.row.toRowW d [] (fun f vs=>PySem.call f vs):=by
 refine Att.attach_call hn hdf fun w s₀ s₁ mg mb fa o pm cd doc a vs ns G Y ho hd hcd hmg hobj hints hlen hg=> ?_
 have KX:=hY w _ Y
 obtain⟨fd,hb,hF⟩:=F w mg fa _ KX G.T.g hmg
 exact zi5 KX G.T.g G.T.b G.T.builtins G.T.nolimit hg hobj hints (Nat.le_trans hlen hn2) hr hF hb (fun H hO hS=>hsp w H a ns hlen hO hS) fun H e s'=>hCX w H s₁ e s'
noncomputable def zbl (s:Stmt):Arguments:=match s with
 | .FunctionDef _ a _ _ _ _ _ _ _ _=>a
 |_=>{posonlyargs:=[],args:=[],vararg:=none,kwonlyargs:=[],kw_defaults:=[],kwarg:=none,defaults:=[]}
noncomputable def zbd (s:Stmt):List Stmt:=match s with
 | .FunctionDef _ _ b _ _ _ _ _ _ _=>b
 |_=>[]
noncomputable def zab (s:Stmt):Scope:=match s with
 | .FunctionDef _ _ _ _ _ _ sc _ _ _=>sc
 |_=>{kind:=.function,names:=[],isGenerator:=false,isCoroutine:=false}
noncomputable abbrev CX0:CXT:=fun _ _ _ _ _ _=>False
noncomputable abbrev E0:XK:=fun _ _ _=>False
theorem zkZ {X:Cx}:zhW CX0 X E0:=fun _ _ _ _ _ _ _ h=>h.elim
structure Fun (K:PySem.W.Frag) (x qual:Str) (st:Stmt) (f:Addr) (fd:FuncData):Prop where
 ex:∃(oc:Value) (od:Option Addr) (kV doc pm:Value) (an:Option Addr) (cdv ct:Value) (osl:Array (Option Value)),
  fd=PySem.W.fnOf x qual (zbl st) (zbd st) (zab st) .none kV doc pm an cdv ct/\K.lookup f=some ⟨oc,od,.func fd,osl⟩/\PySem.W.codeIn K cdv qual=true
 kp:PySem.W.keepIn K (.ref f)=true
section
variable {P:Program}{w:World}{K:PySem.W.Frag}{mg:Str->Option Value}{base:Heap}
theorem Fun.ok {x qual:Str}{st:Stmt}{f:Addr}{fd:FuncData}{N ps:List Str}{k:Nat}{sp:Sp}(F:Fun K x qual st f fd)(S:FnScope N ps (zab st))(len:∀vs H Q E,sp vs H Q E->vs.length=ps.length)
  (hbody:∀(cdv:Value) (A:Around) (outer:List Env) (s:Shared) (H:Hp) (vs:List V) (Q:VK) (E:XK),Room k (A.deeper (envOfC qual (zab st) s.heap.objs.size f cdv))->sp vs H Q E->
   ∃t,PSs (cxOf CX0 P w K mg base N qual (zab st) f cdv A outer s H E).nox (zbd st) t/\t {nx:=fun _ H'=>Q .non H',rt:=Q} (zfl N vs) H):FnOk P w K mg base CX0 (k+1) f fd ps sp:=by
 obtain⟨oc,od,kV,doc,pm,an,cdv,ct,osl,rfl,lk,hcd⟩:=F.ex
 refine zlI lk hcd S len fun A outer s H vs Q E hr hsp=> ?_
 obtain⟨t,h,q⟩:=hbody cdv A outer s H vs Q E hr hsp
 exact⟨t,h.nox,q⟩
theorem Fun.binds {x qual:Str}{st:Stmt}{f:Addr}{fd:FuncData}{ps:List Str}(F:Fun K x qual st f fd)
  (h:∀(kV doc pm:Value) (an:Option Addr) (cdv ct:Value) (us:List Value),us.length=ps.length->bindArgs (PySem.W.fnOf x qual (zbl st) (zbd st) (zab st) .none kV doc pm an cdv ct) ⟨us,[]⟩=pure (ps.zip us)):Binds K fd ps []:=by
 obtain⟨oc,od,kV,doc,pm,an,cdv,ct,osl,rfl,lk,hcd⟩:=F.ex
 exact .all (h kV doc pm an cdv ct)
theorem zk0 {x qual:Str}{st:Stmt}{f:Addr}{oc:Value}{od an:Option Addr}{osl:Array (Option Value)}{kV doc pm cdv ct:Value}(l:K.lookup f=some ⟨oc,od,.func (PySem.W.fnOf x qual (zbl st) (zbd st) (zab st) .none kV doc pm an cdv ct),osl⟩)
  (c:PySem.W.codeIn K cdv qual=true) (k:PySem.W.keepIn K (.ref f)=true):Fun K x qual st f (PySem.W.fnOf x qual (zbl st) (zbd st) (zab st) .none kV doc pm an cdv ct):=⟨⟨oc,od,kV,doc,pm,an,cdv,ct,osl,rfl,l,c⟩,k⟩
end
theorem zk1 {A:Around}{k:Nat}(hr:Room k A):A.units+1<cLine:=Nat.lt_of_le_of_lt (Nat.add_le_add_left (by decide:1<=64) _) hr.units
section
variable {X:Cx}
theorem pv (i:Nat){x:Str}{pos:Pos}(hN:X.N[i]? =some x:=by rfl)(hv:Vis X.env.scope x:=by first|exact Or.inl rfl|exact Or.inr (Or.inl rfl)|exact Or.inr (Or.inr rfl))(hd:(x==("__debug__" :Str))=false:=by decide)
  (hcd:(x==("__classdict__" :Str))=false:=by decide):PE X (.Name x pos) (tVar i):=zkL hN hv hd hcd
end
theorem iteF {A B:Prop}(h:B):if false=true then A else B:=by
 rw[if_neg Bool.false_ne_true]
 exact h
theorem iteT {A B:Prop}(h:A):if true=true then A else B:=by
 rw[if_pos rfl]
 exact h
theorem ite2 {c A B:Prop}[Decidable c](h1:c->A)(h2:¬c->B):if c then A else B:=by
 by_cases h:c
 ·rw [if_pos h]
  exact h1 h
 ·rw [if_neg h]
  exact h2 h
noncomputable def Same (H H':Hp):Prop:=∀b o,H b=some o->H' b=some o
theorem Same.refl (H:Hp):Same H H:=fun _ _ h=>h
theorem Same.trans {H H1 H2:Hp}(a:Same H H1)(b:Same H1 H2):Same H H2:=fun c o h=>b c o (a c o h)
theorem Same.free {H H':Hp}(e:Same H H'){l:Addr}(h:H' l=Option.none):H l=Option.none:=by
 cases q:H l with
 |none=>rfl
 |some o=>
  rw[e l o q] at h
  cases h
theorem Same.seq {K:PySem.W.Frag}{H H':Hp}{a:Addr}{xs:List V}(e:Same H H')(h:SqL K H a xs):SqL K H' a xs:=by
 rcases h with (h|⟨o,h⟩)|h
 ·exact .inl (.inl (e _ _ h))
 ·exact .inl (.inr ⟨o,e _ _ h⟩)
 ·exact .inr h
theorem zcZ {env:Env}{scope:Scope}(h:∀y∈scope.names,y.2=.free->∃c,env.cells.lookup y.1=some c):
  ∃cl,closureFor scope env=pure cl/\(∀x c,cl.lookup x=some c->env.cells.lookup x=some c)/\∀y∈scope.names,y.2=.free->cl.lookup y.1=env.cells.lookup y.1:=by
 have go:∀(names:List (Str×NameKind)) (acc:List (Str×Addr)),(∀y∈names,y.2=.free->∃c,env.cells.lookup y.1=some c)->
   (∀x c,acc.lookup x=some c->env.cells.lookup x=some c)->
   ∃cl,(forIn names acc (fun (y:Str×NameKind) (cs:List (Str×Addr))=>if (y.2==.free)=true then (do let c<-cellOf env y.1;pure (ForInStep.yield ((y.1,c)::cs))) else pure (ForInStep.yield cs)):Sem (List (Str×Addr)))=pure cl/\
    (∀x c,cl.lookup x=some c->env.cells.lookup x=some c)/\(∀x c,acc.lookup x=some c->cl.lookup x=some c)/\∀y∈names,y.2=.free->cl.lookup y.1=env.cells.lookup y.1:=by
  intro names
  induction names with
  |nil=>intro acc _ ha;exact⟨acc,rfl,ha,fun _ _ h=>h,fun y hy=>nomatch hy⟩
  | cons y r ih=>
   intro acc hn ha
   obtain⟨n,k⟩:=y
   by_cases hk:k=.free
   ·subst hk
    obtain⟨c,hc⟩:=hn (n,.free) List.mem_cons_self rfl
    have ha':∀x d,(((n,c)::acc:List (Str×Addr))).lookup x=some d->env.cells.lookup x=some d:=fun x d e=>by
     rw[List.lookup_cons] at e
     cases hx:x==n with
     |true=>
      rw[hx] at e
      have e1:x=n:=eq_of_beq hx
      subst e1
      cases e
      exact hc
     |false=>rw[hx] at e;exact ha x d e
    obtain⟨cl,e,h1,h2,h3⟩:=ih ((n,c)::acc) (fun y hy=>hn y (List.mem_cons_of_mem _ hy)) ha'
    refine⟨cl, ?_,h1,fun x d e=> ?_,fun y hy hf=> ?_⟩
    ·rw [List.forIn_cons]
     have ec:cellOf env n=pure c:=by unfold cellOf;rw[hc]
     simp only[beq_self_eq_true,if_true]
     rw[ec]
     exact e
    ·have e':=ha x d e
     by_cases hx:x=n
     ·subst hx
      rw[hc] at e';cases e'
      exact h2 x c (by rw[List.lookup_cons];simp)
     ·exact h2 x d (by rw[List.lookup_cons,beq_eq_false_iff_ne.mpr hx];exact e)
    ·rcases List.mem_cons.mp hy with rfl|hy
     ·show cl.lookup n=env.cells.lookup n
      rw[hc]
      exact h2 n c (by rw[List.lookup_cons];simp)
     ·exact h3 y hy hf
   ·obtain ⟨cl,e,h1,h2,h3⟩:=ih acc (fun y hy=>hn y (List.mem_cons_of_mem _ hy)) ha
    refine⟨cl, ?_,h1,h2,fun y hy hf=> ?_⟩
    ·rw [List.forIn_cons]
     have:(k==NameKind.free)=false:=by simpa using hk
     simp only[this,Bool.false_eq_true,if_false]
     exact e
    ·rcases List.mem_cons.mp hy with rfl|hy
     ·exact absurd hf hk
     ·exact h3 y hy hf
 obtain⟨cl,e,h1,_,h3⟩:=go scope.names [] h (fun x c e=>by simp at e)
 refine⟨cl, ?_,h1,h3⟩
 unfold closureFor
 exact (congrArg (fun m=>m >>= fun r=>pure r) e).trans rfl
noncomputable def zbt (n:Nat)(ix:List Nat)(σ:St):St:=List.replicate n none++ix.map fun i=>σ.getD i none
noncomputable def Cx.comp (X:Cx)(s₂:Shared)(H₂:Hp)(N':List Str)(scope:Scope)(cl:List (Str×Addr))(C:Addr)(fp:List Addr):Cx:=
 {X with N:=N',s₀:=s₂,H₀:=H₂,env:=compEnvC scope cl C X.env,outer:=X.stack,stack:=X.stack,ex:=fp,fn:=fun _=>false,pn:=[],xe:=fun _ _=>False}
structure CompScope (X:Cx) (scope:Scope) (N':List Str) (n:Nat) (ix:List Nat):Prop where
 kind:scope.kind=.function
 nocell:∀y∈scope.names,y.2≠.cell
 names:∀y∈scope.names,y.2=.local->scope.names.lookup y.1=some .local
 free:∀y∈scope.names,y.2=.free->X.env.scope.names.lookup y.1=some .cell∨X.env.scope.names.lookup y.1=some .free
 nodup:∀y:Str,(y,NameKind.free)∈scope.names->scope.names.lookup y=some .local->False
 len:N'.length=n+ix.length
 at_:∀(j i:Nat),ix[j]? =some i->∃x,N'[n+j]? =some x/\X.N[i]? =some x/\(x,NameKind.free)∈scope.names
theorem za7 {env:Env}{scope:Scope}(x:Str):(relabel scope env).names.lookup x=(scope.names.lookup x).map fun k=>if (k==.free&&env.scope.kind==.function&&env.kindOf x==some .cell) then .cell else k:=by
 show (scope.names.map fun (n,k)=>if (k==NameKind.free&&env.scope.kind==.function&&env.kindOf n==some .cell) then (n,NameKind.cell) else (n,k)).lookup x=_
 generalize scope.names=l
 induction l with
 |nil=>rfl
 | cons y r ih=>
  obtain⟨n,k⟩:=y
  rw[List.map_cons,List.lookup_cons]
  cases hx:x==n with
  | true=>
   have e:x=n:=eq_of_beq hx
   subst e
   by_cases hc:(k==NameKind.free&&env.scope.kind==.function&&env.kindOf x==some .cell)=true
   ·rw [if_pos hc,List.lookup_cons]
    simp only[beq_self_eq_true]
    show some NameKind.cell=some (ite _ _ _)
    rw[if_pos hc]
   ·rw [if_neg hc,List.lookup_cons]
    simp only[beq_self_eq_true]
    show some k=some (ite _ _ _)
    rw[if_neg hc]
  |false=>
   by_cases hc:(k==NameKind.free&&env.scope.kind==.function&&env.kindOf n==some .cell)=true
   ·rw[if_pos hc,List.lookup_cons,hx];exact ih
   ·rw[if_neg hc,List.lookup_cons,hx];exact ih
section
variable {X:Cx}{pins:List (Addr×Obj)}{σ:St}{H:Hp}{s:Shared}
theorem zfo {env:Env}{scope:Scope}{x:Str}(h:scope.names.lookup x=some .free):(relabel scope env).names.lookup x=some .cell∨(relabel scope env).names.lookup x=some .free:=by
 rw[za7,h]
 by_cases hc:(NameKind.free==NameKind.free&&env.scope.kind==.function&&env.kindOf x==some .cell)=true
 ·exact .inl (by show some (ite _ _ _)=_;rw[if_pos hc])
 ·exact .inr (by show some (ite _ _ _)=_;rw[if_neg hc])
theorem zhl {env:Env}{scope:Scope}{x:Str}(hn:∀y∈scope.names,y.2≠.cell)(h:(relabel scope env).names.lookup x=some .cell∨(relabel scope env).names.lookup x=some .free):scope.names.lookup x=some .free:=by
 rw[za7] at h
 cases e:scope.names.lookup x with
 |none=>rw[e] at h;rcases h with h|h<;>cases h
 | some k=>
  rw[e] at h
  have hk:=hn _ (PySem.mem_of_lookup e)
  by_cases hf:k=.free
  ·rw[hf]
  ·have hb:(k==NameKind.free)=false:=by simpa using hf
   have hr:Option.map (fun k=>if (k==NameKind.free&&env.scope.kind==.function&&env.kindOf x==some .cell)=true then NameKind.cell else k) (some k)=some k:=by
    show some (ite _ _ _)=_
    rw[if_neg (by rw[hb];simp)]
   rw[hr] at h
   rcases h with h|h
   ·cases h;exact absurd rfl hk
   ·exact h
theorem zgL {scope:Scope}{N':List Str}{n:Nat}{ix:List Nat}{cl:List (Str×Addr)}{fp:List Addr}{h₁:Heap}{acc C:Addr}{na:Nat}{m:Str->Option Value}{tk:Nat}
  (I:Inv X pins σ H s) (S:CompScope X scope N' n ix) (hcl1:∀x c,cl.lookup x=some c->X.env.cells.lookup x=some c) (hcl2:∀y∈scope.names,y.2=.free->cl.lookup y.1=X.env.cells.lookup y.1)
  (hf:∀b∈fp,FpOk X pins H b) (hlt:∀b∈fp,b<s.heap.objs.size) (ha:s.heap.objs.size<=acc) (hC:s.heap.objs.size<=C) (hne:C≠acc)
  (k:∀b u,s.heap.get? b=some u->h₁.get? b=some u) (hacc:h₁.get? acc=some {cls:=.type "list",data:=.seq ([]:List Value).toArray na}) (hns:h₁.Ns C m):
  Inv (X.comp s H N' scope cl C fp) [] (zbt n ix σ) (upd H acc (.lst [])) {s with heap:=h₁,toks:=tk}:=by
 have fr:∀b:Addr,s.heap.objs.size<=b->H b=none:=fun b hb=>I.hok.fresh hb
 have cellLt:∀x c,cl.lookup x=some c->c<s.heap.objs.size:=fun x c e=>by
  obtain⟨v,q⟩:=I.cell x c (hcl1 x c e)
  exact q.lt
 refine⟨⟨I.ok.mod,S.kind,I.ok.glob,I.ok.blt,hC,fun x y c e1 e2=>I.ok.inj x y c (hcl1 x c e1) (hcl1 y c e2),fun x hx=> ?_,fun x c e _=>absurd e Bool.false_ne_true,I.ok.hd,I.ok.frames,.inl rfl,fun b hb=>⟨Nat.ne_of_lt (Nat.lt_of_lt_of_le (hlt b hb) hC),fun x c e=>(hf b hb).2.2.2.2.1 x c (hcl1 x c e)⟩,
   I.bs,Nat.le_trans I.ok.bsz I.sz,fun b o e hb=> ?_,fun b hb hs=> ?_,I.stack,I.stkFree⟩,
  rfl,I.bare,Un.laid k ha (fr acc ha),⟨m,hns,fun i x v e1 e2 e3=> ?_⟩,fun x c e=> ?_, ?_,fun x c e=> ?_,fun p hp=>absurd (show p∈([]:List (Addr×Obj)) from hp) (by simp),I.hok.laid k ha ⟨Nat.zero_le _,[],na,.nil,hacc⟩, ?_⟩
 ·have hx':scope.names.lookup x=some .free:=zhl (env:=X.env) S.nocell hx
  have hm:=PySem.mem_of_lookup hx'
  obtain⟨c,e⟩:=I.ok.has x (S.free _ hm rfl)
  exact⟨c,(hcl2 _ hm rfl).trans e⟩
 ·rcases (hf b hb).2.2.2.1 with z|z
  ·exact I.ok.noex b o e z
  ·exact absurd (Nat.lt_of_lt_of_le (Heap.lt_size e) (Nat.le_trans I.ok.bsz z)) (Nat.lt_irrefl _)
 ·rcases List.mem_cons.mp (I.stkSub b hs) with z|z
  ·exact (hf b hb).2.1 z
  ·exact (hf b hb).2.2.1 z
 ·-- a name of the frame,seen through its cell
  have hi:n<=i:=by
   by_cases hi:n<=i
   ·exact hi
   ·unfold zbt at e2
    rw[List.getElem?_append_left (by simp;(first|lia|omega)),List.getElem?_replicate] at e2
    split at e2<;>cases e2
  obtain⟨j,rfl⟩:∃j,i=n+j:=⟨i-n,by (first|lia|omega)⟩
  unfold zbt at e2
  rw[List.getElem?_append_right (by simp),List.length_replicate,Nat.add_sub_cancel_left,List.getElem?_map] at e2
  cases ej:ix[j]? with
  |none=>rw[ej] at e2;cases e2
  | some q=>
   rw[ej] at e2
   have e2':σ.getD q none=some v:=Option.some.inj e2
   have e2'':σ[q]? =some (some v):=by
    rw[List.getD_eq_getElem?_getD] at e2'
    cases eq:σ[q]? with
    |none=>rw[eq] at e2';cases e2'
    |some z=>rw[eq] at e2';exact congrArg some e2'
   obtain⟨y,h1,h2,h3⟩:=S.at_ j q ej
   have ey:y=x:=Option.some.inj (h1.symm.trans e1)
   subst ey
   have hk:=S.free _ h3 rfl
   obtain⟨mX,_,hl⟩:=I.loc
   obtain⟨u,r,l⟩:=hl q y v h2 e2'' (.inr hk)
   refine⟨u,r,.inr ?_⟩
   have hkc:X.env.kindOf y=some .cell∨X.env.kindOf y=some .free:=hk
   have l':∃c,X.env.cells.lookup y=some c/\s.heap.IsCell c (some u):=by
    rcases l with⟨z,_⟩|⟨_,c,ec,hc⟩
    ·rcases hkc with q|q<;>(rw[q] at z;cases z)
    ·exact⟨c,ec,hc⟩
   obtain⟨c,ec,o,ho,hd⟩:=l'
   have e3':Vis (relabel scope X.env) y:=e3
   refine⟨?_,c,(hcl2 _ h3 rfl).trans ec,o,k _ _ ho,hd⟩
   have nl:scope.names.lookup y≠some .local:=fun z=> ?_
   ·cases el:scope.names.lookup y with
    |none=>
     have:(relabel scope X.env).names.lookup y=none:=by rw[za7,el];rfl
     rcases e3' with z|z|z<;>(rw[this] at z;cases z)
    | some kk=>
     have hmem:=PySem.mem_of_lookup el
     have ncell:=S.nocell _ hmem
     have hr:(relabel scope X.env).names.lookup y=some (if (kk==NameKind.free&&X.env.scope.kind==.function&&X.env.kindOf y==some .cell)=true then .cell else kk):=by rw[za7,el];rfl
     by_cases hkf:kk=.free
     ·subst hkf
      exact zfo (env:=X.env) el
     ·have hb:(kk==NameKind.free)=false:=by simpa using hkf
      have hr':(relabel scope X.env).names.lookup y=some kk:=by rw[hr,hb];rfl
      rcases e3' with z|z|z
      ·rw[hr'] at z;cases z;exact absurd el nl
      ·rw[hr'] at z;cases z;exact absurd rfl ncell
      ·rw[hr'] at z;cases z;exact absurd rfl hkf
   ·exact S.nodup _ h3 z
 ·obtain ⟨v,o,ho,hd⟩:=I.cell x c (hcl1 x c e)
  exact⟨v,o,k _ _ ho,hd⟩
 ·show upd H acc (.lst []) C=none
  rw[zan hne];exact fr C hC
 ·show upd H acc (.lst []) c=none
  have:=cellLt x c e
  rw[zan (Nat.ne_of_lt (Nat.lt_of_lt_of_le this ha))]
  exact I.freeC x c (hcl1 x c e)
 ·show (zbt n ix σ).length=N'.length
  unfold zbt
  rw[List.length_append,List.length_replicate,List.length_map,S.len]
end
noncomputable def Wk (σ σ':St):Prop:=σ.length=σ'.length/\∀(i:Nat) v,σ[i]? =some (some v)->σ'[i]? =some (some v)
noncomputable def PTs (Y:Cx)(ifs:List Expr)(t:TT):Prop:=
 ∀(pins:List (Addr×Obj)) (s:Shared) (σ:St) (H:Hp) (Q:Bool->Hp->Prop),Inv Y pins σ H s->t σ H Q->
  wpAny (model Y.prog Y.w) Y.A (forIn ifs true fun c r=>if r=true then do let ok<-isTrue c Y.env (eval c Y.env);pure (ForInStep.yield ok) else pure (ForInStep.yield r)) (TP Y pins σ Q) Y.xe s
noncomputable def zbm:TT:=fun _ H Q=>Q true H
theorem zaW {Y:Cx}:PTs Y [] zbm:=fun _ _ _ H _ I h=>wpAny_tests_nil ⟨H,I,h⟩
theorem zdD {Y:Cx}{c:Expr}{t:TT}(h:PT Y c t):PTs Y [c] t:=fun pins s σ H Q I q=>wpAny_tests_one (h pins s σ H Q I q)
theorem zfp {prog:Program}{w:World}{A:Around}{R:Result->Shared->Prop}{s:Shared}{elt target iter:Expr}{ifs:List Expr}{scope:Scope}{pos:Pos}{it acc:Value}{env:Env}(I:Nat->Shared->Prop)
  (turn:∀n s,I n s->wpAny (model prog w) A (pyNext it) (fun r s₁=>match r with
   |none=>R (.ok .next) s₁
   | some v=>wpAny (model prog w) A (letOwnedTupleGo target it v) (fun _ s₂=>wpAny (model prog w) A (assign target env v) (fun _ s₃=>
     wpAny (model prog w) A (forIn ifs true fun c r=>if r=true then do let ok<-isTrue c env (eval c env);pure (ForInStep.yield ok) else pure (ForInStep.yield r)) (fun ok s₄=>
      if ok=true then wpAny (model prog w) A (eval elt env) (fun x s₅=>
       wpAny (model prog w) A (call (.builtin "list.append") [acc,x]) (fun _ s₆=>∃m,m<n/\I m s₆) (fun _ _=>False) s₅) (fun _ _=>False) s₄
      else ∃m,m<n/\I m s₄) (fun _ _=>False) s₃) (fun _ _=>False) s₂) (fun _ _=>False) s₁) (fun _ _=>False) s)
  (n:Nat) (h:I n s):
  codeAny (model prog w) A (.compLoop (.ListComp elt [⟨target,iter,ifs,0⟩] scope pos) 0 it acc env) R s:=by
 refine codeAny_loop rfl I (fun n s hI=> ?_) n h
 show wpAny _ A ((compTurn (.ListComp elt [⟨target,iter,ifs,0⟩] scope pos) 0 it acc env).onRaise (fun x=>do noteFrame x env;theTreesLotGoes x)) _ _ s
 refine wpAny_noted (wpAny_noRaise ?_)
 rw[compTurn_list]
 refine wpAny_bind (wpAny_standAt (wpAny_bind (thn (turn n s hI) fun r s₁ h₁=> ?_)))
 cases r with
 |none=>exact wpAny_pure h₁
 |some v=>
  refine wpAny_bind (thn h₁ fun _ s₂ h₂=>wpAny_bind (thn h₂ fun _ s₃ h₃=>wpAny_bind (thn h₃ fun ok s₄ h₄=> ?_)))
  cases ok with
  |false=>exact wpAny_pure ⟨rfl,h₄⟩
  |true=>exact wpAny_bind (wpAny_bind (thn h₄ fun x s₅ h₅=>wpAny_bind (thn h₅ fun _ s₆ h₆=>wpAny_pure (wpAny_pure ⟨rfl,h₆⟩))))
noncomputable def LcW (J:It)(H1:Hp)(g:TG)(tt:TT)(te:TE)(n:Nat)(ix:List Nat)(σ:St)(Q:VK):Prop:=∀acc,H1 acc=none->
 ∃ W:Nat->Nat->Hp->Prop,(∃m,W 0 m (upd H1 acc (.lst [])))/\∀i m H,W i m H->
  (J.stop i H/\Q (.ref acc) H)∨(J.go i H/\∀x H',J.yld i H x H'->g x (zbt n ix σ) H' fun σ2 H2=>Wk (zbt n ix σ) σ2/\tt σ2 H2 fun b H3=>
   if b=true then te σ2 H3 fun v H4=>∃ys,H4 acc=some (.lst ys)/\ys.length<sizeLine/\∃m',m'<m/\W (i+1) m' (upd H4 acc (.lst (ys++[v])))
   else ∃m',m'<m/\W (i+1) m' H3)
noncomputable def tLc (wi:TI)(g:TG)(tt:TT)(te:TE)(n:Nat)(ix:List Nat):TE:=fun σ H Q=>wi σ H fun J H1=>LcW J H1 g tt te n ix σ Q
section
variable {X:Cx}{elt tg iter:Expr}{ifs:List Expr}{scope:Scope}{pos:Pos}{wi:TI}{g:TG}{tt:TT}{te:TE}{N':List Str}{n:Nat}{ix:List Nat}
theorem zh4 {pins:List (Addr×Obj)}{σ:St}{H2:Hp}{s2:Shared}{cl:List (Str×Addr)}{it:Addr}{fp:List Addr}{tn:Nat->Heap->Prop}{J:It}{Q:VK}{R:Value->Addr->Result->Shared->Prop}
  (hc:X.calm=true) (S:CompScope X scope N' n ix)
  (hY:∀s₂ H₂ cl C fp,PG (X.comp s₂ H₂ N' scope cl C fp) tg g/\PTs (X.comp s₂ H₂ N' scope cl C fp) ifs tt/\PE (X.comp s₂ H₂ N' scope cl C fp) elt te)
  (I2:Inv X pins σ H2 s2) (hcl1:∀x c,cl.lookup x=some c->X.env.cells.lookup x=some c) (hcl2:∀y∈scope.names,y.2=.free->cl.lookup y.1=X.env.cells.lookup y.1)
  (T:Turn X.prog X.w X.K tg J fp it tn) (st2:tn 0 s2.heap) (f2:∀b∈fp,FpOk X pins H2 b)
  (hW:LcW J H2 g tt te n ix σ Q)
  (hR:∀acc C s' H' m,s'.heap.Ns C m->Inv X pins σ H' s'->H' C=none->C≠X.env.locals->(C∈X.ex∨X.s₀.heap.objs.size<=C)->(∀x c,X.env.cells.lookup x=some c->c≠C)->(∀p∈X.pn++pins,p.1≠C)->C∉X.fs->Q (.ref acc) H'->R (.ref acc) C (.ok .next) s'):
  wpAny (model X.prog X.w) X.A (newList []) (fun acc s₃=>wpAny (model X.prog X.w) X.A (newFunctionEnv scope X.env.globals cl [] X.env.qual none .none (some X.env)) (fun cenv s₄=>
   codeAny (model X.prog X.w) X.A (.compStart (.ListComp elt [⟨tg,iter,ifs,0⟩] scope pos) 0 (.ref it) acc {cenv with scope:=relabel scope X.env}) (R acc cenv.locals) s₄) X.xe s₃) X.xe s2:=by
 refine wpAny_newObj_type (wpAny_newFunctionEnv S.nocell (by intro y hy;simp at hy) (fun h₁ hns₁ hsb₁=> ?_) S.kind)
 dsimp only at hns₁ hsb₁ ⊢
 generalize hH2:s2.heap.push {cls:=.type "list",dict:=none,data:=.seq ([]:List Value).toArray}=G at hns₁ hsb₁ ⊢
 have hC:G.objs.size=s2.heap.objs.size+1:=by rw[<-hH2,Heap.size_push]
 have hlt:∀b∈fp,b<s2.heap.objs.size:=fun b hb=>by
  obtain⟨o,e,_⟩:=T.obj _ _ st2 b hb
  exact Heap.lt_size e
 have old:∀b o,s2.heap.get? b=some o->h₁.get? b=some o:=fun b o e=>hsb₁.extBut b o (by rw[hC];exact Nat.ne_of_lt (Nat.lt_succ_of_lt (Heap.lt_size e))) (Heap.get?_push_of_some _ (hH2▸Heap.get?_push_of_some _ e))
 have hacc:h₁.get? s2.heap.objs.size=some {cls:=.type "list",dict:=none,data:=.seq ([]:List Value).toArray}:=hsb₁.extBut _ _ (by rw[hC];exact Nat.ne_of_lt (Nat.lt_succ_self _)) (Heap.get?_push_of_some _ (hH2▸Heap.get?_push_size _ rfl))
 obtain⟨W,⟨m0,w0⟩,turn⟩:=hW s2.heap.objs.size (I2.hok.fresh (Nat.le_refl _))
 obtain⟨hYg,hYt,hYe⟩:=hY s2 H2 cl G.objs.size fp
 have fpY:∀{H':Hp},(∀b∈fp,H' b=none)->∀b∈fp,FpOk (X.comp s2 H2 N' scope cl G.objs.size fp) [] H' b:=fun {H'} hn b hb=>by
  obtain⟨_,q1,q2,q3,q4,q5⟩:=f2 b hb
  refine⟨hn b hb, ?_,fun z=> ?_,.inl hb,fun x c e=>q4 x c (hcl1 x c e),fun p hp=>absurd (show p∈([]:List (Addr×Obj)) from hp) (by simp)⟩
  ·show b≠G.objs.size
   rw[hC]
   exact Nat.ne_of_lt (Nat.lt_succ_of_lt (hlt b hb))
  ·rcases List.mem_cons.mp (I2.stkSub b z) with y|y
   ·exact q1 y
   ·exact q2 y
 have loop:∀s₃:Shared,s₃={s2 with heap:=h₁,toks:=s2.toks+([]:List (Str×Value)).length}->
   codeAny (model X.prog X.w) X.A (.compLoop (.ListComp elt [⟨tg,iter,ifs,0⟩] scope pos) 0 (.ref it) (.ref s2.heap.objs.size) (compEnvC scope cl G.objs.size X.env)) (R (.ref s2.heap.objs.size) G.objs.size) s₃:=by
  rintro s₃ rfl
  have I4:=zgL (tk:=s2.toks+([]:List (Str×Value)).length) I2 S hcl1 hcl2 f2 hlt (Nat.le_refl _) (by rw[hC];exact Nat.le_succ _) (by rw[hC];exact Nat.ne_of_gt (Nat.lt_succ_self _)) old hacc hns₁
  refine zfp (fun n' s'=>∃i H',Inv (X.comp s2 H2 N' scope cl G.objs.size fp) [] (zbt n ix σ) H' s'/\tn i s'.heap/\(∀b∈fp,H' b=none)/\W i n' H') ?_ m0
   ⟨0,_,I4,T.keep _ _ _ st2 fun b hb o e=>old b o e,fun b hb=> ?_,w0⟩
  ·rintro n' s3 ⟨i,H3,I3,st3,fr3,w3⟩
   rcases turn i n' H3 w3 with⟨stop,q⟩|⟨go,step⟩
   ·refine thn (T.done (X.comp s2 H2 N' scope cl G.objs.size fp) rfl rfl rfl hc i [] s3 _ H3 _ I3 (fpY fr3) st3 stop) fun r s4 zq=> ?_
    obtain⟨hr,I5⟩:=zq
    subst hr
    obtain⟨mC,hnC,_⟩:=I5.loc
    have IX:Inv X pins σ H3 s4:=I2.call' I5.os I5.base I5.hok I5.bare fun b hb=>by
     obtain⟨_,q1,q2,q3,q4,q5⟩:=f2 b hb
     exact⟨q3,q1,q4,q5⟩
    refine hR _ _ s4 H3 mC hnC IX I5.free ?_ (.inr ?_) (fun x c e z=> ?_) (fun p hp z=> ?_) (I2.nofs (by rw[hC];exact Nat.le_succ _)) q
    ·rw [hC]
     exact Nat.ne_of_gt (Nat.lt_succ_of_lt I2.lt)
    ·rw [hC]
     exact Nat.le_succ_of_le I2.sz
    ·obtain ⟨v,q⟩:=I2.cell x c e
     rw[hC] at z
     exact absurd z (Nat.ne_of_lt (Nat.lt_succ_of_lt q.lt))
    ·rw [hC] at z
     exact absurd z (Nat.ne_of_lt (Nat.lt_succ_of_lt (Heap.lt_size (I2.pin p hp).1)))
   ·refine thn (T.item (X.comp s2 H2 N' scope cl G.objs.size fp) rfl rfl rfl hc i [] s3 _ H3 _ I3 (fpY fr3) st3 go) fun r s4 zq=> ?_
    obtain⟨u,hr,h4⟩:=zq
    subst hr
    refine thn h4 fun _ s5 zq=> ?_
    obtain⟨x,H5,I5,r5,y5,st5,fr5⟩:=zq
    have I5':=I5.pinned (fpY fr5) (T.obj _ _ st5)
    refine thn (hYg _ s5 _ H5 x u _ I5' r5 (step x H5 y5)) fun _ s6 zq=> ?_
    obtain⟨σ6,H6,I6,wk,q6⟩:=zq
    have back:∀{H':Hp} {s':Shared},Inv (X.comp s2 H2 N' scope cl G.objs.size fp) ([]++zbV fp s5.heap) σ6 H' s'->
      Inv (X.comp s2 H2 N' scope cl G.objs.size fp) [] (zbt n ix σ) H' s'/\tn (i+1) s'.heap/\∀b∈fp,H' b=none:=fun {H' s'} I7=>by
     refine⟨I7.unpinned.weak wk.1 wk.2,T.keep _ _ _ st5 fun b hb o e=>(I7.pin (b,o) (List.mem_append_right _ (List.mem_append_right _ (zaS hb e)))).1,fun b hb=> ?_⟩
     obtain⟨o,e,d⟩:=T.obj _ _ st5 b hb
     exact (I7.pin (b,o) (List.mem_append_right _ (List.mem_append_right _ (zaS hb e)))).2.1
    refine thn (hYt _ s6 σ6 H6 _ I6 q6) fun ok s7 zq=> ?_
    obtain⟨H7,I7,q7⟩:=zq
    cases ok with
    |false=>
     rw[if_neg Bool.false_ne_true] at q7 ⊢
     obtain⟨m',hm,w7⟩:=q7
     obtain⟨b1,b2,b3⟩:=back I7
     exact⟨m',hm,i+1,H7,b1,b2,b3,w7⟩
    |true=>
     rw[if_pos rfl] at q7 ⊢
     refine thn (hYe _ s7 σ6 H7 _ I7 q7) fun xv s8 zq=> ?_
     obtain⟨v8,H8,I8,r8,ys,ha,hz,m',hm,w8⟩:=zq
     refine thn (zbE _ s8 σ6 H8 (.ref s2.heap.objs.size) [v8] (.ref s2.heap.objs.size) [xv] (fun _ H'=>H'=upd H8 s2.heap.objs.size (.lst (ys++[v8]))) I8 rfl (.cons r8 .nil) ⟨_,ys,v8,rfl,rfl,ha,hz,rfl⟩) fun _ s9 zq=> ?_
     obtain⟨_,H9,I9,_,e9⟩:=zq
     subst e9
     obtain⟨b1,b2,b3⟩:=back I9
     exact⟨m',hm,i+1,_,b1,b2,b3,w8⟩
  ·rw [zan (Nat.ne_of_lt (hlt b hb))]
   exact (f2 b hb).1
 exact codeAny_compStart_list (loop _ rfl) (T.self _ 0 _ _ _ (T.keep _ _ _ st2 fun b hb o e=>old b o e) (loop _ rfl))
theorem zcI (hc:X.calm=true)(S:CompScope X scope N' n ix)(hi:PI X tg iter wi)
  (hY:∀s₂ H₂ cl C fp,PG (X.comp s₂ H₂ N' scope cl C fp) tg g/\PTs (X.comp s₂ H₂ N' scope cl C fp) ifs tt/\PE (X.comp s₂ H₂ N' scope cl C fp) elt te)
  (hs:∀x,foldedSetIterable iter X.env x=pure x:=by intro _;rfl):PE X (.ListComp elt [⟨tg,iter,ifs,0⟩] scope pos) (tLc wi g tt te n ix):=by
 intro pins s σ H Q I h
 obtain⟨cl,hcl,hcl1,hcl2⟩:=zcZ (env:=X.env) (scope:=scope) fun y hy hf=>I.ok.has _ (S.free y hy hf)
 rw[eval_ListComp]
 refine wpAny_comprehension_free (use:=none) rfl hs hcl S.kind S.names (thn (hi pins s σ H _ I h) fun v s1 h1=>thn h1 fun itv s2 h2=> ?_)
 obtain⟨it,fp,tn,J,H2,rfl,I2,T,st2,f2,hW⟩:=h2
 refine zh4 (R:=fun acc C=>compPost (model X.prog X.w) X.A X.xe none (EP X pins σ Q) acc C) hc S hY I2 hcl1 hcl2 T st2 f2 hW ?_
 intro acc C s' H' m hn IX hf hL h1 h2 h3 h4 q
 exact⟨m,hn,fun h' sb=>⟨.ref acc,H',IX.turned (t':=s'.toks) (fun b o hb e=>sb.extBut b o hb e) hf hL h1 h2 h3,rfl,q⟩⟩
theorem zi6 {x:Str}{i:Nat}{pos' spos:Pos}(hsw:swapsWith (.ListComp elt [⟨tg,iter,ifs,0⟩] scope pos) (some (.Name x pos')) spos.line X.env=pure true)(hN:X.N.Nodup)(hi':X.N[i]? =some x)(hx:X.env.scope.names.lookup x=some .local)
  (hc:X.calm=true) (S:CompScope X scope N' n ix) (hi:PI X tg iter wi)
  (hY:∀s₂ H₂ cl C fp,PG (X.comp s₂ H₂ N' scope cl C fp) tg g/\PTs (X.comp s₂ H₂ N' scope cl C fp) ifs tt/\PE (X.comp s₂ H₂ N' scope cl C fp) elt te)
  (hs:∀x,foldedSetIterable iter X.env x=pure x:=by intro _;rfl):PS X (.Assign [.Name x pos'] (.ListComp elt [⟨tg,iter,ifs,0⟩] scope pos) spos) (tAsg (tLc wi g tt te n ix) (zbi i)):=by
 intro pins s σ H D I h
 obtain⟨cl,hcl,hcl1,hcl2⟩:=zcZ (env:=X.env) (scope:=scope) fun y hy hf=>I.ok.has _ (S.free y hy hf)
 rw[exec_Assign_Name_used _ _ _ _ hsw]
 refine wpAny_bind (wpAny_standAt (wpAny_bind ?_))
 show wpAny _ _ (do let _<-comprehension (.ListComp elt [⟨tg,iter,ifs,0⟩] scope pos) scope X.env _ (newList []) false (eval iter X.env) (some (assign (.Name x pos') X.env))) _ _ s
 refine wpAny_bind (thn (wpAny_comprehension_free (use:=some (assign (.Name x pos') X.env)) (Q:=fun _ s'=>SP X pins D .next s') rfl hs hcl S.kind S.names (thn (hi pins s σ H _ I h) fun v s1 h1=>thn h1 fun itv s2 h2=> ?_)) fun _ s' hq=>wpAny_pure (wpAny_pure hq))
 obtain⟨it,fp,tn,J,H2,rfl,I2,T,st2,f2,hW⟩:=h2
 refine zh4 (Q:=fun x H1=>zbi i x σ H1 D.nx) (R:=fun acc C=>compPost (model X.prog X.w) X.A X.xe (some (assign (.Name x pos') X.env)) (fun _ s'=>SP X pins D .next s') acc C) hc S hY I2 hcl1 hcl2 T st2 f2 hW ?_
 intro acc C s' H' m hn IX hf hL h1 h2 h3 h4 q
 show wpAny _ _ (assign (.Name x pos') X.env (.ref acc)) _ _ _
 obtain⟨oC,esC,epC,hoC,hdC,rC⟩:=id hn
 have IP:Inv X (pins++[(C,oC)]) σ H' s':=IX.pins_of fun p hp=>by
  rcases List.mem_append.mp hp with z|z
  ·exact IX.pin p (List.mem_append_right _ z)
  ·have e:p=(C,oC):=by simpa using z
   subst e
   exact⟨hoC,hf,hL,h4,fun v z=>by rw[hdC] at z;cases z⟩
 refine thn (zaq hN hi' (.inl hx) (.inr hx) _ s' σ H' (.ref acc) (.ref acc) D.nx IP rfl q) fun _ s'' zq=> ?_
 obtain⟨σ',H'',I'',q''⟩:=zq
 obtain⟨e1,e2,_⟩:=I''.pin (C,oC) (List.mem_append_right _ (List.mem_append_right _ (by simp)))
 refine⟨m,⟨oC,esC,epC,e1,hdC,rC⟩,fun h' sb=>⟨σ',H'', ?_,q''⟩⟩
 exact I''.unpinned.turned (t':=s''.toks) (fun b o hb e=>sb.extBut b o hb e) e2 hL h1 h2 h3
end
theorem PE.mono {X:Cx}{e:Expr}{t t':TE}(h:PE X e t)(m:∀σ H Q,t' σ H Q->t σ H Q):PE X e t':=fun pins s σ H Q I q=>h pins s σ H Q I (m σ H Q q)
theorem zac {H:Hp}{a:Addr}{o:HO}(h:H a=none):Same H (upd H a o):=fun b u e=>by
 rw[zan (zaR e h)];exact e
theorem zav {H H':Hp}{a:Addr}{o:HO}(s:Same H H')(h:H a=none):Same H (upd H' a o):=fun b u e=>by
 rw[zan (zaR e h)];exact s b u e
noncomputable def SameT (H H':Hp):Prop:=∀b xs,H b=some (.tup xs)->H' b=some (.tup xs)
theorem Same.t {H H':Hp}(h:Same H H'):SameT H H':=fun b xs e=>h b _ e
theorem SameT.trans {H H1 H2:Hp}(a:SameT H H1)(b:SameT H1 H2):SameT H H2:=fun c o h=>b c o (a c o h)
theorem zbY {H:Hp}{a:Addr}{xs ys:List V}(h:H a=some (.lst xs)):SameT H (upd H a (.lst ys)):=fun b zs e=>by
 rw[zan (zhe e h (by intro z;cases z))];exact e
structure Yields (J:It) (Ok:Hp->Prop) (xs:List V):Prop where
 go:∀i H,Ok H->i<xs.length->J.go i H
 yld:∀i H x H',Ok H->i<xs.length->J.yld i H x H'->H'=H/\xs[i]? =some x
 stop:∀H,Ok H->J.stop xs.length H
theorem zfW {K:PySem.W.Frag}{a:Addr}{xs:List V}:Yields (Itl K a) (fun H=>SqL K H a xs) xs:=
 ⟨fun i H q h=>⟨xs,xs[i],q,by simp[h]⟩,fun i H x H' q _ y=>⟨y.1,y.2 xs q⟩,fun H q=>⟨xs,q,Nat.le_refl _⟩⟩
theorem zci {K:PySem.W.Frag}{a:Addr}{xs:List V}:Yields (Itt K a) (fun H=>SqT K H a xs) xs:=
 ⟨fun i H q h=>⟨xs,xs[i],q,by simp[h]⟩,fun i H x H' q _ y=>⟨y.1,y.2 xs q⟩,fun H q=>⟨xs,q,Nat.le_refl _⟩⟩
noncomputable def zaP (lo:Int)(n:Nat):List V:=(List.range n).map fun (i:Nat)=>V.int (lo+(i:Int))
theorem zaH (lo:Int)(n:Nat):(zaP lo n).length=n:=by simp[zaP]
theorem zhm {lo:Int}{n i:Nat}(h:i<n):(zaP lo n)[i]? =some (V.int (lo+(i:Int))):=by
 simp[zaP,h]
theorem zaK {lo:Int}{n:Nat}:Yields (Itr lo n) (fun _=>True) (zaP lo n):=by
 refine⟨fun i H _ h=> ?_,fun i H x H' _ h y=> ?_,fun H _=> ?_⟩
 ·rw[zaH] at h;exact h
 ·obtain ⟨y1,y2⟩:=y
  rw[zaH] at h
  exact⟨y1,by rw[zhm h,y2]⟩
 ·rw[zaH];exact Nat.le_refl _
section
variable {J:It}{Ok:Hp->Prop}{xs:List V}{tt:TT}{te:TE}{ix:List Nat}{σ:St}{H1:Hp}{Q:VK}
theorem zfX (Y:Yields J Ok xs)(small:xs.length<sizeLine)(p:V->Bool)(f:V->V)(hok:∀H,Same H1 H->Ok H)
  (ht:∀x∈xs,∀H,Same H1 H->∀Q':Bool->Hp->Prop,Q' (p x) H->tt (some x::ix.map fun i=>σ.getD i none) H Q')
  (he:∀x∈xs,p x=true->∀H,Same H1 H->∀Q':VK,Q' (f x) H->te (some x::ix.map fun i=>σ.getD i none) H Q')
  (fin:∀acc,H1 acc=none->Q (.ref acc) (upd H1 acc (.lst ((xs.filter p).map f)))):
  LcW J H1 (zbi 0) tt te 1 ix σ Q:=by
 intro acc ha
 refine⟨fun i m H=>m=xs.length-i/\i<=xs.length/\H=upd H1 acc (.lst (((xs.take i).filter p).map f)),⟨xs.length,by simp,Nat.zero_le _,rfl⟩, ?_⟩
 rintro i m H ⟨rfl,hi,rfl⟩
 have sm:Same H1 (upd H1 acc (.lst (((xs.take i).filter p).map f))):=zac ha
 have o:=hok _ sm
 by_cases hlt:i<xs.length
 ·refine .inr ⟨Y.go i _ o hlt,fun x H' y=> ?_⟩
  obtain⟨rfl,hx⟩:=Y.yld i _ x H' o hlt y
  have hmem:x∈xs:=List.mem_of_getElem? hx
  have htk:xs.take (i+1)=xs.take i++[x]:=by
   rw[List.take_succ,hx];rfl
  refine⟨⟨rfl,fun j v e=> ?_⟩, ?_⟩
  ·cases j with
   |zero=>cases e
   |succ j=>exact e
  ·refine ht x hmem _ sm _ ?_
   cases hp:p x with
   |false=>
    rw[if_neg Bool.false_ne_true]
    refine⟨xs.length-(i+1),by (first|lia|omega),rfl,hlt, ?_⟩
    rw[htk,List.filter_append]
    simp[hp]
   | true=>
    rw[if_pos rfl]
    refine he x hmem hp _ sm _ ?_
    refine⟨_,zaa, ?_,xs.length-(i+1),by (first|lia|omega),rfl,hlt, ?_⟩
    ·rw [List.length_map]
     refine Nat.lt_of_le_of_lt (List.length_filter_le _ _) ?_
     rw[List.length_take];(first|lia|omega)
    ·rw [zfS,htk,List.filter_append,List.map_append]
     simp[hp]
 ·have e:i=xs.length:=by (first|lia|omega)
  subst e
  refine .inl ⟨Y.stop _ o, ?_⟩
  rw[List.take_length]
  exact fin acc ha
theorem zex (Y:Yields J Ok xs)(small:xs.length<sizeLine)(R:V->V->Hp->Prop)(hR:∀x v H H',SameT H H'->R x v H->R x v H')(hok:∀H,Same H1 H->Ok H)
  (he:∀x∈xs,∀H,Same H1 H->∀Q':VK,(∀v H',Same H H'->R x v H'->Q' v H')->te (some x::ix.map fun i=>σ.getD i none) H Q')
  (fin:∀acc ys H',H1 acc=none->Same H1 H'->H' acc=some (.lst ys)->Paired (fun x v=>R x v H') xs ys->Q (.ref acc) H'):
  LcW J H1 (zbi 0) zbm te 1 ix σ Q:=by
 intro acc ha
 refine⟨fun i m H=>m=xs.length-i/\i<=xs.length/\Same H1 H/\∃ys,H acc=some (.lst ys)/\Paired (fun x v=>R x v H) (xs.take i) ys,⟨xs.length,by simp,Nat.zero_le _,zac ha,[],zaa,.nil⟩, ?_⟩
 rintro i m H ⟨rfl,hi,sm,ys,hacc,pr⟩
 have o:=hok _ sm
 have hlen:ys.length=i:=by rw[<-Paired.length pr,List.length_take];(first|lia|omega)
 by_cases hlt:i<xs.length
 ·refine .inr ⟨Y.go i _ o hlt,fun x H' y=> ?_⟩
  obtain⟨rfl,hx⟩:=Y.yld i _ x H' o hlt y
  have hmem:x∈xs:=List.mem_of_getElem? hx
  have htk:xs.take (i+1)=xs.take i++[x]:=by
   rw[List.take_succ,hx];rfl
  refine⟨⟨rfl,fun j v e=> ?_⟩, ?_⟩
  ·cases j with
   |zero=>cases e
   |succ j=>exact e
  ·unfold zbm
   dsimp only
   rw[if_pos rfl]
   refine he x hmem _ sm _ fun v H4 s4 r4=> ?_
   have h4:H4 acc=some (.lst ys):=s4 _ _ hacc
   refine⟨ys,h4,by (first|lia|omega),xs.length-(i+1),by (first|lia|omega),rfl,hlt,zav (sm.trans s4) ha,ys++[v],zaa, ?_⟩
   rw[htk]
   have st:SameT H4 (upd H4 acc (.lst (ys++[v]))):=zbY h4
   exact Paired.snoc (Paired.mapP pr fun x' v' r'=>hR _ _ _ _ (s4.t.trans st) r') (hR _ _ _ _ st r4)
 ·have e:i=xs.length:=by (first|lia|omega)
  subst e
  refine .inl ⟨Y.stop _ o, ?_⟩
  rw[List.take_length] at pr
  exact fin acc ys H ha sm hacc pr
end
section
variable {prog:Program}{w:World}{A:Around}{E:Value->Shared->Prop}{s:Shared}
theorem zcj {it t:Addr}{i:Nat}{its:Array Value}{x:Value}{Q:Value->Shared->Prop}(hi:s.heap.IsTupleIter it t i)(ht:s.heap.IsTuple t its)(hx:its[i]? =some x)
  (q:∀h',h'.IsTupleIter it t (i+1)->Heap.SameBut it s.heap h'->Q x {s with heap:=h'}):wpAny (model prog w) A (Builtin.SmallTypes.nextOf (.ref it)) Q E s:=by
 obtain⟨o,e1,e2,e3⟩:=id hi
 obtain⟨u,f1,f2,nu,f3⟩:=ht
 unfold Builtin.SmallTypes.nextOf
 refine wpAny_bind (wpAny_callSpecial?_slot (name:=Str.ofString "__next__") hi.typeIs F.slot_tuple_iterator_next (wpAny_call_entry F.slot_tuple_iterator_next hi.typeIs F.entry_tuple_iterator_next ?_ (F.args_tuple_iterator_next_1 _)))
 show wpAny _ _ (field (.ref it) 0 >>= _) _ _ s
 refine wpAny_bind (wpAny_field e1 e3 (x:=.ref t) rfl ?_)
 show wpAny _ _ (if (Value.ref t==Value.none)=true then _ else _) _ _ s
 rw[if_neg (show ¬((Value.ref t==Value.none)=true) from Bool.false_ne_true)]
 show wpAny _ _ (field (.ref it) 1 >>= _) _ _ s
 refine wpAny_bind (wpAny_field e1 e3 (x:=.int i 0) rfl ?_)
 show wpAny _ _ (seqItems? (.ref t) >>= _) _ _ s
 refine wpAny_bind (wpAny_seqItems f1 f3 ?_)
 simp only[Int.toNat_natCast,hx]
 refine wpAny_bind (wpAny_setField e1 e3 (by simp) (wpAny_pure ⟨x,rfl,wpAny_pure (q _ ⟨_,Heap.get?_update_self _ e1 (Obj.isFreed_of_fields (Obj.data_mapFields e3 _)),(Obj.cls_mapFields ..).trans e2, ?_⟩ (Heap.SameBut.update ..))⟩))
 rw[Obj.data_mapFields e3]
 simp[rawInt]
theorem zdE {it t:Addr}{i:Nat}{its:Array Value}{Q:Value->Shared->Prop}(hh:A.handled=none)(hi:s.heap.IsTupleIter it t i)(ht:s.heap.IsTuple t its)(hx:its[i]? =none)
  (q:∀h' e,Heap.ExtBut it s.heap h'->(∃o,h'.get? e=some o/\o.cls=.type "StopIteration")->E (.ref e) {s with heap:=h'}):wpAny (model prog w) A (Builtin.SmallTypes.nextOf (.ref it)) Q E s:=by
 obtain⟨o,e1,e2,e3⟩:=id hi
 obtain⟨u,f1,f2,nu,f3⟩:=ht
 unfold Builtin.SmallTypes.nextOf
 refine wpAny_bind (wpAny_callSpecial?_slot (name:=Str.ofString "__next__") hi.typeIs F.slot_tuple_iterator_next (wpAny_call_entry F.slot_tuple_iterator_next hi.typeIs F.entry_tuple_iterator_next ?_ (F.args_tuple_iterator_next_1 _)))
 show wpAny _ _ (field (.ref it) 0 >>= _) _ _ s
 refine wpAny_bind (wpAny_field e1 e3 (x:=.ref t) rfl ?_)
 show wpAny _ _ (if (Value.ref t==Value.none)=true then _ else _) _ _ s
 rw[if_neg (show ¬((Value.ref t==Value.none)=true) from Bool.false_ne_true)]
 show wpAny _ _ (field (.ref it) 1 >>= _) _ _ s
 refine wpAny_bind (wpAny_field e1 e3 (x:=.int i 0) rfl ?_)
 show wpAny _ _ (seqItems? (.ref t) >>= _) _ _ s
 refine wpAny_bind (wpAny_seqItems f1 f3 ?_)
 simp only[Int.toNat_natCast,hx]
 refine wpAny_bind (wpAny_rule (wpAny_bind (wpAny_setField e1 e3 (by simp) ?_)))
 show wpAny _ _ (newExc (.type "StopIteration") [] >>= _) _ _ _
 refine wpAny_bind ?_
 simp only[newExc,newTuple]
 refine wpAny_bind (wpAny_newObj_type ?_ (by size_fits))
 refine wpAny_bind (m:=firstArgMember _ _) (wpAny_of_eq (a:=Value.none) (by first|rfl|(simp only[firstArgMember];rfl)) ?_)
 refine wpAny_newObj_type ?_ (by size_fits)
 simp only[raiseNew]
 refine wpAny_bind (wpAny_handled ?_)
 first|rw[show A.in1.handled=none from hh]|rw[hh]
 refine wpAny_bind (wpAny_pure (wpAny_throw ?_))
 exact q _ _ (((Heap.SameBut.update ..).extBut.push _).push _) ⟨_,Heap.get?_push_size _ rfl,rfl⟩
end
theorem zjO {prog:Program}{w:World}{A:Around}(hh:A.handled=none)(it t:Addr)(hne:t≠it)(its:Array Value):
  Draws prog w A it [it,t] its.size (fun i v=>its[i]? =some v) (fun i h=>h.IsTupleIter it t i/\h.IsTuple t its) where
 live:=fun _ _ st=>let ⟨o,ho,_⟩:=st.1;⟨o,ho⟩
 frame:=fun _ _ _ st hk=>⟨let ⟨o,ho,r⟩:=st.1;⟨o,hk it (by simp) o ho,r⟩,let ⟨o,ho,r⟩:=st.2;⟨o,hk t (by simp) o ho,r⟩⟩
 item:=fun i s Q E hi st hQ=>zcj st.1 st.2 (x:=its[i]) (by simp[hi]) fun h' a b=>hQ _ h' s.toks (by simp[hi]) ⟨a,st.2.extBut b.extBut hne⟩ b
 done:=fun s Q E st hE=>zdE hh st.1 st.2 (by simp) hE
theorem zh5 (l:Addr)(items:Array Value)(n:Nat)(dct:Option Addr)(sl:Array (Option Value)):
  Meets (Builtin.«enumerate.__new__» ⟨[.type "enumerate",.ref l],[]⟩) (fun _ R s=>s.heap.get? l=some {cls:=.type "tuple",dict:=dct,data:=.seq items n,slots:=sl}/\
   R (.ok (.ret (.ref (s.heap.push {cls:=.type "tuple_iterator",data:=.fields #[.ref l,.int 0 0]}).objs.size)))
    {s with heap:=(s.heap.push {cls:=.type "tuple_iterator",data:=.fields #[.ref l,.int 0 0]}).push {cls:=.type "enumerate",data:=.fields #[.none,.bool false,.ref s.heap.objs.size,rawInt 0,.none,.none]}}):=
 .of_wp fun prog w A R s h=>by
  obtain⟨hp,g,d,tk,os⟩:=s;obtain⟨hl,h⟩:=h
  have hsub:=sub_enumerate
  have hL:Heap.IsTuple (Shared.heap ⟨hp,g,d,tk,os⟩) l items:=⟨_,hl,rfl,n,rfl⟩
  wp_walk using AutoSeq1.wpAny_loadPart' hl
  refine wpAny_stack_any fun st=>wpAny_pure ?_
  split
  ·rename_i c _ _ _ _ _
   cases (c==Value.type "enumerate")<;>(wp_walk using AutoSeq1.wpAny_loadPart' hl,wpAny_pyIter_tuple hL;exact⟨_,rfl,h⟩)
  ·wp_walk using AutoSeq1.wpAny_loadPart' hl,wpAny_pyIter_tuple hL
   exact⟨_,rfl,h⟩
theorem zhn {prog:Program}{w:World}{A:Around}{E:Value->Shared->Prop}{s:Shared}{l:Addr}{items:Array Value}{Q:Value->Shared->Prop}(hL:s.heap.IsTuple l items)
  (h:∀h',IsEnum h' (s.heap.objs.size+1) s.heap.objs.size 0 .none->h'.IsTupleIter s.heap.objs.size l 0->h'.objs.size=s.heap.objs.size+2->
   (∀b o,s.heap.get? b=some o->h'.get? b=some o)->Q (.ref (s.heap.objs.size+1)) {s with heap:=h'}):
  wpAny (model prog w) A (call (.type "enumerate") [.ref l]) Q E s:=by
 obtain⟨⟨c,dct,dt,sl⟩,hl,hc,n,hd⟩:=hL
 replace hc:c=.type "tuple" :=hc
 replace hd:dt=.seq items n:=hd
 subst hc hd
 refine callType_new F.called_enumerate (by decide) (F.typeCall_enumerate_1 _) (F.newCall_enumerate_1 _) (fun obj=>F.args_object_init_2 obj _) F.entry_enumerate_new (zh5 l items n dct sl) ⟨hl, ?_⟩
 have hz:(s.heap.push {cls:=.type "tuple_iterator",data:=.fields #[.ref l,.int 0 0]}).objs.size=s.heap.objs.size+1:=Heap.size_push ..
 show _/\_
 rw[hz]
 have he:=Heap.get?_push_size (s.heap.push {cls:=.type "tuple_iterator",data:=.fields #[.ref l,.int 0 0]}) (o:={cls:=.type "enumerate",data:=.fields #[.none,.bool false,.ref s.heap.objs.size,rawInt 0,.none,.none]}) rfl
 rw[hz] at he
 exact⟨⟨_,he,rfl⟩,h _ he ⟨_,Heap.get?_push_of_some _ (Heap.get?_push_size _ rfl),rfl,rfl⟩ (by rw[Heap.size_push,hz]) fun b o x=>Heap.get?_push_of_some _ (Heap.get?_push_of_some _ x)⟩
section
variable {X:Cx}{pins:List (Addr×Obj)}{σ:St}{H:Hp}{s:Shared}{h':Heap}
theorem Inv.turnedN {t':Nat}{fp:List Addr}(I:Inv X pins σ H s)(hf:∀b∈fp,FpOk X pins H b)(k:∀b o,b∉fp->s.heap.get? b=some o->h'.get? b=some o):Inv X pins σ H {s with heap:=h',toks:=t'}:=by
 have nit:∀b u,H b=some u->b∉fp:=fun b u e z=>by rw[(hf b z).1] at e;cases e
 refine I.step (g':=s.gens) (d':=s.drawn) (ch:=fp) (fun b hb=> ?_) (fun b o _ _ hc e _=>k b o hc e) (fun b o _ _ hc e _=>⟨o.slots,k b o hc e⟩) (fun _ _ _ _ n=>n)
  (fun b o hc e=>⟨o,k b o hc e⟩) (fun _ _ e=>e) (fun _ _ _ e=>e) (fun b ps e=>⟨#[],by rw[e];simp⟩) (fun m hm=> ?_) (fun b u e=> ?_) I.bare
 ·obtain ⟨_,q1,q2,q3,q4,q5⟩:=hf b hb
  exact⟨q3,q1,q4,q5⟩
 ·obtain ⟨o,es,ep,ho,r⟩:=hm
  exact⟨o,es,ep,k _ o (fun z=>(hf _ z).2.1 rfl) ho,r⟩
 ·refine (I.hok b u e).stay (fun c v hc q=>k c v ?_ q) (fun _ q=>q) fun _ _ q=>q
  rcases hc with z|z
  ·rw[z];exact nit b u e
  ·exact nit c _ z
theorem Inv.trackT {a:Addr}{xs:List V}{its:List Value}(I:Inv X pins σ H s)(hn:H a=none)(hs:X.s₀.heap.objs.size<=a)(hL:a≠X.env.locals)(hc:∀x c,X.env.cells.lookup x=some c->c≠a)(hp:∀p∈X.pn++pins,p.1≠a)
  (rv:Vals xs its) (ht:PTup s.heap a its.toArray) (hz:xs.length<=sizeLine):Inv X pins σ (upd H a (.tup xs)) s:=by
 have ne:∀{b u},H b=some u->b≠a:=fun e=>zaR e hn
 refine⟨I.ok,I.os,I.bare,⟨I.base.keep,I.base.slot,fun b o e n hx=> ?_,I.base.there,fun b ys e=> ?_,fun b o u e=> ?_,fun b ps e=> ?_⟩,I.loc,I.cell, ?_,fun x c e=> ?_,fun p hp'=> ?_,fun b u e=> ?_,I.len⟩
 ·rw [zan (Nat.ne_of_lt (Nat.lt_of_lt_of_le (Heap.lt_size e) hs))]
  exact I.base.free b o e n hx
 ·have q:=I.base.tups b ys e
  rw[zan (ne q)];exact q
 ·have q:=I.base.frzs b o u e
  rw[zan (ne q)];exact q
 ·obtain ⟨m,q⟩:=I.base.tbls b ps e
  exact⟨m,by rw[zan (ne q)];exact q⟩
 ·rw[zan (Ne.symm hL)];exact I.free
 ·rw[zan (hc x c e)];exact I.freeC x c e
 ·obtain ⟨q1,q2,q3⟩:=I.pin p hp'
  exact⟨q1,by rw[zan (hp p hp')];exact q2,q3⟩
 ·by_cases hb:b=a
  ·subst hb
   rw[zaa] at e;cases e
   exact⟨hz,its,rv,ht⟩
  ·rw [zan hb] at e
   exact (I.hok b u e).stay (fun _ _ _ q=>q) (fun c q=>by rw[zan (ne q)];exact q) fun c ys q=>by rw[zan (ne q)];exact q
theorem Inv.turnedT {t':Nat}{fp:List Addr}{xs:List V}{its:List Value}(I:Inv X pins σ H s)(hf:∀b∈fp,FpOk X pins H b)(k:∀b o,b∉fp->s.heap.get? b=some o->h'.get? b=some o)
  (rv:Vals xs its) (ht:PTup h' s.heap.objs.size its.toArray) (hz:xs.length<=sizeLine):Inv X pins σ (upd H s.heap.objs.size (.tup xs)) {s with heap:=h',toks:=t'}:=by
 refine (I.turnedN (t':=t') hf k).trackT (I.hok.fresh (Nat.le_refl _)) I.sz (Nat.ne_of_gt I.lt) (fun x c e=> ?_) (fun p hp=> ?_) rv ht hz
 ·obtain ⟨v,q⟩:=I.cell x c e
  exact Nat.ne_of_lt q.lt
 ·exact Nat.ne_of_lt (Heap.lt_size (I.pin p hp).1)
end
noncomputable def Ite (K:PySem.W.Frag)(a:Addr):It:=
 ⟨fun i H=>∃xs x,SqT K H a xs/\xs[i]? =some x,fun i H v H'=>∃t x,H t=none/\v=.ref t/\H'=upd H t (.tup [.int i,x])/\∀xs,SqT K H a xs->xs[i]? =some x,fun i H=>∃xs,SqT K H a xs/\xs.length=i⟩
theorem zho {P:Program}{w:World}{K:PySem.W.Frag}{els:List Expr}{kx}{tp:Pos}(a e it:Addr)(hne:e≠it):Turn P w K (.Tuple els kx tp) (Ite K a) [e,it] e (fun i h=>(∃old,IsEnum h e it i old)/\h.IsTupleIter it a i) where
 mem:=by simp
 obj:=fun i h st b hb=>by
  obtain⟨⟨old,he⟩,o,ho,hc,hd⟩:=st
  rcases List.mem_cons.mp hb with rfl|hb
  ·exact⟨_,he,fun v z=>by cases z⟩
  ·rw [List.mem_singleton.mp hb]
   exact⟨o,ho,fun v z=>by rw[hd] at z;cases z⟩
 keep:=fun i h h' st k=>by
  obtain⟨⟨old,he⟩,o,ho,r⟩:=st
  exact⟨⟨old,k e (by simp) _ he⟩,o,k it (by simp) _ ho,r⟩
 item:=by
  intro X hP hw hK hc i pins s σ H E I hf st hg
  subst hP hw hK
  obtain⟨xs,x,hq,hx⟩:=hg
  obtain⟨its,rv,p,hz⟩:=I.tuple hq
  obtain⟨u,hu,ru⟩:=rv.get hx
  obtain⟨⟨old,he⟩,hi⟩:=st
  obtain⟨o,ho,hcl,hd⟩:=id hi
  have hT:s.heap.IsTuple a its.toArray:=p
  have hai:a≠it:=fun z=>by
   obtain⟨o',e1,e2,_⟩:=p
   rw[z,ho] at e1;cases e1;rw[hcl] at e2;injection e2 with z2;revert z2;decide
  have hae:e≠a:=fun z=>by
   obtain⟨o',e1,e2,_⟩:=p
   rw[<-z,he] at e1;cases e1;injection e2 with z2;revert z2;decide
  have hlt:i<its.toArray.size:=by
   have:=(List.getElem?_eq_some_iff.mp hu).1
   simpa using this
  have hh:X.A.in1.handled=none:=I.ok.hd hc
  refine wpAny_pyNext_enum_itemD (zjO hh it a hai its.toArray) he ⟨hi,hT⟩ hlt hne (by simp[hne,hae]) fun x' h1 tk hP1 ho1 hs1 hT1 hz1 hk1=> ?_
  have ex:x'=u:=by
   have q:its[i]? =some x':=by simpa using hP1
   rw[hu] at q;exact (Option.some.inj q).symm
  subst ex
  refine⟨_,rfl,wpAny_letOwnedTupleGo_enum ho1 fun h2 he2 hs2=> ?_⟩
  have hne0:s.heap.objs.size≠e:=Nat.ne_of_gt (Heap.lt_size he)
  have keep:∀b o,b∉[e,it]->s.heap.get? b=some o->h2.get? b=some o:=fun b o hb e0=>(hs2.2 b fun z=>hb (by simp[z])).trans (hk1 b o (fun z=>hb (by simp[z])) (fun z=>hb (by simp[z])) e0)
  refine⟨.ref s.heap.objs.size,_,I.turnedT (h':=h2) (t':=tk+1) (xs:=[.int i,x]) hf keep (.cons ⟨tk,rfl⟩ (.cons ru .nil)) ⟨_,(hs2.2 _ hne0).trans hT1,rfl,⟨_,rfl⟩,rfl,rfl⟩ (by show 2<=sizeLine;decide),rfl,⟨_,x,I.hok.fresh (Nat.le_refl _),rfl,rfl,fun ys hy=>by rw[I.tuple_inj hy hq];exact hx⟩,⟨⟨_,by simpa using he2⟩, ?_⟩,fun b hb=> ?_⟩
  ·obtain ⟨⟨o1,e1,r1⟩,_⟩:=hs1
   exact⟨o1,(hs2.2 it (Ne.symm hne)).trans e1,r1⟩
  ·rcases List.mem_cons.mp hb with rfl|hb'
   ·rw[zan (Nat.ne_of_lt (Heap.lt_size he))];exact (hf _ hb).1
   ·have e9:=List.mem_singleton.mp hb'
    subst e9
    rw[zan (Nat.ne_of_lt (Heap.lt_size ho))];exact (hf _ hb).1
 done:=by
  intro X hP hw hK hc i pins s σ H E I hf st hg
  subst hP hw hK
  obtain⟨xs,hq,hx⟩:=hg
  obtain⟨its,rv,p,hz⟩:=I.tuple hq
  obtain⟨⟨old,he⟩,hi⟩:=st
  obtain⟨o,ho,hcl,hd⟩:=id hi
  have hT:s.heap.IsTuple a its.toArray:=p
  have hai:a≠it:=fun z=>by
   obtain⟨o',e1,e2,_⟩:=p
   rw[z,ho] at e1;cases e1;rw[hcl] at e2;injection e2 with z2;revert z2;decide
  have hh:X.A.in1.handled=none:=I.ok.hd hc
  have hl:its.toArray.size=i:=by rw[List.size_toArray,<-rv.length,hx]
  refine wpAny_pyNext_enum_endD (zjO hh it a hai its.toArray) he (by rw[hl];exact⟨hi,hT⟩) fun h1 hk=>⟨rfl, ?_⟩
  exact I.turnedN (t':=s.toks) hf fun b o hb e0=>hk b o (fun z=>hb (by simp[z])) e0
 self:=fun _ _ _ _ _ st h=>by
  obtain⟨⟨old,he⟩,_⟩:=st
  exact wpAny_pyIter_enum he h
section
variable {X:Cx}
noncomputable def zlK (K:PySem.W.Frag)(ta:TA):TI:=fun σ H R=>ta σ H fun vs H1=>∃a,vs=[.ref a]/\(∃xs,SqT K H1 a xs)/\R (Ite K a) H1
theorem zgM {els:List Expr}{kx}{tp:Pos}{l:Expr}{ta:TA}{p pos:Pos}(hg:Gl X "enumerate")(hm:X.mg "enumerate" =none)(ha:PA X [l] ta)(hs:starEach [l] X.env=[(false,eval l X.env)]:=by rfl):
  PI X (.Tuple els kx tp) (.Call (.Name "enumerate" p) [l] [] pos) (zlK X.K ta):=by
 intro pins s σ H R I h
 refine Call_ (zdu I hg hm boot_enumerate (PyProof.Rows.callWith_type1 (thn (ha pos pins s σ H _ I h) fun us s1 zq=> ?_) hs rfl))
 obtain⟨vs,H1,I1,r1,q1⟩:=zq
 obtain⟨a,rfl,⟨xs,hq⟩,q⟩:=q1
 obtain⟨u,rfl,ru⟩:=zcH r1
 cases (show u=Value.ref a from ru)
 obtain⟨its,rv,p',hz⟩:=I1.tuple hq
 refine zhn (show s1.heap.IsTuple a its.toArray from p') fun h' he hi hsz hk=>wpAny_pyIter_enum he ?_
 have I2:Inv X pins σ H1 {s1 with heap:=h'}:=I1.kept (t':=s1.toks) hk
 refine⟨s1.heap.objs.size+1,[s1.heap.objs.size+1,s1.heap.objs.size],_,_,H1,rfl,I2,zho a _ _ (Nat.ne_of_gt (Nat.lt_succ_self _)),⟨⟨_,he⟩,hi⟩,fun b hb=> ?_,q⟩
 rcases List.mem_cons.mp hb with rfl|hb
 ·exact I1.fpOk (Nat.le_succ _) (I1.hok.fresh (Nat.le_succ _))
 ·rw [List.mem_singleton.mp hb]
  exact I1.fpOk (Nat.le_refl _) (I1.hok.fresh (Nat.le_refl _))
end
structure ZipT (h:Heap) (z TI TO i1 i2 a b:Addr) (i:Nat):Prop where
 z:IsZip h z TI TO .none
 ti:IsPair h TI (.ref i1) (.ref i2)
 to:∃x y,IsPair h TO x y
 one:h.IsTupleIter i1 a i
 two:h.IsTupleIter i2 b i
structure ZipNe (z TI TO i1 i2:Addr):Prop where
 az:TI≠z
 bz:TO≠z
 cz:i1≠z
 dz:i2≠z
 ab:TI≠TO
 ac:TI≠i1
 ad:TI≠i2
 bc:TO≠i1
 bd:TO≠i2
 cd:i1≠i2
section
variable {prog:Program}{w:World}{A:Around}{E:Value->Shared->Prop}{s:Shared}{z TI TO i1 i2 a b:Addr}{i:Nat}{xs ys:Array Value}
theorem zfY {T:Addr}{p q x:Value}{k:Nat}{Q:Unit->Shared->Prop}(hT:IsPair s.heap T p q)(h:∀h',h'.get? T=some {cls:=.type "tuple",data:=.seq ((#[p,q]:Array Value).setIfInBounds k x)}->Heap.SameBut T s.heap h'->Q () {s with heap:=h'}):
  wpAny (model prog w) A (updateSeq T (·.setIfInBounds k x)) Q E s:=wpAny_updateSeq_pair hT h
theorem zh6 {h:Heap}{t j:Addr}{k:Nat}{its:Array Value}{u:Addr}(ht:h.IsTuple t its)(hj:h.IsTupleIter j u k):t≠j:=fun e=>by
 obtain⟨o,e1,e2,_⟩:=ht
 obtain⟨o',f1,f2,_⟩:=hj
 rw[e,f1] at e1;cases e1;rw[f2] at e2;injection e2 with z2;revert z2;decide
theorem zh7 {x y:Value}{Q:Option Value->Shared->Prop}(D:ZipNe z TI TO i1 i2)(S:ZipT s.heap z TI TO i1 i2 a b i)(ha:s.heap.IsTuple a xs)(hb:s.heap.IsTuple b ys)(haz:a≠z/\a≠TO)(hbz:b≠z/\b≠TO)(hx:xs[i]? =some x)(hy:ys[i]? =some y)
  (q:∀h',IsZip h' z TI TO (rawInt s.heap.objs.size)->IsPair h' TI (.ref i1) (.ref i2)->IsPair h' TO x y->h'.IsTupleIter i1 a (i+1)->h'.IsTupleIter i2 b (i+1)->IsPair h' s.heap.objs.size x y->
   (∀c o,c≠z->c≠TO->c≠i1->c≠i2->s.heap.get? c=some o->h'.get? c=some o)->Q (some (.ref s.heap.objs.size)) {s with heap:=h'}):
  wpAny (model prog w) A (pyNext (.ref z)) Q E s:=by
 obtain⟨hz,hti,⟨p0,p1,hto⟩,h1,h2⟩:=S
 have ai1:=zh6 ha h1
 have ai2:=zh6 ha h2
 have bi1:=zh6 hb h1
 have bi2:=zh6 hb h2
 have hT:s.TypeIs (.ref z) "zip" :=⟨_,hz,rfl⟩
 unfold pyNext
 refine wpAny_bind (wpAny_attempt (wpAny_callSpecial?_slot (name:=Str.ofString "__next__") hT F.slot_zip_next (wpAny_call_entry F.slot_zip_next hT F.entry_zip_next ?_ (F.args_zip_next_1 _))))
 show wpAny _ _ (field (.ref z) 2 >>= _) _ _ _
 refine wpAny_bind (wpAny_field hz rfl (x:=.bool false) rfl ?_);show wpAny _ _ (field (.ref z) 3 >>= _) _ _ _
 refine wpAny_bind (wpAny_field hz rfl (x:=.ref TI) rfl (wpAny_bind (wpAny_seqItems hti rfl ?_)))
 show wpAny _ _ (Builtin.SmallTypes.ownedTupleIsFree (.ref z) >>= _) _ _ _
 refine wpAny_bind ?_
 unfold Builtin.SmallTypes.ownedTupleIsFree
 refine wpAny_bind (wpAny_field hz rfl (x:=.none) rfl (wpAny_pure ?_));simp only[if_true]
 refine wpAny_bind (wpAny_rule (wpAny_bind (wpAny_field hz rfl (x:=.ref TO) rfl (wpAny_bind (wpAny_setField_rec hz (by simp) fun g1 k1 s1=> ?_)))))
 replace k1:IsZip g1 z TI TO .ellipsis:=k1
 refine wpAny_bind ?_
 simp only[List.zipIdx_cons,List.zipIdx_nil,List.forIn_cons,List.forIn_nil]
 refine wpAny_bind (wpAny_bind (wpAny_onRaise ?_));show wpAny _ _ (Builtin.SmallTypes.nextOf (.ref i1) >>= _) _ _ _
 refine wpAny_bind (zcj (h1.extBut s1.extBut D.cz) (ha.extBut s1.extBut haz.1) hx fun g2 j2 s2=>wpAny_pure ?_)
 have t2:IsPair g2 TO p0 p1:=s2.extBut _ _ D.bc (s1.extBut _ _ D.bz hto)
 refine wpAny_bind (wpAny_seqItems t2 rfl (wpAny_bind (zfY t2 fun g3 t3 s3=> ?_)))
 replace t3:IsPair g3 TO x p1:=t3
 refine wpAny_bind (wpAny_letGo (wpAny_pure ?_))
 refine wpAny_bind (wpAny_bind (wpAny_onRaise ?_));show wpAny _ _ (Builtin.SmallTypes.nextOf (.ref i2) >>= _) _ _ _
 have e3:∀c o,c≠z->c≠i1->c≠TO->s.heap.get? c=some o->g3.get? c=some o:=fun c o c1 c2 c3 e=>s3.extBut _ _ c3 (s2.extBut _ _ c2 (s1.extBut _ _ c1 e))
 have h23:g3.IsTupleIter i2 b i:=let ⟨o,ho,r⟩:=h2;⟨o,e3 _ _ D.dz D.cd.symm D.bd.symm ho,r⟩
 have hb3:g3.IsTuple b ys:=let ⟨o,ho,r⟩:=hb;⟨o,e3 _ _ hbz.1 bi1 hbz.2 ho,r⟩
 refine wpAny_bind (zcj h23 hb3 hy fun g4 j4 s4=>wpAny_pure ?_)
 have t4:IsPair g4 TO x p1:=s4.extBut _ _ D.bd t3
 refine wpAny_bind (wpAny_seqItems t4 rfl (wpAny_bind (zfY t4 fun g5 t5 s5=> ?_)))
 replace t5:IsPair g5 TO x y:=t5
 refine wpAny_bind (wpAny_letGo (wpAny_pure (wpAny_pure ?_)))
 refine wpAny_bind (wpAny_seqItems t5 rfl (wpAny_bind (wpAny_newTuple ?_)))
 have z5:g5.objs.size=s.heap.objs.size:=by rw[s5.1,s4.1,s3.1,s2.1,s1.1]
 have e5:∀c o,c≠z->c≠TO->c≠i1->c≠i2->s.heap.get? c=some o->g5.get? c=some o:=fun c o c1 c2 c3 c4 e=>s5.extBut _ _ c2 (s4.extBut _ _ c4 (e3 c o c1 c3 c2 e))
 have k5:IsZip g5 z TI TO .ellipsis:=s5.extBut _ _ D.bz.symm (s4.extBut _ _ D.dz.symm (s3.extBut _ _ D.bz.symm (s2.extBut _ _ D.cz.symm k1)))
 have m1:g5.IsTupleIter i1 a (i+1):=((j2.extBut s3.extBut D.bc.symm).extBut s4.extBut D.cd).extBut s5.extBut D.bc.symm
 have m2:g5.IsTupleIter i2 b (i+1):=j4.extBut s5.extBut D.bd.symm
 have zlt:z<g5.objs.size:=Heap.lt_size k5
 show wpAny _ _ (Builtin.SmallTypes.ownedTupleHandOut (.ref z) (.ref g5.objs.size) >>= _) _ _ _
 refine wpAny_bind ?_
 unfold Builtin.SmallTypes.ownedTupleHandOut
 have k6:IsZip (g5.push {cls:=.type "tuple",data:=.seq #[x,y]}) z TI TO .ellipsis:=Heap.get?_push_of_some _ k5
 refine wpAny_bind (wpAny_setField_rec k6 (by simp) fun g7 k7 s7=> ?_)
 replace k7:IsZip g7 z TI TO (rawInt g5.objs.size):=k7
 refine wpAny_setField_rec k7 (by simp) fun g8 k8 s8=> ?_
 replace k8:IsZip g8 z TI TO (rawInt g5.objs.size):=k8
 have up:∀c o,c≠z->g5.get? c=some o->g8.get? c=some o:=fun c o c1 e=>s8.extBut _ _ c1 (s7.extBut _ _ c1 (Heap.get?_push_of_some _ e))
 have t8:IsPair g8 g5.objs.size x y:=s8.extBut _ _ (Nat.ne_of_gt zlt) (s7.extBut _ _ (Nat.ne_of_gt zlt) (Heap.get?_push_size _ rfl))
 rw[z5] at k8 t8
 refine wpAny_pure ⟨_,rfl,wpAny_pure ?_⟩
 show Q (some (.ref g5.objs.size)) _
 rw[z5]
 exact q g8 k8 (up _ _ D.az (e5 _ _ D.az D.ab D.ac D.ad hti)) (up _ _ D.bz t5) (let ⟨o,ho,r⟩:=m1;⟨o,up _ _ D.cz ho,r⟩) (let ⟨o,ho,r⟩:=m2;⟨o,up _ _ D.dz ho,r⟩) t8 fun c o c1 c2 c3 c4 e=>up c o c1 (e5 c o c1 c2 c3 c4 e)
theorem zi7 {Q:Option Value->Shared->Prop}(hh:A.in1.handled=none)(D:ZipNe z TI TO i1 i2)(S:ZipT s.heap z TI TO i1 i2 a b i)(ha:s.heap.IsTuple a xs)(hb:s.heap.IsTuple b ys)(haz:a≠z/\a≠TO)(hbz:b≠z/\b≠TO)(hend:xs[i]? =none∨ys[i]? =none)
  (q:∀h',(∀c o,c≠z->c≠TO->c≠i1->c≠i2->s.heap.get? c=some o->h'.get? c=some o)->Q none {s with heap:=h'}):
  wpAny (model prog w) A (pyNext (.ref z)) Q E s:=by
 obtain⟨hz,hti,⟨p0,p1,hto⟩,h1,h2⟩:=S
 have bi1:=zh6 hb h1
 have hT:s.TypeIs (.ref z) "zip" :=⟨_,hz,rfl⟩
 unfold pyNext
 refine wpAny_bind (wpAny_attempt (wpAny_callSpecial?_slot (name:=Str.ofString "__next__") hT F.slot_zip_next (wpAny_call_entry F.slot_zip_next hT F.entry_zip_next ?_ (F.args_zip_next_1 _))))
 show wpAny _ _ (field (.ref z) 2 >>= _) _ _ _
 refine wpAny_bind (wpAny_field hz rfl (x:=.bool false) rfl ?_);show wpAny _ _ (field (.ref z) 3 >>= _) _ _ _
 refine wpAny_bind (wpAny_field hz rfl (x:=.ref TI) rfl (wpAny_bind (wpAny_seqItems hti rfl ?_)))
 show wpAny _ _ (Builtin.SmallTypes.ownedTupleIsFree (.ref z) >>= _) _ _ _
 refine wpAny_bind ?_
 unfold Builtin.SmallTypes.ownedTupleIsFree
 refine wpAny_bind (wpAny_field hz rfl (x:=.none) rfl (wpAny_pure ?_));simp only[if_true]
 refine wpAny_bind (wpAny_rule (wpAny_bind (wpAny_field hz rfl (x:=.ref TO) rfl (wpAny_bind (wpAny_setField_rec hz (by simp) fun g1 k1 s1=> ?_)))))
 replace k1:IsZip g1 z TI TO .ellipsis:=k1
 refine wpAny_bind ?_
 simp only[List.zipIdx_cons,List.zipIdx_nil,List.forIn_cons,List.forIn_nil]
 have fin:∀(g:Heap) (e:Addr),IsZip g z TI TO .ellipsis->(∀c o,c≠z->c≠TO->c≠i1->c≠i2->s.heap.get? c=some o->g.get? c=some o)->(∃o,g.get? e=some o/\o.cls=.type "StopIteration")->
   wpAny (model prog w) A.in1 (setField (.ref z) 0 .none) (fun _ s'=>wpAny (model prog w) A (do if<-isInstance (.ref e) (.type "StopIteration") then pure none else throw (Value.ref e)) Q E s') (fun e' s'=>wpAny (model prog w) A (do if<-isInstance e' (.type "StopIteration") then pure none else throw e') Q E s') {s with heap:=g}:=by
  rintro g e kz kk ⟨oe,f1,f2⟩
  have ez:e≠z:=fun y=>by subst y;rw[kz] at f1;cases f1;injection f2 with z2;revert z2;decide
  refine wpAny_setField_rec kz (by simp) fun g' _ s'=> ?_
  refine wpAny_bind (wpAny_isInstance (T:= "StopIteration") (b:=true) ⟨oe,s'.extBut _ _ ez f1,f2⟩ isSubtype_stop ?_)
  exact wpAny_pure (q g' fun c o c1 c2 c3 c4 y=>s'.extBut _ _ c1 (kk c o c1 c2 c3 c4 y))
 refine wpAny_bind (wpAny_bind (wpAny_onRaise ?_));show wpAny _ _ (Builtin.SmallTypes.nextOf (.ref i1) >>= _) _ _ _
 cases hx:xs[i]? with
 |none=>
  refine wpAny_bind (zdE hh (h1.extBut s1.extBut D.cz) (ha.extBut s1.extBut haz.1) hx fun g2 e s2 he=> ?_)
  exact fin g2 e (s2 _ _ D.cz.symm k1) (fun c o c1 _ c3 _ y=>s2 _ _ c3 (s1.extBut _ _ c1 y)) he
 |some x=>
  have hy:ys[i]? =none:=by rcases hend with h|h;rw[hx] at h;cases h;exact h
  refine wpAny_bind (zcj (h1.extBut s1.extBut D.cz) (ha.extBut s1.extBut haz.1) hx fun g2 j2 s2=>wpAny_pure ?_)
  have t2:IsPair g2 TO p0 p1:=s2.extBut _ _ D.bc (s1.extBut _ _ D.bz hto)
  refine wpAny_bind (wpAny_seqItems t2 rfl (wpAny_bind (zfY t2 fun g3 t3 s3=> ?_)))
  refine wpAny_bind (wpAny_letGo (wpAny_pure ?_))
  refine wpAny_bind (wpAny_bind (wpAny_onRaise ?_));show wpAny _ _ (Builtin.SmallTypes.nextOf (.ref i2) >>= _) _ _ _
  have e3:∀c o,c≠z->c≠i1->c≠TO->s.heap.get? c=some o->g3.get? c=some o:=fun c o c1 c2 c3 e=>s3.extBut _ _ c3 (s2.extBut _ _ c2 (s1.extBut _ _ c1 e))
  have h23:g3.IsTupleIter i2 b i:=let ⟨o,ho,r⟩:=h2;⟨o,e3 _ _ D.dz D.cd.symm D.bd.symm ho,r⟩
  have hb3:g3.IsTuple b ys:=let ⟨o,ho,r⟩:=hb;⟨o,e3 _ _ hbz.1 bi1 hbz.2 ho,r⟩
  refine wpAny_bind (zdE hh h23 hb3 hy fun g4 e s4 he=> ?_)
  exact fin g4 e (s4 _ _ D.dz.symm (s3.extBut _ _ D.bz.symm (s2.extBut _ _ D.cz.symm k1))) (fun c o c1 c2 c3 c4 y=>s4 _ _ c4 (e3 c o c1 c3 c2 y)) he
noncomputable abbrev zT1 (h:Heap)(l1:Addr):Heap:=h.push {cls:=.type "tuple_iterator",data:=.fields #[.ref l1,.int 0 0]}
noncomputable abbrev zT2 (h:Heap)(l1 l2:Addr):Heap:=(zT1 h l1).push {cls:=.type "tuple_iterator",data:=.fields #[.ref l2,.int 0 0]}
noncomputable abbrev zT3 (h:Heap)(l1 l2:Addr):Heap:=(zT2 h l1 l2).push {cls:=.type "tuple",data:=.seq #[.ref h.objs.size,.ref (zT1 h l1).objs.size]}
noncomputable abbrev zT4 (h:Heap)(l1 l2:Addr):Heap:=(zT3 h l1 l2).push {cls:=.type "tuple",data:=.seq #[.none,.none]}
noncomputable abbrev zT5 (h:Heap)(l1 l2:Addr):Heap:=(zT4 h l1 l2).push {cls:=.type "zip",data:=.fields #[.none,.bool false,.bool false,.ref (zT2 h l1 l2).objs.size,.ref (zT3 h l1 l2).objs.size]}
theorem zi8 (l1 l2:Addr)(xs ys:Array Value):
  Meets (Builtin.«zip.__new__» ⟨[.type "zip",.ref l1,.ref l2],[]⟩) (fun _ R s=>s.heap.IsTuple l1 xs/\s.heap.IsTuple l2 ys/\R (.ok (.ret (.ref (zT4 s.heap l1 l2).objs.size))) {s with heap:=zT5 s.heap l1 l2}):=
 .of_wp fun prog w A R s h=>by
  obtain⟨hp,g,d,tk,os⟩:=s;obtain⟨hl1,hl2,h⟩:=h
  have hsub:=sub_zip
  have hL1:Heap.IsTuple (Shared.heap ⟨hp,g,d,tk,os⟩) l1 xs:=hl1
  have hL2:Heap.IsTuple (Shared.heap ⟨hp.push {cls:=.type "tuple_iterator",data:=.fields #[.ref l1,.int 0 0]},g,d,tk,os⟩) l2 ys:=Heap.IsTuple.push hl2 _
  wp_walk using wpAny_pyIter_tuple hL1,wpAny_pyIter_tuple hL2
  exact⟨_,rfl,h⟩
theorem zh8 {l1 l2:Addr}{Q:Value->Shared->Prop}(hl1:s.heap.IsTuple l1 xs)(hl2:s.heap.IsTuple l2 ys)
  (h:∀h',ZipT h' (s.heap.objs.size+4) (s.heap.objs.size+2) (s.heap.objs.size+3) s.heap.objs.size (s.heap.objs.size+1) l1 l2 0->(∀c o,s.heap.get? c=some o->h'.get? c=some o)->Q (.ref (s.heap.objs.size+4)) {s with heap:=h'}):
  wpAny (model prog w) A (call (.type "zip") [.ref l1,.ref l2]) Q E s:=by
 refine callType_new F.called_zip (by decide) (F.typeCall_zip_2 _ _) (F.newCall_zip_2 _ _) (fun obj=>F.args_object_init_3 obj _ _) F.entry_zip_new (zi8 l1 l2 xs ys) ⟨hl1,hl2, ?_⟩
 have z1:(zT1 s.heap l1).objs.size=s.heap.objs.size+1:=Heap.size_push ..
 have z2:(zT2 s.heap l1 l2).objs.size=s.heap.objs.size+2:=by rw[Heap.size_push,z1]
 have z3:(zT3 s.heap l1 l2).objs.size=s.heap.objs.size+3:=by rw[Heap.size_push,z2]
 have z4:(zT4 s.heap l1 l2).objs.size=s.heap.objs.size+4:=by rw[Heap.size_push,z3]
 have p1:∀{g:Heap} {c o u},g.get? c=some o->(g.push u).get? c=some o:=fun e=>Heap.get?_push_of_some _ e
 have g5:(zT5 s.heap l1 l2).get? (zT4 s.heap l1 l2).objs.size=some _:=Heap.get?_push_size _ rfl
 have g4:(zT5 s.heap l1 l2).get? (zT3 s.heap l1 l2).objs.size=some _:=p1 (Heap.get?_push_size _ rfl)
 have g3:(zT5 s.heap l1 l2).get? (zT2 s.heap l1 l2).objs.size=some _:=p1 (p1 (Heap.get?_push_size _ rfl))
 have g2:(zT5 s.heap l1 l2).get? (zT1 s.heap l1).objs.size=some _:=p1 (p1 (p1 (Heap.get?_push_size _ rfl)))
 have g1:(zT5 s.heap l1 l2).get? s.heap.objs.size=some _:=p1 (p1 (p1 (p1 (Heap.get?_push_size _ rfl))))
 show _/\_
 rw[z2,z3,z4] at g5
 rw[z1,z2] at g3
 rw[z3] at g4
 rw[z1] at g2
 rw[z4]
 exact⟨⟨_,g5,rfl⟩,h _ ⟨g5,g3,⟨_,_,g4⟩,⟨_,g1,rfl,rfl⟩,⟨_,g2,rfl,rfl⟩⟩ fun c o x=>p1 (p1 (p1 (p1 (p1 x))))⟩
end
noncomputable def Itz (K:PySem.W.Frag)(a b:Addr):It:=
 ⟨fun i H=>∃xs ys x y,SqT K H a xs/\SqT K H b ys/\xs[i]? =some x/\ys[i]? =some y,fun i H v H'=>∃t x y,H t=none/\v=.ref t/\H'=upd H t (.tup [x,y])/\∀xs ys,SqT K H a xs->SqT K H b ys->xs[i]? =some x/\ys[i]? =some y,
  fun i H=>∃xs ys,SqT K H a xs/\SqT K H b ys/\(xs[i]? =none∨ys[i]? =none)⟩
theorem zgN {z TI TO i1 i2:Addr}{h:Heap}{a b:Addr}{i:Nat}(S:ZipT h z TI TO i1 i2 a b i)(h1:TI≠TO)(h2:i1≠i2):ZipNe z TI TO i1 i2:=by
 obtain⟨hz,hti,⟨p0,p1,hto⟩,⟨o1,e1,c1,d1⟩,⟨o2,e2,c2,d2⟩⟩:=S
 refine⟨fun e=> ?_,fun e=> ?_,fun e=> ?_,fun e=> ?_,h1,fun e=> ?_,fun e=> ?_,fun e=> ?_,fun e=> ?_,h2⟩
 ·have q:=(show h.get? TI=_ from hti);rw[e,show h.get? z=_ from hz] at q;injection q with q;injection q with q1;injection q1 with q2;revert q2;decide
 ·have q:=(show h.get? TO=_ from hto);rw[e,show h.get? z=_ from hz] at q;injection q with q;injection q with q1;injection q1 with q2;revert q2;decide
 ·rw[e,hz] at e1;cases e1;injection c1 with q2;revert q2;decide
 ·rw[e,hz] at e2;cases e2;injection c2 with q2;revert q2;decide
 ·rw[<-e,hti] at e1;cases e1;injection c1 with q2;revert q2;decide
 ·rw[<-e,hti] at e2;cases e2;injection c2 with q2;revert q2;decide
 ·rw[<-e,hto] at e1;cases e1;injection c1 with q2;revert q2;decide
 ·rw[<-e,hto] at e2;cases e2;injection c2 with q2;revert q2;decide
theorem SqT.fpNe {X:Cx}{pins:List (Addr×Obj)}{σ:St}{H:Hp}{s:Shared}{t c:Addr}{zs:List V}(I:Inv X pins σ H s)(hq:SqT X.K H t zs)(f:FpOk X pins H c):t≠c:=by
 rintro rfl
 rcases hq with (h|⟨o,h⟩)|h
 ·rw[f.1] at h;cases h
 ·rw[f.1] at h;cases h
 ·obtain ⟨o,_,_,hl,_⟩:=h
  have e:=I.ok.mod.kin _ _ hl
  rcases f.2.2.2.1 with z|z
  ·exact I.ok.noex _ _ e z
  ·exact absurd (Nat.lt_of_lt_of_le (Heap.lt_size e) (Nat.le_trans I.ok.bsz z)) (Nat.lt_irrefl _)
theorem zh9 {P:Program}{w:World}{K:PySem.W.Frag}{els:List Expr}{kx}{tp:Pos}(a b z TI TO i1 i2:Addr)(h1:TI≠TO)(h2:i1≠i2):Turn P w K (.Tuple els kx tp) (Itz K a b) [z,TI,TO,i1,i2] z (fun i h=>ZipT h z TI TO i1 i2 a b i) where
 mem:=by simp
 obj:=fun i h st c hc=>by
  obtain⟨hz,hti,⟨p0,p1,hto⟩,⟨o1,e1,c1,d1⟩,⟨o2,e2,c2,d2⟩⟩:=st
  simp only[List.mem_cons,List.not_mem_nil,or_false] at hc
  rcases hc with rfl|rfl|rfl|rfl|rfl
  ·exact⟨_,hz,fun v q=>by cases q⟩
  ·exact⟨_,hti,fun v q=>by cases q⟩
  ·exact⟨_,hto,fun v q=>by cases q⟩
  ·exact⟨_,e1,fun v q=>by rw[d1] at q;cases q⟩
  ·exact⟨_,e2,fun v q=>by rw[d2] at q;cases q⟩
 keep:=fun i h h' st k=>by
  obtain⟨hz,hti,⟨p0,p1,hto⟩,⟨o1,e1,r1⟩,⟨o2,e2,r2⟩⟩:=st
  exact⟨k _ (by simp) _ hz,k _ (by simp) _ hti,⟨p0,p1,k _ (by simp) _ hto⟩,⟨o1,k _ (by simp) _ e1,r1⟩,⟨o2,k _ (by simp) _ e2,r2⟩⟩
 item:=by
  intro X hP hw hK hc i pins s σ H E I hf st hg
  subst hP hw hK
  obtain⟨xs,ys,x,y,hqa,hqb,hx,hy⟩:=hg
  obtain⟨its,rv,p,_⟩:=I.tuple hqa
  obtain⟨jts,rw',p',_⟩:=I.tuple hqb
  obtain⟨u,hu,ru⟩:=rv.get hx
  obtain⟨v,hv,rvv⟩:=rw'.get hy
  have D:=zgN st h1 h2
  obtain⟨hz,hti,⟨p0,p1,hto⟩,hi1,hi2⟩:=id st
  have apart:∀{t:Addr} {zs:List V},SqT X.K H t zs->t≠z/\t≠TO:=fun hq=>⟨SqT.fpNe I hq (hf z (by simp)),SqT.fpNe I hq (hf TO (by simp))⟩
  refine zh7 D st p p' (apart hqa) (apart hqb) (by simpa using hu) (by simpa using hv) fun g k1 k2 k3 k4 k5 k6 k7=> ?_
  refine⟨_,rfl,wpAny_letOwnedTupleGo_zip k1 fun g2 l1 s2=> ?_⟩
  have hne0:s.heap.objs.size≠z:=Nat.ne_of_gt (Heap.lt_size hz)
  have keep:∀c o,c∉[z,TI,TO,i1,i2]->s.heap.get? c=some o->g2.get? c=some o:=fun c o hc e=>s2.extBut _ _ (fun q=>hc (by simp[q])) (k7 c o (fun q=>hc (by simp[q])) (fun q=>hc (by simp[q])) (fun q=>hc (by simp[q])) (fun q=>hc (by simp[q])) e)
  refine⟨.ref s.heap.objs.size,_,I.turnedT (h':=g2) (t':=s.toks) (xs:=[x,y]) hf keep (.cons ru (.cons rvv .nil)) ⟨_,s2.extBut _ _ hne0 k6,rfl,⟨_,rfl⟩,rfl,rfl⟩ (by show 2<=sizeLine;decide),rfl,
   ⟨_,x,y,I.hok.fresh (Nat.le_refl _),rfl,rfl,fun as bs ha hb=>⟨by rw[I.tuple_inj ha hqa];exact hx,by rw[I.tuple_inj hb hqb];exact hy⟩⟩,⟨l1,s2.extBut _ _ D.az k2,⟨_,_,s2.extBut _ _ D.bz k3⟩,k4.extBut s2.extBut D.cz,k5.extBut s2.extBut D.dz⟩,fun c hc=> ?_⟩
  have:c<s.heap.objs.size:=by
   obtain⟨o1,e1,_⟩:=hi1
   obtain⟨o2,e2,_⟩:=hi2
   simp only[List.mem_cons,List.not_mem_nil,or_false] at hc
   rcases hc with rfl|rfl|rfl|rfl|rfl
   ·exact Heap.lt_size hz
   ·exact Heap.lt_size hti
   ·exact Heap.lt_size hto
   ·exact Heap.lt_size e1
   ·exact Heap.lt_size e2
  rw[zan (Nat.ne_of_lt this)]
  exact (hf c hc).1
 done:=by
  intro X hP hw hK hc i pins s σ H E I hf st hg
  subst hP hw hK
  obtain⟨xs,ys,hqa,hqb,hx⟩:=hg
  obtain⟨its,rv,p,_⟩:=I.tuple hqa
  obtain⟨jts,rw',p',_⟩:=I.tuple hqb
  have D:=zgN st h1 h2
  have apart:∀{t:Addr} {zs:List V},SqT X.K H t zs->t≠z/\t≠TO:=fun hq=>⟨SqT.fpNe I hq (hf z (by simp)),SqT.fpNe I hq (hf TO (by simp))⟩
  refine zi7 (I.ok.hd hc) D st p p' (apart hqa) (apart hqb) (hx.elim (fun q=>.inl (by simpa using rv.none_of q)) fun q=>.inr (by simpa using rw'.none_of q)) fun g k=>⟨rfl, ?_⟩
  exact I.turnedN (t':=s.toks) hf fun c o hc e=>k c o (fun q=>hc (by simp[q])) (fun q=>hc (by simp[q])) (fun q=>hc (by simp[q])) (fun q=>hc (by simp[q])) e
 self:=fun _ _ _ _ _ st h=>wpAny_pyIter_zip st.z h
section
variable {X:Cx}
noncomputable def iZip (K:PySem.W.Frag)(ta:TA):TI:=fun σ H R=>ta σ H fun vs H1=>∃a b,vs=[.ref a,.ref b]/\(∃xs,SqT K H1 a xs)/\(∃ys,SqT K H1 b ys)/\R (Itz K a b) H1
theorem zj9 {els:List Expr}{kx}{tp:Pos}{l l':Expr}{ta:TA}{p pos:Pos}(hg:Gl X "zip")(hm:X.mg "zip" =none)(ha:PA X [l,l'] ta)(hs:starEach [l,l'] X.env=[(false,eval l X.env),(false,eval l' X.env)]:=by rfl)(hs2:starEach [l'] X.env=[(false,eval l' X.env)]:=by rfl):
  PI X (.Tuple els kx tp) (.Call (.Name "zip" p) [l,l'] [] pos) (iZip X.K ta):=by
 intro pins s σ H R I h
 refine Call_ (zdu I hg hm boot_zip (PyProof.Rows.callWith_type1 (thn (ha pos pins s σ H _ I h) fun us s1 zq=> ?_) (by rw[hs,hs2]) (by rw[hs2];rfl)))
 obtain⟨vs,H1,I1,r1,q1⟩:=zq
 obtain⟨a,b,rfl,⟨xs,hqa⟩,⟨ys,hqb⟩,q⟩:=q1
 obtain⟨u,v,rfl,ru,rv⟩:=zj2 r1
 cases (show u=Value.ref a from ru)
 cases (show v=Value.ref b from rv)
 obtain⟨its,_,p1,_⟩:=I1.tuple hqa
 obtain⟨jts,_,p2,_⟩:=I1.tuple hqb
 refine zh8 (show s1.heap.IsTuple a its.toArray from p1) (show s1.heap.IsTuple b jts.toArray from p2) fun h' S hk=>wpAny_pyIter_zip S.z ?_
 have I2:Inv X pins σ H1 {s1 with heap:=h'}:=I1.kept (t':=s1.toks) hk
 refine⟨_,_,_,_,H1,rfl,I2,zh9 a b _ _ _ _ _ (Nat.ne_of_lt (Nat.lt_succ_self _)) (Nat.ne_of_lt (Nat.lt_succ_self _)),S,fun c hc=> ?_,q⟩
 have:s1.heap.objs.size<=c:=by
  simp only[List.mem_cons,List.not_mem_nil,or_false] at hc
  rcases hc with rfl|rfl|rfl|rfl|rfl<;>first|exact Nat.le_refl _|exact Nat.le_add_right _ _|exact Nat.le_succ _|exact Nat.le_succ_of_le (Nat.le_add_right _ _)
 exact I1.fpOk this (I1.hok.fresh this)
end
theorem zey {α β:Type}{f g:α->Option β}:∀{l:List α},(∀x∈l,f x=g x)->l.filterMap f=l.filterMap g
 |[],_=>rfl
 |a::l,h=>by rw[List.filterMap_cons,List.filterMap_cons,h a List.mem_cons_self,zey fun x hx=>h x (List.mem_cons_of_mem _ hx)]
theorem zi9 (its:List Value):(List.range its.length).filterMap (fun (k:Nat)=>its.toArray[its.length-1-k]?)=its.reverse:=by
 apply List.ext_getElem?
 intro i
 have e:(List.range its.length).filterMap (fun (k:Nat)=>its.toArray[its.length-1-k]?)=(List.range its.length).map fun k=>its.getD (its.length-1-k) .none:=by
  rw[<-List.filterMap_eq_map]
  apply zey
  intro k hk
  have hk':=List.mem_range.mp hk
  have h1:its.length-1-k<its.length:=by (first|lia|omega)
  simp[h1]
 rw[e,List.getElem?_map]
 by_cases h:i<its.length
 ·rw [List.getElem?_range h,List.getElem?_reverse h]
  have h1:its.length-1-i<its.length:=by (first|lia|omega)
  simp[h1]
 ·rw [List.getElem?_eq_none (by simpa using h),List.getElem?_eq_none (by simpa using h)]
  rfl
section
variable {X:Cx}{e:Expr}{te:TE}{p2 pos:Pos}
noncomputable def RvR (X:Cx)(r:V->Hp->VK->Prop):Prop:=
 ∀(pins:List (Addr×Obj)) (s:Shared) (σ:St) (H:Hp) (x:V) (v vs:Value) (sl:Addr) (Q:VK),Inv X pins σ H s->RelV x v->s.heap.IsSliceOf sl .none .none vs->IsPart vs (some (-1))->r x H Q->
  ∃T id,typeLookup (.type T) "__getitem__" =pure (some (.builtin id))/\s.TypeIs v T/\wpAny (model X.prog X.w) X.A (getItem v (.ref sl)) (EP X pins σ Q) X.xe s
theorem zk2 {r:V->Hp->VK->Prop}{j:Nat}{p3 p4:Pos}(hr:RvR X r)(he:PE X e te):PE X (.Subscript e (.Slice none none (some (.UnaryOp .USub (.Constant (.int 1) j p3) p4)) p2) pos) (tUn r te):=by
 intro pins s σ H Q I h
 have hst:PO X (some (.UnaryOp .USub (.Constant (.int 1) j p3) p4)) (zkW (tUn (rU fun i=>.int (-i)) (tC (.int 1)))):=zcY (pe_un zel pe_int)
 refine Subscript_ (thn (he pins s σ H _ I h) fun v s1 zq=> ?_)
 obtain⟨x,H1,I1,r1,q1⟩:=zq
 refine wpAny_Slice (thn (zdB pins s1 σ H1 (fun o H'=>o=none/\r x H' Q) I1 ⟨rfl,q1⟩) fun vl s2 ⟨l,H2,I2,pl,el,q2⟩=>thn (zdB pins s2 σ H2 (fun o H'=>o=none/\r x H' Q) I2 ⟨rfl,q2⟩) fun vu s3 ⟨u,H3,I3,pu,eu,q3⟩=> ?_)
 subst el eu
 refine thn (hst pins s3 σ H3 (fun o H'=>o=some (-1)/\r x H' Q) I3 ⟨1,rfl,-1,rfl,rfl,q3⟩) fun vs s4 zq=> ?_
 obtain⟨o,H4,I4,ps,eo,q4⟩:=zq
 subst eo
 cases pl
 cases pu
 have I5:Inv X pins σ H4 {s4 with heap:=s4.heap.push {cls:=.type "slice",data:=.fields #[.none,.none,vs]}}:=I4.kept (t':=s4.toks) fun b ob q=>Heap.get?_push_of_some _ q
 obtain⟨T,id,hT,ht,hg⟩:=hr pins {s4 with heap:=s4.heap.push {cls:=.type "slice",data:=.fields #[.none,.none,vs]}} σ H4 x v vs s4.heap.objs.size Q I5 r1 (Heap.IsSliceOf.new ..) ps q4
 show wpAny (model X.prog X.w) X.A (subscriptTail e (.Slice none none (some (.UnaryOp .USub (.Constant (.int 1) j p3) p4)) p2) v (.ref s4.heap.objs.size)) (EP X pins σ Q) X.xe {s4 with heap:=s4.heap.push {cls:=.type "slice",data:=.fields #[.none,.none,vs]}}
 exact tail_any (ops:=[v,.ref s4.heap.objs.size]) ht hT hg (by with_unfolding_all rfl)
theorem zc0 {prog:Program}{w:World}{A:Around}{E:Value->Shared->Prop}{s:Shared}{t sl:Addr}{its:List Value}{vs:Value}{Q:Value->Shared->Prop}(ht:IsTup s.heap t its.toArray)(hs:s.heap.IsSliceOf sl .none .none vs)(ps:IsPart vs (some (-1)))
  (h:Q (.ref s.heap.objs.size) {s with heap:=s.heap.push {cls:=.type "tuple",data:=.seq its.reverse.toArray}}) (hsz:its.length<=sizeLine):wpAny (model prog w) A (getItem (.ref t) (.ref sl)) Q E s:=by
 have htake:sizeOk (.seq its.reverse.toArray):=by
  show its.reverse.toArray.size<=sizeLine
  rw[List.size_toArray,List.length_reverse];exact hsz
 obtain⟨os,hos,hcs,hds⟩:=id hs
 have hTs:s.TypeIs (.ref sl) "slice" :=⟨os,hos,hcs⟩
 unfold getItem
 try with_reducible refine wpAny_holding ?_
 first|refine wpAny_bind (wpAny_pure ?_)|skip
 refine wpAny_bind (wpAny_sequenceKey ht.typeIs (by decide) ?_)
 refine wpAny_bind (wpAny_callSpecial?_slot (name:=Str.ofString "__getitem__") ht.typeIs PyProof.Rows.slot_tuple_getitem
  (wpAny_call_entry PyProof.Rows.slot_tuple_getitem ht.typeIs entry_tuple_getitem ?_ (args_tuple_getitem _ _)))
 show wpAny _ _ (Builtin.Tuple.tupleItemsOf (.ref t) >>= _) _ _ s
 refine wpAny_bind (tupleItemsOf_ ht ?_)
 refine wpAny_bind (wpAny_typeOf hTs ?_)
 rw[if_pos (by decide)]
 have hap:∀{Q':Int×Int×Nat->Shared->Prop},Q' ((its.length:Int)-1,-1,its.length) s->wpAny (model prog w) A.in1 (Builtin.Slice.sliceApplied (.ref sl) (pure ((its.toArray.size:Nat):Int))) Q' E s:=fun {Q'} q=>by
  unfold Builtin.Slice.sliceApplied Builtin.Slice.sliceFields
  refine wpAny_bind (wpAny_bind (wpAny_field hos hds (x:=.none) rfl (wpAny_bind (wpAny_field hos hds (x:=.none) rfl (wpAny_bind (wpAny_field hos hds (x:=vs) rfl (wpAny_pure ?_)))))))
  refine wpAny_bind (HT.slicePart_ ps ?_)
  show wpAny _ _ (if ((-1:Int)==0)=true then _ else _) _ _ s
  rw[if_neg (by decide)]
  refine wpAny_bind (slicePart_none (wpAny_bind (slicePart_none (wpAny_bind (wpAny_pure ?_)))))
  have e1:Builtin.Slice.sliceAdjust none none (-1) ((its.toArray.size:Nat):Int)=((its.length:Int)-1,-1):=by
   unfold Builtin.Slice.sliceAdjust;simp
  have e2:Builtin.Slice.slicePlaces ((its.length:Int)-1) (-1) (-1)=its.length:=by
   unfold Builtin.Slice.slicePlaces
   rw[if_neg (by decide)]
   by_cases h:(its.length:Int)-1>-1
   ·rw[if_pos h,show (- -1:Int)=1 by decide,Int.ediv_one];(first|lia|omega)
   ·rw[if_neg h];(first|lia|omega)
  show wpAny _ _ (match Builtin.Slice.sliceAdjust none none (-1) ((its.toArray.size:Nat):Int) with|(lo,hi)=>pure (lo,(-1:Int),Builtin.Slice.slicePlaces lo hi (-1))) _ _ s
  rw[e1]
  show wpAny _ _ (pure ((its.length:Int)-1,(-1:Int),Builtin.Slice.slicePlaces ((its.length:Int)-1) (-1) (-1))) _ _ s
  rw[e2]
  exact wpAny_pure q
 refine wpAny_bind (hap ?_)
 show wpAny _ _ (if ((its.length:Int)-1==0&&(-1:Int)==1&&its.length==its.toArray.size)=true then _ else _) _ _ s
 rw[if_neg (by simp)]
 have e3:(List.filterMap (fun (k:Nat)=>its.toArray[((its.length:Int)-1+(k:Int)*-1).toNat]?) (List.range its.length))=its.reverse:=by
  rw[<-zi9 its]
  apply zey
  intro k hk
  have:=List.mem_range.mp hk
  have e:((its.length:Int)-1+(k:Int)*-1).toNat=its.length-1-k:=by (first|lia|omega)
  rw[e]
 rw[e3]
 first
  |exact wpAny_bind (m:=Builtin.Tuple.tupleExact _) (wpAny_newObj_type (wpAny_pure ⟨_,rfl,wpAny_pure h⟩) htake)
  |exact wpAny_bind (m:=Builtin.Tuple.tupleExact _) (wpAny_newObj_type (wpAny_bind (wpAny_pure (wpAny_pure ⟨_,rfl,wpAny_pure h⟩))) htake)
  |exact wpAny_bind (wpAny_bind (m:=Builtin.Tuple.tupleExact _) (wpAny_newObj_type (wpAny_pure (wpAny_pure ⟨_,rfl,wpAny_pure h⟩)) htake))
  |exact wpAny_bind (wpAny_bind (m:=Builtin.Tuple.tupleExact _) (wpAny_newObj_type (wpAny_pure ⟨_,rfl,wpAny_pure h⟩) htake))
noncomputable def rRvT (K:PySem.W.Frag):V->Hp->VK->Prop:=fun x H Q=>∃a xs,x=.ref a/\SqT K H a xs/\∀p,H p=none->Q (.ref p) (upd H p (.tup xs.reverse))
theorem zk3:RvR X (rRvT X.K):=by
 intro pins s σ H x v vs sl Q I rx hs ps h
 obtain⟨a,xs,rfl,hx,q⟩:=h
 cases rx
 obtain⟨its,r,ht,hz⟩:=I.tuple hx
 have hlen:=r.length
 refine⟨"tuple",_,PyProof.Rows.slot_tuple_getitem.lookup,ht.typeIs, ?_⟩
 refine zc0 ht hs ps ?_ (by (first|lia|omega))
 refine⟨.ref s.heap.objs.size,_,I.laid (t':=s.toks) (o:=.tup xs.reverse) (fun b ob q=>Heap.get?_push_of_some _ q) (Nat.le_refl _) ?_,rfl,q _ (I.hok.fresh (Nat.le_refl _))⟩
 exact⟨by rw[List.length_reverse];exact hz,_,r.reverse,PTup.new⟩
end
section
variable {X:Cx}
noncomputable def zka:List V->Hp->VK->Prop:=fun xs H Q=>∃j:Int,xs=[.int j]/\∀p,H p=none->Q (.ref p) (upd H p (.rng 0 j))
theorem zbJ:zcn X (.type "range") zka:=by
 intro pins s σ H xs us Q I rs h
 obtain⟨j,rfl,q⟩:=h
 obtain⟨u,rfl,t,rfl⟩:=zcH rs
 refine call_range_1 ⟨.ref s.heap.objs.size,_,I.laid (o:=.rng 0 j) (fun b ob q=>Heap.get?_push_of_some _ q) (Nat.le_refl _) ?_,rfl,q _ (I.hok.fresh (Nat.le_refl _))⟩
 exact⟨_,_,_,Heap.get?_push_size _ rfl⟩
noncomputable def zja:List V->Hp->VK->Prop:=fun xs H Q=>∃(a:Addr) (j:Int),xs=[.ref a]/\H a=some (.rng 0 j)/\0<=j/\j<=1000/\∀p,H p=none->Q (.ref p) (upd H p (.lst (zaP 0 j.toNat)))
theorem zbK (hc:X.calm=true):zcn X (.type "list") zja:=by
 intro pins s σ H xs us Q I rs h
 obtain⟨a,j,rfl,ha,h0,h1,q⟩:=h
 obtain⟨u,rfl,ru⟩:=zcH rs
 cases (show u=Value.ref a from ru)
 obtain⟨t,u,v,ho⟩:=(show ObjOk X.prog X.w H s.heap a (.rng 0 j) from I.hok a _ ha)
 have hh:X.A.handled=none:=I.ok.hd hc
 have hsz:Builtin.Range.rangeSize 0 j 1=((j.toNat:Nat):Int):=by rw[rangeSize_one];split<;>(first|lia|omega)
 refine call_list_range hh ho (small_one (by (first|lia|omega)) (by (first|lia|omega)) (by (first|lia|omega)) (by (first|lia|omega))) hsz (by (first|lia|omega)) fun h' tk acc c hk hS hi=> ?_
 obtain⟨i1,i2⟩:=hi
 refine⟨.ref s.heap.objs.size,_,I.laid (t':=tk) (o:=.lst (zaP 0 j.toNat)) hk (Nat.le_refl _) ?_,rfl,q _ (I.hok.fresh (Nat.le_refl _))⟩
 refine⟨by rw[zaH];exact Nat.le_trans (by (first|lia|omega):j.toNat<=1000) (by decide),acc.toList,c, ?_,by simpa using hS⟩
 have key:∀(n:Nat) (l:List Value) (k:Int),l.length=n->(∀(i:Nat) v,l[i]? =some v->∃t,v=Value.int (k+(i:Int)) t)->Vals ((List.range n).map fun (i:Nat)=>V.int (k+(i:Int))) l:=by
  intro n
  induction n with
  |zero=>intro l k hl _;cases l with
   |nil=>exact .nil
   |cons _ _=>cases hl
  | succ n ih=>
   intro l k hl hv
   cases l with
   |nil=>cases hl
   | cons x r=>
    rw[List.range_succ_eq_map,List.map_cons,List.map_map]
    refine .cons ?_ ?_
    ·obtain ⟨t,e⟩:=hv 0 x rfl
     exact⟨t,e⟩
    ·have:=ih r (k+1) (by simpa using hl) (fun i v e=>by
      obtain⟨t,e'⟩:=hv (i+1) v (by simpa using e)
      exact⟨t,by rw[e'];congr 1;push_cast;(first|lia|omega)⟩)
     have e:((fun (i:Nat)=>V.int (k+(i:Int)))∘Nat.succ)=fun (i:Nat)=>V.int (k+1+(i:Int)):=by
      funext i
      show V.int (k+((i+1:Nat):Int))=_
      congr 1;push_cast;(first|lia|omega)
     rw[e]
     exact this
 refine key _ _ 0 (by simpa using i1) fun i v e=> ?_
 obtain⟨t,e'⟩:=i2 i v (by simpa using e)
 exact⟨t,by rw[e'];congr 1;(first|lia|omega)⟩
end
theorem zd8 (f:Nat->Bool):∀(bs:List Bool),(∀i,i<bs.length->f i=bs.getD i false)->(List.range bs.length).all f=bs.all id:=by
 intro bs h
 rw[Bool.eq_iff_iff,List.all_eq_true,List.all_eq_true]
 constructor
 ·intro q b hb
  obtain⟨i,hi,e⟩:=List.getElem_of_mem hb
  have:=q i (List.mem_range.mpr hi)
  rw[h i hi,List.getD_eq_getElem?_getD,List.getElem?_eq_getElem hi,e] at this
  exact this
 ·intro q i hi
  have hi':=List.mem_range.mp hi
  rw[h i hi',List.getD_eq_getElem?_getD,List.getElem?_eq_getElem hi']
  exact q _ (List.getElem_mem hi')
section
variable {X:Cx}
noncomputable def rAll:List V->Hp->VK->Prop:=fun xs H Q=>∃(a:Addr) (bs:List Bool),xs=[.ref a]/\H a=some (.lst (bs.map V.bl))/\Q (.bl (bs.all id)) H
theorem zjb (hc:X.calm=true):zcn X (.builtin "all") rAll:=by
 intro pins s σ H xs us Q I rs h
 obtain⟨a,bs,rfl,ha,q⟩:=h
 obtain⟨u,rfl,ru⟩:=zcH rs
 cases (show u=Value.ref a from ru)
 obtain⟨hz,its,n,rv,ho⟩:=(show ObjOk X.prog X.w H s.heap a (.lst (bs.map V.bl)) from I.hok a _ ha)
 have hl:s.heap.IsList a its.toArray:=⟨_,ho,rfl,n,rfl⟩
 have hh:X.A.in1.handled=none:=I.ok.hd hc
 have hlen:its.length=bs.length:=by rw[<-rv.length,List.length_map]
 have hne:a≠s.heap.objs.size:=Nat.ne_of_lt (Heap.lt_size ho)
 have hit:∀(i:Nat) v,its.toArray[i]? =some v->v=Value.bool (bs.getD i false):=fun i v e=>by
  have e':its[i]? =some v:=by simpa using e
  have hi:i<bs.length:=by rw[<-hlen];exact (List.getElem?_eq_some_iff.mp e').1
  obtain⟨u,hu,ru⟩:=rv.get (i:=i) (x:=V.bl bs[i]) (by rw[List.getElem?_map,List.getElem?_eq_getElem hi];rfl)
  rw[e'] at hu;cases hu
  cases (show v=Value.bool bs[i] from ru)
  rw[List.getD_eq_getElem?_getD,List.getElem?_eq_getElem hi]
  rfl
 refine call_all_walk (wpAny_pyIter_list hl ⟨s.heap.objs.size,_,_,_,_,_,fun i=>bs.getD i false,rfl,Walks.list hh _ a hne its.toArray,⟨⟨_,Heap.get?_push_size _ rfl,rfl,rfl⟩,hl.push _⟩, ?_,fun h' tk hk=> ?_⟩)
 ·intro i v s' Q' E' hP hQ
  rw[hit i v hP]
  exact wpAny_truthy_bool hQ
 ·refine ⟨.bl (bs.all id),H,I.kept (t':=tk) fun b o e=>hk b o ?_ (Heap.get?_push_of_some _ e), ?_,q⟩
  ·exact fun hm=>absurd (List.mem_singleton.mp hm) (Nat.ne_of_lt (Heap.lt_size e))
  ·show Value.bool _=Value.bool _
   have hs:its.toArray.size=bs.length:=by simpa using hlen
   rw[hs,zd8 _ bs fun i _=>rfl]
noncomputable def zkb:V->List V->Hp->VK->Prop:=fun x vs H Q=>∃l xs i y,x=.ref l/\vs=[.int i,y]/\H l=some (.lst xs)/\0<=i/\i<=xs.length/\xs.length<sizeLine/\Q .non (upd H l (.lst (xs.take i.toNat++y::xs.drop i.toNat)))
theorem zia:MtM X "list.insert" zkb:=by
 intro pins s σ H x vs v us Q I rx rv h
 obtain⟨l,xs,i,y,rfl,rfl,hH,h0,h1,hz,q⟩:=h
 cases rx
 obtain⟨ui,uy,rfl,ri,ry⟩:=rv.two
 obtain⟨ti,rfl⟩:=ri
 obtain⟨z,its,n,r,hl,e⟩:=I.lstM hH
 have hfit:¬(!Builtin.List.listFitsIndex i)=true:=by
  have hb:(i:Int)<2^63:=Int.lt_of_le_of_lt h1 (by have:=zfg;(first|lia|omega))
  simp[Builtin.List.listFitsIndex]
  (first|lia|omega)
 refine call_meets F.slot_list_insert ⟨_,e,rfl⟩ F.entry_list_insert (F.args_list_insert_3 _ _ _) (AutoSeq1.list_insert_list_int_val_1 l its.toArray n i ti uy hfit (by rw[List.size_toArray];(first|lia|omega))) ⟨e, ?_⟩
 refine⟨.non,_,I.lset (its':=its.take i.toNat++uy::its.drop i.toNat) hH e ?_ ((r.take _).append (.cons ry (r.drop _))) ?_,rfl,q⟩
 ·have hle:i.toNat<=its.length:=by (first|lia|omega)
  simp only[List.size_toArray]
  rw[if_neg (by (first|lia|omega)),Nat.min_eq_left hle]
  apply Array.ext'
  simp
  rw[List.take_of_length_le (by simp)]
 ·rw [List.length_append,List.length_cons,List.length_take,List.length_drop]
  (first|lia|omega)
end
mutual
inductive Is (H:Hp):V->PyData->Prop
 |non:Is H .non .none
 |bl (b:Bool):Is H (.bl b) (.bool b)
 |int (i:Int):Is H (.int i) (.int i)
 |str (x:Str):Is H (.str x) (.str x)
 |tup {a:Addr} {vs:List V} {ds:List PyData}:H a=some (.tup vs)->IsAll H vs ds->Is H (.ref a) (.tuple ds)
 |lst {a:Addr} {vs:List V} {ds:List PyData}:H a=some (.lst vs)->IsAll H vs ds->Is H (.ref a) (.list ds)
inductive IsAll (H:Hp):List V->List PyData->Prop
 |nil:IsAll H [] []
 |cons {v:V} {vs:List V} {d:PyData} {ds:List PyData}:Is H v d->IsAll H vs ds->IsAll H (v::vs) (d::ds)
end
theorem IsAll.ints {H:Hp}:∀ns:List Int,IsAll H (ns.map V.int) (ns.map PyData.int)
 |[]=>.nil
 |n::r=>.cons (.int n) (IsAll.ints r)
theorem Is.ints {H:Hp}{a:Addr}{ns:List Int}(h:H a=some (.tup (ns.map V.int))):Is H (.ref a) (.tuple (ns.map PyData.int)):=.tup h (IsAll.ints ns)
section
variable {X:Cx}{pins:List (Addr×Obj)}{σ:St}{H:Hp}{s:Shared}
mutual
theorem Inv.reads (I:Inv X pins σ H s):∀{v:V} {d:PyData} {u:Value},Is H v d->RelV v u->∃as,Reads s.heap u d as
 |_,_,_,.non,r=>by cases (show _=Value.none from r);exact⟨_,.none⟩
 |_,_,_,.bl b,r=>by cases (show _=Value.bool b from r);exact⟨_,.bool b⟩
 |_,_,_,.int i,r=>by obtain⟨t,rfl⟩:=r;exact⟨_,.int i t⟩
 |_,_,_,.str x,r=>by obtain⟨t,rfl⟩:=r;exact⟨_,.str x t⟩
 |_,_,_,.tup (a:=a) (vs:=vs) h al,r=>by
  cases (show _=Value.ref a from r)
  obtain⟨_,its,rv,o,ho,hc,⟨n,hd⟩,_⟩:=(show ObjOk X.prog X.w H s.heap a (.tup vs) from I.hok a _ h)
  obtain⟨as,q⟩:=Inv.readsAll I al rv
  exact⟨as,.tuple ho hc hd (by simpa using q)⟩
 |_,_,_,.lst (a:=a) (vs:=vs) h al,r=>by
  cases (show _=Value.ref a from r)
  obtain⟨_,its,n,rv,ho⟩:=(show ObjOk X.prog X.w H s.heap a (.lst vs) from I.hok a _ h)
  obtain⟨as,q⟩:=Inv.readsAll I al rv
  exact⟨_,.list ho rfl rfl (by simpa using q)⟩
theorem Inv.readsAll (I:Inv X pins σ H s):∀{vs:List V} {ds:List PyData} {us:List Value},IsAll H vs ds->Vals vs us->∃as,ReadsAll s.heap us ds as
 |_,_,_,.nil,.nil=>⟨_,.nil⟩
 |_,_,_,.cons h al,.cons r rs=>by
  obtain⟨as,q⟩:=Inv.reads I h r
  obtain⟨bs,q'⟩:=Inv.readsAll I al rs
  exact⟨_,.cons q q'⟩
end
noncomputable def rEqD:R2:=fun x y H Q=>∃d e,Is H x d/\Is H y e/\SeqAt.shaped d=true/\SeqAt.shaped e=true/\Q (.bl (PyData.eqv d e)) H
noncomputable def rNeD:R2:=fun x y H Q=>∃d e,Is H x d/\Is H y e/\SeqAt.shaped d=true/\SeqAt.shaped e=true/\Q (.bl (!PyData.eqv d e)) H
theorem zgO (hu:X.A.units+64<cLine):OpR X (compareOp .Eq) rEqD:=by
 intro pins s σ H x y v u Q I rx ry h
 obtain⟨d,e,hd,he,sd,se,q⟩:=h
 obtain⟨as,ra⟩:=I.reads hd rx
 obtain⟨bs,rb⟩:=I.reads he ry
 exact eq_dataH ra rb sd se hu ⟨.bl _,H,I,rfl,q⟩
theorem zk4 (hu:X.A.units+64<cLine):OpR X (compareOp .NotEq) rNeD:=by
 intro pins s σ H x y v u Q I rx ry h
 obtain⟨d,e,hd,he,sd,se,q⟩:=h
 obtain⟨as,ra⟩:=I.reads hd rx
 obtain⟨bs,rb⟩:=I.reads he ry
 exact ne_dataH ra rb sd se hu ⟨.bl _,H,I,rfl,q⟩
end
theorem zgP:∀ns:List Int,PyData.canLayAll0 (ns.map PyData.int)=true
 |[]=>rfl
 |_::r=>by simp[PyData.canLayAll0,PyData.canLay0,zgP r]
theorem zfq:∀ns:List Int,PyData.depthAll (ns.map PyData.int)=0
 |[]=>rfl
 |_::r=>by simp[PyData.depthAll,PyData.depth,zfq r]
theorem zaT (ns:List Int):SeqAt.shaped (.tuple (ns.map PyData.int))=true:=by
 simp[SeqAt.shaped,PyData.canLay0,PyData.depth,zgP,zfq]
theorem zgQ:∀ns ms:List Int,PyData.eqvAll (ns.map PyData.int) (ms.map PyData.int)=decide (ns=ms)
 |[],[]=>by simp[PyData.eqvAll]
 |[],_::_=>by simp[PyData.eqvAll]
 |_::_,[]=>by simp[PyData.eqvAll]
 |a::r,b::t=>by
  simp only[List.map_cons,PyData.eqvAll,PyData.eqv,zgQ r t]
  by_cases h:a=b<;>by_cases h':r=t<;>simp[h,h']
noncomputable def zib (sc:Scope)(N:List Str)(scope:Scope)(N':List Str)(n:Nat)(ix:List Nat):Bool:=
 scope.kind==.function&&scope.names.all (fun y=>y.2 != .cell)&&scope.names.all (fun y=>y.2 != .local||scope.names.lookup y.1==some .local)&&
 scope.names.all (fun y=>y.2 != .free||(sc.names.lookup y.1==some .cell||sc.names.lookup y.1==some .free))&&scope.names.all (fun y=>y.2 != .free||scope.names.lookup y.1 != some .local)&&
 N'.length==n+ix.length&&(List.range ix.length).all fun j=>match ix[j]?,N'[n+j]? with
  |some i,some x=>N[i]? ==some x&&scope.names.contains (x,.free)
  |_,_=>false
theorem CompScope.of {X:Cx}{sc:Scope}{N:List Str}{scope:Scope}{N':List Str}{n:Nat}{ix:List Nat}(h:zib sc N scope N' n ix=true)(hs:X.env.scope=sc)(hN:X.N=N):CompScope X scope N' n ix:=by
 unfold zib at h
 simp only[Bool.and_eq_true,List.all_eq_true] at h
 obtain⟨⟨⟨⟨⟨⟨h1,h2⟩,h3⟩,h4⟩,h5⟩,h6⟩,h7⟩:=h
 subst hs hN
 refine⟨eq_of_beq h1,fun y hy=>by simpa using h2 y hy,fun y hy hl=> ?_,fun y hy hf=> ?_,fun y hy hl=> ?_,eq_of_beq h6,fun j i e=> ?_⟩
 ·have:=h3 y hy
  rw[hl] at this
  simpa using this
 ·have:=h4 y hy
  rw[hf] at this
  simpa using this
 ·have:=h5 _ hy
  rw[hl] at this
  simp at this
 ·have hj:j<ix.length:=(List.getElem?_eq_some_iff.mp e).1
  have:=h7 j (List.mem_range.mpr hj)
  rw[e] at this
  cases hx:N'[n+j]? with
  |none=>rw[hx] at this;simp at this
  |some x=>
   rw[hx] at this
   simp only[Bool.and_eq_true] at this
   exact⟨x,rfl,eq_of_beq this.1,by simpa using this.2⟩
structure Cal (P:Program) (w:World) (K:PySem.W.Frag) (mg:Str->Option Value) (base:Heap) (k:Nat) (x:Str) (ps:List Str) (sp:Sp):Prop where
 ex:∃f fd,FnOk P w K mg base CX0 k f fd ps sp/\mg x=some (.ref f)/\PySem.W.keepIn K (.ref f)=true/\Binds K fd ps []
section
variable {X:Cx}{k:Nat}{ps:List Str}{sp:Sp}{x:Str}{p pos:Pos}{e:Expr}{es:List Expr}{t:TA}
theorem pe_cal (C:Cal X.prog X.w X.K X.mg X.base k x ps sp)(hr:Room k X.A)(hg:Gl X x)(ha:PA X (e::es) t)(hdb:(x==("__debug__" :Str))=false:=by decide)(he:starEach (e::es) X.env=(false,eval e X.env)::starEach es X.env:=by rfl)
  (hpl:(backTo pos (starEach es X.env)).any (·.1)=false:=by rfl):PE X (.Call (.Name x p) (e::es) [] pos) (fun σ H Q=>t σ H fun vs H1=>sp vs H1 Q E0):=by
 obtain⟨f,fd,F,hm,hk,hb⟩:=C.ex
 exact (zj3 F hr hg hm hk hb .nil zkZ ha hdb he hpl).mono fun σ H Q q=>by
  have e:(fun (vs:List V) (H1:Hp)=>sp (vs++[]) H1 Q E0)=fun vs H1=>sp vs H1 Q E0:=by funext vs H1;rw[List.append_nil]
  show t σ H fun vs H1=>sp (vs++[]) H1 Q E0
  rw[e]
  exact q
end
structure Top (mg:Str->Option Value):Prop where
 n_len:mg "len" =none
 n_tuple:mg "tuple" =none
 n_list:mg "list" =none
 n_range:mg "range" =none
 n_int:mg "int" =none
 n_bool:mg "bool" =none
 n_isinstance:mg "isinstance" =none
 n_all:mg "all" =none
 n_zip:mg "zip" =none
 n_enumerate:mg "enumerate" =none
 n_min:mg "min" =none
 n_sum:mg "sum" =none
 n_max:mg "max" =none
 n_abs:mg "abs" =none
 n_sorted:mg "sorted" =none
section
variable {X:Cx}
end
theorem za9 {n:Nat}(h:n<=1000):n<sizeLine:=Nat.lt_of_le_of_lt h (by decide)
theorem zal (ns:List Int):(ns.map V.int).length=ns.length:=List.length_map ..
theorem zfZ {f:V->V}{g:Int->Int}(h:∀n,f (.int n)=.int (g n))(ns:List Int):(ns.map V.int).map f=(ns.map g).map V.int:=by
 rw[List.map_map,List.map_map]
 apply List.map_congr_left
 intro n _
 exact h n
theorem zdF {α:Type}(l:List α):l.filter (fun _=>true)=l:=by simp
noncomputable def Keep (p q:Addr)(H H':Hp):Prop:=∀b o,H b=some o->b≠p->b≠q->H' b=some o
theorem Keep.trans {p q:Addr}{H H1 H2:Hp}(a:Keep p q H H1)(b:Keep p q H1 H2):Keep p q H H2:=fun c o h h1 h2=>b c o (a c o h h1 h2) h1 h2
theorem Same.keep {p q:Addr}{H H':Hp}(s:Same H H'):Keep p q H H':=fun b o h _ _=>s b o h
noncomputable def num0 (n:Nat):List Int:=(List.range n).map fun (i:Nat)=>(i:Int)
theorem zaw (n:Nat):zaP 0 n=(num0 n).map V.int:=by
 unfold zaP num0
 rw[List.map_map]
 apply List.map_congr_left
 intro i _
 show V.int (0+(i:Int))=V.int (i:Int)
 rw[Int.zero_add]
theorem zaX {n:Nat}{x:Int}(h:x∈num0 n):0<=x/\x<n:=by
 unfold num0 at h
 obtain⟨i,hi,rfl⟩:=List.mem_map.mp h
 have:=List.mem_range.mp hi
 (first|lia|omega)
theorem zhp {row ys:List Int}{m:Nat}(hr:row.Perm (num0 m))(hl:ys.length=m)(h:∀(k:Nat) (a:Int),row[k]? =some a->∀b,row[(k+1)%m]? =some b->ys[a.toNat]? =some b):ys.Perm (num0 m):=by
 have hrl:row.length=m:=by rw[hr.length_eq];simp[num0]
 have e1:ys=(num0 m).map fun a=>ys.getD a.toNat 0:=by
  apply List.ext_getElem?
  intro i
  unfold num0
  rw[List.map_map,List.getElem?_map]
  by_cases hi:i<m
  ·rw [List.getElem?_range hi,List.getElem?_eq_getElem (by (first|lia|omega))]
   simp[hl,hi]
  ·rw [List.getElem?_eq_none (by (first|lia|omega)),List.getElem?_eq_none (by simpa using hi)]
   rfl
 have e2:(row.map fun a=>ys.getD a.toNat 0)=row.drop 1++row.take 1:=by
  apply List.ext_getElem?
  intro i
  rw[List.getElem?_map]
  by_cases hi:i<m
  ·rw [List.getElem?_eq_getElem (by (first|lia|omega):i<row.length)]
   have hn:(i+1)%m<row.length:=by rw[hrl];exact Nat.mod_lt _ (by (first|lia|omega))
   have:=h i row[i] (List.getElem?_eq_getElem (by (first|lia|omega))) _ (List.getElem?_eq_getElem hn)
   show some (ys.getD _ 0)=_
   rw[List.getD_eq_getElem?_getD,this]
   by_cases hlast:i+1=m
   ·have e:(i+1)%m=0:=by rw[hlast,Nat.mod_self]
    rw[List.getElem?_append_right (by simp;(first|lia|omega))]
    simp only[e]
    rw[List.getElem?_take]
    simp[hrl,(by (first|lia|omega):i-(m-1)=0)]
   ·have e:(i+1)%m=i+1:=Nat.mod_eq_of_lt (by (first|lia|omega))
    rw[List.getElem?_append_left (by simp;(first|lia|omega)),List.getElem?_drop]
    simp only[e]
    rw[Nat.add_comm 1 i,List.getElem?_eq_getElem (by (first|lia|omega):i+1<row.length)]
    rfl
  ·rw [List.getElem?_eq_none (by (first|lia|omega)),List.getElem?_eq_none (by simp;(first|lia|omega))]
   rfl
 have e3:(row.map fun a=>ys.getD a.toNat 0).Perm row:=by
  rw[e2]
  refine List.perm_append_comm.trans ?_
  rw[List.take_append_drop]
 rw[e1]
 exact ((hr.map _).symm.trans e3).trans hr
theorem zic {X:Cx}{i j:Nat}{x y:Str}{px py pt:Pos}{kt:Nat}(hc:X.calm=true)(hN:X.N.Nodup)(hi:X.N[i]? =some x)(hj:X.N[j]? =some y)(hx:Loc X.env.scope x)(hy:Loc X.env.scope y)(fx:X.fn x=true∨X.env.scope.names.lookup x=some .local)(fy:X.fn y=true∨X.env.scope.names.lookup y=some .local):
  PG X (.Tuple [.Name x px,.Name y py] kt pt) (gTup X.K 2 (zdw (zbi i) (zdw (zbi j) gNil))):=zhQ hc (zch (zaq hN hi hx fx) (zch (zaq hN hj hy fy) zfT))
theorem zez {X:Cx}(K:PySem.W.Frag){i j:Nat}{x y:Str}{px py pt:Pos}{kt:Nat}(hK:X.K=K)(hc:X.calm=true)(hN:X.N.Nodup)(hi:X.N[i]? =some x)(hj:X.N[j]? =some y)(hx:Loc X.env.scope x)(hy:Loc X.env.scope y)(fx:X.fn x=true∨X.env.scope.names.lookup x=some .local)(fy:X.fn y=true∨X.env.scope.names.lookup y=some .local):
  PG X (.Tuple [.Name x px,.Name y py] kt pt) (gTup K 2 (zdw (zbi i) (zdw (zbi j) gNil))):=hK▸zhQ hc (zch (zaq hN hi hx fx) (zch (zaq hN hj hy fy) zfT))
theorem zeA {X:Cx}(K:PySem.W.Frag)(hK:X.K=K):IxR X (rIxT K):=hK▸zai
theorem zaJ {ys:List Int}{i:Int}(h0:0<=i)(h1:i<ys.length):atI (ys.map V.int) i=some (.int (ys.getD i.toNat 0)):=by
 have hlt:i.toNat<ys.length:=by (first|lia|omega)
 have e:((i.toNat:Nat):Int)=i:=by (first|lia|omega)
 have:=zah (xs:=ys.map V.int) (j:=i.toNat) (v:=.int (ys.getD i.toNat 0)) (by rw[List.getElem?_map,List.getD_eq_getElem?_getD,List.getElem?_eq_getElem hlt];rfl)
 rwa [e] at this
theorem za5 {n:Nat}{x:V}(h:x∈zaP 0 n):∃k:Int,x=.int k/\0<=k/\k<n:=by
 rw[zaw] at h
 obtain⟨k,hk,rfl⟩:=List.mem_map.mp h
 exact⟨k,rfl,zaX hk⟩
theorem zid {n:Nat}{te:TE}{ix:List Nat}{σ:L2.St}{H1:Hp}{Q:VK}(g:Int->Int)(small:n<=1000)(he:∀k:Int,0<=k->k<n->∀H,Same H1 H->∀Q':VK,Q' (.int (g k)) H->te (some (.int k)::ix.map fun i=>σ.getD i none) H Q')
  (fin:∀acc,H1 acc=none->Q (.ref acc) (upd H1 acc (.lst (((num0 n).map g).map V.int)))):LcW (Itr 0 n) H1 (zbi 0) zbm te 1 ix σ Q:=by
 refine zfX (zaK (lo:=0) (n:=n)) (za9 (by rw[zaH];exact small)) (fun _=>true) (fun v=>match v with| .int k=>.int (g k)|v=>v) (fun _ _=>trivial) (fun _ _ _ _ _ q=>q) (fun x hx _ H' s' Q' q=> ?_) fun acc hacc=> ?_
 ·obtain ⟨k,rfl,h0,h1⟩:=za5 hx
  exact he k h0 h1 H' s' Q' q
 ·rw [zdF,zaw,zfZ (g:=g) fun n=>rfl]
  exact fin acc hacc
structure Def (K:PySem.W.Frag) (x:Str) (st:Stmt):Prop where
 ex:∃(f:Addr) (oc:Value) (od an:Option Addr) (kV doc pm cdv ct:Value) (osl:Array (Option Value)),PySem.W.nsIn K mainGlobals x=some (some (.ref f))/\
  K.lookup f=some ⟨oc,od,.func (PySem.W.fnOf x x (zbl st) (zbd st) (zab st) .none kV doc pm an cdv ct),osl⟩/\PySem.W.codeIn K cdv x=true/\PySem.W.keepIn K (.ref f)=true
section
variable {K:PySem.W.Frag}{h:Heap}{mg:Str->Option Value}{x:Str}{st:Stmt}
theorem Def.of {f:Addr}{oc:Value}{od an:Option Addr}{kV doc pm cdv ct:Value}{osl:Array (Option Value)}(a:PySem.W.nsIn K mainGlobals x=some (some (.ref f)))
  (l:K.lookup f=some ⟨oc,od,.func (PySem.W.fnOf x x (zbl st) (zbd st) (zab st) .none kV doc pm an cdv ct),osl⟩) (c:PySem.W.codeIn K cdv x=true) (k:PySem.W.keepIn K (.ref f)=true):Def K x st:=
 ⟨f,oc,od,an,kV,doc,pm,cdv,ct,osl,a,l,c,k⟩
theorem Def.fn (D:Def K x st)(X:K.In h)(G:h.Ns mainGlobals mg):∃f fd,Fun K x x st f fd/\mg x=some (.ref f):=by
 obtain⟨f,oc,od,an,kV,doc,pm,cdv,ct,osl,a,l,c,k⟩:=D.ex
 exact⟨f,_,zk0 (st:=st) l c k,PySem.W.mg_of X G a⟩
end
structure TopK (K:PySem.W.Frag):Prop where
 k_len:PySem.W.nsIn K mainGlobals "len" =some none
 k_tuple:PySem.W.nsIn K mainGlobals "tuple" =some none
 k_list:PySem.W.nsIn K mainGlobals "list" =some none
 k_range:PySem.W.nsIn K mainGlobals "range" =some none
 k_int:PySem.W.nsIn K mainGlobals "int" =some none
 k_bool:PySem.W.nsIn K mainGlobals "bool" =some none
 k_isinstance:PySem.W.nsIn K mainGlobals "isinstance" =some none
 k_all:PySem.W.nsIn K mainGlobals "all" =some none
 k_zip:PySem.W.nsIn K mainGlobals "zip" =some none
 k_enumerate:PySem.W.nsIn K mainGlobals "enumerate" =some none
 k_min:PySem.W.nsIn K mainGlobals "min" =some none
 k_sum:PySem.W.nsIn K mainGlobals "sum" =some none
 k_max:PySem.W.nsIn K mainGlobals "max" =some none
 k_abs:PySem.W.nsIn K mainGlobals "abs" =some none
 k_sorted:PySem.W.nsIn K mainGlobals "sorted" =some none
theorem TopK.top {K:PySem.W.Frag}{h:Heap}{mg:Str->Option Value}(T:TopK K)(X:K.In h)(G:h.Ns mainGlobals mg):Top mg:=
  ⟨PySem.W.mg_none_of X G T.k_len,PySem.W.mg_none_of X G T.k_tuple,PySem.W.mg_none_of X G T.k_list,PySem.W.mg_none_of X G T.k_range,PySem.W.mg_none_of X G T.k_int,PySem.W.mg_none_of X G T.k_bool,PySem.W.mg_none_of X G T.k_isinstance,
   PySem.W.mg_none_of X G T.k_all,PySem.W.mg_none_of X G T.k_zip,PySem.W.mg_none_of X G T.k_enumerate,PySem.W.mg_none_of X G T.k_min,PySem.W.mg_none_of X G T.k_sum,PySem.W.mg_none_of X G T.k_max,PySem.W.mg_none_of X G T.k_abs,PySem.W.mg_none_of X G T.k_sorted⟩
open Sem (wp)
open AutoSeq1 (wpAny_loadPart')
section
variable {prog:Program}{w:World}{A:Around}{E:Value->Shared->Prop}{s:Shared}
end
section
variable {X:Cx}
end
open Sem (wp)
open AutoSeq1 (wpAny_loadPart')
section
variable {prog:Program}{w:World}{A:Around}{E:Value->Shared->Prop}{s:Shared}
end
section
variable {X:Cx}{pos:Pos}
end
section
variable {prog:Program}{w:World}{A:Around}{E:Value->Shared->Prop}{s:Shared}
theorem zf0 {Q:List Value->Shared->Prop}{r:Addr}{a b c:Int}{t u v:Tok}{n:Nat}(hh:A.handled=none)(hr:IsRange s.heap r a b c t u v)(hsmall:Builtin.Range.small a b c=true)
  (hn:Builtin.Range.rangeSize a b c=n) (hlen:n<=2^24)
  (hQ:∀h' tk acc',(∀b o,s.heap.get? b=some o->h'.get? b=some o)->ItemsOf (fun i v=>∃t,v=.int (a+i*c) t) acc' n->Q acc'.toList {s with heap:=h',toks:=tk}):
  wpAny (model prog w) A (collect (.ref r)) Q E s:=by
 unfold collect
 refine wpAny_bind (wpAny_runValue (codeAny_builtin F.entry_proto_collect ?_))
 rw[Around.under_plainId F.plain_proto_collect _]
 show wpAny _ A.in1 (newList [] >>= fun l=>again (.builtin "list.__iadd__" ⟨[l,.ref r],[]⟩)) _ _ s
 refine wpAny_bind (wpAny_newObj_type ?_)
 refine wpAny_pure ⟨plainId_quiet F.plain_list_iadd _,codeAny_builtin F.entry_list_iadd ?_⟩
 rw[Around.under_plainId F.plain_list_iadd _]
 show wpAny _ A.in1 (Builtin.List.listExtendWith (.ref s.heap.objs.size) (.ref r) (.ref s.heap.objs.size)) _ _ _
 have hS:(s.heap.push {cls:=.type "list",data:=.seq ([]:List Value).toArray}).get? s.heap.objs.size=some {cls:=.type "list",data:=.seq #[] 0}:=Heap.get?_push_size _ rfl
 have fin':∀s':Shared,(∃h' tk acc' c',s'={s with heap:=h',toks:=tk}/\(∀b o,s.heap.get? b=some o->h'.get? b=some o)/\h'.get? s.heap.objs.size=some {cls:=.type "list",dict:=none,data:=.seq acc' c',slots:=#[]}/\
   ItemsOf (fun i v=>∃t,v=.int (a+i*c) t) acc' n)->wpAny (model prog w) A (match Value.ref s.heap.objs.size with
   | Value.ref a=>do
    match (<-load a).data with
     |Data.seq xs _=>pure xs.toList
     |_=>unsupported "internal:collect"
   |_=>unsupported "internal:collect") Q E s':=by
  rintro _ ⟨h',tk,acc',c',rfl,hk,hS',hacc⟩
  show wpAny _ A (load s.heap.objs.size >>= _) _ _ _
  refine wpAny_bind (wpAny_load hS' ?_)
  exact wpAny_pure (hQ h' tk acc' hk hacc)
 refine wpAny_mono (wpAny_extend_range (A:=A) (R:=fun r s'=>r=.ok (.ret (.ref s.heap.objs.size))/\∃h' tk acc' c',s'={s with heap:=h',toks:=tk}/\(∀b o,s.heap.get? b=some o->h'.get? b=some o)/\h'.get? s.heap.objs.size=some {cls:=.type "list",dict:=none,data:=.seq acc' c',slots:=#[]}/\
   ItemsOf (fun i v=>∃t,v=.int (a+i*c) t) acc' n)
  (s:={s with heap:=s.heap.push {cls:=.type "list",data:=.seq ([]:List Value).toArray}}) hh (Heap.get?_push_of_some _ hr) hsmall hn hlen s.heap.objs.size _ 0 hS
  fun h' tk acc' c' hk hS' hacc=>⟨rfl,h',tk,acc',c',rfl,fun b o e=>hk b o (Nat.ne_of_lt (Heap.lt_size e)) (Heap.get?_push_of_some _ e),hS',hacc⟩) (fun fin s' h=> ?_) (fun e s' h=> ?_)
 ·cases fin with
  |done f=>
   obtain⟨e,h⟩:=h
   cases e
   exact fin' s' h
  |again c'=>exact⟨h.1,codeAny_mono h.2 fun r s'' hr=>by obtain⟨rfl,hr⟩:=hr;exact fin' s'' hr⟩
 ·exact absurd h.1 (by simp)
end
theorem zdG (r:Addr)(a b c:Int)(t u v:Tok)(n:Nat)(hsmall:Builtin.Range.small a b c=true)(hn:Builtin.Range.rangeSize a b c=n)(hlen:n<=2^24)(hlen2:n<=sizeLine):
  Meets (Builtin.«tuple.__new__» ⟨[.type "tuple",.ref r],[]⟩)
   (fun A R s=>A.handled=none/\IsRange s.heap r a b c t u v/\∀(h':Heap) (tk:Nat) (acc:Array Value),(∀b o,s.heap.get? b=some o->h'.get? b=some o)->ItemsOf (fun i v=>∃t,v=.int (a+i*c) t) acc n->
    R (.ok (.ret (.ref h'.objs.size))) {s with heap:=h'.push {cls:=.type "tuple",data:=.seq acc},toks:=tk}):=
 .of_wp fun prog w A R s h=>by
  obtain⟨hh,hr,h⟩:=h
  have hsub:=sub_tuple_self
  have hinit:=init_tuple_lookup
  have hmh:=madeHere_tuple
  have hT:s.TypeIs (.ref r) "range" :=⟨_,hr,rfl⟩
  have hh1:A.in1.handled=none:=hh
  wp_walk using wpAny_typeOf hT,zf0 hh1 hr hsmall hn hlen
  intro h' tk acc hk hacc
  show wpAny _ _ (Builtin.Tuple.tupleExact acc.toList.toArray >>= fun v=>ret v) _ _ _
  unfold Builtin.Tuple.tupleExact
  refine wpAny_bind (wpAny_newObj_type ?_ (show acc.toList.toArray.size<=sizeLine by simp only[Array.toArray_toList];rw[hacc.1];exact hlen2))
  refine wpAny_pure ⟨_,rfl, ?_⟩
  have e:acc.toList.toArray=acc:=by simp
  rw[e]
  exact h h' tk acc hk hacc
section
variable {X:Cx}
theorem zf1:∀(n:Nat) (l:List Value) (k:Int),l.length=n->(∀(i:Nat) v,l[i]? =some v->∃t,v=Value.int (k+(i:Int)) t)->Vals ((List.range n).map fun (i:Nat)=>V.int (k+(i:Int))) l:=by
 intro n
 induction n with
 |zero=>intro l k hl _;cases l with
  |nil=>exact .nil
  |cons _ _=>cases hl
 | succ n ih=>
  intro l k hl hv
  cases l with
  |nil=>cases hl
  | cons x r=>
   rw[List.range_succ_eq_map,List.map_cons,List.map_map]
   refine .cons ?_ ?_
   ·obtain ⟨t,e⟩:=hv 0 x rfl
    exact⟨t,e⟩
   ·have:=ih r (k+1) (by simpa using hl) (fun i v e=>by
     obtain⟨t,e'⟩:=hv (i+1) v (by simpa using e)
     exact⟨t,by rw[e'];congr 1;push_cast;(first|lia|omega)⟩)
    have e:((fun (i:Nat)=>V.int (k+(i:Int)))∘Nat.succ)=fun (i:Nat)=>V.int (k+1+(i:Int)):=by
     funext i
     show V.int (k+((i+1:Nat):Int))=_
     congr 1;push_cast;(first|lia|omega)
    rw[e]
    exact this
noncomputable def zkc:List V->Hp->VK->Prop:=fun xs H Q=>∃(a:Addr) (j:Int),xs=[.ref a]/\H a=some (.rng 0 j)/\0<=j/\j<=1000/\∀p,H p=none->Q (.ref p) (upd H p (.tup (zaP 0 j.toNat)))
theorem zfr (hc:X.calm=true):zcn X (.type "tuple") zkc:=by
 intro pins s σ H xs us Q I rs h
 obtain⟨a,j,rfl,ha,h0,h1,q⟩:=h
 obtain⟨u,rfl,ru⟩:=zcH rs
 cases (show u=Value.ref a from ru)
 obtain⟨t,u,v,ho⟩:=(show ObjOk X.prog X.w H s.heap a (.rng 0 j) from I.hok a _ ha)
 have hh:X.A.handled=none:=I.ok.hd hc
 have hsz:Builtin.Range.rangeSize 0 j 1=((j.toNat:Nat):Int):=by rw[rangeSize_one];split<;>(first|lia|omega)
 have hjs:j.toNat<=sizeLine:=Nat.le_trans (by (first|lia|omega):j.toNat<=1000) (by decide)
 refine callType_new F.called_tuple (by decide) (F.typeCall_tuple_1 _) (F.newCall_tuple_1 _) (fun obj=>F.args_object_init_2 obj _) F.entry_tuple_new
  (zdG a 0 j 1 t u v j.toNat (small_one (by (first|lia|omega)) (by (first|lia|omega)) (by (first|lia|omega)) (by (first|lia|omega))) hsz (by (first|lia|omega)) hjs) ⟨hh,ho,fun h' tk acc hk hacc=>⟨⟨_,Heap.get?_push_size _ rfl,rfl⟩, ?_⟩⟩
 obtain⟨i1,i2⟩:=hacc
 have I1:Inv X pins σ H {s with heap:=h',toks:=tk}:=I.kept (t':=tk) hk
 refine⟨.ref h'.objs.size,_,I1.laid (t':=tk) (o:=.tup (zaP 0 j.toNat)) (fun b o e=>Heap.get?_push_of_some _ e) (Nat.le_refl _) (show ObjOk X.prog X.w _ _ _ (.tup _) from ⟨by rw[zaH];exact hjs,acc.toList, ?_,by simpa using PTup.new⟩),rfl,q _ (I1.hok.fresh (Nat.le_refl _))⟩
 refine zf1 _ _ 0 (by simpa using i1) fun i v e=> ?_
 obtain⟨t,e'⟩:=i2 i v (by simpa using e)
 exact⟨t,by rw[e'];congr 1;(first|lia|omega)⟩
end
noncomputable def atO (ns:List Int)(x:Int):Int:=ns.getD x.toNat 0
noncomputable def invO (ns:List Int):List Int:=(num0 ns.length).map fun x=>((ns.idxOf x:Nat):Int)
noncomputable def zhq (ns ms:List Int):List Int:=ms.map (atO ns)
noncomputable def Ord (m:Nat)(ns:List Int):Prop:=ns.Perm (num0 m)
theorem zcJ (n:Nat):(num0 n).length=n:=by simp[num0]
theorem zdH (n:Nat):(num0 n).Nodup:=by
 unfold num0
 refine List.Pairwise.map _ (fun a b (h:a≠b)=> ?_) (List.nodup_range (n:=n))
 show (a:Int)≠(b:Int)
 (first|lia|omega)
theorem mem_num0 {n:Nat}{x:Int}:x∈num0 n↔0<=x/\x<n:=by
 refine⟨zaX,fun zq=> ?_⟩
 obtain⟨h0,h1⟩:=zq
 unfold num0
 exact List.mem_map.mpr ⟨x.toNat,List.mem_range.mpr (by (first|lia|omega)),by (first|lia|omega)⟩
theorem zcK {n i:Nat}(h:i<n):(num0 n)[i]? =some (i:Int):=by simp[num0,h]
section
variable {m:Nat}{ns ms ks:List Int}{x:Int}
theorem Ord.len (h:Ord m ns):ns.length=m:=by rw[List.Perm.length_eq h,zcJ]
theorem Ord.nodup (h:Ord m ns):ns.Nodup:=h.symm.nodup (zdH m)
theorem Ord.mem (h:Ord m ns):x∈ns↔0<=x/\x<m:=by rw[List.Perm.mem_iff h,mem_num0]
theorem Ord.rng (h:Ord m ns):∀y∈ns,0<=y/\y<m:=fun _ hy=>h.mem.mp hy
theorem zie {i:Nat}(h:i<ns.length):atO ns (i:Int)=ns[i]:=by
 unfold atO
 rw[Int.toNat_natCast,List.getD_eq_getElem?_getD,List.getElem?_eq_getElem h]
 rfl
theorem zkd (h0:0<=x)(h1:x<ns.length):atO ns x∈ns:=by
 unfold atO
 rw[List.getD_eq_getElem?_getD,List.getElem?_eq_getElem (by (first|lia|omega))]
 exact List.getElem_mem _
theorem zjc (h0:0<=x)(h1:x<m):atO (num0 m) x=x:=by
 unfold atO
 rw[List.getD_eq_getElem?_getD,zcK (by (first|lia|omega))]
 show ((x.toNat:Nat):Int)=x
 (first|lia|omega)
theorem zjd (h0:0<=x)(h1:x<ms.length):atO (zhq ns ms) x=atO ns (atO ms x):=by
 show (zhq ns ms).getD x.toNat 0=atO ns (ms.getD x.toNat 0)
 unfold zhq
 have hlt:x.toNat<ms.length:=by (first|lia|omega)
 rw[List.getD_eq_getElem?_getD,List.getElem?_map,List.getD_eq_getElem?_getD,List.getElem?_eq_getElem hlt]
 rfl
theorem zke (h:Ord m ns)(h0:0<=x)(h1:x<m):atO (invO ns) x=(ns.idxOf x:Nat):=by
 unfold atO invO
 rw[h.len,List.getD_eq_getElem?_getD,List.getElem?_map,zcK (by (first|lia|omega):x.toNat<m)]
 show ((ns.idxOf ((x.toNat:Nat):Int):Nat):Int)=_
 rw[show ((x.toNat:Nat):Int)=x by (first|lia|omega)]
theorem zif (h:Ord m ns):zhq (invO ns) ns=num0 m:=by
 apply List.ext_getElem?
 intro i
 unfold zhq
 rw[List.getElem?_map]
 by_cases hi:i<m
 ·have hi':i<ns.length:=by rw[h.len];exact hi
  rw[zcK hi,List.getElem?_eq_getElem hi']
  show some (atO (invO ns) ns[i])=_
  have:=h.rng _ (List.getElem_mem hi')
  rw[zke h this.1 this.2,List.Nodup.idxOf_getElem h.nodup i hi']
 ·rw [List.getElem?_eq_none (by rw[h.len];(first|lia|omega)),List.getElem?_eq_none (by rw[zcJ];(first|lia|omega))]
  rfl
end
theorem zkf {α:Type}(x:α)(n:Nat):(List.replicate n [x]).flatten=List.replicate n x:=by
 induction n with
 |zero=>rfl
 |succ n ih=>rw[List.replicate_succ,List.flatten_cons,ih];rfl
theorem zk5 {ys:List Int}{i:Int}(h0:0<=i)(h1:i<ys.length):ixN (ys.map V.int).length i=some i.toNat:=by
 unfold ixN
 rw[zal,if_pos h0,if_pos (by (first|lia|omega))]
noncomputable def itO (ns:List Int)(x:Int):Nat->Int
 |0=>x
 |k+1=>atO ns (itO ns x k)
noncomputable def orbO (ns:List Int)(x:Int)(k:Nat):List Int:=(List.range k).map (itO ns x)
structure IsRound (ns:List Int) (x:Int) (row:List Int):Prop where
 ex:∃k,row=orbO ns x (k+1)/\itO ns x (k+1)=x
 nd:row.Nodup
theorem zf2 (ns:List Int)(x:Int)(k:Nat):(orbO ns x k).length=k:=by simp[orbO]
theorem zgR (ns:List Int)(x:Int)(k:Nat):orbO ns x (k+1)=orbO ns x k++[itO ns x k]:=by simp[orbO,List.range_succ]
theorem mem_orb {ns:List Int}{x y:Int}{k:Nat}:y∈orbO ns x k↔∃j,j<k/\itO ns x j=y:=by
 unfold orbO
 rw[List.mem_map]
 constructor
 ·rintro⟨j,hj,e⟩;exact⟨j,List.mem_range.mp hj,e⟩
 ·rintro⟨j,hj,e⟩;exact⟨j,List.mem_range.mpr hj,e⟩
theorem zc1 {ns:List Int}{x:Int}{k j:Nat}(h:j<k):(orbO ns x k)[j]? =some (itO ns x j):=by simp[orbO,h]
theorem zen (ns:List Int)(x:Int)(j:Nat):∀k,itO ns x (j+k)=itO ns (itO ns x j) k
 |0=>rfl
 |k+1=>by show atO ns (itO ns x (j+k))=atO ns _;rw[zen ns x j k]
theorem zig {α:Type}[DecidableEq α]:∀{l L:List α},l.Nodup->(∀y∈l,y∈L)->l.length<=L.length
 |[],_,_,_=>Nat.zero_le _
 | a::t,L,h,s=>by
  have ha:=s a (by simp)
  have hn:=List.nodup_cons.mp h
  have h1:t.length<=(L.erase a).length:=zig hn.2 fun y hy=>by
   have hne:y≠a:=fun e=>hn.1 (e▸hy)
   exact (List.mem_erase_of_ne hne).mpr (s y (by simp[hy]))
  have h2:=List.length_erase_of_mem ha
  have h3:0<L.length:=List.length_pos_of_mem ha
  simp only[List.length_cons]
  (first|lia|omega)
section
variable {m:Nat}{ns:List Int}{x y:Int}
theorem zdd (h:Ord m ns)(h0:0<=x/\x<m):∀k,0<=itO ns x k/\itO ns x k<m
 |0=>h0
 |k+1=>h.rng _ (zkd (zdd h h0 k).1 (by rw[h.len];exact (zdd h h0 k).2))
theorem zkg (h:Ord m ns)(hx:0<=x/\x<m)(hy:0<=y/\y<m)(e:atO ns x=atO ns y):x=y:=by
 have ln:=h.len
 have q:∀{z:Int},0<=z/\z<m->atO (invO ns) (atO ns z)=z:=fun {z} hz=>by
  have this:atO (zhq (invO ns) ns) z=atO (num0 m) z:=congrArg (fun l=>atO l z) (zif h)
  rw[zjd hz.1 (by rw[ln];exact hz.2),zjc hz.1 hz.2] at this
  exact this
 rw[<-q hx,<-q hy,e]
theorem zgS (h:Ord m ns)(hx:0<=x/\x<m){k:Nat}(nd:(orbO ns x (k+1)).Nodup)(hne:itO ns x (k+1)≠x):(orbO ns x (k+2)).Nodup:=by
 rw[zgR]
 refine List.nodup_append.mpr ⟨nd,by simp, ?_⟩
 intro a ha b hb e
 rw[List.mem_singleton] at hb
 subst hb
 obtain⟨j,hj,e1⟩:=mem_orb.mp ha
 cases j with
 |zero=>exact hne (e.symm.trans e1.symm)
 |succ j=>
  have e2:itO ns x j=itO ns x k:=zkg h (zdd h hx j) (zdd h hx k) (e1.trans e)
  have g1:(orbO ns x (k+1))[j]? =some (itO ns x j):=zc1 (by (first|lia|omega))
  have g2:(orbO ns x (k+1))[k]? =some (itO ns x k):=zc1 (by (first|lia|omega))
  rw[e2] at g1
  obtain⟨l1,g1⟩:=List.getElem?_eq_some_iff.mp g1
  obtain⟨l2,g2⟩:=List.getElem?_eq_some_iff.mp g2
  have q1:=List.Nodup.idxOf_getElem nd j l1
  have q2:=List.Nodup.idxOf_getElem nd k l2
  rw[g1] at q1
  rw[g2] at q2
  (first|lia|omega)
theorem zcL (h:Ord m ns)(hx:0<=x/\x<m){k:Nat}(nd:(orbO ns x k).Nodup):k<=m:=by
 have:=zig (L:=num0 m) nd fun y hy=>by
  obtain⟨j,_,rfl⟩:=mem_orb.mp hy
  exact mem_num0.mpr (zdd h hx j)
 rwa [zf2,zcJ] at this
theorem zgT (h:Ord m ns)(hx:0<=x/\x<m):∀(n k:Nat),m-k=n->(orbO ns x (k+1)).Nodup->∃row,IsRound ns x row
 | n,k,e,nd=>by
  by_cases hk:itO ns x (k+1)=x
  ·exact⟨_,⟨k,rfl,hk⟩,nd⟩
  ·have nd2:=zgS h hx nd hk
   have b:=zcL h hx nd2
   cases n with
   |zero=>(first|lia|omega)
   |succ n=>exact zgT h hx n (k+1) (by (first|lia|omega)) nd2
theorem zje (h:Ord m ns)(hx:0<=x/\x<m):∃row,IsRound ns x row:=zgT h hx m 0 rfl (by simp[orbO])
theorem zih {r r':List Int}(a:IsRound ns x r)(b:IsRound ns x r'):r=r':=by
 obtain⟨⟨k,rfl,hk⟩,nd⟩:=a
 obtain⟨⟨k',rfl,hk'⟩,nd'⟩:=b
 have key:∀{k k':Nat},itO ns x (k+1)=x->(orbO ns x (k'+1)).Nodup->¬k<k':=fun {k k'} hk nd hlt=>by
  have g1:(orbO ns x (k'+1))[0]? =some (itO ns x 0):=zc1 (by (first|lia|omega))
  have g2:(orbO ns x (k'+1))[k+1]? =some (itO ns x (k+1)):=zc1 (by (first|lia|omega))
  rw[hk] at g2
  obtain⟨l1,g1⟩:=List.getElem?_eq_some_iff.mp g1
  obtain⟨l2,g2⟩:=List.getElem?_eq_some_iff.mp g2
  have q1:=List.Nodup.idxOf_getElem nd 0 l1
  have q2:=List.Nodup.idxOf_getElem nd (k+1) l2
  rw[g1] at q1
  rw[g2] at q2
  have e:itO ns x 0=x:=rfl
  rw[e] at q1
  (first|lia|omega)
 have:=key hk nd'
 have:=key hk' nd
 have e:k=k':=by (first|lia|omega)
 rw[e]
open Classical in
noncomputable def rowO (ns:List Int)(x:Int):List Int:=if h:∃row,IsRound ns x row then choose h else []
theorem zdI (h:Ord m ns)(hx:0<=x/\x<m):IsRound ns x (rowO ns x):=by
 unfold rowO
 rw[dif_pos (zje h hx)]
 exact Classical.choose_spec _
theorem zk6 (h:Ord m ns)(hx:0<=x/\x<m){r:List Int}(a:IsRound ns x r):r=rowO ns x:=zih a (zdI h hx)
noncomputable def zcu (ns:List Int)(acc:List (List Int))(f:Int):List (List Int):=if f∈acc.flatten then acc else acc++[rowO ns f]
noncomputable def zbs (ns fs:List Int):List (List Int):=fs.foldl (zcu ns) []
noncomputable def zbn (ns:List Int):List (List Int):=zbs ns (num0 ns.length)
theorem zii (ns fs:List Int)(f:Int):zbs ns (fs++[f])=zcu ns (zbs ns fs) f:=by simp[zbs,List.foldl_append]
theorem zf3 (h:Ord m ns)(hx:0<=x/\x<m):1<=(rowO ns x).length/\(rowO ns x).length<=m:=by
 obtain⟨⟨k,e,_⟩,nd⟩:=zdI h hx
 rw[e] at nd
 rw[e,zf2]
 exact⟨by (first|lia|omega),zcL h hx nd⟩
theorem zf4 (h:Ord m ns)(hx:0<=x/\x<m):∀y∈rowO ns x,0<=y/\y<m:=fun y hy=>by
 obtain⟨⟨k,e,_⟩,nd⟩:=zdI h hx
 rw[e] at hy
 obtain⟨j,_,rfl⟩:=mem_orb.mp hy
 exact zdd h hx j
structure MetO (ns:List Int) (m:Nat) (rows:List (List Int)):Prop where
 nd:rows.flatten.Nodup
 rng:∀y∈rows.flatten,0<=y/\y<m
 clo:∀y∈rows.flatten,atO ns y∈rows.flatten
 row:∀r∈rows,∃f:Int,0<=f/\f<m/\r=rowO ns f
theorem MetO.it {rows:List (List Int)}(M:MetO ns m rows)(hy:y∈rows.flatten):∀k,itO ns y k∈rows.flatten
 |0=>hy
 |k+1=>M.clo _ (M.it hy k)
theorem MetO.step (h:Ord m ns){rows:List (List Int)}(M:MetO ns m rows){f:Int}(hf:0<=f/\f<m):MetO ns m (zcu ns rows f):=by
 unfold zcu
 split
 ·exact M
 ·rename_i hn
  obtain⟨⟨k,e,hk⟩,nd⟩:=zdI h hf
  have e1:(rows++[rowO ns f]).flatten=rows.flatten++rowO ns f:=by simp
  refine⟨?_, ?_, ?_, ?_⟩
  ·rw [e1]
   refine List.nodup_append.mpr ⟨M.nd,nd,fun a ha b hb eab=>hn ?_⟩
   subst eab
   rw[e] at hb
   obtain⟨j,hj,rfl⟩:=mem_orb.mp hb
   have:=M.it ha (k+1-j)
   rw[<-zen,show j+(k+1-j)=k+1 by (first|lia|omega),hk] at this
   exact this
  ·rw [e1]
   intro y hy
   rcases List.mem_append.mp hy with hy|hy
   ·exact M.rng y hy
   ·exact zf4 h hf y hy
  ·rw [e1]
   intro y hy
   rcases List.mem_append.mp hy with hy|hy
   ·exact List.mem_append_left _ (M.clo y hy)
   ·refine List.mem_append_right _ ?_
    rw[e] at hy ⊢
    obtain⟨j,hj,rfl⟩:=mem_orb.mp hy
    by_cases hlast:j=k
    ·subst hlast
     exact mem_orb.mpr ⟨0,by (first|lia|omega),hk.symm⟩
    ·exact mem_orb.mpr ⟨j+1,by (first|lia|omega),rfl⟩
  ·intro r hr
   rcases List.mem_append.mp hr with hr|hr
   ·exact M.row r hr
   ·exact⟨f,hf.1,hf.2,List.mem_singleton.mp hr⟩
theorem zf5:MetO ns m []:=⟨by simp,by simp,by simp,by simp⟩
theorem zeB (h:Ord m ns):∀(fs:List Int),(∀f∈fs,0<=f/\f<m)->∀{acc:List (List Int)},MetO ns m acc->MetO ns m (fs.foldl (zcu ns) acc)
 |[],_,_,M=>M
 |f::fs,hf,_,M=>zeB h fs (fun g hg=>hf g (by simp[hg])) (M.step h (hf f (by simp)))
theorem MetO.lens (h:Ord m ns){rows:List (List Int)}(M:MetO ns m rows):rows.flatten.length<=m/\rows.length<=m/\∀r∈rows,1<=r.length/\r.length<=m:=by
 have h1:rows.flatten.length<=m:=by
  have:=zig (L:=num0 m) M.nd fun y hy=>mem_num0.mpr (M.rng y hy)
  rwa [zcJ] at this
 have h3:∀r∈rows,1<=r.length/\r.length<=m:=fun r hr=>by
  obtain⟨f,f0,f1,rfl⟩:=M.row r hr
  exact zf3 h ⟨f0,f1⟩
 have h2:∀{rows:List (List Int)},(∀r∈rows,1<=r.length/\r.length<=m)->rows.length<=rows.flatten.length:=fun {rows}=>by
  induction rows with
  |nil=>intro _;simp
  |cons r t ih=>
   intro h
   have:=h r (by simp)
   have:=ih fun r hr=>h r (by simp[hr])
   simp only[List.length_cons,List.flatten_cons,List.length_append]
   (first|lia|omega)
 exact⟨h1,Nat.le_trans (h2 h3) h1,h3⟩
theorem zgU (h:Ord m ns):∀(fs:List Int),(∀f∈fs,0<=f/\f<m)->∀(acc:List (List Int)) y,(y∈acc.flatten∨y∈fs)->y∈(fs.foldl (zcu ns) acc).flatten
 |[],_,acc,y,hy=>by
  rcases hy with hy|hy
  ·exact hy
  ·cases hy
 | f ::fs,hf,acc,y,hy=>by
  refine zgU h fs (fun g hg=>hf g (by simp[hg])) (zcu ns acc f) y ?_
  have grow:∀z,z∈acc.flatten->z∈(zcu ns acc f).flatten:=fun z hz=>by
   unfold zcu
   split
   ·exact hz
   ·simp only[List.flatten_append];exact List.mem_append_left _ hz
  rcases hy with hy|hy
  ·exact .inl (grow y hy)
  ·rcases List.mem_cons.mp hy with rfl|hy
   ·left
    unfold zcu
    split
    ·assumption
    ·obtain ⟨⟨k,e,_⟩,_⟩:=zdI h (hf y (by simp))
     simp only[List.flatten_append]
     refine List.mem_append_right _ ?_
     simp only[List.flatten_cons,List.flatten_nil,List.append_nil]
     rw[e]
     exact mem_orb.mpr ⟨0,by (first|lia|omega),rfl⟩
   ·exact .inr hy
theorem zhr {l L:List Int}(hl:l.Nodup)(hL:L.Nodup)(e:∀y,y∈l↔y∈L):l.Perm L:=(List.perm_ext_iff_of_nodup hl hL).mpr e
theorem zf6 (h:Ord m ns):(zbn ns).flatten.Perm (num0 m):=by
 unfold zbn zbs
 rw[h.len]
 have M:=zeB h (num0 m) (fun f hf=>zaX hf) zf5
 exact zhr M.nd (zdH m) fun y=>⟨fun hy=>mem_num0.mpr (M.rng y hy),fun hy=>zgU h (num0 m) (fun f hf=>zaX hf) [] y (.inr hy)⟩
end
section
variable {X:Cx}
end
section
variable {prog:Program}{w:World}{A:Around}{E:Value->Shared->Prop}{s:Shared}
theorem zbo {t sl:Addr}{items:Array Value}{vl vu:Value}{lo hi:Option Int}{Q:Value->Shared->Prop}(ht:IsTup s.heap t items)(hs:s.heap.IsSliceOf sl vl vu .none)(pl:IsPart vl lo)(pu:IsPart vu hi)
  (hw:HT.sIx items.size 0 lo=0/\HT.sIx items.size items.size hi=items.size) (h:Q (.ref t) s):wpAny (model prog w) A (getItem (.ref t) (.ref sl)) Q E s:=by
 obtain⟨os,hos,hcs,hds⟩:=id hs
 have hTs:s.TypeIs (.ref sl) "slice" :=⟨os,hos,hcs⟩
 unfold getItem
 try with_reducible refine wpAny_holding ?_
 first|refine wpAny_bind (wpAny_pure ?_)|skip
 refine wpAny_bind (wpAny_sequenceKey ht.typeIs (by decide) ?_)
 refine wpAny_bind (wpAny_callSpecial?_slot (name:=Str.ofString "__getitem__") ht.typeIs PyProof.Rows.slot_tuple_getitem
  (wpAny_call_entry PyProof.Rows.slot_tuple_getitem ht.typeIs entry_tuple_getitem ?_ (args_tuple_getitem _ _)))
 show wpAny _ _ (Builtin.Tuple.tupleItemsOf (.ref t) >>= _) _ _ s
 refine wpAny_bind (tupleItemsOf_ ht ?_)
 refine wpAny_bind (wpAny_typeOf hTs ?_)
 rw[if_pos (by decide)]
 refine wpAny_bind (HT.sliceApplied_gen hs pl pu ?_)
 show wpAny _ _ (if (((HT.sIx items.size 0 lo:Nat):Int)==0&&(1:Int)==1&&(HT.sIx items.size items.size hi-HT.sIx items.size 0 lo)==items.size)=true then _ else _) _ _ s
 rw[if_pos (by rw[hw.1,hw.2];simp)]
 unfold Builtin.Tuple.tupleIsExact
 refine wpAny_bind (wpAny_bind (wpAny_typeOf ht.typeIs (wpAny_pure ?_)))
 rw[if_pos (by decide)]
 refine wpAny_bind (wpAny_rule ?_)
 exact wpAny_pure ⟨_,rfl,wpAny_pure h⟩
end
section
variable {X:Cx}{e:Expr}{te:TE}{p2 pos:Pos}
end
noncomputable abbrev RowsAt (H:Hp)(zs:List Addr)(rows:List (List Int)):Prop:=Paired (fun (z:Addr) (r:List Int)=>H z=some (.tup (r.map V.int))) zs rows
theorem RowsAt.sameT {H H':Hp}{zs:List Addr}{rows:List (List Int)}(h:RowsAt H zs rows)(s:SameT H H'):RowsAt H' zs rows:=Paired.mapP h fun _ _ q=>s _ _ q
theorem RowsAt.same {H H':Hp}{zs:List Addr}{rows:List (List Int)}(h:RowsAt H zs rows)(s:Same H H'):RowsAt H' zs rows:=h.sameT s.t
structure Bits (bs:List Bool) (m:Nat) (S:List Int):Prop where
 len:bs.length=m
 bit:∀i,i<m->bs[i]? =some (decide ((i:Int)∈S))
theorem zlL (m:Nat):Bits (List.replicate m false) m []:=⟨by simp,fun i hi=>by simp[hi]⟩
theorem Bits.set {bs:List Bool}{m:Nat}{S:List Int}{y:Int}(B:Bits bs m S)(h0:0<=y)(h1:y<m):Bits (bs.set y.toNat true) m (S++[y]):=by
 refine⟨by rw[List.length_set];exact B.len,fun i hi=> ?_⟩
 have hl:=B.len
 by_cases e:i=y.toNat
 ·subst e
  rw[List.getElem?_set_self (by (first|lia|omega))]
  have:((y.toNat:Nat):Int)=y:=by (first|lia|omega)
  rw[this]
  simp
 ·rw [List.getElem?_set_ne (Ne.symm e),B.bit i hi]
  have hne:((i:Nat):Int)≠y:=by (first|lia|omega)
  simp[hne]
noncomputable def zcv:Sp:=fun vs H Q _=>∃(a:Addr) (ns:List Int) (m:Nat) (x:Int),vs=[.ref a,.int x]/\H a=some (.tup (ns.map V.int))/\Ord m ns/\m<=500/\0<=x/\x<m/\∀p H',Same H H'->H' p=some (.tup ((rowO ns x).map V.int))->Q (.ref p) H'
noncomputable def zcw:Sp:=fun vs H Q _=>∃(a l:Addr) (ns fs:List Int) (m:Nat),vs=[.ref a,.ref l]/\H a=some (.tup (ns.map V.int))/\H l=some (.lst (fs.map V.int))/\Ord m ns/\m<=500/\(∀f∈fs,0<=f/\f<m)/\
 ∀p zs H',Same H H'->H' p=some (.lst (zs.map V.ref))->RowsAt H' zs (zbs ns fs)->Q (.ref p) H'
noncomputable def zeC:Sp:=fun vs H Q _=>∃(a:Addr) (ns:List Int) (m:Nat),vs=[.ref a]/\H a=some (.tup (ns.map V.int))/\Ord m ns/\m<=500/\∀p zs H',Same H H'->H' p=some (.tup (zs.map V.ref))->RowsAt H' zs (zbn ns)->Q (.ref p) H'
theorem zgV (zs:List Addr):(zs.map V.ref).length=zs.length:=List.length_map ..
inductive Ents (P:Params):List DictEntry->List (Str×Addr)->Prop
 |nil:Ents P [] []
 |cons {x:Str} {t:Tok} {f:Addr} {es:List DictEntry} {kvs:List (Str×Addr)}:Ents P es kvs->Ents P (⟨PyData.keyHash P x,.str x t,.ref f⟩::es) ((x,f)::kvs)
structure GDict (K:PySem.W.Frag) (P:Params) (C:Addr) (kvs:List (Str×Addr)):Prop where
 ex:∃es n,K.lookup C=some {cls:=.type "dict",data:=.dict es n}/\Ents P es.toList kvs
 nd:(kvs.map (·.1)).Nodup
theorem Ents.keys {prog:Program}{w:World}:∀{es:List DictEntry} {kvs:List (Str×Addr)},Ents w.params es kvs->∀e∈es,∃k,(PySem.strKind prog w).is k e.key=true/\e.hash=(PySem.strKind prog w).hash k
 |_,_,.nil,_,h=>by cases h
 |_,_,.cons (x:=x) t,e,h=>by
  rcases List.mem_cons.mp h with rfl|h
  ·exact⟨x,by simp[PySem.strKind,Value.isStrOf],rfl⟩
  ·exact Ents.keys t e h
theorem Ents.pairs {prog:Program}{w:World}:∀{es:List DictEntry} {kvs:List (Str×Addr)},Ents w.params es kvs->Pairs (PySem.strKind prog w) es (kvs.map fun kv=>(kv.1,Value.ref kv.2))
 |_,_,.nil=>.nil
 |_,_,.cons t=>.cons (by simp[PySem.strKind,Value.isStrOf]) rfl (Ents.pairs t)
theorem zde:∀(kvs:List (Str×Addr)) (x:Str),valueAt (kvs.map fun kv=>(kv.1,Value.ref kv.2)) x=(kvs.lookup x).map Value.ref
 |[],_=>rfl
 | (y,f)::t,x=>by
  have ih:=zde t x
  unfold valueAt at ih ⊢
  rw[List.map_cons,List.find?_cons,List.lookup_cons]
  by_cases h:y=x
  ·subst h
   simp
  ·have h2:(x==y)=false:=beq_eq_false_iff_ne.mpr fun z=>h z.symm
   simp only[decide_eq_false h,h2]
   exact ih
section
variable {X:Cx}
noncomputable def rGd (K:PySem.W.Frag)(P:Params):R2:=fun x y H Q=>∃C kvs z f,x=.ref C/\y=.str z/\GDict K P C kvs/\kvs.lookup z=some f/\Q (.ref f) H
theorem zd9:IxR X (rGd X.K X.w.params):=by
 intro value slice pins s σ H x y v u Q I rx ry h hs
 obtain⟨C,kvs,z,f,rfl,rfl,⟨⟨es,n,hk,en⟩,nd⟩,hl,q⟩:=h
 cases rx
 obtain⟨t,rfl⟩:=ry
 have hg:=I.kIn C _ hk
 have hD:s.heap.DictOf (PySem.strKind X.prog X.w) C (kvs.map fun kv=>(kv.1,Value.ref kv.2)):=
  ⟨_,es,n,hg,⟨rfl,rfl,rfl⟩,rfl,fun e he=>en.keys e (by simpa using he),en.pairs,by rw[List.map_map];exact nd⟩
 have fin:EP X pins σ Q (.ref f) {s with toks:=s.toks+1}:=⟨.ref f,H,I.tok _,rfl,q⟩
 exact subscriptTail_builtinR (x:=.ref f) hD.typeIs PySem.F.slot_dict_getitem.lookup
  (wpAny_getItem_of (k:=z) (knd:=PySem.strKind X.prog X.w) (Q:=fun r s'=>r=.ref f/\EP X pins σ Q r s') (by simp[PySem.strKind,Value.isStrOf]) hD.mapOf (by rw[zde,hl];rfl) ⟨rfl,fin⟩) hs
end
structure CalF (P:Program) (w:World) (K:PySem.W.Frag) (mg:Str->Option Value) (base:Heap) (k:Nat) (f:Addr) (ps:List Str) (sp:Sp):Prop where
 ex:∃fd,FnOk P w K mg base CX0 k f fd ps sp/\PySem.W.keepIn K (.ref f)=true/\Binds K fd ps []
section
variable {X:Cx}{k:Nat}{x:Str}{p pos:Pos}{e:Expr}{es:List Expr}{t:TA}{tf:TE}
noncomputable def zk7 (P:Program)(w:World)(K:PySem.W.Frag)(mg:Str->Option Value)(base:Heap)(k:Nat)(tf:TE)(t:TA):TE:=fun σ H Q=>tf σ H fun v H1=>∃f ps sp,v=.ref f/\CalF P w K mg base k f ps sp/\t σ H1 fun vs H2=>sp vs H2 Q E0
theorem za8 (hf:PE X (.Name x p) tf)(hr:Room k X.A)(ha:PA X (e::es) t)(he:starEach (e::es) X.env=(false,eval e X.env)::starEach es X.env:=by rfl)
  (hpl:(backTo pos (starEach es X.env)).any (·.1)=false:=by rfl):PE X (.Call (.Name x p) (e::es) [] pos) (zk7 X.prog X.w X.K X.mg X.base k tf t):=by
 intro pins s σ H Q I h
 refine wpAny_Call_Name_kw (thn (hf pins s σ H _ I h) fun v s1 zq=> ?_)
 obtain⟨y,H1,I1,r1,f,ps,sp,ey,⟨fd,F,hk,hb⟩,q1⟩:=zq
 subst ey
 cases (show v=Value.ref f from r1)
 refine PySem.W.callWith_K (h₀:=X.base) I1.ok.mod.kin hk (thn (ha pos pins s1 σ H1 _ I1 q1) fun us s2 ⟨vs,H2,I2,r2,q2⟩=>⟨I2.kIn, ?_⟩) he hpl
 exact zjM F hr hb .nil zkZ I2 r2 (by rw[List.append_nil];exact q2)
noncomputable def zlM:List V->Hp->VK->Prop:=fun xs H Q=>∃(l:Addr) (ns:List Int),xs=[.ref l]/\H l=some (.lst (ns.map V.int))/\Q (.int ns.sum) H
theorem zbF (hc:X.calm=true):zcn X (.builtin "sum") zlM:=by
 intro pins s σ H xs us Q I rs h
 obtain⟨l,ns,rfl,hH,q⟩:=h
 obtain⟨u,rfl,ru⟩:=zcH rs
 cases (show u=Value.ref l from ru)
 obtain⟨z,its,n,r,hl,e⟩:=I.lstM hH
 have hI:=zem r
 obtain⟨xs,hxs⟩:=hI.allInts.items
 have hnum:(numsOf its.toArray.toList)=ns:=hI.numsOf
 refine sum_intListG (xs:=xs) (I.ok.hd hc) (by rw[<-hxs];exact⟨_,e,rfl,n,rfl⟩) fun h' tk t' hk=> ?_
 have hs:preSum (numAt xs) xs.size=ns.sum:=by
  rw[preSum_eq,List.take_of_length_le (by simp)]
  rw[<-nums_intItems,<-hxs,hnum]
 rw[hs]
 exact⟨.int ns.sum,H,I.kept (t':=tk) hk,⟨_,rfl⟩,q⟩
end
noncomputable abbrev lc2 (elt tg iter:Expr)(ifs:List Expr)(tg2 iter2:Expr)(ifs2:List Expr)(scope:Scope)(pos:Pos):Expr:=.ListComp elt [⟨tg,iter,ifs,0⟩,⟨tg2,iter2,ifs2,0⟩] scope pos
theorem zf7 (elt tg iter:Expr)(ifs:List Expr)(tg2 iter2:Expr)(ifs2:List Expr)(scope:Scope)(pos:Pos)(it acc:Value)(env:Env):
  compTurn (lc2 elt tg iter ifs tg2 iter2 ifs2 scope pos) 1 it acc env=(do
   standAt iter2.pos
   match<-pyNext it with
   |none=>pure (.done .next)
   | some v=>
    letOwnedTupleGo tg2 it v
    assign tg2 env v
    let mut ok:=true
    for c in ifs2 do
     if ok then ok<-isTrue c env (eval c env)
    if ok then
     (do let _<-call (.builtin "list.append") [acc,<-eval elt env])
    again (.compLoop (lc2 elt tg iter ifs tg2 iter2 ifs2 scope pos) 1 it acc env)):=by rfl
theorem zfs (elt tg iter:Expr)(ifs:List Expr)(tg2 iter2:Expr)(ifs2:List Expr)(scope:Scope)(pos:Pos)(it acc:Value)(env:Env):
  compTurn (lc2 elt tg iter ifs tg2 iter2 ifs2 scope pos) 0 it acc env=(do
   standAt iter.pos
   match<-pyNext it with
   |none=>pure (.done .next)
   | some v=>
    letOwnedTupleGo tg it v
    assign tg env v
    let mut ok:=true
    for c in ifs do
     if ok then ok<-isTrue c env (eval c env)
    if ok then
     let x<-eval iter2 env
     standAt iter2.pos
     let x<-foldedSetIterable iter2 env x
     let _<-runOwn (.compStart (lc2 elt tg iter ifs tg2 iter2 ifs2 scope pos) 1 (<-holding [x] (pyIter x)) acc env) env
    again (.compLoop (lc2 elt tg iter ifs tg2 iter2 ifs2 scope pos) 0 it acc env)):=by rfl
section
variable {prog:Program}{w:World}{A:Around}{R:Result->Shared->Prop}{s:Shared}{elt tg iter tg2 iter2:Expr}{ifs ifs2:List Expr}{scope:Scope}{pos:Pos}{it acc:Value}{env:Env}
theorem zf8 (I:Nat->Shared->Prop)
  (turn:∀n s,I n s->wpAny (model prog w) A (pyNext it) (fun r s₁=>match r with
   |none=>R (.ok .next) s₁
   | some v=>wpAny (model prog w) A (letOwnedTupleGo tg2 it v) (fun _ s₂=>wpAny (model prog w) A (assign tg2 env v) (fun _ s₃=>
     wpAny (model prog w) A (forIn ifs2 true fun c r=>if r=true then do let ok<-isTrue c env (eval c env);pure (ForInStep.yield ok) else pure (ForInStep.yield r)) (fun ok s₄=>
      if ok=true then wpAny (model prog w) A (eval elt env) (fun x s₅=>
       wpAny (model prog w) A (call (.builtin "list.append") [acc,x]) (fun _ s₆=>∃m,m<n/\I m s₆) (fun _ _=>False) s₅) (fun _ _=>False) s₄
      else ∃m,m<n/\I m s₄) (fun _ _=>False) s₃) (fun _ _=>False) s₂) (fun _ _=>False) s₁) (fun _ _=>False) s)
  (n:Nat) (h:I n s):
  codeAny (model prog w) A (.compLoop (lc2 elt tg iter ifs tg2 iter2 ifs2 scope pos) 1 it acc env) R s:=by
 refine codeAny_loop rfl I (fun n s hI=> ?_) n h
 show wpAny _ A ((compTurn (lc2 elt tg iter ifs tg2 iter2 ifs2 scope pos) 1 it acc env).onRaise (fun x=>do noteFrame x env;theTreesLotGoes x)) _ _ s
 refine wpAny_noted (wpAny_noRaise ?_)
 rw[zf7]
 refine wpAny_bind (wpAny_standAt (wpAny_bind (thn (turn n s hI) fun r s₁ h₁=> ?_)))
 cases r with
 |none=>exact wpAny_pure h₁
 |some v=>
  refine wpAny_bind (thn h₁ fun _ s₂ h₂=>wpAny_bind (thn h₂ fun _ s₃ h₃=>wpAny_bind (thn h₃ fun ok s₄ h₄=> ?_)))
  cases ok with
  |false=>exact wpAny_pure ⟨rfl,h₄⟩
  |true=>exact wpAny_bind (wpAny_bind (thn h₄ fun x s₅ h₅=>wpAny_bind (thn h₅ fun _ s₆ h₆=>wpAny_pure (wpAny_pure ⟨rfl,h₆⟩))))
theorem zft (hs2:∀x,foldedSetIterable iter2 env x=pure x)(I:Nat->Shared->Prop)
  (turn:∀n s,I n s->wpAny (model prog w) A (pyNext it) (fun r s₁=>match r with
   |none=>R (.ok .next) s₁
   | some v=>wpAny (model prog w) A (letOwnedTupleGo tg it v) (fun _ s₂=>wpAny (model prog w) A (assign tg env v) (fun _ s₃=>
     wpAny (model prog w) A (forIn ifs true fun c r=>if r=true then do let ok<-isTrue c env (eval c env);pure (ForInStep.yield ok) else pure (ForInStep.yield r)) (fun ok s₄=>
      if ok=true then wpAny (model prog w) A (eval iter2 env) (fun x s₅=>wpAny (model prog w) A (pyIter x) (fun it2 s₆=>
       codeAny (model prog w) A (.compStart (lc2 elt tg iter ifs tg2 iter2 ifs2 scope pos) 1 it2 acc env) (fun r s₇=>r=.ok .next/\∃m,m<n/\I m s₇) s₆) (fun _ _=>False) s₅) (fun _ _=>False) s₄
      else ∃m,m<n/\I m s₄) (fun _ _=>False) s₃) (fun _ _=>False) s₂) (fun _ _=>False) s₁) (fun _ _=>False) s)
  (n:Nat) (h:I n s):
  codeAny (model prog w) A (.compLoop (lc2 elt tg iter ifs tg2 iter2 ifs2 scope pos) 0 it acc env) R s:=by
 refine codeAny_loop rfl I (fun n s hI=> ?_) n h
 show wpAny _ A ((compTurn (lc2 elt tg iter ifs tg2 iter2 ifs2 scope pos) 0 it acc env).onRaise (fun x=>do noteFrame x env;theTreesLotGoes x)) _ _ s
 refine wpAny_noted (wpAny_noRaise ?_)
 rw[zfs]
 refine wpAny_bind (wpAny_standAt (wpAny_bind (thn (turn n s hI) fun r s₁ h₁=> ?_)))
 cases r with
 |none=>exact wpAny_pure h₁
 | some v=>
  refine wpAny_bind (thn h₁ fun _ s₂ h₂=>wpAny_bind (thn h₂ fun _ s₃ h₃=>wpAny_bind (thn h₃ fun ok s₄ h₄=> ?_)))
  cases ok with
  |false=>exact wpAny_pure ⟨rfl,h₄⟩
  |true=>
   refine wpAny_bind (thn h₄ fun x s₅ h₅=>wpAny_bind (wpAny_standAt (wpAny_bind (wpAny_of_eq (hs2 x) (wpAny_bind (wpAny_holding (thn h₅ fun it2 s₆ h₆=> ?_)))))))
   refine wpAny_bind (wpAny_runOwn (codeAny_mono h₆ fun r s₇ hr=> ?_))
   obtain⟨rfl,hr⟩:=hr
   exact wpAny_pure ⟨rfl,hr⟩
theorem zco
  (h0:codeAny (model prog w) A (.compLoop (lc2 elt tg iter ifs tg2 iter2 ifs2 scope pos) 1 it acc env) R s)
  (h:wpAny (model prog w) A (pyIter it) (fun it' s'=>codeAny (model prog w) A (.compLoop (lc2 elt tg iter ifs tg2 iter2 ifs2 scope pos) 1 it' acc env) R s')
   (notedBy (model prog w) A env fun x s'=>R (.error x) s') s):
  codeAny (model prog w) A (.compStart (lc2 elt tg iter ifs tg2 iter2 ifs2 scope pos) 1 it acc env) R s:=by
 refine codeAny_of_tree ?_
 show wpAny _ _ ((compStart (lc2 elt tg iter ifs tg2 iter2 ifs2 scope pos) 1 it acc env).onRaise (fun x=>do noteFrame x env;standAt theWindowsPlace)) _ _ s
 refine wpAny_notedAt ?_
 unfold compStart
 show wpAny _ _ (ask >>= _) _ _ s
 refine wpAny_bind (wpAny_askSetting (wpAny_ite ?_))
 split
 ·first
   |exact wpAny_bind (wpAny_pure (wpAny_pure (And.intro rfl h0)))
   |exact wpAny_pure (And.intro rfl h0)
 ·refine wpAny_bind (wpAny_rule (wpAny_bind (wpAny_standAt (wpAny_bind (wpAny_mono h (fun it' s' h'=>wpAny_pure (And.intro rfl h')) fun _ _ e=>e)))))
end
noncomputable def InW (J:It)(H1:Hp)(g:TG)(tt:TT)(te:TE)(acc:Addr)(σ:St)(Kt:Hp->Prop):Prop:=
 ∃ V:Nat->Nat->Hp->Prop,(∃m,V 0 m H1)/\∀i m H,V i m H->
  (J.stop i H/\Kt H)∨(J.go i H/\∀x H',J.yld i H x H'->g x σ H' fun σ2 H2=>Wk σ σ2/\tt σ2 H2 fun b H3=>
   if b=true then te σ2 H3 fun v H4=>∃ys,H4 acc=some (.lst ys)/\ys.length<sizeLine/\∃m',m'<m/\V (i+1) m' (upd H4 acc (.lst (ys++[v])))
   else ∃m',m'<m/\V (i+1) m' H3)
noncomputable def LcW2 (J:It)(H1:Hp)(g:TG)(tt:TT)(wi2:TI)(g2:TG)(tt2:TT)(te:TE)(n:Nat)(ix:List Nat)(σ:St)(Q:VK):Prop:=∀acc,H1 acc=none->
 ∃ W:Nat->Nat->Hp->Prop,(∃m,W 0 m (upd H1 acc (.lst [])))/\∀i m H,W i m H->
  (J.stop i H/\Q (.ref acc) H)∨(J.go i H/\∀x H',J.yld i H x H'->g x (zbt n ix σ) H' fun σ2 H2=>Wk (zbt n ix σ) σ2/\tt σ2 H2 fun b H3=>
   if b=true then wi2 σ2 H3 fun J2 H4=>InW J2 H4 g2 tt2 te acc σ2 fun H5=>∃m',m'<m/\W (i+1) m' H5
   else ∃m',m'<m/\W (i+1) m' H3)
noncomputable def tLc2 (wi:TI)(g:TG)(tt:TT)(wi2:TI)(g2:TG)(tt2:TT)(te:TE)(n:Nat)(ix:List Nat):TE:=fun σ H Q=>wi σ H fun J H1=>LcW2 J H1 g tt wi2 g2 tt2 te n ix σ Q
section
variable {X:Cx}{elt tg iter tg2 iter2:Expr}{ifs ifs2:List Expr}{scope:Scope}{pos:Pos}{wi wi2:TI}{g g2:TG}{tt tt2:TT}{te:TE}{N':List Str}{n:Nat}{ix:List Nat}
theorem zjf {pins:List (Addr×Obj)}{σ:St}{H2:Hp}{s2:Shared}{cl:List (Str×Addr)}{it:Addr}{fp:List Addr}{tn:Nat->Heap->Prop}{J:It}{Q:VK}{R:Value->Addr->Result->Shared->Prop}
  (hc:X.calm=true) (S:CompScope X scope N' n ix)
  (hY:∀s₂ H₂ cl C fp,PG (X.comp s₂ H₂ N' scope cl C fp) tg g/\PTs (X.comp s₂ H₂ N' scope cl C fp) ifs tt/\PI (X.comp s₂ H₂ N' scope cl C fp) tg2 iter2 wi2/\PG (X.comp s₂ H₂ N' scope cl C fp) tg2 g2/\PTs (X.comp s₂ H₂ N' scope cl C fp) ifs2 tt2/\
   PE (X.comp s₂ H₂ N' scope cl C fp) elt te)
  (hs2:∀env x,foldedSetIterable iter2 env x=pure x)
  (I2:Inv X pins σ H2 s2) (hcl1:∀x c,cl.lookup x=some c->X.env.cells.lookup x=some c) (hcl2:∀y∈scope.names,y.2=.free->cl.lookup y.1=X.env.cells.lookup y.1)
  (T:Turn X.prog X.w X.K tg J fp it tn) (st2:tn 0 s2.heap) (f2:∀b∈fp,FpOk X pins H2 b)
  (hW:LcW2 J H2 g tt wi2 g2 tt2 te n ix σ Q)
  (hR:∀acc C s' H' m,s'.heap.Ns C m->Inv X pins σ H' s'->H' C=none->C≠X.env.locals->(C∈X.ex∨X.s₀.heap.objs.size<=C)->(∀x c,X.env.cells.lookup x=some c->c≠C)->(∀p∈X.pn++pins,p.1≠C)->C∉X.fs->Q (.ref acc) H'->R (.ref acc) C (.ok .next) s'):
  wpAny (model X.prog X.w) X.A (newList []) (fun acc s₃=>wpAny (model X.prog X.w) X.A (newFunctionEnv scope X.env.globals cl [] X.env.qual none .none (some X.env)) (fun cenv s₄=>
   codeAny (model X.prog X.w) X.A (.compStart (lc2 elt tg iter ifs tg2 iter2 ifs2 scope pos) 0 (.ref it) acc {cenv with scope:=relabel scope X.env}) (R acc cenv.locals) s₄) X.xe s₃) X.xe s2:=by
 refine wpAny_newObj_type (wpAny_newFunctionEnv S.nocell (by intro y hy;simp at hy) (fun h₁ hns₁ hsb₁=> ?_) S.kind)
 dsimp only at hns₁ hsb₁ ⊢
 generalize hH2:s2.heap.push {cls:=.type "list",dict:=none,data:=.seq ([]:List Value).toArray}=G at hns₁ hsb₁ ⊢
 have hC:G.objs.size=s2.heap.objs.size+1:=by rw[<-hH2,Heap.size_push]
 have hlt:∀b∈fp,b<s2.heap.objs.size:=fun b hb=>by
  obtain⟨o,e,_⟩:=T.obj _ _ st2 b hb
  exact Heap.lt_size e
 have old:∀b o,s2.heap.get? b=some o->h₁.get? b=some o:=fun b o e=>hsb₁.extBut b o (by rw[hC];exact Nat.ne_of_lt (Nat.lt_succ_of_lt (Heap.lt_size e))) (Heap.get?_push_of_some _ (hH2▸Heap.get?_push_of_some _ e))
 have hacc:h₁.get? s2.heap.objs.size=some {cls:=.type "list",dict:=none,data:=.seq ([]:List Value).toArray}:=hsb₁.extBut _ _ (by rw[hC];exact Nat.ne_of_lt (Nat.lt_succ_self _)) (Heap.get?_push_of_some _ (hH2▸Heap.get?_push_size _ rfl))
 obtain⟨W,⟨m0,w0⟩,turn⟩:=hW s2.heap.objs.size (I2.hok.fresh (Nat.le_refl _))
 obtain⟨hYg,hYt,hYi,hYg2,hYt2,hYe⟩:=hY s2 H2 cl G.objs.size fp
 have fpY:∀{H':Hp},(∀b∈fp,H' b=none)->∀b∈fp,FpOk (X.comp s2 H2 N' scope cl G.objs.size fp) [] H' b:=fun {H'} hn b hb=>by
  obtain⟨_,q1,q2,q3,q4,q5⟩:=f2 b hb
  refine⟨hn b hb, ?_,fun z=> ?_,.inl hb,fun x c e=>q4 x c (hcl1 x c e),fun p hp=>absurd (show p∈([]:List (Addr×Obj)) from hp) (by simp)⟩
  ·show b≠G.objs.size
   rw[hC]
   exact Nat.ne_of_lt (Nat.lt_succ_of_lt (hlt b hb))
  ·rcases List.mem_cons.mp (I2.stkSub b z) with y|y
   ·exact q1 y
   ·exact q2 y
 have loop:∀s₃:Shared,s₃={s2 with heap:=h₁,toks:=s2.toks+([]:List (Str×Value)).length}->
   codeAny (model X.prog X.w) X.A (.compLoop (lc2 elt tg iter ifs tg2 iter2 ifs2 scope pos) 0 (.ref it) (.ref s2.heap.objs.size) (compEnvC scope cl G.objs.size X.env)) (R (.ref s2.heap.objs.size) G.objs.size) s₃:=by
  rintro s₃ rfl
  have I4:=zgL (tk:=s2.toks+([]:List (Str×Value)).length) I2 S hcl1 hcl2 f2 hlt (Nat.le_refl _) (by rw[hC];exact Nat.le_succ _) (by rw[hC];exact Nat.ne_of_gt (Nat.lt_succ_self _)) old hacc hns₁
  refine zft (fun x=>hs2 _ x) (fun n' s'=>∃i H',Inv (X.comp s2 H2 N' scope cl G.objs.size fp) [] (zbt n ix σ) H' s'/\tn i s'.heap/\(∀b∈fp,H' b=none)/\W i n' H') ?_ m0
   ⟨0,_,I4,T.keep _ _ _ st2 fun b hb o e=>old b o e,fun b hb=> ?_,w0⟩
  ·rintro n' s3 ⟨i,H3,I3,st3,fr3,w3⟩
   rcases turn i n' H3 w3 with⟨stop,q⟩|⟨go,step⟩
   ·refine thn (T.done (X.comp s2 H2 N' scope cl G.objs.size fp) rfl rfl rfl hc i [] s3 _ H3 _ I3 (fpY fr3) st3 stop) fun r s4 zq=> ?_
    obtain⟨hr,I5⟩:=zq
    subst hr
    obtain⟨mC,hnC,_⟩:=I5.loc
    have IX:Inv X pins σ H3 s4:=I2.call' I5.os I5.base I5.hok I5.bare fun b hb=>by
     obtain⟨_,q1,q2,q3,q4,q5⟩:=f2 b hb
     exact⟨q3,q1,q4,q5⟩
    refine hR _ _ s4 H3 mC hnC IX I5.free ?_ (.inr ?_) (fun x c e z=> ?_) (fun p hp z=> ?_) (I2.nofs (by rw[hC];exact Nat.le_succ _)) q
    ·rw [hC]
     exact Nat.ne_of_gt (Nat.lt_succ_of_lt I2.lt)
    ·rw [hC]
     exact Nat.le_succ_of_le I2.sz
    ·obtain ⟨v,q⟩:=I2.cell x c e
     rw[hC] at z
     exact absurd z (Nat.ne_of_lt (Nat.lt_succ_of_lt q.lt))
    ·rw [hC] at z
     exact absurd z (Nat.ne_of_lt (Nat.lt_succ_of_lt (Heap.lt_size (I2.pin p hp).1)))
   ·refine thn (T.item (X.comp s2 H2 N' scope cl G.objs.size fp) rfl rfl rfl hc i [] s3 _ H3 _ I3 (fpY fr3) st3 go) fun r s4 zq=> ?_
    obtain⟨u,hr,h4⟩:=zq
    subst hr
    refine thn h4 fun _ s5 zq=> ?_
    obtain⟨x,H5,I5,r5,y5,st5,fr5⟩:=zq
    have I5':=I5.pinned (fpY fr5) (T.obj _ _ st5)
    refine thn (hYg _ s5 _ H5 x u _ I5' r5 (step x H5 y5)) fun _ s6 zq=> ?_
    obtain⟨σ6,H6,I6,wk,q6⟩:=zq
    have back:∀{H':Hp} {s':Shared},Inv (X.comp s2 H2 N' scope cl G.objs.size fp) ([]++zbV fp s5.heap) σ6 H' s'->
      Inv (X.comp s2 H2 N' scope cl G.objs.size fp) [] (zbt n ix σ) H' s'/\tn (i+1) s'.heap/\∀b∈fp,H' b=none:=fun {H' s'} I7=>by
     refine⟨I7.unpinned.weak wk.1 wk.2,T.keep _ _ _ st5 fun b hb o e=>(I7.pin (b,o) (List.mem_append_right _ (List.mem_append_right _ (zaS hb e)))).1,fun b hb=> ?_⟩
     obtain⟨o,e,d⟩:=T.obj _ _ st5 b hb
     exact (I7.pin (b,o) (List.mem_append_right _ (List.mem_append_right _ (zaS hb e)))).2.1
    refine thn (hYt _ s6 σ6 H6 _ I6 q6) fun ok s7 zq=> ?_
    obtain⟨H7,I7,q7⟩:=zq
    cases ok with
    |false=>
     rw[if_neg Bool.false_ne_true] at q7 ⊢
     obtain⟨m',hm,w7⟩:=q7
     obtain⟨b1,b2,b3⟩:=back I7
     exact⟨m',hm,i+1,H7,b1,b2,b3,w7⟩
    | true=>
     rw[if_pos rfl] at q7 ⊢
     refine thn (hYi _ s7 σ6 H7 _ I7 q7) fun xv s8 h8=>thn h8 fun itv s9 h9=> ?_
     obtain⟨it2,fp2,tn2,J2,H9,rfl,I9,T2,st9,f9,V,⟨m1,v0⟩,turn2⟩:=h9
     have stat2:∀{H':Hp},(∀b∈fp2,H' b=none)->∀b∈fp2,FpOk (X.comp s2 H2 N' scope cl G.objs.size fp) ([]++zbV fp s5.heap) H' b:=fun hn b hb=>⟨hn b hb,(f9 b hb).2⟩
     have loop2:codeAny (model X.prog X.w) X.A (.compLoop (lc2 elt tg iter ifs tg2 iter2 ifs2 scope pos) 1 (.ref it2) (.ref s2.heap.objs.size) (compEnvC scope cl G.objs.size X.env))
       (fun r s₇=>r=.ok .next/\∃m,m<n'/\∃i H',Inv (X.comp s2 H2 N' scope cl G.objs.size fp) [] (zbt n ix σ) H' s₇/\tn i s₇.heap/\(∀b∈fp,H' b=none)/\W i m H') s9:=by
      refine zf8 (fun n'' s'=>∃j H',Inv (X.comp s2 H2 N' scope cl G.objs.size fp) ([]++zbV fp s5.heap) σ6 H' s'/\tn2 j s'.heap/\(∀b∈fp2,H' b=none)/\V j n'' H') ?_ m1 ⟨0,H9,I9,st9,fun b hb=>(f9 b hb).1,v0⟩
      rintro n'' s10 ⟨j,H10,I10,st10,fr10,v10⟩
      rcases turn2 j n'' H10 v10 with⟨stop2,q10⟩|⟨go2,step2⟩
      ·refine thn (T2.done (X.comp s2 H2 N' scope cl G.objs.size fp) rfl rfl rfl hc j _ s10 _ H10 _ I10 (stat2 fr10) st10 stop2) fun r s11 zq=> ?_
       obtain⟨hr,I11⟩:=zq
       subst hr
       obtain⟨m',hm,w10⟩:=q10
       obtain⟨b1,b2,b3⟩:=back I11
       exact⟨rfl,m',hm,i+1,H10,b1,b2,b3,w10⟩
      ·refine thn (T2.item (X.comp s2 H2 N' scope cl G.objs.size fp) rfl rfl rfl hc j _ s10 _ H10 _ I10 (stat2 fr10) st10 go2) fun r s11 zq=> ?_
       obtain⟨u2,hr,h11⟩:=zq
       subst hr
       refine thn h11 fun _ s12 zq=> ?_
       obtain⟨y,H12,I12,r12,y12,st12,fr12⟩:=zq
       have I12':=I12.pinned (stat2 fr12) (T2.obj _ _ st12)
       refine thn (hYg2 _ s12 _ H12 y u2 _ I12' r12 (step2 y H12 y12)) fun _ s13 zq=> ?_
       obtain⟨σ13,H13,I13,wk2,q13⟩:=zq
       have back2:∀{H':Hp} {s':Shared},Inv (X.comp s2 H2 N' scope cl G.objs.size fp) (([]++zbV fp s5.heap)++zbV fp2 s12.heap) σ13 H' s'->
         Inv (X.comp s2 H2 N' scope cl G.objs.size fp) ([]++zbV fp s5.heap) σ6 H' s'/\tn2 (j+1) s'.heap/\∀b∈fp2,H' b=none:=fun {H' s'} I7=>by
        refine⟨I7.unpinned.weak wk2.1 wk2.2,T2.keep _ _ _ st12 fun b hb o e=>(I7.pin (b,o) (List.mem_append_right _ (List.mem_append_right _ (zaS hb e)))).1,fun b hb=> ?_⟩
        obtain⟨o,e,d⟩:=T2.obj _ _ st12 b hb
        exact (I7.pin (b,o) (List.mem_append_right _ (List.mem_append_right _ (zaS hb e)))).2.1
       refine thn (hYt2 _ s13 σ13 H13 _ I13 q13) fun ok2 s14 zq=> ?_
       obtain⟨H14,I14,q14⟩:=zq
       cases ok2 with
       |false=>
        rw[if_neg Bool.false_ne_true] at q14 ⊢
        obtain⟨m',hm,v14⟩:=q14
        obtain⟨b1,b2,b3⟩:=back2 I14
        exact⟨m',hm,j+1,H14,b1,b2,b3,v14⟩
       |true=>
        rw[if_pos rfl] at q14 ⊢
        refine thn (hYe _ s14 σ13 H14 _ I14 q14) fun xv s15 zq=> ?_
        obtain⟨v15,H15,I15,r15,ys,ha,hz,m',hm,w15⟩:=zq
        refine thn (zbE _ s15 σ13 H15 (.ref s2.heap.objs.size) [v15] (.ref s2.heap.objs.size) [xv] (fun _ H'=>H'=upd H15 s2.heap.objs.size (.lst (ys++[v15]))) I15 rfl (.cons r15 .nil) ⟨_,ys,v15,rfl,rfl,ha,hz,rfl⟩) fun _ s16 zq=> ?_
        obtain⟨_,H16,I16,_,e16⟩:=zq
        subst e16
        obtain⟨b1,b2,b3⟩:=back2 I16
        exact⟨m',hm,j+1,_,b1,b2,b3,w15⟩
     exact zco loop2 (T2.self _ 0 _ _ _ st9 loop2)
  ·rw [zan (Nat.ne_of_lt (hlt b hb))]
   exact (f2 b hb).1
 exact codeAny_compStart_list (loop _ rfl) (T.self _ 0 _ _ _ (T.keep _ _ _ st2 fun b hb o e=>old b o e) (loop _ rfl))
theorem zjP (hc:X.calm=true)(S:CompScope X scope N' n ix)(hi:PI X tg iter wi)
  (hY:∀s₂ H₂ cl C fp,PG (X.comp s₂ H₂ N' scope cl C fp) tg g/\PTs (X.comp s₂ H₂ N' scope cl C fp) ifs tt/\PI (X.comp s₂ H₂ N' scope cl C fp) tg2 iter2 wi2/\PG (X.comp s₂ H₂ N' scope cl C fp) tg2 g2/\PTs (X.comp s₂ H₂ N' scope cl C fp) ifs2 tt2/\
   PE (X.comp s₂ H₂ N' scope cl C fp) elt te)
  (hs:∀x,foldedSetIterable iter X.env x=pure x:=by intro _;rfl) (hs2:∀env x,foldedSetIterable iter2 env x=pure x:=by intro _ _;rfl):
  PE X (.ListComp elt [⟨tg,iter,ifs,0⟩,⟨tg2,iter2,ifs2,0⟩] scope pos) (tLc2 wi g tt wi2 g2 tt2 te n ix):=by
 intro pins s σ H Q I h
 obtain⟨cl,hcl,hcl1,hcl2⟩:=zcZ (env:=X.env) (scope:=scope) fun y hy hf=>I.ok.has _ (S.free y hy hf)
 rw[eval_ListComp]
 refine wpAny_comprehension_free (use:=none) rfl hs hcl S.kind S.names (thn (hi pins s σ H _ I h) fun v s1 h1=>thn h1 fun itv s2 h2=> ?_)
 obtain⟨it,fp,tn,J,H2,rfl,I2,T,st2,f2,hW⟩:=h2
 refine zjf (R:=fun acc C=>compPost (model X.prog X.w) X.A X.xe none (EP X pins σ Q) acc C) hc S hY hs2 I2 hcl1 hcl2 T st2 f2 hW ?_
 intro acc C s' H' m hn IX hf hL h1 h2 h3 h4 q
 exact⟨m,hn,fun h' sb=>⟨.ref acc,H',IX.turned (t':=s'.toks) (fun b o hb e=>sb.extBut b o hb e) hf hL h1 h2 h3,rfl,q⟩⟩
end
noncomputable def Itel (K:PySem.W.Frag)(a:Addr):It:=
 ⟨fun i H=>∃xs x,SqL K H a xs/\xs[i]? =some x,fun i H v H'=>∃t x,H t=none/\v=.ref t/\H'=upd H t (.tup [.int i,x])/\∀xs,SqL K H a xs->xs[i]? =some x,fun i H=>∃xs,SqL K H a xs/\xs.length=i⟩
theorem zhs {P:Program}{w:World}{K:PySem.W.Frag}{els:List Expr}{kx}{tp:Pos}(a e it:Addr)(hne:e≠it):Turn P w K (.Tuple els kx tp) (Itel K a) [e,it] e (fun i h=>(∃old,IsEnum h e it i old)/\h.IsListIter it a i) where
 mem:=by simp
 obj:=fun i h st b hb=>by
  obtain⟨⟨old,he⟩,o,ho,hc,hd⟩:=st
  rcases List.mem_cons.mp hb with rfl|hb
  ·exact⟨_,he,fun v z=>by cases z⟩
  ·rw [List.mem_singleton.mp hb]
   exact⟨o,ho,fun v z=>by rw[hd] at z;cases z⟩
 keep:=fun i h h' st k=>by
  obtain⟨⟨old,he⟩,o,ho,r⟩:=st
  exact⟨⟨old,k e (by simp) _ he⟩,o,k it (by simp) _ ho,r⟩
 item:=by
  intro X hP hw hK hc i pins s σ H E I hf st hg
  subst hP hw hK
  obtain⟨xs,x,hq,hx⟩:=hg
  obtain⟨its,rv,p,hz⟩:=I.list hq
  obtain⟨u,hu,ru⟩:=rv.get hx
  obtain⟨⟨old,he⟩,hi⟩:=st
  obtain⟨o,ho,hcl,hd⟩:=id hi
  have hT:s.heap.IsList a its.toArray:=p.isList
  have hai:a≠it:=fun z=>by
   obtain⟨o',e1,e2,_⟩:=p.isList
   rw[z,ho] at e1;cases e1;rw[hcl] at e2;injection e2 with z2;revert z2;decide
  have hae:e≠a:=fun z=>by
   obtain⟨o',e1,e2,_⟩:=p.isList
   rw[<-z,he] at e1;cases e1;injection e2 with z2;revert z2;decide
  have hlt:i<its.toArray.size:=by
   have:=(List.getElem?_eq_some_iff.mp hu).1
   simpa using this
  have hh:X.A.in1.handled=none:=I.ok.hd hc
  refine wpAny_pyNext_enum_itemD (Draws.list hh it a hai its.toArray) he ⟨hi,hT⟩ hlt hne (by simp[hne,hae]) fun x' h1 tk hP1 ho1 hs1 hT1 hz1 hk1=> ?_
  have ex:x'=u:=by
   have q:its[i]? =some x':=by simpa using hP1
   rw[hu] at q;exact (Option.some.inj q).symm
  subst ex
  refine⟨_,rfl,wpAny_letOwnedTupleGo_enum ho1 fun h2 he2 hs2=> ?_⟩
  have hne0:s.heap.objs.size≠e:=Nat.ne_of_gt (Heap.lt_size he)
  have keep:∀b o,b∉[e,it]->s.heap.get? b=some o->h2.get? b=some o:=fun b o hb e0=>(hs2.2 b fun z=>hb (by simp[z])).trans (hk1 b o (fun z=>hb (by simp[z])) (fun z=>hb (by simp[z])) e0)
  refine⟨.ref s.heap.objs.size,_,I.turnedT (h':=h2) (t':=tk+1) (xs:=[.int i,x]) hf keep (.cons ⟨tk,rfl⟩ (.cons ru .nil)) ⟨_,(hs2.2 _ hne0).trans hT1,rfl,⟨_,rfl⟩,rfl,rfl⟩ (by show 2<=sizeLine;decide),rfl,⟨_,x,I.hok.fresh (Nat.le_refl _),rfl,rfl,fun ys hy=>by rw[I.list_inj hy hq];exact hx⟩,⟨⟨_,by simpa using he2⟩, ?_⟩,fun b hb=> ?_⟩
  ·obtain ⟨⟨o1,e1,r1⟩,_⟩:=hs1
   exact⟨o1,(hs2.2 it (Ne.symm hne)).trans e1,r1⟩
  ·rcases List.mem_cons.mp hb with rfl|hb'
   ·rw[zan (Nat.ne_of_lt (Heap.lt_size he))];exact (hf _ hb).1
   ·have e9:=List.mem_singleton.mp hb'
    subst e9
    rw[zan (Nat.ne_of_lt (Heap.lt_size ho))];exact (hf _ hb).1
 done:=by
  intro X hP hw hK hc i pins s σ H E I hf st hg
  subst hP hw hK
  obtain⟨xs,hq,hx⟩:=hg
  obtain⟨its,rv,p,hz⟩:=I.list hq
  obtain⟨⟨old,he⟩,hi⟩:=st
  obtain⟨o,ho,hcl,hd⟩:=id hi
  have hT:s.heap.IsList a its.toArray:=p.isList
  have hai:a≠it:=fun z=>by
   obtain⟨o',e1,e2,_⟩:=p.isList
   rw[z,ho] at e1;cases e1;rw[hcl] at e2;injection e2 with z2;revert z2;decide
  have hh:X.A.in1.handled=none:=I.ok.hd hc
  have hl:its.toArray.size=i:=by rw[List.size_toArray,<-rv.length,hx]
  refine wpAny_pyNext_enum_endD (Draws.list hh it a hai its.toArray) he (by rw[hl];exact⟨hi,hT⟩) fun h1 hk=>⟨rfl, ?_⟩
  exact I.turnedN (t':=s.toks) hf fun b o hb e0=>hk b o (fun z=>hb (by simp[z])) e0
 self:=fun _ _ _ _ _ st h=>by
  obtain⟨⟨old,he⟩,_⟩:=st
  exact wpAny_pyIter_enum he h
section
variable {X:Cx}
noncomputable def zk8 (K:PySem.W.Frag)(ta:TA):TI:=fun σ H R=>ta σ H fun vs H1=>∃a,vs=[.ref a]/\(∃xs,SqL K H1 a xs)/\R (Itel K a) H1
theorem zjg {els:List Expr}{kx}{tp:Pos}{l:Expr}{ta:TA}{p pos:Pos}(hg:Gl X "enumerate")(hm:X.mg "enumerate" =none)(ha:PA X [l] ta)(hs:starEach [l] X.env=[(false,eval l X.env)]:=by rfl):
  PI X (.Tuple els kx tp) (.Call (.Name "enumerate" p) [l] [] pos) (zk8 X.K ta):=by
 intro pins s σ H R I h
 refine Call_ (zdu I hg hm boot_enumerate (PyProof.Rows.callWith_type1 (thn (ha pos pins s σ H _ I h) fun us s1 zq=> ?_) hs rfl))
 obtain⟨vs,H1,I1,r1,q1⟩:=zq
 obtain⟨a,rfl,⟨xs,hq⟩,q⟩:=q1
 obtain⟨u,rfl,ru⟩:=zcH r1
 cases (show u=Value.ref a from ru)
 obtain⟨its,rv,p',hz⟩:=I1.list hq
 refine call_enumerate_list p'.isList fun h' he hi hsz hk=>wpAny_pyIter_enum he ?_
 have I2:Inv X pins σ H1 {s1 with heap:=h'}:=I1.kept (t':=s1.toks) hk
 refine⟨s1.heap.objs.size+1,[s1.heap.objs.size+1,s1.heap.objs.size],_,_,H1,rfl,I2,zhs a _ _ (Nat.ne_of_gt (Nat.lt_succ_self _)),⟨⟨_,he⟩,hi⟩,fun b hb=> ?_,q⟩
 rcases List.mem_cons.mp hb with rfl|hb
 ·exact I1.fpOk (Nat.le_succ _) (I1.hok.fresh (Nat.le_succ _))
 ·rw [List.mem_singleton.mp hb]
  exact I1.fpOk (Nat.le_refl _) (I1.hok.fresh (Nat.le_refl _))
end
noncomputable def zbp (xs:List V)(ys:V->List V)(p:V->V->Bool):List (V×V):=xs.flatMap fun x=>((ys x).filter (p x)).map fun y=>(x,y)
theorem zjh {J:It}{Ok:Hp->Prop}{xs:List V}{wi2:TI}{tt2:TT}{te:TE}{ix:List Nat}{σ:L2.St}{H1:Hp}{Q:VK}(Y:Yields J Ok xs)(ys:V->List V)(p:V->V->Bool)(R:V×V->V->Hp->Prop)
  (small:(zbp xs ys p).length<sizeLine) (hR:∀xy v H H',SameT H H'->R xy v H->R xy v H') (hok:∀H,Same H1 H->Ok H)
  (hin:∀x∈xs,∀H,Same H1 H->∀Rr:It->Hp->Prop,(∀J2 Ok2 H',Same H H'->Yields J2 Ok2 (ys x)->(∀G,SameT H' G->Same H1 G->Ok2 G)->Rr J2 H')->wi2 (some x::none::ix.map fun i=>σ.getD i none) H Rr)
  (ht:∀x∈xs,∀y∈ys x,∀H,Same H1 H->∀Q':Bool->Hp->Prop,Q' (p x y) H->tt2 (some x::some y::ix.map fun i=>σ.getD i none) H Q')
  (he:∀x∈xs,∀y∈ys x,p x y=true->∀H,Same H1 H->∀Q':VK,(∀v H',Same H H'->R (x,y) v H'->Q' v H')->te (some x::some y::ix.map fun i=>σ.getD i none) H Q')
  (fin:∀acc vs H',H1 acc=none->Same H1 H'->H' acc=some (.lst vs)->Paired (fun xy v=>R xy v H') (zbp xs ys p) vs->Q (.ref acc) H'):
  LcW2 J H1 (zbi 0) zbm wi2 (zbi 1) tt2 te 2 ix σ Q:=by
 intro acc ha
 refine⟨fun i m H=>m=xs.length-i/\i<=xs.length/\Same H1 H/\∃vs,H acc=some (.lst vs)/\Paired (fun xy v=>R xy v H) (zbp (xs.take i) ys p) vs,⟨xs.length,by simp,Nat.zero_le _,zac ha,[],zaa,.nil⟩, ?_⟩
 rintro i m H ⟨rfl,hi,sm,vs,hacc,pr⟩
 have o:=hok _ sm
 by_cases hlt:i<xs.length
 ·refine .inr ⟨Y.go i _ o hlt,fun x H' y=> ?_⟩
  obtain⟨rfl,hx⟩:=Y.yld i _ x H' o hlt y
  have hmem:x∈xs:=List.mem_of_getElem? hx
  have htk:zbp (xs.take (i+1)) ys p=zbp (xs.take i) ys p++((ys x).filter (p x)).map fun y=>(x,y):=by
   unfold zbp
   rw[List.take_succ,hx]
   simp
  have hle:(zbp (xs.take (i+1)) ys p).length<=(zbp xs ys p).length:=by
   have e:zbp xs ys p=zbp (xs.take (i+1)) ys p++zbp (xs.drop (i+1)) ys p:=by
    unfold zbp
    conv=>lhs;rw[<-List.take_append_drop (i+1) xs]
    rw[List.flatMap_append]
   rw[e,List.length_append]
   (first|lia|omega)
  refine⟨⟨rfl,fun j v e=> ?_⟩, ?_⟩
  ·cases j with
   |zero=>cases e
   |succ j=>exact e
  ·unfold zbm
   dsimp only
   rw[if_pos rfl]
   refine hin x hmem _ sm _ fun J2 Ok2 H4 s4 Y2 hok2=> ?_
   refine⟨fun j m2 G=>m2=(ys x).length-j/\j<=(ys x).length/\SameT H4 G/\Same H1 G/\∃us,G acc=some (.lst us)/\Paired (fun xy v=>R xy v G) (zbp (xs.take i) ys p++(((ys x).take j).filter (p x)).map fun y=>(x,y)) us,
    ⟨(ys x).length,by simp,Nat.zero_le _,fun _ _ e=>e,sm.trans s4,vs,s4 _ _ hacc,by simpa using Paired.mapP pr fun xy v r=>hR xy v _ _ s4.t r⟩, ?_⟩
   rintro j m2 G ⟨rfl,hj,st,sm5,us,hus,pr5⟩
   have o2:=hok2 G st sm5
   by_cases hjl:j<(ys x).length
   ·refine .inr ⟨Y2.go j _ o2 hjl,fun y G' yy=> ?_⟩
    obtain⟨rfl,hy⟩:=Y2.yld j _ y G' o2 hjl yy
    have hymem:y∈ys x:=List.mem_of_getElem? hy
    have htk2:(ys x).take (j+1)=(ys x).take j++[y]:=by rw[List.take_succ,hy];rfl
    refine⟨⟨rfl,fun k v e=> ?_⟩, ?_⟩
    ·cases k with
     |zero=>exact e
     |succ k=>
      cases k with
      |zero=>cases e
      |succ k=>exact e
    ·refine ht x hmem y hymem _ sm5 _ ?_
     cases hp:p x y with
     |false=>
      rw[if_neg Bool.false_ne_true]
      refine⟨(ys x).length-(j+1),by (first|lia|omega),rfl,hjl,st,sm5,us,hus, ?_⟩
      rw[htk2,List.filter_append]
      simpa [hp] using pr5
     | true=>
      rw[if_pos rfl]
      refine he x hmem y hymem hp _ sm5 _ fun v G4 t4 r4=> ?_
      have hus4:G4 acc=some (.lst us):=t4 _ _ hus
      have st6:SameT G4 (upd G4 acc (.lst (us++[v]))):=zbY hus4
      have hlen:us.length<sizeLine:=by
       have e1:=Paired.length pr5
       rw[List.length_append,List.length_map] at e1
       have e2:(((ys x).take j).filter (p x)).length<=((ys x).filter (p x)).length:=by
        conv=>rhs;rw[<-List.take_append_drop j (ys x),List.filter_append,List.length_append]
        (first|lia|omega)
       rw[htk,List.length_append,List.length_map] at hle
       (first|lia|omega)
      refine⟨us,hus4,hlen,(ys x).length-(j+1),by (first|lia|omega),rfl,hjl,(st.trans t4.t).trans st6,zav (sm5.trans t4) ha,us++[v],zaa, ?_⟩
      rw[htk2,List.filter_append,List.map_append,<-List.append_assoc]
      simp only[List.filter_cons,hp,if_true,List.filter_nil,List.map_cons,List.map_nil]
      exact Paired.snoc (Paired.mapP pr5 fun xy v r=>hR xy v _ _ (t4.t.trans st6) r) (hR _ _ _ _ st6 r4)
   ·have e:j=(ys x).length:=by (first|lia|omega)
    subst e
    refine .inl ⟨Y2.stop _ o2,xs.length-(i+1),by (first|lia|omega),rfl,hlt,sm5,us,hus, ?_⟩
    rw[List.take_length] at pr5
    rw[htk]
    exact pr5
 ·have e:i=xs.length:=by (first|lia|omega)
  subst e
  refine .inl ⟨Y.stop _ o, ?_⟩
  rw[List.take_length] at pr
  exact fin acc vs H ha sm hacc pr
section
variable {X:Cx}
noncomputable def rSlA:V->Option Int->Option Int->Hp->VK->Prop:=fun x lo hi H Q=>∃a xs,x=.ref a/\H a=some (.tup xs)/\∀p H',Same H H'->H' p=some (.tup (cutV xs lo hi))->Q (.ref p) H'
theorem zf9:SlR X rSlA:=by
 intro pins s σ H x v vl vu lo hi sl Q I rx hs pl pu h
 obtain⟨a,xs,rfl,ha,q⟩:=h
 by_cases hw:HT.sIx xs.length 0 lo=0/\HT.sIx xs.length xs.length hi=xs.length
 ·cases rx
  obtain⟨its,r,ht,hz⟩:=I.tuple (SqT.of (K:=X.K) ha)
  have hl:its.toArray.size=xs.length:=by rw[List.size_toArray];exact r.length.symm
  refine⟨"tuple",_,PyProof.Rows.slot_tuple_getitem.lookup,ht.typeIs, ?_⟩
  refine zbo ht hs pl pu (by rw[hl];exact hw) ⟨.ref a,H,I,rfl,q a H (Same.refl H) ?_⟩
  unfold cutV
  rw[hw.1,hw.2,List.drop_zero,Nat.sub_zero,List.take_length]
  exact ha
 ·exact zjN pins s σ H _ v vl vu lo hi sl Q I rx hs pl pu ⟨a,xs,rfl,SqT.of ha,hw,fun p hp=>q p _ (zac hp) zaa⟩
end
theorem zij {K:PySem.W.Frag}{a:Addr}{xs:List V}{g:TG}{tb:TS}{D:Ends}{σ:L2.St}{H:Hp}(Pv:Nat->L2.St->Hp->Prop)(h0:Pv 0 σ H)(hl:∀i σ H,i<=xs.length->Pv i σ H->SqL K H a xs)
  (hs:∀i x t σ H,xs[i]? =some x->Pv i σ H->H t=none->g (.ref t) σ (upd H t (.tup [.int i,x])) fun σ2 H2=>tb {D with nx:=Pv (i+1),ct:=Pv (i+1),bk:=D.nx} σ2 H2) (hd:∀σ H,Pv xs.length σ H->D.nx σ H):
  ∃W:Nat->Nat->L2.St->Hp->Prop,(∃m,W 0 m σ H)/\∀i m σ H,W i m σ H->
   ((Itel K a).stop i H/\D.nx σ H)∨((Itel K a).go i H/\∃N:L2.St->Hp->Prop,(∀σ' H',N σ' H'->∃m',m'<m/\W (i+1) m' σ' H')/\∀x H',(Itel K a).yld i H x H'->g x σ H' fun σ2 H2=>tb {D with nx:=N,ct:=N,bk:=D.nx} σ2 H2):=by
 refine⟨fun i m σ H=>m=xs.length-i/\i<=xs.length/\Pv i σ H,⟨xs.length,by simp,Nat.zero_le _,h0⟩, ?_⟩
 rintro i m σ H ⟨rfl,hi,p⟩
 have q:=hl i σ H hi p
 by_cases hlt:i<xs.length
 ·refine .inr ⟨⟨xs,xs[i],q,by simp[hlt]⟩,Pv (i+1),fun σ' H' p'=>⟨xs.length-(i+1),by (first|lia|omega),rfl,hlt,p'⟩,fun x H' y=> ?_⟩
  obtain⟨t,x',ht,rfl,rfl,y⟩:=y
  exact hs i x' t σ _ (y xs q) p ht
 ·have e:i=xs.length:=by (first|lia|omega)
  subst e
  exact .inl ⟨⟨xs,q,rfl⟩,hd σ H p⟩
section
variable {X:Cx}{elt tg iter tg2 iter2:Expr}{ifs ifs2:List Expr}{scope:Scope}{pos:Pos}{wi wi2:TI}{g g2:TG}{tt tt2:TT}{te:TE}{N':List Str}{n:Nat}{ix:List Nat}
end
noncomputable def zlN (m:Nat)(b:List Int):List Int:=(num0 m).filter fun x=>decide (x∉b)
structure Beg (m k:Nat) (b:List Int):Prop where
 len:b.length=k
 nd:b.Nodup
 rng:∀y∈b,0<=y/\y<m
 free:(zlN m b).length+k=m
theorem zfu (n:Nat):num0 (n+1)=num0 n++[(n:Int)]:=by simp[num0,List.range_succ]
theorem RowsAt.get {H:Hp}:∀{zs:List Addr} {rows:List (List Int)},RowsAt H zs rows->∀{i:Nat} {z:Addr},zs[i]? =some z->∃r,rows[i]? =some r/\H z=some (.tup (r.map V.int))
 |_,_,.nil,_,_,h=>by simp at h
 |_,_,.cons r _,0,_,h=>by simp at h;subst h;exact⟨_,rfl,r⟩
 |_,_,.cons _ t,i+1,_,h=>RowsAt.get t (i:=i) (by simpa using h)
section
variable {X:Cx}
end
noncomputable def enF (p:Nat->V->Bool)(f:Nat->V->V):Nat->List V->List V
 |_,[]=>[]
 |i,x::t=>(if p i x then [f i x] else [])++enF p f (i+1) t
theorem zeo (p:Nat->V->Bool)(f:Nat->V->V):∀(i:Nat) (a b:List V),enF p f i (a++b)=enF p f i a++enF p f (i+a.length) b
 |_,[],_=>by simp[enF]
 |i,x::t,b=>by
  show (if p i x then [f i x] else [])++enF p f (i+1) (t++b)=_
  rw[zeo p f (i+1) t b]
  simp only[enF,List.append_assoc,List.length_cons]
  rw[show i+1+t.length=i+(t.length+1) by (first|lia|omega)]
theorem zik (p:Nat->V->Bool)(f:Nat->V->V):∀(i:Nat) (a:List V),(enF p f i a).length<=a.length
 |_,[]=>Nat.le_refl _
 |i,x::t=>by
  have:=zik p f (i+1) t
  simp only[enF,List.length_append,List.length_cons]
  split<;>simp<;>(first|lia|omega)
theorem zkh {K:PySem.W.Frag}{a:Addr}{xs:List V}{tt:TT}{te:TE}{ix:List Nat}{σ:L2.St}{H1:Hp}{Q:VK}(Fx:∀{H},Same H1 H->SqT K H a xs)(small:xs.length<=1000)(p:Nat->V->Bool)(f:Nat->V->V)
  (ht:∀(i:Nat) x,xs[i]? =some x->∀H,Same H1 H->∀Q':Bool->Hp->Prop,Q' (p i x) H->tt (some (.int i)::some x::ix.map fun i=>σ.getD i none) H Q')
  (he:∀(i:Nat) x,xs[i]? =some x->p i x=true->∀H,Same H1 H->∀Q':VK,Q' (f i x) H->te (some (.int i)::some x::ix.map fun i=>σ.getD i none) H Q')
  (fin:∀acc H',H1 acc=none->Same H1 H'->H' acc=some (.lst (enF p f 0 xs))->Q (.ref acc) H'):
  LcW (Ite K a) H1 (gTup K 2 (zdw (zbi 0) (zdw (zbi 1) gNil))) tt te 2 ix σ Q:=by
 intro acc ha
 refine⟨fun i m H=>m=xs.length-i/\i<=xs.length/\Same H1 H/\H acc=some (.lst (enF p f 0 (xs.take i))),⟨xs.length,by simp,Nat.zero_le _,zac ha,zaa⟩, ?_⟩
 rintro i m H ⟨rfl,hi,sm,hacc⟩
 by_cases hlt:i<xs.length
 ·refine .inr ⟨⟨xs,xs[i],Fx sm,List.getElem?_eq_getElem hlt⟩,fun v H' y=> ?_⟩
  obtain⟨t,x,hn,rfl,rfl,hv⟩:=y
  have e1:=hv xs (Fx sm)
  have htk:enF p f 0 (xs.take (i+1))=enF p f 0 (xs.take i)++(if p i x then [f i x] else []):=by
   have hl:(xs.take i).length=i:=by rw[List.length_take];(first|lia|omega)
   rw[List.take_succ,e1,zeo,hl]
   simp[enF]
  refine⟨t,_,rfl,SqT.of zaa,rfl,_,_,rfl,x,_,rfl,rfl,⟨rfl,fun j v e=> ?_⟩, ?_⟩
  ·match j,e with
   |0,e=>cases e
   |1,e=>cases e
   |j+2,e=>exact e
  ·have sm2:=sm.trans (zac (o:=.tup [.int i,x]) hn)
   have hacc2:(upd H t (.tup [.int i,x])) acc=some (.lst (enF p f 0 (xs.take i))):=zac hn _ _ hacc
   refine ht i x e1 _ sm2 _ ?_
   cases hp:p i x with
   |false=>
    rw[if_neg Bool.false_ne_true]
    refine⟨xs.length-(i+1),by (first|lia|omega),rfl,hlt,sm2, ?_⟩
    rw[htk,hp,if_neg Bool.false_ne_true,List.append_nil]
    exact hacc2
   |true=>
    rw[if_pos rfl]
    refine he i x e1 hp _ sm2 _ ⟨_,hacc2,za9 (Nat.le_trans (zik _ _ _ _) (by rw[List.length_take];(first|lia|omega))),xs.length-(i+1),by (first|lia|omega),rfl,hlt,zav sm2 ha, ?_⟩
    rw[zaa,htk,hp,if_pos rfl]
 ·have e:i=xs.length:=by (first|lia|omega)
  subst e
  rw[List.take_length] at hacc
  exact .inl ⟨⟨xs,Fx sm,rfl⟩,fin acc H ha sm hacc⟩
theorem zk9 {K:PySem.W.Frag}{a b:Addr}{xs ys:List V}{tt:TT}{te:TE}{ix:List Nat}{σ:L2.St}{H1:Hp}{Q:VK}(Fx:∀{H},Same H1 H->SqT K H a xs)(Fy:∀{H},Same H1 H->SqT K H b ys)(small:(xs.zip ys).length<=1000)(p:V×V->Bool)(f:V×V->V)
  (ht:∀xy∈xs.zip ys,∀H,Same H1 H->∀Q':Bool->Hp->Prop,Q' (p xy) H->tt (some xy.1::some xy.2::ix.map fun i=>σ.getD i none) H Q')
  (he:∀xy∈xs.zip ys,p xy=true->∀H,Same H1 H->∀Q':VK,Q' (f xy) H->te (some xy.1::some xy.2::ix.map fun i=>σ.getD i none) H Q')
  (fin:∀acc H',H1 acc=none->Same H1 H'->H' acc=some (.lst (((xs.zip ys).filter p).map f))->Q (.ref acc) H'):
  LcW (Itz K a b) H1 (gTup K 2 (zdw (zbi 0) (zdw (zbi 1) gNil))) tt te 2 ix σ Q:=by
 intro acc ha
 refine⟨fun i m H=>m=(xs.zip ys).length-i/\i<=(xs.zip ys).length/\Same H1 H/\H acc=some (.lst ((((xs.zip ys).take i).filter p).map f)),⟨(xs.zip ys).length,by simp,Nat.zero_le _,zac ha,zaa⟩, ?_⟩
 rintro i m H ⟨rfl,hi,sm,hacc⟩
 by_cases hlt:i<(xs.zip ys).length
 ·have hl2:i<xs.length/\i<ys.length:=by rw[List.length_zip] at hlt;(first|lia|omega)
  refine .inr ⟨⟨xs,ys,xs[i],ys[i],Fx sm,Fy sm,List.getElem?_eq_getElem hl2.1,List.getElem?_eq_getElem hl2.2⟩,fun v H' y=> ?_⟩
  obtain⟨t,x,y,hn,rfl,rfl,hv⟩:=y
  obtain⟨e1,e2⟩:=hv xs ys (Fx sm) (Fy sm)
  have ez:(xs.zip ys)[i]? =some (x,y):=by rw[List.getElem?_zip_eq_some];exact⟨e1,e2⟩
  have hmem:(x,y)∈xs.zip ys:=List.mem_of_getElem? ez
  have htk:(xs.zip ys).take (i+1)=(xs.zip ys).take i++[(x,y)]:=by rw[List.take_succ,ez];rfl
  refine⟨t,_,rfl,SqT.of zaa,rfl,x,_,rfl,y,_,rfl,rfl,⟨rfl,fun j v e=> ?_⟩, ?_⟩
  ·match j,e with
   |0,e=>cases e
   |1,e=>cases e
   |j+2,e=>exact e
  ·have sm2:=sm.trans (zac (o:=.tup [x,y]) hn)
   have hacc2:=zac (o:=.tup [x,y]) hn _ _ hacc
   refine ht (x,y) hmem _ sm2 _ ?_
   cases hp:p (x,y) with
   |false=>
    rw[if_neg Bool.false_ne_true]
    refine⟨(xs.zip ys).length-(i+1),by (first|lia|omega),rfl,hlt,sm2, ?_⟩
    rw[htk,List.filter_append]
    simpa [hp] using hacc2
   | true=>
    rw[if_pos rfl]
    refine he (x,y) hmem hp _ sm2 _ ⟨_,hacc2,za9 ?_,(xs.zip ys).length-(i+1),by (first|lia|omega),rfl,hlt,zav sm2 ha, ?_⟩
    ·rw [List.length_map]
     refine Nat.le_trans (List.length_filter_le _ _) ?_
     rw[List.length_take]
     (first|lia|omega)
    ·rw [zaa,htk,List.filter_append,List.map_append]
     simp[hp]
 ·have e:i=(xs.zip ys).length:=by (first|lia|omega)
  subst e
  rw[List.take_length] at hacc
  refine .inl ⟨⟨xs,ys,Fx sm,Fy sm, ?_⟩,fin acc H ha sm hacc⟩
  rw[List.length_zip]
  rcases Nat.le_total xs.length ys.length with h|h
  ·exact .inl (List.getElem?_eq_none (by (first|lia|omega)))
  ·exact .inr (List.getElem?_eq_none (by (first|lia|omega)))
noncomputable def en2 (ys:Nat->V->List V)(p:Nat->V->V->Bool)(c:V):Nat->List V->List V
 |_,[]=>[]
 |i,x::t=>((ys i x).filter (p i x)).map (fun _=>c)++en2 ys p c (i+1) t
theorem zc2 (ys:Nat->V->List V)(p:Nat->V->V->Bool)(c:V):∀(i:Nat) (a b:List V),en2 ys p c i (a++b)=en2 ys p c i a++en2 ys p c (i+a.length) b
 |_,[],_=>by simp[en2]
 |i,x::t,b=>by
  show ((ys i x).filter (p i x)).map (fun _=>c)++en2 ys p c (i+1) (t++b)=_
  rw[zc2 ys p c (i+1) t b]
  simp only[en2,List.append_assoc,List.length_cons]
  rw[show i+1+t.length=i+(t.length+1) by (first|lia|omega)]
theorem zji {K:PySem.W.Frag}{a:Addr}{xs:List V}{wi2:TI}{tt2:TT}{te:TE}{ix:List Nat}{σ:L2.St}{H1:Hp}{Q:VK}(Fx:∀{H},Same H1 H->SqT K H a xs)(ys:Nat->V->List V)(p:Nat->V->V->Bool)(c:V)
  (small:(en2 ys p c 0 xs).length<sizeLine)
  (hin:∀(i:Nat) x,xs[i]? =some x->∀H,Same H1 H->∀Rr:It->Hp->Prop,(∀J2 Ok2 H',Same H H'->Yields J2 Ok2 (ys i x)->(∀G,SameT H' G->Same H1 G->Ok2 G)->Rr J2 H')->wi2 (some (.int i)::some x::none::ix.map fun i=>σ.getD i none) H Rr)
  (ht:∀(i:Nat) x,xs[i]? =some x->∀y∈ys i x,∀H,Same H1 H->∀Q':Bool->Hp->Prop,Q' (p i x y) H->tt2 (some (.int i)::some x::some y::ix.map fun i=>σ.getD i none) H Q')
  (he:∀(i:Nat) x,xs[i]? =some x->∀y∈ys i x,∀H,Same H1 H->∀Q':VK,Q' c H->te (some (.int i)::some x::some y::ix.map fun i=>σ.getD i none) H Q')
  (fin:∀acc H',H1 acc=none->Same H1 H'->H' acc=some (.lst (en2 ys p c 0 xs))->Q (.ref acc) H'):
  LcW2 (Ite K a) H1 (gTup K 2 (zdw (zbi 0) (zdw (zbi 1) gNil))) zbm wi2 (zbi 2) tt2 te 3 ix σ Q:=by
 intro acc ha
 refine⟨fun i m H=>m=xs.length-i/\i<=xs.length/\Same H1 H/\H acc=some (.lst (en2 ys p c 0 (xs.take i))),⟨xs.length,by simp,Nat.zero_le _,zac ha,zaa⟩, ?_⟩
 rintro i m H ⟨rfl,hi,sm,hacc⟩
 by_cases hlt:i<xs.length
 ·refine .inr ⟨⟨xs,xs[i],Fx sm,List.getElem?_eq_getElem hlt⟩,fun v H' y=> ?_⟩
  obtain⟨t,x,hn,rfl,rfl,hv⟩:=y
  have e1:=hv xs (Fx sm)
  have htk:en2 ys p c 0 (xs.take (i+1))=en2 ys p c 0 (xs.take i)++((ys i x).filter (p i x)).map fun _=>c:=by
   have hl:(xs.take i).length=i:=by rw[List.length_take];(first|lia|omega)
   rw[List.take_succ,e1,zc2,hl]
   simp[en2]
  have hle:(en2 ys p c 0 (xs.take (i+1))).length<=(en2 ys p c 0 xs).length:=by
   conv=>rhs;rw[<-List.take_append_drop (i+1) xs,zc2,List.length_append]
   (first|lia|omega)
  refine⟨t,_,rfl,SqT.of zaa,rfl,_,_,rfl,x,_,rfl,rfl,⟨rfl,fun j v e=> ?_⟩, ?_⟩
  ·match j,e with
   |0,e=>cases e
   |1,e=>cases e
   |j+2,e=>exact e
  ·unfold zbm
   dsimp only
   rw[if_pos rfl]
   have sm2:=sm.trans (zac (o:=.tup [.int i,x]) hn)
   have hacc2:(upd H t (.tup [.int i,x])) acc=some (.lst (en2 ys p c 0 (xs.take i))):=zac hn _ _ hacc
   refine hin i x e1 _ sm2 _ fun J2 Ok2 H4 s4 Y2 hok2=> ?_
   refine⟨fun j m2 G=>m2=(ys i x).length-j/\j<=(ys i x).length/\SameT H4 G/\Same H1 G/\G acc=some (.lst (en2 ys p c 0 (xs.take i)++(((ys i x).take j).filter (p i x)).map fun _=>c)),
    ⟨(ys i x).length,by simp,Nat.zero_le _,fun _ _ e=>e,sm2.trans s4,by simpa using s4 _ _ hacc2⟩, ?_⟩
   rintro j m2 G ⟨rfl,hj,st,sm5,hus⟩
   have o2:=hok2 G st sm5
   by_cases hjl:j<(ys i x).length
   ·refine .inr ⟨Y2.go j _ o2 hjl,fun y G' yy=> ?_⟩
    obtain⟨rfl,hy⟩:=Y2.yld j _ y G' o2 hjl yy
    have hymem:y∈ys i x:=List.mem_of_getElem? hy
    have htk2:(ys i x).take (j+1)=(ys i x).take j++[y]:=by rw[List.take_succ,hy];rfl
    refine⟨⟨rfl,fun k v e=> ?_⟩, ?_⟩
    ·match k,e with
     |0,e=>exact e
     |1,e=>exact e
     |2,e=>cases e
     |k+3,e=>exact e
    ·refine ht i x e1 y hymem _ sm5 _ ?_
     cases hp:p i x y with
     |false=>
      rw[if_neg Bool.false_ne_true]
      refine⟨(ys i x).length-(j+1),by (first|lia|omega),rfl,hjl,st,sm5, ?_⟩
      rw[htk2,List.filter_append]
      simpa [hp] using hus
     | true=>
      rw[if_pos rfl]
      refine he i x e1 y hymem _ sm5 _ ⟨_,hus, ?_,(ys i x).length-(j+1),by (first|lia|omega),rfl,hjl,st.trans (zbY hus),zav sm5 ha, ?_⟩
      ·have e2:(((ys i x).take j).filter (p i x)).length<=((ys i x).filter (p i x)).length:=by
        conv=>rhs;rw[<-List.take_append_drop j (ys i x),List.filter_append,List.length_append]
        (first|lia|omega)
       have e3:0<(((ys i x).drop j).filter (p i x)).length:=List.length_pos_iff_exists_mem.mpr ⟨y,List.mem_filter.mpr ⟨by rw[List.drop_eq_getElem_cons hjl];rw[(List.getElem?_eq_some_iff.mp hy).2];simp,hp⟩⟩
       have e4:((ys i x).filter (p i x)).length=(((ys i x).take j).filter (p i x)).length+(((ys i x).drop j).filter (p i x)).length:=by
        conv=>lhs;rw[<-List.take_append_drop j (ys i x),List.filter_append,List.length_append]
       rw[htk,List.length_append,List.length_map] at hle
       rw[List.length_append,List.length_map]
       (first|lia|omega)
      ·rw [zaa,htk2,List.filter_append,List.map_append,<-List.append_assoc]
       simp[hp]
   ·have e:j=(ys i x).length:=by (first|lia|omega)
    subst e
    refine .inl ⟨Y2.stop _ o2,xs.length-(i+1),by (first|lia|omega),rfl,hlt,sm5, ?_⟩
    rw[List.take_length] at hus
    rw[htk]
    exact hus
 ·have e:i=xs.length:=by (first|lia|omega)
  subst e
  rw[List.take_length] at hacc
  exact .inl ⟨⟨xs,Fx sm,rfl⟩,fin acc H ha sm hacc⟩
noncomputable def sumR (n:Nat)(g:Nat->Int):Int:=((List.range n).map g).sum
theorem zba (n:Nat)(g:Nat->Int):sumR (n+1) g=sumR n g+g n:=by simp[sumR,List.range_succ]
theorem zaU {n:Nat}{f g:Nat->Int}(h:∀k,k<n->f k=g k):sumR n f=sumR n g:=by
 unfold sumR
 congr 1
 exact List.map_congr_left fun k hk=>h k (List.mem_range.mp hk)
theorem zdl (n:Nat):(List.replicate n (1:Int)).sum=n:=by
 induction n with
 |zero=>rfl
 |succ n ih=>rw[List.replicate_succ,List.sum_cons,ih];push_cast;(first|lia|omega)
noncomputable def zdJ (ns:List Int):Int:=sumR ns.length fun k=>if atO ns k=k then 1 else 0
noncomputable def zdK (ns:List Int):Int:=sumR (ns.length-1) fun k=>if atO ns k<atO ns (k+1:Nat) then 1 else 0
noncomputable def zep (ns:List Int):Int:=sumR ns.length fun k=>if (ns.take (k+1)).all (fun a=>decide (a<=atO ns k)) then 1 else 0
noncomputable def zbL (ns:List Int):Int:=sumR ns.length fun k=>(((ns.take k).filter fun a=>decide (atO ns k<a)).length:Int)
noncomputable def patO (L:List Int)(x:Int):List Int:=if L.countP (fun a=>decide (a<x))=L.length then L++[x] else L.set (L.countP fun a=>decide (a<x)) x
noncomputable def zbG (ns:List Int):List Int:=ns.foldl patO []
noncomputable def zdm (ns:List Int):Int:=(zbG ns).length
noncomputable def qN (q:Nat->Int->Bool):Nat->V->Bool:=fun i v=>match v with| .int n=>q i n|_=>false
noncomputable def qZ (q:Int->Int->Bool):V×V->Bool:=fun xy=>match xy with|(.int a,.int b)=>q a b|_=>false
noncomputable def qC:Nat->V->V->Bool:=fun _ x y=>match x,y with| .int a,.int b=>decide (a<b)|_,_=>false
theorem zgW (q:Nat->Int->Bool):∀(k:Nat) (ns:List Int),enF (qN q) (fun _ _=>.int 1) k (ns.map V.int)=(List.replicate ((List.range ns.length).countP fun j=>q (k+j) (ns.getD j 0)) (1:Int)).map V.int
 |_,[]=>rfl
 | k,x::t=>by
  show (if q k x then [V.int 1] else [])++enF _ _ (k+1) (t.map V.int)=_
  rw[zgW q (k+1) t,List.length_cons,List.range_succ_eq_map,List.countP_cons,List.countP_map]
  have e:(List.range t.length).countP ((fun j=>q (k+j) ((x::t).getD j 0))∘Nat.succ)=(List.range t.length).countP fun j=>q (k+1+j) (t.getD j 0):=by
   apply List.countP_congr
   intro j _
   show (q (k+(j+1)) ((x::t).getD (j+1) 0)=true)↔_
   rw[show k+(j+1)=k+1+j by (first|lia|omega)]
   simp
  rw[e]
  cases h:q k x with
  |true=>simp[h,List.replicate_succ]
  |false=>simp[h]
theorem zdL (n:Nat)(q:Nat->Bool):(((List.range n).countP q:Nat):Int)=sumR n fun k=>if q k then 1 else 0:=by
 induction n with
 |zero=>rfl
 |succ n ih=>
  rw[zba,List.range_succ,List.countP_append,<-ih]
  cases h:q n<;>simp[h]
theorem zgX (q:Int->Int->Bool):∀ns:List Int,((((ns.map V.int).zip ((ns.drop 1).map V.int)).filter (qZ q)).map fun _=>V.int 1)=
  (List.replicate ((List.range (ns.length-1)).countP fun j=>q (ns.getD j 0) (ns.getD (j+1) 0)) (1:Int)).map V.int
 |[]=>rfl
 |[x]=>by simp
 | x::y::t=>by
  have ih:=zgX q (y::t)
  simp only[List.drop_succ_cons,List.drop_zero,List.map_cons,List.zip_cons_cons] at ih ⊢
  have el:(x::y::t).length-1=((y::t).length-1)+1:=by simp
  rw[el,List.range_succ_eq_map,List.countP_cons,List.countP_map,List.filter_cons]
  have e:(List.range ((y::t).length-1)).countP ((fun j=>q ((x::y::t).getD j 0) ((x::y::t).getD (j+1) 0))∘Nat.succ)=(List.range ((y::t).length-1)).countP fun j=>q ((y::t).getD j 0) ((y::t).getD (j+1) 0):=by
   apply List.countP_congr
   intro j _
   rfl
  rw[e]
  have e0:q ((x::y::t).getD 0 0) ((x::y::t).getD (0+1) 0)=q x y:=rfl
  rw[e0]
  have ez:qZ q (V.int x,V.int y)=q x y:=rfl
  rw[ez]
  cases h:q x y with
  |true=>
   simp only[h,if_true,List.map_cons,List.replicate_succ]
   rw[ih]
  |false=>
   simp only[h,Bool.false_eq_true,if_false,Nat.add_zero]
   exact ih
theorem zcM (ns:List Int)(j:Nat):ns.getD j 0=atO ns (j:Int):=by unfold atO;rw[Int.toNat_natCast]
structure Heaps (ns:List Int) (L:List Int) (es:List Int):Prop where
 inc:L.Pairwise (·<·)
 len:es.length=ns.length
 up:∀(j:Nat) a,L[j]? =some a->∃k:Nat,ns[k]? =some a/\es[k]? =some ((j:Int)+1)
 dn:∀(k:Nat) e,es[k]? =some e->∃(j:Nat) (a b:Int),e=(j:Int)+1/\L[j]? =some a/\ns[k]? =some b/\a<=b
theorem zil (ns:List Int)(x:Int):zbG (ns++[x])=patO (zbG ns) x:=by simp[zbG,List.foldl_append]
theorem zki (L:List Int)(x:Int):(patO L x).length<=L.length+1:=by
 unfold patO
 split<;>simp
structure CompScopeZ (X:Cx) (scope:Scope) (N':List Str) (n:Nat) (ix:List Nat) (z:Str):Prop where
 kind:scope.kind=.function
 onecell:∀y∈scope.names,y.2=.cell->y.1=z
 nz:∀y:Str,(y,NameKind.free)∈scope.names->y≠z
 cf:∀(a:Addr) (cl:List (Str×Addr)),cellsFrom a scope.names cl=(z,a)::cl
 pc:∀h:Heap,pushCells h scope.names=h.push {cls:=.type "cell",data:=.cell none}
 names:∀y∈scope.names,y.2=.local->scope.names.lookup y.1=some .local
 free:∀y∈scope.names,y.2=.free->X.env.scope.names.lookup y.1=some .cell∨X.env.scope.names.lookup y.1=some .free
 nodup:∀y:Str,(y,NameKind.free)∈scope.names->scope.names.lookup y=some .local->False
 len:N'.length=n+ix.length
 at_:∀(j i:Nat),ix[j]? =some i->∃x,N'[n+j]? =some x/\X.N[i]? =some x/\(x,NameKind.free)∈scope.names
section
variable {X:Cx}{pins:List (Addr×Obj)}{σ:St}{H:Hp}{s:Shared}
end
section
variable {X:Cx}{elt tg iter:Expr}{ifs:List Expr}{scope:Scope}{pos:Pos}{wi:TI}{g:TG}{tt:TT}{te:TE}{N':List Str}{n:Nat}{ix:List Nat}
end
mutual
inductive IsK (K:PySem.W.Frag) (H:Hp):V->PyData->Prop
 |non:IsK K H .non .none
 |bl (b:Bool):IsK K H (.bl b) (.bool b)
 |int (i:Int):IsK K H (.int i) (.int i)
 |str (x:Str):IsK K H (.str x) (.str x)
 |tup {a:Addr} {vs:List V} {ds:List PyData}:SqT K H a vs->IsAllK K H vs ds->IsK K H (.ref a) (.tuple ds)
 |lst {a:Addr} {vs:List V} {ds:List PyData}:H a=some (.lst vs)->IsAllK K H vs ds->IsK K H (.ref a) (.list ds)
inductive IsAllK (K:PySem.W.Frag) (H:Hp):List V->List PyData->Prop
 |nil:IsAllK K H [] []
 |cons {v:V} {vs:List V} {d:PyData} {ds:List PyData}:IsK K H v d->IsAllK K H vs ds->IsAllK K H (v::vs) (d::ds)
end
section
variable {X:Cx}{pins:List (Addr×Obj)}{σ:St}{H:Hp}{s:Shared}
end
theorem Same.seqT {K:PySem.W.Frag}{H H':Hp}{a:Addr}{xs:List V}(e:Same H H')(h:SqT K H a xs):SqT K H' a xs:=by
 rcases h with (h|⟨o,h⟩)|h
 ·exact .inl (.inl (e _ _ h))
 ·exact .inl (.inr ⟨o,e _ _ h⟩)
 ·exact .inr h
noncomputable abbrev RowsK (K:PySem.W.Frag)(H:Hp)(zs:List Addr)(rows:List (List Int)):Prop:=Paired (fun (z:Addr) (r:List Int)=>SqT K H z (r.map V.int)) zs rows
theorem RowsK.same {K:PySem.W.Frag}{H H':Hp}{zs:List Addr}{rows:List (List Int)}(h:RowsK K H zs rows)(s:Same H H'):RowsK K H' zs rows:=Paired.mapP h fun _ _ q=>s.seqT q
noncomputable def atZ (ns:List Int)(k:Int):Int:=if k<0 then 0 else ns.getD k.toNat 0
theorem zla {ns:List Int}{k:Int}(h:0<=k):ns.getD k.toNat 0=atZ ns k:=by
 unfold atZ
 rw[if_neg (by (first|lia|omega))]
theorem zjQ {ns:List Int}{k:Int}(h:k<0):atZ ns k=0:=by
 unfold atZ
 rw[if_pos h]
theorem zlb {ns:List Int}{k:Int}(h:(ns.length:Int)<=k):atZ ns k=0:=by
 unfold atZ
 rw[if_neg (by (first|lia|omega)),List.getD_eq_getElem?_getD,List.getElem?_eq_none (by (first|lia|omega))]
 rfl
noncomputable def zdM (K:PySem.W.Frag):Sp:=fun vs H Q _=>∃(a:Addr) (ns:List Int) (k:Int),vs=[.ref a,.int k]/\SqT K H a (ns.map V.int)/\Q (.int (atZ ns k)) H
noncomputable def zbZ (m:Nat)(ns:List Int):List Int:=(num0 (m+1)).map fun k=>atZ ns (k-1)+((m:Int)-1)*atZ ns k
noncomputable def zcN (m:Nat)(ns:List Int):List Int:=(num0 (m+1)).map fun k=>atZ ns (k-1)+((m:Int)-1-k)*atZ ns k+(k+1)*atZ ns (k+1)
noncomputable def zcO (m:Nat)(ns:List Int):List Int:=(num0 m).map fun k=>(k+1)*atZ ns k+((m:Int)-k)*atZ ns (k-1)
noncomputable def zdf (K:PySem.W.Frag)(B:Nat)(g:Nat->List Int->List Int):Sp:=fun vs H Q _=>∃(m:Nat) (a:Addr) (ns:List Int),vs=[.int m,.ref a]/\1<=m/\m<=B/\SqT K H a (ns.map V.int)/\ns.length<=1000/\∀p H',Same H H'->H' p=some (.tup ((g m ns).map V.int))->Q (.ref p) H'
theorem za6 {i j:Int}(h0:-100<=i)(h1:i<=1000):CMul i j:=.inl ⟨Int.lt_of_lt_of_le (by decide) h0,Int.lt_of_le_of_lt h1 (by decide)⟩
section
variable {X:Cx}
noncomputable def rSlK (K:PySem.W.Frag):V->Option Int->Option Int->Hp->VK->Prop:=fun x lo hi H Q=>∃a xs,x=.ref a/\SqT K H a xs/\∀p H',Same H H'->SqT K H' p (cutV xs lo hi)->Q (.ref p) H'
theorem zkj:SlR X (rSlK X.K):=by
 intro pins s σ H x v vl vu lo hi sl Q I rx hs pl pu h
 obtain⟨a,xs,rfl,ha,q⟩:=h
 by_cases hw:HT.sIx xs.length 0 lo=0/\HT.sIx xs.length xs.length hi=xs.length
 ·cases rx
  obtain⟨its,r,ht,hz⟩:=I.tuple ha
  have hl:its.toArray.size=xs.length:=by rw[List.size_toArray];exact r.length.symm
  refine⟨"tuple",_,PyProof.Rows.slot_tuple_getitem.lookup,ht.typeIs, ?_⟩
  refine zbo ht hs pl pu (by rw[hl];exact hw) ⟨.ref a,H,I,rfl,q a H (Same.refl H) ?_⟩
  unfold cutV
  rw[hw.1,hw.2,List.drop_zero,Nat.sub_zero,List.take_length]
  exact ha
 ·exact zjN pins s σ H _ v vl vu lo hi sl Q I rx hs pl pu ⟨a,xs,rfl,ha,hw,fun p hp=>q p _ (zac hp) (SqT.of zaa)⟩
theorem zjj (K:PySem.W.Frag)(hK:X.K=K):SlR X (rSlK K):=hK▸zkj
noncomputable def zlc (K:PySem.W.Frag):List V->Hp->VK->Prop:=fun xs H Q=>∃(l:Addr) (ns:List Int),xs=[.ref l]/\SqT K H l (ns.map V.int)/\Q (.int ns.sum) H
theorem zim (hc:X.calm=true):zcn X (.builtin "sum") (zlc X.K):=by
 intro pins s σ H xs us Q I rs h
 obtain⟨l,ns,rfl,hH,q⟩:=h
 obtain⟨u,rfl,ru⟩:=zcH rs
 cases (show u=Value.ref l from ru)
 obtain⟨its,r,ht,hz⟩:=I.tuple hH
 have hI:=zem r
 obtain⟨xs,hxs⟩:=hI.allInts.items
 have hnum:(numsOf its.toArray.toList)=ns:=hI.numsOf
 refine PySem.W.ktm_sumG (xs:=xs) (I.ok.hd hc) (by rw[<-hxs];exact ht) fun h' tk t' hk=> ?_
 have hs:preSum (numAt xs) xs.size=ns.sum:=by
  rw[preSum_eq,List.take_of_length_le (by simp)]
  rw[<-nums_intItems,<-hxs,hnum]
 rw[hs]
 exact⟨.int ns.sum,H,I.kept (t':=tk) hk,⟨_,rfl⟩,q⟩
theorem zeq (K:PySem.W.Frag)(hK:X.K=K)(hc:X.calm=true):zcn X (.builtin "sum") (zlc K):=hK▸zim hc
end
noncomputable def win (ns:List Int)(lo:Int)(n:Nat):Int:=((List.range n).map fun (i:Nat)=>atZ ns (lo+(i:Int))).sum
theorem zeD (ns:List Int)(lo:Int)(n:Nat):win ns lo (n+1)=win ns lo n+atZ ns (lo+(n:Int)):=by
 unfold win
 rw[List.range_succ,List.map_append,List.sum_append]
 simp
theorem zin (ns:List Int)(lo:Nat):∀n:Nat,((ns.drop lo).take n).sum=win ns (lo:Int) n
 |0=>by simp[win]
 |n+1=>by
  rw[List.take_succ,List.sum_append,zin ns lo n,zeD,List.getElem?_drop]
  congr 1
  unfold atZ
  rw[if_neg (by (first|lia|omega)),show ((lo:Int)+(n:Int)).toNat=lo+n by (first|lia|omega),List.getD_eq_getElem?_getD]
  cases ns[lo+n]? <;>simp
theorem zio (ns:List Int)(lo:Int):∀n:Nat,win ns lo n=win ns (max lo 0) (n-(-lo).toNat)
 |0=>by simp[win]
 | n+1=>by
  rw[zeD,zio ns lo n]
  by_cases h:lo+(n:Int)<0
  ·rw [zjQ h,show n+1-(-lo).toNat=0 by (first|lia|omega),show n-(-lo).toNat=0 by (first|lia|omega)]
   simp
  ·rw [show n+1-(-lo).toNat=(n-(-lo).toNat)+1 by (first|lia|omega),zeD]
   congr 2
   (first|lia|omega)
theorem zkk (ns:List Int)(lo hi:Nat):(ns.drop (min lo ns.length)).take (min hi ns.length-min lo ns.length)=(ns.drop lo).take (hi-lo):=by
 by_cases h:lo<=ns.length
 ·rw [Nat.min_eq_left h]
  by_cases h2:hi<=ns.length
  ·rw[Nat.min_eq_left h2]
  ·rw[Nat.min_eq_right (by (first|lia|omega)),List.take_of_length_le (by rw[List.length_drop];exact Nat.le_refl _),List.take_of_length_le (by rw[List.length_drop];(first|lia|omega))]
 ·rw[show min lo ns.length=ns.length by (first|lia|omega),List.drop_length,List.drop_of_length_le (by (first|lia|omega)),List.take_nil,List.take_nil]
theorem ziq (ns:List Int)(lo hi:Nat):cutV (ns.map V.int) (some (lo:Int)) (some (hi:Int))=((ns.drop lo).take (hi-lo)).map V.int:=by
 unfold cutV
 rw[HT.sIx_nat,HT.sIx_nat,zal,<-List.map_drop,<-List.map_take,zkk]
theorem zer {g:Int->Int}:∀{l:List Int} {ys:List V},Paired (fun x v=>∀k,x=V.int k->v=V.int (g k)) (l.map V.int) ys->ys=(l.map g).map V.int
 |[],_,.nil=>rfl
 |a::l,_,.cons h t=>by
  rw[List.map_cons,List.map_cons,<-zer t,h a rfl]
theorem zga {n:Nat}{te:TE}{ix:List Nat}{σ:L2.St}{H1:Hp}{Q:VK}(g:Int->Int)(small:n<=1000)(he:∀k:Int,0<=k->k<n->∀H,Same H1 H->∀Q':VK,(∀H',Same H H'->Q' (.int (g k)) H')->te (some (.int k)::ix.map fun i=>σ.getD i none) H Q')
  (fin:∀acc H',H1 acc=none->Same H1 H'->H' acc=some (.lst (((num0 n).map g).map V.int))->Q (.ref acc) H'):LcW (Itr 0 n) H1 (zbi 0) zbm te 1 ix σ Q:=by
 refine zex (zaK (lo:=0) (n:=n)) (za9 (by rw[zaH];exact small)) (fun x v _=>∀k,x=V.int k->v=V.int (g k)) (fun _ _ _ _ _ h=>h) (fun _ _=>trivial) (fun x hx H' s' Q' q=> ?_) fun acc ys H' hacc sm hys pr=> ?_
 ·obtain ⟨k,rfl,k0,k1⟩:=za5 hx
  exact he k k0 k1 H' s' Q' fun H2 s2=>q _ H2 s2 fun k' e=>by cases e;rfl
 ·rw [zaw] at pr
  rw[zer pr] at hys
  exact fin acc H' hacc sm hys
noncomputable def zbH (m:Nat)(ns:List Int):List Int:=(num0 (m*(m-1)/2+1)).map fun k=>win ns (k-(m:Int)+1) m
noncomputable def zaO:List Str:=["rounds", "stays", "rises", "highs", "crossed"]
theorem zat {kind:Str}(h:kind∈zaO):kind= "rounds" ∨kind= "stays" ∨kind= "rises" ∨kind= "highs" ∨kind= "crossed" :=by
 unfold zaO at h
 simpa using h
noncomputable def zjk (kind:Str)(m:Nat)(ns:List Int):List Int:=
 if kind= "crossed" then zbH m ns else if kind= "rises" then zcO m ns else if kind= "stays" then zcN m ns else zbZ m ns
noncomputable def bOf (kind:Str):Nat:=if kind= "crossed" then 24 else 60
noncomputable def zir (K:PySem.W.Frag):Sp:=fun vs H Q _=>∃(kind:Str) (m:Nat) (a:Addr) (ns:List Int),vs=[.str kind,.int m,.ref a]/\kind∈zaO/\1<=m/\m<=bOf kind/\SqT K H a (ns.map V.int)/\ns.length<=1000/\∀p H',Same H H'->H' p=some (.tup ((zjk kind m ns).map V.int))->Q (.ref p) H'
noncomputable def rowZ (kind:Str):Nat->List Int
 |0=>[1]
 |n+1=>zjk kind (n+1) (rowZ kind n)
noncomputable def zeE (kind:Str)(n:Nat):List (List Int):=(List.range (n+1)).map (rowZ kind)
theorem zcP (n:Nat):(num0 n).length=n:=by simp[num0]
theorem zld (kind:Str):bOf kind<=60:=by
 unfold bOf
 split<;>(first|lia|omega)
theorem zis {kind:Str}{m:Nat}(ns:List Int)(hm:m<=bOf kind):(zjk kind m ns).length<=277:=by
 unfold zjk
 unfold bOf at hm
 split
 ·rename_i h
  rw[if_pos h] at hm
  unfold zbH
  rw[List.length_map,zcP]
  have:m*(m-1)<=24*23:=Nat.mul_le_mul hm (by (first|lia|omega))
  (first|lia|omega)
 ·rename_i h
  rw[if_neg h] at hm
  split
  ·unfold zcO;rw[List.length_map,zcP];(first|lia|omega)
  ·split
   ·unfold zcN;rw[List.length_map,zcP];(first|lia|omega)
   ·unfold zbZ;rw[List.length_map,zcP];(first|lia|omega)
theorem zjl {kind:Str}{n:Nat}(hn:n<=bOf kind):(rowZ kind n).length<=277:=by
 cases n with
 |zero=>show 1<=277;(first|lia|omega)
 |succ n=>exact zis _ hn
theorem zht (kind:Str)(n:Nat):zeE kind (n+1)=zeE kind n++[rowZ kind (n+1)]:=by
 unfold zeE
 rw[List.range_succ,List.map_append]
 rfl
theorem zit (kind:Str)(n:Nat):(zeE kind n).length=n+1:=by simp[zeE]
noncomputable def zgb (K:PySem.W.Frag):Sp:=fun vs H Q _=>∃(kind:Str) (m:Nat),vs=[.str kind,.int m]/\kind∈zaO/\m<=bOf kind/\∀p zs H',Same H H'->H' p=some (.tup (zs.map V.ref))->RowsK K H' zs (zeE kind m)->Q (.ref p) H'
noncomputable def ziu (K:PySem.W.Frag):Sp:=fun vs H Q _=>∃(kind:Str) (m:Nat),vs=[.str kind,.int m]/\kind∈zaO/\m<=bOf kind/\∀p H',Same H H'->SqT K H' p ((rowZ kind m).map V.int)->Q (.ref p) H'
theorem zgY {K:PySem.W.Frag}{H:Hp}{a l:Addr}{xs ys:List V}{o:HO}(h:SqT K H a xs)(hl:H l=some (.lst ys)):SqT K (upd H l o) a xs:=by
 have hne:∀u,H a=some u->(∀ys,u≠.lst ys)->a≠l:=fun u e hu hal=>by
  subst hal
  rw[hl] at e
  cases e
  exact hu _ rfl
 rcases h with (h|⟨o',h⟩)|h
 ·exact .inl (.inl (by rw[zan (hne _ h (fun _ q=>nomatch q))];exact h))
 ·exact .inl (.inr ⟨o',by rw[zan (hne _ h (fun _ q=>nomatch q))];exact h⟩)
 ·exact .inr h
theorem RowsK.updL {K:PySem.W.Frag}{H:Hp}{zs:List Addr}{rows:List (List Int)}{l:Addr}{ys:List V}{o:HO}(h:RowsK K H zs rows)(hl:H l=some (.lst ys)):RowsK K (upd H l o) zs rows:=Paired.mapP h fun _ _ q=>zgY q hl
theorem RowsK.get {K:PySem.W.Frag}{H:Hp}:∀{zs:List Addr} {rows:List (List Int)},RowsK K H zs rows->∀{i:Nat} {r:List Int},rows[i]? =some r->∃z,zs[i]? =some z/\SqT K H z (r.map V.int)
 |_,_,.nil,_,_,e=>nomatch e
 |_,_,.cons h t,0,_,e=>by cases e;exact⟨_,rfl,h⟩
 |_,_,.cons h t,i+1,_,e=>RowsK.get t e
end L2
namespace L2
theorem zjm {α:Type}{xs:List α}(h:0<xs.length):atI xs (-1)=xs[xs.length-1]? :=by
 unfold atI ixN
 rw[if_neg (by decide),if_pos (by (first|lia|omega))]
 show xs[((-1:Int)+xs.length).toNat]? =_
 rw[show ((-1:Int)+xs.length).toNat=xs.length-1 by (first|lia|omega)]
end L2
namespace L2
open PySem PySem.Spec PyProof.Rows
theorem GDict.of {K:PySem.W.Frag}{P:Params}{C:Addr}{kvs:List (Str×Addr)}{es:Array DictEntry}{n:Nat}(l:K.lookup C=some {cls:=.type "dict",data:=.dict es n})(en:Ents P es.toList kvs)(nd:(kvs.map (·.1)).Nodup):GDict K P C kvs:=⟨⟨es,n,l,en⟩,nd⟩
theorem CalF.of {P:Program}{w:World}{K:PySem.W.Frag}{mg:Str->Option Value}{base:Heap}{k k':Nat}{x:Str}{f:Addr}{ps:List Str}{sp:Sp}(C:Cal P w K mg base k x ps sp)(h:mg x=some (.ref f))(hk:k<=k'):CalF P w K mg base k' f ps sp:=by
 obtain⟨f',fd,F,hm,kp,hb⟩:=C.ex
 rw[h] at hm
 cases hm
 exact⟨fd,F.mono hk,kp,hb⟩
theorem sqT_ofK {K:PySem.W.Frag}{a:Addr}{xs:List V}{its:Array Value}{n:Nat}(l:K.lookup a=some {cls:=.type "tuple",data:=.seq its n})(hz:its.size<=sizeLine)(r:Vals xs its.toList):∀H,SqT K H a xs:=fun _=>.inr ⟨_,its,n,l,rfl,rfl,hz,r⟩
theorem ziv {X:Cx}:OpR X (binaryOp .Pow) (rI (fun i j=>0<=j/\(Builtin.Int.intBits i:Int)*j<=2^27) fun i j=>.int (i^j.toNat)):=opI fun _ _ _ _ _ _ _ hc q=>pow_int hc.1 hc.2 q
structure TopX (mg:Str->Option Value):Prop where
 n_str:mg "str" =none
 n_repr:mg "repr" =none
 n_divmod:mg "divmod" =none
structure TopXK (K:PySem.W.Frag):Prop where
 k_str:PySem.W.nsIn K mainGlobals "str" =some none
 k_repr:PySem.W.nsIn K mainGlobals "repr" =some none
 k_divmod:PySem.W.nsIn K mainGlobals "divmod" =some none
noncomputable def Pot2 (H:Hp)(p:Addr):Prop:=∃own mixed:Int,H p=some (.lst [.int own,.int mixed])/\0<=own/\0<=mixed/\mixed<18446744073709551557
theorem Pot2.same {p:Addr}{H H':Hp}(h:Pot2 H p)(s:Same H H'):Pot2 H' p:=by
 obtain⟨o,m,h1,h2⟩:=h
 exact⟨o,m,s _ _ h1,h2⟩
theorem Pot2.ne_new {p l:Addr}{H:Hp}(h:Pot2 H p)(hl:H l=none):l≠p:=by
 obtain⟨o,m,h1,h2⟩:=h
 intro e
 rw[e,h1] at hl
 cases hl
noncomputable def ziw (K:PySem.W.Frag):Sp:=fun vs H Q _=>∃(a:Addr) (ns:List Int) (k:Int),vs=[.ref a,.int k]/\SqL K H a (ns.map V.int)/\0<=k/\k<=1000/\∀p H',Same H H'->Pot2 H' p->H p=none->Q (.ref p) H'
noncomputable def zdN:Sp:=fun vs H Q _=>∃(p:Addr) (m:Int),vs=[.ref p,.int m]/\0<m/\m<1073741824/\Pot2 H p/\∀d H',0<=d->d<m->Pot2 H' p->Keep p p H H'->Q (.int d) H'
noncomputable def zkl:Sp:=fun vs H Q _=>∃(p l:Addr) (xs:List V),vs=[.ref p,.ref l]/\H l=some (.lst xs)/\l≠p/\0<xs.length/\xs.length<=1000/\Pot2 H p/\∀x∈xs,∀H',Pot2 H' p->Keep p p H H'->Q x H'
noncomputable def zdO:Sp:=fun vs H Q _=>∃(p l:Addr) (ns:List Int),vs=[.ref p,.ref l]/\H l=some (.lst (ns.map V.int))/\l≠p/\0<ns.length/\ns.length<=1000/\(∀n∈ns,n<1073741824)/\Pot2 H p/\∀n∈ns,∀d H',(0<n->0<=d/\d<n)->(¬0<n->d=-n)->Pot2 H' p->Keep p p H H'->Q (.int d) H'
theorem zix:Builtin.Int.intBits (((10:Int)^(60:Int).toNat)^(15:Int).toNat)<=3616:=by
 have h10:Builtin.Int.intBits (10:Int)<=4:=intBits_le_iff.mpr (by decide)
 have h1:Builtin.Int.intBits ((10:Int)^(60:Int).toNat)<=241:=intBits_pow_le h10 60
 exact intBits_pow_le h1 15
theorem zjn:(Builtin.Int.intBits ((10:Int)^(60:Int).toNat):Int)*15<=2^27:=by
 have h10:Builtin.Int.intBits (10:Int)<=4:=intBits_le_iff.mpr (by decide)
 have h1:Builtin.Int.intBits ((10:Int)^(60:Int).toNat)<=241:=intBits_pow_le h10 60
 (first|lia|omega)
theorem zdn:(0:Int)<((10:Int)^(60:Int).toNat)^(15:Int).toNat:=Int.pow_pos (Int.pow_pos (by decide))
theorem ziy {F r k e:Int}(hF:Builtin.Int.intBits F<=3616)(r0:0<=r)(r1:r<F)(k0:0<=k)(k1:k<=1000)(e0:0<=e)(e1:e<=1):(Builtin.Int.intBits (2*r+e+7919*k+13):Int)*3<=2^27:=by
 have h1:=intBits_le_iff.mp hF
 have h3:2^3616*2+7920000<=2^3700:=by decide+kernel
 have h2:Builtin.Int.intBits (2*r+e+7919*k+13)<=3700:=by
  refine intBits_le_iff.mpr ?_
  generalize (2:Nat)^3616=N at*
  generalize (2:Nat)^3700=M at*
  (first|lia|omega)
 (first|lia|omega)
noncomputable def numF (lo:Int)(n:Nat):List Int:=(List.range n).map fun (i:Nat)=>lo+(i:Int)
theorem zdP (lo:Int)(n:Nat):zaP lo n=(numF lo n).map V.int:=by
 unfold zaP numF
 rw[List.map_map]
 rfl
noncomputable def zdQ (m:Nat)(k:Int):List (Int×Int):=(numF (k+1) ((m:Int)-(k+1)).toNat).map fun j=>(k,j)
noncomputable def prsZ (m i:Nat):List (Int×Int):=(num0 i).flatMap (zdQ m)
noncomputable def rowP (kj:Int×Int):List Int:=[kj.1,kj.2]
noncomputable def zbb (n:Nat):List (List Int):=(num0 n).map fun k=>[k]
noncomputable def zaz (kind:Str)(m:Nat):List (List Int):=if kind= "crossed" then (prsZ m m).map rowP else if kind= "rises" then zbb (m-1) else zbb m
theorem zcQ (m i:Nat):prsZ m (i+1)=prsZ m i++zdQ m i:=by
 unfold prsZ
 rw[zfu,List.flatMap_append]
 simp
theorem ziz {m:Nat}{k:Int}(h:0<=k):(zdQ m k).length<=m:=by
 unfold zdQ numF
 simp
 (first|lia|omega)
theorem zgZ (m:Nat):∀i:Nat,(prsZ m i).length<=i*m
 |0=>by simp[prsZ,num0]
 |i+1=>by
  rw[zcQ,List.length_append]
  have:=zgZ m i
  have:=ziz (m:=m) (k:=(i:Int)) (by (first|lia|omega))
  rw[Nat.succ_mul]
  (first|lia|omega)
theorem zb0 (n:Nat):(num0 n).length=n:=by simp[num0]
noncomputable def RTab (g:Int->List Int)(x v:V)(H:Hp):Prop:=∃(k:Int) (z:Addr),x=.int k/\v=.ref z/\H z=some (.tup ((g k).map V.int))
theorem zdo {H:Hp}{g:Int->List Int}:∀{ks:List Int} {vs:List V},Paired (fun x v=>RTab g x v H) (ks.map V.int) vs->∃zs:List Addr,vs=zs.map V.ref/\RowsAt H zs (ks.map g)
 |[],_,.nil=>⟨[],rfl,.nil⟩
 |k::ks,_,.cons p t=>by
  obtain⟨k',z,e1,rfl,h⟩:=p
  cases e1
  obtain⟨zs,rfl,R⟩:=zdo t
  exact⟨z::zs,rfl,.cons h R⟩
noncomputable def RPrs (xy:V×V)(v:V)(H:Hp):Prop:=∃(k j:Int) (z:Addr),xy=(.int k,.int j)/\v=.ref z/\H z=some (.tup [.int k,.int j])
theorem zg0 {H:Hp}:∀{ks:List (Int×Int)} {vs:List V},Paired (fun x v=>RPrs x v H) (ks.map fun kj=>(V.int kj.1,V.int kj.2)) vs->∃zs:List Addr,vs=zs.map V.ref/\RowsAt H zs (ks.map rowP)
 |[],_,.nil=>⟨[],rfl,.nil⟩
 |k::ks,_,.cons p t=>by
  obtain⟨k',j',z,e1,rfl,h⟩:=p
  cases e1
  obtain⟨zs,rfl,R⟩:=zg0 t
  exact⟨z::zs,rfl,.cons h R⟩
noncomputable def ysP (m:Nat):V->List V:=fun x=>match x with| .int k=>zaP (k+1) ((m:Int)-(k+1)).toNat|_=>[]
theorem zes (m i:Nat):zbp (zaP 0 i) (ysP m) (fun _ _=>true)=(prsZ m i).map fun kj=>(V.int kj.1,V.int kj.2):=by
 rw[zaw]
 unfold zbp prsZ
 rw[List.flatMap_map,List.map_flatMap]
 congr 1
 funext k
 unfold ysP zdQ
 simp only[zdF]
 rw[zdP,List.map_map,List.map_map]
 rfl
noncomputable def zeF:Sp:=fun vs H Q _=>∃(kind:Str) (m:Nat),vs=[.str kind,.int m]/\kind∈zaO/\m<=60/\∀p zs H',Same H H'->H' p=some (.tup (zs.map V.ref))->RowsAt H' zs (zaz kind m)->Q (.ref p) H'
noncomputable def zcR (rows:Nat->List (List Int)):Sp:=fun vs H Q _=>∃(m:Nat),vs=[.int m]/\m<=60/\∀p zs H',Same H H'->H' p=some (.tup (zs.map V.ref))->RowsAt H' zs (rows m)->Q (.ref p) H'
theorem Paired.append {α β:Type}{F:α->β->Prop}:∀{l1 l2:List α} {v1 v2:List β},Paired F l1 v1->Paired F l2 v2->Paired F (l1++l2) (v1++v2)
 |_,_,_,_,.nil,h=>h
 |_,_,_,_,.cons r t,h=>.cons r (Paired.append t h)
noncomputable abbrev Sm (x:Int)(n:Nat):Prop:=Builtin.Int.intBits x<=n
theorem Sm.of {x:Int}{n:Nat}(h:x.natAbs<2^n):Sm x n:=intBits_le_iff.mpr h
theorem Sm.lt {x:Int}{n:Nat}(h:Sm x n):x.natAbs<2^n:=intBits_le_iff.mp h
theorem Sm.mono {x:Int}{m n:Nat}(h:Sm x m)(k:m<=n):Sm x n:=Nat.le_trans h k
theorem Sm.mul {x y:Int}{m n:Nat}(h:Sm x m)(k:Sm y n):Sm (x*y) (m+n):=by
 refine Sm.of ?_
 rw[Int.natAbs_mul,Nat.pow_add]
 have h1:=h.lt
 have h2:=k.lt
 exact Nat.lt_of_le_of_lt (Nat.mul_le_mul_right _ (Nat.le_of_lt h1)) (Nat.mul_lt_mul_of_pos_left h2 (Nat.two_pow_pos _))
theorem Sm.le {x y:Int}{n:Nat}(h:Sm y n)(k:x.natAbs<=y.natAbs):Sm x n:=Sm.of (Nat.lt_of_le_of_lt k h.lt)
theorem zaF {X:Cx}:OpR X (binaryOp .Mult) (rI (fun i j=>Sm i 8000/\Sm j 8000) fun i j=>.int (i*j)):=opI fun _ _ _ _ _ _ _ hc q=>mul_int q (IntMulOk.of_le hc.1 hc.2 (by decide))
theorem zdp {X:Cx}:OpR X (binaryOp .FloorDiv) (rI (fun _ j=>0<j/\Sm j 8000) fun i j=>.int (i/j)):=opI fun i j _ _ _ _ _ hc q=>by
 have e:i/j=i.fdiv j:=(Int.fdiv_eq_ediv_of_nonneg _ (Int.le_of_lt hc.1)).symm
 rw[e] at q
 have h1:=hc.1
 refine floordiv_int (by (first|lia|omega)) q (.inl (PyProof.noPylong_of_log2 ?_))
 have h0:j.natAbs≠0:=by (first|lia|omega)
 rw[Nat.log2_lt h0]
 exact (hc.2.mono (by decide)).lt
noncomputable def gcdZ (a b:Int):Int:=(Int.gcd a b:Int)
noncomputable def lowZ (a b:Int):Int×Int:=(a/gcdZ a b,b/gcdZ a b)
theorem zck {a b:Int}(h:0<b):0<gcdZ a b:=by
 unfold gcdZ
 have:=Int.gcd_pos_of_ne_zero_right (a:=a) (b:=b) (by (first|lia|omega))
 (first|lia|omega)
theorem ziA {a b:Int}(h:0<b):gcdZ a b<=b:=Int.le_of_dvd h (Int.gcd_dvd_right ..)
theorem zfv {a b:Int}(h:0<b):gcdZ b (a%b)=gcdZ a b:=by
 unfold gcdZ
 have e:a%b=a+b*(-(a/b)):=by
  have:=Int.mul_ediv_add_emod a b
  have e2:b*(-(a/b))=-(b*(a/b)):=Int.mul_neg ..
  (first|lia|omega)
 rw[e,Int.gcd_add_mul_left_right,Int.gcd_comm]
theorem zfw {a:Int}(h:0<=a):gcdZ a 0=a:=by
 unfold gcdZ
 rw[Int.gcd_zero_right]
 (first|lia|omega)
theorem zdR (a b:Int):gcdZ a b=gcdZ b a:=by
 unfold gcdZ
 rw[Int.gcd_comm]
theorem zjo (a b:Int):gcdZ (if a<0 then-a else a) b=gcdZ a b:=by
 unfold gcdZ Int.gcd
 congr 2
 split<;>(first|lia|omega)
theorem low1 {a b:Int}:(lowZ a b).1*gcdZ a b=a:=Int.ediv_mul_cancel (Int.gcd_dvd_left ..)
theorem low2 {a b:Int}:(lowZ a b).2*gcdZ a b=b:=Int.ediv_mul_cancel (Int.gcd_dvd_right ..)
theorem zgc {a b:Int}(h:0<b):0<(lowZ a b).2:=by
 have h1:=zck (a:=a) h
 have h2:=low2 (a:=a) (b:=b)
 refine Int.pos_of_mul_pos_left ?_ h1
 rw[h2];exact h
theorem zdS {a b c:Int}(hb:0<b)(hc:0<c):lowZ (a*c) (b*c)=lowZ a b:=by
 unfold lowZ gcdZ
 rw[Int.gcd_mul_right]
 have e:(((a.gcd b*c.natAbs:Nat)):Int)=(a.gcd b:Int)*c:=by
  rw[Int.natCast_mul]
  congr 1
  (first|lia|omega)
 rw[e,Int.mul_ediv_mul_of_pos_left _ _ hc,Int.mul_ediv_mul_of_pos_left _ _ hc]
theorem ziB {a b c d:Int}(hb:0<b)(hd:0<d)(h:a*d=c*b):lowZ a b=lowZ c d:=by
 rw[<-zdS hb hd,<-zdS hd hb,h,Int.mul_comm b d]
theorem zjp {a b:Int}(h:0<b):(lowZ a b).1.natAbs<=a.natAbs:=by
 have h1:=low1 (a:=a) (b:=b)
 have h2:=zck (a:=a) h
 generalize (lowZ a b).1=x at*
 generalize gcdZ a b=g at*
 subst h1
 rw[Int.natAbs_mul]
 exact Nat.le_mul_of_pos_right _ (by (first|lia|omega))
theorem zjq {a b:Int}(h:0<b):(lowZ a b).2.natAbs<=b.natAbs:=by
 have h1:=low2 (a:=a) (b:=b)
 have h2:=zck (a:=a) h
 generalize (lowZ a b).2=x at*
 generalize gcdZ a b=g at*
 subst h1
 rw[Int.natAbs_mul]
 exact Nat.le_mul_of_pos_right _ (by (first|lia|omega))
noncomputable abbrev Shr (H:Hp)(z:Addr)(p:Int×Int):Prop:=H z=some (.tup [.int p.1,.int p.2])
structure ShB (p:Int×Int) (n:Nat):Prop where
 pos:0<p.2
 s1:Sm p.1 n
 s2:Sm p.2 n
theorem ShB.mono {p:Int×Int}{m n:Nat}(h:ShB p m)(k:m<=n):ShB p n:=⟨h.pos,h.s1.mono k,h.s2.mono k⟩
theorem ShB.low {a b:Int}{n:Nat}(h:0<b)(ha:Sm a n)(hb:Sm b n):ShB (lowZ a b) n:=⟨zgc h,ha.le (zjp h),hb.le (zjq h)⟩
noncomputable def plZ (p q:Int×Int):Int×Int:=lowZ (p.1*q.2+q.1*p.2) (p.2*q.2)
noncomputable def leZ (p q:Int×Int):Int×Int:=lowZ (p.1*q.2-q.1*p.2) (p.2*q.2)
noncomputable def tmZ (p q:Int×Int):Int×Int:=lowZ (p.1*q.1) (p.2*q.2)
noncomputable def zkm:Sp:=fun vs H Q _=>∃a b:Int,vs=[.int a,.int b]/\0<b/\Q (.int (gcdZ a b)) H
noncomputable def zcp:Sp:=fun vs H Q _=>∃a b:Int,vs=[.int a,.int b]/\0<b/\Sm b 8000/\∀z H',Same H H'->Shr H' z (lowZ a b)->Q (.ref z) H'
noncomputable def spSh (g:Int×Int->Int×Int->Int×Int):Sp:=fun vs H Q _=>∃(x y:Addr) (p q:Int×Int),vs=[.ref x,.ref y]/\Shr H x p/\Shr H y q/\ShB p 3900/\ShB q 3900/\∀z H',Same H H'->Shr H' z (g p q)->Q (.ref z) H'
noncomputable def fcZ:Nat->Int
 |0=>1
 |n+1=>fcZ n*((n:Int)+1)
theorem zby:∀n,0<fcZ n
 |0=>by decide
 |n+1=>Int.mul_pos (zby n) (by (first|lia|omega))
theorem zjR {m n:Nat}(h:m<=n):fcZ m<=fcZ n:=by
  induction n with
  | zero => have:m=0:=by (first|lia|omega)
            rw[this];exact Int.le_refl _
  | succ n ih=>
    by_cases e:m=n+1
    · rw[e];exact Int.le_refl _
    · refine Int.le_trans (ih (by (first|lia|omega))) ?_
      show fcZ n<=fcZ n*((n:Int)+1)
      have:=zby n
      have h2:=Int.mul_le_mul_of_nonneg_left (show (1:Int)<=(n:Int)+1 by (first|lia|omega)) (Int.le_of_lt this)
      (first|lia|omega)
theorem zle {n:Nat}(h:n<=310):Sm (fcZ n) 2200:=by
 have h1:Sm (fcZ 310) 2200:=Sm.of (by decide+kernel)
 refine h1.le ?_
 have:=zjR h
 have:=zby n
 (first|lia|omega)
noncomputable def spFc (N:Nat):Sp:=fun vs H Q _=>∃m:Nat,vs=[.int m]/\m<=N/\Q (.int (fcZ m)) H
theorem sm1:Sm 1 3900:=Sm.of (by decide+kernel)
theorem zjS {a b c d:Int}(hb:0<b)(hd:0<d):plZ (lowZ a b) (lowZ c d)=lowZ (a*d+c*b) (b*d):=by
 unfold plZ
 have h1:=low1 (a:=a) (b:=b)
 have h2:=low2 (a:=a) (b:=b)
 have h3:=low1 (a:=c) (b:=d)
 have h4:=low2 (a:=c) (b:=d)
 have g1:=zck (a:=a) hb
 have g2:=zck (a:=c) hd
 have p1:=zgc (a:=a) hb
 have p2:=zgc (a:=c) hd
 generalize (lowZ a b).1=x at*
 generalize (lowZ a b).2=y at*
 generalize (lowZ c d).1=z at*
 generalize (lowZ c d).2=u at*
 generalize gcdZ a b=g at*
 generalize gcdZ c d=k at*
 subst h1 h2 h3 h4
 rw[<-zdS (Int.mul_pos p1 p2) (Int.mul_pos g1 g2)]
 congr 1
 ·have e1:x*g*(u*k)=(x*u)*(g*k):=by rw[Int.mul_assoc,Int.mul_assoc,Int.mul_left_comm g u k]
  have e2:z*k*(y*g)=(z*y)*(g*k):=by rw[Int.mul_assoc,Int.mul_assoc,Int.mul_left_comm k y g,Int.mul_comm k g]
  rw[e1,e2,Int.add_mul]
 ·rw[Int.mul_assoc,Int.mul_assoc,Int.mul_left_comm g u k]
theorem zlf {d:Int}(h:0<d):lowZ 1 d=(1,d):=by
 unfold lowZ gcdZ
 rw[show (Int.gcd 1 d:Nat)=1 from by rw[Int.one_gcd]]
 simp
noncomputable def hmZ:Nat->Int×Int
 |0=>(0,1)
 |n+1=>plZ (hmZ n) (1,(n:Int)+1)
noncomputable def hnZ:Nat->Int
 |0=>0
 |n+1=>hnZ n*((n:Int)+1)+fcZ n
theorem zlg:∀n,hmZ n=lowZ (hnZ n) (fcZ n)
 |0=>by decide+kernel
 |n+1=>by
  show plZ (hmZ n) (1,(n:Int)+1)=_
  rw[zlg n,<-zlf (show (0:Int)<(n:Int)+1 by (first|lia|omega)),zjS (zby n) (by (first|lia|omega)),Int.one_mul]
  rfl
theorem zlO:∀n<301,(hnZ n).natAbs<2^2300:=by decide+kernel
theorem zlP {n:Nat}(h:n<=300):ShB (hmZ n) 3900:=by
 rw[zlg]
 exact ShB.low (zby n) ((Sm.of (zlO n (by (first|lia|omega)))).mono (by decide)) ((zle (by (first|lia|omega))).mono (by decide))
noncomputable def zgd:Sp:=fun vs H Q _=>∃(m:Nat),vs=[.int m]/\m<=300/\∀p zs H',Same H H'->H' p=some (.tup (zs.map V.ref))->RowsAt H' zs (zbb m)->Q (.ref p) H'
noncomputable def zdq:Sp:=fun vs H Q _=>∃(m:Nat),vs=[.str "highs",.int m]/\m<=300/\∀p zs H',Same H H'->H' p=some (.tup (zs.map V.ref))->RowsAt H' zs (zbb m)->Q (.ref p) H'
noncomputable def zkn:Sp:=fun vs H Q _=>∃(m:Int) (a:Addr) (k:Int),vs=[.int m,.ref a]/\H a=some (.tup [.int k])/\∀z H',Same H H'->Shr H' z (1,k+1)->Q (.ref z) H'
noncomputable def zg1:Sp:=fun vs H Q _=>∃(m:Int) (a:Addr) (k:Int),vs=[.str "highs",.int m,.ref a]/\H a=some (.tup [.int k])/\∀z H',Same H H'->Shr H' z (1,k+1)->Q (.ref z) H'
noncomputable def spHm:Sp:=fun vs H Q _=>∃m:Nat,vs=[.int m]/\m<=300/\∀z H',Same H H'->Shr H' z (hmZ m)->Q (.ref z) H'
theorem sm_N {N:Int}(h0:0<=N)(h1:N<=10^30):Sm N 100:=Sm.of (by
 have:(10:Int)^30<2^100:=by decide+kernel
 (first|lia|omega))
theorem zjr {N:Int}{i:Nat}(h0:0<=N)(h1:N<=10^30)(hi:i<=60):Sm (N-(i:Int)) 100:=Sm.of (by
 have:(10:Int)^30+60<2^100:=by decide+kernel
 (first|lia|omega))
noncomputable def mxZ (N:Int):Int:=if N-1>0 then N-1 else 0
noncomputable def mnZ (kind:Str)(N:Int):Int×Int:=if kind= "rises" then lowZ (mxZ N) 2 else lowZ (N*(N-1)) 4
noncomputable def sdZ (kind:Str)(N:Int):Int×Int:=if kind= "rises" then lowZ ((if decide (1<N)=true then 1 else 0)*(N+1)) 12 else lowZ (N*(N-1)*(2*N+5)) 72
theorem tw_even (N:Int):N*(N-1)/2*2=N*(N-1):=by
 refine Int.ediv_mul_cancel ?_
 have h:=Int.emod_two_eq N
 rcases h with h|h
 ·exact Int.dvd_mul_of_dvd_left (Int.dvd_of_emod_eq_zero h)
 ·exact Int.dvd_mul_of_dvd_right (Int.dvd_of_emod_eq_zero (by (first|lia|omega)))
theorem zjs (N:Int):N*(N-1)/2*(N-2)/3*3=N*(N-1)/2*(N-2):=by
 refine Int.ediv_mul_cancel ?_
 have e:=tw_even N
 generalize N*(N-1)/2=t at*
 have h:N%3=0∨N%3=1∨N%3=2:=by (first|lia|omega)
 have two:∀x:Int,(3:Int) ∣ x*2->3 ∣ x:=fun x hx=>by (first|lia|omega)
 rcases h with h|h|h
 ·refine Int.dvd_mul_of_dvd_left (two t ?_)
  rw[e]
  exact Int.dvd_mul_of_dvd_left (Int.dvd_of_emod_eq_zero h)
 ·refine Int.dvd_mul_of_dvd_left (two t ?_)
  rw[e]
  exact Int.dvd_mul_of_dvd_right (Int.dvd_of_emod_eq_zero (by (first|lia|omega)))
 ·exact Int.dvd_mul_of_dvd_right (Int.dvd_of_emod_eq_zero (by (first|lia|omega)))
theorem zlh (N:Int):lowZ (N*(N-1)/2) 2=lowZ (N*(N-1)) 4:=by
 refine ziB (by decide) (by decide) ?_
 have e:=tw_even N
 (first|lia|omega)
theorem zjt (N:Int):lowZ (3*(N*(N-1)/2)+2*(N*(N-1)/2*(N-2)/3)) 12=lowZ (N*(N-1)*(2*N+5)) 72:=by
 refine ziB (by decide) (by decide) ?_
 have e:=tw_even N
 have e3:=zjs N
 generalize N*(N-1)/2=t at*
 rw[<-e]
 generalize t*(N-2)/3=u at*
 have x1:t*(N-2)=t*N-t*2:=Int.mul_sub ..
 have x2:t*2*(2*N+5)=4*(t*N)+10*t:=by
  rw[Int.mul_add,Int.mul_comm 2 N,<-Int.mul_assoc,Int.mul_right_comm t 2 N]
  (first|lia|omega)
 rw[x2]
 (first|lia|omega)
theorem zli (N:Int)(h0:0<=N):lowZ (if (0:Int)>N-1 then 0 else N-1) 2=lowZ (mxZ N) 2:=by
 unfold mxZ
 congr 1
 split<;>split<;>(first|lia|omega)
theorem zju (N:Int)(h0:0<=N):lowZ (3*(if (0:Int)>N-1 then 0 else N-1)-2*(if (0:Int)>N-2 then 0 else N-2)) 12=lowZ ((if decide (1<N)=true then 1 else 0)*(N+1)) 12:=by
 congr 1
 by_cases h:1<N
 ·rw [if_pos (decide_eq_true h),if_neg (by (first|lia|omega)),if_neg (by (first|lia|omega))]
  (first|lia|omega)
 ·rw [show decide (1<N)=false from decide_eq_false h]
  by_cases e:N=0
  ·subst e;decide
  ·rw[show N=1 by (first|lia|omega)];decide
noncomputable def spN1 (g:Int->Int×Int):Sp:=fun vs H Q _=>∃N:Int,vs=[.int N]/\0<=N/\N<=10^30/\∀z H',Same H H'->Shr H' z (g N)->Q (.ref z) H'
theorem zko {X:Cx}{tg l:Expr}{tl:TE}(K:PySem.W.Frag)(hK:X.K=K)(hl:PE X l tl):PI X tg l (iTup K tl):=hK▸zbU hl
noncomputable def zkp (kind:Str)(N:Int):Int×Int:=if kind= "rounds" ∨kind= "highs" then hmZ N.toNat else if kind= "stays" then (if 0<N then (1,1) else (0,1)) else mnZ kind N
noncomputable def vInt (v:V):Int:=match v with| .int i=>i|_=>0
theorem zeG (ns:List Int):(ns.map V.int).map vInt=ns:=by
 rw[List.map_map]
 exact List.map_id' _
theorem RowsAt.mem {H:Hp}:∀{zs:List Addr} {rows:List (List Int)},RowsAt H zs rows->∀{z:Addr},z∈zs->∃r∈rows,H z=some (.tup (r.map V.int))
 |_,_,.nil,_,h=>nomatch h
 | _,_,.cons (b:=r) h t,z,hz=>by
  rcases List.mem_cons.mp hz with rfl|hz
  ·exact⟨r,by simp,h⟩
  ·obtain ⟨r',h1,h2⟩:=RowsAt.mem t hz
   exact⟨r',List.mem_cons_of_mem _ h1,h2⟩
theorem zge {a b:List Int}(h:a.map V.int=b.map V.int):a=b:=by
 have:=congrArg (List.map vInt) h
 rwa [zeG,zeG] at this
noncomputable def hsZ:Nat->Int×Int
 |0=>(0,1)
 |n+1=>plZ (hsZ n) (leZ (1,(n:Int)+1) (tmZ (1,(n:Int)+1) (1,(n:Int)+1)))
noncomputable def vnZ:Nat->Int
 |0=>0
 |n+1=>vnZ n*(((n:Int)+1)*((n:Int)+1))+(n:Int)*(fcZ n*fcZ n)
theorem zjT {m:Int}(h:0<m):tmZ (1,m) (1,m)=(1,m*m):=by
 unfold tmZ
 exact zlf (Int.mul_pos h h)
theorem zjU {m:Int}(h:0<m):leZ (1,m) (tmZ (1,m) (1,m))=lowZ (m-1) (m*m):=by
 rw[zjT h]
 unfold leZ
 dsimp only
 rw[Int.one_mul,Int.one_mul]
 refine ziB (Int.mul_pos h (Int.mul_pos h h)) (Int.mul_pos h h) ?_
 rw[show m*m-m=(m-1)*m by rw[Int.sub_mul,Int.one_mul],Int.mul_assoc]
theorem zlj:∀n,hsZ n=lowZ (vnZ n) (fcZ n*fcZ n)
 |0=>by decide+kernel
 |n+1=>by
  have hm:(0:Int)<(n:Int)+1:=by (first|lia|omega)
  show plZ (hsZ n) (leZ (1,(n:Int)+1) (tmZ (1,(n:Int)+1) (1,(n:Int)+1)))=_
  rw[zlj n,zjU hm,zjS (Int.mul_pos (zby n) (zby n)) (Int.mul_pos hm hm)]
  show _=lowZ (vnZ n*(((n:Int)+1)*((n:Int)+1))+(n:Int)*(fcZ n*fcZ n)) (fcZ n*((n:Int)+1)*(fcZ n*((n:Int)+1)))
  rw[show (n:Int)+1-1=(n:Int) by (first|lia|omega),show fcZ n*fcZ n*(((n:Int)+1)*((n:Int)+1))=fcZ n*((n:Int)+1)*(fcZ n*((n:Int)+1)) by rw[Int.mul_assoc,Int.mul_assoc,Int.mul_left_comm (fcZ n) ((n:Int)+1)]]
theorem zlQ:∀n<202,(vnZ n).natAbs<2^2600:=by decide+kernel
theorem ziC {n:Nat}(h:n<=201):Sm (fcZ n) 1260:=by
 have h1:Sm (fcZ 201) 1260:=Sm.of (by decide+kernel)
 refine h1.le ?_
 have:=zjR h
 have:=zby n
 (first|lia|omega)
theorem zlR {n:Nat}(h:n<=201):ShB (hsZ n) 3900:=by
 rw[zlj]
 exact ShB.low (Int.mul_pos (zby n) (zby n)) ((Sm.of (zlQ n (by (first|lia|omega)))).mono (by decide)) (((ziC h).mul (ziC h)).mono (by decide))
theorem zlk {m:Int}(h:0<m)(h1:m<=1000):ShB (1,m) 10:=⟨h,Sm.of (show (1:Int).natAbs<2^10 by decide),Sm.of (by show m.natAbs<2^10;(first|lia|omega))⟩
noncomputable def zgf (kind:Str)(N:Int):Int×Int:=if kind= "rounds" ∨kind= "highs" then hsZ N.toNat else if kind= "stays" then (if 1<N then (1,1) else (0,1)) else sdZ kind N
noncomputable def spHs:Sp:=fun vs H Q _=>∃m:Nat,vs=[.int m]/\m<=200/\∀z H',Same H H'->Shr H' z (hsZ m)->Q (.ref z) H'
noncomputable def zdr:Sp:=fun vs H Q _=>∃(kind:Str) (N:Int),vs=[.str kind,.int N]/\kind∈zaO/\0<=N/\N<=10^30/\(kind= "rounds" ∨kind= "highs" ->N<=200)/\∀z H',Same H H'->Shr H' z (zgf kind N)->Q (.ref z) H'
noncomputable def oneA (kind:Str)(N:Int)(p:List Int):Int×Int:=(1,if kind= "rounds" then N-p.getD 0 0 else if kind= "stays" then N else if kind= "highs" then p.getD 0 0+1 else 2)
theorem zhu:∀n:Nat,n<7->∀kind∈zaO,(zaz kind n).length<=100:=by decide+kernel
theorem zet {kind:Str}{m:Nat}:∀r∈zaz kind m,0<r.length:=fun r hr=>by
 unfold zaz at hr
 split at hr
 ·obtain ⟨_,_,rfl⟩:=List.mem_map.mp hr
  exact Nat.succ_pos _
 ·split at hr
  all_goals
   unfold zbb at hr
   obtain⟨_,_,rfl⟩:=List.mem_map.mp hr
   exact Nat.succ_pos _
noncomputable def zg2:Sp:=fun vs H Q _=>∃(kind:Str) (N:Int) (p:Addr) (ps:List Int),vs=[.str kind,.int N,.ref p]/\kind∈zaO/\H p=some (.tup (ps.map V.int))/\0<ps.length/\∀z H',Same H H'->Shr H' z (oneA kind N ps)->Q (.ref z) H'
noncomputable def zcS (g:Int->List Int->Int):Sp:=fun vs H Q _=>∃(N:Int) (p:Addr) (ps:List Int),vs=[.int N,.ref p]/\H p=some (.tup (ps.map V.int))/\0<ps.length/\∀z H',Same H H'->Shr H' z (1,g N ps)->Q (.ref z) H'
noncomputable def zcq (kind:Str)(N:Int)(p q:List Int):Int×Int:=
 if p=q then oneA kind N p
 else if kind= "rounds" then tmZ (1,N-p.getD 0 0) (1,N-q.getD 0 0)
 else if kind= "stays" then lowZ 1 (N*(N-1))
 else if kind= "rises" then (if (p.getD 0 0-q.getD 0 0).natAbs=1 then (1,6) else (1,4))
 else if kind= "highs" then tmZ (1,p.getD 0 0+1) (1,q.getD 0 0+1)
 else if p.getD 0 0=q.getD 0 0∨p.getD 1 0=q.getD 1 0 then (1,3)
 else if p.getD 0 0=q.getD 1 0∨p.getD 1 0=q.getD 0 0 then (1,6) else (1,4)
theorem zaI {kind:Str}{m:Nat}{r:List Int}(hr:r∈zaz kind m):∃k:Nat,k<m/\(kind= "rises" ->k+1<m)/\((kind≠ "crossed" /\r=[(k:Int)])∨(kind= "crossed" /\∃j:Nat,k<j/\j<m/\r=[(k:Int),(j:Int)])):=by
 unfold zaz at hr
 by_cases hc:kind= "crossed"
 ·rw [if_pos hc] at hr
  obtain⟨⟨a,b⟩,hab,rfl⟩:=List.mem_map.mp hr
  obtain⟨k,hk,hb⟩:=List.mem_flatMap.mp hab
  obtain⟨hk0,hk1⟩:=mem_num0.mp hk
  obtain⟨j,hj,e⟩:=List.mem_map.mp hb
  obtain⟨rfl,rfl⟩:=Prod.mk.inj e
  obtain⟨i,hi,rfl⟩:=List.mem_map.mp hj
  have hi:=List.mem_range.mp hi
  refine⟨k.toNat,by (first|lia|omega),fun h=>absurd (h.symm.trans hc) (by decide),.inr ⟨hc,(k+1+(i:Int)).toNat,by (first|lia|omega),by (first|lia|omega), ?_⟩⟩
  show [k,k+1+(i:Int)]=_
  rw[Int.toNat_of_nonneg hk0,Int.toNat_of_nonneg (by (first|lia|omega))]
 ·rw [if_neg hc] at hr
  by_cases h2:kind= "rises"
  ·rw [if_pos h2] at hr
   obtain⟨k,hk,rfl⟩:=List.mem_map.mp hr
   obtain⟨hk0,hk1⟩:=mem_num0.mp hk
   exact⟨k.toNat,by (first|lia|omega),fun _=>by (first|lia|omega),.inl ⟨hc,by rw[Int.toNat_of_nonneg hk0]⟩⟩
  ·rw [if_neg h2] at hr
   obtain⟨k,hk,rfl⟩:=List.mem_map.mp hr
   obtain⟨hk0,hk1⟩:=mem_num0.mp hk
   exact⟨k.toNat,by (first|lia|omega),fun h=>absurd h h2,.inl ⟨hc,by rw[Int.toNat_of_nonneg hk0]⟩⟩
section
variable {κ:Type}[DecidableEq κ]
noncomputable def valV (kvs:List (κ×V))(k:κ):Option V:=(kvs.find? fun kv=>decide (kv.1=k)).map (·.2)
noncomputable def putK (kvs:List (κ×V))(k:κ)(v:V):List (κ×V):=
 if (kvs.any fun kv=>decide (kv.1=k))=true then kvs.map (fun kv=>if kv.1=k then (kv.1,v) else kv) else kvs++[(k,v)]
theorem zaY {p:κ×V}{r:List (κ×V)}{k:κ}(e:p.1=k):valV (p::r) k=some p.2:=by simp[valV,List.find?_cons,e]
theorem zaZ {p:κ×V}{r:List (κ×V)}{k:κ}(e:¬p.1=k):valV (p::r) k=valV r k:=by simp[valV,List.find?_cons,e]
theorem zds (k:κ):∀kvs:List (κ×V),(kvs.any fun kv=>decide (kv.1=k))=(valV kvs k).isSome
 |[]=>rfl
 |p::r=>by
  rw[List.any_cons]
  by_cases e:p.1=k
  ·simp only[zaY e,decide_eq_true e,Bool.true_or,Option.isSome_some]
  ·rw[zaZ e,decide_eq_false e,Bool.false_or];exact zds k r
theorem zg3 (k j:κ)(y:V):∀kvs:List (κ×V),valV (kvs.map fun kv=>if kv.1=k then (kv.1,y) else kv) j=(valV kvs j).map fun x=>if j=k then y else x
 |[]=>rfl
 | p::r=>by
  have ih:=zg3 k j y r
  rw[List.map_cons]
  by_cases h:p.1=k
  ·rw [if_pos h]
   by_cases e:p.1=j
   ·rw[zaY (p:=(p.1,y)) e,zaY e,Option.map_some,if_pos (e.symm.trans h)]
   ·rw[zaZ (p:=(p.1,y)) e,zaZ e,ih]
  ·rw [if_neg h]
   by_cases e:p.1=j
   ·rw[zaY (p:=p) e,zaY e,Option.map_some,if_neg (fun z=>h (e.trans z))]
   ·rw[zaZ (p:=p) e,zaZ e,ih]
theorem zfx (k j:κ)(y:V):∀kvs:List (κ×V),valV kvs k=none->valV (kvs++[(k,y)]) j=if j=k then some y else valV kvs j
 |[],_=>by
  by_cases e:k=j
  ·rw[if_pos e.symm];exact zaY (p:=(k,y)) e
  ·rw[if_neg (fun z=>e z.symm)];exact zaZ (p:=(k,y)) e
 |p::r,hn=>by
  rw[List.cons_append]
  have hk:¬p.1=k:=fun z=>by rw[zaY z] at hn;cases hn
  rw[zaZ hk] at hn
  have ih:=zfx k j y r hn
  by_cases e:p.1=j
  ·rw[zaY e,zaY e,if_neg (fun z=>hk (e.trans z))]
  ·rw[zaZ e,zaZ e,ih]
theorem zg4 (kvs:List (κ×V))(k j:κ)(y:V):valV (putK kvs k y) j=if j=k then some y else valV kvs j:=by
 unfold putK
 by_cases a:(kvs.any fun kv=>decide (kv.1=k))=true
 ·rw [if_pos a,zg3]
  rw[zds] at a
  by_cases e:j=k
  ·obtain ⟨x,hx⟩:=Option.isSome_iff_exists.mp a
   rw[if_pos e,e,hx,Option.map_some,if_pos rfl]
  ·rw [if_neg e]
   cases valV kvs j with
   |none=>rfl
   |some x=>rw[Option.map_some,if_neg e]
 ·rw [if_neg a]
  refine zfx k j y kvs ?_
  rw[zds] at a
  cases q:valV kvs k with
  |none=>rfl
  |some x=>rw[q] at a;exact (a rfl).elim
theorem zdT (kvs:List (κ×V))(k:κ)(v:V):(putK kvs k v).length<=kvs.length+1:=by
 unfold putK
 split
 ·rw[List.length_map];(first|lia|omega)
 ·rw[List.length_append,List.length_cons,List.length_nil];(first|lia|omega)
theorem RelO.isSome_eq {o:Option V}{u:Option Value}(r:RelO o u):o.isSome=u.isSome:=by
 cases o with
 |none=>cases u with
  |none=>rfl
  |some _=>exact (show False from r).elim
 |some _=>cases u with
  |none=>exact (show False from r).elim
  |some _=>rfl
theorem RelO.getD {o:Option V}{u:Option Value}{d:V}{d':Value}(r:RelO o u)(rd:RelV d d'):RelV (o.getD d) (u.getD d'):=by
 cases o with
 |none=>cases u with
  |none=>exact rd
  |some _=>exact (show False from r).elim
 |some _=>cases u with
  |none=>exact (show False from r).elim
  |some _=>exact r
theorem KV.val {kvs:List (κ×V)}{vs:List (κ×Value)}(r:KV kvs vs)(k:κ):RelO (valV kvs k) (valueAt vs k):=by
 unfold KV at r
 induction r with
 |nil=>exact True.intro
 | @cons p q ps qs h t ih=>
  obtain⟨h1,h2⟩:=h
  by_cases e:p.1=k
  ·have e':q.1=k:=h1.symm.trans e
   have b:valueAt (q::qs) k=some q.2:=by simp[valueAt,List.find?_cons,e']
   rw[zaY e,b];exact h2
  ·have e':¬q.1=k:=fun z=>e (h1.trans z)
   have b:valueAt (q::qs) k=valueAt qs k:=by simp[valueAt,List.find?_cons,e']
   rw[zaZ e,b];exact ih
end
theorem zjv {P:Program}{w:World}{k:Key}{u:Value}(r:RelV (kV k) u):(zaE P w).is k u=true:=by
 cases k with
 |inl i=>obtain⟨t,e⟩:=(show ∃t,u=Value.int i t from r);subst e;exact zfQ P w i t
 |inr x=>obtain⟨t,e⟩:=(show ∃t,u=Value.str x t from r);subst e;exact zfR P w x t
theorem zfy {P:Program}{w:World}:∀{ks:List Key} {us:List Value},Vals (ks.map kV) us->ItemsAre (zaE P w) ks us
 |[],_,r=>by rw[List.map_nil] at r;cases r;exact .nil
 |k::ks,_,r=>by
  rw[List.map_cons] at r
  cases r with
  |cons h t=>exact .cons (zjv h) (zfy t)
noncomputable abbrev KT (H:Hp):List (List Key×V)->List (List Key×Addr×Value)->Prop:=Paired fun p q=>p.1=q.1/\H q.2.1=some (.tup (p.1.map kV))/\RelV p.2 q.2.2
theorem KT.val {H:Hp}{kvs:List (List Key×V)}{xs:List (List Key×Addr×Value)}(r:KT H kvs xs)(k:List Key):RelO (valV kvs k) ((atKey xs k).map (·.2)):=by
 induction r with
 |nil=>exact True.intro
 | @cons p q ps qs h t ih=>
  obtain⟨h1,_,h2⟩:=h
  by_cases e:p.1=k
  ·have e':q.1=k:=h1.symm.trans e
   have b:atKey (q::qs) k=some q.2:=by simp[atKey,List.find?_cons,e']
   rw[zaY e,b];exact h2
  ·have e':¬q.1=k:=fun z=>e (h1.trans z)
   have b:atKey (q::qs) k=atKey qs k:=by simp[atKey,List.find?_cons,e']
   rw[zaZ e,b];exact ih
theorem KT.repl {H:Hp}{kvs:List (List Key×V)}{xs:List (List Key×Addr×Value)}(r:KT H kvs xs)(k:List Key){y:V}{u:Value}(ry:RelV y u):
  KT H (kvs.map fun kv=>if kv.1=k then (kv.1,y) else kv) (xs.map (putAt k u)):=by
 induction r with
 |nil=>exact .nil
 |@cons p q ps qs h t ih=>
  rw[List.map_cons,List.map_cons]
  refine .cons ?_ ih
  obtain⟨h1,h2,h3⟩:=h
  unfold putAt
  by_cases e:p.1=k
  ·rw[if_pos e,if_pos (h1.symm.trans e)];exact⟨h1,h2,ry⟩
  ·rw[if_neg e,if_neg (fun z=>e (h1.trans z))];exact⟨h1,h2,h3⟩
theorem KT.put {H:Hp}{kvs:List (List Key×V)}{xs:List (List Key×Addr×Value)}(r:KT H kvs xs)(k:List Key){b:Addr}{y:V}{u:Value}(hb:H b=some (.tup (k.map kV)))(ry:RelV y u):
  KT H (putK kvs k y) (storedH xs k b u):=by
 have e:(kvs.any fun kv=>decide (kv.1=k))=(atKey xs k).isSome:=by
  rw[zds,(r.val k).isSome_eq,Option.isSome_map]
 unfold putK storedH
 rw[e]
 by_cases q:(atKey xs k).isSome=true
 ·rw[if_pos q,if_pos q];exact r.repl k ry
 ·rw[if_neg q,if_neg q];exact Paired.snoc r ⟨rfl,hb,ry⟩
theorem KT.keeps {H H':Hp}{kvs:List (List Key×V)}{xs:List (List Key×Addr×Value)}(r:KT H kvs xs)(ht:∀b ys,H b=some (.tup ys)->H' b=some (.tup ys)):KT H' kvs xs:=
 Paired.mapP r fun _ _ z=>⟨z.1,ht _ _ z.2.1,z.2.2⟩
section
variable {P:Program}{w:World}{H:Hp}{h:Heap}{a:Addr}
theorem zll {u:HO}(ok:HOk P w H h)(e:Rd H a u):ObjOk P w H h a u:=e.ok ok
theorem ziD {kvs:List (Key×V)}(ok:HOk P w H h)(e:Rd H a (.dK kvs)):kvs.length<=sizeLine/\(a==sysModules)=false/\∃vs,KV kvs vs/\h.DictOf (zaE P w) a vs:=
 show ObjOk P w H h a (.dK kvs) from zll ok e
theorem zlm {kvs:List (Key×V)}(ok:HOk P w H h)(e:H a=some (.dK kvs)):kvs.length<=sizeLine/\(a==sysModules)=false/\∃vs,KV kvs vs/\h.DictOf (zaE P w) a vs:=ziD ok (.inl e)
theorem zg5 {ks:List Key}(ok:HOk P w H h)(e:H a=some (.tup (ks.map kV))):(tupleKind (zaE P w)).is h ks a:=by
 obtain⟨_,its,r,o,h1,h2,⟨n,h3⟩,_⟩:=(show ObjOk P w H h a (.tup (ks.map kV)) from ok a _ e)
 exact⟨o,its.toArray,n,h1,h2,h3,by simpa using zfy r⟩
theorem ziE {kvs:List (List Key×V)}(ok:HOk P w H h)(e:Rd H a (.dT kvs)):kvs.length<=sizeLine/\(a==sysModules)=false/\
  ∃xs,KT H kvs xs/\h.DictOfH (tupleKind (zaE P w)) a xs:=by
 obtain⟨z,y,xs,r,o,es,ep,h1,h2,h3,h4,h5⟩:=(show ObjOk P w H h a (.dT kvs) from zll ok e)
 refine⟨z,y,xs,r,o,es,ep,h1,h2,h3,h4,fun x hx=> ?_,h5⟩
 have all:∀{l:List (List Key×V)} {m:List (List Key×Addr×Value)},KT H l m->∀x∈m,(tupleKind (zaE P w)).is h x.1 x.2.1:=by
  intro l m q
  induction q with
  |nil=>intro x hx;exact nomatch hx
  | @cons p q ps qs hq t ih=>
   intro x hx
   rcases List.mem_cons.mp hx with e|hx
   ·subst e
    exact zg5 ok (by rw[<-hq.1];exact hq.2.1)
   ·exact ih x hx
 exact all r x hx
theorem zlS {kvs:List (List Key×V)}(ok:HOk P w H h)(e:H a=some (.dT kvs)):kvs.length<=sizeLine/\(a==sysModules)=false/\
  ∃xs,KT H kvs xs/\h.DictOfH (tupleKind (zaE P w)) a xs:=ziE ok (.inl e)
end
noncomputable def DGet (H:Hp)(a:Addr)(y:V)(r:Option V):Prop:=
 (∃kvs k,Rd H a (.dK kvs)/\y=kV k/\r=valV kvs k)∨∃kvs k b,Rd H a (.dT kvs)/\y=.ref b/\H b=some (.tup (k.map kV))/\r=valV kvs k
theorem DGet.k {H:Hp}{a:Addr}{kvs:List (Key×V)}{k:Key}(e:H a=some (.dK kvs)):DGet H a (kV k) (valV kvs k):=.inl ⟨kvs,k,.inl e,rfl,rfl⟩
theorem DGet.t {H:Hp}{a b:Addr}{kvs:List (List Key×V)}{k:List Key}(e:H a=some (.dT kvs))(eb:H b=some (.tup (k.map kV))):DGet H a (.ref b) (valV kvs k):=.inr ⟨kvs,k,b,.inl e,rfl,eb,rfl⟩
section
variable {X:Cx}{pins:List (Addr×Obj)}{σ:St}{H:Hp}{s:Shared}{a:Addr}{y v:V}{u r:Value}{o:Option V}{A:Around}{E:Value->Shared->Prop}
theorem Inv.big (I:Inv X pins σ H s):sysModules<s.heap.objs.size:=by
 have h:mainGlobals<s.heap.objs.size:=(I.mod.glob.keeps I.bk).lt
 exact Nat.lt_trans (by decide) h
theorem ziF {Q:Value->Shared->Prop}(hu:A.units+1<cLine)(I:Inv X pins σ H s)(g:DGet H a y (some v))(ry:RelV y u)(h:∀w' s',Inv X pins σ H s'->RelV v w'->Q w' s'):
  wpAny (model X.prog X.w) A (getItem (.ref a) u) Q E s:=by
 rcases g with⟨kvs,k,e,ey,l⟩|⟨kvs,k,b,e,ey,eb,l⟩
 ·subst ey
  obtain⟨z,hd,vs,rel,dd⟩:=ziD I.hok e
  obtain⟨w',hw,rw'⟩:=RelO.some_of (v:=v) (o:=valueAt vs k) (by rw[l];exact rel.val k)
  exact wpAny_getItem_of (zjv ry) dd.mapOf hw (h w' _ (I.tok _) rw')
 ·subst ey
  cases (show u=Value.ref b from ry)
  obtain⟨z,hd,xs,rel,dd⟩:=ziE I.hok e
  obtain⟨w',hw,rw'⟩:=RelO.some_of (v:=v) (o:=(atKey xs k).map (·.2)) (by rw[l];exact rel.val k)
  obtain⟨p,hp,hp2⟩:=Option.map_eq_some_iff.mp hw
  refine wpAny_getItem_heap (tupleKind_room_in1 hu) (zg5 I.hok eb) dd hp ?_
  rw[hp2]
  exact h w' _ (I.tok _) rw'
theorem ziG {h':Heap}{t':Nat}{ob:HO}(I:Inv X pins σ H s)(mu:Mut (H a))(hs:Heap.SameBut a s.heap h')(he:∃q,h'.get? a=some q)(new:ObjOk X.prog X.w (upd H a ob) h' a ob):
  Inv X pins σ (upd H a ob) {s with heap:=h',toks:=t'}:=
 I.write (x:=a) (e:=a) mu (.inl rfl) (fun b q hb z=>(hs.2 b hb).trans z) he new
theorem zln {P:Program}{w:World}{H':Hp}{h':Heap}{kvs:List (Key×V)}{vs:List (Key×Value)}(z:kvs.length<=sizeLine)(hd:(a==sysModules)=false)(rel:KV kvs vs)(dd:h'.DictOf (zaE P w) a vs):
  ObjOk P w H' h' a (.dK kvs):=⟨z,hd,vs,rel,dd⟩
end
section
variable {X:Cx}{pins:List (Addr×Obj)}{σ:St}{H:Hp}{s:Shared}{a:Addr}{kvs:List (Key×V)}{k:Key}{u:Value}{A:Around}{E:Value->Shared->Prop}
end
noncomputable def NoSl (i:Expr):Prop:=∀ov iv,subscripted i false ov iv=operate [ov,iv] (getItem ov iv)
theorem zkq {prog:Program}{w:World}{A:Around}{E:Value->Shared->Prop}{s:Shared}{env:Env}{value slice:Expr}{pos:Pos}{T id:String}{Q:Value->Shared->Prop}
  (hl:typeLookup (.type T) "__getitem__" =pure (some (.builtin id))) (hs:NoSl slice)
  (h:wpAny (model prog w) A (eval value env) (fun o s₁=>wpAny (model prog w) A (eval slice env) (fun i s₂=>s₂.TypeIs o T/\wpAny (model prog w) A (getItem o i) Q E s₂) E s₁) E s):
  wpAny (model prog w) A (eval (.Subscript value slice pos) env) Q E s:=by
 refine Subscript_ (wpAny_mono h (fun o s₁ h₁=>wpAny_mono h₁ (fun i s₂ h₂=> ?_) fun _ _ x=>x) fun _ _ x=>x)
 obtain⟨hT,h₂⟩:=h₂
 unfold subscriptTail
 refine wpAny_bind ?_
 rw[getitemInPython_of_ne hT.not_modules]
 refine wpAny_bind (wpAny_specialOf hT hl ?_)
 have fin:wpAny (model prog w) A (subscripted slice false o i) (fun r s₃=>wpAny (model prog w) A (letTemporaryGo value o r >>= fun _=>pure r) Q E s₃) E s₂:=by
  rw[hs o i]
  exact wpAny_operating (wpAny_mono h₂ (fun r s₃ h₃=>wpAny_bind (wpAny_letTemporaryGo (wpAny_pure h₃))) fun _ _ x=>x)
 first
  |exact wpAny_pure (wpAny_bind fin)
  |exact wpAny_bind (wpAny_pure (wpAny_bind fin))
  |exact wpAny_bind fin
theorem zgg {X:Cx}{pins:List (Addr×Obj)}{σ:St}{H:Hp}{s:Shared}{a:Addr}{y:V}{o:Option V}(I:Inv X pins σ H s)(g:DGet H a y o):s.TypeIs (.ref a) "dict" :=by
 rcases g with⟨kvs,k,e,_,_⟩|⟨kvs,k,b,e,_,_,_⟩
 ·obtain ⟨_,_,vs,_,dd⟩:=ziD I.hok e
  exact dd.typeIs
 ·obtain ⟨_,_,xs,_,dd⟩:=ziE I.hok e
  exact dd.typeIs
noncomputable def zlT (td ty:TE):TE:=fun σ H Q=>td σ H fun x H1=>ty σ H1 fun y H2=>∃a v,x=.ref a/\DGet H2 a y (some v)/\Q v H2
section
variable {X:Cx}{o i e value:Expr}{pos pos' tpos:Pos}{td ty tv:TE}
theorem zgh (hu:X.A.units+1<cLine)(ho:PE X o td)(hi:PE X i ty)(hs:NoSl i):PE X (.Subscript o i pos) (zlT td ty):=by
 intro pins s σ H Q I h
 refine zkq PySem.F.slot_dict_getitem.lookup hs (thn (ho pins s σ H _ I h) fun u s1 ⟨x,H1,I1,rx,q1⟩=>thn (hi pins s1 σ H1 _ I1 q1) fun iv s2 ⟨y,H2,I2,ry,a,v,ex,g,q2⟩=> ?_)
 subst ex
 obtain rfl:u=Value.ref a:=rx
 exact⟨zgg I2 g,ziF hu I2 g ry fun w' s3 I3 rw'=>⟨v,H2,I3,rw',q2⟩⟩
end
theorem zjw {P:Program}{w:World}{H:Hp}(h:Heap)(hb:sysModules<h.objs.size):ObjOk P w H (h.push {cls:=.type "dict",data:=.dict #[]}) h.objs.size (.dK []):=
 ⟨Nat.zero_le _,beq_eq_false_iff_ne.mpr (Ne.symm (Nat.ne_of_lt hb)),[],.nil,Heap.DictOf.new h⟩
theorem zjx {P:Program}{w:World}{H:Hp}(h:Heap)(hb:sysModules<h.objs.size):ObjOk P w H (h.push {cls:=.type "dict",data:=.dict #[]}) h.objs.size (.dT []):=
 ⟨Nat.zero_le _,beq_eq_false_iff_ne.mpr (Ne.symm (Nat.ne_of_lt hb)),[],.nil,_,#[],0,Heap.get?_push_size _ rfl,⟨rfl,rfl,rfl⟩,rfl,rfl,List.nodup_nil⟩
section
variable {X:Cx}{pos:Pos}
end
structure M1 (X:Cx) (o:Expr) (m:Str) (apos:Pos) (e:Expr) (cpos:Pos):Prop where
 base:attributeBase o m X.env (eval o X.env)=eval o X.env
 few:((backTo cpos (starEach [e] X.env)).all (fun x=> !x.1)&&(backToKw cpos (keywordEach [] X.env)).all (fun x=>x.1.isSome)
  &&decide (([e]:List Expr).length+([]:List Keyword).length+(if ([]:List Keyword).isEmpty then 0 else 1)<30))=true
 line:(apos.endLine==cpos.line)=true
 trees:backTo cpos (starEach [e] X.env)=[(false,eval e X.env)]
structure M2 (X:Cx) (o:Expr) (m:Str) (apos:Pos) (e f:Expr) (cpos:Pos):Prop where
 base:attributeBase o m X.env (eval o X.env)=eval o X.env
 few:((backTo cpos (starEach [e,f] X.env)).all (fun x=> !x.1)&&(backToKw cpos (keywordEach [] X.env)).all (fun x=>x.1.isSome)
  &&decide (([e,f]:List Expr).length+([]:List Keyword).length+(if ([]:List Keyword).isEmpty then 0 else 1)<30))=true
 line:(apos.endLine==cpos.line)=true
 trees:backTo cpos (starEach [e,f] X.env)=[(false,eval e X.env),(false,eval f X.env)]
noncomputable def IsD (H:Hp)(a:Addr):Prop:=(∃kvs,Rd H a (.dK kvs))∨∃kvs,Rd H a (.dT kvs)
theorem zlo {X:Cx}{pins:List (Addr×Obj)}{σ:St}{H:Hp}{s:Shared}{a:Addr}(I:Inv X pins σ H s)(d:IsD H a):
  s.TypeIs (.ref a) "dict" /\(∀b,Value.ref a=.ref b->∃ob,s.heap.get? b=some ob/\ob.dict=none)/\(a==sysModules)=false:=by
 rcases d with⟨kvs,e⟩|⟨kvs,e⟩
 ·obtain ⟨_,hd,vs,_,dd⟩:=ziD I.hok e
  refine⟨dd.typeIs,fun b q=> ?_,hd⟩
  cases q
  obtain⟨ob,_,_,h1,h2,_⟩:=dd
  exact⟨ob,h1,h2.2.1⟩
 ·obtain ⟨_,hd,xs,_,dd⟩:=ziE I.hok e
  refine⟨dd.typeIs,fun b q=> ?_,hd⟩
  cases q
  obtain⟨ob,_,_,h1,h2,_⟩:=dd
  exact⟨ob,h1,h2.2.1⟩
section
variable {X:Cx}{pins:List (Addr×Obj)}{σ:St}{H:Hp}{s:Shared}{a:Addr}{y d:V}{u r:Value}{o:Option V}{A:Around}{E:Value->Shared->Prop}
theorem zlp {Q:Value->Shared->Prop}(hu:A.units+1<cLine)(I:Inv X pins σ H s)(g:DGet H a y o)(ry:RelV y u)(rd:RelV d r)(h:∀w' s',Inv X pins σ H s'->RelV (o.getD d) w'->Q w' s'):
  wpAny (model X.prog X.w) A (call (.builtin "dict.get") [.ref a,u,r]) Q E s:=by
 rcases g with⟨kvs,k,e,ey,l⟩|⟨kvs,k,b,e,ey,eb,l⟩
 ·subst ey
  obtain⟨z,hd,vs,rel,dd⟩:=ziD I.hok e
  refine call_meetsIn PySem.F.slot_dict_get dd.typeIs PySem.F.entry_dict_get (PySem.F.args_dict_get_3 _ _ _) (meets_dict_get_default (zaE X.prog X.w) a (zjv ry) hd r) ⟨_,dd.mapOf,h _ _ (I.tok _) ?_⟩
  rw[l]
  exact (rel.val k).getD rd
 ·subst ey
  cases (show u=Value.ref b from ry)
  obtain⟨z,hd,xs,rel,dd⟩:=ziE I.hok e
  refine call_meetsIn PySem.F.slot_dict_get dd.typeIs PySem.F.entry_dict_get (PySem.F.args_dict_get_3 _ _ _) (meetsH_dict_get_default (tupleKind (zaE X.prog X.w)) a b hd r) ⟨tupleKind_room_in1 hu,k,xs,zg5 I.hok eb,dd,h _ _ (I.tok _) ?_⟩
  rw[l]
  exact (rel.val k).getD rd
end
noncomputable def zjV (td ty tx:TE):TE:=fun σ H Q=>td σ H fun x H1=>∃a,x=.ref a/\IsD H1 a/\ty σ H1 fun y H2=>tx σ H2 fun z H3=>∃o,DGet H3 a y o/\Q (o.getD z) H3
section
variable {X:Cx}{o e f:Expr}{apos cpos:Pos}{td ty tx:TE}
theorem pe_dget2 (hu:X.A.units+1<cLine)(ho:PE X o td)(he:PE X e ty)(hf:PE X f tx)(m:M2 X o "get" apos e f cpos):PE X (.Call (.Attribute o "get" apos) [e,f] [] cpos) (zjV td ty tx):=by
 intro pins s σ H Q I h
 refine wpAny_Call_method m.base m.few m.line PySem.F.plainAttrs_dict PySem.F.slot_dict_get PySem.F.type_dict_get (thn (ho pins s σ H _ I h) fun u s1 zq=> ?_)
 obtain⟨x,H1,I1,rx,a,ex,d,q1⟩:=zq
 subst ex
 obtain rfl:u=Value.ref a:=rx
 obtain⟨t1,t2,_⟩:=zlo I1 d
 refine⟨t1,t2, ?_⟩
 rw[m.trees]
 refine Calls.callWith_builtin rfl (Calls.evalArgs_plain (Calls.spliced_cons (thn (he pins s1 σ H1 _ I1 q1) fun iv s2 ⟨y,H2,I2,ry,q2⟩=>
  Calls.spliced_cons (thn (hf pins s2 σ H2 _ I2 q2) fun fv s3 ⟨z,H3,I3,rz,ov,g,q3⟩=>Calls.spliced_nil ?_))))
 exact zlp hu I3 g ry rz fun w' s4 I4 rw'=>⟨_,H3,I4,rw',q3⟩
end
section
variable {X:Cx}{pins:List (Addr×Obj)}{σ:St}{H:Hp}{s:Shared}{a:Addr}{kvs:List (Key×V)}{A:Around}{E:Value->Shared->Prop}
end
section
variable {X:Cx}{pins:List (Addr×Obj)}{σ:St}{H:Hp}{s:Shared}{a:Addr}{y:V}{u:Value}{A:Around}{E:Value->Shared->Prop}
end
theorem zdU:entryFor table "dict.update.loop" =some Builtin.«dict.update.loop»:=by kernel_rfl
theorem zbM:plainId "dict.update.loop" =true:=by decide+kernel
theorem zhv {X:Cx}{pins:List (Addr×Obj)}{σ:St}{H:Hp}{s:Shared}{a b:Addr}{kvs:List (List Key×V)}{k:List Key}{v:V}{r:Value}{A:Around}{E:Value->Shared->Prop}{Q:Unit->Shared->Prop}(hu:(tupleKind (zaE X.prog X.w)).room A)(I:Inv X pins σ H s)(e:H a=some (.dT kvs))(eb:H b=some (.tup (k.map kV)))(l:kvs.length<sizeLine)(rv:RelV v r)
  (h:∀s',Inv X pins σ (upd H a (.dT (putK kvs k v))) s'->(∀c,c≠a->s'.heap.get? c=s.heap.get? c)->Q () s'):
  wpAny (model X.prog X.w) A (dictSet a (.ref b) r) Q E s:=by
 obtain⟨z,hd,xs,rel,dd⟩:=zlS I.hok e
 have hz:xs.length<=sizeLine:=by rw[<-Paired.length rel];exact z
 have hl:(putK kvs k v).length<=sizeLine:=by have:=zdT kvs k v;(first|lia|omega)
 refine wpAny_dictSet_heap (hsz:=hz) hu (zg5 I.hok eb) dd fun h' dd' hs=>h _ ?_ (fun c hc=>hs.2 c hc)
 obtain⟨q,es,ep,hq,h2,h3,h4,_,h5⟩:=dd'
 refine ziG I (by rw[e];exact True.intro) hs ⟨q,hq⟩ ⟨hl,hd,_,(rel.put k eb rv).keeps fun c ys ec=> ?_,q,es,ep,hq,h2,h3,h4,h5⟩
 rw[zan (zhe ec e (fun z=>nomatch z))]
 exact ec
noncomputable def zb1 (d kvs:List (List Key×V)):List (List Key×V):=kvs.foldl (fun d kv=>putK d kv.1 kv.2) d
noncomputable def PrK (H:Hp)(z:Addr)(kv:List Key×V):Prop:=∃b,H z=some (.tup [.ref b,kv.2])/\H b=some (.tup (kv.1.map kV))
theorem PrK.same {H H':Hp}{z:Addr}{kv:List Key×V}(h:PrK H z kv)(s:Same H H'):PrK H' z kv:=by
 obtain⟨b,h1,h2⟩:=h
 exact⟨b,s _ _ h1,s _ _ h2⟩
theorem PrK.updD {H:Hp}{z D:Addr}{kv:List Key×V}{d o:List (List Key×V)}(h:PrK H z kv)(e:H D=some (.dT d)):PrK (upd H D (.dT o)) z kv:=by
 obtain⟨b,h1,h2⟩:=h
 exact⟨b,by rw[zan (zhe h1 e (fun z=>nomatch z))];exact h1,by rw[zan (zhe h2 e (fun z=>nomatch z))];exact h2⟩
theorem zhw {M:Model}{A:Around}{s:Shared}{z:Addr}{vs:List Value}{Q:List Value->Shared->Prop}{E:Value->Shared->Prop}(p:IsTup s.heap z vs.toArray)(q:Q vs s):wpAny M A (Builtin.Dict.pairItems (.ref z)) Q E s:=by
 obtain⟨o,ho,hc,n,hd⟩:=p
 unfold Builtin.Dict.pairItems
 refine wpAny_bind (wpAny_typeOf ⟨o,ho,hc⟩ ?_)
 show wpAny M A (seqItems? (.ref z) >>= _) Q E s
 refine wpAny_bind (wpAny_seqItems ho hd ?_)
 exact wpAny_pure (by simpa using q)
theorem zfz {X:Cx}{A:Around}{R:Result->Shared->Prop}{pins:List (Addr×Obj)}{σ:St}{l it D:Addr}{zs:List Addr}(hh:A.in1.handled=none)(hu:(tupleKind (zaE X.prog X.w)).room A.in1)(hDit:D≠it):
  ∀(kvs:List (List Key×V)) (i:Nat) (s:Shared) (H:Hp) (d:List (List Key×V)) (tk:Tok),Inv X pins σ H s->H D=some (.dT d)->H l=some (.lst (zs.map V.ref))->FpOk X pins H it->s.heap.IsListIter it l i->Paired (PrK H) (zs.drop i) kvs->i<=zs.length->d.length+kvs.length<sizeLine->
   (∀s',Inv X pins σ (upd H D (.dT (zb1 d kvs))) s'->R (.ok (.ret .none)) s')->
   codeAny (model X.prog X.w) A (.builtin "dict.update.loop" ⟨[.ref D,.ref it,.int i tk,.none],[]⟩) R s
 | [],i,s,H,d,tk,I,hD,hl,hf,st,pr,hi,hz,hR=>by
  have hin:zs.drop i=[]:=by cases h:zs.drop i with|nil=>rfl|cons _ _=>rw[h] at pr;cases pr
  have hin:zs.length<=i:=List.drop_eq_nil_iff.mp hin
  obtain⟨its,rv,p,_⟩:=I.list (SqL.of (K:=X.K) hl)
  have hlr:=rv.length
  rw[List.length_map] at hlr
  obtain⟨f0,f1,f2,f3,f4,f5⟩:=hf
  refine codeAny_builtin zdU ?_
  rw[Around.under_plainId zbM _]
  show wpAny _ A.in1 (pyNext (.ref it) >>= _) _ _ s
  refine wpAny_bind (wpAny_pyNext_list_end hh st p.isList (by simp;(first|lia|omega)) fun h' eb=> ?_)
  have I1:Inv X pins σ H {s with heap:=h'}:=I.turned (t':=s.toks) (fun b o hb e=>eb b o hb e) f0 f1 f3 f4 f5
  have e0:upd H D (.dT (zb1 d []))=H:=by
   funext b
   unfold upd
   split
   ·rename_i h
    rw[h]
    exact hD.symm
   ·rfl
  rw[e0] at hR
  exact wpAny_pure (hR _ I1)
 | kv::kvs,i,s,H,d,tk,I,hD,hl,hf,st,pr,hi,hz,hR=>by
  obtain⟨z,hzi⟩:∃z,zs[i]? =some z:=by
   cases h:zs[i]? with
   |none=>
    rw[List.drop_eq_nil_of_le (List.getElem?_eq_none_iff.mp h)] at pr
    cases pr
   |some z=>exact⟨z,rfl⟩
  have hlt:=(List.getElem?_eq_some_iff.mp hzi).1
  have hdr:zs.drop i=z::zs.drop (i+1):=by
   rw[List.drop_eq_getElem_cons hlt,(List.getElem?_eq_some_iff.mp hzi).2]
  rw[hdr] at pr
  cases pr with
  | cons hk ht=>
   obtain⟨its,rv,p,_⟩:=I.list (SqL.of (K:=X.K) hl)
   obtain⟨u,hu',ru⟩:=rv.get (i:=i) (x:=.ref z) (by rw[List.getElem?_map,hzi];rfl)
   cases (show u=Value.ref z from ru)
   obtain⟨f0,f1,f2,f3,f4,f5⟩:=id hf
   refine codeAny_builtin zdU ?_
   rw[Around.under_plainId zbM _]
   show wpAny _ A.in1 (pyNext (.ref it) >>= _) _ _ s
   refine wpAny_bind (wpAny_pyNext_list_item st p.isList (x:=.ref z) (by simpa using hu') fun h' st' sb=> ?_)
   have I1:Inv X pins σ H {s with heap:=h'}:=I.turned (t':=s.toks) (fun b o hb e=>(sb.2 b hb).trans e) f0 f1 f3 f4 f5
   obtain⟨b,hz1,hb1⟩:=id hk
   obtain⟨vs,rv2,p2,_⟩:=I1.tuple (SqT.of (K:=X.K) hz1)
   cases rv2 with
   | @cons _ u1 _ _ r1 rr=>
    cases rr with
    |@cons _ u2 _ _ r2 rr=>
     cases rr
     cases (show u1=Value.ref b from r1)
     dsimp only
     refine wpAny_bind (wpAny_holding (wpAny_bind (wpAny_tryCatch (zhw p2 ?_))))
     refine wpAny_holding (zhv (X:=X) hu I1 hD hb1 (by rw[List.length_cons] at hz;(first|lia|omega)) r2 fun s2 I2 k2=> ?_)
     refine wpAny_pure ⟨plainId_quiet zbM _, ?_⟩
     have hl2:(upd H D (.dT (putK d kv.1 kv.2))) l=some (.lst (zs.map V.ref)):=by rw[zan (zhe hl hD (fun z=>nomatch z))];exact hl
     have lp:=zdT d kv.1 kv.2
     refine zfz hh hu hDit kvs (i+1) s2 _ (putK d kv.1 kv.2) _ I2 zaa hl2 ⟨by rw[zan hDit.symm];exact f0,f1,f2,f3,f4,f5⟩ (st'.at fun o e=>(k2 it hDit.symm).trans e) (Paired.mapP ht fun _ _ h=>h.updD hD) hlt (by rw[List.length_cons] at hz;(first|lia|omega)) fun s' I'=> ?_
     rw[zfS] at I'
     exact hR s' I'
theorem zdV (a:Value):checkTypeCall "dict" {pos:=[a]}=pure ():=by kernel_rfl
theorem ziH {prog:Program}{w:World}{A:Around}{E:Value->Shared->Prop}{s:Shared}{a:Addr}{xs:Array Value}{k:Nat}{Q:Option Value->Shared->Prop}(ho:s.heap.get? a=some {cls:=.type "list",data:=.seq xs k})(hh:A.handled=none)
  (h:∀(h':Heap) (tk:Nat),(∀b o,s.heap.get? b=some o->h'.get? b=some o)->Q none {s with heap:=h',toks:=tk}):wpAny (model prog w) A (getAttr? (.ref a) "keys") Q E s:=by
 unfold getAttr?
 refine wpAny_bind (wpAny_mkText ?_)
 unfold getAttrBy?
 refine wpAny_bind (wpAny_attempt ?_)
 unfold getAttrBy
 refine wpAny_holding (wpAny_bind (wpAny_typeOf ⟨_,ho,rfl⟩ (wpAny_bind ?_)))
 rw[list_getattribute]
 refine wpAny_pure ?_
 show wpAny _ _ (getAttrByItsOwn _ _ _ _ false false) _ _ _
 unfold getAttrByItsOwn
 refine wpAny_bind ?_
 show wpAny _ _ (pure none) _ _ _
 refine wpAny_pure (wpAny_bind (wpAny_attempt (wpAny_holding ?_)))
 show wpAny _ _ (boundAndCalled _ _ _) _ _ _
 unfold boundAndCalled
 refine wpAny_bind ?_
 rw[F.slot_list_getattribute.bind]
 refine wpAny_pure ?_
 show wpAny _ _ (call (.builtin "list.__getattribute__") [.ref a,.str "keys" _]) _ _ _
 refine call_meets F.slot_list_getattribute ⟨_,ho,rfl⟩ am_entry_list_getattribute (F.args_list_getattribute_2 _ _) (meets_getattribute_miss_list a xs k #[] "keys" _ (am_miss_of_fast (by decide+kernel)) (by decide)) ⟨ho,hh,fun h' tk e ne=> ?_⟩
 obtain⟨tt,uu,hte⟩:=ne.there
 show wpAny _ _ (getattributeRaised _ _ _ _ _ _ _) _ _ _
 unfold getattributeRaised
 refine wpAny_bind (wpAny_isInstance ⟨_,hte,rfl⟩ sub_AttributeError ?_)
 show wpAny _ _ (hookBehind _ _ >>= _) _ _ _
 refine wpAny_bind ?_
 show wpAny _ _ (typeLookup _ _) _ _ _
 rw[am_list_getattr_none]
 refine wpAny_pure ?_
 show wpAny _ _ (throw _ >>= _) _ _ _
 refine wpAny_bind (wpAny_throw ?_)
 refine wpAny_bind (wpAny_isInstance ⟨_,hte,rfl⟩ sub_AttributeError ?_)
 exact wpAny_pure (h h' tk ne.keeps)
noncomputable def zlq:List V->Hp->VK->Prop:=fun xs H Q=>∃(l:Addr) (zs:List Addr) (kvs:List (List Key×V)),xs=[.ref l]/\H l=some (.lst (zs.map V.ref))/\Paired (PrK H) zs kvs/\kvs.length<sizeLine/\∀p,H p=none->Q (.ref p) (upd H p (.dT (zb1 [] kvs)))
set_option maxRecDepth 100000 in
set_option maxHeartbeats 3200000 in
theorem zhx {X:Cx}(hc:X.calm=true)(hu:X.A.units+8<cLine):zcn X (.type "dict") zlq:=by
 intro pins s σ H xs us Q I rs h
 obtain⟨l,zs,kvs,rfl,hl,pr,hz,q⟩:=h
 obtain⟨u,rfl,ru⟩:=zcH rs
 cases (show u=Value.ref l from ru)
 obtain⟨c,tl,hmro⟩:=F.kt_called_dict.mro
 have hmade:=F.kt_called_dict.made
 have hsub:=F.kt_called_dict.sub
 refine wpAny_call (codeAny_of_tree ?_)
 show wpAny _ _ (callAny (.type "dict") _) _ _ _
 refine wpAny_pure ⟨Code.quiet_builtin _ (by decide+kernel),codeAny_builtin F.entry_type_call ?_⟩
 rw[Around.under_plain (weight_type_call_type "dict" [.ref l] []) rfl]
 have h1:=F.kt_called_dict.notType
 have h2:=F.kt_called_dict.canCreate
 have hct:=zdV (.ref l)
 repeat (any_goals (first|assumption|wp_step))
 refine codeAny_mono (kt_code_dict_new (.ref l) (E:=X.xe) (Q₁:=fun obj s₁=>obj=.ref s.heap.objs.size/\s₁={s with heap:=s.heap.push {cls:=.type "dict",data:=.dict #[]}}) ⟨rfl,rfl⟩) fun r s₁ hr=> ?_
 cases r with
 |error e=>exact hr
 | ok fl=>
  cases fl with
  | ret obj=>
   obtain⟨rfl,rfl⟩:=hr
   have hS:(s.heap.push {cls:=.type "dict",data:=.dict #[]}).get? s.heap.objs.size=some {cls:=.type "dict",data:=.dict #[]}:=Heap.get?_push_size _ rfl
   have hT0:Shared.TypeIs {s with heap:=s.heap.push {cls:=.type "dict",data:=.dict #[]}} (.ref s.heap.objs.size) "dict" :=⟨_,hS,rfl⟩
   have hli:=F.kt_called_dict.init.lookup
   have hbi:=F.kt_called_dict.init.bind (.ref s.heap.objs.size)
   repeat (any_goals (first|assumption|wp_step))
   have hp0:=I.hok.fresh (Nat.le_refl s.heap.objs.size)
   have I1:Inv X pins σ (upd H s.heap.objs.size (.dT [])) {s with heap:=s.heap.push {cls:=.type "dict",data:=.dict #[]}}:=I.laid (a:=s.heap.objs.size) (o:=.dT []) (t':=s.toks) (fun _ _ q=>Heap.get?_push_of_some _ q) (Nat.le_refl _) (zjx s.heap I.big)
   refine codeAny_mono (codeAny_call_builtin (R:=wants (fun r s₂=>r=.none/\Inv X pins σ (upd H s.heap.objs.size (.dT (zb1 [] kvs))) s₂) X.xe) F.kt_called_dict.init.plain F.entry_dict_init (F.slot_dict_init.check _ _ _ _ _ _ _ _ hT0 (F.args_dict_init_2 _ _) ?_)) fun r₂ s₂ hr₂=> ?_
   ·have sm:=zac (o:=.dT []) hp0
    have hl1:=sm _ _ hl
    obtain⟨_,its,c1,rv,_,hol⟩:=I1.lstM hl1
    have hne:(Value.type "list" ==Value.type "dict")=false:=by decide
    unfold Builtin.«dict.__init__» Builtin.Dict.updateCommon Builtin.Dict.updateFrom
    generalize hPI:pyIter=PI
    generalize hG:getAttr? =G
    wp_walk
    subst hG
    refine ziH hol ?_ fun h' tk keep=> ?_
    ·have:=I.ok.hd hc
     simp[this]
    have I2:Inv X pins σ (upd H s.heap.objs.size (.dT [])) {s with heap:=h',toks:=tk}:=I1.kept (t':=tk) keep
    wp_walk
    subst hPI
    have hl2:=I2.list (SqL.of (K:=X.K) hl1)
    obtain⟨its2,rv2,p2,_⟩:=hl2
    refine wpAny_pyIter_list p2.isList ?_
    have hh2:X.A.in1.in1.handled=none:=by
     have:=I.ok.hd hc
     simp[this]
    have hroom:(tupleKind (zaE X.prog X.w)).room X.A.in1.in1:=tupleKind_room_in1 (A:=X.A.in1) (by
     have:X.A.in1.units<=X.A.units+1:=by simp
     (first|lia|omega))
    have hlt:s.heap.objs.size<h'.objs.size:=Heap.lt_size (keep _ _ hS)
    refine wpAny_pure ⟨plainId_quiet zbM _, ?_⟩
    refine zfz (X:=X) (A:=X.A.in1) (l:=l) (zs:=zs) (pins:=pins) (σ:=σ) hh2 hroom (Nat.ne_of_lt hlt) kvs 0 _ (upd H s.heap.objs.size (.dT [])) [] _ (I2.kept fun b o e=>Heap.get?_push_of_some _ e) zaa hl1 (I2.fpOk (Nat.le_refl _) (I2.hok.fresh (Nat.le_refl _))) ⟨_,Heap.get?_push_size _ rfl,rfl,rfl⟩ (Paired.mapP pr fun _ _ h=>h.same sm) (Nat.zero_le _) (by rw[List.length_nil,Nat.zero_add];exact hz) fun s' I'=> ?_
    rw[zfS] at I'
    exact⟨rfl,I'⟩
   ·cases r₂ with
    |error e=>exact hr₂
    | ok fl₂=>
     cases fl₂ with
     |ret r=>
      obtain⟨rfl,I'⟩:=hr₂
      repeat (any_goals (first|assumption|wp_step))
      exact⟨.ref s.heap.objs.size,_,I',rfl,q _ hp0⟩
     |_=>exact hr₂.elim
  |_=>exact hr.elim
noncomputable def keyI (r:List Int):List Key:=r.map Sum.inl
theorem zg6 (r:List Int):(keyI r).map kV=r.map V.int:=by
 unfold keyI
 rw[List.map_map]
 rfl
theorem zjy {a b:List Int}(h:keyI a=keyI b):a=b:=by
 have:(keyI a).map kV=(keyI b).map kV:=by rw[h]
 rw[zg6,zg6] at this
 exact zge this
theorem zeu {Good:List Key->V->Prop}:∀(kvs d:List (List Key×V)),(∀kv∈kvs,Good kv.1 kv.2)->(∀k v,valV d k=some v->Good k v)->(∀k v,valV (zb1 d kvs) k=some v->Good k v)/\∀k,(k∈kvs.map (·.1)∨(valV d k).isSome=true)->(valV (zb1 d kvs) k).isSome=true
 |[],d,_,h2=>⟨h2,fun k h=>h.elim (fun h=>by cases h) id⟩
 | kv::kvs,d,h1,h2=>by
  have ih:=zeu (Good:=Good) kvs (putK d kv.1 kv.2) (fun x hx=>h1 x (List.mem_cons_of_mem _ hx)) fun k v e=>by
   rw[zg4] at e
   by_cases c:k=kv.1
   ·rw [if_pos c] at e
    cases e
    rw[c]
    exact h1 kv List.mem_cons_self
   ·rw [if_neg c] at e
    exact h2 k v e
  refine⟨ih.1,fun k h=>ih.2 k ?_⟩
  rw[zg4]
  by_cases c:k=kv.1
  ·rw [if_pos c]
   exact .inr rfl
  ·rw [if_neg c]
   rcases h with h|h
   ·rw [List.map_cons] at h
    rcases List.mem_cons.mp h with h|h
    ·exact absurd h c
    ·exact .inl h
   ·exact .inr h
noncomputable def zgi:Sp:=fun vs H Q _=>∃(kind:Str) (n:Nat) (a b:Addr) (p q:List Int),vs=[.str kind,.int (n:Int),.ref a,.ref b]/\kind∈zaO/\n<=60/\H a=some (.tup (p.map V.int))/\H b=some (.tup (q.map V.int))/\p∈zaz kind n/\q∈zaz kind n/\∀z H',Same H H'->Shr H' z (zcq kind n p q)->Q (.ref z) H'
noncomputable def spBK (kind:Str):Sp:=fun vs H Q _=>∃(n:Nat) (a b:Addr) (p q:List Int),vs=[.int (n:Int),.ref a,.ref b]/\n<=60/\H a=some (.tup (p.map V.int))/\H b=some (.tup (q.map V.int))/\p∈zaz kind n/\q∈zaz kind n/\p≠q/\∀z H',Same H H'->Shr H' z (zcq kind n p q)->Q (.ref z) H'
theorem shB1 {x:Int}(h0:0<x)(h1:x<=1000):ShB (1,x) 3900:=⟨h0,Sm.of (show (1:Int).natAbs<2^3900 by decide+kernel),Sm.of (Nat.lt_of_le_of_lt (show x.natAbs<=1000 by (first|lia|omega)) (by decide+kernel))⟩
structure TopS (mg:Str->Option Value):Prop where
 n_set:mg "set" =none
 n_dict:mg "dict" =none
structure TopSK (K:PySem.W.Frag):Prop where
 k_set:PySem.W.nsIn K mainGlobals "set" =some none
 k_dict:PySem.W.nsIn K mainGlobals "dict" =some none
theorem TopSK.top {K:PySem.W.Frag}{h:Heap}{mg:Str->Option Value}(T:TopSK K)(X:K.In h)(G:h.Ns mainGlobals mg):TopS mg:=⟨PySem.W.mg_none_of X G T.k_set,PySem.W.mg_none_of X G T.k_dict⟩
section
variable {X:Cx}{tg:Expr}
end
section
variable {X:Cx}
end
noncomputable def exO (l:List Int)(i j:Nat):List Int:=(l.set i (l.getD j 0)).set j (l.getD i 0)
theorem zjz {l:List Int}{i j:Nat}(hi:i<l.length)(hj:j<l.length):(exO l i j).Perm l:=by
 unfold exO
 rw[List.getD_eq_getElem?_getD,List.getD_eq_getElem?_getD,List.getElem?_eq_getElem hi,List.getElem?_eq_getElem hj]
 exact List.set_set_perm hi hj
theorem zkr {ys:List Int}{d:Int}(h0:0<=d)(h1:d<ys.length):ixN (ys.map V.int).length d=some d.toNat:=by
 unfold ixN
 rw[if_pos h0,zal,if_pos (by (first|lia|omega))]
theorem zlr {l:List Int}{i j:Nat}:(((l.map V.int).set i (.int (l.getD j 0))).set j (.int (l.getD i 0)))=(exO l i j).map V.int:=by
 unfold exO
 rw[List.map_set,List.map_set]
theorem zls {m:Nat}{l:List Int}{i j:Nat}(h:Ord m l)(hi:i<m)(hj:j<m):Ord m (exO l i j):=by
 have:=h.len
 exact (zjz (by (first|lia|omega)) (by (first|lia|omega))).trans h
end L2
namespace K85
open PySem PySem.Spec PyProof.Rows L2
noncomputable def top (i:Nat):Stmt:=PySem.Challenge.pw_shuffletold_k85_whole_means_and_spreads.main.body.getD i (.Pass ⟨0,0,0,0⟩)
noncomputable abbrev za0:Stmt:=top 5
noncomputable abbrev zc3:Stmt:=top 1
noncomputable abbrev ziI:Stmt:=top 2
noncomputable abbrev ziJ:Stmt:=top 3
noncomputable abbrev zgj:Stmt:=top 4
section
variable {P:Program}{w:World}{K:PySem.W.Frag}{mg:Str->Option Value}{base:Heap}
theorem sc_greatest_divisor:FnScope ["over", "under", "one", "other"] ["over", "under"] (zab za0):=⟨rfl,rfl,rfl,by decide+kernel,rfl,by decide+kernel,by decide+kernel⟩
theorem zcx {f:Addr}{fd:FuncData}(F:Fun K "greatest_divisor" "greatest_divisor" za0 f fd):FnOk P w K mg base CX0 1 f fd ["over", "under"] zkm:=by
 refine F.ok sc_greatest_divisor (fun vs H Q E h=> ?_) (fun cdv A outer s H vs Q E hr h=> ?_)
 ·obtain ⟨a,b,rfl,_⟩:=h
  rfl
 ·obtain ⟨a,b,rfl,hb,k⟩:=h
  refine⟨_,(zad (zfe (i:=2) (j:=3) rfl sc_greatest_divisor.nd rfl rfl (by decide) rfl rfl (pa_cons (pv 0) (pa_cons (pv 1) pa_nil)) rfl)
   (zad (zdj PassesOwn.never (zau zi1 (pv 3) pe_int (zar _))
    (zae (zfe (i:=2) (j:=3) rfl sc_greatest_divisor.nd rfl rfl (by decide) rfl rfl (pa_cons (pv 3) (pa_cons (zag zcG (pv 2) (pv 3)) pa_nil)) rfl)))
   (zae (zaf (pv 2))))), ?_⟩
  refine⟨_,rfl,_,rfl,_,_,rfl, ?_⟩
  refine⟨fun m σ G=>∃x y:Int,m=y.toNat/\σ=[some (.int a),some (.int b),some (.int x),some (.int y)]/\G=H/\0<=y/\(y=0->0<x)/\gcdZ x y=gcdZ a b,⟨_,a,b,rfl,rfl,rfl,by (first|lia|omega),by (first|lia|omega),rfl⟩, ?_⟩
  rintro m σ G ⟨x,y,rfl,rfl,rfl,y0,x0,e⟩
  refine⟨_,rfl,rfl,_,rfl, ?_⟩
  by_cases hy:y=0
  ·subst hy
   refine iteF ⟨_,rfl, ?_⟩
   rw[zfw (Int.le_of_lt (x0 rfl))] at e
   rw[e]
   exact k
  ·rw [show (!decide (V.int y=V.int 0))=true from by rw[decide_eq_false (fun z=>hy (V.int.inj z))];rfl]
   refine iteT ⟨fun σ' G'=>∃x' y':Int,y'<y/\σ'=[some (.int a),some (.int b),some (.int x'),some (.int y')]/\G'=G/\0<=y'/\(y'=0->0<x')/\gcdZ x' y'=gcdZ a b, ?_, ?_⟩
   ·rintro σ' G' ⟨x',y',h1,h2,h3,h4,h5⟩
    exact⟨_,by (first|lia|omega),x',y',rfl,h2,h3,h4,h5⟩
   ·refine ⟨_,rfl,_,rfl,_,rfl,_,_,rfl,rfl,by (first|lia|omega),_,_,rfl, ?_⟩
    exact⟨_,_,Int.emod_lt_of_pos _ (by (first|lia|omega)),rfl,rfl,Int.emod_nonneg _ hy,fun _=>by (first|lia|omega),by rw[zfv (by (first|lia|omega))];exact e⟩
theorem sc_share_of:FnScope ["over", "under", "both"] ["over", "under"] (zab zc3):=⟨rfl,rfl,rfl,by decide+kernel,rfl,by decide+kernel,by decide+kernel⟩
theorem zgk {f:Addr}{fd:FuncData}(F:Fun K "share_of" "share_of" zc3 f fd)(Cgreatest_divisor:Cal P w K mg base 1 "greatest_divisor" ["over", "under"] zkm):FnOk P w K mg base CX0 2 f fd ["over", "under"] zcp:=by
 refine F.ok sc_share_of (fun vs H Q E h=> ?_) (fun cdv A outer s H vs Q E hr h=> ?_)
 ·obtain ⟨a,b,rfl,_⟩:=h
  rfl
 ·obtain ⟨a,b,rfl,hb,sb,k⟩:=h
  refine⟨_,(zad (zak (i:=2) sc_share_of.nd rfl (Or.inl rfl) (pe_cal Cgreatest_divisor (hr.mono (by decide)) rfl (pa_cons (pv 0) (pa_cons (pv 1) pa_nil))))
   (zae (zaf (zaC (pa_cons (zag zdp (pv 0) (pv 2)) (pa_cons (zag zdp (pv 1) (pv 2)) pa_nil)))))), ?_⟩
  have g0:=zck (a:=a) hb
  have gs:Sm (gcdZ a b) 8000:=sb.le (by have:=ziA (a:=a) hb;(first|lia|omega))
  refine⟨_,rfl,_,rfl,a,b,rfl,hb, ?_⟩
  refine⟨_,rfl,_,rfl,_,_,rfl,rfl,⟨g0,gs⟩,_,rfl,_,rfl,_,_,rfl,rfl,⟨g0,gs⟩,by show 2<=sizeLine;decide,fun z hz=> ?_⟩
  exact k z _ (zac hz) zaa
theorem zks:FnScope ["one", "other"] ["one", "other"] (zab ziI):=⟨rfl,rfl,rfl,by decide+kernel,rfl,by decide+kernel,by decide+kernel⟩
theorem zkt {f:Addr}{fd:FuncData}(F:Fun K "plus" "plus" ziI f fd)(Cshare_of:Cal P w K mg base 2 "share_of" ["over", "under"] zcp):FnOk P w K mg base CX0 3 f fd ["one", "other"] (spSh plZ):=by
 refine F.ok zks (fun vs H Q E h=> ?_) (fun cdv A outer s H vs Q E hr h=> ?_)
 ·obtain ⟨x,y,p,q,rfl,_⟩:=h
  rfl
 ·obtain ⟨x,y,p,q,rfl,hx,hy,bp,bq,k⟩:=h
  refine⟨_,(zae (zaf (pe_cal Cshare_of (hr.mono (by decide)) rfl (pa_cons (zag zaB (zag zaF (zaj zai (pv 0) pe_int (fun _ _=>rfl)) (zaj zai (pv 1) pe_int (fun _ _=>rfl))) (zag zaF (zaj zai (pv 1) pe_int (fun _ _=>rfl)) (zaj zai (pv 0) pe_int (fun _ _=>rfl)))) (pa_cons (zag zaF (zaj zai (pv 0) pe_int (fun _ _=>rfl)) (zaj zai (pv 1) pe_int (fun _ _=>rfl))) pa_nil))))), ?_⟩
  refine⟨_,rfl,x,_,0,_,rfl,rfl,SqT.of hx,zah (j:=0) rfl,_,rfl,y,_,1,_,rfl,rfl,SqT.of hy,zah (j:=1) rfl,_,_,rfl,rfl,⟨bp.s1.mono (by decide),bq.s2.mono (by decide)⟩,_,rfl,y,_,0,_,rfl,rfl,SqT.of hy,zah (j:=0) rfl,_,rfl,x,_,1,_,rfl,rfl,SqT.of hx,zah (j:=1) rfl,_,_,rfl,rfl,⟨bq.s1.mono (by decide),bp.s2.mono (by decide)⟩,_,_,rfl,rfl,_,rfl,x,_,1,_,rfl,rfl,SqT.of hx,zah (j:=1) rfl,_,rfl,y,_,1,_,rfl,rfl,SqT.of hy,zah (j:=1) rfl,_,_,rfl,rfl,⟨bp.s2.mono (by decide),bq.s2.mono (by decide)⟩,_,_,rfl,Int.mul_pos bp.pos bq.pos,(bp.s2.mul bq.s2).mono (by decide),fun z H2 s2 hz=>k z H2 s2 hz⟩
theorem zku:FnScope ["one", "other"] ["one", "other"] (zab ziJ):=⟨rfl,rfl,rfl,by decide+kernel,rfl,by decide+kernel,by decide+kernel⟩
theorem zkv {f:Addr}{fd:FuncData}(F:Fun K "less" "less" ziJ f fd)(Cshare_of:Cal P w K mg base 2 "share_of" ["over", "under"] zcp):FnOk P w K mg base CX0 3 f fd ["one", "other"] (spSh leZ):=by
 refine F.ok zku (fun vs H Q E h=> ?_) (fun cdv A outer s H vs Q E hr h=> ?_)
 ·obtain ⟨x,y,p,q,rfl,_⟩:=h
  rfl
 ·obtain ⟨x,y,p,q,rfl,hx,hy,bp,bq,k⟩:=h
  refine⟨_,(zae (zaf (pe_cal Cshare_of (hr.mono (by decide)) rfl (pa_cons (zag zaM (zag zaF (zaj zai (pv 0) pe_int (fun _ _=>rfl)) (zaj zai (pv 1) pe_int (fun _ _=>rfl))) (zag zaF (zaj zai (pv 1) pe_int (fun _ _=>rfl)) (zaj zai (pv 0) pe_int (fun _ _=>rfl)))) (pa_cons (zag zaF (zaj zai (pv 0) pe_int (fun _ _=>rfl)) (zaj zai (pv 1) pe_int (fun _ _=>rfl))) pa_nil))))), ?_⟩
  refine⟨_,rfl,x,_,0,_,rfl,rfl,SqT.of hx,zah (j:=0) rfl,_,rfl,y,_,1,_,rfl,rfl,SqT.of hy,zah (j:=1) rfl,_,_,rfl,rfl,⟨bp.s1.mono (by decide),bq.s2.mono (by decide)⟩,_,rfl,y,_,0,_,rfl,rfl,SqT.of hy,zah (j:=0) rfl,_,rfl,x,_,1,_,rfl,rfl,SqT.of hx,zah (j:=1) rfl,_,_,rfl,rfl,⟨bq.s1.mono (by decide),bp.s2.mono (by decide)⟩,_,_,rfl,rfl,_,rfl,x,_,1,_,rfl,rfl,SqT.of hx,zah (j:=1) rfl,_,rfl,y,_,1,_,rfl,rfl,SqT.of hy,zah (j:=1) rfl,_,_,rfl,rfl,⟨bp.s2.mono (by decide),bq.s2.mono (by decide)⟩,_,_,rfl,Int.mul_pos bp.pos bq.pos,(bp.s2.mul bq.s2).mono (by decide),fun z H2 s2 hz=>k z H2 s2 hz⟩
theorem zjA:FnScope ["one", "other"] ["one", "other"] (zab zgj):=⟨rfl,rfl,rfl,by decide+kernel,rfl,by decide+kernel,by decide+kernel⟩
theorem zjB {f:Addr}{fd:FuncData}(F:Fun K "times" "times" zgj f fd)(Cshare_of:Cal P w K mg base 2 "share_of" ["over", "under"] zcp):FnOk P w K mg base CX0 3 f fd ["one", "other"] (spSh tmZ):=by
 refine F.ok zjA (fun vs H Q E h=> ?_) (fun cdv A outer s H vs Q E hr h=> ?_)
 ·obtain ⟨x,y,p,q,rfl,_⟩:=h
  rfl
 ·obtain ⟨x,y,p,q,rfl,hx,hy,bp,bq,k⟩:=h
  refine⟨_,(zae (zaf (pe_cal Cshare_of (hr.mono (by decide)) rfl (pa_cons (zag zaF (zaj zai (pv 0) pe_int (fun _ _=>rfl)) (zaj zai (pv 1) pe_int (fun _ _=>rfl))) (pa_cons (zag zaF (zaj zai (pv 0) pe_int (fun _ _=>rfl)) (zaj zai (pv 1) pe_int (fun _ _=>rfl))) pa_nil))))), ?_⟩
  refine⟨_,rfl,x,_,0,_,rfl,rfl,SqT.of hx,zah (j:=0) rfl,_,rfl,y,_,0,_,rfl,rfl,SqT.of hy,zah (j:=0) rfl,_,_,rfl,rfl,⟨bp.s1.mono (by decide),bq.s1.mono (by decide)⟩,_,rfl,x,_,1,_,rfl,rfl,SqT.of hx,zah (j:=1) rfl,_,rfl,y,_,1,_,rfl,rfl,SqT.of hy,zah (j:=1) rfl,_,_,rfl,rfl,⟨bp.s2.mono (by decide),bq.s2.mono (by decide)⟩,_,_,rfl,Int.mul_pos bp.pos bq.pos,(bp.s2.mul bq.s2).mono (by decide),fun z H2 s2 hz=>k z H2 s2 hz⟩
end
noncomputable abbrev zc4:Stmt:=top 74
noncomputable abbrev zcy:Stmt:=top 75
noncomputable abbrev zdW:Stmt:=top 76
noncomputable abbrev zbN:Stmt:=top 77
section
variable {P:Program}{w:World}{K:PySem.W.Frag}{mg:Str->Option Value}{base:Heap}
theorem sc__law_pot:FnScope ["_law_script", "_law_k", "_law_cell", "_law_number_here", "_law_mixed"] ["_law_script", "_law_k"] (zab zc4):=⟨rfl,rfl,rfl,by decide+kernel,rfl,by decide+kernel,by decide+kernel⟩
theorem zgl {f:Addr}{fd:FuncData}(F:Fun K "_law_pot" "_law_pot" zc4 f fd)(T:Top mg):FnOk P w K mg base CX0 1 f fd ["_law_script", "_law_k"] (ziw K):=by
 refine F.ok sc__law_pot (fun vs H Q E h=> ?_) (fun cdv A outer s H vs Q E hr h=> ?_)
 ·obtain ⟨a,ns,k,rfl,_⟩:=h
  rfl
 ·obtain ⟨a,ns,j,rfl,hS,j0,j1,k⟩:=h
  refine⟨_,(zad (zak (i:=2) sc__law_pot.nd rfl (Or.inl rfl) pe_int)
   (zad (zcs (zau zff (pv 1) (zao zas (by rfl) T.n_len PySem.boot_len (pa_cons (pv 0) pa_nil)) (zar _))
    (zae (zak (i:=2) sc__law_pot.nd rfl (Or.inl rfl) (zaj za4 (pv 0) (pv 1) (fun _ _=>rfl))))
    zaV)
   (zad (zak (i:=3) sc__law_pot.nd rfl (Or.inl rfl) (zag zaB (zag zaN pe_int (zag zcG (zao zew (by rfl) T.n_abs boot_abs (pa_cons (pv 2) pa_nil)) (zag ziv (zag zjK pe_int pe_int) pe_int))) (zam zdA (by rfl) T.n_int boot_int (pa_cons (zbk zff (pv 2) pe_int (zar _)) pa_nil))))
   (zad (zak (i:=4) sc__law_pot.nd rfl (Or.inl rfl) (zag zcG (zag ziv (zag zaB (zag zaB (pv 3) (zag zaN pe_int (pv 1))) pe_int) pe_int) pe_int))
   (zae (zaf (pe_lst (pa_cons (zag zaN (pv 3) (zam zdA (by rfl) T.n_int boot_int (pa_cons (zbk zlG (pv 3) (zag zaN pe_int (zag zjK pe_int pe_int)) (zar _)) pa_nil))) (pa_cons (pv 4) pa_nil))))))))), ?_⟩
  have e64:∀b:Bool,(-(2^64):Int)<(if b then 1 else 0)/\(if b then 1 else 0:Int)<2^64:=fun b=>by cases b<;>decide
  have e01:∀b:Bool,(0:Int)<=(if b then 1 else 0)/\(if b then 1 else 0:Int)<=1:=fun b=>by cases b<;>decide
  refine⟨_,rfl,_,rfl,a,_,rfl,.inl hS,_,_,rfl,rfl,_,rfl, ?_⟩
  refine ite2 (fun h=> ?a) (fun h=> ?b)
  case' a=>
   have hj:=of_decide_eq_true h
   rw[zal] at hj
   refine⟨_,rfl,_,rfl,a,_,j,.int (ns.getD j.toNat 0),rfl,rfl,hS, ?hat, ?_⟩
   case hat=>
    have:=zah (xs:=ns.map V.int) (j:=j.toNat) (v:=.int (ns.getD j.toNat 0)) (by rw[List.getElem?_map,List.getD_eq_getElem?_getD,List.getElem?_eq_getElem (by (first|lia|omega))];rfl)
    rwa [show ((j.toNat:Nat):Int)=j by (first|lia|omega)] at this
  all_goals
   refine⟨_,rfl,_,rfl,_,_,rfl,rfl,⟨by decide,by decide,by decide⟩,_,_,rfl,rfl,⟨by decide,zjn⟩,_,_,rfl,rfl,zdn,_,_,rfl,rfl,.inl ⟨by decide,by decide⟩,_,rfl,_,_,rfl,rfl,.inr ⟨_,rfl,_,_,rfl,rfl, ?_⟩⟩
   refine⟨_,rfl,_,rfl,_,_,rfl,rfl,.inl ⟨by decide,by decide⟩,_,_,rfl,rfl,_,_,rfl,rfl,_,_,rfl,rfl,⟨by decide,ziy zix (Int.emod_nonneg _ (Int.ne_of_gt zdn)) (Int.emod_lt_of_pos _ zdn) j0 j1 (e01 _).1 (e01 _).2⟩,_,_,rfl,rfl,(by show (0:Int)<18446744073709551557;decide), ?_⟩
   refine⟨_,rfl,_,rfl,_,_,rfl,rfl,⟨by decide,by decide,by decide⟩,_,_,rfl,rfl,.inl ⟨by decide,by decide⟩,_,_,rfl,rfl,.inr ⟨_,rfl,_,_,rfl,rfl,.inr ?_,_,rfl,by show 2<=sizeLine;decide,fun p hp=> ?_⟩⟩
   ·exact e64 _
   ·refine k p _ (zac hp) ⟨_,_,zaa, ?_,Int.emod_nonneg _ (by decide),Int.emod_lt_of_pos _ (by decide)⟩ hp
    exact Int.mul_nonneg (Int.add_nonneg (Int.mul_nonneg (by decide) (Int.emod_nonneg _ (Int.ne_of_gt zdn))) (e01 _).1) (e01 _).1
theorem sc__law_next:FnScope ["_law_pot_here", "_law_many", "_law_digit"] ["_law_pot_here", "_law_many"] (zab zcy):=⟨rfl,rfl,rfl,by decide+kernel,rfl,by decide+kernel,by decide+kernel⟩
theorem zfA {f:Addr}{fd:FuncData}(F:Fun K "_law_next" "_law_next" zcy f fd):FnOk P w K mg base CX0 1 f fd ["_law_pot_here", "_law_many"] zdN:=by
 refine F.ok sc__law_next (fun vs H Q E h=> ?_) (fun cdv A outer s H vs Q E hr h=> ?_)
 ·obtain ⟨p,m,rfl,_⟩:=h
  rfl
 ·obtain ⟨p,m,rfl,hm0,hm1,⟨own,mixed,hp,o0,x0,x1⟩,k⟩:=h
  refine⟨_,(zad (zcs (zau zev (zaj za4 (pv 0) pe_int (fun _ _=>rfl)) pe_int (zar _))
    (zad (zak (i:=2) sc__law_next.nd rfl (Or.inl rfl) (zag zcG (zaj za4 (pv 0) pe_int (fun _ _=>rfl)) (pv 1)))
    (zad (zdy (zag zcW (zaj za4 (pv 0) pe_int (fun _ _=>rfl)) (pv 1)) (zdx (pv 0) pe_int zbI))
    (zae (zaf (pv 2)))))
    zaV)
   (zad (zdy (zag zcG (zag zaB (zag zaN (zaj za4 (pv 0) pe_int (fun _ _=>rfl)) pe_int) pe_int) pe_int) (zdx (pv 0) pe_int zbI))
   (zae (zaf (zag zcG (zag zcW (zag zcG (zag zaN (zaj za4 (pv 0) pe_int (fun _ _=>rfl)) (zaj za4 (pv 0) pe_int (fun _ _=>rfl))) pe_int) pe_int) (pv 1)))))), ?_⟩
  refine⟨_,rfl,p,_,0,_,rfl,rfl,SqL.of hp,zah (j:=0) rfl,_,_,rfl,rfl,_,rfl, ?_⟩
  refine ite2 (fun _=> ?_) (fun _=> ?_)
  ·refine ⟨_,rfl,p,_,0,_,rfl,rfl,SqL.of hp,zah (j:=0) rfl,_,rfl,_,_,rfl,rfl,hm0, ?_⟩
   refine⟨_,rfl,p,_,0,_,rfl,rfl,SqL.of hp,zah (j:=0) rfl,_,rfl,_,_,rfl,rfl,⟨hm0,hm1⟩,_,rfl,p,_,0,0,rfl,rfl,hp,rfl, ?_⟩
   refine⟨_,rfl, ?_⟩
   refine k _ _ (Int.emod_nonneg _ (by (first|lia|omega))) (Int.emod_lt_of_pos _ hm0) ⟨_,_,zaa,Int.ediv_nonneg o0 (by (first|lia|omega)),x0,x1⟩ fun b o hb h1 _=> ?_
   rw[zan h1]
   exact hb
  ·refine ⟨_,rfl,p,_,1,_,rfl,rfl,SqL.of hp,zah (j:=1) rfl,_,_,rfl,rfl,.inr ⟨by decide,by decide⟩,_,_,rfl,rfl,_,_,rfl,rfl,(by show (0:Int)<18446744073709551557;decide),_,rfl,p,_,1,1,rfl,rfl,hp,rfl, ?_⟩
   have y0:=Int.emod_nonneg (mixed*6364136223846793005+1442695040888963407) (by decide:(18446744073709551557:Int)≠0)
   have y1:=Int.emod_lt_of_pos (mixed*6364136223846793005+1442695040888963407) (by decide:(0:Int)<18446744073709551557)
   refine⟨_,rfl,p,_,1,_,rfl,rfl,SqL.of zaa,zah (j:=1) rfl,_,rfl,p,_,1,_,rfl,rfl,SqL.of zaa,zah (j:=1) rfl,_,_,rfl,rfl,.inl ⟨by (first|lia|omega),by (first|lia|omega)⟩,_,_,rfl,rfl,(by show (0:Int)<2305843009213693951;decide),_,_,rfl,rfl,⟨by decide,by decide⟩,_,rfl,_,_,rfl,rfl,hm0, ?_⟩
   refine k _ _ (Int.emod_nonneg _ (by (first|lia|omega))) (Int.emod_lt_of_pos _ hm0) ⟨_,_,zaa,o0,y0,y1⟩ fun b o hb h1 _=> ?_
   rw[zan h1]
   exact hb
theorem zhy:FnScope ["_law_pot_here", "_law_some"] ["_law_pot_here", "_law_some"] (zab zdW):=⟨rfl,rfl,rfl,by decide+kernel,rfl,by decide+kernel,by decide+kernel⟩
theorem zhz {f:Addr}{fd:FuncData}(F:Fun K "_law_of" "_law_of" zdW f fd)(T:Top mg)(C_law_next:Cal P w K mg base 1 "_law_next" ["_law_pot_here", "_law_many"] zdN):FnOk P w K mg base CX0 2 f fd ["_law_pot_here", "_law_some"] zkl:=by
 refine F.ok zhy (fun vs H Q E h=> ?_) (fun cdv A outer s H vs Q E hr h=> ?_)
 ·obtain ⟨p,l,xs,rfl,_⟩:=h
  rfl
 ·obtain ⟨p,l,xs,rfl,hl,hne,l0,l1,hp,k⟩:=h
  refine⟨_,(zae (zaf (zaj za4 (pv 1) (pe_cal C_law_next (hr.mono (by decide)) rfl (pa_cons (pv 0) (pa_cons (zao zas (by rfl) T.n_len PySem.boot_len (pa_cons (pv 1) pa_nil)) pa_nil))) (fun _ _=>rfl)))), ?_⟩
  refine⟨_,rfl,_,rfl,_,rfl,l,_,rfl,.inl (SqL.of hl),p,_,rfl,by (first|lia|omega),by (first|lia|omega),hp,fun d H' d0 d1 hp' kp=> ?_⟩
  have hd:d.toNat<xs.length:=by (first|lia|omega)
  refine⟨l,xs,d,xs[d.toNat],rfl,rfl,SqL.of (kp _ _ hl hne hne), ?_,k _ (List.getElem_mem _) _ hp' kp⟩
  have:=zah (xs:=xs) (j:=d.toNat) (v:=xs[d.toNat]) (List.getElem?_eq_getElem hd)
  rwa [show ((d.toNat:Nat):Int)=d by (first|lia|omega)] at this
theorem sc__law_number:FnScope ["_law_pot_here", "_law_some", "_law_most"] ["_law_pot_here", "_law_some"] (zab zbN):=⟨rfl,rfl,rfl,by decide+kernel,rfl,by decide+kernel,by decide+kernel⟩
theorem zea {f:Addr}{fd:FuncData}(F:Fun K "_law_number" "_law_number" zbN f fd)(C_law_next:Cal P w K mg base 1 "_law_next" ["_law_pot_here", "_law_many"] zdN)(C_law_of:Cal P w K mg base 2 "_law_of" ["_law_pot_here", "_law_some"] zkl):FnOk P w K mg base CX0 3 f fd ["_law_pot_here", "_law_some"] zdO:=by
 refine F.ok sc__law_number (fun vs H Q E h=> ?_) (fun cdv A outer s H vs Q E hr h=> ?_)
 ·obtain ⟨p,l,xs,rfl,_⟩:=h
  rfl
 ·obtain ⟨p,l,xs,rfl,hl,hne,l0,l1,hx,hp,k⟩:=h
  refine⟨_,(zad (zak (i:=2) sc__law_number.nd rfl (Or.inl rfl) (pe_cal C_law_of (hr.mono (by decide)) rfl (pa_cons (pv 0) (pa_cons (pv 1) pa_nil))))
   (zae (zaf (zcF (zau zev (pv 2) pe_int (zar _)) (pe_cal C_law_next (hr.mono (by decide)) rfl (pa_cons (pv 0) (pa_cons (pv 2) pa_nil))) (pe_un zel (pv 2)))))), ?_⟩
  refine⟨_,rfl,_,rfl,p,l,_,rfl,hl,hne,by rw[zal];exact l0,by rw[zal];exact l1,hp,fun x hx' H' hp' kp=> ?_⟩
  obtain⟨n,hn,rfl⟩:=List.mem_map.mp hx'
  refine⟨_,rfl,_,_,rfl,rfl,_,rfl, ?_⟩
  refine ite2 (fun h=> ?_) (fun h=> ?_)
  ·have h':=of_decide_eq_true h
   refine⟨_,rfl,_,rfl,p,n,rfl,by (first|lia|omega),hx n hn,hp',fun d H2 d0 d1 hp2 kp2=> ?_⟩
   exact k n hn d H2 (fun _=>⟨d0,d1⟩) (fun z=>absurd h' z) hp2 (kp.trans kp2)
  ·have h':¬0<n:=fun z=>h (decide_eq_true z)
   exact⟨_,rfl,_,rfl,k n hn _ H' (fun z=>absurd z h') (fun _=>rfl) hp' kp⟩
end
noncomputable abbrev zax:Stmt:=top 7
noncomputable abbrev zaL:Stmt:=top 8
noncomputable abbrev zbf:Stmt:=top 9
noncomputable abbrev zdX:Stmt:=top 11
noncomputable abbrev zbO:Stmt:=top 19
noncomputable abbrev zb2:Stmt:=top 20
noncomputable abbrev zb3:Stmt:=top 21
noncomputable abbrev zbc:Stmt:=top 22
noncomputable abbrev zbq:Stmt:=top 24
noncomputable abbrev zbz:Stmt:=top 34
noncomputable abbrev zbA:Stmt:=top 36
noncomputable abbrev zbB:Stmt:=top 38
noncomputable abbrev zbe:Stmt:=top 40
noncomputable abbrev zeH:Stmt:=top 44
section
variable {P:Program}{w:World}{K:PySem.W.Frag}{mg:Str->Option Value}{base:Heap}
theorem zc5:FnScope ["many"] ["many"] (zab zax):=⟨rfl,rfl,rfl,by decide+kernel,rfl,by decide+kernel,by decide+kernel⟩
theorem zc6 {f:Addr}{fd:FuncData}(F:Fun K "numbers_below" "numbers_below" zax f fd)(T:Top mg):FnOk P w K mg base CX0 1 f fd ["many"] zgd:=by
 refine F.ok zc5 (fun vs H Q E h=> ?_) (fun cdv A outer s H vs Q E hr h=> ?_)
 ·obtain ⟨m,rfl,_⟩:=h
  rfl
 ·obtain ⟨m,rfl,hm,k⟩:=h
  refine⟨_,(zae (zaf (zam zap (by rfl) T.n_tuple boot_tuple (pa_cons (zcI (N':=["k"]) (n:=1) (ix:=[]) rfl (CompScope.of (sc:=zab zax) (N:=["many"]) (by decide+kernel) rfl rfl) (zaA rfl T.n_range (pa_cons (pv 0) pa_nil)) (fun _ _ _ _ _=>⟨(zaq (i:=0) (show (["k"]:List Str).Nodup by decide+kernel) rfl (Or.inl rfl)),zaW,(zaC (pa_cons (pv 0) pa_nil))⟩)) pa_nil)))), ?_⟩
  refine⟨_,rfl,_,rfl,by (first|lia|omega),by (first|lia|omega), ?_⟩
  rw[Int.toNat_natCast]
  refine zex (zaK (lo:=0) (n:=m)) (za9 (by rw[zaH];(first|lia|omega))) (RTab fun k=>[k]) (fun x v G G' st ⟨k,z,e1,e2,e3⟩=>⟨k,z,e1,e2,st _ _ e3⟩) (fun _ _=>trivial) (fun x hx G s' Q' q'=> ?_) fun acc ys G hacc s' hys pr=> ?_
  ·obtain ⟨n,rfl,n0,n1⟩:=za5 hx
   exact⟨_,rfl,by show 1<=sizeLine;decide,fun t ht=>q' _ _ (zac ht) ⟨n,t,rfl,rfl,zaa⟩⟩
  ·rw [zaw] at pr
   obtain⟨zs,rfl,R⟩:=zdo pr
   refine⟨acc,_,rfl,.inl ⟨SqL.of hys,fun p hp=> ?_⟩⟩
   exact k p zs _ (s'.trans (zac hp)) zaa (R.same (zac hp))
theorem sc_partsH:FnScope ["kind", "many", "listed"] ["kind", "many"] (zab zdX):=⟨rfl,rfl,rfl,by decide+kernel,rfl,by decide+kernel,by decide+kernel⟩
theorem ziK {f C f1 f2 f3:Addr}{fd:FuncData}(F:Fun K "parts" "parts" zdX f fd)(hC:mg "PARTS" =some (.ref C))(GD:GDict K w.params C [("rounds",f1),("stays",f1),("rises",f2),("highs",f1),("crossed",f3)])
  (c1:CalF P w K mg base 1 f1 ["many"] zgd):FnOk P w K mg base CX0 2 f fd ["kind", "many"] zdq:=by
 refine F.ok sc_partsH (fun vs H Q E h=> ?_) (fun cdv A outer s H vs Q E hr h=> ?_)
 ·obtain ⟨m,rfl,_⟩:=h
  rfl
 ·obtain ⟨m,rfl,hm,k⟩:=h
  refine⟨_,(zad (zak (i:=2) sc_partsH.nd rfl (Or.inl rfl) (zaj zd9 (zbh (v:=.ref C) rfl hC rfl) (pv 0) (fun _ _=>rfl)))
   (zae (zaf (za8 (k:=1) (pv 2) hr (pa_cons (pv 1) pa_nil))))), ?_⟩
  exact⟨_,rfl,C,_,_,f1,rfl,rfl,GD,rfl,_,rfl,f1,_,_,rfl,c1,_,rfl,m,rfl,hm,k⟩
theorem zeb:FnScope ["many", "part"] ["many", "part"] (zab zbc):=⟨rfl,rfl,rfl,by decide+kernel,rfl,by decide+kernel,by decide+kernel⟩
theorem zec {f:Addr}{fd:FuncData}(F:Fun K "high_share" "high_share" zbc f fd):FnOk P w K mg base CX0 1 f fd ["many", "part"] zkn:=by
 refine F.ok zeb (fun vs H Q E h=> ?_) (fun cdv A outer s H vs Q E hr h=> ?_)
 ·obtain ⟨m,a,k,rfl,_⟩:=h
  rfl
 ·obtain ⟨m,a,k,rfl,ha,kk⟩:=h
  refine⟨_,(zae (zaf (zaC (pa_cons pe_int (pa_cons (zag zaB (zaj zai (pv 1) pe_int (fun _ _=>rfl)) pe_int) pa_nil))))), ?_⟩
  refine⟨_,rfl,a,_,0,_,rfl,rfl,SqT.of ha,zah (j:=0) rfl,_,_,rfl,rfl,by show 2<=sizeLine;decide,fun z hz=> ?_⟩
  exact kk z _ (zac hz) zaa
theorem sc_one_shareH:FnScope ["kind", "many", "part", "sharer"] ["kind", "many", "part"] (zab zbq):=⟨rfl,rfl,rfl,by decide+kernel,rfl,by decide+kernel,by decide+kernel⟩
theorem zeI {f C f1 f2 f3 f4:Addr}{fd:FuncData}(F:Fun K "one_share" "one_share" zbq f fd)(hC:mg "ONE_SHARES" =some (.ref C))(GD:GDict K w.params C [("rounds",f1),("stays",f2),("rises",f3),("highs",f4),("crossed",f3)])
  (c4:CalF P w K mg base 1 f4 ["many", "part"] zkn):FnOk P w K mg base CX0 2 f fd ["kind", "many", "part"] zg1:=by
 refine F.ok sc_one_shareH (fun vs H Q E h=> ?_) (fun cdv A outer s H vs Q E hr h=> ?_)
 ·obtain ⟨m,a,k,rfl,_⟩:=h
  rfl
 ·obtain ⟨m,a,k,rfl,ha,kk⟩:=h
  refine⟨_,(zad (zak (i:=3) sc_one_shareH.nd rfl (Or.inl rfl) (zaj zd9 (zbh (v:=.ref C) rfl hC rfl) (pv 0) (fun _ _=>rfl)))
   (zae (zaf (za8 (k:=1) (pv 3) hr (pa_cons (pv 1) (pa_cons (pv 2) pa_nil)))))), ?_⟩
  exact⟨_,rfl,C,_,_,f4,rfl,rfl,GD,rfl,_,rfl,f4,_,_,rfl,c4,_,rfl,_,rfl,m,a,k,rfl,ha,kk⟩
theorem sc_highs_spread:FnScope ["many", "total", "part", "own"] ["many"] (zab zbz):=⟨rfl,rfl,rfl,by decide+kernel,rfl,by decide+kernel,by decide+kernel⟩
set_option maxHeartbeats 8000000 in
theorem zdY {f:Addr}{fd:FuncData}(F:Fun K "highs_spread" "highs_spread" zbz f fd)(Cparts:Cal P w K mg base 2 "parts" ["kind", "many"] zdq)(Cone_share:Cal P w K mg base 2 "one_share" ["kind", "many", "part"] zg1)(Cplus:Cal P w K mg base 3 "plus" ["one", "other"] (spSh plZ))(Cless:Cal P w K mg base 3 "less" ["one", "other"] (spSh leZ))(Ctimes:Cal P w K mg base 3 "times" ["one", "other"] (spSh tmZ)):FnOk P w K mg base CX0 4 f fd ["many"] spHs:=by
 refine F.ok sc_highs_spread (fun vs H Q E h=> ?_) (fun cdv A outer s H vs Q E hr h=> ?_)
 ·obtain ⟨m,rfl,_⟩:=h
  rfl
 ·obtain ⟨m,rfl,hm,k⟩:=h
  refine⟨_,(zad (zak (i:=1) sc_highs_spread.nd rfl (Or.inl rfl) (zaC (pa_cons pe_int (pa_cons pe_int pa_nil))))
   (zad (zbj PassesOwn.never rfl (zbU (pe_cal Cparts (hr.mono (by decide)) rfl (pa_cons pe_str (pa_cons (pv 0) pa_nil)))) (zaq (i:=2) sc_highs_spread.nd rfl (Or.inl rfl))
    (zad (zak (i:=3) sc_highs_spread.nd rfl (Or.inl rfl) (pe_cal Cone_share (hr.mono (by decide)) rfl (pa_cons pe_str (pa_cons (pv 0) (pa_cons (pv 2) pa_nil)))))
    (zae (zak (i:=1) sc_highs_spread.nd rfl (Or.inl rfl) (pe_cal Cplus (hr.mono (by decide)) rfl (pa_cons (pv 1) (pa_cons (pe_cal Cless (hr.mono (by decide)) rfl (pa_cons (pv 3) (pa_cons (pe_cal Ctimes (hr.mono (by decide)) rfl (pa_cons (pv 3) (pa_cons (pv 3) pa_nil))) pa_nil))) pa_nil)))))))
   (zae (zaf (pv 1))))), ?_⟩
  refine⟨by show 2<=sizeLine;decide,fun t0 ht0=>⟨_,rfl,m,rfl,by (first|lia|omega),fun p zs H1 s1 hp R=>⟨p,rfl,⟨_,SqT.of hp⟩, ?_⟩⟩⟩
  have ht1:=s1 _ _ (zaa (H:=H) (a:=t0) (o:=.tup [.int 0,.int 1]))
  have hlen:zs.length=m:=by
   have:=Paired.length R
   unfold zbb at this
   rw[this,List.length_map,zb0]
  refine zct (K:=K) (xs:=zs.map V.ref) (fun i σ G=>Same H1 G/\∃(t:Addr) (c2 c3:Option V),σ=[some (.int m),some (.ref t),c2,c3]/\Shr G t (hsZ i)) ?_ ?_ ?_ ?_
  ·exact⟨Same.refl _,t0,none,none,rfl,ht1⟩
  ·rintro i σ G _ ⟨sm,t,c2,c3,rfl,ht⟩
   exact SqT.of (sm _ _ hp)
  ·rintro i x σ G hx ⟨sm,t,c2,c3,rfl,ht⟩
   rw[List.getElem?_map] at hx
   cases hz:zs[i]? with
   |none=>rw[hz] at hx;cases hx
   | some z=>
    rw[hz] at hx
    cases hx
    have hi:i<m:=by rw[<-hlen];exact (List.getElem?_eq_some_iff.mp hz).1
    obtain⟨r,hr1,hr2⟩:=R.get hz
    have er:r=[(i:Int)]:=by
     unfold zbb at hr1
     rw[List.getElem?_map,zcK hi] at hr1
     cases hr1
     rfl
    subst er
    have mp:(0:Int)<(i:Int)+1:=by (first|lia|omega)
    have ob:=zlk mp (by (first|lia|omega))
    have tb:ShB (tmZ (1,(i:Int)+1) (1,(i:Int)+1)) 3900:=by
     rw[zjT mp]
     exact⟨Int.mul_pos mp mp,sm1,(ob.s2.mul ob.s2).mono (by decide)⟩
    have lb:ShB (leZ (1,(i:Int)+1) (tmZ (1,(i:Int)+1) (1,(i:Int)+1))) 3900:=by
     rw[zjU mp]
     exact ShB.low (Int.mul_pos mp mp) (Sm.of (Nat.lt_of_le_of_lt (show ((i:Int)+1-1).natAbs<=300 by (first|lia|omega)) (by decide+kernel))) ((ob.s2.mul ob.s2).mono (by decide))
    refine⟨_,rfl,_,rfl,m,z,(i:Int),rfl,sm _ _ hr2,fun y G1 g1 hy=> ?_⟩
    refine⟨_,rfl,_,rfl,_,rfl,_,rfl,y,y,_,_,rfl,hy,hy,ob.mono (by decide),ob.mono (by decide),fun u G2 g2 hu2=> ?_⟩
    refine⟨y,u,_,_,rfl,g2 _ _ hy,hu2,ob.mono (by decide),tb,fun v G3 g3 hv=> ?_⟩
    refine⟨t,v,_,_,rfl,((g1.trans g2).trans g3) _ _ ht,hv,zlR (by (first|lia|omega)),lb,fun q G4 g4 hq=> ?_⟩
    exact⟨((sm.trans g1).trans g2).trans (g3.trans g4),q,_,_,rfl,hq⟩
  ·rintro σ G ⟨sm,t,c2,c3,rfl,ht⟩
   rw[List.length_map,hlen] at ht
   exact⟨_,rfl,k t G (((zac ht0).trans s1).trans sm) ht⟩
theorem zdZ:FnScope ["many"] ["many"] (zab zbA):=⟨rfl,rfl,rfl,by decide+kernel,rfl,by decide+kernel,by decide+kernel⟩
theorem zd0 {f:Addr}{fd:FuncData}(F:Fun K "stays_spread" "stays_spread" zbA f fd):FnOk P w K mg base CX0 1 f fd ["many"] (spN1 fun N=>if 1<N then (1,1) else (0,1)):=by
 refine F.ok zdZ (fun vs H Q E h=> ?_) (fun cdv A outer s H vs Q E hr h=> ?_)
 ·obtain ⟨N,rfl,_⟩:=h
  rfl
 ·obtain ⟨N,rfl,h0,h1,k⟩:=h
  refine⟨_,(zae (zaf (zcF (zau zev (pv 0) pe_int (zar _)) (zaC (pa_cons pe_int (pa_cons pe_int pa_nil))) (zaC (pa_cons pe_int (pa_cons pe_int pa_nil)))))), ?_⟩
  refine⟨_,rfl,_,_,rfl,rfl,_,rfl, ?_⟩
  refine ite2 (fun h=> ?_) (fun h=> ?_)
  ·refine ⟨by show 2<=sizeLine;decide,fun z hz=>k z _ (zac hz) ?_⟩
   show Shr _ z (if 1<N then (1,1) else (0,1))
   rw[if_pos (of_decide_eq_true h)];exact zaa
  ·refine ⟨by show 2<=sizeLine;decide,fun z hz=>k z _ (zac hz) ?_⟩
   show Shr _ z (if 1<N then (1,1) else (0,1))
   rw[if_neg (fun z=>h (decide_eq_true z))];exact zaa
theorem sc_rises_spread:FnScope ["many", "themselves", "neighbours"] ["many"] (zab zbB):=⟨rfl,rfl,rfl,by decide+kernel,rfl,by decide+kernel,by decide+kernel⟩
theorem zd1 {f:Addr}{fd:FuncData}(F:Fun K "rises_spread" "rises_spread" zbB f fd)(T:Top mg)(Cshare_of:Cal P w K mg base 2 "share_of" ["over", "under"] zcp):FnOk P w K mg base CX0 3 f fd ["many"] (spN1 (sdZ "rises")):=by
 refine F.ok sc_rises_spread (fun vs H Q E h=> ?_) (fun cdv A outer s H vs Q E hr h=> ?_)
 ·obtain ⟨N,rfl,_⟩:=h
  rfl
 ·obtain ⟨N,rfl,h0,h1,k⟩:=h
  refine⟨_,(zad (zak (i:=1) sc_rises_spread.nd rfl (Or.inl rfl) (zao (zbX rfl) (by rfl) T.n_max boot_max (pa_cons (zag zaM (pv 0) pe_int) (pa_cons pe_int pa_nil))))
   (zad (zak (i:=2) sc_rises_spread.nd rfl (Or.inl rfl) (zag zaN pe_int (zao (zbX rfl) (by rfl) T.n_max boot_max (pa_cons (zag zaM (pv 0) pe_int) (pa_cons pe_int pa_nil)))))
   (zae (zaf (pe_cal Cshare_of (hr.mono (by decide)) rfl (pa_cons (zag zaM (zag zaN pe_int (pv 1)) (pv 2)) (pa_cons pe_int pa_nil))))))), ?_⟩
  refine⟨_,rfl,_,_,rfl,rfl,_,_,rfl, ?_⟩
  refine⟨_,rfl,_,_,rfl,rfl,_,_,rfl,_,_,rfl,rfl,.inl ⟨by decide,by decide⟩, ?_⟩
  refine⟨_,rfl,_,_,rfl,rfl,.inl ⟨by decide,by decide⟩,_,rfl,_,_,rfl,rfl,_,12,rfl,by decide,Sm.of (by decide+kernel),fun z H1 s1 hz=>k z H1 s1 ?_⟩
  rw[zju N h0] at hz
  exact hz
theorem sc_crossed_spread:FnScope ["many", "twos", "threes"] ["many"] (zab zbe):=⟨rfl,rfl,rfl,by decide+kernel,rfl,by decide+kernel,by decide+kernel⟩
theorem zc7 {f:Addr}{fd:FuncData}(F:Fun K "crossed_spread" "crossed_spread" zbe f fd)(T:Top mg)(Cshare_of:Cal P w K mg base 2 "share_of" ["over", "under"] zcp):FnOk P w K mg base CX0 3 f fd ["many"] (spN1 (sdZ "crossed")):=by
 refine F.ok sc_crossed_spread (fun vs H Q E h=> ?_) (fun cdv A outer s H vs Q E hr h=> ?_)
 ·obtain ⟨N,rfl,_⟩:=h
  rfl
 ·obtain ⟨N,rfl,h0,h1,k⟩:=h
  refine⟨_,(zad (zak (i:=1) sc_crossed_spread.nd rfl (Or.inl rfl) (zag zcW (zag zaF (pv 0) (zag zaM (pv 0) pe_int)) pe_int))
   (zad (zak (i:=2) sc_crossed_spread.nd rfl (Or.inl rfl) (zag zcW (zag zaF (pv 1) (zag zaM (pv 0) pe_int)) pe_int))
   (zae (zaf (pe_cal Cshare_of (hr.mono (by decide)) rfl (pa_cons (zag zaB (zag zaN pe_int (pv 1)) (zag zaN pe_int (pv 2))) (pa_cons pe_int pa_nil))))))), ?_⟩
  have a1:=sm_N h0 h1
  have a2:=zjr (i:=1) h0 h1 (by decide)
  have a3:=zjr (i:=2) h0 h1 (by decide)
  have t1:Sm (N*(N-1)/2) 210:=by
   refine Sm.le ((a1.mul a2).mono (show 100+100<=210 by decide)) ?_
   have e:=tw_even N
   show _<=(N*(N-1)).natAbs
   (first|lia|omega)
  refine⟨_,rfl,_,rfl,_,_,rfl,rfl,_,_,rfl,rfl,⟨(sm_N h0 h1).mono (by decide),(zjr (i:=1) h0 h1 (by decide)).mono (by decide)⟩,_,_,rfl,rfl,⟨by decide,by decide⟩, ?_⟩
  refine⟨_,rfl,_,rfl,_,_,rfl,rfl,_,_,rfl,rfl,⟨t1.mono (by decide),a3.mono (by decide)⟩,_,_,rfl,rfl,⟨by decide,by decide⟩, ?_⟩
  refine⟨_,rfl,_,_,rfl,rfl,.inl ⟨by decide,by decide⟩,_,rfl,_,_,rfl,rfl,.inl ⟨by decide,by decide⟩,_,_,rfl,rfl,_,12,rfl,by decide,Sm.of (by decide+kernel),fun z H1 s1 hz=>k z H1 s1 ?_⟩
  have e:lowZ (3*(N*(N-1)/2)+2*(N*(N-1)/2*(N-2)/3)) 12=sdZ "crossed" N:=zjt N
  rw[e] at hz
  exact hz
theorem sc_spread:FnScope ["kind", "many", "reckoned"] ["kind", "many"] (zab zeH):=⟨rfl,rfl,rfl,by decide+kernel,rfl,by decide+kernel,by decide+kernel⟩
theorem ziL {f C f1 f2 f3 f4:Addr}{fd:FuncData}(F:Fun K "spread" "spread" zeH f fd)(hC:mg "SPREADS" =some (.ref C))(GD:GDict K w.params C [("rounds",f1),("stays",f2),("rises",f3),("highs",f1),("crossed",f4)])
  (c1:CalF P w K mg base 4 f1 ["many"] spHs) (c2:CalF P w K mg base 4 f2 ["many"] (spN1 fun N=>if 1<N then (1,1) else (0,1))) (c3:CalF P w K mg base 4 f3 ["many"] (spN1 (sdZ "rises"))) (c4:CalF P w K mg base 4 f4 ["many"] (spN1 (sdZ "crossed"))):FnOk P w K mg base CX0 5 f fd ["kind", "many"] zdr:=by
 refine F.ok sc_spread (fun vs H Q E h=> ?_) (fun cdv A outer s H vs Q E hr h=> ?_)
 ·obtain ⟨kd,N,rfl,_⟩:=h
  rfl
 ·obtain ⟨kd,N,rfl,hk,h0,h1,hN,k⟩:=h
  refine⟨_,(zad (zak (i:=2) sc_spread.nd rfl (Or.inl rfl) (zaj zd9 (zbh (v:=.ref C) rfl hC rfl) (pv 0) (fun _ _=>rfl)))
   (zae (zaf (za8 (k:=4) (pv 2) hr (pa_cons (pv 1) pa_nil))))), ?_⟩
  rcases zat hk with rfl|rfl|rfl|rfl|rfl
  ·have hN:=hN (.inl rfl)
   exact⟨_,rfl,C,_,_,f1,rfl,rfl,GD,rfl,_,rfl,f1,_,_,rfl,c1,_,rfl,N.toNat,by rw[Int.toNat_of_nonneg h0],by (first|lia|omega),fun z H' s' hz=>k z H' s' hz⟩
  ·exact⟨_,rfl,C,_,_,f2,rfl,rfl,GD,rfl,_,rfl,f2,_,_,rfl,c2,_,rfl,N,rfl,h0,h1,fun z H' s' hz=>k z H' s' hz⟩
  ·exact⟨_,rfl,C,_,_,f3,rfl,rfl,GD,rfl,_,rfl,f3,_,_,rfl,c3,_,rfl,N,rfl,h0,h1,fun z H' s' hz=>k z H' s' hz⟩
  ·have hN:=hN (.inr rfl)
   exact⟨_,rfl,C,_,_,f1,rfl,rfl,GD,rfl,_,rfl,f1,_,_,rfl,c1,_,rfl,N.toNat,by rw[Int.toNat_of_nonneg h0],by (first|lia|omega),fun z H' s' hz=>k z H' s' hz⟩
  ·exact⟨_,rfl,C,_,_,f4,rfl,rfl,GD,rfl,_,rfl,f4,_,_,rfl,c4,_,rfl,N,rfl,h0,h1,fun z H' s' hz=>k z H' s' hz⟩
end
noncomputable abbrev zb4:Stmt:=top 33
noncomputable abbrev zb5:Stmt:=top 35
noncomputable abbrev zb6:Stmt:=top 37
noncomputable abbrev zbC:Stmt:=top 39
noncomputable abbrev ziM:Stmt:=top 43
noncomputable def zg7:Sp:=fun vs H Q _=>∃(kind:Str) (N:Int),vs=[.str kind,.int N]/\kind∈zaO/\0<=N/\N<=10^30/\(kind= "rounds" ∨kind= "highs" ->N<=300)/\∀z H',Same H H'->Shr H' z (zkp kind N)->Q (.ref z) H'
section
variable {P:Program}{w:World}{K:PySem.W.Frag}{mg:Str->Option Value}{base:Heap}
theorem sc_highs_mean:FnScope ["many", "total", "part"] ["many"] (zab zb4):=⟨rfl,rfl,rfl,by decide+kernel,rfl,by decide+kernel,by decide+kernel⟩
theorem zeJ {f:Addr}{fd:FuncData}(F:Fun K "highs_mean" "highs_mean" zb4 f fd)(Cparts:Cal P w K mg base 2 "parts" ["kind", "many"] zdq)(Cone_share:Cal P w K mg base 2 "one_share" ["kind", "many", "part"] zg1)(Cplus:Cal P w K mg base 3 "plus" ["one", "other"] (spSh plZ)):FnOk P w K mg base CX0 4 f fd ["many"] spHm:=by
 refine F.ok sc_highs_mean (fun vs H Q E h=> ?_) (fun cdv A outer s H vs Q E hr h=> ?_)
 ·obtain ⟨m,rfl,_⟩:=h
  rfl
 ·obtain ⟨m,rfl,hm,k⟩:=h
  refine⟨_,(zad (zak (i:=1) sc_highs_mean.nd rfl (Or.inl rfl) (zaC (pa_cons pe_int (pa_cons pe_int pa_nil))))
   (zad (zbj PassesOwn.never rfl (zbU (pe_cal Cparts (hr.mono (by decide)) rfl (pa_cons pe_str (pa_cons (pv 0) pa_nil)))) (zaq (i:=2) sc_highs_mean.nd rfl (Or.inl rfl))
    (zae (zak (i:=1) sc_highs_mean.nd rfl (Or.inl rfl) (pe_cal Cplus (hr.mono (by decide)) rfl (pa_cons (pv 1) (pa_cons (pe_cal Cone_share (hr.mono (by decide)) rfl (pa_cons pe_str (pa_cons (pv 0) (pa_cons (pv 2) pa_nil)))) pa_nil))))))
   (zae (zaf (pv 1))))), ?_⟩
  refine⟨by show 2<=sizeLine;decide,fun t0 ht0=>⟨_,rfl,m,rfl,hm,fun p zs H1 s1 hp R=>⟨p,rfl,⟨_,SqT.of hp⟩, ?_⟩⟩⟩
  have ht1:=s1 _ _ (zaa (H:=H) (a:=t0) (o:=.tup [.int 0,.int 1]))
  have hlen:zs.length=m:=by
   have:=Paired.length R
   unfold zbb at this
   rw[this,List.length_map,zb0]
  refine zct (K:=K) (xs:=zs.map V.ref) (fun i σ G=>Same H1 G/\∃(t:Addr) (c2:Option V),σ=[some (.int m),some (.ref t),c2]/\Shr G t (hmZ i)) ?_ ?_ ?_ ?_
  ·exact⟨Same.refl _,t0,none,rfl,ht1⟩
  ·rintro i σ G _ ⟨sm,t,c2,rfl,ht⟩
   exact SqT.of (sm _ _ hp)
  ·rintro i x σ G hx ⟨sm,t,c2,rfl,ht⟩
   rw[List.getElem?_map] at hx
   cases hz:zs[i]? with
   |none=>rw[hz] at hx;cases hx
   | some z=>
    rw[hz] at hx
    cases hx
    have hi:i<m:=by rw[<-hlen];exact (List.getElem?_eq_some_iff.mp hz).1
    obtain⟨r,hr1,hr2⟩:=R.get hz
    have er:r=[(i:Int)]:=by
     unfold zbb at hr1
     rw[List.getElem?_map,zcK hi] at hr1
     cases hr1
     rfl
    subst er
    refine⟨_,rfl,_,rfl,_,rfl,m,z,(i:Int),rfl,sm _ _ hr2,fun y G1 g1 hy=> ?_⟩
    refine⟨t,y,_,_,rfl,g1 _ _ ht,hy,zlP (by (first|lia|omega)),⟨by show (0:Int)<(i:Int)+1;(first|lia|omega),sm1,Sm.of (Nat.lt_of_le_of_lt (show ((i:Int)+1).natAbs<=300 by (first|lia|omega)) (by decide+kernel))⟩,fun q G2 g2 hq=> ?_⟩
    exact⟨(sm.trans g1).trans g2,q,_,rfl,hq⟩
  ·rintro σ G ⟨sm,t,c2,rfl,ht⟩
   rw[List.length_map,hlen] at ht
   exact⟨_,rfl,k t G (((zac ht0).trans s1).trans sm) ht⟩
theorem zeK:FnScope ["many"] ["many"] (zab zb5):=⟨rfl,rfl,rfl,by decide+kernel,rfl,by decide+kernel,by decide+kernel⟩
theorem zeL {f:Addr}{fd:FuncData}(F:Fun K "stays_mean" "stays_mean" zb5 f fd):FnOk P w K mg base CX0 1 f fd ["many"] (spN1 fun N=>if 0<N then (1,1) else (0,1)):=by
 refine F.ok zeK (fun vs H Q E h=> ?_) (fun cdv A outer s H vs Q E hr h=> ?_)
 ·obtain ⟨N,rfl,_⟩:=h
  rfl
 ·obtain ⟨N,rfl,h0,h1,k⟩:=h
  refine⟨_,(zae (zaf (zcF (zau zev (pv 0) pe_int (zar _)) (zaC (pa_cons pe_int (pa_cons pe_int pa_nil))) (zaC (pa_cons pe_int (pa_cons pe_int pa_nil)))))), ?_⟩
  refine⟨_,rfl,_,_,rfl,rfl,_,rfl, ?_⟩
  refine ite2 (fun h=> ?_) (fun h=> ?_)
  ·refine ⟨by show 2<=sizeLine;decide,fun z hz=>k z _ (zac hz) ?_⟩
   show Shr _ z (if 0<N then (1,1) else (0,1))
   rw[if_pos (of_decide_eq_true h)];exact zaa
  ·refine ⟨by show 2<=sizeLine;decide,fun z hz=>k z _ (zac hz) ?_⟩
   show Shr _ z (if 0<N then (1,1) else (0,1))
   rw[if_neg (fun z=>h (decide_eq_true z))];exact zaa
theorem zeM:FnScope ["many"] ["many"] (zab zb6):=⟨rfl,rfl,rfl,by decide+kernel,rfl,by decide+kernel,by decide+kernel⟩
theorem zeN {f:Addr}{fd:FuncData}(F:Fun K "rises_mean" "rises_mean" zb6 f fd)(T:Top mg)(Cshare_of:Cal P w K mg base 2 "share_of" ["over", "under"] zcp):FnOk P w K mg base CX0 3 f fd ["many"] (spN1 (mnZ "rises")):=by
 refine F.ok zeM (fun vs H Q E h=> ?_) (fun cdv A outer s H vs Q E hr h=> ?_)
 ·obtain ⟨N,rfl,_⟩:=h
  rfl
 ·obtain ⟨N,rfl,h0,h1,k⟩:=h
  refine⟨_,(zae (zaf (pe_cal Cshare_of (hr.mono (by decide)) rfl (pa_cons (zao (zbX rfl) (by rfl) T.n_max boot_max (pa_cons (zag zaM (pv 0) pe_int) (pa_cons pe_int pa_nil))) (pa_cons pe_int pa_nil))))), ?_⟩
  refine⟨_,rfl,_,_,rfl,rfl,_,_,rfl,_,2,rfl,by decide,Sm.of (by decide+kernel),fun z H1 s1 hz=>k z H1 s1 ?_⟩
  rw[zli N h0] at hz
  exact hz
theorem zd2:FnScope ["many"] ["many"] (zab zbC):=⟨rfl,rfl,rfl,by decide+kernel,rfl,by decide+kernel,by decide+kernel⟩
theorem zd3 {f:Addr}{fd:FuncData}(F:Fun K "crossed_mean" "crossed_mean" zbC f fd)(T:Top mg)(Cshare_of:Cal P w K mg base 2 "share_of" ["over", "under"] zcp):FnOk P w K mg base CX0 3 f fd ["many"] (spN1 (mnZ "crossed")):=by
 refine F.ok zd2 (fun vs H Q E h=> ?_) (fun cdv A outer s H vs Q E hr h=> ?_)
 ·obtain ⟨N,rfl,_⟩:=h
  rfl
 ·obtain ⟨N,rfl,h0,h1,k⟩:=h
  refine⟨_,(zae (zaf (pe_cal Cshare_of (hr.mono (by decide)) rfl (pa_cons (zag zcW (zag zaF (pv 0) (zag zaM (pv 0) pe_int)) pe_int) (pa_cons pe_int pa_nil))))), ?_⟩
  refine⟨_,rfl,_,rfl,_,_,rfl,rfl,_,_,rfl,rfl,⟨(sm_N h0 h1).mono (by decide),(zjr (i:=1) h0 h1 (by decide)).mono (by decide)⟩,_,_,rfl,rfl,⟨by decide,by decide⟩,_,2,rfl,by decide,Sm.of (by decide+kernel),fun z H1 s1 hz=>k z H1 s1 ?_⟩
  have e:lowZ (N*(N-1)/2) 2=mnZ "crossed" N:=zlh N
  rw[e] at hz
  exact hz
theorem sc_mean:FnScope ["kind", "many", "reckoned"] ["kind", "many"] (zab ziM):=⟨rfl,rfl,rfl,by decide+kernel,rfl,by decide+kernel,by decide+kernel⟩
theorem zkw {f C f1 f2 f3 f4:Addr}{fd:FuncData}(F:Fun K "mean" "mean" ziM f fd)(hC:mg "MEANS" =some (.ref C))(GD:GDict K w.params C [("rounds",f1),("stays",f2),("rises",f3),("highs",f1),("crossed",f4)])
  (c1:CalF P w K mg base 4 f1 ["many"] spHm) (c2:CalF P w K mg base 4 f2 ["many"] (spN1 fun N=>if 0<N then (1,1) else (0,1))) (c3:CalF P w K mg base 4 f3 ["many"] (spN1 (mnZ "rises"))) (c4:CalF P w K mg base 4 f4 ["many"] (spN1 (mnZ "crossed"))):FnOk P w K mg base CX0 5 f fd ["kind", "many"] zg7:=by
 refine F.ok sc_mean (fun vs H Q E h=> ?_) (fun cdv A outer s H vs Q E hr h=> ?_)
 ·obtain ⟨kd,N,rfl,_⟩:=h
  rfl
 ·obtain ⟨kd,N,rfl,hk,h0,h1,hN,k⟩:=h
  refine⟨_,(zad (zak (i:=2) sc_mean.nd rfl (Or.inl rfl) (zaj zd9 (zbh (v:=.ref C) rfl hC rfl) (pv 0) (fun _ _=>rfl)))
   (zae (zaf (za8 (k:=4) (pv 2) hr (pa_cons (pv 1) pa_nil))))), ?_⟩
  rcases zat hk with rfl|rfl|rfl|rfl|rfl
  ·have hN:=hN (.inl rfl)
   exact⟨_,rfl,C,_,_,f1,rfl,rfl,GD,rfl,_,rfl,f1,_,_,rfl,c1,_,rfl,N.toNat,by rw[Int.toNat_of_nonneg h0],by (first|lia|omega),fun z H' s' hz=>k z H' s' hz⟩
  ·exact⟨_,rfl,C,_,_,f2,rfl,rfl,GD,rfl,_,rfl,f2,_,_,rfl,c2,_,rfl,N,rfl,h0,h1,fun z H' s' hz=>k z H' s' hz⟩
  ·exact⟨_,rfl,C,_,_,f3,rfl,rfl,GD,rfl,_,rfl,f3,_,_,rfl,c3,_,rfl,N,rfl,h0,h1,fun z H' s' hz=>k z H' s' hz⟩
  ·have hN:=hN (.inr rfl)
   exact⟨_,rfl,C,_,_,f1,rfl,rfl,GD,rfl,_,rfl,f1,_,_,rfl,c1,_,rfl,N.toNat,by rw[Int.toNat_of_nonneg h0],by (first|lia|omega),fun z H' s' hz=>k z H' s' hz⟩
  ·exact⟨_,rfl,C,_,_,f4,rfl,rfl,GD,rfl,_,rfl,f4,_,_,rfl,c4,_,rfl,N,rfl,h0,h1,fun z H' s' hz=>k z H' s' hz⟩
theorem zdg:FnScope ["many"] ["many"] (zab zax):=⟨rfl,rfl,rfl,by decide+kernel,rfl,by decide+kernel,by decide+kernel⟩
theorem zdh {f:Addr}{fd:FuncData}(F:Fun K "numbers_below" "numbers_below" zax f fd)(T:Top mg):FnOk P w K mg base CX0 1 f fd ["many"] (zcR zbb):=by
 refine F.ok zdg (fun vs H Q E h=> ?_) (fun cdv A outer s H vs Q E hr h=> ?_)
 ·obtain ⟨m,rfl,_⟩:=h
  rfl
 ·obtain ⟨m,rfl,hm,k⟩:=h
  refine⟨_,(zae (zaf (zam zap (by rfl) T.n_tuple boot_tuple (pa_cons (zcI (N':=["k"]) (n:=1) (ix:=[]) rfl (CompScope.of (sc:=zab zax) (N:=["many"]) (by decide+kernel) rfl rfl) (zaA rfl T.n_range (pa_cons (pv 0) pa_nil)) (fun _ _ _ _ _=>⟨(zaq (i:=0) (show (["k"]:List Str).Nodup by decide+kernel) rfl (Or.inl rfl)),zaW,(zaC (pa_cons (pv 0) pa_nil))⟩)) pa_nil)))), ?_⟩
  refine⟨_,rfl,_,rfl,by (first|lia|omega),by (first|lia|omega), ?_⟩
  rw[Int.toNat_natCast]
  refine zex (zaK (lo:=0) (n:=m)) (za9 (by rw[zaH];(first|lia|omega))) (RTab fun k=>[k]) (fun x v G G' st ⟨k,z,e1,e2,e3⟩=>⟨k,z,e1,e2,st _ _ e3⟩) (fun _ _=>trivial) (fun x hx G s' Q' q'=> ?_) fun acc ys G hacc s' hys pr=> ?_
  ·obtain ⟨n,rfl,n0,n1⟩:=za5 hx
   exact⟨_,rfl,by show 1<=sizeLine;decide,fun t ht=>q' _ _ (zac ht) ⟨n,t,rfl,rfl,zaa⟩⟩
  ·rw [zaw] at pr
   obtain⟨zs,rfl,R⟩:=zdo pr
   refine⟨acc,_,rfl,.inl ⟨SqL.of hys,fun p hp=> ?_⟩⟩
   exact k p zs _ (s'.trans (zac hp)) zaa (R.same (zac hp))
theorem zcT:FnScope ["many"] ["many"] (zab zaL):=⟨rfl,rfl,rfl,by decide+kernel,rfl,by decide+kernel,by decide+kernel⟩
theorem zcU {f:Addr}{fd:FuncData}(F:Fun K "places_but_last" "places_but_last" zaL f fd)(T:Top mg):FnOk P w K mg base CX0 1 f fd ["many"] (zcR fun m=>zbb (m-1)):=by
 refine F.ok zcT (fun vs H Q E h=> ?_) (fun cdv A outer s H vs Q E hr h=> ?_)
 ·obtain ⟨m,rfl,_⟩:=h
  rfl
 ·obtain ⟨m,rfl,hm,k⟩:=h
  refine⟨_,(zae (zaf (zam zap (by rfl) T.n_tuple boot_tuple (pa_cons (zcI (N':=["k"]) (n:=1) (ix:=[]) rfl (CompScope.of (sc:=zab zaL) (N:=["many"]) (by decide+kernel) rfl rfl) (zaA rfl T.n_range (pa_cons (zag zaM (pv 0) pe_int) pa_nil)) (fun _ _ _ _ _=>⟨(zaq (i:=0) (show (["k"]:List Str).Nodup by decide+kernel) rfl (Or.inl rfl)),zaW,(zaC (pa_cons (pv 0) pa_nil))⟩)) pa_nil)))), ?_⟩
  refine⟨_,rfl,_,_,rfl,rfl,_,rfl,by (first|lia|omega),by (first|lia|omega), ?_⟩
  rw[show ((m:Int)-1).toNat=m-1 by (first|lia|omega)]
  refine zex (zaK (lo:=0) (n:=m-1)) (za9 (by rw[zaH];(first|lia|omega))) (RTab fun k=>[k]) (fun x v G G' st ⟨k,z,e1,e2,e3⟩=>⟨k,z,e1,e2,st _ _ e3⟩) (fun _ _=>trivial) (fun x hx G s' Q' q'=> ?_) fun acc ys G hacc s' hys pr=> ?_
  ·obtain ⟨n,rfl,n0,n1⟩:=za5 hx
   exact⟨_,rfl,by show 1<=sizeLine;decide,fun t ht=>q' _ _ (zac ht) ⟨n,t,rfl,rfl,zaa⟩⟩
  ·rw [zaw] at pr
   obtain⟨zs,rfl,R⟩:=zdo pr
   refine⟨acc,_,rfl,.inl ⟨SqL.of hys,fun p hp=> ?_⟩⟩
   exact k p zs _ (s'.trans (zac hp)) zaa (R.same (zac hp))
theorem zed:FnScope ["many"] ["many"] (zab zbf):=⟨rfl,rfl,rfl,by decide+kernel,rfl,by decide+kernel,by decide+kernel⟩
theorem zee {f:Addr}{fd:FuncData}(F:Fun K "place_pairs" "place_pairs" zbf f fd)(T:Top mg):FnOk P w K mg base CX0 1 f fd ["many"] (zcR fun m=>(prsZ m m).map rowP):=by
 refine F.ok zed (fun vs H Q E h=> ?_) (fun cdv A outer s H vs Q E hr h=> ?_)
 ·obtain ⟨m,rfl,_⟩:=h
  rfl
 ·obtain ⟨m,rfl,hm,k⟩:=h
  refine⟨_,(zae (zaf (zam zap (by rfl) T.n_tuple boot_tuple (pa_cons (zjP (N':=["k", "j", "many"]) (n:=2) (ix:=[0]) rfl (CompScope.of (sc:=zab zbf) (N:=["many"]) (by decide+kernel) rfl rfl) (zaA rfl T.n_range (pa_cons (pv 0) pa_nil))
     (fun _ _ _ _ _=>⟨(zaq (i:=0) (show (["k", "j", "many"]:List Str).Nodup by decide+kernel) rfl (Or.inl rfl)),zaW,(zdz rfl T.n_range (pa_cons (zag zaB (pv 0) pe_int) (pa_cons (pv 2) pa_nil))),(zaq (i:=1) (show (["k", "j", "many"]:List Str).Nodup by decide+kernel) rfl (Or.inl rfl)),
      zaW,(zaC (pa_cons (pv 0) (pa_cons (pv 1) pa_nil)))⟩)) pa_nil)))), ?_⟩
  refine⟨_,rfl,_,rfl,by (first|lia|omega),by (first|lia|omega), ?_⟩
  rw[Int.toNat_natCast]
  refine zjh (zaK (lo:=0) (n:=m)) (ysP m) (fun _ _=>true) RPrs ?_ (fun xy v G G' st ⟨k,j,z,e1,e2,e3⟩=>⟨k,j,z,e1,e2,st _ _ e3⟩) (fun _ _=>trivial) (fun x hx G s' Rr q'=> ?_) (fun x hx y hy G s' Q' q'=>q') (fun x hx y hy _ G s' Q' q'=> ?_) fun acc vs G hacc s' hvs pr=> ?_
  ·rw [zes,List.length_map]
   refine Nat.lt_of_le_of_lt (zgZ m m) (Nat.lt_of_le_of_lt (Nat.mul_le_mul hm hm) (by decide))
  ·obtain ⟨n,rfl,n0,n1⟩:=za5 hx
   refine⟨_,rfl,_,_,rfl,rfl,_,rfl,_,_,rfl,⟨by (first|lia|omega),by (first|lia|omega),by (first|lia|omega),by (first|lia|omega)⟩, ?_⟩
   exact q' _ _ _ (Same.refl G) (zaK (lo:=n+1) (n:=((m:Int)-(n+1)).toNat)) fun _ _ _=>trivial
  ·obtain ⟨n,rfl,n0,n1⟩:=za5 hx
   obtain⟨j,_,rfl⟩:=List.mem_map.mp (show y∈(numF (n+1) ((m:Int)-(n+1)).toNat).map V.int from zdP _ _▸hy)
   exact⟨_,rfl,_,rfl,by show 2<=sizeLine;decide,fun t ht=>q' _ _ (zac ht) ⟨n,j,t,rfl,rfl,zaa⟩⟩
  ·rw [zes] at pr
   obtain⟨zs,rfl,R⟩:=zg0 pr
   refine⟨acc,_,rfl,.inl ⟨SqL.of hvs,fun p hp=> ?_⟩⟩
   exact k p zs _ (s'.trans (zac hp)) zaa (R.same (zac hp))
theorem sc_parts:FnScope ["kind", "many", "listed"] ["kind", "many"] (zab zdX):=⟨rfl,rfl,rfl,by decide+kernel,rfl,by decide+kernel,by decide+kernel⟩
theorem zjC {f C f1 f2 f3:Addr}{fd:FuncData}(F:Fun K "parts" "parts" zdX f fd)(hC:mg "PARTS" =some (.ref C))(GD:GDict K w.params C [("rounds",f1),("stays",f1),("rises",f2),("highs",f1),("crossed",f3)])
  (c1:CalF P w K mg base 1 f1 ["many"] (zcR zbb)) (c2:CalF P w K mg base 1 f2 ["many"] (zcR fun m=>zbb (m-1))) (c3:CalF P w K mg base 1 f3 ["many"] (zcR fun m=>(prsZ m m).map rowP)):FnOk P w K mg base CX0 2 f fd ["kind", "many"] zeF:=by
 refine F.ok sc_parts (fun vs H Q E h=> ?_) (fun cdv A outer s H vs Q E hr h=> ?_)
 ·obtain ⟨kind,m,rfl,_⟩:=h
  rfl
 ·obtain ⟨kind,m,rfl,hk,hm,k⟩:=h
  refine⟨_,(zad (zak (i:=2) sc_parts.nd rfl (Or.inl rfl) (zaj zd9 (zbh (v:=.ref C) rfl hC rfl) (pv 0) (fun _ _=>rfl)))
   (zae (zaf (za8 (k:=1) (pv 2) hr (pa_cons (pv 1) pa_nil))))), ?_⟩
  rcases zat hk with rfl|rfl|rfl|rfl|rfl
  ·exact⟨_,rfl,C,_,_,f1,rfl,rfl,GD,rfl,_,rfl,f1,_,_,rfl,c1,_,rfl,m,rfl,hm,k⟩
  ·exact⟨_,rfl,C,_,_,f1,rfl,rfl,GD,rfl,_,rfl,f1,_,_,rfl,c1,_,rfl,m,rfl,hm,k⟩
  ·exact⟨_,rfl,C,_,_,f2,rfl,rfl,GD,rfl,_,rfl,f2,_,_,rfl,c2,_,rfl,m,rfl,hm,k⟩
  ·exact⟨_,rfl,C,_,_,f1,rfl,rfl,GD,rfl,_,rfl,f1,_,_,rfl,c1,_,rfl,m,rfl,hm,k⟩
  ·exact⟨_,rfl,C,_,_,f3,rfl,rfl,GD,rfl,_,rfl,f3,_,_,rfl,c3,_,rfl,m,rfl,hm,k⟩
end
noncomputable abbrev zc8:Stmt:=top 79
section
variable {P:Program}{w:World}{K:PySem.W.Frag}{mg:Str->Option Value}{base:Heap}
theorem zef:FnScope ["many", "part"] ["many", "part"] (zab zbO):=⟨rfl,rfl,rfl,by decide+kernel,rfl,by decide+kernel,by decide+kernel⟩
theorem zeg {f:Addr}{fd:FuncData}(F:Fun K "round_share" "round_share" zbO f fd):FnOk P w K mg base CX0 1 f fd ["many", "part"] (zcS fun N ps=>N-ps.getD 0 0):=by
 refine F.ok zef (fun vs H Q E h=> ?_) (fun cdv A outer s H vs Q E hr h=> ?_)
 ·obtain ⟨N,p,ps,rfl,_⟩:=h
  rfl
 ·obtain ⟨N,p,ps,rfl,hp,hl,k⟩:=h
  refine⟨_,(zae (zaf (zaC (pa_cons pe_int (pa_cons (zag zaM (pv 0) (zaj zai (pv 1) pe_int (fun _ _=>rfl))) pa_nil))))), ?_⟩
  have hp0:atI (ps.map V.int) 0=some (.int (ps.getD 0 0)):=by
   have:=zaJ (ys:=ps) (i:=0) (by decide) (by (first|lia|omega))
   rwa [show (0:Int).toNat=0 from rfl] at this
  exact⟨_,rfl,_,rfl,p,_,0,_,rfl,rfl,SqT.of hp,hp0,_,_,rfl,rfl,by show 2<=sizeLine;decide,fun z hz=>k z _ (zac hz) zaa⟩
theorem zeO:FnScope ["many", "part"] ["many", "part"] (zab zb2):=⟨rfl,rfl,rfl,by decide+kernel,rfl,by decide+kernel,by decide+kernel⟩
theorem zeP {f:Addr}{fd:FuncData}(F:Fun K "stay_share" "stay_share" zb2 f fd):FnOk P w K mg base CX0 1 f fd ["many", "part"] (zcS fun N ps=>N):=by
 refine F.ok zeO (fun vs H Q E h=> ?_) (fun cdv A outer s H vs Q E hr h=> ?_)
 ·obtain ⟨N,p,ps,rfl,_⟩:=h
  rfl
 ·obtain ⟨N,p,ps,rfl,hp,hl,k⟩:=h
  refine⟨_,(zae (zaf (zaC (pa_cons pe_int (pa_cons (pv 0) pa_nil))))), ?_⟩
  exact⟨_,rfl,by show 2<=sizeLine;decide,fun z hz=>k z _ (zac hz) zaa⟩
theorem zeQ:FnScope ["many", "part"] ["many", "part"] (zab zb3):=⟨rfl,rfl,rfl,by decide+kernel,rfl,by decide+kernel,by decide+kernel⟩
theorem zeR {f:Addr}{fd:FuncData}(F:Fun K "half_share" "half_share" zb3 f fd):FnOk P w K mg base CX0 1 f fd ["many", "part"] (zcS fun N ps=>2):=by
 refine F.ok zeQ (fun vs H Q E h=> ?_) (fun cdv A outer s H vs Q E hr h=> ?_)
 ·obtain ⟨N,p,ps,rfl,_⟩:=h
  rfl
 ·obtain ⟨N,p,ps,rfl,hp,hl,k⟩:=h
  refine⟨_,(zae (zaf (zaC (pa_cons pe_int (pa_cons pe_int pa_nil))))), ?_⟩
  exact⟨by show 2<=sizeLine;decide,fun z hz=>k z _ (zac hz) zaa⟩
theorem zeS:FnScope ["many", "part"] ["many", "part"] (zab zbc):=⟨rfl,rfl,rfl,by decide+kernel,rfl,by decide+kernel,by decide+kernel⟩
theorem zeT {f:Addr}{fd:FuncData}(F:Fun K "high_share" "high_share" zbc f fd):FnOk P w K mg base CX0 1 f fd ["many", "part"] (zcS fun N ps=>ps.getD 0 0+1):=by
 refine F.ok zeS (fun vs H Q E h=> ?_) (fun cdv A outer s H vs Q E hr h=> ?_)
 ·obtain ⟨N,p,ps,rfl,_⟩:=h
  rfl
 ·obtain ⟨N,p,ps,rfl,hp,hl,k⟩:=h
  refine⟨_,(zae (zaf (zaC (pa_cons pe_int (pa_cons (zag zaB (zaj zai (pv 1) pe_int (fun _ _=>rfl)) pe_int) pa_nil))))), ?_⟩
  have hp0:atI (ps.map V.int) 0=some (.int (ps.getD 0 0)):=by
   have:=zaJ (ys:=ps) (i:=0) (by decide) (by (first|lia|omega))
   rwa [show (0:Int).toNat=0 from rfl] at this
  exact⟨_,rfl,p,_,0,_,rfl,rfl,SqT.of hp,hp0,_,_,rfl,rfl,by show 2<=sizeLine;decide,fun z hz=>k z _ (zac hz) zaa⟩
theorem sc_one_share:FnScope ["kind", "many", "part", "sharer"] ["kind", "many", "part"] (zab zbq):=⟨rfl,rfl,rfl,by decide+kernel,rfl,by decide+kernel,by decide+kernel⟩
theorem zfB {f C f1 f2 f3 f4:Addr}{fd:FuncData}(F:Fun K "one_share" "one_share" zbq f fd)(hC:mg "ONE_SHARES" =some (.ref C))(GD:GDict K w.params C [("rounds",f1),("stays",f2),("rises",f3),("highs",f4),("crossed",f3)])
  (c1:CalF P w K mg base 1 f1 ["many", "part"] (zcS fun N ps=>N-ps.getD 0 0)) (c2:CalF P w K mg base 1 f2 ["many", "part"] (zcS fun N ps=>N)) (c3:CalF P w K mg base 1 f3 ["many", "part"] (zcS fun N ps=>2)) (c4:CalF P w K mg base 1 f4 ["many", "part"] (zcS fun N ps=>ps.getD 0 0+1)):FnOk P w K mg base CX0 2 f fd ["kind", "many", "part"] zg2:=by
 refine F.ok sc_one_share (fun vs H Q E h=> ?_) (fun cdv A outer s H vs Q E hr h=> ?_)
 ·obtain ⟨kd,N,p,ps,rfl,_⟩:=h
  rfl
 ·obtain ⟨kd,N,p,ps,rfl,hk,hp,hl,k⟩:=h
  refine⟨_,(zad (zak (i:=3) sc_one_share.nd rfl (Or.inl rfl) (zaj zd9 (zbh (v:=.ref C) rfl hC rfl) (pv 0) (fun _ _=>rfl)))
   (zae (zaf (za8 (k:=1) (pv 3) hr (pa_cons (pv 1) (pa_cons (pv 2) pa_nil)))))), ?_⟩
  rcases zat hk with rfl|rfl|rfl|rfl|rfl
  ·exact⟨_,rfl,C,_,_,f1,rfl,rfl,GD,rfl,_,rfl,f1,_,_,rfl,c1,_,rfl,_,rfl,N,p,ps,rfl,hp,hl,fun z H' s' hz=>k z H' s' hz⟩
  ·exact⟨_,rfl,C,_,_,f2,rfl,rfl,GD,rfl,_,rfl,f2,_,_,rfl,c2,_,rfl,_,rfl,N,p,ps,rfl,hp,hl,fun z H' s' hz=>k z H' s' hz⟩
  ·exact⟨_,rfl,C,_,_,f3,rfl,rfl,GD,rfl,_,rfl,f3,_,_,rfl,c3,_,rfl,_,rfl,N,p,ps,rfl,hp,hl,fun z H' s' hz=>k z H' s' hz⟩
  ·exact⟨_,rfl,C,_,_,f4,rfl,rfl,GD,rfl,_,rfl,f4,_,_,rfl,c4,_,rfl,_,rfl,N,p,ps,rfl,hp,hl,fun z H' s' hz=>k z H' s' hz⟩
  ·exact⟨_,rfl,C,_,_,f3,rfl,rfl,GD,rfl,_,rfl,f3,_,_,rfl,c3,_,rfl,_,rfl,N,p,ps,rfl,hp,hl,fun z H' s' hz=>k z H' s' hz⟩
theorem sc__law_low:FnScope ["_law_over", "_law_under", "_law_rest", "_law_by"] ["_law_over", "_law_under"] (zab zc8):=⟨rfl,rfl,rfl,by decide+kernel,rfl,by decide+kernel,by decide+kernel⟩
theorem zgm {f:Addr}{fd:FuncData}(F:Fun K "_law_low" "_law_low" zc8 f fd)(T:Top mg):FnOk P w K mg base CX0 1 f fd ["_law_over", "_law_under"] zcp:=by
 refine F.ok sc__law_low (fun vs H Q E h=> ?_) (fun cdv A outer s H vs Q E hr h=> ?_)
 ·obtain ⟨a,b,rfl,_⟩:=h
  rfl
 ·obtain ⟨a,b,rfl,hb,sb,k⟩:=h
  refine⟨_,(zad (zfe (i:=2) (j:=3) rfl sc__law_low.nd rfl rfl (by decide) rfl rfl (pa_cons (zao zew (by rfl) T.n_abs boot_abs (pa_cons (pv 0) pa_nil)) (pa_cons (pv 1) pa_nil)) rfl)
   (zad (zdj PassesOwn.never (zau zev (pv 2) pe_int (zar _))
    (zae (zfe (i:=3) (j:=2) rfl sc__law_low.nd rfl rfl (by decide) rfl rfl (pa_cons (pv 2) (pa_cons (zag zcG (pv 3) (pv 2)) pa_nil)) rfl)))
   (zae (zaf (zaC (pa_cons (zag zdp (pv 0) (pv 3)) (pa_cons (zag zdp (pv 1) (pv 3)) pa_nil))))))), ?_⟩
  refine⟨_,rfl,_,rfl,_,rfl,_,_,rfl, ?_⟩
  refine⟨fun m σ G=>∃x y:Int,m=x.toNat/\σ=[some (.int a),some (.int b),some (.int x),some (.int y)]/\G=H/\0<=x/\0<y/\gcdZ x y=gcdZ a b,⟨_,_,b,rfl,rfl,rfl,by split<;>(first|lia|omega),hb,zjo a b⟩, ?_⟩
  rintro m σ G ⟨x,y,rfl,rfl,rfl,x0,y0,e⟩
  refine⟨_,rfl,_,_,rfl,rfl,_,rfl, ?_⟩
  refine ite2 (fun h=> ?_) (fun h=> ?_)
  ·have hx:=of_decide_eq_true h
   refine⟨fun σ' G'=>∃x' y':Int,x'<x/\σ'=[some (.int a),some (.int b),some (.int x'),some (.int y')]/\G'=G/\0<=x'/\0<y'/\gcdZ x' y'=gcdZ a b, ?_, ?_⟩
   ·rintro σ' G' ⟨x',y',h1,h2,h3,h4,h5⟩
    exact⟨_,by (first|lia|omega),x',y',rfl,h2,h3,h4,h5⟩
   ·refine ⟨_,rfl,_,rfl,_,rfl,_,_,rfl,rfl,hx,_,_,rfl, ?_⟩
    exact⟨_,_,Int.emod_lt_of_pos _ hx,rfl,rfl,Int.emod_nonneg _ (by (first|lia|omega)),hx,by rw[zdR,zfv hx,zdR];exact e⟩
  ·have hx:x=0:=by
    have:¬0<x:=fun z=>h (decide_eq_true z)
    (first|lia|omega)
   subst hx
   rw[zdR,zfw (Int.le_of_lt y0)] at e
   subst e
   have gs:Sm (gcdZ a b) 8000:=sb.le (by have:=ziA (a:=a) hb;(first|lia|omega))
   refine⟨_,rfl,_,rfl,_,_,rfl,rfl,⟨y0,gs⟩,_,rfl,_,rfl,_,_,rfl,rfl,⟨y0,gs⟩,by show 2<=sizeLine;decide,fun z hz=> ?_⟩
   exact k z _ (zac hz) zaa
end
noncomputable abbrev zcz:Stmt:=top 81
section
variable {P:Program}{w:World}{K:PySem.W.Frag}{mg:Str->Option Value}{base:Heap}
theorem sc__law_fall:FnScope ["_law_number_here", "_law_found", "_law_k"] ["_law_number_here"] (zab zcz):=⟨rfl,rfl,rfl,by decide+kernel,rfl,by decide+kernel,by decide+kernel⟩
theorem zfC {f:Addr}{fd:FuncData}(F:Fun K "_law_fall" "_law_fall" zcz f fd)(T:Top mg):FnOk P w K mg base CX0 1 f fd ["_law_number_here"] (spFc 300):=by
 refine F.ok sc__law_fall (fun vs H Q E h=> ?_) (fun cdv A outer s H vs Q E hr h=> ?_)
 ·obtain ⟨n,rfl,_⟩:=h
  rfl
 ·obtain ⟨n,rfl,hn,k⟩:=h
  refine⟨_,(zad (zak (i:=1) sc__law_fall.nd rfl (Or.inl rfl) pe_int)
   (zad (zbj PassesOwn.never rfl (zdz rfl T.n_range (pa_cons pe_int (pa_cons (zag zaB (pv 0) pe_int) pa_nil))) (zaq (i:=2) sc__law_fall.nd rfl (Or.inl rfl))
    (zae (zak (i:=1) sc__law_fall.nd rfl (Or.inl rfl) (zag zaN (pv 1) (pv 2)))))
   (zae (zaf (pv 1))))), ?_⟩
  refine⟨_,rfl,_,_,rfl,rfl,_,_,rfl,⟨by decide,by decide,by (first|lia|omega),by (first|lia|omega)⟩, ?_⟩
  rw[show ((n:Int)+1-2).toNat=n-1 by (first|lia|omega)]
  refine zbW (fun i σ G=>G=H/\∃c:Option V,σ=[some (.int n),some (.int (fcZ (i+1))),c]) ⟨rfl,none,rfl⟩ ?_ ?_
  ·rintro i σ G hi ⟨rfl,c,rfl⟩
   refine⟨_,rfl,_,rfl,_,_,rfl,rfl,.inr ⟨by (first|lia|omega),by (first|lia|omega)⟩,rfl,some (.int (2+(i:Int))), ?_⟩
   rw[show fcZ (i+1+1)=fcZ (i+1)*(2+(i:Int)) from by
    show fcZ (i+1)*(((i+1:Nat):Int)+1)=_
    rw[show (((i+1:Nat):Int)+1)=2+(i:Int) by (first|lia|omega)]]
   rfl
  ·rintro σ G ⟨rfl,c,rfl⟩
   refine⟨_,rfl, ?_⟩
   have e:fcZ (n-1+1)=fcZ n:=by
    cases n with
    |zero=>rfl
    |succ n=>rfl
   rw[e]
   exact k
end
noncomputable abbrev zbP:Stmt:=top 25
noncomputable abbrev zb7:Stmt:=top 28
noncomputable abbrev zb8:Stmt:=top 26
noncomputable abbrev zb9:Stmt:=top 27
noncomputable abbrev zbD:Stmt:=top 29
noncomputable abbrev zca:Stmt:=top 31
section
variable {P:Program}{w:World}{K:PySem.W.Frag}{mg:Str->Option Value}{base:Heap}
theorem zeh:FnScope ["many", "one", "other"] ["many", "one", "other"] (zab zbP):=⟨rfl,rfl,rfl,by decide+kernel,rfl,by decide+kernel,by decide+kernel⟩
theorem zei {f:Addr}{fd:FuncData}(F:Fun K "both_rounds" "both_rounds" zbP f fd)(Ctimes:Cal P w K mg base 3 "times" ["one", "other"] (spSh tmZ))(Cround_share:Cal P w K mg base 1 "round_share" ["many", "part"] (zcS fun N ps=>N-ps.getD 0 0)):FnOk P w K mg base CX0 4 f fd ["many", "one", "other"] (spBK "rounds"):=by
 refine F.ok zeh (fun vs H Q E h=> ?_) (fun cdv A outer s H vs Q E hr h=> ?_)
 ·obtain ⟨n,a,b,p,q,rfl,_⟩:=h
  rfl
 ·obtain ⟨n,a,b,p,q,rfl,hn,ha,hb,hp,hq,hne,k⟩:=h
  refine⟨_,(zae (zaf (pe_cal Ctimes (hr.mono (by decide)) rfl (pa_cons (pe_cal Cround_share (hr.mono (by decide)) rfl (pa_cons (pv 0) (pa_cons (pv 1) pa_nil))) (pa_cons (pe_cal Cround_share (hr.mono (by decide)) rfl (pa_cons (pv 0) (pa_cons (pv 2) pa_nil))) pa_nil))))), ?_⟩
  obtain⟨i,i1,_,(⟨_,rfl⟩|⟨h,_⟩)⟩:=zaI hp
  ·obtain ⟨j,j1,_,(⟨_,rfl⟩|⟨h,_⟩)⟩:=zaI hq
   ·refine ⟨_,rfl,_,rfl,_,a,_,rfl,ha,Nat.succ_pos _,fun z1 G1 s1 hz1=> ?_⟩
    refine⟨_,rfl,_,rfl,_,b,_,rfl,s1 _ _ hb,Nat.succ_pos _,fun z2 G2 s2 hz2=> ?_⟩
    refine⟨z1,z2,_,_,rfl,s2 _ _ hz1,hz2,shB1 (by show (0:Int)<(n:Int)-(i:Int);(first|lia|omega)) (by show (n:Int)-(i:Int)<=1000;(first|lia|omega)),shB1 (by show (0:Int)<(n:Int)-(j:Int);(first|lia|omega)) (by show (n:Int)-(j:Int)<=1000;(first|lia|omega)),fun z G s3 hz=>k z G ((s1.trans s2).trans s3) ?_⟩
    rw[show zcq "rounds" n [(i:Int)] [(j:Int)]=tmZ (1,(n:Int)-(i:Int)) (1,(n:Int)-(j:Int)) from by unfold zcq;rw[if_neg hne,if_pos rfl];rfl]
    exact hz
   ·exact absurd h (by decide)
  ·exact absurd h (by decide)
theorem zeU:FnScope ["many", "one", "other"] ["many", "one", "other"] (zab zb7):=⟨rfl,rfl,rfl,by decide+kernel,rfl,by decide+kernel,by decide+kernel⟩
theorem zeV {f:Addr}{fd:FuncData}(F:Fun K "both_highs" "both_highs" zb7 f fd)(Ctimes:Cal P w K mg base 3 "times" ["one", "other"] (spSh tmZ))(Chigh_share:Cal P w K mg base 1 "high_share" ["many", "part"] (zcS fun N ps=>ps.getD 0 0+1)):FnOk P w K mg base CX0 4 f fd ["many", "one", "other"] (spBK "highs"):=by
 refine F.ok zeU (fun vs H Q E h=> ?_) (fun cdv A outer s H vs Q E hr h=> ?_)
 ·obtain ⟨n,a,b,p,q,rfl,_⟩:=h
  rfl
 ·obtain ⟨n,a,b,p,q,rfl,hn,ha,hb,hp,hq,hne,k⟩:=h
  refine⟨_,(zae (zaf (pe_cal Ctimes (hr.mono (by decide)) rfl (pa_cons (pe_cal Chigh_share (hr.mono (by decide)) rfl (pa_cons (pv 0) (pa_cons (pv 1) pa_nil))) (pa_cons (pe_cal Chigh_share (hr.mono (by decide)) rfl (pa_cons (pv 0) (pa_cons (pv 2) pa_nil))) pa_nil))))), ?_⟩
  obtain⟨i,i1,_,(⟨_,rfl⟩|⟨h,_⟩)⟩:=zaI hp
  ·obtain ⟨j,j1,_,(⟨_,rfl⟩|⟨h,_⟩)⟩:=zaI hq
   ·refine ⟨_,rfl,_,rfl,_,a,_,rfl,ha,Nat.succ_pos _,fun z1 G1 s1 hz1=> ?_⟩
    refine⟨_,rfl,_,rfl,_,b,_,rfl,s1 _ _ hb,Nat.succ_pos _,fun z2 G2 s2 hz2=> ?_⟩
    refine⟨z1,z2,_,_,rfl,s2 _ _ hz1,hz2,shB1 (by show (0:Int)<(i:Int)+1;(first|lia|omega)) (by show (i:Int)+1<=1000;(first|lia|omega)),shB1 (by show (0:Int)<(j:Int)+1;(first|lia|omega)) (by show (j:Int)+1<=1000;(first|lia|omega)),fun z G s3 hz=>k z G ((s1.trans s2).trans s3) ?_⟩
    rw[show zcq "highs" n [(i:Int)] [(j:Int)]=tmZ (1,(i:Int)+1) (1,(j:Int)+1) from by unfold zcq;rw[if_neg hne];rfl]
    exact hz
   ·exact absurd h (by decide)
  ·exact absurd h (by decide)
theorem zeW:FnScope ["many", "one", "other"] ["many", "one", "other"] (zab zb8):=⟨rfl,rfl,rfl,by decide+kernel,rfl,by decide+kernel,by decide+kernel⟩
theorem zeX {f:Addr}{fd:FuncData}(F:Fun K "both_stays" "both_stays" zb8 f fd)(Cshare_of:Cal P w K mg base 2 "share_of" ["over", "under"] zcp):FnOk P w K mg base CX0 4 f fd ["many", "one", "other"] (spBK "stays"):=by
 refine F.ok zeW (fun vs H Q E h=> ?_) (fun cdv A outer s H vs Q E hr h=> ?_)
 ·obtain ⟨n,a,b,p,q,rfl,_⟩:=h
  rfl
 ·obtain ⟨n,a,b,p,q,rfl,hn,ha,hb,hp,hq,hne,k⟩:=h
  refine⟨_,(zae (zaf (pe_cal Cshare_of (hr.mono (by decide)) rfl (pa_cons pe_int (pa_cons (zag zaN (pv 0) (zag zaM (pv 0) pe_int)) pa_nil))))), ?_⟩
  obtain⟨i,i1,_,(⟨_,rfl⟩|⟨h,_⟩)⟩:=zaI hp
  ·obtain ⟨j,j1,_,(⟨_,rfl⟩|⟨h,_⟩)⟩:=zaI hq
   ·have hij:i≠j:=fun e=>hne (by rw[e])
    have h2:2<=n:=by (first|lia|omega)
    have hpos:0<(n:Int)*((n:Int)-1):=Int.mul_pos (by (first|lia|omega)) (by (first|lia|omega))
    have hle:(n:Int)*((n:Int)-1)<=60*60:=Int.mul_le_mul (by (first|lia|omega)) (by (first|lia|omega)) (by (first|lia|omega)) (by decide)
    refine⟨_,rfl,_,rfl,_,_,rfl,rfl,_,_,rfl,rfl,za6 (by (first|lia|omega)) (by (first|lia|omega)), ?_⟩
    refine⟨_,_,rfl,hpos,Sm.of (Nat.lt_of_le_of_lt (show ((n:Int)*((n:Int)-1)).natAbs<=3600 by (first|lia|omega)) (by decide+kernel)),fun z G s3 hz=>k z G s3 ?_⟩
    rw[show zcq "stays" n [(i:Int)] [(j:Int)]=lowZ 1 ((n:Int)*((n:Int)-1)) from by unfold zcq;rw[if_neg hne];rfl]
    exact hz
   ·exact absurd h (by decide)
  ·exact absurd h (by decide)
theorem zeY:FnScope ["many", "one", "other"] ["many", "one", "other"] (zab zb9):=⟨rfl,rfl,rfl,by decide+kernel,rfl,by decide+kernel,by decide+kernel⟩
theorem zeZ {f:Addr}{fd:FuncData}(F:Fun K "both_rises" "both_rises" zb9 f fd)(T:Top mg):FnOk P w K mg base CX0 4 f fd ["many", "one", "other"] (spBK "rises"):=by
 refine F.ok zeY (fun vs H Q E h=> ?_) (fun cdv A outer s H vs Q E hr h=> ?_)
 ·obtain ⟨n,a,b,p,q,rfl,_⟩:=h
  rfl
 ·obtain ⟨n,a,b,p,q,rfl,hn,ha,hb,hp,hq,hne,k⟩:=h
  refine⟨_,(zae (zaf (zcF (zau zcX (zao zew (by rfl) T.n_abs boot_abs (pa_cons (zag zaM (zaj zai (pv 1) pe_int (fun _ _=>rfl)) (zaj zai (pv 2) pe_int (fun _ _=>rfl))) pa_nil)) pe_int (zar _)) (zaC (pa_cons pe_int (pa_cons pe_int pa_nil))) (zaC (pa_cons pe_int (pa_cons pe_int pa_nil)))))), ?_⟩
  obtain⟨i,i1,_,(⟨_,rfl⟩|⟨h,_⟩)⟩:=zaI hp
  ·obtain ⟨j,j1,_,(⟨_,rfl⟩|⟨h,_⟩)⟩:=zaI hq
   ·have eb:zcq "rises" n [(i:Int)] [(j:Int)]=if ((i:Int)-(j:Int)).natAbs=1 then (1,6) else (1,4):=by unfold zcq;rw[if_neg hne];rfl
    rw[eb] at k
    refine⟨_,rfl,a,_,_,_,rfl,rfl,SqT.of ha,zah (j:=0) rfl,_,rfl,b,_,_,_,rfl,rfl,SqT.of hb,zah (j:=0) rfl,_,_,rfl,rfl,_,rfl, ?_⟩
    refine⟨rfl,_,rfl, ?_⟩
    rw[zbx]
    by_cases c:((i:Int)-(j:Int)).natAbs=1
    ·rw [if_pos c] at k
     rw[show ((if (i:Int)-(j:Int)<0 then-((i:Int)-(j:Int)) else (i:Int)-(j:Int))==1)=true from beq_iff_eq.mpr (by split<;>(first|lia|omega))]
     exact iteT ⟨by show 2<=sizeLine;decide,fun z hz=>k z _ (zac hz) zaa⟩
    ·rw [if_neg c] at k
     rw[show ((if (i:Int)-(j:Int)<0 then-((i:Int)-(j:Int)) else (i:Int)-(j:Int))==1)=false from beq_eq_false_iff_ne.mpr (by split<;>(first|lia|omega))]
     exact iteF ⟨by show 2<=sizeLine;decide,fun z hz=>k z _ (zac hz) zaa⟩
   ·exact absurd h (by decide)
  ·exact absurd h (by decide)
theorem zd4:FnScope ["many", "one", "other"] ["many", "one", "other"] (zab zbD):=⟨rfl,rfl,rfl,by decide+kernel,rfl,by decide+kernel,by decide+kernel⟩
theorem zd5 {f:Addr}{fd:FuncData}(F:Fun K "both_crossed" "both_crossed" zbD f fd):FnOk P w K mg base CX0 4 f fd ["many", "one", "other"] (spBK "crossed"):=by
 refine F.ok zd4 (fun vs H Q E h=> ?_) (fun cdv A outer s H vs Q E hr h=> ?_)
 ·obtain ⟨n,a,b,p,q,rfl,_⟩:=h
  rfl
 ·obtain ⟨n,a,b,p,q,rfl,hn,ha,hb,hp,hq,hne,k⟩:=h
  refine⟨_,(zad (zcs (PW.pt (zi0 (zau zcX (zaj zai (pv 1) pe_int (fun _ _=>rfl)) (zaj zai (pv 2) pe_int (fun _ _=>rfl)) (zar _)) (zgH (zau zcX (zaj zai (pv 1) pe_int (fun _ _=>rfl)) (zaj zai (pv 2) pe_int (fun _ _=>rfl)) (zar _)))))
    (zae (zaf (zaC (pa_cons pe_int (pa_cons pe_int pa_nil)))))
    zaV)
   (zad (zcs (PW.pt (zi0 (zau zcX (zaj zai (pv 1) pe_int (fun _ _=>rfl)) (zaj zai (pv 2) pe_int (fun _ _=>rfl)) (zar _)) (zgH (zau zcX (zaj zai (pv 1) pe_int (fun _ _=>rfl)) (zaj zai (pv 2) pe_int (fun _ _=>rfl)) (zar _)))))
    (zae (zaf (zaC (pa_cons pe_int (pa_cons pe_int pa_nil)))))
    zaV)
   (zae (zaf (zaC (pa_cons pe_int (pa_cons pe_int pa_nil))))))), ?_⟩
  obtain⟨i,i1,_,(⟨h,_⟩|⟨_,i',i2,i3,rfl⟩)⟩:=zaI hp
  ·exact absurd rfl h
  obtain⟨j,j1,_,(⟨h,_⟩|⟨_,j',j2,j3,rfl⟩)⟩:=zaI hq
  ·exact absurd rfl h
  have eb:zcq "crossed" n [(i:Int),(i':Int)] [(j:Int),(j':Int)]=if (i:Int)=j∨(i':Int)=j' then (1,3) else if (i:Int)=j'∨(i':Int)=j then (1,6) else (1,4):=by unfold zcq;rw[if_neg hne];rfl
  rw[eb] at k
  have beqT:∀{x y:Int},x=y->(x==y)=true:=fun h=>beq_iff_eq.mpr h
  have beqF:∀{x y:Int},¬x=y->(x==y)=false:=fun h=>beq_eq_false_iff_ne.mpr h
  have two:2<=sizeLine:=by decide
  refine⟨_,rfl,a,_,_,_,rfl,rfl,SqT.of ha,zah (j:=0) rfl,_,rfl,b,_,_,_,rfl,rfl,SqT.of hb,zah (j:=0) rfl,rfl,_,rfl, ?_⟩
  rw[zbx]
  by_cases c1:(i:Int)=j
  ·rw [if_pos (.inl c1)] at k
   rw[beqT c1]
   exact iteT (iteT ⟨two,fun z hz=>k z _ (zac hz) zaa⟩)
  rw[beqF c1]
  refine iteF ⟨_,rfl,a,_,_,_,rfl,rfl,SqT.of ha,zah (j:=1) rfl,_,rfl,b,_,_,_,rfl,rfl,SqT.of hb,zah (j:=1) rfl,rfl,_,rfl, ?_⟩
  rw[zbx]
  by_cases c2:(i':Int)=j'
  ·rw [if_pos (.inr c2)] at k
   rw[beqT c2]
   exact iteT ⟨two,fun z hz=>k z _ (zac hz) zaa⟩
  rw[beqF c2]
  rw[if_neg (fun h=>h.elim c1 c2)] at k
  refine iteF ?_
  refine⟨_,rfl,a,_,_,_,rfl,rfl,SqT.of ha,zah (j:=0) rfl,_,rfl,b,_,_,_,rfl,rfl,SqT.of hb,zah (j:=1) rfl,rfl,_,rfl, ?_⟩
  rw[zbx]
  by_cases c3:(i:Int)=j'
  ·rw [if_pos (.inl c3)] at k
   rw[beqT c3]
   exact iteT (iteT ⟨two,fun z hz=>k z _ (zac hz) zaa⟩)
  rw[beqF c3]
  refine iteF ⟨_,rfl,a,_,_,_,rfl,rfl,SqT.of ha,zah (j:=1) rfl,_,rfl,b,_,_,_,rfl,rfl,SqT.of hb,zah (j:=0) rfl,rfl,_,rfl, ?_⟩
  rw[zbx]
  by_cases c4:(i':Int)=j
  ·rw [if_pos (.inr c4)] at k
   rw[beqT c4]
   exact iteT ⟨two,fun z hz=>k z _ (zac hz) zaa⟩
  rw[beqF c4]
  rw[if_neg (fun h=>h.elim c3 c4)] at k
  exact iteF ⟨two,fun z hz=>k z _ (zac hz) zaa⟩
theorem sc_both_share:FnScope ["kind", "many", "one", "other", "sharer"] ["kind", "many", "one", "other"] (zab zca):=⟨rfl,rfl,rfl,by decide+kernel,rfl,by decide+kernel,by decide+kernel⟩
theorem ze0 {f C f1 f2 f3 f4 f5:Addr}{fd:FuncData}(F:Fun K "both_share" "both_share" zca f fd)(hC:mg "BOTH_SHARES" =some (.ref C))(GD:GDict K w.params C [("rounds",f1),("stays",f2),("rises",f3),("highs",f4),("crossed",f5)])
  (c1:CalF P w K mg base 4 f1 ["many", "one", "other"] (spBK "rounds")) (c2:CalF P w K mg base 4 f2 ["many", "one", "other"] (spBK "stays")) (c3:CalF P w K mg base 4 f3 ["many", "one", "other"] (spBK "rises")) (c4:CalF P w K mg base 4 f4 ["many", "one", "other"] (spBK "highs")) (c5:CalF P w K mg base 4 f5 ["many", "one", "other"] (spBK "crossed")) (Cone_share:Cal P w K mg base 2 "one_share" ["kind", "many", "part"] zg2):FnOk P w K mg base CX0 5 f fd ["kind", "many", "one", "other"] zgi:=by
 refine F.ok sc_both_share (fun vs H Q E h=> ?_) (fun cdv A outer s H vs Q E hr h=> ?_)
 ·obtain ⟨kd,n,a,b,p,q,rfl,_⟩:=h
  rfl
 ·obtain ⟨kd,n,a,b,p,q,rfl,hk,hn,ha,hb,hp,hq,k⟩:=h
  have hu:_:=hr.units
  refine⟨_,(zad (zcs (zau (zgO hu) (pv 2) (pv 3) (zar _))
    (zae (zaf (pe_cal Cone_share (hr.mono (by decide)) rfl (pa_cons (pv 0) (pa_cons (pv 1) (pa_cons (pv 2) pa_nil))))))
    zaV)
   (zad (zak (i:=4) sc_both_share.nd rfl (Or.inl rfl) (zaj zd9 (zbh (v:=.ref C) rfl hC rfl) (pv 0) (fun _ _=>rfl)))
   (zae (zaf (za8 (k:=4) (pv 4) hr (pa_cons (pv 1) (pa_cons (pv 2) (pa_cons (pv 3) pa_nil)))))))), ?_⟩
  refine⟨_,rfl,_,rfl,_,_,Is.ints ha,Is.ints hb,zaT p,zaT q, ?_⟩
  rw[show PyData.eqv (.tuple (p.map PyData.int)) (.tuple (q.map PyData.int))=decide (p=q) from zgQ p q]
  refine⟨_,rfl, ?_⟩
  by_cases e:p=q
  ·rw [decide_eq_true e]
   refine iteT ⟨_,rfl,_,rfl,_,rfl,kd,(n:Int),a,p,rfl,hk,ha,zet p hp,fun z H' s' hz=>k z H' s' ?_⟩
   rw[show zcq kd n p q=oneA kd n p from if_pos e]
   exact hz
  ·rw [decide_eq_false e]
   refine iteF ?_
   rcases zat hk with rfl|rfl|rfl|rfl|rfl
   ·exact⟨_,rfl,C,_,_,f1,rfl,rfl,GD,rfl,_,rfl,f1,_,_,rfl,c1,_,rfl,_,rfl,_,rfl,n,a,b,p,q,rfl,hn,ha,hb,hp,hq,e,k⟩
   ·exact⟨_,rfl,C,_,_,f2,rfl,rfl,GD,rfl,_,rfl,f2,_,_,rfl,c2,_,rfl,_,rfl,_,rfl,n,a,b,p,q,rfl,hn,ha,hb,hp,hq,e,k⟩
   ·exact⟨_,rfl,C,_,_,f3,rfl,rfl,GD,rfl,_,rfl,f3,_,_,rfl,c3,_,rfl,_,rfl,_,rfl,n,a,b,p,q,rfl,hn,ha,hb,hp,hq,e,k⟩
   ·exact⟨_,rfl,C,_,_,f4,rfl,rfl,GD,rfl,_,rfl,f4,_,_,rfl,c4,_,rfl,_,rfl,_,rfl,n,a,b,p,q,rfl,hn,ha,hb,hp,hq,e,k⟩
   ·exact⟨_,rfl,C,_,_,f5,rfl,rfl,GD,rfl,_,rfl,f5,_,_,rfl,c5,_,rfl,_,rfl,_,rfl,n,a,b,p,q,rfl,hn,ha,hb,hp,hq,e,k⟩
end
noncomputable abbrev zcA:Stmt:=top 46
noncomputable abbrev zcb:Stmt:=top 47
noncomputable abbrev zcc:Stmt:=top 48
section
variable {P:Program}{w:World}{K:PySem.W.Frag}{mg:Str->Option Value}{base:Heap}
theorem sc_round_from:FnScope ["order", "first", "numbers", "number"] ["order", "first"] (zab zcc):=⟨rfl,rfl,rfl,by decide+kernel,rfl,by decide+kernel,by decide+kernel⟩
theorem ze1 {f:Addr}{fd:FuncData}(F:Fun K "round_from" "round_from" zcc f fd)(T:Top mg):FnOk P w K mg base CX0 1 f fd ["order", "first"] zcv:=by
 refine F.ok sc_round_from (fun vs H Q E h=> ?_) (fun cdv A outer s H vs Q E hr h=> ?_)
 ·obtain ⟨a,ns,m,x,rfl,_⟩:=h
  rfl
 ·obtain ⟨a,ns,m,x,rfl,ha,ho,hm,h0,h1,k⟩:=h
  have ln:=ho.len
  refine⟨_,(zad (zak (i:=2) sc_round_from.nd rfl (Or.inl rfl) (pe_lst (pa_cons (pv 1) pa_nil)))
   (zad (zak (i:=3) sc_round_from.nd rfl (Or.inl rfl) (zaj zai (pv 0) (pv 1) (fun _ _=>rfl)))
   (zad (zdj PassesOwn.never (zau zi1 (pv 3) (pv 1) (zar _))
    (zad (zdv (zh1 PySem.F.plainAttrs_list PySem.F.slot_list_append PySem.F.type_list_append zbE (pv 2) (pa_cons (pv 3) pa_nil)))
    (zae (zak (i:=3) sc_round_from.nd rfl (Or.inl rfl) (zaj zai (pv 0) (pv 3) (fun _ _=>rfl))))))
   (zae (zaf (zam zap (by rfl) T.n_tuple boot_tuple (pa_cons (pv 2) pa_nil))))))), ?_⟩
  refine⟨_,rfl,by show 1<=sizeLine;decide,fun p hp=> ?_⟩
  have s1:=zac (o:=.lst [.int x]) hp
  refine⟨_,rfl,_,rfl,a,_,x,_,rfl,rfl,SqT.of (s1 _ _ ha),zaJ h0 (by (first|lia|omega)), ?_⟩
  refine⟨fun n σ H1=>∃j,n=m-j/\σ=[some (.ref a),some (.int x),some (.ref p),some (.int (itO ns x (j+1)))]/\Same H H1/\H1 p=some (.lst ((orbO ns x (j+1)).map V.int))/\(orbO ns x (j+1)).Nodup,⟨m,0,rfl,rfl,s1,zaa,by simp[orbO]⟩, ?_⟩
  rintro n σ H1 ⟨j,rfl,rfl,sm,hp1,nd⟩
  have bd:=zcL ho ⟨h0,h1⟩ nd
  refine⟨_,rfl,_,rfl,rfl,_,rfl,ite2 (fun hc=> ?_) (fun hc=> ?_)⟩
  ·have hne:itO ns x (j+1)≠x:=by simpa using hc
   have nd2:=zgS ho ⟨h0,h1⟩ nd hne
   have bd2:=zcL ho ⟨h0,h1⟩ nd2
   have hrg:=zdd ho ⟨h0,h1⟩ (j+1)
   refine⟨_,fun σ' H' h=>h, ?_⟩
   refine⟨_,rfl,.inl ⟨rfl,_,SqL.of hp1⟩,_,rfl,p,_,_,rfl,rfl,hp1,za9 (by rw[zal,zf2];(first|lia|omega)), ?_⟩
   have sm2:Same H (upd H1 p (.lst ((orbO ns x (j+1)).map V.int++[.int (itO ns x (j+1))]))):=zav sm hp
   refine⟨_,rfl,_,rfl,a,_,_,_,rfl,rfl,SqT.of (sm2 _ _ ha),zaJ hrg.1 (by (first|lia|omega)), ?_⟩
   refine⟨m-(j+1),by (first|lia|omega),j+1,rfl,rfl,sm2, ?_,nd2⟩
   rw[zaa,zgR ns x (j+1),List.map_append]
   rfl
  ·have he:itO ns x (j+1)=x:=by simpa using hc
   refine⟨_,rfl,p,_,rfl,.inl ⟨SqL.of hp1,fun l hl=> ?_⟩⟩
   have e:=zk6 ho ⟨h0,h1⟩ ⟨⟨j,rfl,he⟩,nd⟩
   refine k l _ (sm.trans (zac hl)) ?_
   rw[zaa,e]
theorem sc_rounds_met:FnScope ["order", "firsts", "rounds", "met", "first", "found", "number"] ["order", "firsts"] (zab zcb):=⟨rfl,rfl,rfl,by decide+kernel,rfl,by decide+kernel,by decide+kernel⟩
theorem ze2 {f:Addr}{fd:FuncData}(F:Fun K "rounds_met" "rounds_met" zcb f fd)(T:Top mg)(Cround_from:Cal P w K mg base 1 "round_from" ["order", "first"] zcv):FnOk P w K mg base CX0 2 f fd ["order", "firsts"] zcw:=by
 refine F.ok sc_rounds_met (fun vs H Q E h=> ?_) (fun cdv A outer s H vs Q E hr h=> ?_)
 ·obtain ⟨a,l,ns,fs,m,rfl,_⟩:=h
  rfl
 ·obtain ⟨a,l,ns,fs,m,rfl,ha,hl,ho,hm,hf,k⟩:=h
  have ln:=ho.len
  refine⟨_,(zad (zak (i:=2) sc_rounds_met.nd rfl (Or.inl rfl) (pe_lst pa_nil))
   (zad (zak (i:=3) sc_rounds_met.nd rfl (Or.inl rfl) (zag zkY (pe_lst (pa_cons zhf pa_nil)) (zao zas (by rfl) T.n_len PySem.boot_len (pa_cons (pv 0) pa_nil))))
   (zad (zbj PassesOwn.never rfl (zfU (pv 1)) (zaq (i:=4) sc_rounds_met.nd rfl (Or.inl rfl))
    (zae (zcs (zhO (zgG (zaj za4 (pv 3) (pv 4) (fun _ _=>rfl))))
     (zad (zak (i:=5) sc_rounds_met.nd rfl (Or.inl rfl) (pe_cal Cround_from (hr.mono (by decide)) rfl (pa_cons (pv 0) (pa_cons (pv 4) pa_nil))))
     (zad (zbj PassesOwn.never rfl (zbU (pv 5)) (zaq (i:=6) sc_rounds_met.nd rfl (Or.inl rfl))
      (zae (zdy zhf (zdx (pv 3) (pv 6) zbI))))
     (zae (zdv (zh1 PySem.F.plainAttrs_list PySem.F.slot_list_append PySem.F.type_list_append zbE (pv 2) (pa_cons (pv 5) pa_nil))))))
     zaV)))
   (zae (zaf (pv 2)))))), ?_⟩
  refine⟨Nat.zero_le _,fun p hp=> ?_⟩
  have s1:=zac (o:=.lst []) hp
  refine⟨by show 1<=sizeLine;decide,fun o1 ho1=> ?_⟩
  have s2:=zac (o:=.lst [.bl false]) ho1
  refine⟨_,rfl,a,_,rfl,.inr (SqT.of (s2 _ _ (s1 _ _ ha))),o1,_,_,rfl,rfl,zaa,by (first|lia|omega),by rw[zal];(first|lia|omega), ?_,fun q hq=> ?_⟩
  ·simp only[zal,Int.toNat_natCast,List.length_cons,List.length_nil]
   exact Nat.le_trans (by (first|lia|omega):(0+1)*ns.length<=1000) (by decide)
  have s3:=zac (o:=.lst (List.replicate ((ns.map V.int).length:Int).toNat [V.bl false]).flatten) hq
  have hq0:H q=none:=s1.free (s2.free hq)
  have hpq:p≠q:=fun z=>by
   subst z
   have:=s2 _ _ (zaa (H:=H) (a:=p) (o:=.lst []))
   rw[hq] at this
   cases this
  have hrep:(List.replicate ((ns.map V.int).length:Int).toNat [V.bl false]).flatten=(List.replicate m false).map V.bl:=by
   rw[zal,Int.toNat_natCast,zkf,ln,List.map_replicate]
  refine⟨_,rfl,l,rfl,⟨_,SqL.of (s3 _ _ (s2 _ _ (s1 _ _ hl)))⟩,zgJ (K:=K) (xs:=fs.map V.int) (fun i σ H2=>∃(zs:List Addr) (bs:List Bool) (c4 c5 c6:Option V),σ=[some (.ref a),some (.ref l),some (.ref p),some (.ref q),c4,c5,c6]/\Same H H2/\
   H2 p=some (.lst (zs.map V.ref))/\H2 q=some (.lst (bs.map V.bl))/\RowsAt H2 zs (zbs ns (fs.take i))/\MetO ns m (zbs ns (fs.take i))/\Bits bs m (zbs ns (fs.take i)).flatten) ?_ ?_ ?_ ?_⟩
  ·refine ⟨[],List.replicate m false,none,none,none,rfl,(s1.trans s2).trans s3, ?_,by rw[zaa,hrep],.nil,zf5,zlL m⟩
   rw[zan hpq]
   exact s2 _ _ zaa
  ·rintro i σ H2 _ ⟨zs,bs,c4,c5,c6,rfl,sm,_⟩
   exact SqL.of (sm _ _ hl)
  ·rintro i x σ H2 hx ⟨zs,bs,c4,c5,c6,rfl,sm,hp2,hq2,R,M,B⟩
   rw[List.getElem?_map] at hx
   obtain⟨n,hn,rfl⟩:∃n,fs[i]? =some n/\V.int n=x:=by
    cases e:fs[i]? with
    |none=>rw[e] at hx;cases hx
    |some n=>rw[e] at hx;exact⟨n,rfl,Option.some.inj hx⟩
   have hnr:=hf n (List.mem_of_getElem? hn)
   have htk:zbs ns (fs.take (i+1))=zcu ns (zbs ns (fs.take i)) n:=by
    rw[List.take_succ,hn]
    exact zii ns (fs.take i) n
   have M':=M.step ho hnr
   have lens:=M.lens ho
   have hbit:=B.bit n.toNat (by (first|lia|omega))
   rw[show ((n.toNat:Nat):Int)=n by (first|lia|omega)] at hbit
   have hat:atI (bs.map V.bl) n=some (.bl (decide (n∈(zbs ns (fs.take i)).flatten))):=by
    have:=zah (xs:=bs.map V.bl) (j:=n.toNat) (v:=.bl (decide (n∈(zbs ns (fs.take i)).flatten))) (by rw[List.getElem?_map,hbit];rfl)
    rwa [show ((n.toNat:Nat):Int)=n by (first|lia|omega)] at this
   refine⟨_,rfl,_,rfl,q,_,n,_,rfl,rfl,SqL.of hq2,hat,_,rfl,ite2 (fun hc=> ?_) (fun hc=> ?_)⟩
   ·have hnm:n∉(zbs ns (fs.take i)).flatten:=by simpa using hc
    have hst:zcu ns (zbs ns (fs.take i)) n=zbs ns (fs.take i)++[rowO ns n]:=by unfold zcu;rw[if_neg hnm]
    refine⟨_,rfl,_,rfl,a,ns,m,n,rfl,sm _ _ ha,ho,hm,hnr.1,hnr.2,fun r H3 s3' hr3=> ?_⟩
    have rl:=zf3 ho hnr
    refine⟨_,rfl,r,rfl,⟨_,SqT.of hr3⟩,zct (K:=K) (xs:=(rowO ns n).map V.int) (fun j σ H4=>∃(bs:List Bool) (c6:Option V),σ=[some (.ref a),some (.ref l),some (.ref p),some (.ref q),some (.int n),some (.ref r),c6]/\Same H H4/\
     H4 p=some (.lst (zs.map V.ref))/\H4 q=some (.lst (bs.map V.bl))/\RowsAt H4 zs (zbs ns (fs.take i))/\H4 r=some (.tup ((rowO ns n).map V.int))/\Bits bs m ((zbs ns (fs.take i)).flatten++(rowO ns n).take j)) ?_ ?_ ?_ ?_⟩
    ·exact⟨bs,c6,rfl,sm.trans s3',s3' _ _ hp2,s3' _ _ hq2,R.same s3',hr3,by rw[List.take_zero,List.append_nil];exact B⟩
    ·rintro j σ H4 _ ⟨bs,c6,rfl,_,_,_,_,hr4,_⟩
     exact SqT.of hr4
    ·rintro j y σ H4 hy ⟨bs,c6,rfl,sm4,hp4,hq4,R4,hr4,B4⟩
     rw[List.getElem?_map] at hy
     obtain⟨z,hz,rfl⟩:∃z,(rowO ns n)[j]? =some z/\V.int z=y:=by
      cases e:(rowO ns n)[j]? with
      |none=>rw[e] at hy;cases hy
      |some n=>rw[e] at hy;exact⟨n,rfl,Option.some.inj hy⟩
     have hzr:=zf4 ho hnr z (List.mem_of_getElem? hz)
     have hix:ixN (bs.map V.bl).length z=some z.toNat:=by
      unfold ixN
      rw[List.length_map,B4.len,if_pos hzr.1,if_pos (by (first|lia|omega))]
     refine⟨_,rfl,_,rfl,q,_,z,_,rfl,rfl,hq4,hix, ?_⟩
     have st:SameT H4 (upd H4 q (.lst ((bs.map V.bl).set z.toNat (.bl true)))):=zbY hq4
     refine⟨bs.set z.toNat true,_,rfl,zav sm4 hq0, ?_, ?_,R4.sameT st,st _ _ hr4, ?_⟩
     ·rw[zan hpq];exact hp4
     ·rw[zaa,List.map_set]
     ·rw [List.take_succ,hz]
      have:=B4.set hzr.1 hzr.2
      rwa [List.append_assoc] at this
    ·rintro σ H4 ⟨bs,c6,rfl,sm4,hp4,hq4,R4,hr4,B4⟩
     refine⟨_,rfl,.inl ⟨rfl,_,SqL.of hp4⟩,_,rfl,p,_,_,rfl,rfl,hp4,za9 (by rw[zgV,Paired.length R4];(first|lia|omega)), ?_⟩
     have st:SameT H4 (upd H4 p (.lst (zs.map V.ref++[.ref r]))):=zbY hp4
     refine⟨zs++[r],bs,_,_,_,rfl,zav sm4 hp,by rw[zaa,List.map_append];rfl,by rw[zan (Ne.symm hpq)];exact hq4, ?_, ?_, ?_⟩
     ·rw [htk,hst]
      exact Paired.snoc (R4.sameT st) (st _ _ hr4)
     ·rw[htk];exact M'
     ·rw [htk,hst]
      rw[zal,List.take_length] at B4
      simpa using B4
   ·have hnm:n∈(zbs ns (fs.take i)).flatten:=by simpa using hc
    have hst:zcu ns (zbs ns (fs.take i)) n=zbs ns (fs.take i):=by unfold zcu;rw[if_pos hnm]
    exact⟨zs,bs,_,_,_,rfl,sm,hp2,hq2,by rw[htk,hst];exact R,by rw[htk,hst];exact M,by rw[htk,hst];exact B⟩
  ·rintro σ H2 ⟨zs,bs,c4,c5,c6,rfl,sm,hp2,hq2,R,M,B⟩
   rw[zal,List.take_length] at R
   exact⟨_,rfl,k p zs H2 sm hp2 R⟩
theorem zfD:FnScope ["order"] ["order"] (zab zcA):=⟨rfl,rfl,rfl,by decide+kernel,rfl,by decide+kernel,by decide+kernel⟩
theorem zfE {f:Addr}{fd:FuncData}(F:Fun K "rounds_of" "rounds_of" zcA f fd)(T:Top mg)(Crounds_met:Cal P w K mg base 2 "rounds_met" ["order", "firsts"] zcw):FnOk P w K mg base CX0 3 f fd ["order"] zeC:=by
 refine F.ok zfD (fun vs H Q E h=> ?_) (fun cdv A outer s H vs Q E hr h=> ?_)
 ·obtain ⟨a,ns,m,rfl,_⟩:=h
  rfl
 ·obtain ⟨a,ns,m,rfl,ha,ho,hm,k⟩:=h
  have ln:=ho.len
  refine⟨_,(zae (zaf (zam zap (by rfl) T.n_tuple boot_tuple (pa_cons (pe_cal Crounds_met (hr.mono (by decide)) rfl (pa_cons (pv 0) (pa_cons (zam (zbK rfl) (by rfl) T.n_list boot_list (pa_cons (zam zbJ (by rfl) T.n_range boot_range (pa_cons (zao zas (by rfl) T.n_len PySem.boot_len (pa_cons (pv 0) pa_nil)) pa_nil)) pa_nil)) pa_nil))) pa_nil)))), ?_⟩
  refine⟨_,rfl,_,rfl,a,_,rfl,.inr (SqT.of ha),_,rfl,fun r hr'=>⟨r,_,rfl,zaa,by (first|lia|omega),by rw[zal];(first|lia|omega),fun l hl=> ?_⟩⟩
  have s2:=(zac (o:=.rng 0 ((ns.map V.int).length:Int)) hr').trans (zac (o:=.lst (zaP 0 ((ns.map V.int).length:Int).toNat)) hl)
  refine⟨a,l,ns,num0 ns.length,m,rfl,s2 _ _ ha,by rw[zaa,zal,Int.toNat_natCast,zaw],ho,hm,by rw[ln];exact fun f hf=>zaX hf,fun p zs H' s' hp R=> ?_⟩
  refine⟨p,_,rfl,.inl ⟨SqL.of hp,fun t ht=> ?_⟩⟩
  exact k t zs _ ((s2.trans s').trans (zac ht)) zaa (R.same (zac ht))
end
end K85
namespace L2
open PySem PySem.Spec PyProof.Rows
noncomputable def zbT (f:List Int->Int):Sp:=fun vs H Q _=>∃(a:Addr) (ns:List Int) (m:Nat),vs=[.ref a]/\H a=some (.tup (ns.map V.int))/\Ord m ns/\m<=60/\∀H',Same H H'->Q (.int (f ns)) H'
theorem zjW {left:List Int}{k:Nat}(hk:k<=left.length):cutV (left.map V.int) none (some (k:Int))=(left.take k).map V.int:=by
 unfold cutV
 rw[HT.sIx_none,HT.sIx_nat,zal,Nat.min_eq_left hk,List.drop_zero,Nat.sub_zero,List.map_take]
theorem zjD (ns:List Int):cutV (ns.map V.int) (some 1) none=(ns.drop 1).map V.int:=by
 unfold cutV
 rw[show (1:Int)=((1:Nat):Int) from rfl,HT.sIx_nat,HT.sIx_none,zal]
 cases ns with
 |nil=>rfl
 |cons x t=>
  rw[Nat.min_eq_left (by simp),List.map_drop,List.take_of_length_le (by simp)]
theorem zg8 (ns:List Int):∀(k:Nat) (t:List Int),(∀(j:Nat),t[j]? =ns[k+j]?)->en2 (fun i _=>(ns.take i).map V.int) qC (.int 1) k (t.map V.int)=
  (List.replicate ((List.range t.length).map fun j=>((ns.take (k+j)).filter fun a=>decide (t.getD j 0<a)).length).sum (1:Int)).map V.int
 |_,[],_=>rfl
 | k,x::t,h=>by
  show (((ns.take k).map V.int).filter _).map _++en2 _ _ _ (k+1) (t.map V.int)=_
  rw[zg8 ns (k+1) t fun j=>by have:=h (j+1);rw[show k+(j+1)=k+1+j by (first|lia|omega)] at this;simpa using this]
  rw[List.length_cons,List.range_succ_eq_map,List.map_cons,List.sum_cons,List.map_map]
  have e:(List.range t.length).map ((fun j=>((ns.take (k+j)).filter fun a=>decide ((x::t).getD j 0<a)).length)∘Nat.succ)=(List.range t.length).map fun j=>((ns.take (k+1+j)).filter fun a=>decide (t.getD j 0<a)).length:=by
   apply List.map_congr_left
   intro j _
   show ((ns.take (k+(j+1))).filter fun a=>decide ((x::t).getD (j+1) 0<a)).length=_
   rw[show k+(j+1)=k+1+j by (first|lia|omega)]
   rfl
  rw[e,List.filter_map,List.map_map]
  have e2:∀l:List Int,l.map ((fun _=>V.int 1)∘V.int)=(List.replicate l.length (1:Int)).map V.int:=fun l=>by
   rw[List.map_replicate,List.eq_replicate_iff]
   exact⟨by simp,fun b hb=>by obtain⟨c,_,rfl⟩:=List.mem_map.mp hb;rfl⟩
  rw[e2,<-List.map_append,List.replicate_append_replicate]
  rfl
theorem zjE (n:Nat)(g:Nat->Nat):((((List.range n).map g).sum:Nat):Int)=sumR n fun k=>(g k:Int):=by
 induction n with
 |zero=>rfl
 |succ n ih=>
  rw[zba,<-ih,List.range_succ]
  simp
theorem zgn {m:Nat}{ns:List Int}(hl:ns.length=m)(hm:m<=60):∀n,n<=m->((List.range n).map fun j=>((ns.take (0+j)).filter fun a=>decide (ns.getD j 0<a)).length).sum<=n*60:=by
 intro n
 induction n with
 |zero=>intro _;simp
 | succ n ih=>
  intro hn
  have h1:=ih (by (first|lia|omega))
  have h2:((ns.take (0+n)).filter fun a=>decide (ns.getD n 0<a)).length<=60:=by
   refine Nat.le_trans (List.length_filter_le _ _) ?_
   rw[List.length_take]
   (first|lia|omega)
  rw[List.range_succ,List.map_append,List.sum_append]
  simp only[List.map_cons,List.map_nil,List.sum_cons,List.sum_nil,Nat.add_zero]
  (first|lia|omega)
end L2
namespace K85
open PySem PySem.Spec PyProof.Rows L2
noncomputable abbrev zcB:Stmt:=top 50
noncomputable abbrev zcl:Stmt:=top 51
noncomputable abbrev zcm:Stmt:=top 52
noncomputable abbrev zc9:Stmt:=top 53
noncomputable abbrev zbu:Stmt:=top 54
noncomputable abbrev zbv:Stmt:=top 55
section
variable {P:Program}{w:World}{K:PySem.W.Frag}{mg:Str->Option Value}{base:Heap}
theorem zfF:FnScope ["order"] ["order"] (zab zcB):=⟨rfl,rfl,rfl,by decide+kernel,rfl,by decide+kernel,by decide+kernel⟩
theorem zfG {f:Addr}{fd:FuncData}(F:Fun K "rounds_in" "rounds_in" zcB f fd)(T:Top mg)(Crounds_of:Cal P w K mg base 3 "rounds_of" ["order"] zeC):FnOk P w K mg base CX0 4 f fd ["order"] (zbT fun ns=>((zbn ns).length:Int)):=by
 refine F.ok zfF (fun vs H Q E h=> ?_) (fun cdv A outer s H vs Q E hr h=> ?_)
 ·obtain ⟨a,ns,m,rfl,_⟩:=h
  rfl
 ·obtain ⟨a,ns,m,rfl,ha,ho,hm,k⟩:=h
  refine⟨_,(zae (zaf (zao zas (by rfl) T.n_len PySem.boot_len (pa_cons (pe_cal Crounds_of (hr.mono (by decide)) rfl (pa_cons (pv 0) pa_nil)) pa_nil)))), ?_⟩
  refine⟨_,rfl,a,ns,m,rfl,ha,ho,by (first|lia|omega),fun p zs H' s' hp R=>⟨p,_,rfl,.inr (SqT.of hp), ?_⟩⟩
  rw[zgV,Paired.length R]
  exact k H' s'
theorem zgo:FnScope ["order"] ["order"] (zab zcl):=⟨rfl,rfl,rfl,by decide+kernel,rfl,by decide+kernel,by decide+kernel⟩
theorem zgp {f:Addr}{fd:FuncData}(F:Fun K "stays_in" "stays_in" zcl f fd)(T:Top mg):FnOk P w K mg base CX0 1 f fd ["order"] (zbT zdJ):=by
 refine F.ok zgo (fun vs H Q E h=> ?_) (fun cdv A outer s H vs Q E hr h=> ?_)
 ·obtain ⟨a,ns,m,rfl,_⟩:=h
  rfl
 ·obtain ⟨a,ns,m,rfl,ha,ho,hm,k⟩:=h
  have ln:=ho.len
  refine⟨_,(zae (zaf (zao (zbF rfl) (by rfl) T.n_sum boot_sum (pa_cons (zcI (N':=["place", "number"]) (n:=2) (ix:=[]) rfl (CompScope.of (sc:=zab zcl) (N:=["order"]) (by decide+kernel) rfl rfl) (zgM rfl T.n_enumerate (pa_cons (pv 0) pa_nil)) (fun _ _ _ _ _=>⟨(zez K (i:=0) (j:=1) rfl rfl (show (["place", "number"]:List Str).Nodup by decide+kernel) rfl rfl (Or.inl rfl) (Or.inl rfl) (Or.inr rfl) (Or.inr rfl)),(zdD (zau zcX (pv 1) (pv 0) (zar _))),pe_int⟩)) pa_nil)))), ?_⟩
  refine⟨_,rfl,a,rfl,⟨_,SqT.of ha⟩, ?_⟩
  refine zkh (xs:=ns.map V.int) (fun s'=>SqT.of (s' _ _ ha)) (by rw[zal];(first|lia|omega)) (qN fun i n=>decide (V.int n=V.int (i:Int))) (fun _ _=>.int 1) (fun i x hx H' s' Q' q=> ?_) (fun i x hx _ H' s' Q' q=> ?_) fun acc H' hacc s' hl=> ?_
  ·obtain ⟨n,_,rfl⟩:=List.mem_map.mp (List.mem_of_getElem? hx)
   exact⟨_,rfl,_,rfl,rfl,_,rfl,q⟩
  ·exact q
  ·rw [zgW fun i n=>decide (V.int n=V.int (i:Int))] at hl
   refine⟨acc,_,rfl,hl, ?_⟩
   rw[zdl,zdL]
   have e:(sumR ns.length fun k=>if decide (V.int (ns.getD k 0)=V.int ((0+k:Nat):Int))=true then 1 else 0)=zdJ ns:=zaU fun j _=>by
    rw[zcM,Nat.zero_add,zbx]
    by_cases h:atO ns (j:Int)=j
    ·rw[if_pos h,if_pos (by simpa using h)]
    ·rw[if_neg h,if_neg (by simpa using h)]
   rw[e]
   exact k H' s'
theorem zgq:FnScope ["order"] ["order"] (zab zcm):=⟨rfl,rfl,rfl,by decide+kernel,rfl,by decide+kernel,by decide+kernel⟩
theorem zgr {f:Addr}{fd:FuncData}(F:Fun K "rises_in" "rises_in" zcm f fd)(T:Top mg):FnOk P w K mg base CX0 1 f fd ["order"] (zbT zdK):=by
 refine F.ok zgq (fun vs H Q E h=> ?_) (fun cdv A outer s H vs Q E hr h=> ?_)
 ·obtain ⟨a,ns,m,rfl,_⟩:=h
  rfl
 ·obtain ⟨a,ns,m,rfl,ha,ho,hm,k⟩:=h
  have ln:=ho.len
  refine⟨_,(zae (zaf (zao (zbF rfl) (by rfl) T.n_sum boot_sum (pa_cons (zcI (N':=["number", "behind"]) (n:=2) (ix:=[]) rfl (CompScope.of (sc:=zab zcm) (N:=["order"]) (by decide+kernel) rfl rfl) (zj9 rfl T.n_zip (pa_cons (pv 0) (pa_cons (zdk zf9 (pv 0) (zcY pe_int) zdB) pa_nil))) (fun _ _ _ _ _=>⟨(zez K (i:=0) (j:=1) rfl rfl (show (["number", "behind"]:List Str).Nodup by decide+kernel) rfl rfl (Or.inl rfl) (Or.inl rfl) (Or.inr rfl) (Or.inr rfl)),(zdD (zau zff (pv 0) (pv 1) (zar _))),pe_int⟩)) pa_nil)))), ?_⟩
  refine⟨_,rfl,_,rfl,1,rfl,a,_,rfl,ha,fun b H1 s1 hb=>⟨a,b,rfl,⟨_,SqT.of (s1 _ _ ha)⟩,⟨_,SqT.of hb⟩, ?_⟩⟩
  rw[zjD] at hb
  refine zk9 (xs:=ns.map V.int) (ys:=(ns.drop 1).map V.int) (fun s'=>SqT.of (s' _ _ (s1 _ _ ha))) (fun s'=>SqT.of (s' _ _ hb)) (by rw[List.length_zip,zal];(first|lia|omega)) (qZ fun a b=>decide (a<b)) (fun _=>.int 1) (fun xy hxy H' s' Q' q=> ?_) (fun xy hxy _ H' s' Q' q=> ?_) fun acc H' hacc s' hl=> ?_
  ·obtain ⟨x,y⟩:=xy
   obtain⟨n,_,rfl⟩:=List.mem_map.mp (List.of_mem_zip hxy).1
   obtain⟨n',_,rfl⟩:=List.mem_map.mp (List.of_mem_zip hxy).2
   exact⟨_,rfl,_,rfl,_,_,rfl,rfl,_,rfl,q⟩
  ·exact q
  ·rw [zgX fun a b=>decide (a<b)] at hl
   refine⟨acc,_,rfl,hl, ?_⟩
   rw[zdl,zdL]
   have e:(sumR (ns.length-1) fun k=>if decide (ns.getD k 0<ns.getD (k+1) 0)=true then 1 else 0)=zdK ns:=zaU fun j _=>by
    rw[zcM,zcM]
    by_cases h:atO ns (j:Int)<atO ns ((j+1:Nat):Int)
    ·rw[if_pos h,if_pos (by simpa using h)]
    ·rw[if_neg h,if_neg (by simpa using h)]
   rw[e]
   exact k H' (s1.trans s')
theorem sc_highs_in:FnScope ["order", "highs", "highest", "number"] ["order"] (zab zc9):=⟨rfl,rfl,rfl,by decide+kernel,rfl,by decide+kernel,by decide+kernel⟩
theorem zgs {f:Addr}{fd:FuncData}(F:Fun K "highs_in" "highs_in" zc9 f fd):FnOk P w K mg base CX0 1 f fd ["order"] (zbT zep):=by
 refine F.ok sc_highs_in (fun vs H Q E h=> ?_) (fun cdv A outer s H vs Q E hr h=> ?_)
 ·obtain ⟨a,ns,m,rfl,_⟩:=h
  rfl
 ·obtain ⟨a,ns,m,rfl,ha,ho,hm,k⟩:=h
  have ln:=ho.len
  refine⟨_,(zad (zak (i:=1) sc_highs_in.nd rfl (Or.inl rfl) pe_int)
   (zad (zak (i:=2) sc_highs_in.nd rfl (Or.inl rfl) (pe_un zel pe_int))
   (zad (zbj PassesOwn.never rfl (zbU (pv 0)) (zaq (i:=3) sc_highs_in.nd rfl (Or.inl rfl))
    (zae (zcs (zau zev (pv 3) (pv 2) (zar _))
     (zad (zkP (i:=1) sc_highs_in.nd rfl (Or.inl rfl) pe_int zkQ)
     (zae (zak (i:=2) sc_highs_in.nd rfl (Or.inl rfl) (pv 3))))
     zaV)))
   (zae (zaf (pv 1)))))), ?_⟩
  refine⟨1,rfl, ?_⟩
  refine⟨_,rfl,a,rfl,⟨_,SqT.of ha⟩,zct (K:=K) (xs:=ns.map V.int) (fun i σ H2=>∃(h:Int) (c3:Option V),σ=[some (.ref a),some (.int (sumR i fun k=>if (ns.take (k+1)).all (fun a=>decide (a<=atO ns k)) then 1 else 0)),some (.int h),c3]/\H2=H/\(∀a∈ns.take i,a<=h)/\(h=-1∨h∈ns.take i)) ?_ ?_ ?_ ?_⟩
  ·exact⟨-1,none,rfl,rfl,by simp,.inl rfl⟩
  ·rintro i σ H2 _ ⟨h,c3,rfl,rfl,_⟩
   exact SqT.of ha
  ·rintro i x σ H2 hx ⟨h,c3,rfl,rfl,hle,hin⟩
   rw[List.getElem?_map] at hx
   obtain⟨n,hn,rfl⟩:∃n,ns[i]? =some n/\V.int n=x:=by
    cases e:ns[i]? with
    |none=>rw[e] at hx;cases hx
    |some n=>rw[e] at hx;exact⟨n,rfl,Option.some.inj hx⟩
   have hnr:=ho.rng n (List.mem_of_getElem? hn)
   have hat:atO ns (i:Int)=n:=by rw[<-zcM,List.getD_eq_getElem?_getD,hn];rfl
   have htk:ns.take (i+1)=ns.take i++[n]:=by rw[List.take_succ,hn];rfl
   have hnew:n∉ns.take i:=fun z=>by
    obtain⟨j,hj⟩:=List.getElem?_of_mem z
    rw[List.getElem?_take] at hj
    by_cases hji:j<i
    ·rw [if_pos hji] at hj
     obtain⟨l1,e1⟩:=List.getElem?_eq_some_iff.mp hn
     obtain⟨l2,e2⟩:=List.getElem?_eq_some_iff.mp hj
     have q1:=List.Nodup.idxOf_getElem ho.nodup i l1
     have q2:=List.Nodup.idxOf_getElem ho.nodup j l2
     rw[e1] at q1
     rw[e2] at q2
     (first|lia|omega)
    ·rw [if_neg hji] at hj
     cases hj
   refine⟨_,rfl,_,rfl,_,_,rfl,rfl,_,rfl,ite2 (fun hc=> ?_) (fun hc=> ?_)⟩
   ·have hgt:h<n:=by simpa using hc
    have e:(ns.take (i+1)).all (fun a=>decide (a<=atO ns i))=true:=by
     rw[hat,htk,List.all_eq_true]
     intro a ha'
     rcases List.mem_append.mp ha' with h1|h1
     ·have:=hle a h1
      simp
      (first|lia|omega)
     ·rw[List.mem_singleton.mp h1];simp
    refine⟨_,rfl,_,_,rfl,rfl, ?_⟩
    refine⟨_,rfl,n,some (.int n), ?_,rfl, ?_,.inr (by rw[htk];simp)⟩
    ·rw [zba,e]
     rfl
    ·intro a ha'
     rw[htk] at ha'
     rcases List.mem_append.mp ha' with h1|h1
     ·have:=hle a h1
      (first|lia|omega)
     ·rw[List.mem_singleton.mp h1];exact Int.le_refl _
   ·have hngt:n<=h:=by simpa using hc
    have hmem:h∈ns.take i:=by
     rcases hin with h1|h1
     ·(first|lia|omega)
     ·exact h1
    have hlt:n<h:=by
     have:n≠h:=fun z=>hnew (z▸hmem)
     (first|lia|omega)
    have e:(ns.take (i+1)).all (fun a=>decide (a<=atO ns i))=false:=by
     rw[hat,htk,List.all_eq_false]
     exact⟨h,List.mem_append_left _ hmem,by simp;(first|lia|omega)⟩
    refine⟨h,some (.int n), ?_,rfl, ?_,.inr (by rw[htk];exact List.mem_append_left _ hmem)⟩
    ·rw [zba,e]
     simp
    ·intro a ha'
     rw[htk] at ha'
     rcases List.mem_append.mp ha' with h1|h1
     ·exact hle a h1
     ·rw[List.mem_singleton.mp h1];exact hngt
  ·rintro σ H2 ⟨h,c3,rfl,rfl,_⟩
   rw[zal]
   exact⟨_,rfl,k _ (Same.refl _)⟩
theorem ze3:FnScope ["order"] ["order"] (zab zbu):=⟨rfl,rfl,rfl,by decide+kernel,rfl,by decide+kernel,by decide+kernel⟩
theorem ze4 {f:Addr}{fd:FuncData}(F:Fun K "crossed_in" "crossed_in" zbu f fd)(T:Top mg):FnOk P w K mg base CX0 1 f fd ["order"] (zbT zbL):=by
 refine F.ok ze3 (fun vs H Q E h=> ?_) (fun cdv A outer s H vs Q E hr h=> ?_)
 ·obtain ⟨a,ns,m,rfl,_⟩:=h
  rfl
 ·obtain ⟨a,ns,m,rfl,ha,ho,hm,k⟩:=h
  have ln:=ho.len
  refine⟨_,(zae (zaf (zao (zbF rfl) (by rfl) T.n_sum boot_sum (pa_cons (zjP (N':=["place", "number", "ahead", "order"]) (n:=3) (ix:=[0]) rfl (CompScope.of (sc:=zab zbu) (N:=["order"]) (by decide+kernel) rfl rfl) (zgM rfl T.n_enumerate (pa_cons (pv 0) pa_nil))
   (fun _ _ _ _ _=>⟨(zez K (i:=0) (j:=1) rfl rfl (show (["place", "number", "ahead", "order"]:List Str).Nodup by decide+kernel) rfl rfl (Or.inl rfl) (Or.inl rfl) (Or.inr rfl) (Or.inr rfl)),zaW,(zko K rfl (zdk zf9 (pv 3) zdB (zcY (pv 0)))),(zaq (i:=2) (show (["place", "number", "ahead", "order"]:List Str).Nodup by decide+kernel) rfl (Or.inl rfl)),(zdD (zau zev (pv 2) (pv 1) (zar _))),pe_int⟩)) pa_nil)))), ?_⟩
  refine⟨_,rfl,a,rfl,⟨_,SqT.of ha⟩, ?_⟩
  have hen:=zg8 ns 0 ns fun j=>by rw[Nat.zero_add]
  refine zji (xs:=ns.map V.int) (fun s'=>SqT.of (s' _ _ ha)) (fun i _=>(ns.take i).map V.int) qC (.int 1) ?_ (fun i x hx H' s' Rr q=> ?_) (fun i x hx y hy H' s' Q' q=> ?_) (fun i x hx y hy H' s' Q' q=> ?_) fun acc H' hacc s' hl=> ?_
  ·rw [hen,zal,List.length_replicate]
   refine Nat.lt_of_le_of_lt (zgn ln hm ns.length (by (first|lia|omega))) ?_
   rw[ln]
   exact Nat.lt_of_le_of_lt (Nat.mul_le_mul_right 60 hm) (by decide)
  ·have hi:i<ns.length:=by
    have:=(List.getElem?_eq_some_iff.mp hx).1
    rwa [zal] at this
   refine⟨_,rfl,_,rfl,_,rfl,a,_,rfl,s' _ _ ha,fun b G sG hb=>⟨b,rfl,⟨_,SqT.of hb⟩, ?_⟩⟩
   rw[zjW (by (first|lia|omega))] at hb
   exact q _ _ G sG (zci (K:=K) (a:=b) (xs:=(ns.take i).map V.int)) fun G' st _=>SqT.of (st _ _ hb)
  ·obtain ⟨n,_,rfl⟩:=List.mem_map.mp (List.mem_of_getElem? hx)
   obtain⟨n',_,rfl⟩:=List.mem_map.mp hy
   exact⟨_,rfl,_,rfl,_,_,rfl,rfl,_,rfl,q⟩
  ·exact q
  ·rw [hen] at hl
   refine⟨acc,_,rfl,hl, ?_⟩
   rw[zdl,zjE]
   have e:(sumR ns.length fun j=>(((ns.take (0+j)).filter fun a=>decide (ns.getD j 0<a)).length:Int))=zbL ns:=zaU fun j _=>by
    rw[zcM,Nat.zero_add]
   rw[e]
   exact k H' s'
theorem sc_longest_in:FnScope ["order", "lasts", "number", "at"] ["order"] (zab zbv):=⟨rfl,rfl,rfl,by decide+kernel,rfl,by decide+kernel,by decide+kernel⟩
theorem ze5 {f:Addr}{fd:FuncData}(F:Fun K "longest_in" "longest_in" zbv f fd)(T:Top mg):FnOk P w K mg base CX0 1 f fd ["order"] (zbT zdm):=by
 refine F.ok sc_longest_in (fun vs H Q E h=> ?_) (fun cdv A outer s H vs Q E hr h=> ?_)
 ·obtain ⟨a,ns,m,rfl,_⟩:=h
  rfl
 ·obtain ⟨a,ns,m,rfl,ha,ho,hm,k⟩:=h
  have ln:=ho.len
  refine⟨_,(zad (zak (i:=1) sc_longest_in.nd rfl (Or.inl rfl) (pe_lst pa_nil))
   (zad (zbj PassesOwn.never rfl (zbU (pv 0)) (zaq (i:=2) sc_longest_in.nd rfl (Or.inr rfl))
    (zad (zak (i:=3) sc_longest_in.nd rfl (Or.inl rfl) (zao (zbF rfl) (by rfl) T.n_sum boot_sum (pa_cons (zcI (N':=["last", "number"]) (n:=1) (ix:=[2]) rfl (CompScope.of (sc:=zab zbv) (N:=["order", "lasts", "number", "at"]) (by decide+kernel) rfl rfl) (zfU (pv 1)) (fun _ _ _ _ _=>⟨(zaq (i:=0) (show (["last", "number"]:List Str).Nodup by decide+kernel) rfl (Or.inl rfl)),(zdD (zau zff (pv 0) (pv 1) (zar _))),pe_int⟩)) pa_nil)))
    (zae (zcs (zau zcX (pv 3) (zao zas (by rfl) T.n_len PySem.boot_len (pa_cons (pv 1) pa_nil)) (zar _))
     (zae (zdv (zh1 PySem.F.plainAttrs_list PySem.F.slot_list_append PySem.F.type_list_append zbE (pv 1) (pa_cons (pv 2) pa_nil))))
     (zae (zdy (pv 2) (zdx (pv 1) (pv 3) zbI)))))))
   (zae (zaf (zao zas (by rfl) T.n_len PySem.boot_len (pa_cons (pv 1) pa_nil)))))), ?_⟩
  refine⟨Nat.zero_le _,fun l hl=> ?_⟩
  have s1:=zac (o:=.lst []) hl
  refine⟨_,rfl,a,rfl,⟨_,SqT.of (s1 _ _ ha)⟩,zct (K:=K) (xs:=ns.map V.int) (fun i σ H2=>∃c2 c3:Option V,σ=[some (.ref a),some (.ref l),c2,c3]/\Same H H2/\H2 l=some (.lst ((zbG (ns.take i)).map V.int))/\(zbG (ns.take i)).length<=i) ?_ ?_ ?_ ?_⟩
  ·exact⟨none,none,rfl,s1,zaa,Nat.le_refl _⟩
  ·rintro i σ H2 _ ⟨c2,c3,rfl,sm,_⟩
   exact SqT.of (sm _ _ ha)
  ·rintro i x σ H2 hx ⟨c2,c3,rfl,sm,hl2,hle⟩
   have hi:i<ns.length:=by
    have:=(List.getElem?_eq_some_iff.mp hx).1
    rwa [zal] at this
   rw[List.getElem?_map] at hx
   obtain⟨n,hn,rfl⟩:∃n,ns[i]? =some n/\V.int n=x:=by
    cases e:ns[i]? with
    |none=>rw[e] at hx;cases hx
    |some n=>rw[e] at hx;exact⟨n,rfl,Option.some.inj hx⟩
   have htk:zbG (ns.take (i+1))=patO (zbG (ns.take i)) n:=by
    rw[List.take_succ,hn]
    exact zil _ _
   have hpl:=zki (zbG (ns.take i)) n
   refine⟨_,rfl,l,rfl,⟨_,SqL.of hl2⟩, ?_⟩
   refine zfX (zfW (xs:=(zbG (ns.take i)).map V.int)) (za9 (by rw[zal];(first|lia|omega))) (fun v=>match v with| .int b=>decide (b<n)|_=>false) (fun _=>.int 1) (fun H' s'=>SqL.of (s' _ _ hl2)) (fun x hx H' s' Q' q=> ?_) (fun x hx _ H' s' Q' q=>by exact q) fun acc hacc=> ?_
   ·obtain ⟨b,_,rfl⟩:=List.mem_map.mp hx
    exact⟨_,rfl,_,rfl,_,_,rfl,rfl,_,rfl,q⟩
   ·have e1:(((zbG (ns.take i)).map V.int).filter fun v=>match v with| .int b=>decide (b<n)|_=>false).map (fun _=>V.int 1)=(List.replicate ((zbG (ns.take i)).countP fun b=>decide (b<n)) (1:Int)).map V.int:=by
     rw[List.map_replicate,List.eq_replicate_iff]
     refine⟨?_,fun b hb=>by obtain⟨c,_,rfl⟩:=List.mem_map.mp hb;rfl⟩
     rw[List.length_map,List.filter_map,List.length_map,List.countP_eq_length_filter]
     rfl
    refine⟨acc,_,rfl,by rw[zaa,e1], ?_⟩
    rw[zdl]
    have s2:=zac (o:=.lst ((((zbG (ns.take i)).map V.int).filter fun v=>match v with| .int b=>decide (b<n)|_=>false).map fun _=>V.int 1)) hacc
    have hl3:=s2 _ _ hl2
    refine⟨_,rfl,_,rfl,l,_,rfl,.inl (SqL.of hl3),rfl,_,rfl,ite2 (fun hc=> ?_) (fun hc=> ?_)⟩
    ·have hc':(zbG (ns.take i)).countP (fun b=>decide (b<n))=(zbG (ns.take i)).length:=by
      rw[zal,zbx] at hc
      have:=eq_of_beq hc
      (first|lia|omega)
     refine⟨_,rfl,.inl ⟨rfl,_,SqL.of hl3⟩,_,rfl,l,_,_,rfl,rfl,hl3,za9 (by rw[zal];(first|lia|omega)), ?_⟩
     refine⟨_,_,rfl,zav (sm.trans s2) hl, ?_,by rw[htk];(first|lia|omega)⟩
     rw[zaa,htk]
     unfold patO
     rw[if_pos hc',List.map_append]
     rfl
    ·have hc':¬(zbG (ns.take i)).countP (fun b=>decide (b<n))=(zbG (ns.take i)).length:=fun z=>hc (by rw[zal,zbx,z];simp)
     have hlt:(zbG (ns.take i)).countP (fun b=>decide (b<n))<(zbG (ns.take i)).length:=by
      have:=List.countP_le_length (p:=fun b=>decide (b<n)) (l:=zbG (ns.take i))
      (first|lia|omega)
     refine⟨_,rfl,_,rfl,_,rfl,l,_,_,_,rfl,rfl,hl3,zk5 (by (first|lia|omega)) (by (first|lia|omega)), ?_⟩
     refine⟨_,_,rfl,zav (sm.trans s2) hl, ?_,by rw[htk];(first|lia|omega)⟩
     rw[zaa,htk]
     unfold patO
     rw[if_neg hc',Int.toNat_natCast,List.map_set]
  ·rintro σ H2 ⟨c2,c3,rfl,sm,hl2,hle⟩
   rw[zal,List.take_length] at hl2
   refine⟨_,rfl,l,_,rfl,.inl (SqL.of hl2), ?_⟩
   rw[zal]
   exact k H2 sm
end
end K85
namespace L2
open PySem PySem.Spec PyProof.Rows
noncomputable def zg9:List Str:=["rounds", "stays", "rises", "highs", "crossed", "longest"]
noncomputable def ziN (kind:Str)(ns:List Int):Int:=
 if kind= "rounds" then ((zbn ns).length:Int) else if kind= "stays" then zdJ ns else if kind= "rises" then zdK ns else if kind= "highs" then zep ns else if kind= "crossed" then zbL ns else zdm ns
noncomputable def zgt:Sp:=fun vs H Q _=>∃(kind:Str) (a:Addr) (ns:List Int) (m:Nat),vs=[.str kind,.ref a]/\kind∈zg9/\H a=some (.tup (ns.map V.int))/\Ord m ns/\m<=60/\∀H',Same H H'->Q (.int (ziN kind ns)) H'
theorem zgu {kind:Str}(h:kind∈zg9):kind= "rounds" ∨kind= "stays" ∨kind= "rises" ∨kind= "highs" ∨kind= "crossed" ∨kind= "longest" :=by
 unfold zg9 at h
 simpa using h
end L2
namespace K85
open PySem PySem.Spec PyProof.Rows L2
noncomputable abbrev zgv:Stmt:=top 57
section
variable {P:Program}{w:World}{K:PySem.W.Frag}{mg:Str->Option Value}{base:Heap}
theorem sc_count:FnScope ["kind", "order", "counter"] ["kind", "order"] (zab zgv):=⟨rfl,rfl,rfl,by decide+kernel,rfl,by decide+kernel,by decide+kernel⟩
theorem zjF {f C f1 f2 f3 f4 f5 f6:Addr}{fd:FuncData}(F:Fun K "count" "count" zgv f fd)(hC:mg "COUNTERS" =some (.ref C))(GD:GDict K w.params C [("rounds",f1),("stays",f2),("rises",f3),("highs",f4),("crossed",f5),("longest",f6)])
  (c1:CalF P w K mg base 4 f1 ["order"] (zbT fun ns=>((zbn ns).length:Int))) (c2:CalF P w K mg base 4 f2 ["order"] (zbT zdJ)) (c3:CalF P w K mg base 4 f3 ["order"] (zbT zdK)) (c4:CalF P w K mg base 4 f4 ["order"] (zbT zep))
  (c5:CalF P w K mg base 4 f5 ["order"] (zbT zbL)) (c6:CalF P w K mg base 4 f6 ["order"] (zbT zdm)):FnOk P w K mg base CX0 5 f fd ["kind", "order"] zgt:=by
 refine F.ok sc_count (fun vs H Q E h=> ?_) (fun cdv A outer s H vs Q E hr h=> ?_)
 ·obtain ⟨kind,a,ns,m,rfl,_⟩:=h
  rfl
 ·obtain ⟨kind,a,ns,m,rfl,hk,ha,ho,hm,k⟩:=h
  refine⟨_,(zad (zak (i:=2) sc_count.nd rfl (Or.inl rfl) (zaj zd9 (zbh (v:=.ref C) rfl hC rfl) (pv 0) (fun _ _=>rfl)))
   (zae (zaf (za8 (k:=4) (pv 2) hr (pa_cons (pv 1) pa_nil))))), ?_⟩
  rcases zgu hk with rfl|rfl|rfl|rfl|rfl|rfl
  ·exact⟨_,rfl,C,_,_,f1,rfl,rfl,GD,rfl,_,rfl,f1,_,_,rfl,c1,_,rfl,a,ns,m,rfl,ha,ho,hm,fun H' s'=>k H' s'⟩
  ·exact⟨_,rfl,C,_,_,f2,rfl,rfl,GD,rfl,_,rfl,f2,_,_,rfl,c2,_,rfl,a,ns,m,rfl,ha,ho,hm,fun H' s'=>k H' s'⟩
  ·exact⟨_,rfl,C,_,_,f3,rfl,rfl,GD,rfl,_,rfl,f3,_,_,rfl,c3,_,rfl,a,ns,m,rfl,ha,ho,hm,fun H' s'=>k H' s'⟩
  ·exact⟨_,rfl,C,_,_,f4,rfl,rfl,GD,rfl,_,rfl,f4,_,_,rfl,c4,_,rfl,a,ns,m,rfl,ha,ho,hm,fun H' s'=>k H' s'⟩
  ·exact⟨_,rfl,C,_,_,f5,rfl,rfl,GD,rfl,_,rfl,f5,_,_,rfl,c5,_,rfl,a,ns,m,rfl,ha,ho,hm,fun H' s'=>k H' s'⟩
  ·exact⟨_,rfl,C,_,_,f6,rfl,rfl,GD,rfl,_,rfl,f6,_,_,rfl,c6,_,rfl,a,ns,m,rfl,ha,ho,hm,fun H' s'=>k H' s'⟩
end
end K85
namespace L2
open PySem PySem.Spec PyProof.Rows
noncomputable def hasO (kind:Str)(p:List Int)(ns:List Int):Bool:=
 if kind= "rounds" then (rowO ns (p.getD 0 0)).all fun y=>decide (y<=p.getD 0 0)
 else if kind= "stays" then decide (atO ns (p.getD 0 0)=p.getD 0 0)
 else if kind= "rises" then decide (atO ns (p.getD 0 0)<atO ns (p.getD 0 0+1))
 else if kind= "highs" then (ns.take ((p.getD 0 0).toNat+1)).all fun y=>decide (y<=atO ns (p.getD 0 0))
 else decide (atO ns (p.getD 1 0)<atO ns (p.getD 0 0))
structure PartN (kind:Str) (p:List Int) (m:Nat):Prop where
 l0:0<p.length
 r0:0<=p.getD 0 0/\p.getD 0 0<m
 ri:kind= "rises" ->p.getD 0 0+1<m
 l1:kind= "crossed" ->1<p.length/\0<=p.getD 1 0/\p.getD 1 0<m
noncomputable def ziO:Sp:=fun vs H Q _=>∃(kind:Str) (p a:Addr) (ps ns:List Int) (m:Nat),vs=[.str kind,.ref p,.ref a]/\kind∈zaO/\H p=some (.tup (ps.map V.int))/\H a=some (.tup (ns.map V.int))/\Ord m ns/\m<=60/\PartN kind ps m/\∀H',Same H H'->Q (.bl (hasO kind ps ns)) H'
noncomputable def zbr (kind:Str):Sp:=fun vs H Q _=>∃(p a:Addr) (ps ns:List Int) (m:Nat),vs=[.ref p,.ref a]/\H p=some (.tup (ps.map V.int))/\H a=some (.tup (ns.map V.int))/\Ord m ns/\m<=60/\PartN kind ps m/\∀H',Same H H'->Q (.bl (hasO kind ps ns)) H'
theorem ze6 {ns:List Int}{m:Nat}{x:Int}(h:Ord m ns)(hx:0<=x/\x<m):∃k,rowO ns x=orbO ns x (k+1)/\itO ns x (k+1)=x/\(orbO ns x (k+1)).Nodup:=by
 obtain⟨⟨k,e,hk⟩,nd⟩:=zdI h hx
 exact⟨k,e,hk,e▸nd⟩
theorem zlu {ns:List Int}{x:Int}{k:Nat}(nd:(orbO ns x (k+1)).Nodup){j:Nat}(h0:0<j)(hj:j<k+1):itO ns x j≠x:=fun e=>by
 have g1:(orbO ns x (k+1))[0]? =some (itO ns x 0):=zc1 (by (first|lia|omega))
 have g2:(orbO ns x (k+1))[j]? =some (itO ns x j):=zc1 hj
 rw[e] at g2
 obtain⟨l1,g1⟩:=List.getElem?_eq_some_iff.mp g1
 obtain⟨l2,g2⟩:=List.getElem?_eq_some_iff.mp g2
 have q1:=List.Nodup.idxOf_getElem nd 0 l1
 have q2:=List.Nodup.idxOf_getElem nd j l2
 rw[g1] at q1
 rw[g2] at q2
 have e0:itO ns x 0=x:=rfl
 rw[e0] at q1
 (first|lia|omega)
theorem zkx {ns:List Int}{k:Int}(h0:0<=k)(h1:k<=ns.length):cutV (ns.map V.int) none (some k)=(ns.take k.toNat).map V.int:=by
 obtain⟨j,rfl⟩:∃j:Nat,k=(j:Int):=⟨k.toNat,by (first|lia|omega)⟩
 rw[zjW (by (first|lia|omega)),Int.toNat_natCast]
end L2
namespace K85
open PySem PySem.Spec PyProof.Rows L2
noncomputable abbrev zaQ:Stmt:=top 12
noncomputable abbrev zd6:Stmt:=top 13
noncomputable abbrev zd7:Stmt:=top 14
noncomputable abbrev zcV:Stmt:=top 15
noncomputable abbrev zcd:Stmt:=top 16
noncomputable abbrev zky:Stmt:=top 18
section
variable {P:Program}{w:World}{K:PySem.W.Frag}{mg:Str->Option Value}{base:Heap}
theorem sc_is_round_greatest:FnScope ["part", "order", "number"] ["part", "order"] (zab zaQ):=⟨rfl,rfl,rfl,by decide+kernel,rfl,by decide+kernel,by decide+kernel⟩
set_option maxHeartbeats 8000000 in
theorem zcr {f:Addr}{fd:FuncData}(F:Fun K "is_round_greatest" "is_round_greatest" zaQ f fd):FnOk P w K mg base CX0 1 f fd ["part", "order"] (zbr "rounds"):=by
 refine F.ok sc_is_round_greatest (fun vs H Q E h=> ?_) (fun cdv A outer s H vs Q E hr h=> ?_)
 ·obtain ⟨p,a,ps,ns,m,rfl,_⟩:=h
  rfl
 ·obtain ⟨p,a,ps,ns,m,rfl,hp,ha,ho,hm,po,k⟩:=h
  refine⟨_,(zad (zak (i:=2) sc_is_round_greatest.nd rfl (Or.inl rfl) (zaj zai (pv 1) (zaj zai (pv 0) pe_int (fun _ _=>rfl)) (fun _ _=>rfl)))
   (zad (zdj PassesOwn.never (zau zff (pv 2) (zaj zai (pv 0) pe_int (fun _ _=>rfl)) (zar _))
    (zae (zak (i:=2) sc_is_round_greatest.nd rfl (Or.inl rfl) (zaj zai (pv 1) (pv 2) (fun _ _=>rfl)))))
   (zae (zaf (zbk zcX (pv 2) (zaj zai (pv 0) pe_int (fun _ _=>rfl)) (zar _)))))), ?_⟩
  have ln:=ho.len
  obtain⟨l0,⟨r0,r1⟩,ri,l1⟩:=po
  have hp0:atI (ps.map V.int) 0=some (.int (ps.getD 0 0)):=by
   have:=zaJ (ys:=ps) (i:=0) (by decide) (by (first|lia|omega))
   rwa [show (0:Int).toNat=0 from rfl] at this
  have hat:∀x:Int,0<=x->x<m->atI (ns.map V.int) x=some (.int (atO ns x)):=fun x h0 h1=>zaJ h0 (by (first|lia|omega))
  have e0:hasO "rounds" ps ns=(rowO ns (ps.getD 0 0)).all fun y=>decide (y<=ps.getD 0 0):=rfl
  generalize ps.getD 0 0=x at*
  obtain⟨q,er,hq,nd⟩:=ze6 ho ⟨r0,r1⟩
  refine⟨_,rfl,_,rfl,p,_,0,_,rfl,rfl,SqT.of hp,hp0,a,_,_,_,rfl,rfl,SqT.of ha,hat x r0 r1, ?_⟩
  refine⟨fun n σ G=>G=H/\∃j,n=q-j/\j<=q/\σ=[some (.ref p),some (.ref a),some (.int (itO ns x (j+1)))]/\∀i,i<=j->itO ns x i<=x,⟨q,rfl,0,rfl,Nat.zero_le _,rfl,fun i hi=>by rw[show i=0 by (first|lia|omega)];exact Int.le_refl _⟩, ?_⟩
  rintro n σ G ⟨rfl,j,rfl,hj,rfl,hall⟩
  refine⟨_,rfl,_,rfl,p,_,0,_,rfl,rfl,SqT.of hp,hp0,_,_,rfl,rfl,_,rfl, ?_⟩
  refine ite2 (fun hc=> ?_) (fun hc=> ?_)
  ·have hc':itO ns x (j+1)<x:=of_decide_eq_true hc
   have hjq:j<q:=by
    rcases Nat.lt_or_ge j q with h|h
    ·exact h
    ·rw [show j=q by (first|lia|omega),hq] at hc'
     (first|lia|omega)
   have hrg:=zdd ho ⟨r0,r1⟩ (j+1)
   refine⟨fun σ' G'=>G'=G/\σ'=[some (.ref p),some (.ref a),some (.int (itO ns x (j+2)))], ?_, ?_⟩
   ·rintro σ' G' ⟨rfl,rfl⟩
    exact⟨q-(j+1),by (first|lia|omega),rfl,j+1,rfl,by (first|lia|omega),rfl,fun i hi=>by
     by_cases e:i=j+1
     ·rw[e];(first|lia|omega)
     ·exact hall i (by (first|lia|omega))⟩
   ·exact⟨_,rfl,_,rfl,a,_,_,_,rfl,rfl,SqT.of ha,hat _ hrg.1 hrg.2,rfl,rfl⟩
  ·have hc':¬itO ns x (j+1)<x:=fun z=>hc (decide_eq_true z)
   refine⟨_,rfl,_,rfl,p,_,0,_,rfl,rfl,SqT.of hp,hp0,rfl, ?_⟩
   have e1:hasO "rounds" ps ns=decide (V.int (itO ns x (j+1))=V.int x):=by
    rw[e0,er]
    by_cases e:itO ns x (j+1)=x
    ·have hjq:j=q:=by
      rcases Nat.lt_or_ge j q with h|h
      ·exact absurd e (zlu nd (by (first|lia|omega)) (by (first|lia|omega)))
      ·(first|lia|omega)
     rw[decide_eq_true (by rw[e]),List.all_eq_true]
     intro y hy
     obtain⟨i,hi,rfl⟩:=mem_orb.mp hy
     exact decide_eq_true (hall i (by (first|lia|omega)))
    ·rw [decide_eq_false (fun z=>e (V.int.inj z)),List.all_eq_false]
     have hjq:j<q:=by
      rcases Nat.lt_or_ge j q with h|h
      ·exact h
      ·rw [show j=q by (first|lia|omega)] at e
       exact absurd hq e
     refine⟨itO ns x (j+1),mem_orb.mpr ⟨j+1,by (first|lia|omega),rfl⟩,fun z=> ?_⟩
     have:=of_decide_eq_true z
     (first|lia|omega)
   have kk:=k G (Same.refl G)
   rw[e1] at kk
   exact kk
theorem zhA:FnScope ["part", "order"] ["part", "order"] (zab zd6):=⟨rfl,rfl,rfl,by decide+kernel,rfl,by decide+kernel,by decide+kernel⟩
theorem zhB {f:Addr}{fd:FuncData}(F:Fun K "is_stay" "is_stay" zd6 f fd):FnOk P w K mg base CX0 1 f fd ["part", "order"] (zbr "stays"):=by
 refine F.ok zhA (fun vs H Q E h=> ?_) (fun cdv A outer s H vs Q E hr h=> ?_)
 ·obtain ⟨p,a,ps,ns,m,rfl,_⟩:=h
  rfl
 ·obtain ⟨p,a,ps,ns,m,rfl,hp,ha,ho,hm,po,k⟩:=h
  refine⟨_,(zae (zaf (zbk zcX (zaj zai (pv 1) (zaj zai (pv 0) pe_int (fun _ _=>rfl)) (fun _ _=>rfl)) (zaj zai (pv 0) pe_int (fun _ _=>rfl)) (zar _)))), ?_⟩
  have ln:=ho.len
  obtain⟨l0,⟨r0,r1⟩,ri,l1⟩:=po
  have hp0:atI (ps.map V.int) 0=some (.int (ps.getD 0 0)):=by
   have:=zaJ (ys:=ps) (i:=0) (by decide) (by (first|lia|omega))
   rwa [show (0:Int).toNat=0 from rfl] at this
  have hat:∀x:Int,0<=x->x<m->atI (ns.map V.int) x=some (.int (atO ns x)):=fun x h0 h1=>zaJ h0 (by (first|lia|omega))
  refine⟨_,rfl,_,rfl,p,_,0,_,rfl,rfl,SqT.of hp,hp0,a,_,_,_,rfl,rfl,SqT.of ha,hat _ r0 r1,_,rfl,p,_,0,_,rfl,rfl,SqT.of hp,hp0,rfl, ?_⟩
  have e1:hasO "stays" ps ns=decide (V.int (atO ns (ps.getD 0 0))=V.int (ps.getD 0 0)):=decide_eq_decide.mpr ⟨fun z=>by rw[z],fun z=>V.int.inj z⟩
  have kk:=k H (Same.refl H)
  rw[e1] at kk
  exact kk
theorem zhC:FnScope ["part", "order"] ["part", "order"] (zab zd7):=⟨rfl,rfl,rfl,by decide+kernel,rfl,by decide+kernel,by decide+kernel⟩
theorem zhD {f:Addr}{fd:FuncData}(F:Fun K "is_rise" "is_rise" zd7 f fd):FnOk P w K mg base CX0 1 f fd ["part", "order"] (zbr "rises"):=by
 refine F.ok zhC (fun vs H Q E h=> ?_) (fun cdv A outer s H vs Q E hr h=> ?_)
 ·obtain ⟨p,a,ps,ns,m,rfl,_⟩:=h
  rfl
 ·obtain ⟨p,a,ps,ns,m,rfl,hp,ha,ho,hm,po,k⟩:=h
  refine⟨_,(zae (zaf (zbk zff (zaj zai (pv 1) (zaj zai (pv 0) pe_int (fun _ _=>rfl)) (fun _ _=>rfl)) (zaj zai (pv 1) (zag zaB (zaj zai (pv 0) pe_int (fun _ _=>rfl)) pe_int) (fun _ _=>rfl)) (zar _)))), ?_⟩
  have ln:=ho.len
  obtain⟨l0,⟨r0,r1⟩,ri,l1⟩:=po
  have hp0:atI (ps.map V.int) 0=some (.int (ps.getD 0 0)):=by
   have:=zaJ (ys:=ps) (i:=0) (by decide) (by (first|lia|omega))
   rwa [show (0:Int).toNat=0 from rfl] at this
  have hat:∀x:Int,0<=x->x<m->atI (ns.map V.int) x=some (.int (atO ns x)):=fun x h0 h1=>zaJ h0 (by (first|lia|omega))
  have ri:=ri rfl
  refine⟨_,rfl,_,rfl,p,_,0,_,rfl,rfl,SqT.of hp,hp0,a,_,_,_,rfl,rfl,SqT.of ha,hat _ r0 r1,_,rfl,_,rfl,p,_,0,_,rfl,rfl,SqT.of hp,hp0,_,_,rfl,rfl,a,_,_,_,rfl,rfl,SqT.of ha,hat _ (by (first|lia|omega)) ri,_,_,rfl,rfl, ?_⟩
  exact k H (Same.refl H)
theorem ze7:FnScope ["part", "order"] ["part", "order"] (zab zcd):=⟨rfl,rfl,rfl,by decide+kernel,rfl,by decide+kernel,by decide+kernel⟩
theorem ze8 {f:Addr}{fd:FuncData}(F:Fun K "is_crossed" "is_crossed" zcd f fd):FnOk P w K mg base CX0 1 f fd ["part", "order"] (zbr "crossed"):=by
 refine F.ok ze7 (fun vs H Q E h=> ?_) (fun cdv A outer s H vs Q E hr h=> ?_)
 ·obtain ⟨p,a,ps,ns,m,rfl,_⟩:=h
  rfl
 ·obtain ⟨p,a,ps,ns,m,rfl,hp,ha,ho,hm,po,k⟩:=h
  refine⟨_,(zae (zaf (zbk zev (zaj zai (pv 1) (zaj zai (pv 0) pe_int (fun _ _=>rfl)) (fun _ _=>rfl)) (zaj zai (pv 1) (zaj zai (pv 0) pe_int (fun _ _=>rfl)) (fun _ _=>rfl)) (zar _)))), ?_⟩
  have ln:=ho.len
  obtain⟨l0,⟨r0,r1⟩,ri,l1⟩:=po
  have hp0:atI (ps.map V.int) 0=some (.int (ps.getD 0 0)):=by
   have:=zaJ (ys:=ps) (i:=0) (by decide) (by (first|lia|omega))
   rwa [show (0:Int).toNat=0 from rfl] at this
  have hat:∀x:Int,0<=x->x<m->atI (ns.map V.int) x=some (.int (atO ns x)):=fun x h0 h1=>zaJ h0 (by (first|lia|omega))
  obtain⟨l1,c0,c1⟩:=l1 rfl
  have hp1:atI (ps.map V.int) 1=some (.int (ps.getD 1 0)):=by
   have:=zaJ (ys:=ps) (i:=1) (by decide) (by (first|lia|omega))
   rwa [show (1:Int).toNat=1 from rfl] at this
  refine⟨_,rfl,_,rfl,p,_,0,_,rfl,rfl,SqT.of hp,hp0,a,_,_,_,rfl,rfl,SqT.of ha,hat _ r0 r1,_,rfl,_,rfl,p,_,1,_,rfl,rfl,SqT.of hp,hp1,a,_,_,_,rfl,rfl,SqT.of ha,hat _ c0 c1,_,_,rfl,rfl, ?_⟩
  exact k H (Same.refl H)
theorem zhE:FnScope ["part", "order"] ["part", "order"] (zab zcV):=⟨rfl,rfl,rfl,by decide+kernel,rfl,by decide+kernel,by decide+kernel⟩
set_option maxHeartbeats 8000000 in
theorem zhF {f:Addr}{fd:FuncData}(F:Fun K "is_high" "is_high" zcV f fd)(T:Top mg):FnOk P w K mg base CX0 1 f fd ["part", "order"] (zbr "highs"):=by
 refine F.ok zhE (fun vs H Q E h=> ?_) (fun cdv A outer s H vs Q E hr h=> ?_)
 ·obtain ⟨p,a,ps,ns,m,rfl,_⟩:=h
  rfl
 ·obtain ⟨p,a,ps,ns,m,rfl,hp,ha,ho,hm,po,k⟩:=h
  refine⟨_,(zae (zaf (zao (zjb rfl) (by rfl) T.n_all boot_all (pa_cons (zcI (N':=["number", "order", "part"]) (n:=1) (ix:=[1,0]) rfl (CompScope.of (sc:=zab zcV) (N:=["part", "order"]) (by decide+kernel) rfl rfl) (zbU (zdk zf9 (pv 1) zdB (zcY (zaj zai (pv 0) pe_int (fun _ _=>rfl))))) (fun _ _ _ _ _=>⟨(zaq (i:=0) (show (["number", "order", "part"]:List Str).Nodup by decide+kernel) rfl (Or.inl rfl)),zaW,(zbk zff (pv 0) (zaj (zeA K rfl) (pv 1) (zaj (zeA K rfl) (pv 2) pe_int (fun _ _=>rfl)) (fun _ _=>rfl)) (zar _))⟩)) pa_nil)))), ?_⟩
  have ln:=ho.len
  obtain⟨l0,⟨r0,r1⟩,ri,l1⟩:=po
  have hp0:atI (ps.map V.int) 0=some (.int (ps.getD 0 0)):=by
   have:=zaJ (ys:=ps) (i:=0) (by decide) (by (first|lia|omega))
   rwa [show (0:Int).toNat=0 from rfl] at this
  have hat:∀x:Int,0<=x->x<m->atI (ns.map V.int) x=some (.int (atO ns x)):=fun x h0 h1=>zaJ h0 (by (first|lia|omega))
  have e0:hasO "highs" ps ns=(ns.take ((ps.getD 0 0).toNat+1)).all fun y=>decide (y<=atO ns (ps.getD 0 0)):=rfl
  obtain⟨q,eq⟩:∃q:Nat,ps.getD 0 0=(q:Int):=⟨(ps.getD 0 0).toNat,by (first|lia|omega)⟩
  rw[eq] at hp0 r1 e0
  rw[Int.toNat_natCast] at e0
  have hq:q<ns.length:=by (first|lia|omega)
  refine⟨_,rfl,_,rfl,p,_,0,_,rfl,rfl,SqT.of hp,hp0,_,rfl,a,_,rfl,ha,fun b H1 s1 hb=>⟨b,rfl,⟨_,SqT.of hb⟩, ?_⟩⟩
  have hb2:H1 b=some (.tup ((ns.take q).map V.int)):=by
   rw[hb]
   congr 2
   exact (zkx (by (first|lia|omega)) (by (first|lia|omega))).trans (by rw[Int.toNat_natCast])
  have hatq:=hat (q:Int) (by (first|lia|omega)) (by (first|lia|omega))
  refine zfX (zci (xs:=(ns.take q).map V.int)) (za9 (by rw[zal,List.length_take];(first|lia|omega))) (fun _=>true) (fun v=>match v with| .int c=>.bl (decide (c<atO ns (q:Int)))|_=>.non) (fun H2 s2=>SqT.of (s2 _ _ hb2)) (fun y hy H2 s2 Q2 q2=>q2) (fun y hy _ H2 s2 Q2 q2=> ?_) fun acc hacc=> ?_
  ·obtain ⟨c,_,rfl⟩:=List.mem_map.mp hy
   have s12:=s1.trans s2
   exact⟨_,rfl,_,rfl,_,rfl,p,_,0,_,rfl,rfl,SqT.of (s12 _ _ hp),hp0,a,_,_,_,rfl,rfl,SqT.of (s12 _ _ ha),hatq,_,_,rfl,rfl,q2⟩
  ·have el:((((ns.take q).map V.int).filter fun _=>true).map fun v=>match v with| .int c=>V.bl (decide (c<atO ns (q:Int)))|_=>.non)=((ns.take q).map fun c=>decide (c<atO ns (q:Int))).map V.bl:=by
    rw[List.filter_eq_self.mpr (fun _ _=>rfl),List.map_map,List.map_map]
    rfl
   refine⟨acc,(ns.take q).map fun c=>decide (c<atO ns (q:Int)),rfl,by rw[zaa,el], ?_⟩
   have e1:hasO "highs" ps ns=((ns.take q).map fun c=>decide (c<atO ns (q:Int))).all id:=by
    rw[e0,List.all_map,List.take_succ,List.getElem?_eq_getElem hq,List.all_append]
    have eg:atO ns (q:Int)=ns[q]:=zie hq
    rw[eg]
    have nd:=ho.nodup
    have h2:(Option.toList (some ns[q])).all (fun y=>decide (y<=ns[q]))=true:=by simp
    rw[h2,Bool.and_true]
    apply Bool.eq_iff_iff.mpr
    rw[List.all_eq_true,List.all_eq_true]
    constructor
    ·intro h y hy
     have h1:=of_decide_eq_true (h y hy)
     refine decide_eq_true ?_
     have hne:y≠ns[q]:=fun e=>by
      obtain⟨i,hi,rfl⟩:=List.mem_iff_getElem.mp hy
      rw[List.getElem_take] at e
      have hi':i<q:=by rw[List.length_take] at hi;(first|lia|omega)
      have q1:=List.Nodup.idxOf_getElem nd i (by (first|lia|omega))
      have q2:=List.Nodup.idxOf_getElem nd q hq
      rw[e] at q1
      (first|lia|omega)
     (first|lia|omega)
    ·intro h y hy
     have h1:=of_decide_eq_true (h y hy)
     exact decide_eq_true (by (first|lia|omega))
   rw[e1] at k
   exact k _ (s1.trans (zac hacc))
theorem sc_has:FnScope ["kind", "part", "order", "having"] ["kind", "part", "order"] (zab zky):=⟨rfl,rfl,rfl,by decide+kernel,rfl,by decide+kernel,by decide+kernel⟩
theorem zlv {f C f1 f2 f3 f4 f5:Addr}{fd:FuncData}(F:Fun K "has" "has" zky f fd)(hC:mg "HAVING" =some (.ref C))(GD:GDict K w.params C [("rounds",f1),("stays",f2),("rises",f3),("highs",f4),("crossed",f5)])
  (c1:CalF P w K mg base 1 f1 ["part", "order"] (zbr "rounds")) (c2:CalF P w K mg base 1 f2 ["part", "order"] (zbr "stays")) (c3:CalF P w K mg base 1 f3 ["part", "order"] (zbr "rises")) (c4:CalF P w K mg base 1 f4 ["part", "order"] (zbr "highs")) (c5:CalF P w K mg base 1 f5 ["part", "order"] (zbr "crossed")):FnOk P w K mg base CX0 2 f fd ["kind", "part", "order"] ziO:=by
 refine F.ok sc_has (fun vs H Q E h=> ?_) (fun cdv A outer s H vs Q E hr h=> ?_)
 ·obtain ⟨kd,p,a,ps,ns,m,rfl,_⟩:=h
  rfl
 ·obtain ⟨kd,p,a,ps,ns,m,rfl,hk,hp,ha,ho,hm,po,k⟩:=h
  refine⟨_,(zad (zak (i:=3) sc_has.nd rfl (Or.inl rfl) (zaj zd9 (zbh (v:=.ref C) rfl hC rfl) (pv 0) (fun _ _=>rfl)))
   (zae (zaf (za8 (k:=1) (pv 3) hr (pa_cons (pv 1) (pa_cons (pv 2) pa_nil)))))), ?_⟩
  rcases zat hk with rfl|rfl|rfl|rfl|rfl
  ·exact⟨_,rfl,C,_,_,f1,rfl,rfl,GD,rfl,_,rfl,f1,_,_,rfl,c1,_,rfl,_,rfl,p,a,ps,ns,m,rfl,hp,ha,ho,hm,po,k⟩
  ·exact⟨_,rfl,C,_,_,f2,rfl,rfl,GD,rfl,_,rfl,f2,_,_,rfl,c2,_,rfl,_,rfl,p,a,ps,ns,m,rfl,hp,ha,ho,hm,po,k⟩
  ·exact⟨_,rfl,C,_,_,f3,rfl,rfl,GD,rfl,_,rfl,f3,_,_,rfl,c3,_,rfl,_,rfl,p,a,ps,ns,m,rfl,hp,ha,ho,hm,po,k⟩
  ·exact⟨_,rfl,C,_,_,f4,rfl,rfl,GD,rfl,_,rfl,f4,_,_,rfl,c4,_,rfl,_,rfl,p,a,ps,ns,m,rfl,hp,ha,ho,hm,po,k⟩
  ·exact⟨_,rfl,C,_,_,f5,rfl,rfl,GD,rfl,_,rfl,f5,_,_,rfl,c5,_,rfl,_,rfl,p,a,ps,ns,m,rfl,hp,ha,ho,hm,po,k⟩
end
end K85
namespace L2
open PySem PySem.Spec PyProof.Rows
theorem zdt (q:List Int->Bool):∀n,(((zbb n).filter q).length:Int)=sumR n fun k=>if q [(k:Int)] then 1 else 0
 |0=>rfl
 |n+1=>by
  have ih:=zdt q n
  rw[zba,<-ih]
  unfold zbb
  rw[zfu,List.map_append,List.filter_append,List.length_append]
  show ((_+(List.filter q [[(n:Int)]]).length:Nat):Int)=_
  rw[List.filter_cons]
  split
  ·simp
  ·simp
theorem ziP (lo:Int)(n:Nat):numF lo (n+1)=numF lo n++[lo+(n:Int)]:=by
 unfold numF
 rw[List.range_succ,List.map_append]
 rfl
theorem zhG (q:Int×Int->Bool){m k:Nat}(h:k<m):(((zdQ (m+1) (k:Int)).filter q).length:Int)=((zdQ m (k:Int)).filter q).length+(if q ((k:Int),(m:Int)) then 1 else 0):=by
 unfold zdQ
 rw[show (((m+1:Nat):Int)-((k:Int)+1)).toNat=(m-(k+1))+1 by (first|lia|omega),show ((m:Int)-((k:Int)+1)).toNat=m-(k+1) by (first|lia|omega),ziP,List.map_append,List.filter_append,List.length_append]
 show ((_+(List.filter q [((k:Int),(k:Int)+1+((m-(k+1):Nat):Int))]).length:Nat):Int)=_
 rw[show (k:Int)+1+((m-(k+1):Nat):Int)=(m:Int) by (first|lia|omega),List.filter_cons]
 split
 ·simp
 ·simp
theorem zha (q:Int×Int->Bool)(m:Nat):∀i,i<=m->(((prsZ (m+1) i).filter q).length:Int)=((prsZ m i).filter q).length+sumR i fun k=>if q ((k:Int),(m:Int)) then 1 else 0
 |0,_=>rfl
 |i+1,h=>by
  rw[zcQ,zcQ,List.filter_append,List.filter_append,List.length_append,List.length_append,zba]
  have ih:=zha q m i (by (first|lia|omega))
  have h1:=zhG q (m:=m) (k:=i) (by (first|lia|omega))
  (first|lia|omega)
theorem ziQ (m:Nat):zdQ (m+1) (m:Int)=[]:=by
 unfold zdQ
 rw[show (((m+1:Nat):Int)-((m:Int)+1)).toNat=0 by (first|lia|omega)]
 rfl
theorem ziR (q:Int×Int->Bool):∀m,(((prsZ m m).filter q).length:Int)=sumR m fun j=>sumR j fun k=>if q ((k:Int),(j:Int)) then 1 else 0
 |0=>rfl
 |m+1=>by
  rw[zba,zcQ,ziQ,List.append_nil,zha q m m (Nat.le_refl _),ziR q m]
theorem zhb (ns:List Int)(b:Int):∀j,j<=ns.length->(((ns.take j).filter fun a=>decide (b<a)).length:Int)=sumR j fun k=>if b<atO ns (k:Int) then 1 else 0
 |0,_=>by simp[sumR]
 |j+1,h=>by
  rw[zba,<-zhb ns b j (by (first|lia|omega)),List.take_succ,List.getElem?_eq_getElem (by (first|lia|omega)),List.filter_append,List.length_append,zie (by (first|lia|omega))]
  show ((_+(List.filter (fun a=>decide (b<a)) [ns[j]]).length:Nat):Int)=_
  rw[List.filter_cons]
  by_cases c:b<ns[j]
  ·rw[if_pos (decide_eq_true c),if_pos c];simp
  ·rw[if_neg (by simpa using c),if_neg c];simp
theorem zjX {ns:List Int}{m:Nat}{x:Int}(h:Ord m ns)(hx:0<=x/\x<m):∀n,itO ns x n∈rowO ns x:=by
 obtain⟨q,er,hq,nd⟩:=ze6 h hx
 intro n
 rw[er]
 induction n using Nat.strongRecOn with
 | ind n ih=>
  by_cases c:n<q+1
  ·exact mem_orb.mpr ⟨n,c,rfl⟩
  ·have e:itO ns x n=itO ns x (n-(q+1)):=by
    conv=>lhs;rw[show n=(q+1)+(n-(q+1)) by (first|lia|omega),zen,hq]
   rw[e]
   exact ih _ (by (first|lia|omega))
theorem zkz {ns:List Int}{m:Nat}{x k:Int}(h:Ord m ns)(hx:0<=x/\x<m)(hk:k∈rowO ns x):∀y,y∈rowO ns k↔y∈rowO ns x:=by
 have hkr:=zf4 h hx k hk
 obtain⟨q,er,hq,nd⟩:=ze6 h hx
 rw[er] at hk
 obtain⟨j,hj,rfl⟩:=mem_orb.mp hk
 intro y
 constructor
 ·intro hy
  obtain⟨q2,er2,_,_⟩:=ze6 h hkr
  rw[er2] at hy
  obtain⟨i,_,rfl⟩:=mem_orb.mp hy
  rw[<-zen]
  exact zjX h hx _
 ·intro hy
  rw[er] at hy
  obtain⟨i,_,rfl⟩:=mem_orb.mp hy
  have e:itO ns x i=itO ns (itO ns x j) ((q+1-j)+i):=by
   rw[<-zen,show j+(q+1-j+i)=(q+1)+i by (first|lia|omega),zen,hq]
  rw[e]
  exact zjX h hkr _
theorem zkA {r:List Int}(nd:r.Nodup)(hne:r≠[]):(r.filter fun k=>r.all fun y=>decide (y<=k)).length=1:=by
 obtain⟨M,hM,hall⟩:∃M∈r,∀y∈r,y<=M:=by
  clear nd
  induction r with
  |nil=>exact absurd rfl hne
  | cons a t ih=>
   cases t with
   |nil=>exact⟨a,by simp,by simp⟩
   |cons b t=>
    obtain⟨M,hM,hall⟩:=ih (by simp)
    by_cases c:a<=M
    ·exact⟨M,List.mem_cons_of_mem _ hM,fun y hy=>by
      rcases List.mem_cons.mp hy with rfl|hy
      ·exact c
      ·exact hall y hy⟩
    ·exact⟨a,by simp,fun y hy=>by
      rcases List.mem_cons.mp hy with rfl|hy
      ·exact Int.le_refl _
      ·have:=hall y hy;(first|lia|omega)⟩
 have e:(r.filter fun k=>r.all fun y=>decide (y<=k))=r.filter fun k=>decide (k=M):=by
  refine List.filter_congr fun k hk=> ?_
  by_cases c:k=M
  ·subst c
   rw[decide_eq_true rfl,List.all_eq_true]
   exact fun y hy=>decide_eq_true (hall y hy)
  ·rw [decide_eq_false c,List.all_eq_false]
   refine⟨M,hM,fun z=>c ?_⟩
   have:=of_decide_eq_true z
   have:=hall k hk
   (first|lia|omega)
 rw[e]
 have e2:(r.filter fun k=>decide (k=M)).length=r.count M:=by
  rw[List.count_eq_countP,List.countP_eq_length_filter]
  congr 1
 rw[e2]
 have c1:r.count M<=1:=List.nodup_iff_count.mp nd M
 have c2:=List.count_pos_iff.mpr hM
 (first|lia|omega)
theorem zhH {ns:List Int}{m:Nat}(h:Ord m ns):((num0 m).filter fun k=>(rowO ns k).all fun y=>decide (y<=k)).length=(zbn ns).length:=by
 have P:=zf6 h
 have M:MetO ns m (zbn ns):=by
  unfold zbn zbs
  rw[h.len]
  exact zeB h (num0 m) (fun f hf=>zaX hf) zf5
 rw[<-List.Perm.length_eq (P.filter _)]
 have key:∀rows:List (List Int),(∀r∈rows,∃f:Int,0<=f/\f<m/\r=rowO ns f)->(rows.flatten.filter fun k=>(rowO ns k).all fun y=>decide (y<=k)).length=rows.length:=by
  intro rows
  induction rows with
  |nil=>intro _;rfl
  | cons r t ih=>
   intro hr
   rw[List.flatten_cons,List.filter_append,List.length_append,ih (fun r hr'=>hr r (List.mem_cons_of_mem _ hr'))]
   obtain⟨f,f0,f1,rfl⟩:=hr r (by simp)
   have e:((rowO ns f).filter fun k=>(rowO ns k).all fun y=>decide (y<=k))=(rowO ns f).filter fun k=>(rowO ns f).all fun y=>decide (y<=k):=by
    refine List.filter_congr fun k hk=> ?_
    have hs:=zkz h ⟨f0,f1⟩ hk
    apply Bool.eq_iff_iff.mpr
    rw[List.all_eq_true,List.all_eq_true]
    exact⟨fun a y hy=>a y ((hs y).mpr hy),fun a y hy=>a y ((hs y).mp hy)⟩
   rw[e,zkA (zdI h ⟨f0,f1⟩).nd (fun z=>by have:=(zf3 h ⟨f0,f1⟩).1;rw[z] at this;simp at this),List.length_cons]
   (first|lia|omega)
 exact key _ M.row
theorem zhI {ns:List Int}{m:Nat}{kind:Str}(h:Ord m ns)(hk:kind∈zaO):(((zaz kind m).filter fun p=>hasO kind p ns).length:Int)=ziN kind ns:=by
 have ln:=h.len
 rcases zat hk with rfl|rfl|rfl|rfl|rfl
 ·show (((zbb m).filter fun p=>hasO "rounds" p ns).length:Int)=((zbn ns).length:Int)
  rw[<-zhH h]
  unfold zbb
  rw[List.filter_map,List.length_map]
  rfl
 ·show (((zbb m).filter fun p=>hasO "stays" p ns).length:Int)=zdJ ns
  rw[zdt]
  unfold zdJ
  rw[ln]
  refine zaU fun k _=> ?_
  show (if decide (atO ns (k:Int)=(k:Int))=true then (1:Int) else 0)=if atO ns (k:Int)=(k:Int) then 1 else 0
  simp
 ·show (((zbb (m-1)).filter fun p=>hasO "rises" p ns).length:Int)=zdK ns
  rw[zdt]
  unfold zdK
  rw[ln]
  refine zaU fun k _=> ?_
  show (if decide (atO ns (k:Int)<atO ns ((k:Int)+1))=true then (1:Int) else 0)=if atO ns (k:Int)<atO ns ((k+1:Nat):Int) then 1 else 0
  simp
 ·show (((zbb m).filter fun p=>hasO "highs" p ns).length:Int)=zep ns
  rw[zdt]
  unfold zep
  rw[ln]
  refine zaU fun k _=> ?_
  rfl
 ·show ((((prsZ m m).map rowP).filter fun p=>hasO "crossed" p ns).length:Int)=zbL ns
  rw[List.filter_map,List.length_map,ziR]
  unfold zbL
  rw[ln]
  refine zaU fun j hj=> ?_
  rw[zhb ns _ j (by (first|lia|omega))]
  refine zaU fun k _=> ?_
  show (if decide (atO ns (j:Int)<atO ns (k:Int))=true then (1:Int) else 0)=if atO ns (j:Int)<atO ns (k:Int) then 1 else 0
  simp
theorem ziS {kind:Str}{m:Nat}(hk:kind∈zaO):∀p∈zaz kind m,PartN kind p m:=by
 intro p hp
 rcases zat hk with rfl|rfl|rfl|rfl|rfl
 case inr.inr.inr.inr=>
  have hp:p∈(prsZ m m).map rowP:=hp
  obtain⟨kj,hkj,rfl⟩:=List.mem_map.mp hp
  unfold prsZ at hkj
  obtain⟨k,hk1,hkj⟩:=List.mem_flatMap.mp hkj
  unfold zdQ at hkj
  obtain⟨j,hj,rfl⟩:=List.mem_map.mp hkj
  unfold numF at hj
  obtain⟨i,hi,rfl⟩:=List.mem_map.mp hj
  have hk2:=zaX hk1
  have hi2:=List.mem_range.mp hi
  exact⟨by show 0<2;decide,⟨hk2.1,hk2.2⟩,fun z=>absurd z (by decide),fun _=>⟨by show 1<2;decide,by show 0<=k+1+(i:Int);(first|lia|omega),by show k+1+(i:Int)<m;(first|lia|omega)⟩⟩
 case inr.inr.inl=>
  have hp:p∈zbb (m-1):=hp
  unfold zbb at hp
  obtain⟨k,hk1,rfl⟩:=List.mem_map.mp hp
  have hk2:=zaX hk1
  exact⟨by show 0<1;decide,⟨hk2.1,by show k<m;(first|lia|omega)⟩,fun _=>by show k+1<m;(first|lia|omega),fun z=>absurd z (by decide)⟩
 all_goals
  have hp:p∈zbb m:=hp
  unfold zbb at hp
  obtain⟨k,hk1,rfl⟩:=List.mem_map.mp hp
  have hk2:=zaX hk1
  exact⟨by show 0<1;decide,⟨hk2.1,hk2.2⟩,fun z=>absurd z (by decide),fun z=>absurd z (by decide)⟩
noncomputable def ziT:Sp:=fun vs H Q _=>∃(p:Addr) (m:Nat),vs=[.ref p,.int m]/\m<=60/\Pot2 H p/\∀t ys H',H' t=some (.tup (ys.map V.int))->Ord m ys->Pot2 H' p->Keep p p H H'->Q (.ref t) H'
theorem Pot2.upd {H:Hp}{p a:Addr}{o:HO}(h:Pot2 H p)(e:a≠p):Pot2 (upd H a o) p:=by
 obtain⟨u,s,h1,h2⟩:=h
 exact⟨u,s,by rw[zan (Ne.symm e)];exact h1,h2⟩
theorem zce {p q a:Addr}{H H':Hp}{o:HO}(k:Keep p q H H')(e:H a=none):Keep p q H (upd H' a o):=fun b o' h h1 h2=>by
 have:b≠a:=fun z=>by rw[z,e] at h;cases h
 rw[zan this]
 exact k b o' h h1 h2
theorem zfH {ys:List Int}{k:Nat}(h:ys.Perm (num0 k))(i:Nat):(ys.take i++(k:Int)::ys.drop i).Perm (num0 (k+1)):=by
 have e:num0 (k+1)=num0 k++[(k:Int)]:=by
  unfold num0
  rw[List.range_succ,List.map_append]
  rfl
 rw[e]
 refine List.perm_middle.trans ?_
 rw[List.take_append_drop]
 refine (List.Perm.cons _ h).trans ?_
 exact (List.perm_append_singleton _ _).symm
theorem zgw (n:Nat):(num0 n).Nodup:=by
 unfold num0
 refine List.Pairwise.map _ (fun a b (h:a≠b)=> ?_) (List.nodup_range (n:=n))
 show (a:Int)≠(b:Int)
 (first|lia|omega)
end L2
namespace K85
open PySem PySem.Spec PyProof.Rows L2
noncomputable abbrev zcf:Stmt:=top 78
section
variable {P:Program}{w:World}{K:PySem.W.Frag}{mg:Str->Option Value}{base:Heap}
theorem sc__law_order:FnScope ["_law_pot_here", "_law_many", "_law_way", "_law_found", "_law_k", "_law_near", "_law_at", "_law_other", "_law_rounded", "_law_number_here"] ["_law_pot_here", "_law_many"] (zab zcf):=⟨rfl,rfl,rfl,by decide+kernel,rfl,by decide+kernel,by decide+kernel⟩
set_option maxHeartbeats 8000000 in
theorem ze9 {f:Addr}{fd:FuncData}(F:Fun K "_law_order" "_law_order" zcf f fd)(T:Top mg)(C_law_next:Cal P w K mg base 1 "_law_next" ["_law_pot_here", "_law_many"] zdN):FnOk P w K mg base CX0 2 f fd ["_law_pot_here", "_law_many"] ziT:=by
 refine F.ok sc__law_order (fun vs H Q E h=> ?_) (fun cdv A outer s H vs Q E hr h=> ?_)
 ·obtain ⟨p,m,rfl,_⟩:=h
  rfl
 ·obtain ⟨p,m,rfl,hm,hpot,k⟩:=h
  refine⟨_,(zad (zak (i:=2) sc__law_order.nd rfl (Or.inl rfl) (pe_cal C_law_next (hr.mono (by decide)) rfl (pa_cons (pv 0) (pa_cons pe_int pa_nil))))
   (zad (zak (i:=3) sc__law_order.nd rfl (Or.inl rfl) (pe_lst pa_nil))
   (zad (zbj PassesOwn.never rfl (zaA rfl T.n_range (pa_cons (pv 1) pa_nil)) (zaq (i:=4) sc__law_order.nd rfl (Or.inl rfl))
    (zae (zdv (zh1 PySem.F.plainAttrs_list PySem.F.slot_list_insert PySem.F.type_list_insert zia (pv 3) (pa_cons (pe_cal C_law_next (hr.mono (by decide)) rfl (pa_cons (pv 0) (pa_cons (zag zaB (pv 4) pe_int) pa_nil))) (pa_cons (pv 4) pa_nil))))))
   (zad (zcs (zau zcX (pv 2) pe_int (zar _))
    (zad (zak (i:=5) sc__law_order.nd rfl (Or.inl rfl) (zam (zbK rfl) (by rfl) T.n_list boot_list (pa_cons (zam zbJ (by rfl) T.n_range boot_range (pa_cons (pv 1) pa_nil)) pa_nil)))
    (zad (zbj PassesOwn.never rfl (zaA rfl T.n_range (pa_cons (zag zaN (pe_cal C_law_next (hr.mono (by decide)) rfl (pa_cons (pv 0) (pa_cons pe_int pa_nil))) (zam zdA (by rfl) T.n_int boot_int (pa_cons (zbk zev (pv 1) pe_int (zar _)) pa_nil))) pa_nil)) (zaq (i:=4) sc__law_order.nd rfl (Or.inl rfl))
     (zad (zfe (i:=6) (j:=7) rfl sc__law_order.nd rfl rfl (by decide) rfl rfl (pa_cons (pe_cal C_law_next (hr.mono (by decide)) rfl (pa_cons (pv 0) (pa_cons (pv 1) pa_nil))) (pa_cons (pe_cal C_law_next (hr.mono (by decide)) rfl (pa_cons (pv 0) (pa_cons (pv 1) pa_nil))) pa_nil)) rfl)
     (zae (zdy (zaC (pa_cons (zaj za4 (pv 5) (pv 7) (fun _ _=>rfl)) (pa_cons (zaj za4 (pv 5) (pv 6) (fun _ _=>rfl)) pa_nil))) (zhQ rfl (zch (zdx (pv 5) (pv 6) zbI) (zch (zdx (pv 5) (pv 7) zbI) zfT)))))))
    (zae (zaf (zam zap (by rfl) T.n_tuple boot_tuple (pa_cons (pv 5) pa_nil))))))
    zaV)
   (zad (zcs (zau zcX (pv 2) pe_int (zar _))
    (zae (zaf (zk2 zk3 (zam (zfr rfl) (by rfl) T.n_tuple boot_tuple (pa_cons (zam zbJ (by rfl) T.n_range boot_range (pa_cons (pv 1) pa_nil)) pa_nil)))))
    zaV)
   (zad (zcs (zau zcX (pv 2) pe_int (zar _))
    (zad (zak (i:=8) sc__law_order.nd rfl (Or.inl rfl) (zam (zbK rfl) (by rfl) T.n_list boot_list (pa_cons (zam zbJ (by rfl) T.n_range boot_range (pa_cons (pv 1) pa_nil)) pa_nil)))
    (zad (zbj PassesOwn.never rfl (zjg rfl T.n_enumerate (pa_cons (pv 3) pa_nil)) (zic (i:=6) (j:=9) rfl sc__law_order.nd rfl rfl (Or.inl rfl) (Or.inl rfl) (Or.inl rfl) (Or.inl rfl))
     (zae (zdy (zaj za4 (pv 3) (zag zcG (zag zaB (pv 6) pe_int) (pv 1)) (fun _ _=>rfl)) (zdx (pv 8) (pv 9) zbI))))
    (zae (zaf (zam zap (by rfl) T.n_tuple boot_tuple (pa_cons (pv 8) pa_nil))))))
    zaV)
   (zae (zaf (zam zap (by rfl) T.n_tuple boot_tuple (pa_cons (pv 3) pa_nil)))))))))), ?_⟩
  have fresh:∀{G:Hp} {l:Addr},Keep p p H G->l≠p->G l=none->H l=none:=fun {G l} kG hlp hl=>by
   cases e:H l with
   |none=>rfl
   |some o=>rw[kG l o e hlp hlp] at hl;cases hl
  refine⟨_,rfl,p,6,rfl,by decide,by decide,hpot,fun way H1 w0 w1 hp1 k1=> ?_⟩
  refine⟨Nat.zero_le _,fun l hl=> ?_⟩
  have hlp:=hp1.ne_new hl
  have hl0:H l=none:=fresh k1 hlp hl
  refine⟨_,rfl,(m:Int),rfl,by (first|lia|omega),by (first|lia|omega), ?_⟩
  rw[Int.toNat_natCast]
  refine zbW (fun i σ G=>∃(ys:List Int) (c4:Option V),σ=[some (.ref p),some (.int m),some (.int way),some (.ref l),c4,none,none,none,none,none]/\ys.Perm (num0 i)/\G l=some (.lst (ys.map V.int))/\Pot2 G p/\Keep p p H G) ⟨[],none,rfl,List.Perm.refl _,zaa,hp1.same (zac hl),k1.trans (zac hl).keep⟩ ?_ ?_
  ·rintro i σ G hi ⟨ys,c4,rfl,hys,hG,hpG,kG⟩
   have hlen:ys.length=i:=by rw[hys.length_eq,zb0]
   refine⟨_,rfl,.inl ⟨rfl,_,SqL.of hG⟩,_,rfl,_,rfl,_,_,rfl,rfl,p,_,rfl,by (first|lia|omega),by (first|lia|omega),hpG,fun d G1 d0 d1 hp2 k2=> ?_⟩
   have hG1:=k2 _ _ hG hlp hlp
   refine⟨_,rfl,l,_,d,_,rfl,rfl,hG1,d0,by rw[zal];(first|lia|omega),za9 (by rw[zal];(first|lia|omega)), ?_⟩
   refine⟨ys.take d.toNat++(i:Int)::ys.drop d.toNat,_,rfl,zfH hys _, ?_,hp2.upd hlp,zce (kG.trans k2) hl0⟩
   rw[zaa,List.map_append,List.map_cons,List.map_take,List.map_drop,Int.zero_add]
  ·rintro σ G ⟨row,c4,rfl,hrow,hG,hpG,kG⟩
   have hrl:row.length=m:=by rw[hrow.length_eq,zb0]
   have hat:∀{zs:List Int} {x:Int},zs.length=m->0<=x->x<m->atI (zs.map V.int) x=some (.int (zs.getD x.toNat 0)):=fun h h0 h1=>zaJ h0 (by (first|lia|omega))
   refine⟨_,rfl,rfl,_,rfl,ite2 (fun _=> ?_) (fun _=> ?_)⟩
   ·-- exchanges
    refine⟨_,rfl,_,rfl,fun r hr'=>⟨r,_,rfl,zaa,by (first|lia|omega),by (first|lia|omega),fun L hL=> ?_⟩⟩
    have s1:=zac (o:=.rng 0 (m:Int)) hr'
    have s2:=s1.trans (zac (o:=.lst (zaP 0 (m:Int).toNat)) hL)
    have hLp:=(hpG.same s1).ne_new hL
    have hL0:H L=none:=fresh (kG.trans s1.keep) hLp hL
    refine⟨_,rfl,p,3,rfl,by decide,by decide,hpG.same s2,fun d H2 h0 h1 hp2 k2=> ?_⟩
    refine⟨_,rfl,_,_,rfl,rfl,.inr ⟨_,rfl,_,_,rfl,rfl,.inl ⟨by (first|lia|omega),by (first|lia|omega)⟩, ?_⟩⟩
    have hj:∃n:Nat,d*(if decide ((0:Int)<m)=true then 1 else 0)=(n:Int)/\n<=3/\(0<n->0<m):=by
     by_cases hm0:0<m
     ·rw [if_pos (by simpa using hm0)]
      exact⟨d.toNat,by (first|lia|omega),by (first|lia|omega),fun _=>hm0⟩
     ·rw [if_neg (by simpa using hm0),Int.mul_zero]
      exact⟨0,rfl,by decide,fun h=>absurd h (by decide)⟩
    obtain⟨n,en,hn4,hn0⟩:=hj
    refine⟨_,rfl,by rw[en];(first|lia|omega),by rw[en];(first|lia|omega), ?_⟩
    rw[en]
    have hcur:H2 L=some (.lst ((num0 m).map V.int)):=by
     refine k2 _ _ ?_ hLp hLp
     rw[zaa,Int.toNat_natCast,zaw]
    refine zbW (n:=(n:Int).toNat) (fun i σ G3=>∃(zs:List Int) (c4 c6 c7:Option V),σ=[some (.ref p),some (.int m),some (.int way),some (.ref l),c4,some (.ref L),c6,c7,none,none]/\Ord m zs/\G3 L=some (.lst (zs.map V.int))/\Pot2 G3 p/\Keep p p H G3) ⟨num0 m,_,_,_,rfl,List.Perm.refl _,hcur,hp2,(kG.trans s2.keep).trans k2⟩ ?_ ?_
    ·rintro i σ G3 hi ⟨zs,c4,c6,c7,rfl,hz,hG3,hp3,k3⟩
     have hzl:=hz.len
     have hm0:0<m:=hn0 (by (first|lia|omega))
     refine⟨_,rfl,_,rfl,p,m,rfl,by (first|lia|omega),by (first|lia|omega),hp3,fun d1 H4 a0 a1 hh4 k4=>⟨_,rfl,_,rfl,p,m,rfl,by (first|lia|omega),by (first|lia|omega),hh4,fun d2 H5 b0 b1 hh5 k5=>⟨_,_,rfl, ?_⟩⟩⟩
     have hl5:H5 L=some (.lst (zs.map V.int)):=k5 _ _ (k4 _ _ hG3 hLp hLp) hLp hLp
     refine⟨_,rfl,_,rfl,L,_,_,_,rfl,rfl,SqL.of hl5,hat hzl b0 b1,_,rfl,_,rfl,L,_,_,_,rfl,rfl,SqL.of hl5,hat hzl a0 a1,by show 2<=sizeLine;decide,fun t ht=> ?_⟩
     have h1':=zac (o:=.tup [.int (zs.getD d2.toNat 0),.int (zs.getD d1.toNat 0)]) ht _ _ hl5
     have ht0:H t=none:=fresh ((k3.trans k4).trans k5) (hh5.ne_new ht) ht
     refine⟨t,_,rfl,SqT.of zaa,rfl,_,_,rfl,_,rfl,_,rfl,L,_,_,d1.toNat,rfl,rfl,h1',zkr a0 (by (first|lia|omega)),_,_,rfl,_,rfl,_,rfl,L,_,_,d2.toNat,rfl,rfl,zaa,by rw[List.length_set];exact zkr b0 (by (first|lia|omega)),rfl, ?_⟩
     exact⟨exO zs d1.toNat d2.toNat,_,_,_,rfl,zls hz (by (first|lia|omega)) (by (first|lia|omega)),by rw[zaa,zlr],((hh5.upd (hh5.ne_new ht)).upd hLp).upd hLp,zce (zce (zce ((k3.trans k4).trans k5) ht0) hL0) hL0⟩
    ·rintro σ G3 ⟨zs,c4,c6,c7,rfl,hz,hG3,hp3,k3⟩
     exact⟨_,rfl,L,_,rfl,.inl ⟨SqL.of hG3,fun t ht=>k t zs _ zaa hz (hp3.upd (hp3.ne_new ht)) (k3.trans (zac ht).keep)⟩⟩
   refine⟨_,rfl,rfl,_,rfl,ite2 (fun _=> ?_) (fun _=> ?_)⟩
   ·-- backwards
    refine⟨_,rfl,_,rfl,fun r hr'=>⟨r,_,rfl,zaa,by (first|lia|omega),by (first|lia|omega),fun L hL=> ?_⟩⟩
    have s1:=zac (o:=.rng 0 (m:Int)) hr'
    have s2:=s1.trans (zac (o:=.tup (zaP 0 (m:Int).toNat)) hL)
    refine⟨L,_,rfl,SqT.of zaa,fun t ht=> ?_⟩
    have s3:=s2.trans (zac (o:=.tup (zaP 0 (m:Int).toNat).reverse) ht)
    refine k t (num0 m).reverse _ ?_ (List.reverse_perm _) (hpG.same s3) (kG.trans s3.keep)
    rw[zaa,Int.toNat_natCast,zaw,List.map_reverse]
   refine⟨_,rfl,rfl,_,rfl,ite2 (fun _=> ?_) (fun _=> ?_)⟩
   ·-- one round
    refine⟨_,rfl,_,rfl,fun r hr'=>⟨r,_,rfl,zaa,by (first|lia|omega),by (first|lia|omega),fun L hL=> ?_⟩⟩
    have s1:=zac (o:=.rng 0 (m:Int)) hr'
    have s2:=s1.trans (zac (o:=.lst (zaP 0 (m:Int).toNat)) hL)
    have hLp:=(hpG.same s1).ne_new hL
    have hL0:H L=none:=fresh (kG.trans s1.keep) hLp hL
    have hne:L≠l:=fun e=>by rw[e,s1 _ _ hG] at hL;cases hL
    have hnd:row.Nodup:=hrow.nodup_iff.mpr (zgw m)
    refine⟨_,rfl,l,rfl,⟨_,SqL.of (s2 _ _ hG)⟩, ?_⟩
    refine zij (K:=K) (a:=l) (xs:=row.map V.int) (fun i σ G3=>∃(zs:List Int) (c6 c9:Option V),σ=[some (.ref p),some (.int m),some (.int way),some (.ref l),c4,none,c6,none,some (.ref L),c9]/\zs.length=m/\(∀(k:Nat) (a:Int),k<i->row[k]? =some a->∀b,row[(k+1)%m]? =some b->zs[a.toNat]? =some b)/\G3 L=some (.lst (zs.map V.int))/\G3 l=some (.lst (row.map V.int))/\Pot2 G3 p/\Keep p p H G3) ?_ ?_ ?_ ?_
    ·exact⟨num0 m,none,none,rfl,zb0 m,fun k a hk=>absurd hk (Nat.not_lt_zero _),by rw[zaa,Int.toNat_natCast,zaw],s2 _ _ hG,hpG.same s2,kG.trans s2.keep⟩
    ·rintro i σ G3 _ ⟨zs,c6,c9,rfl,_,_,_,h,_⟩
     exact SqL.of h
    ·rintro i y t σ G3 hi ⟨zs,c6,c9,rfl,hzl,hz,hl3,hlr3,hh3,k3⟩ ht
     rw[List.getElem?_map] at hi
     obtain⟨a,ga,rfl⟩:=Option.map_eq_some_iff.mp hi
     have hi':i<m:=by rw[<-hrl];exact (List.getElem?_eq_some_iff.mp ga).1
     have ham:=zaX (hrow.mem_iff.mp (List.mem_of_getElem? ga))
     have st:=zac (o:=.tup [.int (i:Int),.int a]) ht
     have ht0:H t=none:=fresh k3 (hh3.ne_new ht) ht
     have hm0:0<m:=by (first|lia|omega)
     have hmod:((i:Int)+1)%(m:Int)=(((i+1)%m:Nat):Int):=rfl
     have hlt:=Nat.mod_lt (i+1) hm0
     have gb:row[(i+1)%m]? =some (row.getD ((i+1)%m) 0):=by
      rw[List.getD_eq_getElem?_getD,List.getElem?_eq_getElem (by (first|lia|omega))]
      rfl
     have gb2:atI (row.map V.int) (((i:Int)+1)%(m:Int))=some (.int (row.getD ((i+1)%m) 0)):=by
      have:=hat (zs:=row) (x:=((i:Int)+1)%(m:Int)) hrl (by rw[hmod];(first|lia|omega)) (by rw[hmod];(first|lia|omega))
      rwa [hmod,Int.toNat_natCast] at this
     refine⟨t,_,rfl,SqT.of zaa,rfl,_,_,rfl,_,_,rfl,rfl, ?_⟩
     refine⟨_,rfl,_,rfl,_,_,rfl,rfl,_,rfl,_,_,rfl,rfl,by (first|lia|omega),l,_,_,_,rfl,rfl,SqL.of (st _ _ hlr3),gb2,_,rfl,_,rfl,L,_,_,_,rfl,rfl,st _ _ hl3,zkr ham.1 (by (first|lia|omega)), ?_⟩
     refine⟨zs.set a.toNat (row.getD ((i+1)%m) 0),_,_,rfl,by rw[List.length_set];exact hzl,fun k a' hk hka b' hb'=> ?_,by rw[zaa,List.map_set],by rw[zan (Ne.symm hne)];exact st _ _ hlr3,(hh3.same st).upd hLp,zce (k3.trans st.keep) hL0⟩
     by_cases hki:k=i
     ·subst hki
      rw[ga] at hka;cases hka
      rw[gb] at hb';cases hb'
      rw[List.getElem?_set_self (by (first|lia|omega))]
     ·have hna:a.toNat≠a'.toNat:=fun z=>by
       have ha':=zaX (hrow.mem_iff.mp (List.mem_of_getElem? hka))
       have:a=a':=by (first|lia|omega)
       subst this
       obtain⟨u1,u2⟩:=List.getElem?_eq_some_iff.mp ga
       obtain⟨v1,v2⟩:=List.getElem?_eq_some_iff.mp hka
       exact hki ((List.getElem_inj hnd).mp (v2.trans u2.symm))
      rw[List.getElem?_set_ne hna]
      exact hz k a' (by (first|lia|omega)) hka b' hb'
    ·rintro σ G3 ⟨zs,c6,c9,rfl,hzl,hz,hl3,hlr3,hh3,k3⟩
     refine⟨_,rfl,L,_,rfl,.inl ⟨SqL.of hl3,fun t ht=>k t zs _ zaa (zhp hrow hzl fun k a hka b hb=>hz k a ?_ hka b hb) (hh3.upd (hh3.ne_new ht)) (k3.trans (zac ht).keep)⟩⟩
     have:=(List.getElem?_eq_some_iff.mp hka).1
     rw[zal]
     exact this
   ·exact⟨_,rfl,l,_,rfl,.inl ⟨SqL.of hG,fun t ht=>k t row _ zaa hrow (hpG.upd (hpG.ne_new ht)) (kG.trans (zac ht).keep)⟩⟩
noncomputable abbrev zcC:Stmt:=top 60
theorem zfI:FnScope ["row", "place"] ["row", "place"] (zab zcC):=⟨rfl,rfl,rfl,by decide+kernel,rfl,by decide+kernel,by decide+kernel⟩
theorem zfJ {f:Addr}{fd:FuncData}(F:Fun K "number_at" "number_at" zcC f fd)(T:Top mg):FnOk P w K mg base CX0 1 f fd ["row", "place"] (zdM K):=by
 refine F.ok zfI (fun vs H Q E h=> ?_) (fun cdv A outer s H vs Q E hr h=> ?_)
 ·obtain ⟨a,ns,k,rfl,_⟩:=h
  rfl
 ·obtain ⟨a,ns,k,rfl,ha,q⟩:=h
  refine⟨_,(zae (zaf (zcF (zi2 zlF zff pe_int (pv 1) (zao zas (by rfl) T.n_len boot_len (pa_cons (pv 0) pa_nil))) (zaj zai (pv 0) (pv 1) (fun _ _=>rfl)) pe_int))), ?_⟩
  refine⟨_,rfl,_,_,rfl,rfl,_,rfl, ?_⟩
  by_cases h0:0<=k
  ·rw [if_pos (by simpa using h0)]
   refine⟨_,rfl,a,_,rfl,.inr ha,_,_,rfl,rfl,_,rfl, ?_⟩
   rw[List.length_map]
   by_cases h1:k<(ns.length:Int)
   ·rw [decide_eq_true h1]
    refine iteT ⟨_,rfl,_,rfl,a,_,_,_,rfl,rfl,ha,zaJ h0 h1, ?_⟩
    rw[zla h0]
    exact q
   ·rw [decide_eq_false h1]
    rw[zlb (by (first|lia|omega))] at q
    exact iteF q
  ·rw [if_neg (by simpa using h0)]
   refine⟨_,rfl, ?_⟩
   rw[zjQ (by (first|lia|omega))] at q
   exact iteF q
noncomputable abbrev zbw:Stmt:=top 61
noncomputable abbrev zbQ:Stmt:=top 62
noncomputable abbrev zbR:Stmt:=top 63
theorem zfa:FnScope ["many", "ahead"] ["many", "ahead"] (zab zbw):=⟨rfl,rfl,rfl,by decide+kernel,rfl,by decide+kernel,by decide+kernel⟩
theorem zfK:FnScope ["many", "ahead"] ["many", "ahead"] (zab zbQ):=⟨rfl,rfl,rfl,by decide+kernel,rfl,by decide+kernel,by decide+kernel⟩
theorem zfL:FnScope ["many", "ahead"] ["many", "ahead"] (zab zbR):=⟨rfl,rfl,rfl,by decide+kernel,rfl,by decide+kernel,by decide+kernel⟩
theorem zfb {f:Addr}{fd:FuncData}(F:Fun K "rounds_row" "rounds_row" zbw f fd)(T:Top mg)(Cnumber_at:Cal P w K mg base 1 "number_at" ["row", "place"] (zdM K)):FnOk P w K mg base CX0 2 f fd ["many", "ahead"] (zdf K 60 zbZ):=by
 refine F.ok zfa (fun vs H Q E h=> ?_) (fun cdv A outer s H vs Q E hr h=> ?_)
 ·obtain ⟨m,a,ns,rfl,_⟩:=h
  rfl
 ·obtain ⟨m,a,ns,rfl,m1,m2,ha,hl,k⟩:=h
  refine⟨_,(zae (zaf (zam zap (by rfl) T.n_tuple boot_tuple (pa_cons (zcI (N':=["k", "ahead", "many"]) (n:=1) (ix:=[1,0]) rfl (CompScope.of (sc:=zab zbw) (N:=["many", "ahead"]) (by decide+kernel) rfl rfl) (zaA rfl T.n_range (pa_cons (zag zaB (pv 0) pe_int) pa_nil)) (fun _ _ _ _ _=>⟨(zaq (i:=0) (show (["k", "ahead", "many"]:List Str).Nodup by decide+kernel) rfl (Or.inl rfl)),zaW,(zag zaB (pe_cal Cnumber_at (hr.mono (by decide)) rfl (pa_cons (pv 1) (pa_cons (zag zaM (pv 0) pe_int) pa_nil))) (zag zaN (zag zaM (pv 2) pe_int) (pe_cal Cnumber_at (hr.mono (by decide)) rfl (pa_cons (pv 1) (pa_cons (pv 0) pa_nil)))))⟩)) pa_nil)))), ?_⟩
  refine⟨_,rfl,_,_,rfl,rfl,_,rfl,by (first|lia|omega),by (first|lia|omega), ?_⟩
  refine zid (n:=m+1) (fun k=>atZ ns (k-1)+((m:Int)-1)*atZ ns k) (by (first|lia|omega)) (fun k k0 k1 H' s' Q' q=> ?_) fun acc hacc=> ?_
  ·exact⟨_,rfl,_,rfl,_,_,rfl,rfl,a,ns,_,rfl,s'.seqT ha,_,rfl,_,_,rfl,rfl,_,rfl,_,rfl,a,ns,_,rfl,s'.seqT ha,_,_,rfl,rfl,za6 (by (first|lia|omega)) (by (first|lia|omega)),_,_,rfl,rfl,q⟩
  ·refine ⟨acc,_,rfl,.inl ⟨SqL.of zaa,fun p hp=> ?_⟩⟩
   exact k p _ ((zac hacc).trans (zac hp)) zaa
theorem zfM {f:Addr}{fd:FuncData}(F:Fun K "stays_row" "stays_row" zbQ f fd)(T:Top mg)(Cnumber_at:Cal P w K mg base 1 "number_at" ["row", "place"] (zdM K)):FnOk P w K mg base CX0 2 f fd ["many", "ahead"] (zdf K 60 zcN):=by
 refine F.ok zfK (fun vs H Q E h=> ?_) (fun cdv A outer s H vs Q E hr h=> ?_)
 ·obtain ⟨m,a,ns,rfl,_⟩:=h
  rfl
 ·obtain ⟨m,a,ns,rfl,m1,m2,ha,hl,k⟩:=h
  refine⟨_,(zae (zaf (zam zap (by rfl) T.n_tuple boot_tuple (pa_cons (zcI (N':=["k", "ahead", "many"]) (n:=1) (ix:=[1,0]) rfl (CompScope.of (sc:=zab zbQ) (N:=["many", "ahead"]) (by decide+kernel) rfl rfl) (zaA rfl T.n_range (pa_cons (zag zaB (pv 0) pe_int) pa_nil)) (fun _ _ _ _ _=>⟨(zaq (i:=0) (show (["k", "ahead", "many"]:List Str).Nodup by decide+kernel) rfl (Or.inl rfl)),zaW,(zag zaB (zag zaB (pe_cal Cnumber_at (hr.mono (by decide)) rfl (pa_cons (pv 1) (pa_cons (zag zaM (pv 0) pe_int) pa_nil))) (zag zaN (zag zaM (zag zaM (pv 2) pe_int) (pv 0)) (pe_cal Cnumber_at (hr.mono (by decide)) rfl (pa_cons (pv 1) (pa_cons (pv 0) pa_nil))))) (zag zaN (zag zaB (pv 0) pe_int) (pe_cal Cnumber_at (hr.mono (by decide)) rfl (pa_cons (pv 1) (pa_cons (zag zaB (pv 0) pe_int) pa_nil)))))⟩)) pa_nil)))), ?_⟩
  refine⟨_,rfl,_,_,rfl,rfl,_,rfl,by (first|lia|omega),by (first|lia|omega), ?_⟩
  refine zid (n:=m+1) (fun k=>atZ ns (k-1)+((m:Int)-1-k)*atZ ns k+(k+1)*atZ ns (k+1)) (by (first|lia|omega)) (fun k k0 k1 H' s' Q' q=> ?_) fun acc hacc=> ?_
  ·refine ⟨_,rfl,_,rfl,_,_,rfl,rfl,a,ns,_,rfl,s'.seqT ha,_,rfl,_,_,rfl,rfl,_,rfl,_,_,rfl,rfl,_,rfl,_,rfl,a,ns,_,rfl,s'.seqT ha,_,_,rfl,rfl,za6 (by (first|lia|omega)) (by (first|lia|omega)),_,_,rfl,rfl, ?_⟩
   exact⟨_,rfl,_,_,rfl,rfl,_,rfl,_,rfl,_,_,rfl,rfl,a,ns,_,rfl,s'.seqT ha,_,_,rfl,rfl,za6 (by (first|lia|omega)) (by (first|lia|omega)),_,_,rfl,rfl,q⟩
  ·refine ⟨acc,_,rfl,.inl ⟨SqL.of zaa,fun p hp=> ?_⟩⟩
   exact k p _ ((zac hacc).trans (zac hp)) zaa
theorem zfN {f:Addr}{fd:FuncData}(F:Fun K "rises_row" "rises_row" zbR f fd)(T:Top mg)(Cnumber_at:Cal P w K mg base 1 "number_at" ["row", "place"] (zdM K)):FnOk P w K mg base CX0 2 f fd ["many", "ahead"] (zdf K 60 zcO):=by
 refine F.ok zfL (fun vs H Q E h=> ?_) (fun cdv A outer s H vs Q E hr h=> ?_)
 ·obtain ⟨m,a,ns,rfl,_⟩:=h
  rfl
 ·obtain ⟨m,a,ns,rfl,m1,m2,ha,hl,k⟩:=h
  refine⟨_,(zae (zaf (zam zap (by rfl) T.n_tuple boot_tuple (pa_cons (zcI (N':=["k", "ahead", "many"]) (n:=1) (ix:=[1,0]) rfl (CompScope.of (sc:=zab zbR) (N:=["many", "ahead"]) (by decide+kernel) rfl rfl) (zaA rfl T.n_range (pa_cons (pv 0) pa_nil)) (fun _ _ _ _ _=>⟨(zaq (i:=0) (show (["k", "ahead", "many"]:List Str).Nodup by decide+kernel) rfl (Or.inl rfl)),zaW,(zag zaB (zag zaN (zag zaB (pv 0) pe_int) (pe_cal Cnumber_at (hr.mono (by decide)) rfl (pa_cons (pv 1) (pa_cons (pv 0) pa_nil)))) (zag zaN (zag zaM (pv 2) (pv 0)) (pe_cal Cnumber_at (hr.mono (by decide)) rfl (pa_cons (pv 1) (pa_cons (zag zaM (pv 0) pe_int) pa_nil)))))⟩)) pa_nil)))), ?_⟩
  refine⟨_,rfl,_,rfl,by (first|lia|omega),by (first|lia|omega), ?_⟩
  refine zid (n:=m) (fun k=>(k+1)*atZ ns k+((m:Int)-k)*atZ ns (k-1)) (by (first|lia|omega)) (fun k k0 k1 H' s' Q' q=> ?_) fun acc hacc=> ?_
  ·refine ⟨_,rfl,_,_,rfl,rfl,_,rfl,_,rfl,a,ns,_,rfl,s'.seqT ha,_,_,rfl,rfl,za6 (by (first|lia|omega)) (by (first|lia|omega)), ?_⟩
   exact⟨_,rfl,_,rfl,_,_,rfl,rfl,_,rfl,_,rfl,_,_,rfl,rfl,a,ns,_,rfl,s'.seqT ha,_,_,rfl,rfl,za6 (by (first|lia|omega)) (by (first|lia|omega)),_,_,rfl,rfl,q⟩
  ·refine ⟨acc,_,rfl,.inl ⟨SqL.of zaa,fun p hp=> ?_⟩⟩
   exact k p _ ((zac hacc).trans (zac hp)) zaa
noncomputable abbrev zbg:Stmt:=top 64
theorem zej:FnScope ["many", "ahead"] ["many", "ahead"] (zab zbg):=⟨rfl,rfl,rfl,by decide+kernel,rfl,by decide+kernel,by decide+kernel⟩
theorem zlw {m:Nat}(h:m<=24):m*(m-1)/2<=276:=by
 have:m*(m-1)<=24*23:=Nat.mul_le_mul h (by (first|lia|omega))
 (first|lia|omega)
theorem zjG {m:Nat}(h:1<=m):(m:Int)*((m:Int)-1)/2+1=((m*(m-1)/2+1:Nat):Int):=by
 rw[show ((m:Int)-1)=((m-1:Nat):Int) by (first|lia|omega)]
 push_cast
 rfl
theorem zek {f:Addr}{fd:FuncData}(F:Fun K "crossed_row" "crossed_row" zbg f fd)(T:Top mg):FnOk P w K mg base CX0 2 f fd ["many", "ahead"] (zdf K 24 zbH):=by
 refine F.ok zej (fun vs H Q E h=> ?_) (fun cdv A outer s H vs Q E hr h=> ?_)
 ·obtain ⟨m,a,ns,rfl,_⟩:=h
  rfl
 ·obtain ⟨m,a,ns,rfl,m1,m2,ha,hl,k⟩:=h
  have t1:=zlw m2
  refine⟨_,(zae (zaf (zam zap (by rfl) T.n_tuple boot_tuple (pa_cons (zcI (N':=["k", "ahead", "many"]) (n:=1) (ix:=[1,0]) rfl (CompScope.of (sc:=zab zbg) (N:=["many", "ahead"]) (by decide+kernel) rfl rfl) (zaA rfl T.n_range (pa_cons (zag zaB (zag zcW (zag zaN (pv 0) (zag zaM (pv 0) pe_int)) pe_int) pe_int) pa_nil)) (fun _ _ _ _ _=>⟨(zaq (i:=0) (show (["k", "ahead", "many"]:List Str).Nodup by decide+kernel) rfl (Or.inl rfl)),zaW,(zao (zeq K rfl rfl) (by rfl) T.n_sum boot_sum (pa_cons (zdk (zjj K rfl) (pv 1) (zcY (zao (zbX rfl) (by rfl) T.n_max boot_max (pa_cons pe_int (pa_cons (zag zaB (zag zaM (pv 0) (pv 2)) pe_int) pa_nil)))) (zcY (zag zaB (pv 0) pe_int))) pa_nil))⟩)) pa_nil)))), ?_⟩
  refine⟨_,rfl,_,rfl,_,_,rfl,rfl,_,_,rfl,rfl,za6 (by (first|lia|omega)) (by (first|lia|omega)),_,_,rfl,rfl,⟨by decide,by decide⟩,_,_,rfl,rfl,_,rfl, ?_⟩
  rw[zjG m1]
  refine⟨by (first|lia|omega),by (first|lia|omega), ?_⟩
  refine zga (fun k=>win ns (k-(m:Int)+1) m) (by (first|lia|omega)) (fun k k0 k1 H' s' Q' q=> ?_) fun acc H' hacc sm hys=> ?_
  ·refine ⟨_,rfl,_,rfl,_,rfl,_,_,rfl,rfl,_,_,rfl,rfl,_,_,rfl,_,rfl,_,rfl,_,_,rfl,rfl,_,rfl, ?_⟩
   refine⟨a,_,rfl,s'.seqT ha,fun p H2 s2 hp=> ?_⟩
   rw[show (if k-(m:Int)+1>0 then k-(m:Int)+1 else 0)=(((k-(m:Int)+1).toNat:Nat):Int) by split<;>(first|lia|omega),show k+1=((k+1).toNat:Int) by (first|lia|omega),ziq] at hp
   refine⟨p,_,rfl,hp, ?_⟩
   rw[zin]
   have e:=zio ns (k-(m:Int)+1) m
   rw[show max (k-(m:Int)+1) 0=((k-(m:Int)+1).toNat:Int) by (first|lia|omega),show m-(-(k-(m:Int)+1)).toNat=(k+1).toNat-(k-(m:Int)+1).toNat by (first|lia|omega)] at e
   rw[<-e]
   exact q H2 s2
  ·refine ⟨acc,_,rfl,.inl ⟨SqL.of hys,fun p hp=> ?_⟩⟩
   exact k p _ (sm.trans (zac hp)) zaa
noncomputable abbrev zda:Stmt:=top 66
noncomputable abbrev ziU:Stmt:=top 68
noncomputable abbrev zgx:Stmt:=top 69
theorem sc_next_row:FnScope ["kind", "many", "ahead", "row"] ["kind", "many", "ahead"] (zab zda):=⟨rfl,rfl,rfl,by decide+kernel,rfl,by decide+kernel,by decide+kernel⟩
theorem zkB:FnScope ["kind", "many"] ["kind", "many"] (zab ziU):=⟨rfl,rfl,rfl,by decide+kernel,rfl,by decide+kernel,by decide+kernel⟩
theorem sc_steps:FnScope ["kind", "many", "rows", "size"] ["kind", "many"] (zab zgx):=⟨rfl,rfl,rfl,by decide+kernel,rfl,by decide+kernel,by decide+kernel⟩
theorem zgy {f C f1 f2 f3 f5:Addr}{fd:FuncData}(F:Fun K "next_row" "next_row" zda f fd)(hC:mg "ROWS" =some (.ref C))(GD:GDict K w.params C [("rounds",f1),("stays",f2),("rises",f3),("highs",f1),("crossed",f5)])
  (c1:CalF P w K mg base 2 f1 ["many", "ahead"] (zdf K 60 zbZ)) (c2:CalF P w K mg base 2 f2 ["many", "ahead"] (zdf K 60 zcN)) (c3:CalF P w K mg base 2 f3 ["many", "ahead"] (zdf K 60 zcO)) (c5:CalF P w K mg base 2 f5 ["many", "ahead"] (zdf K 24 zbH)):FnOk P w K mg base CX0 3 f fd ["kind", "many", "ahead"] (zir K):=by
 refine F.ok sc_next_row (fun vs H Q E h=> ?_) (fun cdv A outer s H vs Q E hr h=> ?_)
 ·obtain ⟨kind,m,a,ns,rfl,_⟩:=h
  rfl
 ·obtain ⟨kind,m,a,ns,rfl,hk,m1,m2,ha,hl,k⟩:=h
  refine⟨_,(zad (zak (i:=3) sc_next_row.nd rfl (Or.inl rfl) (zaj zd9 (zbh (v:=.ref C) rfl hC rfl) (pv 0) (fun _ _=>rfl)))
   (zae (zaf (za8 (k:=2) (pv 3) hr (pa_cons (pv 1) (pa_cons (pv 2) pa_nil)))))), ?_⟩
  rcases zat hk with rfl|rfl|rfl|rfl|rfl
  ·exact⟨_,rfl,C,_,_,f1,rfl,rfl,GD,rfl,_,rfl,f1,_,_,rfl,c1,_,rfl,_,rfl,m,a,ns,rfl,m1,m2,ha,hl,k⟩
  ·exact⟨_,rfl,C,_,_,f2,rfl,rfl,GD,rfl,_,rfl,f2,_,_,rfl,c2,_,rfl,_,rfl,m,a,ns,rfl,m1,m2,ha,hl,k⟩
  ·exact⟨_,rfl,C,_,_,f3,rfl,rfl,GD,rfl,_,rfl,f3,_,_,rfl,c3,_,rfl,_,rfl,m,a,ns,rfl,m1,m2,ha,hl,k⟩
  ·exact⟨_,rfl,C,_,_,f1,rfl,rfl,GD,rfl,_,rfl,f1,_,_,rfl,c1,_,rfl,_,rfl,m,a,ns,rfl,m1,m2,ha,hl,k⟩
  ·exact⟨_,rfl,C,_,_,f5,rfl,rfl,GD,rfl,_,rfl,f5,_,_,rfl,c5,_,rfl,_,rfl,m,a,ns,rfl,m1,m2,ha,hl,k⟩
theorem zjH {f FR:Addr}{fd:FuncData}(F:Fun K "steps" "steps" zgx f fd)(T:Top mg)(hFR:mg "FIRST_ROW" =some (.ref FR))(hF:∀H,SqT K H FR ([1].map V.int))(Cnext_row:Cal P w K mg base 3 "next_row" ["kind", "many", "ahead"] (zir K)):FnOk P w K mg base CX0 4 f fd ["kind", "many"] (zgb K):=by
 refine F.ok sc_steps (fun vs H Q E h=> ?_) (fun cdv A outer s H vs Q E hr h=> ?_)
 ·obtain ⟨kind,m,rfl,_⟩:=h
  rfl
 ·obtain ⟨kind,m,rfl,hk,hm,k⟩:=h
  have hb:=zld kind
  refine⟨_,(zad (zak (i:=2) sc_steps.nd rfl (Or.inl rfl) (pe_lst (pa_cons (zbh (v:=.ref FR) rfl hFR rfl) pa_nil)))
   (zad (zbj PassesOwn.never rfl (zdz rfl T.n_range (pa_cons pe_int (pa_cons (zag zaB (pv 1) pe_int) pa_nil))) (zaq (i:=3) sc_steps.nd rfl (Or.inl rfl))
    (zae (zdv (zh1 PySem.F.plainAttrs_list PySem.F.slot_list_append PySem.F.type_list_append zbE (pv 2) (pa_cons (pe_cal Cnext_row (hr.mono (by decide)) rfl (pa_cons (pv 0) (pa_cons (pv 3) (pa_cons (zaj za4 (pv 2) (pe_un zel pe_int) (fun _ _=>rfl)) pa_nil)))) pa_nil)))))
   (zae (zaf (zam zap (by rfl) T.n_tuple boot_tuple (pa_cons (pv 2) pa_nil)))))), ?_⟩
  refine⟨by show 1<=sizeLine;decide,fun l hl=> ?_⟩
  have s1:=zac (o:=.lst [.ref FR]) hl
  refine⟨_,rfl,_,_,rfl,rfl,_,_,rfl,⟨by decide,by decide,by (first|lia|omega),by (first|lia|omega)⟩, ?_⟩
  rw[show ((m:Int)+1-1).toNat=m by (first|lia|omega)]
  refine zbW (fun i σ H2=>∃(zs:List Addr) (c3:Option V),σ=[some (.str kind),some (.int m),some (.ref l),c3]/\Same H H2/\H2 l=some (.lst (zs.map V.ref))/\RowsK K H2 zs (zeE kind i)) ?_ ?_ ?_
  ·exact⟨[FR],none,rfl,s1,zaa,.cons (hF _) .nil⟩
  ·rintro i σ H2 hi ⟨zs,c3,rfl,sm,hl2,R⟩
   have ez:zs.length=i+1:=by rw[Paired.length R,zit]
   obtain⟨z,hz,hzr⟩:=R.get (i:=i) (r:=rowZ kind i) (by unfold zeE;simp)
   refine⟨_,rfl,.inl ⟨rfl,_,SqL.of hl2⟩, ?_⟩
   refine⟨_,rfl,_,rfl,_,rfl,_,rfl,l,_,_,(.ref z),rfl,rfl,SqL.of hl2, ?_, ?_⟩
   ·have hzl:zs.length-1=i:=by (first|lia|omega)
    show atI (zs.map V.ref) (-1)=some (V.ref z)
    rw[zjm (by rw[List.length_map];(first|lia|omega)),List.length_map,hzl,List.getElem?_map,hz]
    rfl
   refine⟨kind,i+1,z,rowZ kind i, ?_,hk,by (first|lia|omega),by (first|lia|omega),hzr,Nat.le_trans (zjl (by (first|lia|omega))) (by decide),fun p H3 s3 hp=> ?_⟩
   ·rw[show (1:Int)+(i:Int)=((i+1:Nat):Int) by (first|lia|omega)]
   refine⟨l,_,_,rfl,rfl,s3 _ _ hl2,za9 (by rw[List.length_map];(first|lia|omega)),zs++[p],_,rfl,zav (sm.trans s3) hl, ?_, ?_⟩
   ·rw [zaa,List.map_append]
    rfl
   ·rw [zht]
    exact Paired.snoc ((R.same s3).updL (s3 _ _ hl2)) (zgY (SqT.of hp) (s3 _ _ hl2))
  ·rintro σ H2 ⟨zs,c3,rfl,sm,hl2,R⟩
   refine⟨_,rfl,l,_,rfl,.inl ⟨SqL.of hl2,fun p hp=> ?_⟩⟩
   exact k p zs _ (sm.trans (zac hp)) zaa (R.same (zac hp))
theorem zkC {f:Addr}{fd:FuncData}(F:Fun K "told" "told" ziU f fd)(T:Top mg)(Csteps:Cal P w K mg base 4 "steps" ["kind", "many"] (zgb K)):FnOk P w K mg base CX0 5 f fd ["kind", "many"] (ziu K):=by
 refine F.ok zkB (fun vs H Q E h=> ?_) (fun cdv A outer s H vs Q E hr h=> ?_)
 ·obtain ⟨kind,m,rfl,_⟩:=h
  rfl
 ·obtain ⟨kind,m,rfl,hk,hm,k⟩:=h
  refine⟨_,(zad (zcs (zau zcX (pv 0) pe_str (zar _))
    zhP
    zaV)
   (zae (zaf (zaj zai (pe_cal Csteps (hr.mono (by decide)) rfl (pa_cons (pv 0) (pa_cons (pv 1) pa_nil))) (pv 1) (fun _ _=>rfl))))), ?_⟩
  have hne:¬kind= "longest" :=by
   rcases zat hk with rfl|rfl|rfl|rfl|rfl<;>decide
  refine⟨_,rfl,rfl,_,rfl, ?_⟩
  rw[decide_eq_false (fun e=>hne (V.str.inj e))]
  refine iteF ?_
  refine⟨_,rfl,_,rfl,kind,m,rfl,hk,hm,fun p zs H' s' hp R=> ?_⟩
  obtain⟨z,hz,hzr⟩:=R.get (i:=m) (r:=rowZ kind m) (by unfold zeE;simp)
  refine⟨_,rfl,p,_,_,(.ref z),rfl,rfl,SqT.of hp,zah (by rw[List.getElem?_map,hz];rfl), ?_⟩
  exact k z H' s' hzr
end
noncomputable abbrev zdb:Stmt:=top 80
noncomputable abbrev zcD:Stmt:=top 82
noncomputable abbrev zcg:Stmt:=top 83
section
variable {P:Program}{w:World}{K:PySem.W.Frag}{mg:Str->Option Value}{base:Heap}
theorem zgz:FnScope ["_law_one", "_law_two"] ["_law_one", "_law_two"] (zab zdb):=⟨rfl,rfl,rfl,by decide+kernel,rfl,by decide+kernel,by decide+kernel⟩
theorem zgA {f:Addr}{fd:FuncData}(F:Fun K "_law_sum" "_law_sum" zdb f fd)(C_law_low:Cal P w K mg base 1 "_law_low" ["_law_over", "_law_under"] zcp):FnOk P w K mg base CX0 2 f fd ["_law_one", "_law_two"] (spSh plZ):=by
 refine F.ok zgz (fun vs H Q E h=> ?_) (fun cdv A outer s H vs Q E hr h=> ?_)
 ·obtain ⟨x,y,p,q,rfl,_⟩:=h
  rfl
 ·obtain ⟨x,y,p,q,rfl,hx,hy,bp,bq,k⟩:=h
  refine⟨_,(zae (zaf (pe_cal C_law_low (hr.mono (by decide)) rfl (pa_cons (zag zaB (zag zaF (zaj zai (pv 0) pe_int (fun _ _=>rfl)) (zaj zai (pv 1) pe_int (fun _ _=>rfl))) (zag zaF (zaj zai (pv 1) pe_int (fun _ _=>rfl)) (zaj zai (pv 0) pe_int (fun _ _=>rfl)))) (pa_cons (zag zaF (zaj zai (pv 0) pe_int (fun _ _=>rfl)) (zaj zai (pv 1) pe_int (fun _ _=>rfl))) pa_nil))))), ?_⟩
  refine⟨_,rfl,x,_,0,_,rfl,rfl,SqT.of hx,zah (j:=0) rfl,_,rfl,y,_,1,_,rfl,rfl,SqT.of hy,zah (j:=1) rfl,_,_,rfl,rfl,⟨bp.s1.mono (by decide),bq.s2.mono (by decide)⟩,_,rfl,y,_,0,_,rfl,rfl,SqT.of hy,zah (j:=0) rfl,_,rfl,x,_,1,_,rfl,rfl,SqT.of hx,zah (j:=1) rfl,_,_,rfl,rfl,⟨bq.s1.mono (by decide),bp.s2.mono (by decide)⟩,_,_,rfl,rfl,_,rfl,x,_,1,_,rfl,rfl,SqT.of hx,zah (j:=1) rfl,_,rfl,y,_,1,_,rfl,rfl,SqT.of hy,zah (j:=1) rfl,_,_,rfl,rfl,⟨bp.s2.mono (by decide),bq.s2.mono (by decide)⟩,_,_,rfl,Int.mul_pos bp.pos bq.pos,(bp.s2.mul bq.s2).mono (by decide),fun z H2 s2 hz=>k z H2 s2 hz⟩
theorem zfO:FnScope ["_law_one", "_law_two"] ["_law_one", "_law_two"] (zab zcD):=⟨rfl,rfl,rfl,by decide+kernel,rfl,by decide+kernel,by decide+kernel⟩
theorem zfP {f:Addr}{fd:FuncData}(F:Fun K "_law_less" "_law_less" zcD f fd)(C_law_low:Cal P w K mg base 1 "_law_low" ["_law_over", "_law_under"] zcp):FnOk P w K mg base CX0 2 f fd ["_law_one", "_law_two"] (spSh leZ):=by
 refine F.ok zfO (fun vs H Q E h=> ?_) (fun cdv A outer s H vs Q E hr h=> ?_)
 ·obtain ⟨x,y,p,q,rfl,_⟩:=h
  rfl
 ·obtain ⟨x,y,p,q,rfl,hx,hy,bp,bq,k⟩:=h
  refine⟨_,(zae (zaf (pe_cal C_law_low (hr.mono (by decide)) rfl (pa_cons (zag zaM (zag zaF (zaj zai (pv 0) pe_int (fun _ _=>rfl)) (zaj zai (pv 1) pe_int (fun _ _=>rfl))) (zag zaF (zaj zai (pv 1) pe_int (fun _ _=>rfl)) (zaj zai (pv 0) pe_int (fun _ _=>rfl)))) (pa_cons (zag zaF (zaj zai (pv 0) pe_int (fun _ _=>rfl)) (zaj zai (pv 1) pe_int (fun _ _=>rfl))) pa_nil))))), ?_⟩
  refine⟨_,rfl,x,_,0,_,rfl,rfl,SqT.of hx,zah (j:=0) rfl,_,rfl,y,_,1,_,rfl,rfl,SqT.of hy,zah (j:=1) rfl,_,_,rfl,rfl,⟨bp.s1.mono (by decide),bq.s2.mono (by decide)⟩,_,rfl,y,_,0,_,rfl,rfl,SqT.of hy,zah (j:=0) rfl,_,rfl,x,_,1,_,rfl,rfl,SqT.of hx,zah (j:=1) rfl,_,_,rfl,rfl,⟨bq.s1.mono (by decide),bp.s2.mono (by decide)⟩,_,_,rfl,rfl,_,rfl,x,_,1,_,rfl,rfl,SqT.of hx,zah (j:=1) rfl,_,rfl,y,_,1,_,rfl,rfl,SqT.of hy,zah (j:=1) rfl,_,_,rfl,rfl,⟨bp.s2.mono (by decide),bq.s2.mono (by decide)⟩,_,_,rfl,Int.mul_pos bp.pos bq.pos,(bp.s2.mul bq.s2).mono (by decide),fun z H2 s2 hz=>k z H2 s2 hz⟩
theorem zfc:FnScope ["_law_one", "_law_two"] ["_law_one", "_law_two"] (zab zcg):=⟨rfl,rfl,rfl,by decide+kernel,rfl,by decide+kernel,by decide+kernel⟩
theorem zfd {f:Addr}{fd:FuncData}(F:Fun K "_law_times" "_law_times" zcg f fd)(C_law_low:Cal P w K mg base 1 "_law_low" ["_law_over", "_law_under"] zcp):FnOk P w K mg base CX0 2 f fd ["_law_one", "_law_two"] (spSh tmZ):=by
 refine F.ok zfc (fun vs H Q E h=> ?_) (fun cdv A outer s H vs Q E hr h=> ?_)
 ·obtain ⟨x,y,p,q,rfl,_⟩:=h
  rfl
 ·obtain ⟨x,y,p,q,rfl,hx,hy,bp,bq,k⟩:=h
  refine⟨_,(zae (zaf (pe_cal C_law_low (hr.mono (by decide)) rfl (pa_cons (zag zaF (zaj zai (pv 0) pe_int (fun _ _=>rfl)) (zaj zai (pv 1) pe_int (fun _ _=>rfl))) (pa_cons (zag zaF (zaj zai (pv 0) pe_int (fun _ _=>rfl)) (zaj zai (pv 1) pe_int (fun _ _=>rfl))) pa_nil))))), ?_⟩
  refine⟨_,rfl,x,_,0,_,rfl,rfl,SqT.of hx,zah (j:=0) rfl,_,rfl,y,_,0,_,rfl,rfl,SqT.of hy,zah (j:=0) rfl,_,_,rfl,rfl,⟨bp.s1.mono (by decide),bq.s1.mono (by decide)⟩,_,rfl,x,_,1,_,rfl,rfl,SqT.of hx,zah (j:=1) rfl,_,rfl,y,_,1,_,rfl,rfl,SqT.of hy,zah (j:=1) rfl,_,_,rfl,rfl,⟨bp.s2.mono (by decide),bq.s2.mono (by decide)⟩,_,_,rfl,Int.mul_pos bp.pos bq.pos,(bp.s2.mul bq.s2).mono (by decide),fun z H2 s2 hz=>k z H2 s2 hz⟩
end
end K85
namespace L2
open PySem PySem.Spec PyProof.Rows
theorem ifS {b:Bool}{A B:Prop}(hb:b=false)(h:B):if b=true then A else B:=by rw[hb];exact h
theorem zhc (x:V):(!decide (x=x))=false:=by simp
theorem zlx {H:Hp}{a b:Addr}{p:Int×Int}{Q:VK}(h1:Shr H a p)(h2:Shr H b p)(q:Q (.bl false) H):rNeD (.ref a) (.ref b) H Q:=by
 refine⟨_,_,Is.ints (ns:=[p.1,p.2]) h1,Is.ints (ns:=[p.1,p.2]) h2,zaT _,zaT _, ?_⟩
 rw[show (!PyData.eqv (PyData.tuple ([p.1,p.2].map PyData.int)) (PyData.tuple ([p.1,p.2].map PyData.int)))=false by simp[PyData.eqv,PyData.eqvAll]]
 exact q
theorem ziV {H:Hp}{a b:Addr}{p:Int×Int}{Q:VK}(h1:Shr H a p)(h2:Shr H b p)(q:Q (.bl true) H):rEqD (.ref a) (.ref b) H Q:=by
 refine⟨_,_,Is.ints (ns:=[p.1,p.2]) h1,Is.ints (ns:=[p.1,p.2]) h2,zaT _,zaT _, ?_⟩
 rw[show PyData.eqv (PyData.tuple ([p.1,p.2].map PyData.int)) (PyData.tuple ([p.1,p.2].map PyData.int))=true by simp[PyData.eqv,PyData.eqvAll]]
 exact q
noncomputable def okS (p:Int×Int):Bool:=decide (0<p.2)&&decide (p.1.natAbs<2^200)&&decide (p.2.natAbs<2^200)
theorem zbS {p:Int×Int}(h:okS p=true):ShB p 3900:=by
 unfold okS at h
 simp only[Bool.and_eq_true,decide_eq_true_eq] at h
 exact⟨h.1.1,(Sm.of h.1.2).mono (by decide),(Sm.of h.2).mono (by decide)⟩
noncomputable def scn {α:Type}(f:Int×Int->α->Int×Int):List α->Int×Int->Bool
 |[],b=>okS b
 |a::l,b=>okS b&&scn f l (f b a)
theorem ziW {α:Type}{f:Int×Int->α->Int×Int}:∀{l:List α} {b:Int×Int},scn f l b=true->∀i,okS ((l.take i).foldl f b)=true
 |[],b,h,i=>by rw[List.take_nil];exact h
 |a::l,b,h,i=>by
  have h:=(Bool.and_eq_true _ _).mp h
  cases i with
  |zero=>exact h.1
  |succ i=>exact ziW h.2 i
noncomputable def scn2 (P:List (List Int))(g:List Int->Int×Int->List Int->Int×Int):List (List Int)->Int×Int->Bool
 |[],b=>okS b
 |p::l,b=>scn (g p) P b&&scn2 P g l (P.foldl (g p) b)
theorem ziX {P:List (List Int)}{g:List Int->Int×Int->List Int->Int×Int}:∀{l:List (List Int)} {b:Int×Int},scn2 P g l b=true->∀i p,l[i]? =some p->scn (g p) P ((l.take i).foldl (fun w p=>P.foldl (g p) w) b)=true
 |[],b,_,i,p,e=>by rw[List.getElem?_nil] at e;cases e
 |a::l,b,h,i,p,e=>by
  have h:=(Bool.and_eq_true _ _).mp h
  cases i with
  |zero=>cases e;exact h.1
  |succ i=>exact ziX h.2 i p e
noncomputable def totF (kind:Str)(N:Int)(t:Int×Int)(p:List Int):Int×Int:=plZ t (oneA kind N p)
noncomputable def widF (kind:Str)(N:Int)(p:List Int)(w:Int×Int)(q:List Int):Int×Int:=plZ w (leZ (zcq kind N p q) (tmZ (oneA kind N p) (oneA kind N q)))
noncomputable def okP (kind:Str)(n:Nat):Bool:=
 scn (totF kind n) (zaz kind n) (0,1)&&decide ((zaz kind n).foldl (totF kind n) (0,1)=zkp kind n)&&
 scn2 (zaz kind n) (widF kind n) (zaz kind n) (0,1)&&decide ((zaz kind n).foldl (fun w p=>(zaz kind n).foldl (widF kind n p) w) (0,1)=zgf kind n)&&
 (zaz kind n).all (fun p=>okS (oneA kind n p)&&(zaz kind n).all fun q=>okS (zcq kind n p q)&&okS (tmZ (oneA kind n p) (oneA kind n q))&&okS (leZ (zcq kind n p q) (tmZ (oneA kind n p) (oneA kind n q))))&&decide ((zaz kind n).Nodup)
theorem zkD:∀n:Nat,n<7->∀kind∈zaO,okP kind n=true:=by decide+kernel
noncomputable def wsum (f:Int->Int)(R:List Int):Int:=((List.range R.length).map fun k:Nat=>f (k:Int)*R.getD k 0).sum
noncomputable def okC (kind:Str)(n:Nat):Bool:=
 let R:=rowZ kind n
 let A:=wsum (fun k=>k) R
 let B:=wsum (fun k=>k*k) R
 decide (R.sum=fcZ n)&&decide (lowZ A R.sum=zkp kind n)&&decide (zgf kind n=leZ (lowZ B R.sum) (tmZ (lowZ A R.sum) (lowZ A R.sum)))&&
 decide (0<R.sum)&&decide (R.sum.natAbs<2^200)&&okS (lowZ A R.sum)&&okS (lowZ B R.sum)&&okS (tmZ (lowZ A R.sum) (lowZ A R.sum))&&decide (R.length<=1000)
theorem zkE:∀n:Nat,n<25->∀kind∈zaO,(kind= "crossed" ->n<17)->okC kind n=true:=by decide+kernel
end L2
namespace K85
open PySem PySem.Spec PyProof.Rows L2
noncomputable abbrev zaG:Stmt:=top 84
noncomputable def spBC:Sp:=fun vs H Q _=>∃(kind:Str) (n:Nat),vs=[.str kind,.int (n:Int)]/\kind∈zaO/\n<25/\(kind= "crossed" ->n<17)/\∀H',Same H H'->Q (.bl true) H'
section
variable {P:Program}{w:World}{K:PySem.W.Frag}{mg:Str->Option Value}{base:Heap}
theorem sc__law_by_counts:FnScope ["_law_kind", "_law_many", "_law_row", "_law_size", "_law_total", "_law_squares"] ["_law_kind", "_law_many"] (zab zaG):=⟨rfl,rfl,rfl,by decide+kernel,rfl,by decide+kernel,by decide+kernel⟩
set_option maxHeartbeats 4000000 in
theorem zdc {f:Addr}{fd:FuncData}(F:Fun K "_law_by_counts" "_law_by_counts" zaG f fd)(T:Top mg)(Ctold:Cal P w K mg base 5 "told" ["kind", "many"] (ziu K))(C_law_low:Cal P w K mg base 1 "_law_low" ["_law_over", "_law_under"] zcp)(C_law_fall:Cal P w K mg base 1 "_law_fall" ["_law_number_here"] (spFc 300))(Cmean:Cal P w K mg base 5 "mean" ["kind", "many"] zg7)(Cspread:Cal P w K mg base 5 "spread" ["kind", "many"] zdr)(C_law_less:Cal P w K mg base 2 "_law_less" ["_law_one", "_law_two"] (spSh leZ))(C_law_times:Cal P w K mg base 2 "_law_times" ["_law_one", "_law_two"] (spSh tmZ)):FnOk P w K mg base CX0 6 f fd ["_law_kind", "_law_many"] spBC:=by
 refine F.ok sc__law_by_counts (fun vs H Q E h=> ?_) (fun cdv A outer s H vs Q E hr h=> ?_)
 ·obtain ⟨kind,n,rfl,_⟩:=h
  rfl
 ·obtain ⟨kind,n,rfl,hk,hn,hc,k⟩:=h
  have hu:=hr.units
  refine⟨_,(zad (zak (i:=2) sc__law_by_counts.nd rfl (Or.inr rfl) (pe_cal Ctold (hr.mono (by decide)) rfl (pa_cons (pv 0) (pa_cons (pv 1) pa_nil))))
   (zad (zak (i:=3) sc__law_by_counts.nd rfl (Or.inl rfl) (zao (zeq K rfl rfl) (by rfl) T.n_sum boot_sum (pa_cons (pv 2) pa_nil)))
   (zad (zak (i:=4) sc__law_by_counts.nd rfl (Or.inl rfl) (pe_cal C_law_low (hr.mono (by decide)) rfl (pa_cons (zao (zbF rfl) (by rfl) T.n_sum boot_sum (pa_cons (zcI (N':=["_law_k", "_law_row"]) (n:=1) (ix:=[2]) rfl (CompScope.of (sc:=zab zaG) (N:=["_law_kind", "_law_many", "_law_row", "_law_size", "_law_total", "_law_squares"]) (by decide+kernel) rfl rfl) (zaA rfl T.n_range (pa_cons (zao zas (by rfl) T.n_len PySem.boot_len (pa_cons (pv 2) pa_nil)) pa_nil)) (fun _ _ _ _ _=>⟨(zaq (i:=0) (show (["_law_k", "_law_row"]:List Str).Nodup by decide+kernel) rfl (Or.inl rfl)),zaW,(zag zaN (pv 0) (zaj (zeA K rfl) (pv 1) (pv 0) (fun _ _=>rfl)))⟩)) pa_nil)) (pa_cons (pv 3) pa_nil))))
   (zad (zak (i:=5) sc__law_by_counts.nd rfl (Or.inl rfl) (pe_cal C_law_low (hr.mono (by decide)) rfl (pa_cons (zao (zbF rfl) (by rfl) T.n_sum boot_sum (pa_cons (zcI (N':=["_law_k", "_law_row"]) (n:=1) (ix:=[2]) rfl (CompScope.of (sc:=zab zaG) (N:=["_law_kind", "_law_many", "_law_row", "_law_size", "_law_total", "_law_squares"]) (by decide+kernel) rfl rfl) (zaA rfl T.n_range (pa_cons (zao zas (by rfl) T.n_len PySem.boot_len (pa_cons (pv 2) pa_nil)) pa_nil)) (fun _ _ _ _ _=>⟨(zaq (i:=0) (show (["_law_k", "_law_row"]:List Str).Nodup by decide+kernel) rfl (Or.inl rfl)),zaW,(zag zaN (zag zaN (pv 0) (pv 0)) (zaj (zeA K rfl) (pv 1) (pv 0) (fun _ _=>rfl)))⟩)) pa_nil)) (pa_cons (pv 3) pa_nil))))
   (zad (zcs (PW.pt (zi0 (zau zi1 (pv 3) (pe_cal C_law_fall (hr.mono (by decide)) rfl (pa_cons (pv 1) pa_nil)) (zar _)) (zgH (zau (zk4 hu) (pe_cal Cmean (hr.mono (by decide)) rfl (pa_cons (pv 0) (pa_cons (pv 1) pa_nil))) (pv 4) (zar _)))))
    (zae (zaf zhf))
    zaV)
   (zae (zaf (zbk (zgO hu) (pe_cal Cspread (hr.mono (by decide)) rfl (pa_cons (pv 0) (pa_cons (pv 1) pa_nil))) (pe_cal C_law_less (hr.mono (by decide)) rfl (pa_cons (pv 5) (pa_cons (pe_cal C_law_times (hr.mono (by decide)) rfl (pa_cons (pv 4) (pa_cons (pv 4) pa_nil))) pa_nil))) (zar _))))))))), ?_⟩
  have ok:=zkE n hn kind hk hc
  unfold okC at ok
  simp only[Bool.and_eq_true,decide_eq_true_eq] at ok
  obtain⟨⟨⟨⟨⟨⟨⟨⟨o1,o2⟩,o3⟩,o4⟩,o5⟩,o6⟩,o7⟩,o8⟩,o9⟩:=ok
  generalize hR:rowZ kind n=R at*
  have wsE:∀(f:Int->Int),wsum f R=((num0 R.length).map fun k=>f k*R.getD k.toNat 0).sum:=fun f=>by
   unfold wsum num0
   rw[List.map_map]
   rfl
  refine⟨_,rfl,_,rfl,kind,n,rfl,hk,by unfold bOf;split<;>(first|lia|omega),fun p G1 s1 hp=> ?_⟩
  rw[hR] at hp
  refine⟨_,rfl,p,R,rfl,hp, ?_⟩
  have hat:∀{k:Int},0<=k->k<R.length->atI (R.map V.int) k=some (.int (R.getD k.toNat 0)):=fun h0 h1=>zaJ h0 (by (first|lia|omega))
  refine⟨_,rfl,p,_,rfl,.inr hp, ?_⟩
  rw[zal]
  refine⟨_,rfl,by (first|lia|omega),by (first|lia|omega), ?_⟩
  rw[Int.toNat_natCast]
  refine zga (fun k=>k*R.getD k.toNat 0) o9 (fun k k0 k1 H' s' Q' q=>⟨_,rfl,_,rfl,_,rfl,p,_,k,_,rfl,rfl,s'.seqT hp,hat k0 k1,_,_,rfl,rfl,.inl ⟨by (first|lia|omega),by (first|lia|omega)⟩,q H' (Same.refl _)⟩) fun l1 G2 hl1 s2 hL1=> ?_
  refine⟨l1,_,rfl,hL1,_,rfl,_,_,rfl,o4,(Sm.of o5).mono (by decide),fun zt G3 s3 hzt=> ?_⟩
  rw[<-wsE fun k=>k,o2] at hzt
  have s12:=s2.trans s3
  have hp3:=s12.seqT hp
  refine⟨_,rfl,p,_,rfl,.inr hp3, ?_⟩
  rw[zal]
  refine⟨_,rfl,by (first|lia|omega),by (first|lia|omega), ?_⟩
  rw[Int.toNat_natCast]
  refine zga (fun k=>k*k*R.getD k.toNat 0) o9 (fun k k0 k1 H' s' Q' q=>⟨_,rfl,_,rfl,_,_,rfl,rfl,.inl ⟨by (first|lia|omega),by (first|lia|omega)⟩,_,rfl,_,rfl,p,_,k,_,rfl,rfl,s'.seqT hp3,hat k0 k1,_,_,rfl,rfl,.inl ⟨?_, ?_⟩,q H' (Same.refl _)⟩) fun l2 G4 hl2 s4 hL2=> ?_
  ·have:=Int.mul_nonneg k0 k0
   (first|lia|omega)
  ·have:k*k<=1000*1000:=Int.mul_le_mul (by (first|lia|omega)) (by (first|lia|omega)) k0 (by decide)
   (first|lia|omega)
  refine⟨l2,_,rfl,hL2,_,rfl,_,_,rfl,o4,(Sm.of o5).mono (by decide),fun zs G5 s5 hzs=> ?_⟩
  rw[<-wsE fun k=>k*k] at hzs
  have s45:=s4.trans s5
  refine⟨_,rfl,_,rfl,n,rfl,by (first|lia|omega), ?_⟩
  refine⟨rfl,_,rfl,ifS (by rw[o1];exact zhc _) ?_⟩
  refine⟨_,rfl,_,rfl,kind,n,rfl,hk,by (first|lia|omega),by (first|lia|omega),fun _=>by (first|lia|omega),fun zm G6 s6 hzm=> ?_⟩
  have hzt6:=s6 _ _ (s45 _ _ hzt)
  refine⟨_,rfl,zlx hzm hzt6 ⟨_,rfl,ifS rfl ?_⟩⟩
  refine⟨_,rfl,_,rfl,kind,n,rfl,hk,by (first|lia|omega),by (first|lia|omega),fun _=>by (first|lia|omega),fun zd G7 s7 hzd=> ?_⟩
  have hzt7:=s7 _ _ hzt6
  refine⟨_,rfl,_,rfl,_,rfl,zt,zt,_,_,rfl,hzt7,hzt7,by rw[<-o2];exact zbS o6,by rw[<-o2];exact zbS o6,fun zq G8 s8 hzq=> ?_⟩
  have hzs8:=s8 _ _ (s7 _ _ (s6 _ _ hzs))
  refine⟨zs,zq,_,_,rfl,hzs8,hzq,zbS o7,by rw[<-o2];exact zbS o8,fun zr G9 s9 hzr=> ?_⟩
  have hzd9:=s9 _ _ (s8 _ _ hzd)
  rw[<-o2,<-o3] at hzr
  exact ziV hzd9 hzr (k _ (((((s1.trans s12).trans s45).trans s6).trans s7).trans (s8.trans s9)))
end
end K85
namespace L2
open PySem PySem.Spec PyProof.Rows
theorem zkF {J:It}{Ok:Hp->Prop}{xs:List V}{te:TE}{ix:List Nat}{σ:L2.St}{H1:Hp}{Q:VK}(Y:Yields J Ok xs)(small:xs.length<sizeLine)(B:V->List V)(hok:∀H,Same H1 H->Ok H)
  (he:∀(x:V) (H:Hp),x∈xs->Same H1 H->∀(QT:VK),(∀(t L:Addr) (H':Hp),H' t=some (.tup [x,.ref L])->H' L=some (.tup (B x))->Same H H'->QT (.ref t) H')->te (some x::ix.map fun i=>σ.getD i none) H QT)
  (fin:∀acc (ts:List Addr) H',H1 acc=none->Same H1 H'->H' acc=some (.lst (ts.map V.ref))->Paired (fun t x=>∃L,H' t=some (.tup [x,.ref L])/\H' L=some (.tup (B x))) ts xs->Q (.ref acc) H'):
  LcW J H1 (zbi 0) zbm te 1 ix σ Q:=by
 intro acc ha
 refine⟨fun i m H=>m=xs.length-i/\i<=xs.length/\Same H1 H/\∃(ts:List Addr),H acc=some (.lst (ts.map V.ref))/\Paired (fun t x=>∃L,H t=some (.tup [x,.ref L])/\H L=some (.tup (B x))) ts (xs.take i),⟨xs.length,by simp,Nat.zero_le _,zac ha,[],zaa,.nil⟩, ?_⟩
 rintro i m H ⟨rfl,hi,kp,ts,hacc,hD⟩
 have o:=hok _ kp
 by_cases hlt:i<xs.length
 ·refine .inr ⟨Y.go i _ o hlt,fun x H' y=> ?_⟩
  obtain⟨rfl,hx⟩:=Y.yld i _ x H' o hlt y
  have hl:ts.length=i:=by rw[Paired.length hD,List.length_take];(first|lia|omega)
  refine⟨⟨rfl,fun j v e=> ?_⟩, ?_⟩
  ·cases j with
   |zero=>cases e
   |succ j=>exact e
  ·unfold zbm
   dsimp only
   rw[if_pos rfl]
   refine he x H' (List.mem_of_getElem? hx) kp _ (fun t L H4 ht4 hL4 k4=> ?_)
   have h4:=k4 _ _ hacc
   have tk:∀{b:Addr} {ys:List V},H4 b=some (.tup ys)->(upd H4 acc (.lst (ts.map V.ref++[.ref t]))) b=some (.tup ys):=fun e=>by rw[zan (zhe e h4 (fun z=>nomatch z))];exact e
   refine⟨_,h4,by rw[List.length_map];(first|lia|omega),xs.length-(i+1),by (first|lia|omega),rfl,hlt,zav (kp.trans k4) ha,ts++[t],by rw[zaa,List.map_append];rfl, ?_⟩
   rw[List.take_succ,hx]
   refine Paired.append (Paired.mapP hD fun t' x' h=> ?_) (.cons ⟨L,tk ht4,tk hL4⟩ .nil)
   obtain⟨L',q1,q2⟩:=h
   exact⟨L',tk (k4 _ _ q1),tk (k4 _ _ q2)⟩
 ·have e:i=xs.length:=by (first|lia|omega)
  subst e
  rw[List.take_length] at hD
  exact .inl ⟨Y.stop _ o,fin acc ts H ha kp hacc hD⟩
noncomputable def shV (p:Int×Int):List V:=[.int p.1,.int p.2]
noncomputable def shB (H:Hp)(kind:Str)(N:Int):V->List V
 | .ref w=>(match H w with|some (.tup vs)=>shV (oneA kind N (vs.map vInt))|_=>[])
 |_=>[]
theorem zjY {H:Hp}{kind:Str}{N:Int}{w:Addr}{r:List Int}(h:H w=some (.tup (r.map V.int))):shB H kind N (.ref w)=shV (oneA kind N r):=by
 show (match H w with|some (.tup vs)=>shV (oneA kind N (vs.map vInt))|_=>[])=_
 rw[h]
 show shV (oneA kind N ((r.map V.int).map vInt))=_
 rw[zeG]
noncomputable def ShAt (H:Hp)(D:Addr)(kind:Str)(N:Int)(parts:List (List Int)):Prop:=∃d,H D=some (.dT d)/\∀r∈parts,∃L,valV d (keyI r)=some (.ref L)/\H L=some (.tup (shV (oneA kind N r)))
theorem ShAt.same {H H':Hp}{D:Addr}{kind:Str}{N:Int}{parts:List (List Int)}(h:ShAt H D kind N parts)(s:Same H H'):ShAt H' D kind N parts:=by
 obtain⟨d,h1,h2⟩:=h
 exact⟨d,s _ _ h1,fun r hr=>by obtain⟨L,e1,e2⟩:=h2 r hr;exact⟨L,e1,s _ _ e2⟩⟩
theorem ziY {H0 H:Hp}{kind:Str}{N:Int}:∀{ts ws:List Addr} {parts:List (List Int)},RowsAt H0 ws parts->Same H0 H->Paired (fun t x=>∃L,H t=some (.tup [x,.ref L])/\H L=some (.tup (shB H0 kind N x))) ts (ws.map V.ref)->
  ∃kvs:List (List Key×V),Paired (PrK H) ts kvs/\kvs.map (·.1)=parts.map keyI/\∀kv∈kvs,∃(r:List Int) (L:Addr),kv.1=keyI r/\kv.2=.ref L/\H L=some (.tup (shV (oneA kind N r)))
 |[],[],[],.nil,_,.nil=>⟨[],.nil,rfl,fun _ h=>by cases h⟩
 |t::ts,w::ws,r::parts,.cons hw rw',s,.cons ht pt=>by
  obtain⟨kvs,h1,h2,h3⟩:=ziY rw' s pt
  obtain⟨L,e1,e2⟩:=ht
  have hw:H0 w=some (.tup (r.map V.int)):=hw
  rw[zjY hw] at e2
  refine⟨(keyI r,.ref L)::kvs,.cons ⟨w,e1,by rw[zg6];exact s _ _ hw⟩ h1,by rw[List.map_cons,List.map_cons,h2],fun kv hkv=> ?_⟩
  rcases List.mem_cons.mp hkv with rfl|hkv
  ·exact⟨r,L,rfl,rfl,e2⟩
  ·exact h3 kv hkv
theorem zlU {H:Hp}{D:Addr}{kind:Str}{N:Int}{parts:List (List Int)}{kvs:List (List Key×V)}(hD:H D=none)(hk:kvs.map (·.1)=parts.map keyI)(hg:∀kv∈kvs,∃(r:List Int) (L:Addr),kv.1=keyI r/\kv.2=.ref L/\H L=some (.tup (shV (oneA kind N r)))):ShAt (upd H D (.dT (zb1 [] kvs))) D kind N parts:=by
 have pv:=zeu (Good:=fun k v=>∃(r:List Int) (L:Addr),k=keyI r/\v=.ref L/\H L=some (.tup (shV (oneA kind N r)))) kvs [] hg (fun k v e=>by cases e)
 refine⟨_,zaa,fun r hr=> ?_⟩
 have hs:=pv.2 (keyI r) (.inl (by rw[hk];exact List.mem_map.mpr ⟨r,hr,rfl⟩))
 cases e:valV (zb1 [] kvs) (keyI r) with
 |none=>rw[e] at hs;cases hs
 |some v=>
  obtain⟨r',L,e1,e2,e3⟩:=pv.1 _ _ e
  have:=zjy e1
  subst this
  subst e2
  exact⟨L,rfl,zac hD _ _ e3⟩
theorem ShAt.get {H:Hp}{D b:Addr}{kind:Str}{N:Int}{parts:List (List Int)}{r:List Int}(h:ShAt H D kind N parts)(hr:r∈parts)(hb:H b=some (.tup (r.map V.int))):∃z,DGet H D (.ref b) (some (.ref z))/\Shr H z (oneA kind N r):=by
 obtain⟨d,h1,h2⟩:=h
 obtain⟨z,e1,e2⟩:=h2 r hr
 have:=DGet.t h1 (k:=keyI r) (b:=b) (by rw[zg6];exact hb)
 rw[e1] at this
 exact⟨z,this,e2⟩
end L2
namespace K85
open PySem PySem.Spec PyProof.Rows L2
noncomputable abbrev za3:Stmt:=top 85
noncomputable def spBP:Sp:=fun vs H Q _=>∃(kind:Str) (n:Nat),vs=[.str kind,.int (n:Int)]/\kind∈zaO/\n<7/\∀H',Same H H'->Q (.bl true) H'
theorem _root_.L2.rowsI_nth {H:Hp}:∀{zs:List Addr} {os:List (List Int)},RowsAt H zs os->∀(i:Nat),i<zs.length->∃z o,zs[i]? =some z/\os[i]? =some o/\H z=some (.tup (o.map V.int))
 |_,_,.nil,i,h=>absurd h (Nat.not_lt_zero i)
 |z::_,o::_,.cons h t,0,_=>⟨z,o,rfl,rfl,h⟩
 |_::_,_::_,.cons h t,i+1,hi=>by
  obtain⟨z,o,e1,e2,e3⟩:=L2.rowsI_nth t i (Nat.lt_of_succ_lt_succ hi)
  exact⟨z,o,e1,e2,e3⟩
section
variable {P:Program}{w:World}{K:PySem.W.Frag}{mg:Str->Option Value}{base:Heap}
theorem sc__law_by_parts:FnScope ["_law_kind", "_law_many", "_law_total", "_law_wide", "_law_some", "_law_alone", "_law_one", "_law_other", "_law_pair"] ["_law_kind", "_law_many"] (zab za3):=⟨rfl,rfl,rfl,by decide+kernel,rfl,by decide+kernel,by decide+kernel⟩
set_option maxHeartbeats 4000000 in
theorem zdi {f:Addr}{fd:FuncData}(F:Fun K "_law_by_parts" "_law_by_parts" za3 f fd)(T:Top mg)(TS:TopS mg)(Cparts:Cal P w K mg base 2 "parts" ["kind", "many"] zeF)(Cone_share:Cal P w K mg base 2 "one_share" ["kind", "many", "part"] zg2)(Cboth_share:Cal P w K mg base 5 "both_share" ["kind", "many", "one", "other"] zgi)(Cmean:Cal P w K mg base 5 "mean" ["kind", "many"] zg7)(Cspread:Cal P w K mg base 5 "spread" ["kind", "many"] zdr)(C_law_sum:Cal P w K mg base 2 "_law_sum" ["_law_one", "_law_two"] (spSh plZ))(C_law_less:Cal P w K mg base 2 "_law_less" ["_law_one", "_law_two"] (spSh leZ))(C_law_times:Cal P w K mg base 2 "_law_times" ["_law_one", "_law_two"] (spSh tmZ)):FnOk P w K mg base CX0 6 f fd ["_law_kind", "_law_many"] spBP:=by
 refine F.ok sc__law_by_parts (fun vs H Q E h=> ?_) (fun cdv A outer s H vs Q E hr h=> ?_)
 ·obtain ⟨kind,n,rfl,_⟩:=h
  rfl
 ·obtain ⟨kind,n,rfl,hk,hn,k⟩:=h
  have hu:=hr.units
  have hu1:=zk1 hr
  have hu8:=Nat.lt_of_le_of_lt (Nat.add_le_add_left (by decide:8<=64) _) hr.units
  refine⟨_,(zad (zdy (zaC (pa_cons (zaC (pa_cons pe_int (pa_cons pe_int pa_nil))) (pa_cons (zaC (pa_cons pe_int (pa_cons pe_int pa_nil))) pa_nil))) (zic (i:=2) (j:=3) rfl sc__law_by_parts.nd rfl rfl (Or.inl rfl) (Or.inl rfl) (Or.inl rfl) (Or.inl rfl)))
   (zad (zak (i:=4) sc__law_by_parts.nd rfl (Or.inl rfl) (pe_cal Cparts (hr.mono (by decide)) rfl (pa_cons (pv 0) (pa_cons (pv 1) pa_nil))))
   (zad (zak (i:=5) sc__law_by_parts.nd rfl (Or.inl rfl) (zam (zhx rfl hu8) (by rfl) TS.n_dict boot_dict (pa_cons (zcI (N':=["_law_part", "_law_kind", "_law_many"]) (n:=1) (ix:=[0,1]) rfl (CompScope.of (sc:=zab za3) (N:=["_law_kind", "_law_many", "_law_total", "_law_wide", "_law_some", "_law_alone", "_law_one", "_law_other", "_law_pair"]) (by decide+kernel) rfl rfl) (zbU (pv 4)) (fun _ _ _ _ _=>⟨(zaq (i:=0) (show (["_law_part", "_law_kind", "_law_many"]:List Str).Nodup by decide+kernel) rfl (Or.inl rfl)),zaW,(zaC (pa_cons (pv 0) (pa_cons (pe_cal Cone_share (hr.mono (by decide)) rfl (pa_cons (pv 1) (pa_cons (pv 2) (pa_cons (pv 0) pa_nil)))) pa_nil)))⟩)) pa_nil)))
   (zad (zbj PassesOwn.never rfl (zbU (pv 4)) (zaq (i:=6) sc__law_by_parts.nd rfl (Or.inl rfl))
    (zad (zak (i:=2) sc__law_by_parts.nd rfl (Or.inl rfl) (pe_cal C_law_sum (hr.mono (by decide)) rfl (pa_cons (pv 2) (pa_cons (zgh hu1 (pv 5) (pv 6) (fun _ _=>rfl)) pa_nil))))
    (zae (zbj PassesOwn.never rfl (zbU (pv 4)) (zaq (i:=7) sc__law_by_parts.nd rfl (Or.inl rfl))
     (zad (zak (i:=8) sc__law_by_parts.nd rfl (Or.inl rfl) (pe_cal Cboth_share (hr.mono (by decide)) rfl (pa_cons (pv 0) (pa_cons (pv 1) (pa_cons (pv 6) (pa_cons (pv 7) pa_nil))))))
     (zae (zak (i:=3) sc__law_by_parts.nd rfl (Or.inl rfl) (pe_cal C_law_sum (hr.mono (by decide)) rfl (pa_cons (pv 3) (pa_cons (pe_cal C_law_less (hr.mono (by decide)) rfl (pa_cons (pv 8) (pa_cons (pe_cal C_law_times (hr.mono (by decide)) rfl (pa_cons (zgh hu1 (pv 5) (pv 6) (fun _ _=>rfl)) (pa_cons (zgh hu1 (pv 5) (pv 7) (fun _ _=>rfl)) pa_nil))) pa_nil))) pa_nil))))))))))
   (zae (zaf (zkN (zbk (zgO hu) (pe_cal Cmean (hr.mono (by decide)) rfl (pa_cons (pv 0) (pa_cons (pv 1) pa_nil))) (pv 2) (zar _)) (zkM (zbk (zgO hu) (pe_cal Cspread (hr.mono (by decide)) rfl (pa_cons (pv 0) (pa_cons (pv 1) pa_nil))) (pv 3) (zar _)))))))))), ?_⟩
  have ok:=zkD n hn kind hk
  unfold okP at ok
  simp only[Bool.and_eq_true,decide_eq_true_eq] at ok
  obtain⟨⟨⟨⟨⟨o1,o2⟩,o3⟩,o4⟩,o5⟩,o6⟩:=ok
  have o5':=List.all_eq_true.mp o5
  have hpl:=zet (kind:=kind) (m:=n)
  have hpc:=zhu n hn kind hk
  generalize hPz:zaz kind n=Pz at*
  refine⟨by show 2<=sizeLine;decide,fun t1 ht1=>⟨by show 2<=sizeLine;decide,fun t2 ht2=>⟨by show 2<=sizeLine;decide,fun t3 ht3=> ?_⟩⟩⟩
  have st1:=zac (o:=.tup [.int 0,.int 1]) ht1
  have st2:=zac (o:=.tup [.int 0,.int 1]) ht2
  have st3:=zac (o:=.tup [.ref t1,.ref t2]) ht3
  have e1:upd (upd (upd H t1 (.tup [.int 0,.int 1])) t2 (.tup [.int 0,.int 1])) t3 (.tup [.ref t1,.ref t2]) t1=some (.tup [.int 0,.int 1]):=st3 _ _ (st2 _ _ zaa)
  have e2:upd (upd (upd H t1 (.tup [.int 0,.int 1])) t2 (.tup [.int 0,.int 1])) t3 (.tup [.ref t1,.ref t2]) t2=some (.tup [.int 0,.int 1]):=st3 _ _ zaa
  have e3:=@zaa (upd (upd H t1 (.tup [.int 0,.int 1])) t2 (.tup [.int 0,.int 1])) t3 (.tup [.ref t1,.ref t2])
  have s0:=(st1.trans st2).trans st3
  generalize upd (upd (upd H t1 (.tup [.int 0,.int 1])) t2 (.tup [.int 0,.int 1])) t3 (.tup [.ref t1,.ref t2])=G0 at e1 e2 e3 s0 ⊢
  refine⟨t3,_,rfl,SqT.of e3,rfl,_,_,rfl,_,_,rfl,rfl, ?_⟩
  refine⟨_,rfl,_,rfl,kind,n,rfl,hk,by (first|lia|omega),fun Pp ws G2 s2 hPp RP=> ?_⟩
  rw[hPz] at RP
  have hwl:ws.length=Pz.length:=Paired.length RP
  refine⟨_,rfl,Pp,rfl,⟨_,SqT.of hPp⟩, ?_⟩
  refine zkF (zci (xs:=ws.map V.ref)) (za9 (by rw[List.length_map];(first|lia|omega))) (shB G2 kind n) (fun G s'=>SqT.of (s' _ _ hPp)) (fun x G hx s' QT q'=> ?_) fun acc ts G3 hacc s3 hG3 hts=> ?_
  ·obtain ⟨w0,hw0,rfl⟩:=List.mem_map.mp hx
   obtain⟨r,hr1,hr2⟩:=RP.mem hw0
   refine⟨_,rfl,_,rfl,_,rfl,_,rfl,kind,n,w0,r,rfl,hk,s' _ _ hr2,hpl r (hPz▸hr1),fun z G4 s4 hz=> ?_⟩
   refine⟨by show 2<=sizeLine;decide,fun t ht=> ?_⟩
   have u:=zac (o:=.tup [.ref w0,.ref z]) ht
   exact q' t z _ zaa (by rw[zjY hr2];exact u _ _ hz) (s4.trans u)
  ·obtain ⟨kvs,pk,ek,gk⟩:=ziY RP s3 hts
   have kl:kvs.length=ts.length:=(Paired.length pk).symm
   have tl:ts.length=ws.length:=by have:=Paired.length hts;rw[List.length_map] at this;exact this
   refine⟨acc,ts,kvs,rfl,hG3,pk,za9 (by (first|lia|omega)),fun D hD=> ?_⟩
   have HA:ShAt (upd G3 D (.dT (zb1 [] kvs))) D kind n Pz:=zlU hD ek gk
   have sD:=s3.trans (zac (o:=.dT (zb1 [] kvs)) hD)
   generalize upd G3 D (.dT (zb1 [] kvs))=G5 at HA sD ⊢
   have hP5:=sD _ _ hPp
   have RP5:=RP.same sD
   have e15:=sD _ _ (s2 _ _ e1)
   have e25:=sD _ _ (s2 _ _ e2)
   have s05:=(s0.trans s2).trans sD
   clear hts pk ek gk hG3 hD s3 RP hPp
   refine⟨_,rfl,Pp,rfl,⟨_,SqT.of hP5⟩, ?_⟩
   refine zct (K:=K) (a:=Pp) (xs:=ws.map V.ref) (fun i σ G=>∃(tz wz:Addr) (c6 c7 c8:Option V),σ=[some (.str kind),some (.int (n:Int)),some (.ref tz),some (.ref wz),some (.ref Pp),some (.ref D),c6,c7,c8]/\Same G5 G/\Shr G tz ((Pz.take i).foldl (totF kind n) (0,1))/\Shr G wz ((Pz.take i).foldl (fun w p=>Pz.foldl (widF kind n p) w) (0,1))) ⟨_,_,_,_,_,rfl,Same.refl _,e15,e25⟩ (fun i σ G _ ⟨_,_,_,_,_,_,sG,_⟩=>SqT.of (sG _ _ hP5)) ?_ ?_
   ·rintro i x σ G hx ⟨tz,wz,c6,c7,c8,rfl,sG,htz,hwz⟩
    have hi:i<ws.length:=by
     have:=(List.getElem?_eq_some_iff.mp hx).1
     rwa [List.length_map] at this
    obtain⟨w1,r1,ew1,er1,hw1⟩:=rowsI_nth RP5 i hi
    obtain rfl:x=.ref w1:=by
     rw[List.getElem?_map,ew1] at hx
     exact (Option.some.inj hx).symm
    have hm1:=List.mem_of_getElem? er1
    have q1:=(Bool.and_eq_true _ _).mp (o5' r1 hm1)
    have q1':=List.all_eq_true.mp q1.2
    have HAG:=HA.same sG
    have hw1G:=sG _ _ hw1
    obtain⟨z1,g1,hz1⟩:=HAG.get hm1 hw1G
    have htk:Pz.take (i+1)=Pz.take i++[r1]:=by rw[List.take_succ,er1];rfl
    refine⟨_,rfl,_,rfl,_,rfl,D,_,rfl,g1,tz,z1,_,_,rfl,htz,hz1,zbS (ziW o1 i),zbS q1.1,fun zt G1 s1 hzt=> ?_⟩
    have hzt:Shr G1 zt ((Pz.take (i+1)).foldl (totF kind n) (0,1)):=by rw[htk,List.foldl_append];exact hzt
    have sc:=ziX o3 i r1 er1
    have s51:=sG.trans s1
    have hwz1:=s1 _ _ hwz
    refine⟨_,rfl,Pp,rfl,⟨_,SqT.of (s51 _ _ hP5)⟩, ?_⟩
    refine zct (K:=K) (a:=Pp) (xs:=ws.map V.ref) (fun j σ G'=>∃(wz':Addr) (c7 c8:Option V),σ=[some (.str kind),some (.int (n:Int)),some (.ref zt),some (.ref wz'),some (.ref Pp),some (.ref D),some (.ref w1),c7,c8]/\Same G1 G'/\Shr G' wz' ((Pz.take j).foldl (widF kind n r1) ((Pz.take i).foldl (fun w p=>Pz.foldl (widF kind n p) w) (0,1)))) ⟨_,_,_,rfl,Same.refl _,hwz1⟩ (fun j σ G' _ ⟨_,_,_,_,sG',_⟩=>SqT.of ((s51.trans sG') _ _ hP5)) ?_ ?_
    ·rintro j y σ G' hy ⟨wz',c7',c8',rfl,sG',hw'⟩
     have hj:j<ws.length:=by
      have:=(List.getElem?_eq_some_iff.mp hy).1
      rwa [List.length_map] at this
     obtain⟨w2,r2,ew2,er2,hw2⟩:=rowsI_nth RP5 j hj
     obtain rfl:y=.ref w2:=by
      rw[List.getElem?_map,ew2] at hy
      exact (Option.some.inj hy).symm
     have hm2:=List.mem_of_getElem? er2
     have q2:=(Bool.and_eq_true _ _).mp (o5' r2 hm2)
     have q12:=q1' r2 hm2
     simp only[Bool.and_eq_true] at q12
     obtain⟨⟨qb,qt⟩,ql⟩:=q12
     have s5G:=s51.trans sG'
     have htk2:Pz.take (j+1)=Pz.take j++[r2]:=by rw[List.take_succ,er2];rfl
     refine⟨_,rfl,_,rfl,_,rfl,_,rfl,kind,n,w1,w2,r1,r2,rfl,hk,by (first|lia|omega),s5G _ _ hw1,s5G _ _ hw2,hPz▸hm1,hPz▸hm2,fun zb Ga sa hzb=> ?_⟩
     have s5a:=s5G.trans sa
     have HAa:=HA.same s5a
     obtain⟨za1,ga1,hza1⟩:=HAa.get hm1 (s5a _ _ hw1)
     obtain⟨za2,ga2,hza2⟩:=HAa.get hm2 (s5a _ _ hw2)
     refine⟨_,rfl,_,rfl,_,rfl,_,rfl,D,_,rfl,ga1,_,rfl,_,rfl,D,_,rfl,ga2,za1,za2,_,_,rfl,hza1,hza2,zbS q1.1,zbS q2.1,fun zq Gb sb hzq=> ?_⟩
     refine⟨zb,zq,_,_,rfl,sb _ _ hzb,hzq,zbS qb,zbS qt,fun zl Gc sc' hzl=> ?_⟩
     have sac:=(sa.trans sb).trans sc'
     refine⟨wz',zl,_,_,rfl,sac _ _ hw',hzl,zbS (ziW sc j),zbS ql,fun zw Gd sd hzw=> ?_⟩
     refine⟨zw,_,_,rfl,sG'.trans (sac.trans sd), ?_⟩
     rw[htk2,List.foldl_append]
     exact hzw
    ·rintro σ G' ⟨wz',c7',c8',rfl,sG',hw'⟩
     rw[List.length_map,hwl,List.take_length] at hw'
     refine⟨zt,wz',_,_,_,rfl,s51.trans sG',sG' _ _ hzt, ?_⟩
     rw[htk,List.foldl_append]
     exact hw'
   ·rintro σ G ⟨tz,wz,c6,c7,c8,rfl,sG,htz,hwz⟩
    rw[List.length_map,hwl,List.take_length] at htz hwz
    rw[o2] at htz
    rw[o4] at hwz
    refine⟨_,rfl,_,rfl,kind,n,rfl,hk,by (first|lia|omega),by (first|lia|omega),fun _=>by (first|lia|omega),fun zm G6 s6 hzm=> ?_⟩
    refine⟨_,rfl,ziV hzm (s6 _ _ htz) ⟨_,rfl, ?_⟩⟩
    refine iteT ?_
    refine⟨_,rfl,_,rfl,kind,n,rfl,hk,by (first|lia|omega),by (first|lia|omega),fun _=>by (first|lia|omega),fun zd G7 s7 hzd=> ?_⟩
    exact⟨_,rfl,ziV hzd (s7 _ _ (s6 _ _ hwz)) (k _ (((s05.trans sG).trans s6).trans s7))⟩
end
end K85
namespace L2
open PySem PySem.Spec PyProof.Rows
noncomputable def kD:Key->PyData
 | .inl i=>.int i
 | .inr x=>.str x
mutual
inductive IsY (S:Addr->Prop) (H:Hp):V->PyData->Prop
 |non:IsY S H .non .none
 |bl (b:Bool):IsY S H (.bl b) (.bool b)
 |int (i:Int):IsY S H (.int i) (.int i)
 |str (x:Str):IsY S H (.str x) (.str x)
 |tup {a:Addr} {vs:List V} {ds:List PyData}:H a=some (.tup vs)->IsAllY S H vs ds->IsY S H (.ref a) (.tuple ds)
 |lst {a:Addr} {vs:List V} {ds:List PyData}:H a=some (.lst vs)->S a->IsAllY S H vs ds->IsY S H (.ref a) (.list ds)
 |d0 {a:Addr}:H a=some (.dK [])->IsY S H (.ref a) (.dict [])
 |d1 {a:Addr} {k:Key} {v:V} {d:PyData}:H a=some (.dK [(k,v)])->IsY S H v d->IsY S H (.ref a) (.dict [(kD k,d)])
inductive IsAllY (S:Addr->Prop) (H:Hp):List V->List PyData->Prop
 |nil:IsAllY S H [] []
 |cons {v:V} {vs:List V} {d:PyData} {ds:List PyData}:IsY S H v d->IsAllY S H vs ds->IsAllY S H (v::vs) (d::ds)
end
section
variable {X:Cx}{pins:List (Addr×Obj)}{σ:St}{H:Hp}{s:Shared}
end
noncomputable def tD1 (k1:Str)(t1:TE):TE:=fun σ H Q=>∀d,H d=none->t1 σ (upd H d (.dK [])) fun v1 H1=>H1 d=some (.dK [])/\Q (.ref d) (upd H1 d (.dK [(.inr k1,v1)]))
theorem pe_dict1 {X:Cx}{pos:Pos}{k1:Str}{a1 b1:Expr}{t1:TE}(q1:PE X a1 (tC (.str k1)))(p1:PE X b1 t1):PE X (.Dict [some a1] [b1] pos) (tD1 k1 t1):=by
 intro pins s σ H Q I h
 have hd0:H s.heap.objs.size=none:=I.hok.fresh (Nat.le_refl _)
 have h:=h _ hd0
 refine wpAny_Dict_walk (knd:=zaE X.prog X.w) rfl rfl (by simp) (by show 1<=15;decide) ?_
 have I0:Inv X pins σ (upd H s.heap.objs.size (.dK [])) {s with heap:=s.heap.push {cls:=.type "dict",data:=.dict #[]}}:=I.laid (a:=s.heap.objs.size) (o:=.dK []) (t':=s.toks) (fun _ _ q=>Heap.get?_push_of_some _ q) (Nat.le_refl _) (zjw s.heap I.big)
 refine evalPairs_cons (thn (q1 pins _ σ _ (fun x H'=>x=.str k1/\H'=upd H s.heap.objs.size (.dK [])) I0 ⟨rfl,rfl⟩) fun u1 s1 zq=> ?_)
 obtain⟨x1,H1,I1,r1,e1,e1'⟩:=zq
 subst e1 e1'
 refine wpAny_bind (thn (p1 pins s1 σ _ _ I1 h) fun w1 s2 ⟨v1,H2,I2,rv1,hd6,h⟩=>wpAny_bind (wpAny_standAt (wpAny_pure (evalPairs_nil ?_))))
 refine⟨[(.inr k1,w1)],⟨zjv (k:=.inr k1) r1,rfl,trivial⟩, ?_,fun h' dd' hs=> ?_⟩
 ·obtain ⟨z,hd,vs,rel,dd⟩:=zlm I2.hok hd6
  cases rel
  exact dd
 ·have em:merged [] [((Sum.inr k1:Key),w1)]=[(.inr k1,w1)]:=by
   unfold merged stored
   simp
  rw[em] at dd'
  obtain⟨z,hd,vs,rel,dd⟩:=zlm I2.hok hd6
  have he:∃q,h'.get? s.heap.objs.size=some q:=let ⟨q,_,_,hq,_⟩:=dd';⟨q,hq⟩
  refine⟨.ref s.heap.objs.size,_,ziG I2 (by rw[hd6];exact True.intro) hs he (zln (by show 1<=sizeLine;decide) hd (.cons ⟨rfl,rv1⟩ .nil) dd'),rfl,h⟩
noncomputable def lit:Nat->Expr->Option PyData
 |0,_=>none
 |_+1,.Constant .none _ _=>some .none
 |_+1,.Constant (.bool b) _ _=>some (.bool b)
 |_+1,.Constant (.int i) _ _=>some (.int i)
 |_+1,.Constant (.str x) _ _=>some (.str x)
 |_+1,.UnaryOp .USub (.Constant (.int i) _ _) _=>some (.int (-i))
 |n+1,.Tuple es _ _=>if es.length<=100 then (es.mapM (lit n)).map PyData.tuple else none
 |n+1,.List es _=>if es.length<=100 then (es.mapM (lit n)).map PyData.list else none
 |_+1,.Dict [] [] _=>some (.dict [])
 |_+1,_=>none
structure PEw (X:Cx) (e:Expr) (t:TE):Prop where
 h:PE X e t
structure PAw (X:Cx) (e:List Expr) (t:TA):Prop where
 h:PA X e t
structure PTw (X:Cx) (e:Expr) (t:TT):Prop where
 h:PT X e t
structure PWw (X:Cx) (e:Expr) (t:TT):Prop where
 h:PW X e t
structure PSw (X:Cx) (e:Stmt) (t:TS):Prop where
 h:PS X e t
structure PSsw (X:Cx) (e:List Stmt) (t:TS):Prop where
 h:PSs X e t
end L2
namespace Wr
open PySem PySem.Spec PyProof.Rows L2
theorem pe_int {X:Cx}{i j pos}:PEw X (.Constant (.int i) j pos) (tC (.int i)):=⟨L2.pe_int⟩
theorem pe_str {X:Cx}{x j pos}:PEw X (.Constant (.str x) j pos) (tC (.str x)):=⟨L2.pe_str⟩
theorem pv {X:Cx}(i:Nat){x:Str}{pos:Pos}(hN:X.N[i]? =some x:=by rfl)(hv:Vis X.env.scope x:=by first|exact Or.inl rfl|exact Or.inr (Or.inl rfl)|exact Or.inr (Or.inr rfl))(hd:(x==("__debug__" :Str))=false:=by decide)(hcd:(x==("__classdict__" :Str))=false:=by decide):PEw X (.Name x pos) (tVar i):=⟨L2.pv i hN hv hd hcd⟩
theorem pe_un {X:Cx}{a:PySem.Expr}{ta:TE}{pos:PySem.Pos}{op:UnaryOp}{r:V->Hp->VK->Prop}(ho:UnR X (unaryOp op) r)(ha:PEw X a ta):PEw X (.UnaryOp op a pos) (tUn r ta):=⟨L2.pe_un ho ha.h⟩
theorem pe_lst {X:Cx}{es:List PySem.Expr}{t:TA}{pos:PySem.Pos}(h:PAw X es t):PEw X (.List es pos) (tLst t):=⟨L2.pe_lst h.h⟩
theorem pe_cal {X:Cx}{k:Nat}{ps:List PySem.Str}{sp:Sp}{x:PySem.Str}{p pos:PySem.Pos}{e:PySem.Expr}{es:List PySem.Expr}{t:TA}(C:Cal X.prog X.w X.K X.mg X.base k x ps sp)(hr:Room k X.A)(hg:Gl X x)(ha:PAw X (e::es) t)(hdb:(x==("__debug__" :Str))=false:=by decide)(he:starEach (e::es) X.env=(false,eval e X.env)::starEach es X.env:=by rfl)(hpl:(backTo pos (starEach es X.env)).any (·.1)=false:=by rfl):PEw X (.Call (.Name x p) (e::es) [] pos) (fun σ H Q=>t σ H fun vs H1=>sp vs H1 Q E0):=⟨L2.pe_cal C hr hg ha.h hdb he hpl⟩
theorem pa_nil {X:Cx}:PAw X [] tNil:=⟨L2.pa_nil⟩
theorem pa_cons {X:Cx}{e:PySem.Expr}{es:List PySem.Expr}{te:TE}{t:TA}(ha:PEw X e te)(hr:PAw X es t)(hs:starEach (e::es) X.env=(false,eval e X.env)::starEach es X.env:=by rfl):PAw X (e::es) (zkU te t):=⟨L2.pa_cons ha.h hr.h hs⟩
theorem pe_dict1 {X:Cx}{pos:Pos}{k1:Str}{a1 b1:Expr}{t1:TE}(q1:PEw X a1 (tC (.str k1)))(p1:PEw X b1 t1):PEw X (.Dict [some a1] [b1] pos) (tD1 k1 t1):=⟨L2.pe_dict1 q1.h p1.h⟩
end Wr
namespace L2
open PySem PySem.Spec PyProof.Rows
theorem zjI {J:It}{Ok:Hp->Prop}{xs:List V}{tt:TT}{te:TE}{ix:List Nat}{σ:L2.St}{H1:Hp}{Q:VK}(Y:Yields J Ok xs)(small:xs.length<sizeLine)(b:Nat->Bool)(hok:∀H,Same H1 H->Ok H)
  (ht:∀(i:Nat) (x:V) (H:Hp),xs[i]? =some x->Same H1 H->∀(QT:Bool->Hp->Prop),(∀H',Same H H'->QT (b i) H')->tt (some x::ix.map fun i=>σ.getD i none) H QT)
  (he:∀(i:Nat) (x:V) (H:Hp),xs[i]? =some x->Same H1 H->∀(QT:VK),QT x H->te (some x::ix.map fun i=>σ.getD i none) H QT)
  (fin:∀acc (ys:List V) H',H1 acc=none->Same H1 H'->H' acc=some (.lst ys)->ys.length=((List.range xs.length).filter b).length->Q (.ref acc) H'):
  LcW J H1 (zbi 0) tt te 1 ix σ Q:=by
 intro acc ha
 refine⟨fun i m H=>m=xs.length-i/\i<=xs.length/\Same H1 H/\∃ys:List V,H acc=some (.lst ys)/\ys.length=((List.range i).filter b).length,⟨xs.length,by simp,Nat.zero_le _,zac ha,[],zaa,rfl⟩, ?_⟩
 rintro i m H ⟨rfl,hi,kp,ys,hacc,hl⟩
 have o:=hok _ kp
 by_cases hlt:i<xs.length
 ·refine .inr ⟨Y.go i _ o hlt,fun x H' y=> ?_⟩
  obtain⟨rfl,hx⟩:=Y.yld i _ x H' o hlt y
  have hyl:ys.length<=i:=by
   rw[hl]
   exact Nat.le_trans (List.length_filter_le _ _) (by rw[List.length_range];exact Nat.le_refl _)
  refine⟨⟨rfl,fun j v e=> ?_⟩, ?_⟩
  ·cases j with
   |zero=>cases e
   |succ j=>exact e
  ·refine ht i x H' hx kp _ (fun H3 s3=> ?_)
   cases hb:b i with
   |false=>
    rw[if_neg (by decide)]
    exact⟨xs.length-(i+1),by (first|lia|omega),rfl,hlt,kp.trans s3,ys,s3 _ _ hacc,by rw[List.range_succ,List.filter_append,List.length_append,List.filter_cons,hb];simpa using hl⟩
   |true=>
    rw[if_pos rfl]
    refine he i x H3 hx (kp.trans s3) _ ?_
    refine⟨_,s3 _ _ hacc,by (first|lia|omega),xs.length-(i+1),by (first|lia|omega),rfl,hlt,zav (kp.trans s3) ha,ys++[x],by rw[zaa],by rw[List.range_succ,List.filter_append,List.length_append,List.filter_cons,hb,List.length_append,hl];rfl⟩
 ·have e:i=xs.length:=by (first|lia|omega)
  subst e
  exact .inl ⟨Y.stop _ o,fin acc ys H ha kp hacc hl⟩
theorem zgB {α:Type}(f:α->Bool)(d:α)(l:List α):((List.range l.length).filter fun i=>f (l.getD i d)).length=l.countP f:=by
 have e:l=(List.range l.length).map fun k=>l.getD k d:=by
  apply List.ext_getElem?
  intro i
  rw[List.getElem?_map]
  by_cases hi:i<l.length
  ·rw [List.getElem?_range hi,List.getElem?_eq_getElem hi]
   simp[hi]
  ·rw [List.getElem?_eq_none (by (first|lia|omega)),List.getElem?_eq_none (by simpa using hi)]
   rfl
 conv=>rhs;rw[e]
 rw[List.countP_map,List.countP_eq_length_filter]
 rfl
end L2
namespace Wr
open PySem PySem.Spec PyProof.Rows L2
theorem pe_dget2 {X:Cx}{o e f:Expr}{td ty tx:TE}{apos cpos:Pos}(hu:X.A.units+1<cLine)(ho:PEw X o td)(he:PEw X e ty)(hf:PEw X f tx)(m:M2 X o "get" apos e f cpos):PEw X (.Call (.Attribute o "get" apos) [e,f] [] cpos) (zjV td ty tx):=⟨L2.pe_dget2 hu ho.h he.h hf.h m⟩
end Wr
namespace K85
open PySem PySem.Spec PyProof.Rows L2
noncomputable abbrev zgC:Stmt:=top 86
noncomputable def zjJ (K:PySem.W.Frag):Sp:=fun vs H Q _=>∃(a:Addr) (ns:List Int),vs=[.ref a]/\SqL K H a (ns.map V.int)/\ns.length<=63/\∀H',Q (.bl true) H'
section
variable {P:Program}{w:World}{K:PySem.W.Frag}{mg:Str->Option Value}{base:Heap}
theorem zkG {kind:Str}(h:kind∈zaO):kind∈zg9:=by
 rcases zat h with rfl|rfl|rfl|rfl|rfl<;>decide
theorem zgD:∀n:Nat,n<25->∀kind∈zaO,(zaz kind n).length<=1000:=by decide+kernel
theorem zgE {n:Nat}{kind:Str}(hn:n<25)(hk:kind∈zaO):(zaz kind n).length<=1000:=zgD n hn kind hk
theorem sc_law:FnScope ["_law_script", "_law_k", "_law_pot_here", "_law_kind", "_law_many", "_law_few", "_law_order_here", "_law_had"] ["_law_script"] (zab zgC):=⟨rfl,rfl,rfl,by decide+kernel,rfl,by decide+kernel,by decide+kernel⟩
set_option maxHeartbeats 4000000 in
theorem zly {f:Addr}{fd:FuncData}(F:Fun K "law" "law" zgC f fd)(T:Top mg)(C_law_pot:Cal P w K mg base 1 "_law_pot" ["_law_script", "_law_k"] (ziw K))(C_law_number:Cal P w K mg base 3 "_law_number" ["_law_pot_here", "_law_some"] zdO)(C_law_by_counts:Cal P w K mg base 6 "_law_by_counts" ["_law_kind", "_law_many"] spBC)(C_law_by_parts:Cal P w K mg base 6 "_law_by_parts" ["_law_kind", "_law_many"] spBP)(C_law_order:Cal P w K mg base 2 "_law_order" ["_law_pot_here", "_law_many"] ziT)(Cparts:Cal P w K mg base 2 "parts" ["kind", "many"] zeF)(Chas:Cal P w K mg base 2 "has" ["kind", "part", "order"] ziO)(Ccount:Cal P w K mg base 5 "count" ["kind", "order"] zgt):FnOk P w K mg base CX0 7 f fd ["_law_script"] (zjJ K):=by
 refine F.ok sc_law (fun vs H Q E h=> ?_) (fun cdv A outer s H vs Q E hr h=> ?_)
 ·obtain ⟨a,ns,rfl,_⟩:=h
  rfl
 ·obtain ⟨a,ns,rfl,hS,hl,k⟩:=h
  have hu1:=zk1 hr
  refine⟨_,(zad (zbj PassesOwn.never rfl (zaA rfl T.n_range (pa_cons (zao (zbX rfl) (by rfl) T.n_max boot_max (pa_cons pe_int (pa_cons (zao (zhV rfl) (by rfl) T.n_min boot_min (pa_cons (zao zas (by rfl) T.n_len PySem.boot_len (pa_cons (pv 0) pa_nil)) (pa_cons pe_int pa_nil))) pa_nil))) pa_nil)) (zaq (i:=1) sc_law.nd rfl (Or.inl rfl))
    (zad (zak (i:=2) sc_law.nd rfl (Or.inl rfl) (pe_cal C_law_pot (hr.mono (by decide)) rfl (pa_cons (pv 0) (pa_cons (pv 1) pa_nil))))
    (zae (zbj PassesOwn.never rfl (zfU (pe_lst (pa_cons pe_str (pa_cons pe_str (pa_cons pe_str (pa_cons pe_str (pa_cons pe_str pa_nil))))))) (zaq (i:=3) sc_law.nd rfl (Or.inr rfl))
     (zad (zak (i:=4) sc_law.nd rfl (Or.inl rfl) (PEw.h (Wr.pe_cal C_law_number (hr.mono (by decide)) rfl (Wr.pa_cons (Wr.pv 2) (Wr.pa_cons (Wr.pe_lst (Wr.pa_cons Wr.pe_int (Wr.pa_cons Wr.pe_int (Wr.pa_cons (Wr.pe_un zel (Wr.pe_dget2 hu1 (Wr.pe_dict1 Wr.pe_str Wr.pe_int) (Wr.pv 3) Wr.pe_int ⟨rfl,rfl,rfl,rfl⟩)) Wr.pa_nil)))) Wr.pa_nil)))))
     (zad (zak (i:=5) sc_law.nd rfl (Or.inl rfl) (pe_cal C_law_number (hr.mono (by decide)) rfl (pa_cons (pv 2) (pa_cons (pe_lst (pa_cons pe_int (pa_cons (pe_un zel pe_int) pa_nil))) pa_nil))))
     (zad (zcs (PW.pt (zi0 (zhO (zgG (pe_cal C_law_by_counts (hr.mono (by decide)) rfl (pa_cons (pv 3) (pa_cons (pv 4) pa_nil))))) (zgH (zhO (zgG (pe_cal C_law_by_parts (hr.mono (by decide)) rfl (pa_cons (pv 3) (pa_cons (pv 5) pa_nil))))))))
      (zae (zaf zhf))
      zaV)
     (zad (zak (i:=6) sc_law.nd rfl (Or.inr rfl) (pe_cal C_law_order (hr.mono (by decide)) rfl (pa_cons (pv 2) (pa_cons (pv 4) pa_nil))))
     (zad (zi6 (i:=7) rfl sc_law.nd rfl rfl (N':=["_law_part", "_law_kind", "_law_order_here"]) (n:=1) (ix:=[3,6]) rfl (CompScope.of (sc:=zab zgC) (N:=["_law_script", "_law_k", "_law_pot_here", "_law_kind", "_law_many", "_law_few", "_law_order_here", "_law_had"]) (by decide+kernel) rfl rfl) (zbU (pe_cal Cparts (hr.mono (by decide)) rfl (pa_cons (pv 3) (pa_cons (pv 4) pa_nil)))) (fun _ _ _ _ _=>⟨(zaq (i:=0) (show (["_law_part", "_law_kind", "_law_order_here"]:List Str).Nodup by decide+kernel) rfl (Or.inl rfl)),(zdD (zgG (pe_cal Chas (hr.mono (by decide)) rfl (pa_cons (pv 1) (pa_cons (pv 0) (pa_cons (pv 2) pa_nil)))))),(pv 0)⟩))
     (zae (zcs (zau zi1 (zao zas (by rfl) T.n_len PySem.boot_len (pa_cons (pv 7) pa_nil)) (pe_cal Ccount (hr.mono (by decide)) rfl (pa_cons (pv 3) (pa_cons (pv 6) pa_nil))) (zar _))
      (zae (zaf zhf))
      zaV)))))))))))
   (zae (zaf zhf))), ?_⟩
  refine⟨_,rfl,a,_,rfl,.inl hS,_,_,rfl,_,_,rfl,_,rfl, ?_⟩
  rw[zal]
  have hj:∃n:Nat,n<=4/\(if (if (3:Int)<(ns.length:Int) then (3:Int) else (ns.length:Int))>1 then (if (3:Int)<(ns.length:Int) then (3:Int) else (ns.length:Int)) else 1)=(n:Int):=by
   refine⟨(if (if (3:Int)<(ns.length:Int) then (3:Int) else (ns.length:Int))>1 then (if (3:Int)<(ns.length:Int) then (3:Int) else (ns.length:Int)) else 1).toNat, ?_, ?_⟩
   ·split<;>split at*<;>(first|lia|omega)
   ·split<;>split at*<;>(first|lia|omega)
  obtain⟨n,hn,en⟩:=hj
  rw[en]
  refine⟨by (first|lia|omega),by (first|lia|omega), ?_⟩
  rw[Int.toNat_natCast]
  refine zbW (fun i σ H2=>∃(c1 c2 c3 c4 c5 c6 c7:Option V),σ=[some (.ref a),c1,c2,c3,c4,c5,c6,c7]/\Same H H2) ?_ ?_ ?_
  ·exact⟨none,none,none,none,none,none,none,rfl,Same.refl H⟩
  ·rintro i σ H2 hi ⟨c1,c2,c3,c4,c5,c6,c7,rfl,sm⟩
   refine⟨_,rfl,_,rfl,a,ns,_,rfl,sm.seq hS,by (first|lia|omega),by (first|lia|omega),fun p H3 s3 hp hp0=> ?_⟩
   have hnp:∀{b:Addr} {o:HO},H b=some o->b≠p:=fun {b} {o} hb e=>by
    rw[e] at hb
    rw[sm _ _ hb] at hp0
    cases hp0
   have KS:∀{G G':Hp},Same H G->Keep p p G G'->Same H G':=fun s' k' b o hb=>k' b o (s' _ _ hb) (hnp hb) (hnp hb)
   refine⟨by show 5<=sizeLine;decide,fun L hL=>⟨L,rfl,⟨_,SqL.of zaa⟩, ?_⟩⟩
   have sL:=zac (o:=.lst [.str "rounds",.str "stays",.str "rises",.str "highs",.str "crossed"]) hL
   have hLp:=hp.ne_new hL
   have hLG:=@zaa H3 L (.lst [.str "rounds",.str "stays",.str "rises",.str "highs",.str "crossed"])
   have SH:=(sm.trans s3).trans sL
   have hpL:=hp.same sL
   generalize upd H3 L (.lst [.str "rounds",.str "stays",.str "rises",.str "highs",.str "crossed"])=H4 at sL hLG SH hpL ⊢
   refine zgJ (K:=K) (a:=L) (xs:=[.str "rounds",.str "stays",.str "rises",.str "highs",.str "crossed"]) (fun j σ G=>∃(c3 c4 c5 c6 c7:Option V),σ=[some (.ref a),some (.int (0+(i:Int))),some (.ref p),c3,c4,c5,c6,c7]/\Same H G/\G L=some (.lst [.str "rounds",.str "stays",.str "rises",.str "highs",.str "crossed"])/\Pot2 G p) ⟨_,_,_,_,_,rfl,SH,hLG,hpL⟩ (fun j σ G _ ⟨_,_,_,_,_,_,_,hLG,_⟩=>SqL.of hLG) ?_ ?_
   ·rintro j x σ G hx ⟨c3',c4',c5',c6',c7',rfl,SG,hLG',pG⟩
    obtain⟨kd,rfl,hk⟩:∃kd:Str,x=.str kd/\kd∈zaO:=by
     have hx:=List.mem_of_getElem? hx
     simp only[List.mem_cons,List.not_mem_nil,or_false] at hx
     rcases hx with rfl|rfl|rfl|rfl|rfl<;>exact⟨_,rfl,by decide⟩
    have hnpG:∀{b:Addr} {xs:List V},G b=some (.tup xs)->b≠p:=fun {b} {xs} e z=>by
     obtain⟨u,v,q1,_⟩:=pG
     rw[z,q1] at e
     cases e
    obtain⟨c,hc1,hc2,hc3⟩:∃c:Int,(valV [((Sum.inr ("crossed" :Str):Key),V.int 16)] (Sum.inr kd)).getD (V.int 24)=V.int c/\(c=16∨c=24)/\(kd= "crossed" ->c=16):=by
     rcases zat hk with rfl|rfl|rfl|rfl|rfl<;>first|exact⟨16,rfl,.inl rfl,fun _=>rfl⟩|exact⟨24,rfl,.inr rfl,fun h=>absurd h (by decide)⟩
    refine⟨_,rfl,fun d hd=>⟨zaa,d,rfl,.inl ⟨_,.inl zaa⟩,_,rfl,_,DGet.k (k:=Sum.inr kd) zaa,c,hc1,by show 3<=sizeLine;decide,fun l hl=> ?_⟩⟩
    have sa:Same G (upd (upd (upd G d (.dK [])) d (.dK [(.inr "crossed",.int 16)])) l (.lst [.int 9,.int 17,.int (-c)])):=(zav (zac hd) hd).trans (zac hl)
    have hlG:=@zaa (upd (upd G d (.dK [])) d (.dK [(.inr "crossed",.int 16)])) l (.lst [.int 9,.int 17,.int (-c)])
    have hlp:l≠p:=(pG.same (zav (o:=.dK [(.inr "crossed",.int 16)]) (zac hd) hd)).ne_new hl
    have pGa:=pG.same sa
    refine⟨p,l,[9,17,-c],rfl,hlG,hlp,by show 0<3;decide,by show 3<=1000;decide,fun n hn=> ?_,pGa,fun m hm dN Gb m1 m2 pGb kb=> ?_⟩
    ·simp only[List.mem_cons,List.not_mem_nil,or_false] at hn
     rcases hn with rfl|rfl|rfl<;>(first|lia|omega)
    have hdN:0<=dN/\dN<25/\(kd= "crossed" ->dN<17):=by
     simp only[List.mem_cons,List.not_mem_nil,or_false] at hm
     rcases hm with rfl|rfl|rfl
     ·have:=m1 (by decide)
      exact⟨by (first|lia|omega),by (first|lia|omega),fun _=>by (first|lia|omega)⟩
     ·have:=m1 (by decide)
      exact⟨by (first|lia|omega),by (first|lia|omega),fun _=>by (first|lia|omega)⟩
     ·have:=m2 (by (first|lia|omega))
      exact⟨by (first|lia|omega),by (first|lia|omega),fun h=>by have:=hc3 h;(first|lia|omega)⟩
    obtain⟨N,rfl⟩:∃N:Nat,dN=(N:Int):=⟨dN.toNat,by (first|lia|omega)⟩
    have Sb:=KS (SG.trans sa) kb
    have hLb:=kb _ _ (sa _ _ hLG') hLp hLp
    refine⟨_,rfl,_,rfl,by show 2<=sizeLine;decide,fun l2 hl2=> ?_⟩
    have s2:=zac (o:=.lst [.int 6,.int (-6)]) hl2
    refine⟨p,l2,[6,-6],rfl,zaa,pGb.ne_new hl2,by show 0<2;decide,by show 2<=1000;decide,fun n hn=> ?_,pGb.same s2,fun m' hm' dF Gc f1 f2 pGc kc=> ?_⟩
    ·simp only[List.mem_cons,List.not_mem_nil,or_false] at hn
     rcases hn with rfl|rfl<;>decide
    have hdF:0<=dF/\dF<7:=by
     simp only[List.mem_cons,List.not_mem_nil,or_false] at hm'
     rcases hm' with rfl|rfl
     ·have:=f1 (by decide)
      (first|lia|omega)
     ·have:=f2 (by decide)
      (first|lia|omega)
    obtain⟨M,rfl⟩:∃M:Nat,dF=(M:Int):=⟨dF.toNat,by (first|lia|omega)⟩
    have Sc:=KS (Sb.trans s2) kc
    have hLc:=kc _ _ (s2 _ _ hLb) hLp hLp
    refine⟨_,rfl,_,rfl,kd,N,rfl,hk,by (first|lia|omega),fun h=>by have:=hdN.2.2 h;(first|lia|omega),fun Gd sd=>⟨_,rfl,ifS rfl ?_⟩⟩
    refine⟨_,rfl,_,rfl,kd,M,rfl,hk,by (first|lia|omega),fun Ge se=>⟨_,rfl,ifS rfl ?_⟩⟩
    have sde:=sd.trans se
    refine⟨_,rfl,_,rfl,p,N,rfl,by (first|lia|omega),pGc.same sde,fun z ys Gf hz hO pGf kf=> ?_⟩
    have Sf:=KS (Sc.trans sde) kf
    have hLf:=kf _ _ (sde _ _ hLc) hLp hLp
    refine⟨_,rfl,_,rfl,kd,N,rfl,hk,by (first|lia|omega),fun Pp ws Gg sg hPp RP=>⟨Pp,rfl,⟨_,SqT.of hPp⟩, ?_⟩⟩
    have hwl:ws.length=(zaz kd N).length:=Paired.length RP
    have hzg:=sg _ _ hz
    refine zjI (zci (xs:=ws.map V.ref)) (za9 (by rw[List.length_map,hwl];exact zgE (by (first|lia|omega)) hk)) (fun j=>hasO kd ((zaz kd N).getD j []) ys) (fun G' s'=>SqT.of (s' _ _ hPp)) (fun j x G' hx s' QT q=> ?_) (fun j x G' hx s' QT q=>⟨_,rfl,q⟩) (fun acc vs' Gh hacc sh hvs hlen=> ?_)
    ·have hj:j<ws.length:=by
      have:=(List.getElem?_eq_some_iff.mp hx).1
      rwa [List.length_map] at this
     obtain⟨w0,r,ew,er,hr0⟩:=L2.rowsI_nth RP j hj
     obtain rfl:x=.ref w0:=by
      rw[List.getElem?_map,ew] at hx
      exact (Option.some.inj hx).symm
     have eg:(zaz kd N).getD j []=r:=by rw[List.getD_eq_getElem?_getD,er];rfl
     rw[eg] at q
     exact⟨_,rfl,_,rfl,_,rfl,kd,w0,z,r,ys,N,rfl,hk,s' _ _ hr0,s' _ _ hzg,hO,by (first|lia|omega),ziS hk r (List.mem_of_getElem? er),fun H' s''=>⟨_,rfl,q H' s''⟩⟩
    ·refine ⟨_,rfl,acc,vs',rfl,.inl (SqL.of hvs), ?_⟩
     refine⟨_,rfl,_,rfl,kd,z,ys,N,rfl,zkG hk,sh _ _ hzg,hO,by (first|lia|omega),fun Gi si=> ?_⟩
     have ec:(vs'.length:Int)=ziN kd ys:=by
      rw[hlen,List.length_map,hwl,zgB (fun p=>hasO kd p ys) [] (zaz kd N),List.countP_eq_length_filter]
      exact zhI hO hk
     rw[ec]
     refine⟨rfl,_,rfl,ifS (zhc _) ?_⟩
     have sgi:=(sg.trans sh).trans si
     exact⟨_,_,_,_,_,rfl,Sf.trans sgi,sgi _ _ hLf,pGf.same sgi⟩
   ·rintro σ G ⟨c3',c4',c5',c6',c7',rfl,SG,_⟩
    exact⟨_,_,_,_,_,_,_,rfl,SG⟩
  ·rintro σ G ⟨c1,c2,c3,c4,c5,c6,c7,rfl,_⟩
   exact k _
end
end K85
namespace L2
open PySem PySem.Spec PyProof.Rows
section
variable {K:PySem.W.Frag}{x qual:Str}{st:Stmt}{f:Addr}{fd:FuncData}
theorem Fun.b1 {p0:Str}(F:Fun K x qual st f fd)(h:∀(kV doc pm:Value) (an:Option Addr) (cdv ct:Value) (a0:Value),bindArgs (PySem.W.fnOf x qual (zbl st) (zbd st) (zab st) .none kV doc pm an cdv ct) ⟨[a0],[]⟩=pure (([p0]:List Str).zip [a0])):Binds K fd [p0] []:=
 F.binds fun kV doc pm an cdv ct us hl=>match us,hl with|[a0],_=>h kV doc pm an cdv ct a0
theorem Fun.b2 {p0 p1:Str}(F:Fun K x qual st f fd)(h:∀(kV doc pm:Value) (an:Option Addr) (cdv ct:Value) (a0 a1:Value),bindArgs (PySem.W.fnOf x qual (zbl st) (zbd st) (zab st) .none kV doc pm an cdv ct) ⟨[a0,a1],[]⟩=pure (([p0,p1]:List Str).zip [a0,a1])):Binds K fd [p0,p1] []:=
 F.binds fun kV doc pm an cdv ct us hl=>match us,hl with|[a0,a1],_=>h kV doc pm an cdv ct a0 a1
theorem Fun.b3 {p0 p1 p2:Str}(F:Fun K x qual st f fd)(h:∀(kV doc pm:Value) (an:Option Addr) (cdv ct:Value) (a0 a1 a2:Value),bindArgs (PySem.W.fnOf x qual (zbl st) (zbd st) (zab st) .none kV doc pm an cdv ct) ⟨[a0,a1,a2],[]⟩=pure (([p0,p1,p2]:List Str).zip [a0,a1,a2])):Binds K fd [p0,p1,p2] []:=
 F.binds fun kV doc pm an cdv ct us hl=>match us,hl with|[a0,a1,a2],_=>h kV doc pm an cdv ct a0 a1 a2
theorem Fun.b4 {p0 p1 p2 p3:Str}(F:Fun K x qual st f fd)(h:∀(kV doc pm:Value) (an:Option Addr) (cdv ct:Value) (a0 a1 a2 a3:Value),bindArgs (PySem.W.fnOf x qual (zbl st) (zbd st) (zab st) .none kV doc pm an cdv ct) ⟨[a0,a1,a2,a3],[]⟩=pure (([p0,p1,p2,p3]:List Str).zip [a0,a1,a2,a3])):Binds K fd [p0,p1,p2,p3] []:=
 F.binds fun kV doc pm an cdv ct us hl=>match us,hl with|[a0,a1,a2,a3],_=>h kV doc pm an cdv ct a0 a1 a2 a3
end
end L2
namespace K85
open PySem PySem.Spec PyProof.Rows L2
set_option maxHeartbeats 8000000 in
theorem all_mk {l:PySem.W.OpenLaw}{w:World}{K:PySem.W.Frag}{h:Heap}{mg:Str->Option Value}{fa C_ROWS C_MEANS C_PARTS C_ONE_SHARES C_SPREADS C_BOTH_SHARES C_HAVING C_COUNTERS T_FIRST_ROW g_rounds_row g_stays_row g_rises_row g_crossed_row g_highs_mean g_stays_mean g_rises_mean g_crossed_mean g_numbers_below g_places_but_last g_place_pairs g_round_share g_stay_share g_half_share g_high_share g_highs_spread g_stays_spread g_rises_spread g_crossed_spread g_both_rounds g_both_stays g_both_rises g_both_highs g_both_crossed g_is_round_greatest g_is_stay g_is_rise g_is_high g_is_crossed g_rounds_in g_stays_in g_rises_in g_highs_in g_crossed_in g_longest_in:Addr}(X:K.In h)(G:h.Ns mainGlobals mg)(hfa:mg "law" =some (.ref fa))(TK:TopK K)(TYK:TopSK K)(a_ROWS:PySem.W.nsIn K mainGlobals "ROWS" =some (some (.ref C_ROWS)))(GD_ROWS:GDict K w.params C_ROWS [("rounds",g_rounds_row),("stays",g_stays_row),("rises",g_rises_row),("highs",g_rounds_row),("crossed",g_crossed_row)])(a_MEANS:PySem.W.nsIn K mainGlobals "MEANS" =some (some (.ref C_MEANS)))(GD_MEANS:GDict K w.params C_MEANS [("rounds",g_highs_mean),("stays",g_stays_mean),("rises",g_rises_mean),("highs",g_highs_mean),("crossed",g_crossed_mean)])(a_PARTS:PySem.W.nsIn K mainGlobals "PARTS" =some (some (.ref C_PARTS)))(GD_PARTS:GDict K w.params C_PARTS [("rounds",g_numbers_below),("stays",g_numbers_below),("rises",g_places_but_last),("highs",g_numbers_below),("crossed",g_place_pairs)])(a_ONE_SHARES:PySem.W.nsIn K mainGlobals "ONE_SHARES" =some (some (.ref C_ONE_SHARES)))(GD_ONE_SHARES:GDict K w.params C_ONE_SHARES [("rounds",g_round_share),("stays",g_stay_share),("rises",g_half_share),("highs",g_high_share),("crossed",g_half_share)])(a_SPREADS:PySem.W.nsIn K mainGlobals "SPREADS" =some (some (.ref C_SPREADS)))(GD_SPREADS:GDict K w.params C_SPREADS [("rounds",g_highs_spread),("stays",g_stays_spread),("rises",g_rises_spread),("highs",g_highs_spread),("crossed",g_crossed_spread)])(a_BOTH_SHARES:PySem.W.nsIn K mainGlobals "BOTH_SHARES" =some (some (.ref C_BOTH_SHARES)))(GD_BOTH_SHARES:GDict K w.params C_BOTH_SHARES [("rounds",g_both_rounds),("stays",g_both_stays),("rises",g_both_rises),("highs",g_both_highs),("crossed",g_both_crossed)])(a_HAVING:PySem.W.nsIn K mainGlobals "HAVING" =some (some (.ref C_HAVING)))(GD_HAVING:GDict K w.params C_HAVING [("rounds",g_is_round_greatest),("stays",g_is_stay),("rises",g_is_rise),("highs",g_is_high),("crossed",g_is_crossed)])(a_COUNTERS:PySem.W.nsIn K mainGlobals "COUNTERS" =some (some (.ref C_COUNTERS)))(GD_COUNTERS:GDict K w.params C_COUNTERS [("rounds",g_rounds_in),("stays",g_stays_in),("rises",g_rises_in),("highs",g_highs_in),("crossed",g_crossed_in),("longest",g_longest_in)])(a_FIRST_ROW:PySem.W.nsIn K mainGlobals "FIRST_ROW" =some (some (.ref T_FIRST_ROW)))(h_FIRST_ROW:∀H,SqT K H T_FIRST_ROW ([1].map V.int))(n_rounds_row:PySem.W.nsIn K mainGlobals "rounds_row" =some (some (.ref g_rounds_row)))(n_stays_row:PySem.W.nsIn K mainGlobals "stays_row" =some (some (.ref g_stays_row)))(n_rises_row:PySem.W.nsIn K mainGlobals "rises_row" =some (some (.ref g_rises_row)))(n_crossed_row:PySem.W.nsIn K mainGlobals "crossed_row" =some (some (.ref g_crossed_row)))(n_highs_mean:PySem.W.nsIn K mainGlobals "highs_mean" =some (some (.ref g_highs_mean)))(n_stays_mean:PySem.W.nsIn K mainGlobals "stays_mean" =some (some (.ref g_stays_mean)))(n_rises_mean:PySem.W.nsIn K mainGlobals "rises_mean" =some (some (.ref g_rises_mean)))(n_crossed_mean:PySem.W.nsIn K mainGlobals "crossed_mean" =some (some (.ref g_crossed_mean)))(n_numbers_below:PySem.W.nsIn K mainGlobals "numbers_below" =some (some (.ref g_numbers_below)))(n_places_but_last:PySem.W.nsIn K mainGlobals "places_but_last" =some (some (.ref g_places_but_last)))(n_place_pairs:PySem.W.nsIn K mainGlobals "place_pairs" =some (some (.ref g_place_pairs)))(n_round_share:PySem.W.nsIn K mainGlobals "round_share" =some (some (.ref g_round_share)))(n_stay_share:PySem.W.nsIn K mainGlobals "stay_share" =some (some (.ref g_stay_share)))(n_half_share:PySem.W.nsIn K mainGlobals "half_share" =some (some (.ref g_half_share)))(n_high_share:PySem.W.nsIn K mainGlobals "high_share" =some (some (.ref g_high_share)))(n_highs_spread:PySem.W.nsIn K mainGlobals "highs_spread" =some (some (.ref g_highs_spread)))(n_stays_spread:PySem.W.nsIn K mainGlobals "stays_spread" =some (some (.ref g_stays_spread)))(n_rises_spread:PySem.W.nsIn K mainGlobals "rises_spread" =some (some (.ref g_rises_spread)))(n_crossed_spread:PySem.W.nsIn K mainGlobals "crossed_spread" =some (some (.ref g_crossed_spread)))(n_both_rounds:PySem.W.nsIn K mainGlobals "both_rounds" =some (some (.ref g_both_rounds)))(n_both_stays:PySem.W.nsIn K mainGlobals "both_stays" =some (some (.ref g_both_stays)))(n_both_rises:PySem.W.nsIn K mainGlobals "both_rises" =some (some (.ref g_both_rises)))(n_both_highs:PySem.W.nsIn K mainGlobals "both_highs" =some (some (.ref g_both_highs)))(n_both_crossed:PySem.W.nsIn K mainGlobals "both_crossed" =some (some (.ref g_both_crossed)))(n_is_round_greatest:PySem.W.nsIn K mainGlobals "is_round_greatest" =some (some (.ref g_is_round_greatest)))(n_is_stay:PySem.W.nsIn K mainGlobals "is_stay" =some (some (.ref g_is_stay)))(n_is_rise:PySem.W.nsIn K mainGlobals "is_rise" =some (some (.ref g_is_rise)))(n_is_high:PySem.W.nsIn K mainGlobals "is_high" =some (some (.ref g_is_high)))(n_is_crossed:PySem.W.nsIn K mainGlobals "is_crossed" =some (some (.ref g_is_crossed)))(n_rounds_in:PySem.W.nsIn K mainGlobals "rounds_in" =some (some (.ref g_rounds_in)))(n_stays_in:PySem.W.nsIn K mainGlobals "stays_in" =some (some (.ref g_stays_in)))(n_rises_in:PySem.W.nsIn K mainGlobals "rises_in" =some (some (.ref g_rises_in)))(n_highs_in:PySem.W.nsIn K mainGlobals "highs_in" =some (some (.ref g_highs_in)))(n_crossed_in:PySem.W.nsIn K mainGlobals "crossed_in" =some (some (.ref g_crossed_in)))(n_longest_in:PySem.W.nsIn K mainGlobals "longest_in" =some (some (.ref g_longest_in)))
  (d__law_pot:Def K "_law_pot" zc4) (d__law_next:Def K "_law_next" zcy) (d__law_of:Def K "_law_of" zdW) (d__law_number:Def K "_law_number" zbN) (d_number_at:Def K "number_at" zcC) (d_rounds_row:Def K "rounds_row" zbw) (d_stays_row:Def K "stays_row" zbQ) (d_rises_row:Def K "rises_row" zbR) (d_crossed_row:Def K "crossed_row" zbg) (d_next_row:Def K "next_row" zda) (d_steps:Def K "steps" zgx) (d_told:Def K "told" ziU) (d__law_low:Def K "_law_low" zc8) (d__law_fall:Def K "_law_fall" zcz) (d_numbers_below:Def K "numbers_below" zax) (d_parts:Def K "parts" zdX) (d_high_share:Def K "high_share" zbc) (d_one_share:Def K "one_share" zbq) (d_greatest_divisor:Def K "greatest_divisor" za0) (d_share_of:Def K "share_of" zc3) (d_plus:Def K "plus" ziI) (d_highs_mean:Def K "highs_mean" zb4) (d_stays_mean:Def K "stays_mean" zb5) (d_rises_mean:Def K "rises_mean" zb6) (d_crossed_mean:Def K "crossed_mean" zbC) (d_mean:Def K "mean" ziM) (d_less:Def K "less" ziJ) (d_times:Def K "times" zgj) (d_highs_spread:Def K "highs_spread" zbz) (d_stays_spread:Def K "stays_spread" zbA) (d_rises_spread:Def K "rises_spread" zbB) (d_crossed_spread:Def K "crossed_spread" zbe) (d_spread:Def K "spread" zeH) (d__law_less:Def K "_law_less" zcD) (d__law_times:Def K "_law_times" zcg) (d__law_by_counts:Def K "_law_by_counts" zaG) (d_places_but_last:Def K "places_but_last" zaL) (d_place_pairs:Def K "place_pairs" zbf) (d_round_share:Def K "round_share" zbO) (d_stay_share:Def K "stay_share" zb2) (d_half_share:Def K "half_share" zb3) (d_both_rounds:Def K "both_rounds" zbP) (d_both_stays:Def K "both_stays" zb8) (d_both_rises:Def K "both_rises" zb9) (d_both_highs:Def K "both_highs" zb7) (d_both_crossed:Def K "both_crossed" zbD) (d_both_share:Def K "both_share" zca) (d__law_sum:Def K "_law_sum" zdb) (d__law_by_parts:Def K "_law_by_parts" za3) (d__law_order:Def K "_law_order" zcf) (d_is_round_greatest:Def K "is_round_greatest" zaQ) (d_is_stay:Def K "is_stay" zd6) (d_is_rise:Def K "is_rise" zd7) (d_is_high:Def K "is_high" zcV) (d_is_crossed:Def K "is_crossed" zcd) (d_has:Def K "has" zky) (d_round_from:Def K "round_from" zcc) (d_rounds_met:Def K "rounds_met" zcb) (d_rounds_of:Def K "rounds_of" zcA) (d_rounds_in:Def K "rounds_in" zcB) (d_stays_in:Def K "stays_in" zcl) (d_rises_in:Def K "rises_in" zcm) (d_highs_in:Def K "highs_in" zc9) (d_crossed_in:Def K "crossed_in" zbu) (d_longest_in:Def K "longest_in" zbv) (d_count:Def K "count" zgv) (d_law:Def K "law" zgC):
  ∃fd:FuncData,(∀(s:Shared) (v:Value),BindsTo s fd ⟨[v],[]⟩ [("_law_script",v)])/\∀base:Heap,K.In base->base.Ns mainGlobals mg->FnOk l.prog w K mg base CX0 7 fa fd ["_law_script"] (zjJ K):=by
 have T:Top mg:=TK.top X G
 have TY:TopS mg:=TYK.top X G
 obtain⟨f__law_pot,e__law_pot,F__law_pot,m__law_pot⟩:=d__law_pot.fn X G
 obtain⟨f__law_next,e__law_next,F__law_next,m__law_next⟩:=d__law_next.fn X G
 obtain⟨f__law_of,e__law_of,F__law_of,m__law_of⟩:=d__law_of.fn X G
 obtain⟨f__law_number,e__law_number,F__law_number,m__law_number⟩:=d__law_number.fn X G
 obtain⟨f_number_at,e_number_at,F_number_at,m_number_at⟩:=d_number_at.fn X G
 obtain⟨f_rounds_row,e_rounds_row,F_rounds_row,m_rounds_row⟩:=d_rounds_row.fn X G
 obtain⟨f_stays_row,e_stays_row,F_stays_row,m_stays_row⟩:=d_stays_row.fn X G
 obtain⟨f_rises_row,e_rises_row,F_rises_row,m_rises_row⟩:=d_rises_row.fn X G
 obtain⟨f_crossed_row,e_crossed_row,F_crossed_row,m_crossed_row⟩:=d_crossed_row.fn X G
 obtain⟨f_next_row,e_next_row,F_next_row,m_next_row⟩:=d_next_row.fn X G
 obtain⟨f_steps,e_steps,F_steps,m_steps⟩:=d_steps.fn X G
 obtain⟨f_told,e_told,F_told,m_told⟩:=d_told.fn X G
 obtain⟨f__law_low,e__law_low,F__law_low,m__law_low⟩:=d__law_low.fn X G
 obtain⟨f__law_fall,e__law_fall,F__law_fall,m__law_fall⟩:=d__law_fall.fn X G
 obtain⟨f_numbers_below,e_numbers_below,F_numbers_below,m_numbers_below⟩:=d_numbers_below.fn X G
 obtain⟨f_parts,e_parts,F_parts,m_parts⟩:=d_parts.fn X G
 obtain⟨f_high_share,e_high_share,F_high_share,m_high_share⟩:=d_high_share.fn X G
 obtain⟨f_one_share,e_one_share,F_one_share,m_one_share⟩:=d_one_share.fn X G
 obtain⟨f_greatest_divisor,e_greatest_divisor,F_greatest_divisor,m_greatest_divisor⟩:=d_greatest_divisor.fn X G
 obtain⟨f_share_of,e_share_of,F_share_of,m_share_of⟩:=d_share_of.fn X G
 obtain⟨f_plus,e_plus,F_plus,m_plus⟩:=d_plus.fn X G
 obtain⟨f_highs_mean,e_highs_mean,F_highs_mean,m_highs_mean⟩:=d_highs_mean.fn X G
 obtain⟨f_stays_mean,e_stays_mean,F_stays_mean,m_stays_mean⟩:=d_stays_mean.fn X G
 obtain⟨f_rises_mean,e_rises_mean,F_rises_mean,m_rises_mean⟩:=d_rises_mean.fn X G
 obtain⟨f_crossed_mean,e_crossed_mean,F_crossed_mean,m_crossed_mean⟩:=d_crossed_mean.fn X G
 obtain⟨f_mean,e_mean,F_mean,m_mean⟩:=d_mean.fn X G
 obtain⟨f_less,e_less,F_less,m_less⟩:=d_less.fn X G
 obtain⟨f_times,e_times,F_times,m_times⟩:=d_times.fn X G
 obtain⟨f_highs_spread,e_highs_spread,F_highs_spread,m_highs_spread⟩:=d_highs_spread.fn X G
 obtain⟨f_stays_spread,e_stays_spread,F_stays_spread,m_stays_spread⟩:=d_stays_spread.fn X G
 obtain⟨f_rises_spread,e_rises_spread,F_rises_spread,m_rises_spread⟩:=d_rises_spread.fn X G
 obtain⟨f_crossed_spread,e_crossed_spread,F_crossed_spread,m_crossed_spread⟩:=d_crossed_spread.fn X G
 obtain⟨f_spread,e_spread,F_spread,m_spread⟩:=d_spread.fn X G
 obtain⟨f__law_less,e__law_less,F__law_less,m__law_less⟩:=d__law_less.fn X G
 obtain⟨f__law_times,e__law_times,F__law_times,m__law_times⟩:=d__law_times.fn X G
 obtain⟨f__law_by_counts,e__law_by_counts,F__law_by_counts,m__law_by_counts⟩:=d__law_by_counts.fn X G
 obtain⟨f_places_but_last,e_places_but_last,F_places_but_last,m_places_but_last⟩:=d_places_but_last.fn X G
 obtain⟨f_place_pairs,e_place_pairs,F_place_pairs,m_place_pairs⟩:=d_place_pairs.fn X G
 obtain⟨f_round_share,e_round_share,F_round_share,m_round_share⟩:=d_round_share.fn X G
 obtain⟨f_stay_share,e_stay_share,F_stay_share,m_stay_share⟩:=d_stay_share.fn X G
 obtain⟨f_half_share,e_half_share,F_half_share,m_half_share⟩:=d_half_share.fn X G
 obtain⟨f_both_rounds,e_both_rounds,F_both_rounds,m_both_rounds⟩:=d_both_rounds.fn X G
 obtain⟨f_both_stays,e_both_stays,F_both_stays,m_both_stays⟩:=d_both_stays.fn X G
 obtain⟨f_both_rises,e_both_rises,F_both_rises,m_both_rises⟩:=d_both_rises.fn X G
 obtain⟨f_both_highs,e_both_highs,F_both_highs,m_both_highs⟩:=d_both_highs.fn X G
 obtain⟨f_both_crossed,e_both_crossed,F_both_crossed,m_both_crossed⟩:=d_both_crossed.fn X G
 obtain⟨f_both_share,e_both_share,F_both_share,m_both_share⟩:=d_both_share.fn X G
 obtain⟨f__law_sum,e__law_sum,F__law_sum,m__law_sum⟩:=d__law_sum.fn X G
 obtain⟨f__law_by_parts,e__law_by_parts,F__law_by_parts,m__law_by_parts⟩:=d__law_by_parts.fn X G
 obtain⟨f__law_order,e__law_order,F__law_order,m__law_order⟩:=d__law_order.fn X G
 obtain⟨f_is_round_greatest,e_is_round_greatest,F_is_round_greatest,m_is_round_greatest⟩:=d_is_round_greatest.fn X G
 obtain⟨f_is_stay,e_is_stay,F_is_stay,m_is_stay⟩:=d_is_stay.fn X G
 obtain⟨f_is_rise,e_is_rise,F_is_rise,m_is_rise⟩:=d_is_rise.fn X G
 obtain⟨f_is_high,e_is_high,F_is_high,m_is_high⟩:=d_is_high.fn X G
 obtain⟨f_is_crossed,e_is_crossed,F_is_crossed,m_is_crossed⟩:=d_is_crossed.fn X G
 obtain⟨f_has,e_has,F_has,m_has⟩:=d_has.fn X G
 obtain⟨f_round_from,e_round_from,F_round_from,m_round_from⟩:=d_round_from.fn X G
 obtain⟨f_rounds_met,e_rounds_met,F_rounds_met,m_rounds_met⟩:=d_rounds_met.fn X G
 obtain⟨f_rounds_of,e_rounds_of,F_rounds_of,m_rounds_of⟩:=d_rounds_of.fn X G
 obtain⟨f_rounds_in,e_rounds_in,F_rounds_in,m_rounds_in⟩:=d_rounds_in.fn X G
 obtain⟨f_stays_in,e_stays_in,F_stays_in,m_stays_in⟩:=d_stays_in.fn X G
 obtain⟨f_rises_in,e_rises_in,F_rises_in,m_rises_in⟩:=d_rises_in.fn X G
 obtain⟨f_highs_in,e_highs_in,F_highs_in,m_highs_in⟩:=d_highs_in.fn X G
 obtain⟨f_crossed_in,e_crossed_in,F_crossed_in,m_crossed_in⟩:=d_crossed_in.fn X G
 obtain⟨f_longest_in,e_longest_in,F_longest_in,m_longest_in⟩:=d_longest_in.fn X G
 obtain⟨f_count,e_count,F_count,m_count⟩:=d_count.fn X G
 obtain⟨f_law,e_law,F_law,m_law⟩:=d_law.fn X G
 have b__law_pot:Binds K _ ["_law_script", "_law_k"] []:=F__law_pot.b2 fun _ _ _ _ _ _ _ _=>rfl
 have b__law_next:Binds K _ ["_law_pot_here", "_law_many"] []:=F__law_next.b2 fun _ _ _ _ _ _ _ _=>rfl
 have b__law_of:Binds K _ ["_law_pot_here", "_law_some"] []:=F__law_of.b2 fun _ _ _ _ _ _ _ _=>rfl
 have b__law_number:Binds K _ ["_law_pot_here", "_law_some"] []:=F__law_number.b2 fun _ _ _ _ _ _ _ _=>rfl
 have b_number_at:Binds K _ ["row", "place"] []:=F_number_at.b2 fun _ _ _ _ _ _ _ _=>rfl
 have b_rounds_row:Binds K _ ["many", "ahead"] []:=F_rounds_row.b2 fun _ _ _ _ _ _ _ _=>rfl
 have b_stays_row:Binds K _ ["many", "ahead"] []:=F_stays_row.b2 fun _ _ _ _ _ _ _ _=>rfl
 have b_rises_row:Binds K _ ["many", "ahead"] []:=F_rises_row.b2 fun _ _ _ _ _ _ _ _=>rfl
 have b_crossed_row:Binds K _ ["many", "ahead"] []:=F_crossed_row.b2 fun _ _ _ _ _ _ _ _=>rfl
 have b_next_row:Binds K _ ["kind", "many", "ahead"] []:=F_next_row.b3 fun _ _ _ _ _ _ _ _ _=>rfl
 have b_steps:Binds K _ ["kind", "many"] []:=F_steps.b2 fun _ _ _ _ _ _ _ _=>rfl
 have b_told:Binds K _ ["kind", "many"] []:=F_told.b2 fun _ _ _ _ _ _ _ _=>rfl
 have b__law_low:Binds K _ ["_law_over", "_law_under"] []:=F__law_low.b2 fun _ _ _ _ _ _ _ _=>rfl
 have b__law_fall:Binds K _ ["_law_number_here"] []:=F__law_fall.b1 fun _ _ _ _ _ _ _=>rfl
 have b_numbers_below:Binds K _ ["many"] []:=F_numbers_below.b1 fun _ _ _ _ _ _ _=>rfl
 have b_parts:Binds K _ ["kind", "many"] []:=F_parts.b2 fun _ _ _ _ _ _ _ _=>rfl
 have b_high_share:Binds K _ ["many", "part"] []:=F_high_share.b2 fun _ _ _ _ _ _ _ _=>rfl
 have b_one_share:Binds K _ ["kind", "many", "part"] []:=F_one_share.b3 fun _ _ _ _ _ _ _ _ _=>rfl
 have b_greatest_divisor:Binds K _ ["over", "under"] []:=F_greatest_divisor.b2 fun _ _ _ _ _ _ _ _=>rfl
 have b_share_of:Binds K _ ["over", "under"] []:=F_share_of.b2 fun _ _ _ _ _ _ _ _=>rfl
 have b_plus:Binds K _ ["one", "other"] []:=F_plus.b2 fun _ _ _ _ _ _ _ _=>rfl
 have b_highs_mean:Binds K _ ["many"] []:=F_highs_mean.b1 fun _ _ _ _ _ _ _=>rfl
 have b_stays_mean:Binds K _ ["many"] []:=F_stays_mean.b1 fun _ _ _ _ _ _ _=>rfl
 have b_rises_mean:Binds K _ ["many"] []:=F_rises_mean.b1 fun _ _ _ _ _ _ _=>rfl
 have b_crossed_mean:Binds K _ ["many"] []:=F_crossed_mean.b1 fun _ _ _ _ _ _ _=>rfl
 have b_mean:Binds K _ ["kind", "many"] []:=F_mean.b2 fun _ _ _ _ _ _ _ _=>rfl
 have b_less:Binds K _ ["one", "other"] []:=F_less.b2 fun _ _ _ _ _ _ _ _=>rfl
 have b_times:Binds K _ ["one", "other"] []:=F_times.b2 fun _ _ _ _ _ _ _ _=>rfl
 have b_highs_spread:Binds K _ ["many"] []:=F_highs_spread.b1 fun _ _ _ _ _ _ _=>rfl
 have b_stays_spread:Binds K _ ["many"] []:=F_stays_spread.b1 fun _ _ _ _ _ _ _=>rfl
 have b_rises_spread:Binds K _ ["many"] []:=F_rises_spread.b1 fun _ _ _ _ _ _ _=>rfl
 have b_crossed_spread:Binds K _ ["many"] []:=F_crossed_spread.b1 fun _ _ _ _ _ _ _=>rfl
 have b_spread:Binds K _ ["kind", "many"] []:=F_spread.b2 fun _ _ _ _ _ _ _ _=>rfl
 have b__law_less:Binds K _ ["_law_one", "_law_two"] []:=F__law_less.b2 fun _ _ _ _ _ _ _ _=>rfl
 have b__law_times:Binds K _ ["_law_one", "_law_two"] []:=F__law_times.b2 fun _ _ _ _ _ _ _ _=>rfl
 have b__law_by_counts:Binds K _ ["_law_kind", "_law_many"] []:=F__law_by_counts.b2 fun _ _ _ _ _ _ _ _=>rfl
 have b_places_but_last:Binds K _ ["many"] []:=F_places_but_last.b1 fun _ _ _ _ _ _ _=>rfl
 have b_place_pairs:Binds K _ ["many"] []:=F_place_pairs.b1 fun _ _ _ _ _ _ _=>rfl
 have b_round_share:Binds K _ ["many", "part"] []:=F_round_share.b2 fun _ _ _ _ _ _ _ _=>rfl
 have b_stay_share:Binds K _ ["many", "part"] []:=F_stay_share.b2 fun _ _ _ _ _ _ _ _=>rfl
 have b_half_share:Binds K _ ["many", "part"] []:=F_half_share.b2 fun _ _ _ _ _ _ _ _=>rfl
 have b_both_rounds:Binds K _ ["many", "one", "other"] []:=F_both_rounds.b3 fun _ _ _ _ _ _ _ _ _=>rfl
 have b_both_stays:Binds K _ ["many", "one", "other"] []:=F_both_stays.b3 fun _ _ _ _ _ _ _ _ _=>rfl
 have b_both_rises:Binds K _ ["many", "one", "other"] []:=F_both_rises.b3 fun _ _ _ _ _ _ _ _ _=>rfl
 have b_both_highs:Binds K _ ["many", "one", "other"] []:=F_both_highs.b3 fun _ _ _ _ _ _ _ _ _=>rfl
 have b_both_crossed:Binds K _ ["many", "one", "other"] []:=F_both_crossed.b3 fun _ _ _ _ _ _ _ _ _=>rfl
 have b_both_share:Binds K _ ["kind", "many", "one", "other"] []:=F_both_share.b4 fun _ _ _ _ _ _ _ _ _ _=>rfl
 have b__law_sum:Binds K _ ["_law_one", "_law_two"] []:=F__law_sum.b2 fun _ _ _ _ _ _ _ _=>rfl
 have b__law_by_parts:Binds K _ ["_law_kind", "_law_many"] []:=F__law_by_parts.b2 fun _ _ _ _ _ _ _ _=>rfl
 have b__law_order:Binds K _ ["_law_pot_here", "_law_many"] []:=F__law_order.b2 fun _ _ _ _ _ _ _ _=>rfl
 have b_is_round_greatest:Binds K _ ["part", "order"] []:=F_is_round_greatest.b2 fun _ _ _ _ _ _ _ _=>rfl
 have b_is_stay:Binds K _ ["part", "order"] []:=F_is_stay.b2 fun _ _ _ _ _ _ _ _=>rfl
 have b_is_rise:Binds K _ ["part", "order"] []:=F_is_rise.b2 fun _ _ _ _ _ _ _ _=>rfl
 have b_is_high:Binds K _ ["part", "order"] []:=F_is_high.b2 fun _ _ _ _ _ _ _ _=>rfl
 have b_is_crossed:Binds K _ ["part", "order"] []:=F_is_crossed.b2 fun _ _ _ _ _ _ _ _=>rfl
 have b_has:Binds K _ ["kind", "part", "order"] []:=F_has.b3 fun _ _ _ _ _ _ _ _ _=>rfl
 have b_round_from:Binds K _ ["order", "first"] []:=F_round_from.b2 fun _ _ _ _ _ _ _ _=>rfl
 have b_rounds_met:Binds K _ ["order", "firsts"] []:=F_rounds_met.b2 fun _ _ _ _ _ _ _ _=>rfl
 have b_rounds_of:Binds K _ ["order"] []:=F_rounds_of.b1 fun _ _ _ _ _ _ _=>rfl
 have b_rounds_in:Binds K _ ["order"] []:=F_rounds_in.b1 fun _ _ _ _ _ _ _=>rfl
 have b_stays_in:Binds K _ ["order"] []:=F_stays_in.b1 fun _ _ _ _ _ _ _=>rfl
 have b_rises_in:Binds K _ ["order"] []:=F_rises_in.b1 fun _ _ _ _ _ _ _=>rfl
 have b_highs_in:Binds K _ ["order"] []:=F_highs_in.b1 fun _ _ _ _ _ _ _=>rfl
 have b_crossed_in:Binds K _ ["order"] []:=F_crossed_in.b1 fun _ _ _ _ _ _ _=>rfl
 have b_longest_in:Binds K _ ["order"] []:=F_longest_in.b1 fun _ _ _ _ _ _ _=>rfl
 have b_count:Binds K _ ["kind", "order"] []:=F_count.b2 fun _ _ _ _ _ _ _ _=>rfl
 have e:fa=f_law:=by
  have q:=hfa.symm.trans m_law
  cases q
  rfl
 subst e
 obtain⟨oc,od,kV,doc,pm,an,cdv,ct,osl,rfl,lk,hcd⟩:=F_law.ex
 refine⟨PySem.W.fnOf "law" "law" (zbl zgC) (zbd zgC) (zab zgC) .none kV doc pm an cdv ct,fun s v=>.of_eq rfl,fun base _ _=> ?_⟩
 have C_law_pot:Cal l.prog w K mg base 1 "_law_pot" ["_law_script", "_law_k"] (ziw K):=⟨f__law_pot,e__law_pot,zgl F__law_pot T,m__law_pot,F__law_pot.kp,b__law_pot⟩
 have C_law_next:Cal l.prog w K mg base 1 "_law_next" ["_law_pot_here", "_law_many"] (zdN):=⟨f__law_next,e__law_next,zfA F__law_next,m__law_next,F__law_next.kp,b__law_next⟩
 have C_law_of:Cal l.prog w K mg base 2 "_law_of" ["_law_pot_here", "_law_some"] (zkl):=⟨f__law_of,e__law_of,zhz F__law_of T C_law_next,m__law_of,F__law_of.kp,b__law_of⟩
 have C_law_number:Cal l.prog w K mg base 3 "_law_number" ["_law_pot_here", "_law_some"] (zdO):=⟨f__law_number,e__law_number,zea F__law_number C_law_next C_law_of,m__law_number,F__law_number.kp,b__law_number⟩
 have Cnumber_at:Cal l.prog w K mg base 1 "number_at" ["row", "place"] (zdM K):=⟨f_number_at,e_number_at,zfJ F_number_at T,m_number_at,F_number_at.kp,b_number_at⟩
 have Crounds_row:Cal l.prog w K mg base 2 "rounds_row" ["many", "ahead"] (zdf K 60 zbZ):=⟨f_rounds_row,e_rounds_row,zfb F_rounds_row T Cnumber_at,m_rounds_row,F_rounds_row.kp,b_rounds_row⟩
 have Cstays_row:Cal l.prog w K mg base 2 "stays_row" ["many", "ahead"] (zdf K 60 zcN):=⟨f_stays_row,e_stays_row,zfM F_stays_row T Cnumber_at,m_stays_row,F_stays_row.kp,b_stays_row⟩
 have Crises_row:Cal l.prog w K mg base 2 "rises_row" ["many", "ahead"] (zdf K 60 zcO):=⟨f_rises_row,e_rises_row,zfN F_rises_row T Cnumber_at,m_rises_row,F_rises_row.kp,b_rises_row⟩
 have Ccrossed_row:Cal l.prog w K mg base 2 "crossed_row" ["many", "ahead"] (zdf K 24 zbH):=⟨f_crossed_row,e_crossed_row,zek F_crossed_row T,m_crossed_row,F_crossed_row.kp,b_crossed_row⟩
 have Cnext_row:Cal l.prog w K mg base 3 "next_row" ["kind", "many", "ahead"] (zir K):=⟨f_next_row,e_next_row,zgy F_next_row (PySem.W.mg_of X G a_ROWS) GD_ROWS (CalF.of Crounds_row (PySem.W.mg_of X G n_rounds_row) (by decide)) (CalF.of Cstays_row (PySem.W.mg_of X G n_stays_row) (by decide)) (CalF.of Crises_row (PySem.W.mg_of X G n_rises_row) (by decide)) (CalF.of Ccrossed_row (PySem.W.mg_of X G n_crossed_row) (by decide)),m_next_row,F_next_row.kp,b_next_row⟩
 have Csteps:Cal l.prog w K mg base 4 "steps" ["kind", "many"] (zgb K):=⟨f_steps,e_steps,zjH F_steps T (PySem.W.mg_of X G a_FIRST_ROW) h_FIRST_ROW Cnext_row,m_steps,F_steps.kp,b_steps⟩
 have Ctold:Cal l.prog w K mg base 5 "told" ["kind", "many"] (ziu K):=⟨f_told,e_told,zkC F_told T Csteps,m_told,F_told.kp,b_told⟩
 have C_law_low:Cal l.prog w K mg base 1 "_law_low" ["_law_over", "_law_under"] (zcp):=⟨f__law_low,e__law_low,zgm F__law_low T,m__law_low,F__law_low.kp,b__law_low⟩
 have C_law_fall:Cal l.prog w K mg base 1 "_law_fall" ["_law_number_here"] (spFc 300):=⟨f__law_fall,e__law_fall,zfC F__law_fall T,m__law_fall,F__law_fall.kp,b__law_fall⟩
 have Cnumbers_belowH:Cal l.prog w K mg base 1 "numbers_below" ["many"] (zgd):=⟨f_numbers_below,e_numbers_below,zc6 F_numbers_below T,m_numbers_below,F_numbers_below.kp,b_numbers_below⟩
 have CpartsH:Cal l.prog w K mg base 2 "parts" ["kind", "many"] (zdq):=⟨f_parts,e_parts,ziK F_parts (PySem.W.mg_of X G a_PARTS) GD_PARTS (CalF.of Cnumbers_belowH (PySem.W.mg_of X G n_numbers_below) (by decide)),m_parts,F_parts.kp,b_parts⟩
 have Chigh_shareH:Cal l.prog w K mg base 1 "high_share" ["many", "part"] (zkn):=⟨f_high_share,e_high_share,zec F_high_share,m_high_share,F_high_share.kp,b_high_share⟩
 have Cone_shareH:Cal l.prog w K mg base 2 "one_share" ["kind", "many", "part"] (zg1):=⟨f_one_share,e_one_share,zeI F_one_share (PySem.W.mg_of X G a_ONE_SHARES) GD_ONE_SHARES (CalF.of Chigh_shareH (PySem.W.mg_of X G n_high_share) (by decide)),m_one_share,F_one_share.kp,b_one_share⟩
 have Cgreatest_divisor:Cal l.prog w K mg base 1 "greatest_divisor" ["over", "under"] (zkm):=⟨f_greatest_divisor,e_greatest_divisor,zcx F_greatest_divisor,m_greatest_divisor,F_greatest_divisor.kp,b_greatest_divisor⟩
 have Cshare_of:Cal l.prog w K mg base 2 "share_of" ["over", "under"] (zcp):=⟨f_share_of,e_share_of,zgk F_share_of Cgreatest_divisor,m_share_of,F_share_of.kp,b_share_of⟩
 have Cplus:Cal l.prog w K mg base 3 "plus" ["one", "other"] (spSh plZ):=⟨f_plus,e_plus,zkt F_plus Cshare_of,m_plus,F_plus.kp,b_plus⟩
 have Chighs_mean:Cal l.prog w K mg base 4 "highs_mean" ["many"] (spHm):=⟨f_highs_mean,e_highs_mean,zeJ F_highs_mean CpartsH Cone_shareH Cplus,m_highs_mean,F_highs_mean.kp,b_highs_mean⟩
 have Cstays_mean:Cal l.prog w K mg base 1 "stays_mean" ["many"] (spN1 fun N=>if 0<N then (1,1) else (0,1)):=⟨f_stays_mean,e_stays_mean,zeL F_stays_mean,m_stays_mean,F_stays_mean.kp,b_stays_mean⟩
 have Crises_mean:Cal l.prog w K mg base 3 "rises_mean" ["many"] (spN1 (mnZ "rises")):=⟨f_rises_mean,e_rises_mean,zeN F_rises_mean T Cshare_of,m_rises_mean,F_rises_mean.kp,b_rises_mean⟩
 have Ccrossed_mean:Cal l.prog w K mg base 3 "crossed_mean" ["many"] (spN1 (mnZ "crossed")):=⟨f_crossed_mean,e_crossed_mean,zd3 F_crossed_mean T Cshare_of,m_crossed_mean,F_crossed_mean.kp,b_crossed_mean⟩
 have Cmean:Cal l.prog w K mg base 5 "mean" ["kind", "many"] (zg7):=⟨f_mean,e_mean,zkw F_mean (PySem.W.mg_of X G a_MEANS) GD_MEANS (CalF.of Chighs_mean (PySem.W.mg_of X G n_highs_mean) (by decide)) (CalF.of Cstays_mean (PySem.W.mg_of X G n_stays_mean) (by decide)) (CalF.of Crises_mean (PySem.W.mg_of X G n_rises_mean) (by decide)) (CalF.of Ccrossed_mean (PySem.W.mg_of X G n_crossed_mean) (by decide)),m_mean,F_mean.kp,b_mean⟩
 have Cless:Cal l.prog w K mg base 3 "less" ["one", "other"] (spSh leZ):=⟨f_less,e_less,zkv F_less Cshare_of,m_less,F_less.kp,b_less⟩
 have Ctimes:Cal l.prog w K mg base 3 "times" ["one", "other"] (spSh tmZ):=⟨f_times,e_times,zjB F_times Cshare_of,m_times,F_times.kp,b_times⟩
 have Chighs_spread:Cal l.prog w K mg base 4 "highs_spread" ["many"] (spHs):=⟨f_highs_spread,e_highs_spread,zdY F_highs_spread CpartsH Cone_shareH Cplus Cless Ctimes,m_highs_spread,F_highs_spread.kp,b_highs_spread⟩
 have Cstays_spread:Cal l.prog w K mg base 1 "stays_spread" ["many"] (spN1 fun N=>if 1<N then (1,1) else (0,1)):=⟨f_stays_spread,e_stays_spread,zd0 F_stays_spread,m_stays_spread,F_stays_spread.kp,b_stays_spread⟩
 have Crises_spread:Cal l.prog w K mg base 3 "rises_spread" ["many"] (spN1 (sdZ "rises")):=⟨f_rises_spread,e_rises_spread,zd1 F_rises_spread T Cshare_of,m_rises_spread,F_rises_spread.kp,b_rises_spread⟩
 have Ccrossed_spread:Cal l.prog w K mg base 3 "crossed_spread" ["many"] (spN1 (sdZ "crossed")):=⟨f_crossed_spread,e_crossed_spread,zc7 F_crossed_spread T Cshare_of,m_crossed_spread,F_crossed_spread.kp,b_crossed_spread⟩
 have Cspread:Cal l.prog w K mg base 5 "spread" ["kind", "many"] (zdr):=⟨f_spread,e_spread,ziL F_spread (PySem.W.mg_of X G a_SPREADS) GD_SPREADS (CalF.of Chighs_spread (PySem.W.mg_of X G n_highs_spread) (by decide)) (CalF.of Cstays_spread (PySem.W.mg_of X G n_stays_spread) (by decide)) (CalF.of Crises_spread (PySem.W.mg_of X G n_rises_spread) (by decide)) (CalF.of Ccrossed_spread (PySem.W.mg_of X G n_crossed_spread) (by decide)),m_spread,F_spread.kp,b_spread⟩
 have C_law_less:Cal l.prog w K mg base 2 "_law_less" ["_law_one", "_law_two"] (spSh leZ):=⟨f__law_less,e__law_less,zfP F__law_less C_law_low,m__law_less,F__law_less.kp,b__law_less⟩
 have C_law_times:Cal l.prog w K mg base 2 "_law_times" ["_law_one", "_law_two"] (spSh tmZ):=⟨f__law_times,e__law_times,zfd F__law_times C_law_low,m__law_times,F__law_times.kp,b__law_times⟩
 have C_law_by_counts:Cal l.prog w K mg base 6 "_law_by_counts" ["_law_kind", "_law_many"] (spBC):=⟨f__law_by_counts,e__law_by_counts,zdc F__law_by_counts T Ctold C_law_low C_law_fall Cmean Cspread C_law_less C_law_times,m__law_by_counts,F__law_by_counts.kp,b__law_by_counts⟩
 have Cnumbers_below:Cal l.prog w K mg base 1 "numbers_below" ["many"] (zcR zbb):=⟨f_numbers_below,e_numbers_below,zdh F_numbers_below T,m_numbers_below,F_numbers_below.kp,b_numbers_below⟩
 have Cplaces_but_last:Cal l.prog w K mg base 1 "places_but_last" ["many"] (zcR fun m=>zbb (m-1)):=⟨f_places_but_last,e_places_but_last,zcU F_places_but_last T,m_places_but_last,F_places_but_last.kp,b_places_but_last⟩
 have Cplace_pairs:Cal l.prog w K mg base 1 "place_pairs" ["many"] (zcR fun m=>(prsZ m m).map rowP):=⟨f_place_pairs,e_place_pairs,zee F_place_pairs T,m_place_pairs,F_place_pairs.kp,b_place_pairs⟩
 have Cparts:Cal l.prog w K mg base 2 "parts" ["kind", "many"] (zeF):=⟨f_parts,e_parts,zjC F_parts (PySem.W.mg_of X G a_PARTS) GD_PARTS (CalF.of Cnumbers_below (PySem.W.mg_of X G n_numbers_below) (by decide)) (CalF.of Cplaces_but_last (PySem.W.mg_of X G n_places_but_last) (by decide)) (CalF.of Cplace_pairs (PySem.W.mg_of X G n_place_pairs) (by decide)),m_parts,F_parts.kp,b_parts⟩
 have Cround_share:Cal l.prog w K mg base 1 "round_share" ["many", "part"] (zcS fun N ps=>N-ps.getD 0 0):=⟨f_round_share,e_round_share,zeg F_round_share,m_round_share,F_round_share.kp,b_round_share⟩
 have Cstay_share:Cal l.prog w K mg base 1 "stay_share" ["many", "part"] (zcS fun N ps=>N):=⟨f_stay_share,e_stay_share,zeP F_stay_share,m_stay_share,F_stay_share.kp,b_stay_share⟩
 have Chalf_share:Cal l.prog w K mg base 1 "half_share" ["many", "part"] (zcS fun N ps=>2):=⟨f_half_share,e_half_share,zeR F_half_share,m_half_share,F_half_share.kp,b_half_share⟩
 have Chigh_share:Cal l.prog w K mg base 1 "high_share" ["many", "part"] (zcS fun N ps=>ps.getD 0 0+1):=⟨f_high_share,e_high_share,zeT F_high_share,m_high_share,F_high_share.kp,b_high_share⟩
 have Cone_share:Cal l.prog w K mg base 2 "one_share" ["kind", "many", "part"] (zg2):=⟨f_one_share,e_one_share,zfB F_one_share (PySem.W.mg_of X G a_ONE_SHARES) GD_ONE_SHARES (CalF.of Cround_share (PySem.W.mg_of X G n_round_share) (by decide)) (CalF.of Cstay_share (PySem.W.mg_of X G n_stay_share) (by decide)) (CalF.of Chalf_share (PySem.W.mg_of X G n_half_share) (by decide)) (CalF.of Chigh_share (PySem.W.mg_of X G n_high_share) (by decide)),m_one_share,F_one_share.kp,b_one_share⟩
 have Cboth_rounds:Cal l.prog w K mg base 4 "both_rounds" ["many", "one", "other"] (spBK "rounds"):=⟨f_both_rounds,e_both_rounds,zei F_both_rounds Ctimes Cround_share,m_both_rounds,F_both_rounds.kp,b_both_rounds⟩
 have Cboth_stays:Cal l.prog w K mg base 4 "both_stays" ["many", "one", "other"] (spBK "stays"):=⟨f_both_stays,e_both_stays,zeX F_both_stays Cshare_of,m_both_stays,F_both_stays.kp,b_both_stays⟩
 have Cboth_rises:Cal l.prog w K mg base 4 "both_rises" ["many", "one", "other"] (spBK "rises"):=⟨f_both_rises,e_both_rises,zeZ F_both_rises T,m_both_rises,F_both_rises.kp,b_both_rises⟩
 have Cboth_highs:Cal l.prog w K mg base 4 "both_highs" ["many", "one", "other"] (spBK "highs"):=⟨f_both_highs,e_both_highs,zeV F_both_highs Ctimes Chigh_share,m_both_highs,F_both_highs.kp,b_both_highs⟩
 have Cboth_crossed:Cal l.prog w K mg base 4 "both_crossed" ["many", "one", "other"] (spBK "crossed"):=⟨f_both_crossed,e_both_crossed,zd5 F_both_crossed,m_both_crossed,F_both_crossed.kp,b_both_crossed⟩
 have Cboth_share:Cal l.prog w K mg base 5 "both_share" ["kind", "many", "one", "other"] (zgi):=⟨f_both_share,e_both_share,ze0 F_both_share (PySem.W.mg_of X G a_BOTH_SHARES) GD_BOTH_SHARES (CalF.of Cboth_rounds (PySem.W.mg_of X G n_both_rounds) (by decide)) (CalF.of Cboth_stays (PySem.W.mg_of X G n_both_stays) (by decide)) (CalF.of Cboth_rises (PySem.W.mg_of X G n_both_rises) (by decide)) (CalF.of Cboth_highs (PySem.W.mg_of X G n_both_highs) (by decide)) (CalF.of Cboth_crossed (PySem.W.mg_of X G n_both_crossed) (by decide)) Cone_share,m_both_share,F_both_share.kp,b_both_share⟩
 have C_law_sum:Cal l.prog w K mg base 2 "_law_sum" ["_law_one", "_law_two"] (spSh plZ):=⟨f__law_sum,e__law_sum,zgA F__law_sum C_law_low,m__law_sum,F__law_sum.kp,b__law_sum⟩
 have C_law_by_parts:Cal l.prog w K mg base 6 "_law_by_parts" ["_law_kind", "_law_many"] (spBP):=⟨f__law_by_parts,e__law_by_parts,zdi F__law_by_parts T TY Cparts Cone_share Cboth_share Cmean Cspread C_law_sum C_law_less C_law_times,m__law_by_parts,F__law_by_parts.kp,b__law_by_parts⟩
 have C_law_order:Cal l.prog w K mg base 2 "_law_order" ["_law_pot_here", "_law_many"] (ziT):=⟨f__law_order,e__law_order,ze9 F__law_order T C_law_next,m__law_order,F__law_order.kp,b__law_order⟩
 have Cis_round_greatest:Cal l.prog w K mg base 1 "is_round_greatest" ["part", "order"] (zbr "rounds"):=⟨f_is_round_greatest,e_is_round_greatest,zcr F_is_round_greatest,m_is_round_greatest,F_is_round_greatest.kp,b_is_round_greatest⟩
 have Cis_stay:Cal l.prog w K mg base 1 "is_stay" ["part", "order"] (zbr "stays"):=⟨f_is_stay,e_is_stay,zhB F_is_stay,m_is_stay,F_is_stay.kp,b_is_stay⟩
 have Cis_rise:Cal l.prog w K mg base 1 "is_rise" ["part", "order"] (zbr "rises"):=⟨f_is_rise,e_is_rise,zhD F_is_rise,m_is_rise,F_is_rise.kp,b_is_rise⟩
 have Cis_high:Cal l.prog w K mg base 1 "is_high" ["part", "order"] (zbr "highs"):=⟨f_is_high,e_is_high,zhF F_is_high T,m_is_high,F_is_high.kp,b_is_high⟩
 have Cis_crossed:Cal l.prog w K mg base 1 "is_crossed" ["part", "order"] (zbr "crossed"):=⟨f_is_crossed,e_is_crossed,ze8 F_is_crossed,m_is_crossed,F_is_crossed.kp,b_is_crossed⟩
 have Chas:Cal l.prog w K mg base 2 "has" ["kind", "part", "order"] (ziO):=⟨f_has,e_has,zlv F_has (PySem.W.mg_of X G a_HAVING) GD_HAVING (CalF.of Cis_round_greatest (PySem.W.mg_of X G n_is_round_greatest) (by decide)) (CalF.of Cis_stay (PySem.W.mg_of X G n_is_stay) (by decide)) (CalF.of Cis_rise (PySem.W.mg_of X G n_is_rise) (by decide)) (CalF.of Cis_high (PySem.W.mg_of X G n_is_high) (by decide)) (CalF.of Cis_crossed (PySem.W.mg_of X G n_is_crossed) (by decide)),m_has,F_has.kp,b_has⟩
 have Cround_from:Cal l.prog w K mg base 1 "round_from" ["order", "first"] (zcv):=⟨f_round_from,e_round_from,ze1 F_round_from T,m_round_from,F_round_from.kp,b_round_from⟩
 have Crounds_met:Cal l.prog w K mg base 2 "rounds_met" ["order", "firsts"] (zcw):=⟨f_rounds_met,e_rounds_met,ze2 F_rounds_met T Cround_from,m_rounds_met,F_rounds_met.kp,b_rounds_met⟩
 have Crounds_of:Cal l.prog w K mg base 3 "rounds_of" ["order"] (zeC):=⟨f_rounds_of,e_rounds_of,zfE F_rounds_of T Crounds_met,m_rounds_of,F_rounds_of.kp,b_rounds_of⟩
 have Crounds_in:Cal l.prog w K mg base 4 "rounds_in" ["order"] (zbT fun ns=>((zbn ns).length:Int)):=⟨f_rounds_in,e_rounds_in,zfG F_rounds_in T Crounds_of,m_rounds_in,F_rounds_in.kp,b_rounds_in⟩
 have Cstays_in:Cal l.prog w K mg base 1 "stays_in" ["order"] (zbT zdJ):=⟨f_stays_in,e_stays_in,zgp F_stays_in T,m_stays_in,F_stays_in.kp,b_stays_in⟩
 have Crises_in:Cal l.prog w K mg base 1 "rises_in" ["order"] (zbT zdK):=⟨f_rises_in,e_rises_in,zgr F_rises_in T,m_rises_in,F_rises_in.kp,b_rises_in⟩
 have Chighs_in:Cal l.prog w K mg base 1 "highs_in" ["order"] (zbT zep):=⟨f_highs_in,e_highs_in,zgs F_highs_in,m_highs_in,F_highs_in.kp,b_highs_in⟩
 have Ccrossed_in:Cal l.prog w K mg base 1 "crossed_in" ["order"] (zbT zbL):=⟨f_crossed_in,e_crossed_in,ze4 F_crossed_in T,m_crossed_in,F_crossed_in.kp,b_crossed_in⟩
 have Clongest_in:Cal l.prog w K mg base 1 "longest_in" ["order"] (zbT zdm):=⟨f_longest_in,e_longest_in,ze5 F_longest_in T,m_longest_in,F_longest_in.kp,b_longest_in⟩
 have Ccount:Cal l.prog w K mg base 5 "count" ["kind", "order"] (zgt):=⟨f_count,e_count,zjF F_count (PySem.W.mg_of X G a_COUNTERS) GD_COUNTERS (CalF.of Crounds_in (PySem.W.mg_of X G n_rounds_in) (by decide)) (CalF.of Cstays_in (PySem.W.mg_of X G n_stays_in) (by decide)) (CalF.of Crises_in (PySem.W.mg_of X G n_rises_in) (by decide)) (CalF.of Chighs_in (PySem.W.mg_of X G n_highs_in) (by decide)) (CalF.of Ccrossed_in (PySem.W.mg_of X G n_crossed_in) (by decide)) (CalF.of Clongest_in (PySem.W.mg_of X G n_longest_in) (by decide)),m_count,F_count.kp,b_count⟩
 exact zly F_law T C_law_pot C_law_number C_law_by_counts C_law_by_parts C_law_order Cparts Chas Ccount
theorem walk {l:PySem.W.OpenLaw}{q:Program}{loose:List Str}{XP:(Str->Option Value)->Heap->Prop}{YP:World->Heap->Prop}{d:DefRec}{K:Params->PySem.W.Frag}(hn:l.most=some 63)(hdf:d.params.defaults=[])
  (hY:∀(w:World) (h:Heap),YP w h->(K w.params).In h)
  (F:∀(w:World) (mg:Str->Option Value) (fa:Addr) (h:Heap),(K w.params).In h->h.Ns mainGlobals mg->mg d.name=some (.ref fa)->
   ∃fd:FuncData,(∀(s:Shared) (u:Value),BindsTo s fd ⟨[u],[]⟩ [("_law_script",u)])/\∀base:Heap,(K w.params).In base->base.Ns mainGlobals mg->FnOk l.prog w (K w.params) mg base CX0 7 fa fd ["_law_script"] (zjJ (K w.params))):
  PySem.W.WalkO q loose XP YP l.row.toRowW d [] (fun f vs=>PySem.call f vs):=
 L2.zj8 (n:=63) (k:=7) (x:= "_law_script") (CX:=fun _=>CX0) (sp:=fun w=>zjJ (K w.params)) hn (by decide) hdf ⟨rfl,by decide,by decide,rfl⟩ hY F (fun _ _ a ns hl _ hS=>⟨a,ns,rfl,hS,hl,fun _=>rfl⟩) fun _ _ _ _ _ z=>z
end K85
end
namespace PySem.W.Fast
theorem tw7849441737628776406:True:=trivial
theorem tw3306650722071567878:True:=trivial
theorem tw4464885277558567279:True:=trivial
theorem tw11220157764718569292:True:=trivial
theorem tw3956541831267356240:True:=trivial
theorem tw5217402127263341175:True:=trivial
theorem tw8078571926153014078:True:=trivial
theorem tw1661634636776864441:True:=trivial
theorem tw1772844660116196705:True:=trivial
theorem tw12537839645713863300:True:=trivial
theorem tw7647385016684561562:True:=trivial
theorem tw4294250376318279200:True:=trivial
theorem tw9956603152258498018:True:=trivial
theorem tw7327392004394029870:True:=trivial
theorem tw2640704628089956165:True:=trivial
theorem tw13245977410859066539:True:=trivial
theorem tw6860671340038247569:True:=trivial
theorem tw16194130857324133204:True:=trivial
theorem tw16582632860262317300:True:=trivial
theorem tw13071408438611390640:True:=trivial
theorem tw17640139176142264976:True:=trivial
theorem tw15911194347336114424:True:=trivial
theorem tw8704700227694996838:True:=trivial
theorem tw7183325352632152089:True:=trivial
theorem tw10002156158084900626:True:=trivial
theorem tw15430110717854155814:True:=trivial
theorem tw3101179963213805766:True:=trivial
theorem tw11845426933355473906:True:=trivial
theorem tw9310001992803950530:True:=trivial
theorem tw13476061166324242968:True:=trivial
theorem tw17827452629706950562:True:=trivial
theorem tw5263140761860259395:True:=trivial
theorem tw2948833318280761897:True:=trivial
theorem tw10756485779201744814:True:=trivial
theorem tw17843167285395953159:True:=trivial
theorem tw5551417285932949541:True:=trivial
theorem tw5902351896677025935:True:=trivial
theorem tw2967511040132264752:True:=trivial
theorem tw752938530277726:True:=trivial
theorem tw12904447558734024401:True:=trivial
theorem tw413048132941728083:True:=trivial
theorem tw3646638958980924932:True:=trivial
theorem tw15193514255070765336:True:=trivial
theorem tw184344380843749682:True:=trivial
theorem tw9303462202997724818:True:=trivial
theorem tw12327081098474682275:True:=trivial
theorem tw1684485112998217842:True:=trivial
theorem tw16146336654290166779:True:=trivial
theorem tw588005085762975233:True:=trivial
theorem tw12260484343193479217:True:=trivial
theorem tw13723011824954563826:True:=trivial
theorem tw12221097324616442763:True:=trivial
theorem tw16606858350739202290:True:=trivial
theorem tw8143351328705666402:True:=trivial
theorem tw12351163688878459953:True:=trivial
theorem tw3987523187528897610:True:=trivial
theorem tw6836712489781486068:True:=trivial
theorem tw4415747559010399840:True:=trivial
theorem tw15623486284898442081:True:=trivial
theorem tw9592773417016627046:True:=trivial
theorem tw95878216918251226:True:=trivial
theorem tw16139498376150371477:True:=trivial
theorem tw14559513026242451075:True:=trivial
theorem tw7641271690183306571:True:=trivial
theorem tw17858017062632025213:True:=trivial
theorem tw10473278982410337792:True:=trivial
theorem tw1716665575626575556:True:=trivial
theorem tw18286872797484013461:True:=trivial
theorem tw10079279614408696264:True:=trivial
theorem tw11599005629762638601:True:=trivial
theorem tw11472696954598314987:True:=trivial
theorem tw15634597939562298831:True:=trivial
theorem tw17164590767851661815:True:=trivial
theorem tw2100000265551000582:True:=trivial
theorem tw1651133692362174971:True:=trivial
theorem tw8469982534155447110:True:=trivial
theorem tw7106489372831166060:True:=trivial
theorem tw18012638277084884795:True:=trivial
theorem tw8665503321479957834:True:=trivial
theorem tw13819411822101845628:True:=trivial
theorem tw15271568990399799399:True:=trivial
theorem tw9007017669689728347:True:=trivial
theorem tw6102102571187596621:True:=trivial
theorem tw16255314298198577860:True:=trivial
theorem tw15160904615572189432:True:=trivial
theorem tw5464751220352663285:True:=trivial
theorem tw9660081562671623730:True:=trivial
theorem tw13899243592246903611:True:=trivial
theorem tw11889260174696501299:True:=trivial
theorem tw5506908003549020886:True:=trivial
theorem tw4940510899393969489:True:=trivial
theorem tw10803127886675434365:True:=trivial
theorem tw4038863427285350701:True:=trivial
theorem tw10037249942064271936:True:=trivial
theorem tw8478105999961829214:True:=trivial
theorem tw18165752403212504962:True:=trivial
theorem tw1693596795922514366:True:=trivial
theorem tw3250538515210570491:True:=trivial
theorem tw6906949601653803262:True:=trivial
theorem tw14163127134880516166:True:=trivial
theorem tw16449579528584249588:True:=trivial
theorem tw9429203858227143072:True:=trivial
theorem tw9237623735059523972:True:=trivial
theorem tw15387552348005780091:True:=trivial
theorem tw11579421031420113606:True:=trivial
theorem tw15249169760701501734:True:=trivial
theorem tw6474516796729288691:True:=trivial
theorem tw14716684266930590699:True:=trivial
theorem tw7943628081630807131:True:=trivial
theorem tw14129733511696521952:True:=trivial
theorem tw6217239650650451070:True:=trivial
theorem tw16329040799982320346:True:=trivial
theorem tw9136199791269535779:True:=trivial
theorem tw13873898981424157610:True:=trivial
theorem tw6694077529012750006:True:=trivial
theorem tw15485271493133832220:True:=trivial
theorem tw17780903177395345135:True:=trivial
theorem tw1259124963202040522:True:=trivial
theorem tw7874984969038201910:True:=trivial
theorem tw7785781047788475333:True:=trivial
theorem tw9134985824769004757:True:=trivial
theorem tw11599747282904077530:True:=trivial
theorem tw2852494728134169747:True:=trivial
theorem tw16199889788171540868:True:=trivial
theorem tw8560448018951513115:True:=trivial
theorem tw15646875472491457971:True:=trivial
theorem tw1058487677260601097:True:=trivial
theorem tw14012120851931690841:True:=trivial
theorem tw10089777719905437767:True:=trivial
theorem tw219294294850605902:True:=trivial
theorem tw2291417091187870606:True:=trivial
theorem tw16933733775728932781:True:=trivial
theorem tw5347417627753664768:True:=trivial
theorem tw5738236342107732152:True:=trivial
theorem tw10667576075113540264:True:=trivial
theorem tw11764902162996612548:True:=trivial
theorem tw3461912511883304445:True:=trivial
theorem tw54578905588596899:True:=trivial
theorem tw10080687563071088990:True:=trivial
theorem tw13759219158822329351:True:=trivial
theorem tw2306841379057804786:True:=trivial
theorem tw10809774880479678834:True:=trivial
theorem tw12373124934815637439:True:=trivial
theorem tw7871814510045180671:True:=trivial
theorem tw13199147072596668306:True:=trivial
theorem tw11235470187620777910:True:=trivial
theorem tw6363551094792619751:True:=trivial
theorem tw1348672346263371597:True:=trivial
theorem tw7810793086036276370:True:=trivial
theorem tw2992625211259744994:True:=trivial
theorem tw2822821720828375655:True:=trivial
theorem tw3937599361617562125:True:=trivial
theorem tw12095134071086416670:True:=trivial
theorem tw6660780468458380797:True:=trivial
theorem tw15102748953125895428:True:=trivial
theorem tw7703722840223052477:True:=trivial
theorem tw13024932579038669581:True:=trivial
theorem tw2522784764086648052:True:=trivial
theorem tw16927921860123245036:True:=trivial
theorem tw7034669453441671721:True:=trivial
theorem tw8096625472560955033:True:=trivial
theorem tw5160311083573179275:True:=trivial
theorem tw1165118373055924327:True:=trivial
theorem tw14187256972472668468:True:=trivial
theorem tw18375085315503509483:True:=trivial
theorem tw7821776691348255950:True:=trivial
theorem tw17730461539528766022:True:=trivial
theorem tw12975904652395296487:True:=trivial
theorem tw4136038182239969567:True:=trivial
theorem tw13242834148558312282:True:=trivial
theorem tw5865588597517442739:True:=trivial
theorem tw17112916176606194754:True:=trivial
theorem tw14408456857171293498:True:=trivial
theorem tw18069741810028016755:True:=trivial
theorem tw4638921218758676317:True:=trivial
theorem tw3104980926970814621:True:=trivial
theorem tw17959804995192922486:True:=trivial
theorem tw5519233943011793352:True:=trivial
theorem tw6437962436760490152:True:=trivial
theorem tw4117165679889911132:True:=trivial
theorem tw13436823633833411259:True:=trivial
theorem tw5438620217002804615:True:=trivial
theorem tw11299071556878394099:True:=trivial
theorem tw7050462626881810329:True:=trivial
theorem tw5310369963008951591:True:=trivial
theorem tw16390330462804477995:True:=trivial
theorem tw6421808825731576368:True:=trivial
theorem tw14438750086157043005:True:=trivial
theorem tw12372484245879425229:True:=trivial
theorem tw11706803608184691233:True:=trivial
theorem tw8514643261903345210:True:=trivial
theorem tw12982301025511150760:True:=trivial
theorem tw14947913866761307476:True:=trivial
theorem tw6168537740381137158:True:=trivial
theorem tw12108980725733837966:True:=trivial
theorem tw2157330996165828054:True:=trivial
theorem tw15355692911408028913:True:=trivial
theorem tw2688783493304183080:True:=trivial
theorem tw14839030513698897499:True:=trivial
theorem tw842706991157231645:True:=trivial
theorem tw5722693441211768392:True:=trivial
theorem tw4070600924257689561:True:=trivial
theorem tw13571643556897246574:True:=trivial
theorem tw3293844885712756105:True:=trivial
theorem tw15109699444559064144:True:=trivial
theorem tw582194287684069075:True:=trivial
theorem tw9837332953229369089:True:=trivial
theorem tw16280526128970181032:True:=trivial
theorem tw9774595648534577219:True:=trivial
theorem tw3084431214714791334:True:=trivial
theorem tw16885479922257287337:True:=trivial
theorem tw10066857696720244917:True:=trivial
theorem tw15532534935937904174:True:=trivial
theorem tw8117049637553246461:True:=trivial
theorem tw18128165552732688073:True:=trivial
theorem tw7282196884036188045:True:=trivial
theorem tw12563410098513928098:True:=trivial
theorem tw3549102084931886936:True:=trivial
theorem tw6923470791645656389:True:=trivial
theorem tw7119724862182238089:True:=trivial
theorem tw11329095272605111693:True:=trivial
theorem tw2529331922649906912:True:=trivial
theorem tw4684809613942943747:True:=trivial
theorem tw7538295405178709197:True:=trivial
theorem tw18069640639715019464:True:=trivial
theorem tw16910079870923663590:True:=trivial
theorem tw5411419322296088694:True:=trivial
theorem tw6793920084207766887:True:=trivial
theorem tw2299765265136275001:True:=trivial
theorem tw11086135020375333260:True:=trivial
theorem tw4143924035054913637:True:=trivial
theorem tw4090835872226463582:True:=trivial
theorem tw10406473769123003737:True:=trivial
theorem tw14494490471050032686:True:=trivial
theorem tw435393995801461583:True:=trivial
theorem tw13658511084654805909:True:=trivial
theorem tw4283035756625347649:True:=trivial
theorem tw13554206291878975740:True:=trivial
theorem tw5275755169309594429:True:=trivial
theorem tw10960541223638731495:True:=trivial
theorem tw12698031533081624133:True:=trivial
theorem tw7692732156009579313:True:=trivial
theorem tw14782272813108756272:True:=trivial
theorem tw1235229774401528612:True:=trivial
theorem tw12624330707825336875:True:=trivial
theorem tw12778150807994240112:True:=trivial
theorem tw6519286373779032002:True:=trivial
theorem tw5170159679279200868:True:=trivial
theorem tw8341470767081231821:True:=trivial
theorem tw13126138413638321279:True:=trivial
theorem tw13697378026446512716:True:=trivial
theorem tw15738724199534790965:True:=trivial
theorem tw3165093357134160494:True:=trivial
theorem tw13993649951315268740:True:=trivial
theorem tw8789234919363772650:True:=trivial
theorem tw4094263900251833934:True:=trivial
theorem tw13861063515305569010:True:=trivial
theorem tw14805048684211882666:True:=trivial
theorem tw13974628680649227692:True:=trivial
theorem tw2912138397190729427:True:=trivial
theorem tw17423278263821791269:True:=trivial
theorem tw3671613038189146518:True:=trivial
theorem tw3056274376457975195:True:=trivial
theorem tw12644606386140799272:True:=trivial
theorem tw1660210330805133782:True:=trivial
theorem tw2392355129292472549:True:=trivial
theorem tw12783138829152202890:True:=trivial
theorem tw14250422795560862042:True:=trivial
theorem tw14610796876257108003:True:=trivial
theorem tw3563409221997225549:True:=trivial
theorem tw17067881605765392037:True:=trivial
theorem tw15210211737860232296:True:=trivial
theorem tw13082697024806319015:True:=trivial
theorem tw16615253183806891652:True:=trivial
theorem tw4928992369057131598:True:=trivial
theorem tw3725787347237780074:True:=trivial
theorem tw8471918713713271611:True:=trivial
theorem tw6296023018069346828:True:=trivial
theorem tw17660546570495842337:True:=trivial
theorem tw15419450747027400570:True:=trivial
theorem tw18056988472510067158:True:=trivial
theorem tw9949618514145626531:True:=trivial
theorem tw11745474920520701062:True:=trivial
theorem tw3983289275425662544:True:=trivial
theorem tw9766606281709389560:True:=trivial
theorem tw11966858278420023459:True:=trivial
theorem tw14977460083659518704:True:=trivial
theorem tw13448428530576990040:True:=trivial
theorem tw2437877546905490255:True:=trivial
theorem tw12872246328807735287:True:=trivial
theorem tw6263452309932577895:True:=trivial
theorem tw13022633431963480058:True:=trivial
theorem tw16964381652562919666:True:=trivial
theorem tw7056538037895102952:True:=trivial
theorem tw1693767952701937283:True:=trivial
theorem tw16854781079885763266:True:=trivial
theorem tw5433736905671389068:True:=trivial
theorem tw17377246597263071168:True:=trivial
theorem tw11832851551630064595:True:=trivial
theorem tw4016351000266764330:True:=trivial
theorem tw284686282636691984:True:=trivial
theorem tw15057736548575669521:True:=trivial
theorem tw99789842088785912:True:=trivial
theorem tw1028776289369780010:True:=trivial
theorem tw11600263713958121962:True:=trivial
theorem tw3344410980042206851:True:=trivial
theorem tw4219841544104917630:True:=trivial
theorem tw11828646752980414974:True:=trivial
theorem tw7225368250730628350:True:=trivial
theorem tw6947135736931102030:True:=trivial
theorem tw17713110751204407803:True:=trivial
theorem tw10864027446520905057:True:=trivial
theorem tw17512663042930101466:True:=trivial
theorem tw10221354728200756458:True:=trivial
theorem tw3411106589938963426:True:=trivial
theorem tw11068275534032307678:True:=trivial
theorem tw4095552535304929484:True:=trivial
theorem tw18031711512113685582:True:=trivial
theorem tw3364352493826126822:True:=trivial
theorem tw14966521668138357858:True:=trivial
theorem tw6118179049026805543:True:=trivial
theorem tw14620424100052689707:True:=trivial
theorem tw8622133561490775505:True:=trivial
theorem tw5473033610393662728:True:=trivial
theorem tw16311562093055891850:True:=trivial
theorem tw6919423743599506598:True:=trivial
theorem tw2059322856740049629:True:=trivial
theorem tw626521451270067851:True:=trivial
theorem tw14562462657438622157:True:=trivial
theorem tw6427039709833685261:True:=trivial
theorem tw9804713098418513084:True:=trivial
theorem tw4245583630826235468:True:=trivial
theorem tw2066404437596980603:True:=trivial
theorem tw2134094556661223389:True:=trivial
theorem tw6201313038388628393:True:=trivial
theorem tw16437745715290471963:True:=trivial
theorem tw13284582106212904277:True:=trivial
theorem tw2535845293574801384:True:=trivial
theorem tw10551804388920867087:True:=trivial
theorem tw8115434428744500498:True:=trivial
theorem tw3552218669470138169:True:=trivial
theorem tw11977743192596891813:True:=trivial
theorem tw6289094301517525159:True:=trivial
theorem tw12284931948384484696:True:=trivial
theorem tw569106482324339576:True:=trivial
theorem tw4498320498934889098:True:=trivial
theorem tw18024170740946572011:True:=trivial
theorem tw5439771416453147901:True:=trivial
theorem tw16360659277938497700:True:=trivial
theorem tw6453370628869678569:True:=trivial
theorem tw4362513699669636632:True:=trivial
theorem tw9864823669243515572:True:=trivial
theorem tw9487870150084375993:True:=trivial
theorem tw16143599507561254651:True:=trivial
theorem tw18064280482805860789:True:=trivial
theorem tw12740991915478125401:True:=trivial
theorem tw14577654998382211322:True:=trivial
theorem tw7613475639051713403:True:=trivial
theorem tw17136563889624278012:True:=trivial
theorem tw8788830055700597842:True:=trivial
theorem tw11483319747809481494:True:=trivial
theorem tw16233147082559531363:True:=trivial
theorem tw10608438828491902559:True:=trivial
theorem tw11080294428648003486:True:=trivial
theorem tw13883194253590702365:True:=trivial
theorem tw13590528738597961287:True:=trivial
theorem tw18083374553108982639:True:=trivial
theorem tw9737015675472839577:True:=trivial
theorem tw90986112108707982:True:=trivial
theorem tw3625814256595409164:True:=trivial
theorem tw2019743742295425763:True:=trivial
theorem tw361835859381241229:True:=trivial
theorem tw17443019894405577088:True:=trivial
theorem tw16980505177601052969:True:=trivial
theorem tw2398442694638615402:True:=trivial
theorem tw11750896534041469138:True:=trivial
theorem tw3212619034677779117:True:=trivial
theorem tw12961146740005545719:True:=trivial
theorem tw14951528710673219629:True:=trivial
theorem tw5102714365605404627:True:=trivial
theorem tw187576024279704069:True:=trivial
theorem tw2293526133373871907:True:=trivial
theorem tw7285796228850099036:True:=trivial
theorem tw16431049545401244506:True:=trivial
theorem tw9745817288927949963:True:=trivial
theorem tw8781648498845967046:True:=trivial
theorem tw8755168437164188413:True:=trivial
theorem tw1474080557268638711:True:=trivial
theorem tw2890243848929389286:True:=trivial
theorem tw14673871425554603471:True:=trivial
theorem tw15118024361881004031:True:=trivial
theorem tw10558283813239236968:True:=trivial
theorem tw5482957584752403123:True:=trivial
theorem tw3334512037752936564:True:=trivial
theorem tw1895324230649647845:True:=trivial
theorem tw4336217375946087993:True:=trivial
theorem tw2806672948987369211:True:=trivial
theorem tw3326813993517884557:True:=trivial
theorem tw2650585849707953063:True:=trivial
theorem tw3575724580853273684:True:=trivial
theorem tw9299142446879238152:True:=trivial
theorem tw1679567366967560511:True:=trivial
theorem tw7907106790747083847:True:=trivial
theorem tw9502162986814912566:True:=trivial
theorem tw562623553817982606:True:=trivial
theorem tw720398187644952707:True:=trivial
theorem tw2070223700292158194:True:=trivial
theorem tw15547430105772670774:True:=trivial
theorem tw117273380556050782:True:=trivial
theorem tw5528850077300136027:True:=trivial
theorem tw17959217224439098459:True:=trivial
theorem tw15232392764722553088:True:=trivial
theorem tw10296622309366942610:True:=trivial
theorem tw4981134394280998791:True:=trivial
theorem tw13104040741300234189:True:=trivial
theorem tw6726736897545404443:True:=trivial
theorem tw2196236628443115728:True:=trivial
theorem tw9172832833504001555:True:=trivial
theorem tw11402991532183765465:True:=trivial
theorem tw5087445957007225566:True:=trivial
theorem tw260478367901275232:True:=trivial
theorem tw910090061896946040:True:=trivial
theorem tw5351288958655483306:True:=trivial
theorem tw17923142387289035367:True:=trivial
theorem tw5380835965610282048:True:=trivial
theorem tw14450332405340099638:True:=trivial
theorem tw18095968570115800692:True:=trivial
theorem tw67118090264344772:True:=trivial
theorem tw10560357964595937802:True:=trivial
theorem tw12228925067122704403:True:=trivial
theorem tw6547507637463225128:True:=trivial
theorem tw131431905961149235:True:=trivial
theorem tw12193936193795126828:True:=trivial
theorem tw9602401764470342875:True:=trivial
end PySem.W.Fast
open PySem PySem.W PyProof.Rows
set_option maxRecDepth 100000 in
set_option maxHeartbeats 0 in
theorem PySem.Challenge.cw_shuffletold_k85_whole_means_and_spreads_holds : PySem.Challenge.rw_shuffletold_k85_whole_means_and_spreads.Holds := by
 w_on;o_law;k_head;(case hw=>w_witness2)
 k_fill
 refine K85.walk (l:=PySem.Challenge.rw_shuffletold_k85_whole_means_and_spreads) rfl rfl (fun w h Y=>PySem.W.kIn_of Y) ?F
 case F=>
  intro w mg fa h KX G hmg
  refine' K85.all_mk KX G hmg ⟨?_, ?_, ?_, ?_, ?_, ?_, ?_, ?_, ?_, ?_, ?_, ?_, ?_, ?_, ?_⟩ ⟨?_, ?_⟩ ?dA0 (L2.GDict.of ?dL0 ?dE0 ?dN0) ?dA1 (L2.GDict.of ?dL1 ?dE1 ?dN1) ?dA2 (L2.GDict.of ?dL2 ?dE2 ?dN2) ?dA3 (L2.GDict.of ?dL3 ?dE3 ?dN3) ?dA4 (L2.GDict.of ?dL4 ?dE4 ?dN4) ?dA5 (L2.GDict.of ?dL5 ?dE5 ?dN5) ?dA6 (L2.GDict.of ?dL6 ?dE6 ?dN6) ?dA7 (L2.GDict.of ?dL7 ?dE7 ?dN7) ?tA0 (L2.sqT_ofK ?tL0 ?tZ0 ?tR0) ?nF0 ?nF1 ?nF2 ?nF3 ?nF4 ?nF5 ?nF6 ?nF7 ?nF8 ?nF9 ?nF10 ?nF11 ?nF12 ?nF13 ?nF14 ?nF15 ?nF16 ?nF17 ?nF18 ?nF19 ?nF20 ?nF21 ?nF22 ?nF23 ?nF24 ?nF25 ?nF26 ?nF27 ?nF28 ?nF29 ?nF30 ?nF31 ?nF32 ?nF33 ?nF34 (L2.Def.of ?a0 ?l0 ?c0 ?k0) (L2.Def.of ?a1 ?l1 ?c1 ?k1) (L2.Def.of ?a2 ?l2 ?c2 ?k2) (L2.Def.of ?a3 ?l3 ?c3 ?k3) (L2.Def.of ?a4 ?l4 ?c4 ?k4) (L2.Def.of ?a5 ?l5 ?c5 ?k5) (L2.Def.of ?a6 ?l6 ?c6 ?k6) (L2.Def.of ?a7 ?l7 ?c7 ?k7) (L2.Def.of ?a8 ?l8 ?c8 ?k8) (L2.Def.of ?a9 ?l9 ?c9 ?k9) (L2.Def.of ?a10 ?l10 ?c10 ?k10) (L2.Def.of ?a11 ?l11 ?c11 ?k11) (L2.Def.of ?a12 ?l12 ?c12 ?k12) (L2.Def.of ?a13 ?l13 ?c13 ?k13) (L2.Def.of ?a14 ?l14 ?c14 ?k14) (L2.Def.of ?a15 ?l15 ?c15 ?k15) (L2.Def.of ?a16 ?l16 ?c16 ?k16) (L2.Def.of ?a17 ?l17 ?c17 ?k17) (L2.Def.of ?a18 ?l18 ?c18 ?k18) (L2.Def.of ?a19 ?l19 ?c19 ?k19) (L2.Def.of ?a20 ?l20 ?c20 ?k20) (L2.Def.of ?a21 ?l21 ?c21 ?k21) (L2.Def.of ?a22 ?l22 ?c22 ?k22) (L2.Def.of ?a23 ?l23 ?c23 ?k23) (L2.Def.of ?a24 ?l24 ?c24 ?k24) (L2.Def.of ?a25 ?l25 ?c25 ?k25) (L2.Def.of ?a26 ?l26 ?c26 ?k26) (L2.Def.of ?a27 ?l27 ?c27 ?k27) (L2.Def.of ?a28 ?l28 ?c28 ?k28) (L2.Def.of ?a29 ?l29 ?c29 ?k29) (L2.Def.of ?a30 ?l30 ?c30 ?k30) (L2.Def.of ?a31 ?l31 ?c31 ?k31) (L2.Def.of ?a32 ?l32 ?c32 ?k32) (L2.Def.of ?a33 ?l33 ?c33 ?k33) (L2.Def.of ?a34 ?l34 ?c34 ?k34) (L2.Def.of ?a35 ?l35 ?c35 ?k35) (L2.Def.of ?a36 ?l36 ?c36 ?k36) (L2.Def.of ?a37 ?l37 ?c37 ?k37) (L2.Def.of ?a38 ?l38 ?c38 ?k38) (L2.Def.of ?a39 ?l39 ?c39 ?k39) (L2.Def.of ?a40 ?l40 ?c40 ?k40) (L2.Def.of ?a41 ?l41 ?c41 ?k41) (L2.Def.of ?a42 ?l42 ?c42 ?k42) (L2.Def.of ?a43 ?l43 ?c43 ?k43) (L2.Def.of ?a44 ?l44 ?c44 ?k44) (L2.Def.of ?a45 ?l45 ?c45 ?k45) (L2.Def.of ?a46 ?l46 ?c46 ?k46) (L2.Def.of ?a47 ?l47 ?c47 ?k47) (L2.Def.of ?a48 ?l48 ?c48 ?k48) (L2.Def.of ?a49 ?l49 ?c49 ?k49) (L2.Def.of ?a50 ?l50 ?c50 ?k50) (L2.Def.of ?a51 ?l51 ?c51 ?k51) (L2.Def.of ?a52 ?l52 ?c52 ?k52) (L2.Def.of ?a53 ?l53 ?c53 ?k53) (L2.Def.of ?a54 ?l54 ?c54 ?k54) (L2.Def.of ?a55 ?l55 ?c55 ?k55) (L2.Def.of ?a56 ?l56 ?c56 ?k56) (L2.Def.of ?a57 ?l57 ?c57 ?k57) (L2.Def.of ?a58 ?l58 ?c58 ?k58) (L2.Def.of ?a59 ?l59 ?c59 ?k59) (L2.Def.of ?a60 ?l60 ?c60 ?k60) (L2.Def.of ?a61 ?l61 ?c61 ?k61) (L2.Def.of ?a62 ?l62 ?c62 ?k62) (L2.Def.of ?a63 ?l63 ?c63 ?k63) (L2.Def.of ?a64 ?l64 ?c64 ?k64) (L2.Def.of ?a65 ?l65 ?c65 ?k65) (L2.Def.of ?a66 ?l66 ?c66 ?k66)
  (case dA0=>k_is);(case dL0=>k_is);(case dE0=>exact (.cons (.cons (.cons (.cons (.cons .nil))))));(case dN0=>decide+kernel)
  (case dA1=>k_is);(case dL1=>k_is);(case dE1=>exact (.cons (.cons (.cons (.cons (.cons .nil))))));(case dN1=>decide+kernel)
  (case dA2=>k_is);(case dL2=>k_is);(case dE2=>exact (.cons (.cons (.cons (.cons (.cons .nil))))));(case dN2=>decide+kernel)
  (case dA3=>k_is);(case dL3=>k_is);(case dE3=>exact (.cons (.cons (.cons (.cons (.cons .nil))))));(case dN3=>decide+kernel)
  (case dA4=>k_is);(case dL4=>k_is);(case dE4=>exact (.cons (.cons (.cons (.cons (.cons .nil))))));(case dN4=>decide+kernel)
  (case dA5=>k_is);(case dL5=>k_is);(case dE5=>exact (.cons (.cons (.cons (.cons (.cons .nil))))));(case dN5=>decide+kernel)
  (case dA6=>k_is);(case dL6=>k_is);(case dE6=>exact (.cons (.cons (.cons (.cons (.cons .nil))))));(case dN6=>decide+kernel)
  (case dA7=>k_is);(case dL7=>k_is);(case dE7=>exact (.cons (.cons (.cons (.cons (.cons (.cons .nil)))))));(case dN7=>decide+kernel)
  (case tA0=>k_is);(case tL0=>k_is);(case tZ0=>exact (by decide));(case tR0=>exact (.cons ⟨_,rfl⟩ .nil))
  (case nF0=>k_is)
  (case nF1=>k_is)
  (case nF2=>k_is)
  (case nF3=>k_is)
  (case nF4=>k_is)
  (case nF5=>k_is)
  (case nF6=>k_is)
  (case nF7=>k_is)
  (case nF8=>k_is)
  (case nF9=>k_is)
  (case nF10=>k_is)
  (case nF11=>k_is)
  (case nF12=>k_is)
  (case nF13=>k_is)
  (case nF14=>k_is)
  (case nF15=>k_is)
  (case nF16=>k_is)
  (case nF17=>k_is)
  (case nF18=>k_is)
  (case nF19=>k_is)
  (case nF20=>k_is)
  (case nF21=>k_is)
  (case nF22=>k_is)
  (case nF23=>k_is)
  (case nF24=>k_is)
  (case nF25=>k_is)
  (case nF26=>k_is)
  (case nF27=>k_is)
  (case nF28=>k_is)
  (case nF29=>k_is)
  (case nF30=>k_is)
  (case nF31=>k_is)
  (case nF32=>k_is)
  (case nF33=>k_is)
  (case nF34=>k_is)
  (case a0=>k_is);(case l0=>k_is);(case c0=>k_is);(case k0=>k_is)
  (case a1=>k_is);(case l1=>k_is);(case c1=>k_is);(case k1=>k_is)
  (case a2=>k_is);(case l2=>k_is);(case c2=>k_is);(case k2=>k_is)
  (case a3=>k_is);(case l3=>k_is);(case c3=>k_is);(case k3=>k_is)
  (case a4=>k_is);(case l4=>k_is);(case c4=>k_is);(case k4=>k_is)
  (case a5=>k_is);(case l5=>k_is);(case c5=>k_is);(case k5=>k_is)
  (case a6=>k_is);(case l6=>k_is);(case c6=>k_is);(case k6=>k_is)
  (case a7=>k_is);(case l7=>k_is);(case c7=>k_is);(case k7=>k_is)
  (case a8=>k_is);(case l8=>k_is);(case c8=>k_is);(case k8=>k_is)
  (case a9=>k_is);(case l9=>k_is);(case c9=>k_is);(case k9=>k_is)
  (case a10=>k_is);(case l10=>k_is);(case c10=>k_is);(case k10=>k_is)
  (case a11=>k_is);(case l11=>k_is);(case c11=>k_is);(case k11=>k_is)
  (case a12=>k_is);(case l12=>k_is);(case c12=>k_is);(case k12=>k_is)
  (case a13=>k_is);(case l13=>k_is);(case c13=>k_is);(case k13=>k_is)
  (case a14=>k_is);(case l14=>k_is);(case c14=>k_is);(case k14=>k_is)
  (case a15=>k_is);(case l15=>k_is);(case c15=>k_is);(case k15=>k_is)
  (case a16=>k_is);(case l16=>k_is);(case c16=>k_is);(case k16=>k_is)
  (case a17=>k_is);(case l17=>k_is);(case c17=>k_is);(case k17=>k_is)
  (case a18=>k_is);(case l18=>k_is);(case c18=>k_is);(case k18=>k_is)
  (case a19=>k_is);(case l19=>k_is);(case c19=>k_is);(case k19=>k_is)
  (case a20=>k_is);(case l20=>k_is);(case c20=>k_is);(case k20=>k_is)
  (case a21=>k_is);(case l21=>k_is);(case c21=>k_is);(case k21=>k_is)
  (case a22=>k_is);(case l22=>k_is);(case c22=>k_is);(case k22=>k_is)
  (case a23=>k_is);(case l23=>k_is);(case c23=>k_is);(case k23=>k_is)
  (case a24=>k_is);(case l24=>k_is);(case c24=>k_is);(case k24=>k_is)
  (case a25=>k_is);(case l25=>k_is);(case c25=>k_is);(case k25=>k_is)
  (case a26=>k_is);(case l26=>k_is);(case c26=>k_is);(case k26=>k_is)
  (case a27=>k_is);(case l27=>k_is);(case c27=>k_is);(case k27=>k_is)
  (case a28=>k_is);(case l28=>k_is);(case c28=>k_is);(case k28=>k_is)
  (case a29=>k_is);(case l29=>k_is);(case c29=>k_is);(case k29=>k_is)
  (case a30=>k_is);(case l30=>k_is);(case c30=>k_is);(case k30=>k_is)
  (case a31=>k_is);(case l31=>k_is);(case c31=>k_is);(case k31=>k_is)
  (case a32=>k_is);(case l32=>k_is);(case c32=>k_is);(case k32=>k_is)
  (case a33=>k_is);(case l33=>k_is);(case c33=>k_is);(case k33=>k_is)
  (case a34=>k_is);(case l34=>k_is);(case c34=>k_is);(case k34=>k_is)
  (case a35=>k_is);(case l35=>k_is);(case c35=>k_is);(case k35=>k_is)
  (case a36=>k_is);(case l36=>k_is);(case c36=>k_is);(case k36=>k_is)
  (case a37=>k_is);(case l37=>k_is);(case c37=>k_is);(case k37=>k_is)
  (case a38=>k_is);(case l38=>k_is);(case c38=>k_is);(case k38=>k_is)
  (case a39=>k_is);(case l39=>k_is);(case c39=>k_is);(case k39=>k_is)
  (case a40=>k_is);(case l40=>k_is);(case c40=>k_is);(case k40=>k_is)
  (case a41=>k_is);(case l41=>k_is);(case c41=>k_is);(case k41=>k_is)
  (case a42=>k_is);(case l42=>k_is);(case c42=>k_is);(case k42=>k_is)
  (case a43=>k_is);(case l43=>k_is);(case c43=>k_is);(case k43=>k_is)
  (case a44=>k_is);(case l44=>k_is);(case c44=>k_is);(case k44=>k_is)
  (case a45=>k_is);(case l45=>k_is);(case c45=>k_is);(case k45=>k_is)
  (case a46=>k_is);(case l46=>k_is);(case c46=>k_is);(case k46=>k_is)
  (case a47=>k_is);(case l47=>k_is);(case c47=>k_is);(case k47=>k_is)
  (case a48=>k_is);(case l48=>k_is);(case c48=>k_is);(case k48=>k_is)
  (case a49=>k_is);(case l49=>k_is);(case c49=>k_is);(case k49=>k_is)
  (case a50=>k_is);(case l50=>k_is);(case c50=>k_is);(case k50=>k_is)
  (case a51=>k_is);(case l51=>k_is);(case c51=>k_is);(case k51=>k_is)
  (case a52=>k_is);(case l52=>k_is);(case c52=>k_is);(case k52=>k_is)
  (case a53=>k_is);(case l53=>k_is);(case c53=>k_is);(case k53=>k_is)
  (case a54=>k_is);(case l54=>k_is);(case c54=>k_is);(case k54=>k_is)
  (case a55=>k_is);(case l55=>k_is);(case c55=>k_is);(case k55=>k_is)
  (case a56=>k_is);(case l56=>k_is);(case c56=>k_is);(case k56=>k_is)
  (case a57=>k_is);(case l57=>k_is);(case c57=>k_is);(case k57=>k_is)
  (case a58=>k_is);(case l58=>k_is);(case c58=>k_is);(case k58=>k_is)
  (case a59=>k_is);(case l59=>k_is);(case c59=>k_is);(case k59=>k_is)
  (case a60=>k_is);(case l60=>k_is);(case c60=>k_is);(case k60=>k_is)
  (case a61=>k_is);(case l61=>k_is);(case c61=>k_is);(case k61=>k_is)
  (case a62=>k_is);(case l62=>k_is);(case c62=>k_is);(case k62=>k_is)
  (case a63=>k_is);(case l63=>k_is);(case c63=>k_is);(case k63=>k_is)
  (case a64=>k_is);(case l64=>k_is);(case c64=>k_is);(case k64=>k_is)
  (case a65=>k_is);(case l65=>k_is);(case c65=>k_is);(case k65=>k_is)
  (case a66=>k_is);(case l66=>k_is);(case c66=>k_is);(case k66=>k_is)
  all_goals k_is
