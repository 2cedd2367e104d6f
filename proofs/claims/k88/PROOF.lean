import PyProof.Rows.All
import Wide.All
import OpenK.AllK
import Wide.FinOn
import Lean
import PyProof.EqAt
import PyProof.EqKinds
import PyProof.TupleCall
import PySem.Challenge.RW_shuffletold_k88_whole_rounds_and_highs_e
set_option Elab.async false
set_option linter.all false
set_option maxRecDepth 100000
set_option genSizeOfSpec false
noncomputable section
namespace L2
open PySem PySem.Spec PyProof.Rows
noncomputable abbrev Key:=Sum Int Str
noncomputable def zhr:Key->Value->Bool
 | .inl k,v=>Value.isInt k v
 | .inr x,v=>Value.isStrOf x v
noncomputable def keyH (w:World):Key->Int
 | .inl k=>hashInt k
 | .inr x=>hashStr w x
theorem zaG:∀{k:Key} {v:Value},zhr k v=true->(∃i t,k=Sum.inl i/\v=Value.int i t)∨(∃x t,k=Sum.inr x/\v=Value.str x t)
 | .inl i,v,h=>by
  obtain⟨t,e⟩:=Value.isInt_shape (k:=i) (v:=v) h
  exact .inl ⟨i,t,rfl,e⟩
 | .inr x,v,h=>by
  obtain⟨t,e⟩:=Value.isStrOf_shape (x:=x) (v:=v) h
  exact .inr ⟨x,t,rfl,e⟩
theorem zhY (i:Int)(t:Tok):zhr (.inl i) (.int i t)=true:=by simp[zhr,Value.isInt]
theorem zhZ (x:Str)(t:Tok):zhr (.inr x) (.str x t)=true:=by simp[zhr,Value.isStrOf]
theorem zl6 (a b:Int):decide ((Sum.inl a:Key)=Sum.inl b)=(a==b):=by
 by_cases e:a=b
 ·subst e;simp
 ·have h:¬(Sum.inl a:Key)=Sum.inl b:=fun q=>e (Sum.inl.inj q)
  rw[decide_eq_false h]
  exact (beq_eq_false_iff_ne.mpr e).symm
theorem zl7 (a b:Str):decide ((Sum.inr a:Key)=Sum.inr b)=decide (a=b):=by
 by_cases e:a=b
 ·subst e;simp
 ·have h:¬(Sum.inr a:Key)=Sum.inr b:=fun q=>e (Sum.inr.inj q)
  rw[decide_eq_false h,decide_eq_false e]
theorem zl8 (a:Int)(b:Str):decide ((Sum.inl a:Key)=Sum.inr b)=false:=decide_eq_false (fun q=>nomatch q)
theorem zl9 (a:Str)(b:Int):decide ((Sum.inr a:Key)=Sum.inl b)=false:=decide_eq_false (fun q=>nomatch q)
noncomputable def zaE (prog:Program)(w:World):PySem.KeyKind prog w Key where
 is:=zhr
 hash:=keyH w
 inj:=fun v a b ha hb=>by
  rcases zaG ha with⟨i,t,rfl,rfl⟩|⟨x,t,rfl,rfl⟩
  ·rcases zaG hb with⟨j,u,rfl,e⟩|⟨y,u,rfl,e⟩
   ·injection e with e1 _;rw[e1]
   ·exact nomatch e
  ·rcases zaG hb with⟨j,u,rfl,e⟩|⟨y,u,rfl,e⟩
   ·exact nomatch e
   ·injection e with e1 _;rw[e1]
 byValue:=fun k v h=>by
  rcases zaG h with⟨i,t,rfl,rfl⟩|⟨x,t,rfl,rfl⟩<;>rfl
 pyHash:=fun hv h=>by
  rcases zaG hv with⟨i,t,rfl,rfl⟩|⟨x,t,rfl,rfl⟩
  ·exact wpAny_pyHash_int h
  ·exact wpAny_pyHash_str h
 eqBool:=fun hu hv h=>by
  rcases zaG hu with⟨i,t,rfl,rfl⟩|⟨x,t,rfl,rfl⟩
  ·rcases zaG hv with⟨j,u,rfl,rfl⟩|⟨y,u,rfl,rfl⟩
   ·rw[zl6] at h;exact wpAny_eqBool_int h
   ·rw[zl8] at h;exact SeqAt.EqAt.int_str i t y u _ _ _ _ h
  ·rcases zaG hv with⟨j,u,rfl,rfl⟩|⟨y,u,rfl,rfl⟩
   ·rw[zl9] at h;exact SeqAt.EqAt.str_int x t j u _ _ _ _ h
   ·rw[zl7] at h;exact wpAny_eqBool_str h
 «strs»:=fun k x t v h=>by
  rcases zaG h with⟨i,u,rfl,e⟩|⟨y,u,rfl,e⟩
  ·exact nomatch e
  ·injection e with e1 _
   subst e1
   cases v<;>rfl
theorem zfw (prog:Program)(w:World)(i:Int)(t:Tok):(zaE prog w).is (.inl i) (.int i t)=true:=zhY i t
theorem zfx (prog:Program)(w:World)(x:Str)(t:Tok):(zaE prog w).is (.inr x) (.str x t)=true:=zhZ x t
inductive V where
 |non|bl (b:Bool)|int (i:Int)|str (x:Str)|byt (b:Array UInt8)|flt (b:UInt64)|ref (a:Addr)|ty (n:String)
 deriving DecidableEq
noncomputable def RelV:V->Value->Prop
 | .non,u=>u=Value.none
 | .bl b,u=>u=Value.bool b
 | .int i,u=>∃t,u=Value.int i t
 | .str x,u=>∃t,u=Value.str x t
 | .byt b,u=>∃t,u=Value.bytes b t
 | .flt b,u=>∃t,u=Value.float b t
 | .ref a,u=>u=Value.ref a
 | .ty n,u=>u=Value.type n
noncomputable abbrev Vals:List V->List Value->Prop:=Paired RelV
theorem Vals.length {xs:List V}{us:List Value}(r:Vals xs us):xs.length=us.length:=Paired.length r
theorem Vals.get:∀{xs:List V} {us:List Value} {i:Nat} {x:V},Vals xs us->xs[i]? =some x->∃u,us[i]? =some u/\RelV x u
 |_,_,_,_,.nil,e=>by simp at e
 |_,_,0,_,.cons r _,e=>by simp at e;subst e;exact⟨_,rfl,r⟩
 |_,_,i+1,x,.cons _ t,e=>by
  obtain⟨u,h1,h2⟩:=Vals.get (i:=i) (x:=x) t (by simpa using e)
  exact⟨u,by simpa using h1,h2⟩
theorem Vals.set {x:V}{u:Value}(r:RelV x u):∀{xs:List V} {us:List Value} (i:Nat),Vals xs us->Vals (xs.set i x) (us.set i u)
 |_,_,_,.nil=>.nil
 |_,_,0,.cons _ t=>.cons r t
 |_,_,i+1,.cons q t=>.cons q (Vals.set r i t)
theorem Vals.append:∀{xs ys:List V} {us ws:List Value},Vals xs us->Vals ys ws->Vals (xs++ys) (us++ws)
 |_,_,_,_,.nil,s=>s
 |_,_,_,_,.cons r t,s=>.cons r (Vals.append t s)
theorem Vals.take:∀{xs:List V} {us:List Value} (n:Nat),Vals xs us->Vals (xs.take n) (us.take n)
 |_,_,0,_=>.nil
 |_,_,_+1,.nil=>.nil
 |_,_,n+1,.cons r t=>.cons r (Vals.take n t)
theorem Vals.drop:∀{xs:List V} {us:List Value} (n:Nat),Vals xs us->Vals (xs.drop n) (us.drop n)
 |_,_,0,r=>r
 |_,_,_+1,.nil=>.nil
 |_,_,n+1,.cons _ t=>Vals.drop n t
theorem Vals.none_of:∀{xs:List V} {us:List Value} {i:Nat},Vals xs us->xs[i]? =none->us[i]? =none:=fun {xs us i} r e=>by
 have h1:=r.length
 have h2:xs.length<=i:=List.getElem?_eq_none_iff.mp e
 exact List.getElem?_eq_none_iff.mpr (by (first|lia|omega))
noncomputable def RelO:Option V->Option Value->Prop
 |some v,some u=>RelV v u
 |none,none=>True
 |_,_=>False
noncomputable def KV {κ:Type}:List (κ×V)->List (κ×Value)->Prop:=Paired fun (p:κ×V) (q:κ×Value)=>p.1=q.1/\RelV p.2 q.2
noncomputable def kV:Key->V
 | .inl i=>.int i
 | .inr x=>.str x
inductive HO where
  |lst (xs:List V)
  |tup (xs:List V)
  |dK (kvs:List (Key×V))|dT (kvs:List (List Key×V))
  |set (S:Int->Bool) (n:Nat)
  |ins (C dx:Addr) (fs:List (Str×V))
  |own (x:Addr)
  |xd (fs:List (Str×V))
  |met (f x:Addr)
  |rng (lo hi:Int)
  |frz (o:Obj) (u:HO)
  |tbl (ps:Array Value)
  |ext (φ:Heap->Prop)
noncomputable abbrev Hp:=Addr->Option HO
noncomputable def upd (H:Hp)(a:Addr)(o:HO):Hp:=fun b=>if b=a then some o else H b
theorem zab {H:Hp}{a:Addr}{o:HO}:upd H a o a=some o:=by unfold upd;rw[if_pos rfl]
theorem zah {H:Hp}{a b:Addr}{o:HO}(h:b≠a):upd H a o b=H b:=by unfold upd;rw[if_neg h]
theorem zk5 {H:Hp}{a:Addr}{o u:HO}:upd (upd H a o) a u=upd H a u:=by
 funext b;unfold upd;split<;>rfl
theorem zjH {H:Hp}{a b:Addr}{o u:HO}(h:H a=some o)(h':H b=some u)(d:o≠u):a≠b:=by
 intro e;subst e;rw[h] at h';exact d (Option.some.inj h')
theorem zak {H:Hp}{a b:Addr}{o:HO}(h:H a=some o)(h':H b=none):a≠b:=by
 intro e;subst e;rw[h] at h';cases h'
noncomputable def PTup (h:Heap)(a:Addr)(items:Array Value):Prop:=∃o,h.get? a=some o/\o.cls=.type "tuple" /\(∃n,o.data=.seq items n)/\o.dict=none/\o.slots=#[]
theorem PTup.tup {h:Heap}{a:Addr}{items:Array Value}(p:PTup h a items):IsTup h a items:=by
 obtain⟨o,e,c,d,_⟩:=p
 exact⟨o,e,c,d⟩
theorem PTup.new {h:Heap}{items:Array Value}{n:Nat}:PTup (h.push {cls:=.type "tuple",data:=.seq items n}) h.objs.size items:=⟨_,Heap.get?_push_size _ rfl,rfl,⟨_,rfl⟩,rfl,rfl⟩
section
variable (P:Program)(w:World)
noncomputable def ObjOk (H:Hp)(h:Heap)(a:Addr):HO->Prop
 | .lst xs=>xs.length<=sizeLine/\∃(its:List Value) (n:Nat),Vals xs its/\h.get? a=some {cls:=.type "list",data:=.seq its.toArray n}
 | .tup xs=>xs.length<=sizeLine/\∃its:List Value,Vals xs its/\PTup h a its.toArray
 | .dK kvs=>kvs.length<=sizeLine/\(a==sysModules)=false/\∃vs,KV kvs vs/\h.DictOf (zaE P w) a vs
 | .dT kvs=>kvs.length<=sizeLine/\(a==sysModules)=false/\∃xs:List (List Key×Addr×Value),
   Paired (fun (p:List Key×V) (q:List Key×Addr×Value)=>p.1=q.1/\H q.2.1=some (.tup (p.1.map kV))/\RelV p.2 q.2.2) kvs xs/\
   ∃o es ep,h.get? a=some o/\o.ExactDict/\o.data=.dict es ep/\es.toList=xs.map (entryOfKey (tupleKind (zaE P w)))/\(xs.map (·.1)).Nodup
 | .set S n=>h.SetOf (intKind P w) a S n
 | .ins C dx fs=>H dx=some (.own a)/\fs.length<=1000/\dx≠a/\h.get? a=some (PySem.W.instObj C dx)/\
   ∃mA,h.Ns1 dx mA/\(∀f,RelO (fs.lookup f) (mA f))/\PySem.Within mA (fs.map (·.1))
 | .own _=>∃o,h.get? a=some o
 | .xd fs=>∃mA,h.Ns1 a mA/\∀f,RelO (fs.lookup f) (mA f)
 | .rng lo hi=>∃t u v,h.get? a=some {cls:=.type "range",data:=.fields #[.int lo t,.int hi u,.int 1 v]}
 | .frz o u=>h.get? a=some o/\ObjOk H h a u
 | .tbl ps=>h.get? a=some {cls:=.none,data:=.fields ps}
 | .met f x=>h.get? a=some (PySem.W.methodObj (.ref f) (.ref x))
 | .ext φ=>φ h/\(∃o,h.get? a=some o)/\∀h1 h2:Heap,φ h1->(∀o,h1.get? a=some o->h2.get? a=some o)->φ h2
noncomputable def HOk (H:Hp)(h:Heap):Prop:=∀a o,H a=some o->ObjOk P w H h a o
end
section
variable {P:Program}{w:World}{H H':Hp}{h h':Heap}{a:Addr}{o:HO}
theorem ObjOk.lt (x:ObjOk P w H h a o):a<h.objs.size:=by
 cases o with
 |lst xs=>obtain⟨_,_,_,_,e⟩:=x;exact Heap.lt_size e
 |tup xs=>obtain⟨_,_,_,p⟩:=x;exact p.tup.lt
 |dK kvs=>obtain⟨_,_,_,_,o,_,_,e,_⟩:=x;exact Heap.lt_size e
 |dT kvs=>obtain⟨_,_,_,_,o,_,_,e,_⟩:=x;exact Heap.lt_size e
 |set S n=>obtain⟨o,_,_,_,e,_⟩:=x;exact Heap.lt_size e
 |ins C dx fs=>obtain⟨_,_,_,e,_⟩:=x;exact Heap.lt_size e
 |own y=>obtain⟨_,e⟩:=x;exact Heap.lt_size e
 |xd fs=>obtain⟨_,⟨_,_,_,e,_⟩,_⟩:=x;exact Heap.lt_size e
 |rng lo hi=>obtain⟨_,_,_,e⟩:=x;exact Heap.lt_size e
 |frz ob u=>obtain⟨e,_⟩:=x;exact Heap.lt_size e
 |tbl ps=>exact Heap.lt_size (show h.get? a=some _ from x)
 |met f y=>exact Heap.lt_size (show h.get? a=some _ from x)
 |ext φ=>obtain⟨_,⟨_,e⟩,_⟩:=x;exact Heap.lt_size e
theorem Paired.mapP {α β:Type}{F G:α->β->Prop}:∀{l₁:List α} {l₂:List β},Paired F l₁ l₂->(∀a b,F a b->G a b)->Paired G l₁ l₂
 |_,_,.nil,_=>.nil
 |_,_,.cons r t,f=>.cons (f _ _ r) (Paired.mapP t f)
theorem ObjOk.stay (x:ObjOk P w H h a o)(k:∀b u,(b=a∨H b=some (.own a))->h.get? b=some u->h'.get? b=some u)
  (ho:∀b,H b=some (.own a)->H' b=some (.own a)) (ht:∀b xs,H b=some (.tup xs)->H' b=some (.tup xs)):ObjOk P w H' h' a o:=by
 induction o with
 |lst xs=>obtain⟨z,its,n,r,e⟩:=x;exact⟨z,its,n,r,k _ _ (.inl rfl) e⟩
 |tup xs=>obtain⟨z,its,r,ob,e,c⟩:=x;exact⟨z,its,r,ob,k _ _ (.inl rfl) e,c⟩
 |dK kvs=>obtain⟨z,y,vs,r,ob,es,ep,e,c⟩:=x;exact⟨z,y,vs,r,ob,es,ep,k _ _ (.inl rfl) e,c⟩
 |dT kvs=>
  obtain⟨z,y,xs,r,ob,es,ep,e,c⟩:=x
  exact⟨z,y,xs,Paired.mapP r fun p q z=>⟨z.1,ht _ _ z.2.1,z.2.2⟩,ob,es,ep,k _ _ (.inl rfl) e,c⟩
 |set S n=>obtain⟨ob,es,ep,t,e,c⟩:=x;exact⟨ob,es,ep,t,k _ _ (.inl rfl) e,c⟩
 |ins C dx fs=>
  obtain⟨d,z,ne,e,mA,⟨od,es,ep,e2,c⟩,r⟩:=x
  exact⟨ho _ d,z,ne,k _ _ (.inl rfl) e,mA,⟨od,es,ep,k _ _ (.inr d) e2,c⟩,r⟩
 |own y=>obtain⟨ob,e⟩:=x;exact⟨ob,k _ _ (.inl rfl) e⟩
 |xd fs=>obtain⟨mA,⟨od,es,ep,e,c⟩,r⟩:=x;exact⟨mA,⟨od,es,ep,k _ _ (.inl rfl) e,c⟩,r⟩
 |rng lo hi=>obtain⟨t,u,v,e⟩:=x;exact⟨t,u,v,k _ _ (.inl rfl) e⟩
 |frz ob u ih=>obtain⟨e,q⟩:=x;exact⟨k _ _ (.inl rfl) e,ih q⟩
 |tbl ps=>
  have e:h.get? a=some {cls:=.none,data:=.fields ps}:=x
  show h'.get? a=some {cls:=.none,data:=.fields ps}
  exact k a _ (.inl rfl) e
 |met f y=>
  have e:h.get? a=some (PySem.W.methodObj (.ref f) (.ref y)):=x
  show h'.get? a=some (PySem.W.methodObj (.ref f) (.ref y))
  exact k a _ (.inl rfl) e
 |ext φ=>obtain⟨p,⟨o,e⟩,st⟩:=x;exact⟨st _ _ p fun o q=>k _ _ (.inl rfl) q,⟨o,k _ _ (.inl rfl) e⟩,st⟩
theorem HOk.lt (x:HOk P w H h)(e:H a=some o):a<h.objs.size:=(x a o e).lt
theorem HOk.fresh (x:HOk P w H h)(e:h.objs.size<=a):H a=none:=by
 cases q:H a with
 |none=>rfl
 |some u=>exact absurd (Nat.lt_of_lt_of_le (x.lt q) e) (Nat.lt_irrefl _)
theorem HOk.kept (x:HOk P w H h)(k:∀b u,h.get? b=some u->h'.get? b=some u):HOk P w H h':=fun a o e=>
 (x a o e).stay (fun b u _ q=>k b u q) (fun _ q=>q) fun _ _ q=>q
theorem HOk.laid (x:HOk P w H h)(k:∀b u,h.get? b=some u->h'.get? b=some u)(hp:h.objs.size<=a)(new:ObjOk P w (upd H a o) h' a o):HOk P w (upd H a o) h':=fun b u e=>by
 have hn:=x.fresh hp
 by_cases hb:b=a
 ·subst hb;rw[zab] at e;cases e;exact new
 ·rw [zah hb] at e
  exact (x b u e).stay (fun c v _ q=>k c v q) (fun c q=>by rw[zah (zak q hn)];exact q) fun c xs q=>by rw[zah (zak q hn)];exact q
end
noncomputable def Rd (H:Hp)(a:Addr)(u:HO):Prop:=H a=some u∨∃o,H a=some (.frz o u)
theorem Rd.ok {P:Program}{w:World}{H:Hp}{h:Heap}{a:Addr}{u:HO}(r:Rd H a u)(x:HOk P w H h):ObjOk P w H h a u:=by
 rcases r with r|⟨o,r⟩
 ·exact x a u r
 ·obtain ⟨_,q⟩:=x a _ r
  exact q
noncomputable def Mut:Option HO->Prop
 |some (.lst _)=>True
 |some (.dK _)=>True
 |some (.dT _)=>True
 |some (.set _ _)=>True
 |some (.ins _ _ _)=>True
 |some (.ext _)=>True
 |_=>False
section
variable {P:Program}{w:World}{H:Hp}{h h':Heap}{x e:Addr}{o':HO}
theorem HOk.write (ok:HOk P w H h)(mu:Mut (H x))(he:e=x∨H e=some (.own x))(k:∀b u,b≠e->h.get? b=some u->h'.get? b=some u)(heo:∃u,h'.get? e=some u)
  (new:ObjOk P w (upd H x o') h' x o'):HOk P w (upd H x o') h':=fun b u q=>by
 have nown:∀c y,H c=some (.own y)->c≠x:=fun c y r z=>by subst z;rw[r] at mu;exact mu
 have ntup:∀c xs,H c=some (.tup xs)->c≠x:=fun c xs r z=>by subst z;rw[r] at mu;exact mu
 by_cases hb:b=x
 ·subst hb;rw[zab] at q;cases q;exact new
 ·rw [zah hb] at q
  by_cases hbe:b=e
  ·have q':H b=some (.own x):=by
    rcases he with z|z
    ·exact absurd (hbe.trans z) hb
    ·rw[hbe];exact z
   rw[q] at q';cases q'
   obtain⟨v,hv⟩:=heo
   exact⟨v,by rw[hbe];exact hv⟩
  ·refine (ok b u q).stay (fun c v hc r=>k c v ?_ r) (fun c r=>by rw[zah (nown c b r)];exact r) fun c xs r=>by rw[zah (ntup c xs r)];exact r
   rcases hc with rfl|hc
   ·exact hbe
   ·rintro rfl
    rcases he with z|z
    ·exact nown c b hc z
    ·rw[hc] at z;cases z;exact hb rfl
end
structure Un (fs ex:List Addr) (H H':Hp) (h h':Heap):Prop where
 keep:∀b o,h.get? b=some o->H b=none->b∉fs->b∉ex->h'.get? b=some o
 slot:∀b o,h.get? b=some o->H b=none->b∈fs->b∉ex->∃sl,h'.get? b=some {o with slots:=sl}
 free:∀b o,h.get? b=some o->H b=none->b∉ex->H' b=none
 there:∀b o,h.get? b=some o->b∉ex->∃o',h'.get? b=some o'
 tups:∀b xs,H b=some (.tup xs)->H' b=some (.tup xs)
 frzs:∀b o u,H b=some (.frz o u)->H' b=some (.frz o u)
 tbls:∀b ps,H b=some (.tbl ps)->∃more,H' b=some (.tbl (ps++more))
section
variable {fs fs' ex ex':List Addr}{H H1 H2:Hp}{h h1 h2 h':Heap}{a x e:Addr}{o:HO}
theorem Un.any (u:Un fs ex H H1 h h1){b:Addr}{ob:Obj}(q:h.get? b=some ob)(n:H b=none)(hx:b∉ex):∃sl,h1.get? b=some {ob with slots:=sl}:=by
 by_cases hb:b∈fs
 ·exact u.slot b ob q n hb hx
 ·exact⟨ob.slots,u.keep b ob q n hb hx⟩
theorem Un.kept (k:∀b u,h.get? b=some u->h'.get? b=some u):Un fs ex H H h h':=
 ⟨fun b ob q _ _ _=>k b ob q,fun b ob q _ _ _=>⟨ob.slots,k b ob q⟩,fun _ _ _ n _=>n,fun b ob q _=>⟨ob,k b ob q⟩,fun _ _ q=>q,fun _ _ _ q=>q,fun _ ps q=>⟨#[],by rw[q];simp⟩⟩
theorem Un.refl:Un fs ex H H h h:=Un.kept fun _ _ q=>q
theorem Un.laid (k:∀b u,h.get? b=some u->h'.get? b=some u)(hp:h.objs.size<=a)(hn:H a=none):Un fs ex H (upd H a o) h h' where
 keep:=fun b u q _ _ _=>k b u q
 slot:=fun b u q _ _ _=>⟨u.slots,k b u q⟩
 free:=fun b u q n _=>by rw[zah (Nat.ne_of_lt (Nat.lt_of_lt_of_le (Heap.lt_size q) hp))];exact n
 there:=fun b u q _=>⟨u,k b u q⟩
 tups:=fun b xs q=>by rw[zah (zak q hn)];exact q
 frzs:=fun b u xs q=>by rw[zah (zak q hn)];exact q
 tbls:=fun b ps q=>⟨#[],by rw[zah (zak q hn),q];simp⟩
theorem Un.write (mu:Mut (H x))(he:e=x∨H e=some (.own x))(k:∀b u,b≠e->h.get? b=some u->h'.get? b=some u)(heo:∃u,h'.get? e=some u):Un fs ex H (upd H x o) h h':=by
 have hx:∀b,H b=none->b≠x:=fun b n z=>by subst z;rw[n] at mu;exact mu
 have hb:∀b,H b=none->b≠e:=fun b n z=>by
  subst z
  rcases he with r|r
  ·exact hx b n r
  ·rw[n] at r;cases r
 have hm:∀b u,H b=some u->¬Mut (some u)->b≠x:=fun b u q nm z=>by subst z;rw[q] at mu;exact nm mu
 refine⟨fun b u q n _ _=>k b u (hb b n) q,fun b u q n _ _=>⟨u.slots,k b u (hb b n) q⟩,fun b u q n _=>by rw[zah (hx b n)];exact n,fun b u q _=> ?_,
  fun b xs q=>by rw[zah (hm b _ q fun z=>z)];exact q,fun b u xs q=>by rw[zah (hm b _ q fun z=>z)];exact q,fun b ps q=>⟨#[],by rw[zah (hm b _ q fun z=>z),q];simp⟩⟩
 by_cases hbe:b=e
 ·subst hbe;exact heo
 ·exact⟨u,k b u hbe q⟩
end
noncomputable def trk (h:Heap)(H:Hp):List Addr:=(List.range h.objs.size).filter fun a=>(H a).isSome
noncomputable def hidT (h:Heap)(H:Hp):Heap:=PySem.W.hideAll h (trk h H)
theorem zh0 (h:Heap)(H:Hp):(hidT h H).objs.size=h.objs.size:=PySem.W.hideAll_size _ _
theorem zjI {h:Heap}{H:Hp}{b:Addr}{o:Obj}(e:h.get? b=some o)(n:H b=none):(hidT h H).get? b=some o:=
 PySem.W.hideAll_get _ e fun hm=>by
  have q:(H b).isSome=true:=(List.mem_filter.mp hm).2
  rw[n] at q;simp at q
theorem zk6 {h:Heap}{H:Hp}{b:Addr}{o:Obj}(e:(hidT h H).get? b=some o):h.get? b=some o/\H b=none:=by
 have e':h.get? b=some o:=PySem.W.of_hideAll (trk h H) e
 refine⟨e', ?_⟩
 cases q:H b with
 |none=>rfl
 |some x=>
  have hm:b∈trk h H:=List.mem_filter.mpr ⟨List.mem_range.mpr (Heap.lt_size e'),by simp[q]⟩
  have z:(hidT h H).get? b=none:=PySem.W.hideAll_none (trk h H) hm
  rw[z] at e;cases e
noncomputable def zk7 (g h:Heap)(L:Addr):List (Addr×Obj):=(List.range h.objs.size).filterMap fun a=>if a=L∨(g.get? a).isSome=true then none else (h.get? a).map fun o=>(a,o)
noncomputable def rest (g h:Heap)(L d:Addr):List (Addr×Obj):=(zk7 g h L).filter fun p=>decide (p.1≠d)
structure Mod (K:PySem.W.Frag) (mg:Str->Option Value) (base:Heap):Prop where
 kin:K.In base
 glob:base.Ns mainGlobals mg
 blt:∃mb,base.Ns builtinsNs mb/\∀x:Str,x≠ "__name__" ->mb x=bootBuiltins x
 nolimit:base.NoLimit
structure Cx where
 prog:Program
 w:World
 K:PySem.W.Frag
 mg:Str->Option Value
 base:Heap
 A:Around
 N:List Str
 s₀:Shared
 H₀:Hp
 env:Env
 outer:List Env
 stack:List Env
 ex:List Addr
 fn:Str->Bool
 calm:Bool
 pn:List (Addr×Obj)
 xe:Value->Shared->Prop
noncomputable def frs (l:List Env):List Addr:=l.filterMap (·.frame)
noncomputable abbrev Cx.fs (X:Cx):List Addr:=frs X.outer
noncomputable def Vis (sc:Scope)(x:Str):Prop:=sc.names.lookup x=some .local∨sc.names.lookup x=some .cell∨sc.names.lookup x=some .free
noncomputable def Loc (sc:Scope)(x:Str):Prop:=sc.names.lookup x=some .local∨sc.names.lookup x=some .cell
noncomputable def Look (env:Env)(h:Heap)(m:Str->Option Value)(x:Str)(u:Value):Prop:=
 (env.kindOf x=some .local/\m x=some u)∨((env.kindOf x=some .cell∨env.kindOf x=some .free)/\∃c,env.cells.lookup x=some c/\h.IsCell c (some u))
structure Cx.Ok (X:Cx):Prop where
 mod:Mod X.K X.mg X.base
 kind:X.env.scope.kind=.function
 glob:X.env.globals=mainGlobals
 blt:X.env.builtins=builtinsNs
 above:X.s₀.heap.objs.size<=X.env.locals
 inj:∀x y c,X.env.cells.lookup x=some c->X.env.cells.lookup y=some c->x=y
 has:∀x,(X.env.kindOf x=some .cell∨X.env.kindOf x=some .free)->∃c,X.env.cells.lookup x=some c
 cab:∀x c,X.fn x=true->X.env.cells.lookup x=some c->X.s₀.heap.objs.size<=c
 hd:X.calm=true->X.A.handled=none
 frames:X.A.frames=some X.stack
 stk:X.stack=X.outer∨(X.stack=X.env::X.outer/\X.env.frame=some X.env.locals)
 exf:∀b∈X.ex,b≠X.env.locals/\∀x c,X.env.cells.lookup x=some c->c≠b
 bs:∀b o,X.base.get? b=some o->X.s₀.heap.get? b=some o/\X.H₀ b=none
 bsz:X.base.objs.size<=X.s₀.heap.objs.size
 noex:∀b o,X.base.get? b=some o->b∉X.ex
 exfs:∀b∈X.ex,b∉X.fs
 funs:X.s₀.heap.FunFrames X.base X.outer
 frf:∀b∈X.fs,X.H₀ b=none
structure Inv (X:Cx) (pins:List (Addr×Obj)) (σ:List (Option V)) (H:Hp) (s:Shared):Prop where
 ok:X.Ok
 os:s.os=X.s₀.os
 bare:AllBare s.gens
 base:Un X.fs X.ex X.H₀ H X.s₀.heap s.heap
 loc:∃m,s.heap.Ns X.env.locals m/\∀(i:Nat) (x:Str) (v:V),X.N[i]? =some x->σ[i]? =some (some v)->Vis X.env.scope x->∃u,RelV v u/\Look X.env s.heap m x u
 cell:∀x c,X.env.cells.lookup x=some c->∃v,s.heap.IsCell c v
 free:H X.env.locals=none
 freeC:∀x c,X.env.cells.lookup x=some c->H c=none
 pin:∀p∈X.pn++pins,s.heap.get? p.1=some p.2/\H p.1=none/\p.1≠X.env.locals/\p.1∉X.fs/\∀v,p.2.data≠.cell v
 hok:HOk X.prog X.w H s.heap
 len:σ.length=X.N.length
section
variable {X:Cx}{pins:List (Addr×Obj)}{σ:List (Option V)}{H H':Hp}{s:Shared}{h':Heap}
theorem Cx.Ok.nofr (ok:X.Ok){b:Addr}{o:Obj}(e:X.base.get? b=some o):b∉X.fs:=fun hb=>by
 have:=(ok.funs.mem hb).1
 rw[e] at this;cases this
theorem Inv.bs (I:Inv X pins σ H s):∀b o,X.base.get? b=some o->s.heap.get? b=some o/\H b=none:=fun b o e=>
 ⟨I.base.keep b o (I.ok.bs b o e).1 (I.ok.bs b o e).2 (I.ok.nofr e) (I.ok.noex b o e),I.base.free b o (I.ok.bs b o e).1 (I.ok.bs b o e).2 (I.ok.noex b o e)⟩
theorem Inv.bk (I:Inv X pins σ H s):∀b o,X.base.get? b=some o->s.heap.get? b=some o:=fun b o e=>(I.bs b o e).1
theorem Inv.mod (I:Inv X pins σ H s):Mod X.K X.mg X.base:=I.ok.mod
theorem Inv.kIn (I:Inv X pins σ H s):X.K.In s.heap:=I.ok.mod.kin.keeps I.bk
theorem Inv.lt (I:Inv X pins σ H s):X.env.locals<s.heap.objs.size:=let ⟨_,hn,_⟩:=I.loc;hn.lt
theorem Inv.sz (I:Inv X pins σ H s):X.s₀.heap.objs.size<=s.heap.objs.size:=Nat.le_trans I.ok.above (Nat.le_of_lt I.lt)
theorem Inv.nofs (I:Inv X pins σ H s){a:Addr}(h:s.heap.objs.size<=a):a∉X.fs:=fun hb=>by
 obtain⟨_,o,ho,_⟩:=I.ok.funs.mem hb
 exact absurd (Nat.lt_of_lt_of_le (Heap.lt_size ho) (Nat.le_trans I.sz h)) (Nat.lt_irrefl _)
theorem Inv.cne (I:Inv X pins σ H s):∀x c,X.env.cells.lookup x=some c->c≠X.env.locals:=fun x c e z=>by
 obtain⟨v,o,ho,hd⟩:=I.cell x c e
 obtain⟨m,⟨o',es,ep,ho',hd',_⟩,_⟩:=I.loc
 rw[z,ho'] at ho;cases ho;rw[hd'] at hd;cases hd
theorem Inv.funs (I:Inv X pins σ H s):s.heap.FunFrames X.base X.outer:=by
 have all:∀(l:List Env),(∀b∈frs l,b∈X.fs)->X.s₀.heap.FunFrames X.base l->s.heap.FunFrames X.base l:=by
  intro l
  induction l with
  |nil=>intro _ _;trivial
  |cons env r ih=>
   intro hs hl
   obtain⟨hk,⟨L,o,hf,hn,ho,hd⟩,hr⟩:=hl
   have hL:L∈X.fs:=hs L (by unfold frs;rw[List.filterMap_cons,hf];exact List.mem_cons_self)
   obtain⟨sl,e⟩:=I.base.slot L o ho (I.ok.frf L hL) hL fun z=>I.ok.exfs L z hL
   exact⟨hk,⟨L,_,hf,hn,e,hd⟩,ih (fun b hb=>hs b (by unfold frs;rw[List.filterMap_cons,hf];exact List.mem_cons_of_mem _ hb)) hr⟩
 exact all X.outer (fun _ hb=>hb) I.ok.funs
theorem Inv.stack (I:Inv X pins σ H s):s.heap.FunFrames X.base X.stack:=by
 rcases I.ok.stk with e|⟨e,hf⟩
 ·rw[e];exact I.funs
 ·rw [e]
  obtain⟨m,hn,_⟩:=I.loc
  refine .cons (by rw[I.ok.kind];decide) hf hn ?_ I.funs
  exact Heap.get?_none_of_le (Nat.le_trans I.ok.bsz I.ok.above)
theorem Inv.stkSub (I:Inv X pins σ H s):∀b∈frs X.stack,b∈X.env.locals::X.fs:=fun b hb=>by
 rcases I.ok.stk with e|⟨e,hf⟩
 ·rw[e] at hb;exact List.mem_cons_of_mem _ hb
 ·rw [e] at hb
  unfold frs at hb
  rw[List.filterMap_cons,hf] at hb
  exact hb
theorem Inv.stkFree (I:Inv X pins σ H s):∀b∈frs X.stack,H b=none:=fun b hb=>by
 rcases List.mem_cons.mp (I.stkSub b hb) with e|hb
 ·rw[e];exact I.free
 ·obtain ⟨_,o,ho,_⟩:=I.ok.funs.mem hb
  exact I.base.free b o ho (I.ok.frf b hb) fun z=>I.ok.exfs b z hb
theorem Inv.step {g':Array GenState}{t':Nat}{d':Drawn}{ch:List Addr}(I:Inv X pins σ H s)
  (hch:∀b∈ch,(b∈X.ex∨X.s₀.heap.objs.size<=b)/\b≠X.env.locals/\(∀x c,X.env.cells.lookup x=some c->c≠b)/\∀p∈X.pn++pins,p.1≠b)
  (keep:∀b o,b≠X.env.locals->b∉X.fs->b∉ch->s.heap.get? b=some o->H b=none->h'.get? b=some o)
  (slot:∀b o,b≠X.env.locals->b∈X.fs->b∉ch->s.heap.get? b=some o->H b=none->∃sl,h'.get? b=some {o with slots:=sl}) (free:∀b o,b∉ch->s.heap.get? b=some o->H b=none->H' b=none)
  (there:∀b o,b∉ch->s.heap.get? b=some o->∃o',h'.get? b=some o')
  (tups:∀b xs,H b=some (.tup xs)->H' b=some (.tup xs)) (frzs:∀b o u,H b=some (.frz o u)->H' b=some (.frz o u)) (tbls:∀b ps,H b=some (.tbl ps)->∃more,H' b=some (.tbl (ps++more)))
  (ns:∀m,s.heap.Ns X.env.locals m->h'.Ns X.env.locals m) (hok:HOk X.prog X.w H' h') (hg:AllBare g'):
  Inv X pins σ H' {s with heap:=h',gens:=g',drawn:=d',toks:=t'}:=by
 have neL:∀b o,X.s₀.heap.get? b=some o->b≠X.env.locals:=fun b o e=>Nat.ne_of_lt (Nat.lt_of_lt_of_le (Heap.lt_size e) I.ok.above)
 have neC:∀b o,X.s₀.heap.get? b=some o->b∉X.ex->b∉ch:=fun b o e hx hb=>by
  rcases (hch b hb).1 with z|z
  ·exact hx z
  ·exact absurd (Nat.lt_of_lt_of_le (Heap.lt_size e) z) (Nat.lt_irrefl _)
 have cellK:∀x c,X.env.cells.lookup x=some c->∀v,s.heap.IsCell c v->h'.IsCell c v:=fun x c e v ⟨o,ho,hd⟩=>by
  have nch:c∉ch:=fun z=>(hch c z).2.2.1 x c e rfl
  by_cases hc:c∈X.fs
  ·obtain ⟨sl,q⟩:=slot c o (I.cne x c e) hc nch ho (I.freeC x c e)
   exact⟨_,q,hd⟩
  ·exact⟨o,keep c o (I.cne x c e) hc nch ho (I.freeC x c e),hd⟩
 refine⟨I.ok,I.os,hg,⟨fun b o e n hb hx=> ?_,fun b o e n hb hx=> ?_,fun b o e n hx=> ?_,fun b o e hx=> ?_,fun b xs e=>tups b xs (I.base.tups b xs e),fun b o xs e=>frzs b o xs (I.base.frzs b o xs e),fun b ps e=> ?_⟩, ?_,fun x c e=> ?_, ?_,fun x c e=> ?_,fun p hp=> ?_,hok,I.len⟩
 ·exact keep b o (neL b o e) hb (neC b o e hx) (I.base.keep b o e n hb hx) (I.base.free b o e n hx)
 ·obtain ⟨sl,e1⟩:=I.base.slot b o e n hb hx
  obtain⟨sl',e2⟩:=slot b _ (neL b o e) hb (neC b o e hx) e1 (I.base.free b o e n hx)
  exact⟨sl',e2⟩
 ·obtain ⟨o',e1⟩:=I.base.there b o e hx
  exact free b o' (neC b o e hx) e1 (I.base.free b o e n hx)
 ·obtain ⟨o',e1⟩:=I.base.there b o e hx
  exact there b o' (neC b o e hx) e1
 ·obtain ⟨m1,e1⟩:=I.base.tbls b ps e
  obtain⟨m2,e2⟩:=tbls b _ e1
  exact⟨m1++m2,by rw[e2,Array.append_assoc]⟩
 ·obtain ⟨m,hn,hl⟩:=I.loc
  refine⟨m,ns m hn,fun i x v e1 e2 e3=> ?_⟩
  obtain⟨u,r,l⟩:=hl i x v e1 e2 e3
  refine⟨u,r, ?_⟩
  rcases l with l|⟨k,c,e,z⟩
  ·exact .inl l
  ·exact .inr ⟨k,c,e,cellK x c e _ z⟩
 ·obtain ⟨v,z⟩:=I.cell x c e
  exact⟨v,cellK x c e v z⟩
 ·obtain ⟨m,⟨o,_,_,ho,_⟩,_⟩:=I.loc
  exact free _ o (fun z=>(hch _ z).2.1 rfl) ho I.free
 ·obtain ⟨v,o,ho,hd⟩:=I.cell x c e
  exact free c o (fun z=>(hch c z).2.2.1 x c e rfl) ho (I.freeC x c e)
 ·obtain ⟨e,n,ne,nf,d⟩:=I.pin p hp
  have nch:p.1∉ch:=fun z=>(hch p.1 z).2.2.2 p hp rfl
  exact⟨keep p.1 p.2 ne nf nch e n,free p.1 p.2 nch e n,ne,nf,d⟩
theorem Inv.un {t':Nat}(I:Inv X pins σ H s)(u:Un X.fs [] H H' s.heap h')(hok:HOk X.prog X.w H' h'):Inv X pins σ H' {s with heap:=h',toks:=t'}:=by
 obtain⟨m,⟨o,es,ep,ho,r⟩,_⟩:=id I.loc
 obtain⟨sl,hL⟩:=u.any ho I.free (by simp)
 exact I.step (g':=s.gens) (d':=s.drawn) (ch:=[]) (fun _ z=>nomatch z) (fun b o _ hb _ e n=>u.keep b o e n hb (by simp)) (fun b o _ hb _ e n=>u.slot b o e n hb (by simp)) (fun b o _ e n=>u.free b o e n (by simp)) (fun b o _ e=>u.there b o e (by simp)) u.tups u.frzs u.tbls (fun m' hm=>by
  obtain⟨o',es',ep',ho',r'⟩:=hm
  rw[ho] at ho';cases ho'
  exact⟨_,es',ep',hL,r'⟩) hok I.bare
theorem Inv.call {g':Array GenState}{t':Nat}{d':Drawn}{ch:List Addr}(I:Inv X pins σ H s)(u:Un (frs X.stack) ch H H' s.heap h')(hok:HOk X.prog X.w H' h')(hg:AllBare g')
  (hch:∀b∈ch,(b∈X.ex∨X.s₀.heap.objs.size<=b)/\b≠X.env.locals/\(∀x c,X.env.cells.lookup x=some c->c≠b)/\∀p∈X.pn++pins,p.1≠b):
  Inv X pins σ H' {s with heap:=h',gens:=g',drawn:=d',toks:=t'}:=by
 obtain⟨m,⟨o,es,ep,ho,r⟩,_⟩:=id I.loc
 obtain⟨sl,hL⟩:=u.any ho I.free fun z=>(hch _ z).2.1 rfl
 exact I.step (ch:=ch) hch (fun b o hL hb hc e n=>u.keep b o e n (fun z=>(List.mem_cons.mp (I.stkSub b z)).elim hL hb) hc) (fun b o _ _ hc e n=>u.any e n hc) (fun b o hc e n=>u.free b o e n hc) (fun b o hc e=>u.there b o e hc) u.tups u.frzs u.tbls (fun m' hm=>by
  obtain⟨o',es',ep',ho',r'⟩:=hm
  rw[ho] at ho';cases ho'
  exact⟨_,es',ep',hL,r'⟩) hok hg
theorem Inv.turned {t':Nat}{it:Addr}(I:Inv X pins σ H s)(k:∀b o,b≠it->s.heap.get? b=some o->h'.get? b=some o)(hn:H it=none)(hL:it≠X.env.locals)
  (h1:it∈X.ex∨X.s₀.heap.objs.size<=it) (h2:∀x c,X.env.cells.lookup x=some c->c≠it) (h3:∀p∈X.pn++pins,p.1≠it):Inv X pins σ H {s with heap:=h',toks:=t'}:=by
 have nit:∀b u,H b=some u->b≠it:=fun b u e z=>by rw[z,hn] at e;cases e
 refine I.step (g':=s.gens) (d':=s.drawn) (ch:=[it]) (fun b hb=> ?_) (fun b o _ _ hc e _=>k b o (fun z=>hc (by simp[z])) e) (fun b o _ _ hc e _=>⟨o.slots,k b o (fun z=>hc (by simp[z])) e⟩) (fun _ _ _ _ n=>n)
  (fun b o hc e=>⟨o,k b o (fun z=>hc (by simp[z])) e⟩) (fun _ _ e=>e) (fun _ _ _ e=>e) (fun b ps e=>⟨#[],by rw[e];simp⟩) (fun m hm=> ?_) (fun b u e=> ?_) I.bare
 ·have e:b=it:=by simpa using hb
  subst e
  exact⟨h1,hL,h2,h3⟩
 ·obtain ⟨o,es,ep,ho,r⟩:=hm
  exact⟨o,es,ep,k _ o (Ne.symm hL) ho,r⟩
 ·refine (I.hok b u e).stay (fun c v hc q=>k c v ?_ q) (fun _ q=>q) fun _ _ q=>q
  rcases hc with z|z
  ·rw[z];exact nit b u e
  ·exact nit c _ z
theorem Inv.tok (I:Inv X pins σ H s)(t:Nat):Inv X pins σ H {s with toks:=t}:=I.un (h':=s.heap) (t':=t) Un.refl I.hok
theorem Inv.kept {t':Nat}(I:Inv X pins σ H s)(k:∀b u,s.heap.get? b=some u->h'.get? b=some u):Inv X pins σ H {s with heap:=h',toks:=t'}:=I.un (Un.kept k) (I.hok.kept k)
theorem Inv.laid {a:Addr}{o:HO}{t':Nat}(I:Inv X pins σ H s)(k:∀b u,s.heap.get? b=some u->h'.get? b=some u)(hp:s.heap.objs.size<=a)(new:ObjOk X.prog X.w (upd H a o) h' a o):
  Inv X pins σ (upd H a o) {s with heap:=h',toks:=t'}:=I.un (Un.laid k hp (I.hok.fresh hp)) (I.hok.laid k hp new)
theorem Inv.write {x e:Addr}{o:HO}{t':Nat}(I:Inv X pins σ H s)(mu:Mut (H x))(he:e=x∨H e=some (.own x))(k:∀b u,b≠e->s.heap.get? b=some u->h'.get? b=some u)(heo:∃u,h'.get? e=some u)
  (new:ObjOk X.prog X.w (upd H x o) h' x o):Inv X pins σ (upd H x o) {s with heap:=h',toks:=t'}:=I.un (Un.write mu he k heo) (I.hok.write mu he k heo new)
theorem Inv.weak {σ':List (Option V)}(I:Inv X pins σ H s)(hl:σ'.length=σ.length)(w:∀(i:Nat) v,σ'[i]? =some (some v)->σ[i]? =some (some v)):Inv X pins σ' H s:=
 ⟨I.ok,I.os,I.bare,I.base,let ⟨m,hn,hl'⟩:=I.loc;⟨m,hn,fun i x v e1 e2 e3=>hl' i x v e1 (w i v e2) e3⟩,I.cell,I.free,I.freeC,I.pin,I.hok,hl.trans I.len⟩
theorem Inv.pins_of {pins':List (Addr×Obj)}(I:Inv X pins σ H s)(h:∀p∈pins',s.heap.get? p.1=some p.2/\H p.1=none/\p.1≠X.env.locals/\p.1∉X.fs/\∀v,p.2.data≠.cell v):Inv X pins' σ H s:=
 ⟨I.ok,I.os,I.bare,I.base,I.loc,I.cell,I.free,I.freeC,fun p hp=>(List.mem_append.mp hp).elim (fun z=>I.pin p (List.mem_append_left _ z)) (h p),I.hok,I.len⟩
theorem zgk {N:List Str}(hN:N.Nodup){i j:Nat}{x:Str}(a:N[i]? =some x)(b:N[j]? =some x):i=j:=by
 obtain⟨h1,e1⟩:=List.getElem?_eq_some_iff.mp a
 obtain⟨h2,e2⟩:=List.getElem?_eq_some_iff.mp b
 exact (List.getElem_inj hN).mp (e1.trans e2.symm)
theorem zh1 {M:Model}{A:Around}{E:Value->Shared->Prop}{i:Nat}{x:Str}{v:V}{u:Value}{Q:Unit->Shared->Prop}(I:Inv X pins σ H s)(hN:X.N.Nodup)(hi:X.N[i]? =some x)(hx:Loc X.env.scope x)(r:RelV v u)
  (h:∀s',Inv X pins (σ.set i (some v)) H s'->(∃a,Heap.SameBut a s.heap s'.heap/\(a=X.env.locals∨X.env.cells.lookup x=some a))->Q () s') (hf:X.fn x=true∨X.env.scope.names.lookup x=some .local:=by first|exact .inl rfl|exact .inr rfl|assumption):wpAny M A (storeName X.env x u) Q E s:=by
 obtain⟨m,hn,hl⟩:=id I.loc
 have hcls:(X.env.scope.kind==.class||(X.env.scope.kind==.module&&X.env.locals != X.env.globals))=false:=by rw[I.ok.kind];rfl
 have hiσ:i<σ.length:=by rw[I.len];exact (List.getElem?_eq_some_iff.mp hi).1
 have cne:=I.cne
 have tracked:∀{a:Addr} {h':Heap},(∃o,s.heap.get? a=some o/\H a=none)->Heap.SameBut a s.heap h'->HOk X.prog X.w H h':=fun {a h'} ha hs b ob e=>by
  obtain⟨_,_,hfree⟩:=ha
  refine (I.hok b ob e).stay (fun c w' hc q=>(hs.2 c ?_).trans q) (fun _ q=>q) fun _ _ q=>q
  rintro rfl
  rcases hc with rfl|hc
  ·rw[hfree] at e;cases e
  ·rw[hfree] at hc;cases hc
 rcases hx with hk|hk
 ·refine wpAny_storeName_local hk hn (fun h' hn' hs=> ?_) hcls
  obtain⟨oL,_,_,hoL,_⟩:=id hn
  refine h _ ⟨I.ok,I.os,I.bare,⟨fun b o e n hb hx=> ?_,fun b o e n hb hx=> ?_,I.base.free,fun b o e hx=> ?_,I.base.tups,I.base.frzs,I.base.tbls⟩,⟨_,hn',fun j y v' e1 e2 e3=> ?_⟩,fun y c e=> ?_,I.free,I.freeC,fun p hp=> ?_,tracked ⟨oL,hoL,I.free⟩ hs,by simpa using I.len⟩ ⟨_,hs,.inl rfl⟩
  ·exact (hs.2 b (Nat.ne_of_lt (Nat.lt_of_lt_of_le (Heap.lt_size e) I.ok.above))).trans (I.base.keep b o e n hb hx)
  ·obtain ⟨sl,e1⟩:=I.base.slot b o e n hb hx
   exact⟨sl,(hs.2 b (Nat.ne_of_lt (Nat.lt_of_lt_of_le (Heap.lt_size e) I.ok.above))).trans e1⟩
  ·obtain ⟨o',e1⟩:=I.base.there b o e hx
   exact⟨o',(hs.2 b (Nat.ne_of_lt (Nat.lt_of_lt_of_le (Heap.lt_size e) I.ok.above))).trans e1⟩
  ·by_cases hj:j=i
   ·subst hj
    rw[hi] at e1;cases e1
    rw[List.getElem?_set_self hiσ] at e2
    cases e2
    exact⟨u,r,.inl ⟨hk,by simp⟩⟩
   ·rw [List.getElem?_set_ne (Ne.symm hj)] at e2
    obtain⟨u',r',q⟩:=hl j y v' e1 e2 e3
    refine⟨u',r', ?_⟩
    rcases q with⟨k,e⟩|⟨k,c,e,z⟩
    ·refine .inl ⟨k, ?_⟩
     have:y≠x:=fun e=>hj (zgk hN e1 (e▸hi))
     simp[this,e]
    ·exact .inr ⟨k,c,e,z.sameBut hs (cne y c e)⟩
  ·obtain ⟨w',z⟩:=I.cell y c e
   exact⟨w',z.sameBut hs (cne y c e)⟩
  ·obtain ⟨e,n,ne,nf,d⟩:=I.pin p hp
   exact⟨(hs.2 p.1 ne).trans e,n,ne,nf,d⟩
 ·have hfn:X.fn x=true:=by
   rcases hf with z|z
   ·exact z
   ·rw[z] at hk;cases hk
  obtain⟨c,hc⟩:=I.ok.has x (.inl hk)
  obtain⟨w',z⟩:=I.cell x c hc
  refine wpAny_storeName_cell I.ok.kind hk hc z (fun h' hc' hs=> ?_)
  obtain⟨oc,hoc,hocd⟩:=id z
  refine h {s with heap:=h'} ⟨I.ok,I.os,I.bare,⟨fun b o e n hb hx=> ?_,fun b o e n hb hx=> ?_,I.base.free,fun b o e hx=> ?_,I.base.tups,I.base.frzs,I.base.tbls⟩,⟨m,hn.sameBut hs (Ne.symm (cne x c hc)),fun j y v' e1 e2 e3=> ?_⟩,fun y c' e=> ?_,I.free,I.freeC,fun p hp=> ?_,tracked ⟨oc,hoc,I.freeC x c hc⟩ hs,by simpa using I.len⟩ ⟨c,hs,.inr hc⟩
  ·exact (hs.2 b (Nat.ne_of_lt (Nat.lt_of_lt_of_le (Heap.lt_size e) (I.ok.cab x c hfn hc)))).trans (I.base.keep b o e n hb hx)
  ·obtain ⟨sl,e1⟩:=I.base.slot b o e n hb hx
   exact⟨sl,(hs.2 b (Nat.ne_of_lt (Nat.lt_of_lt_of_le (Heap.lt_size e) (I.ok.cab x c hfn hc)))).trans e1⟩
  ·obtain ⟨o',e1⟩:=I.base.there b o e hx
   exact⟨o',(hs.2 b (Nat.ne_of_lt (Nat.lt_of_lt_of_le (Heap.lt_size e) (I.ok.cab x c hfn hc)))).trans e1⟩
  ·by_cases hj:j=i
   ·subst hj
    rw[hi] at e1;cases e1
    rw[List.getElem?_set_self hiσ] at e2
    cases e2
    exact⟨u,r,.inr ⟨.inl hk,c,hc,hc'⟩⟩
   ·rw [List.getElem?_set_ne (Ne.symm hj)] at e2
    obtain⟨u',r',q⟩:=hl j y v' e1 e2 e3
    refine⟨u',r', ?_⟩
    rcases q with q|⟨k,c',e,z'⟩
    ·exact .inl q
    ·refine .inr ⟨k,c',e,z'.sameBut hs ?_⟩
     rintro rfl
     exact hj (zgk hN e1 (I.ok.inj _ _ _ e hc▸hi))
  ·by_cases hcc:c'=c
   ·subst hcc;exact⟨_,hc'⟩
   ·obtain ⟨w2,z2⟩:=I.cell y c' e
    exact⟨w2,z2.sameBut hs hcc⟩
  ·obtain ⟨e,n,ne,nf,d⟩:=I.pin p hp
   refine⟨(hs.2 p.1 ?_).trans e,n,ne,nf,d⟩
   intro q
   rw[q,hoc] at e
   have q':oc=p.2:=Option.some.inj e
   exact d w' (by rw[<-q'];exact hocd)
theorem zcp {M:Model}{A:Around}{E:Value->Shared->Prop}{i:Nat}{x:Str}{v:V}{u:Value}{Q:Unit->Shared->Prop}(I:Inv X pins σ H s)(hN:X.N.Nodup)(hi:X.N[i]? =some x)(hx:Loc X.env.scope x)(r:RelV v u)
  (h:∀s',Inv X pins (σ.set i (some v)) H s'->Q () s') (hf:X.fn x=true∨X.env.scope.names.lookup x=some .local:=by first|exact .inl rfl|exact .inr rfl|assumption):wpAny M A (storeName X.env x u) Q E s:=
 zh1 I hN hi hx r (fun s' I' _=>h s' I') hf
theorem Inv.call' {s':Shared}{ch:List Addr}(I:Inv X pins σ H s)(ho:s'.os=s.os)(u:Un (frs X.stack) ch H H' s.heap s'.heap)(hok:HOk X.prog X.w H' s'.heap)(hg:AllBare s'.gens)
  (hch:∀b∈ch,(b∈X.ex∨X.s₀.heap.objs.size<=b)/\b≠X.env.locals/\(∀x c,X.env.cells.lookup x=some c->c≠b)/\∀p∈X.pn++pins,p.1≠b):Inv X pins σ H' s':=by
 obtain⟨h',g',d',t',o'⟩:=s'
 have e:o'=s.os:=ho
 subst e
 exact I.call (g':=g') (t':=t') (d':=d') u hok hg hch
end
noncomputable abbrev XK:=Value->Option Addr->Hp->Prop
noncomputable abbrev St:=List (Option V)
noncomputable abbrev VK:=V->Hp->Prop
noncomputable abbrev TE:=St->Hp->VK->Prop
noncomputable abbrev TT:=St->Hp->(Bool->Hp->Prop)->Prop
noncomputable abbrev TA:=St->Hp->(List V->Hp->Prop)->Prop
structure Ends where
 nx:St->Hp->Prop
 rt:VK
 bk:St->Hp->Prop:=fun _ _=>False
 ct:St->Hp->Prop:=fun _ _=>False
noncomputable abbrev TS:=Ends->St->Hp->Prop
noncomputable def EP (X:Cx)(pins:List (Addr×Obj))(σ:St)(Q:VK)(u:Value)(s':Shared):Prop:=∃v H',Inv X pins σ H' s'/\RelV v u/\Q v H'
noncomputable def TP (X:Cx)(pins:List (Addr×Obj))(σ:St)(Q:Bool->Hp->Prop)(b:Bool)(s':Shared):Prop:=∃H',Inv X pins σ H' s'/\Q b H'
noncomputable def AP (X:Cx)(pins:List (Addr×Obj))(σ:St)(Q:List V->Hp->Prop)(us:List Value)(s':Shared):Prop:=∃vs H',Inv X pins σ H' s'/\Vals vs us/\Q vs H'
noncomputable def SP (X:Cx)(pins:List (Addr×Obj))(D:Ends)(f:Flow)(s':Shared):Prop:=
 match f with
 | .next=>∃σ' H',Inv X pins σ' H' s'/\D.nx σ' H'
 | .brk=>∃σ' H',Inv X pins σ' H' s'/\D.bk σ' H'
 | .cont=>∃σ' H',Inv X pins σ' H' s'/\D.ct σ' H'
 | .ret u=>∃v σ' H',Inv X pins σ' H' s'/\RelV v u/\D.rt v H'
noncomputable def PE (X:Cx)(e:Expr)(t:TE):Prop:=
 ∀(pins:List (Addr×Obj)) (s:Shared) (σ:St) (H:Hp) (Q:VK),Inv X pins σ H s->t σ H Q->wpAny (model X.prog X.w) X.A (eval e X.env) (EP X pins σ Q) X.xe s
noncomputable def PT (X:Cx)(e:Expr)(t:TT):Prop:=
 ∀(pins:List (Addr×Obj)) (s:Shared) (σ:St) (H:Hp) (Q:Bool->Hp->Prop),Inv X pins σ H s->t σ H Q->wpAny (model X.prog X.w) X.A (isTrue e X.env (eval e X.env)) (TP X pins σ Q) X.xe s
noncomputable def PW (X:Cx)(e:Expr)(t:TT):Prop:=
 ∀(whole:Sem Value) (pins:List (Addr×Obj)) (s:Shared) (σ:St) (H:Hp) (Q:Bool->Hp->Prop),Inv X pins σ H s->t σ H Q->wpAny (model X.prog X.w) X.A (isTrue e X.env whole) (TP X pins σ Q) X.xe s
theorem PW.pt {X:Cx}{e:Expr}{t:TT}(h:PW X e t):PT X e t:=h _
noncomputable def PA (X:Cx)(es:List Expr)(t:TA):Prop:=
 ∀(pos:Pos) (pins:List (Addr×Obj)) (s:Shared) (σ:St) (H:Hp) (Q:List V->Hp->Prop),Inv X pins σ H s->t σ H Q->wpAny (model X.prog X.w) X.A (spliced (backTo pos (starEach es X.env))) (AP X pins σ Q) X.xe s
noncomputable def PS (X:Cx)(st:Stmt)(t:TS):Prop:=
 ∀(pins:List (Addr×Obj)) (s:Shared) (σ:St) (H:Hp) (D:Ends),Inv X pins σ H s->t D σ H->wpAny (model X.prog X.w) X.A (exec st X.env) (SP X pins D) X.xe s
noncomputable def PSs (X:Cx)(st:List Stmt)(t:TS):Prop:=
 ∀(pins:List (Addr×Obj)) (s:Shared) (σ:St) (H:Hp) (D:Ends),Inv X pins σ H s->t D σ H->wpAny (model X.prog X.w) X.A (execs st X.env) (SP X pins D) X.xe s
theorem thn {α:Type}{t:Sem α}{Q Q':α->Shared->Prop}{M:Model}{A:Around}{E:Value->Shared->Prop}{s:Shared}(h:wpAny M A t Q E s)(hQ:∀a s,Q a s->Q' a s):wpAny M A t Q' E s:=wpAny_mono h hQ fun _ _ x=>x
section
variable {X:Cx}
noncomputable def tVar (i:Nat):TE:=fun σ H Q=>∃v,σ[i]? =some (some v)/\Q v H
noncomputable def tC (v:V):TE:=fun _ H Q=>Q v H
theorem zma {i:Nat}{x:Str}{pos:Pos}(hN:X.N[i]? =some x)(hv:Vis X.env.scope x)(hd:(x==("__debug__" :Str))=false:=by decide)(hcd:(x==("__classdict__" :Str))=false:=by decide):PE X (.Name x pos) (tVar i):=by
 intro pins s σ H Q I h
 obtain⟨v,e,h⟩:=h
 obtain⟨m,hn,hl⟩:=I.loc
 obtain⟨u,r,l⟩:=hl i x v hN e hv
 have fin:EP X pins σ Q u s:=⟨v,H,I,r,h⟩
 rcases l with⟨hk,hm⟩|⟨hk,c,hc,hcell⟩
 ·exact wpAny_Name (wpAny_loadName_local I.ok.kind hk hn hm fin) hd
 ·rcases hk with hk|hk
  ·exact wpAny_Name (wpAny_loadName_cell I.ok.kind hk hc hcell fin) hd
  ·exact wpAny_Name (wpAny_loadName_free I.ok.kind hk hc hcell fin hcd) hd
theorem zaj {i j pos}:PE X (.Constant (.int i) j pos) (tC (.int i)):=fun _ _ _ H _ I h=>wpAny_Constant_int ⟨.int i,H,I.tok _,⟨_,rfl⟩,h⟩
theorem zdW {b j pos}:PE X (.Constant (.bool b) j pos) (tC (.bl b)):=fun _ _ _ H _ I h=>Constant_bool ⟨.bl b,H,I,rfl,h⟩
theorem zgl {x j pos}:PE X (.Constant (.str x) j pos) (tC (.str x)):=fun _ _ _ H _ I h=>Calls.Constant_str ⟨.str x,H,I.tok _,⟨_,rfl⟩,h⟩
noncomputable def Gl (X:Cx)(x:Str):Prop:=X.env.kindOf x=some .globalImplicit
theorem zh2 {E:Value->Shared->Prop}{pins:List (Addr×Obj)}{s:Shared}{σ:St}{H:Hp}{x:Str}{u:Value}{pos:Pos}{Q:Value->Shared->Prop}(I:Inv X pins σ H s)(hg:Gl X x)(hm:X.mg x=some u)(h:Q u s)
  (hd:(x==("__debug__" :Str))=false:=by decide):wpAny (model X.prog X.w) X.A (eval (.Name x pos) X.env) Q E s:=
 Calls.Name_function_global I.ok.kind hg (Calls.loadGlobal_global (by rw[I.ok.glob];exact I.mod.glob.keeps I.bk) hm h) hd
theorem zdd {E:Value->Shared->Prop}{pins:List (Addr×Obj)}{s:Shared}{σ:St}{H:Hp}{x:Str}{u:Value}{pos:Pos}{Q:Value->Shared->Prop}(I:Inv X pins σ H s)(hg:Gl X x)(hm:X.mg x=none)(hv:bootBuiltins x=some u)(h:Q u s)
  (hn:x≠ "__name__" :=by decide) (hd:(x==("__debug__" :Str))=false:=by decide):wpAny (model X.prog X.w) X.A (eval (.Name x pos) X.env) Q E s:=by
 obtain⟨mb,h1,h2⟩:=I.mod.blt
 exact Calls.Name_function_global I.ok.kind hg (Calls.loadGlobal_builtin (by rw[I.ok.glob];exact I.mod.glob.keeps I.bk) hm (by rw[I.ok.blt];exact h1.keeps I.bk) ((h2 x hn).trans hv) h) hd
theorem zk8 {x:Str}{v:V}{u:Value}{pos:Pos}(hg:Gl X x)(hm:X.mg x=some u)(r:RelV v u)(hd:(x==("__debug__" :Str))=false:=by decide):PE X (.Name x pos) (tC v):=
 fun _ _ _ H _ I h=>zh2 I hg hm ⟨v,H,I,r,h⟩ hd
variable {a b:Expr}{ta tb:TE}{pos:Pos}
noncomputable def tB (t:TE):TT:=fun σ H Q=>t σ H fun x H1=>∃c,x=.bl c/\Q c H1
theorem zh3 {e:Expr}{t:TE}(h:PE X e t)(he:∀whole,isTrue e X.env whole=(do let v<-whole;standAt e.pos;holding [v] (truthy v)):=by intro _;rfl):PT X e (tB t):=by
 intro pins s σ H Q I hw
 refine isTrue_plain (thn (h pins s σ H _ I hw) fun v s1 zq=> ?_) (he _)
 obtain⟨x,H1,I1,r1,q1⟩:=zq
 obtain⟨d,rfl,q⟩:=q1
 cases r1
 exact wpAny_truthy_bool ⟨H1,I1,q⟩
variable {tA tB':TT}{rest:List Expr}
noncomputable def tAnd (t u:TT):TT:=fun σ H Q=>t σ H fun c H1=>if c=true then u σ H1 Q else Q false H1
noncomputable def tOr (t u:TT):TT:=fun σ H Q=>t σ H fun c H1=>if c=true then Q true H1 else u σ H1 Q
noncomputable def tNot (t:TT):TT:=fun σ H Q=>t σ H fun c H1=>Q (!c) H1
theorem zk9 (ha:PT X a tA):PW X (.BoolOp .And [a] pos) tA:=by
 intro wh pins s σ H Q I h
 refine isTrue_and (thn (ha pins s σ H Q I h) fun c s1 e=> ?_)
 cases c with
 |true=>exact isTrue_and_nil e
 |false=>exact e
theorem zkA (ha:PT X a tA):PW X (.BoolOp .Or [a] pos) tA:=by
 intro wh pins s σ H Q I h
 refine isTrue_or (thn (ha pins s σ H Q I h) fun c s1 e=> ?_)
 cases c with
 |false=>exact isTrue_or_nil e
 |true=>exact e
theorem zmb (ha:PT X a tA)(hb:PW X (.BoolOp .And (b::rest) pos) tB'):PW X (.BoolOp .And (a::b::rest) pos) (tAnd tA tB'):=by
 intro wh pins s σ H Q I h
 refine isTrue_and (thn (ha pins s σ H _ I h) fun c s1 zq=> ?_)
 obtain⟨H1,I1,q1⟩:=zq
 cases c with
 |true=>exact hb wh pins s1 σ H1 Q I1 q1
 |false=>exact⟨H1,I1,q1⟩
theorem zmc (ha:PT X a tA)(hb:PW X (.BoolOp .Or (b::rest) pos) tB'):PW X (.BoolOp .Or (a::b::rest) pos) (tOr tA tB'):=by
 intro wh pins s σ H Q I h
 refine isTrue_or (thn (ha pins s σ H _ I h) fun c s1 zq=> ?_)
 obtain⟨H1,I1,q1⟩:=zq
 cases c with
 |true=>exact⟨H1,I1,q1⟩
 |false=>exact hb wh pins s1 σ H1 Q I1 q1
theorem zkB (ha:PT X a tA):PT X (.UnaryOp .Not a pos) (tNot tA):=by
 intro pins s σ H Q I h
 exact isTrue_not (ha pins s σ H (fun c H1=>Q (!c) H1) I h)
noncomputable def znb (ta tb:TE):TE:=fun σ H Q=>ta σ H fun x H1=>∃c,x=.bl c/\if c=true then tb σ H1 Q else Q (.bl false) H1
theorem zmd {op}{t:TE}(h:PE X a t):PE X (.BoolOp op [a] pos) t:=fun pins s σ H Q I hw=>BoolOp_one (h pins s σ H Q I hw)
theorem zme (ha:PE X a ta)(hb:PE X (.BoolOp .And (b::rest) pos) tb):PE X (.BoolOp .And (a::b::rest) pos) (znb ta tb):=by
 intro pins s σ H Q I h
 refine BoolOp_and (thn (ha pins s σ H _ I h) fun v s1 zq=> ?_)
 obtain⟨x,H1,I1,r1,q1⟩:=zq
 obtain⟨c,rfl,q1⟩:=q1
 cases r1
 refine wpAny_truthy_bool ?_
 cases c with
 |true=>exact hb pins s1 σ H1 Q I1 q1
 |false=>exact⟨.bl false,H1,I1,rfl,q1⟩
end
noncomputable def SqL (K:PySem.W.Frag)(H:Hp)(a:Addr)(xs:List V):Prop:=
 Rd H a (.lst xs)∨
  ∃(o:Obj) (its:Array Value) (n:Nat),K.lookup a=some o/\o.cls=.type "list" /\o.dict=none/\o.data=.seq its n/\its.size<=sizeLine/\Vals xs its.toList
noncomputable def SqT (K:PySem.W.Frag)(H:Hp)(a:Addr)(xs:List V):Prop:=
 Rd H a (.tup xs)∨
  ∃(o:Obj) (its:Array Value) (n:Nat),K.lookup a=some o/\o.cls=.type "tuple" /\o.data=.seq its n/\its.size<=sizeLine/\Vals xs its.toList
noncomputable def absV:Value->Option V
 | .none=>some .non
 | .bool b=>some (.bl b)
 | .int i _=>some (.int i)
 | .str x _=>some (.str x)
 | .bytes b _=>some (.byt b)
 | .float b _=>some (.flt b)
 | .ref a=>some (.ref a)
 | .type n=>some (.ty n)
 |_=>none
theorem RelV.abs {x:V}{u:Value}(r:RelV x u):absV u=some x:=by
 cases x with
 |non=>cases r;rfl
 |bl _=>cases r;rfl
 |int _=>obtain⟨t,rfl⟩:=r;rfl
 |str _=>obtain⟨t,rfl⟩:=r;rfl
 |byt _=>obtain⟨t,rfl⟩:=r;rfl
 |flt _=>obtain⟨t,rfl⟩:=r;rfl
 |ref _=>cases r;rfl
 |ty _=>cases r;rfl
theorem RelV.inj {x y:V}{u:Value}(r:RelV x u)(q:RelV y u):x=y:=Option.some.inj (r.abs.symm.trans q.abs)
theorem Vals.inj:∀{xs ys:List V} {us:List Value},Vals xs us->Vals ys us->xs=ys
 |_,_,_,.nil,.nil=>rfl
 |_,_,_,.cons r t,.cons r' t'=>by rw[r.inj r',Vals.inj t t']
section
variable {X:Cx}{pins:List (Addr×Obj)}{σ:St}{H:Hp}{s:Shared}{a:Addr}{xs ys:List V}
theorem SqL.of {K:PySem.W.Frag}(h:H a=some (.lst xs)):SqL K H a xs:=.inl (.inl h)
theorem SqT.of {K:PySem.W.Frag}(h:H a=some (.tup xs)):SqT K H a xs:=.inl (.inl h)
theorem Inv.list (I:Inv X pins σ H s)(h:SqL X.K H a xs):∃its:List Value,Vals xs its/\PlainL s.heap a its.toArray/\xs.length<=sizeLine:=by
 rcases h with h|⟨o,its,n,hk,hc,hd,hs,hz,r⟩
 ·obtain ⟨z,its,n,r,e⟩:=h.ok I.hok
  exact⟨its,r,⟨_,n,e,rfl,rfl,rfl⟩,z⟩
 ·refine ⟨its.toList,r,⟨o,n,I.kIn a o hk,hc,hd,by simpa using hs⟩, ?_⟩
  have e:=r.length
  simp only[Array.length_toList] at e
  (first|lia|omega)
theorem Inv.tuple (I:Inv X pins σ H s)(h:SqT X.K H a xs):∃its:List Value,Vals xs its/\IsTup s.heap a its.toArray/\xs.length<=sizeLine:=by
 rcases h with h|⟨o,its,n,hk,hc,hs,hz,r⟩
 ·obtain ⟨z,its,r,p⟩:=h.ok I.hok
  exact⟨its,r,p.tup,z⟩
 ·refine ⟨its.toList,r,⟨o,I.kIn a o hk,hc,n,by simpa using hs⟩, ?_⟩
  have e:=r.length
  simp only[Array.length_toList] at e
  (first|lia|omega)
theorem Inv.list_inj (I:Inv X pins σ H s)(h:SqL X.K H a xs)(h':SqL X.K H a ys):xs=ys:=by
 obtain⟨its,r,⟨o,n,e,_,_,d⟩,_⟩:=I.list h
 obtain⟨its',r',⟨o',n',e',_,_,d'⟩,_⟩:=I.list h'
 rw[e] at e';cases e'
 rw[d] at d'
 injection d' with d1 _
 have:its=its':=by simpa using congrArg Array.toList d1
 subst this
 exact r.inj r'
theorem Inv.tuple_inj (I:Inv X pins σ H s)(h:SqT X.K H a xs)(h':SqT X.K H a ys):xs=ys:=by
 obtain⟨its,r,⟨o,e,_,n,d⟩,_⟩:=I.tuple h
 obtain⟨its',r',⟨o',e',_,n',d'⟩,_⟩:=I.tuple h'
 rw[e] at e';cases e'
 rw[d] at d'
 injection d' with d1 _
 have:its=its':=by simpa using congrArg Array.toList d1
 subst this
 exact r.inj r'
end
noncomputable abbrev Cx.wish (X:Cx)(E:Value->Shared->Prop):Cx:={X with xe:=E}
noncomputable abbrev Cx.nox (X:Cx):Cx:=X.wish fun _ _=>False
theorem Cx.Ok.wish {X:Cx}(ok:X.Ok)(E:Value->Shared->Prop):(X.wish E).Ok:=
 ⟨ok.mod,ok.kind,ok.glob,ok.blt,ok.above,ok.inj,ok.has,ok.cab,ok.hd,ok.frames,ok.stk,ok.exf,ok.bs,ok.bsz,ok.noex,ok.exfs,ok.funs,ok.frf⟩
theorem Cx.Ok.unwish {X:Cx}{E:Value->Shared->Prop}(ok:(X.wish E).Ok):X.Ok:=
 ⟨ok.mod,ok.kind,ok.glob,ok.blt,ok.above,ok.inj,ok.has,ok.cab,ok.hd,ok.frames,ok.stk,ok.exf,ok.bs,ok.bsz,ok.noex,ok.exfs,ok.funs,ok.frf⟩
section
variable {X:Cx}{pins:List (Addr×Obj)}{σ:St}{H:Hp}{s:Shared}{E:Value->Shared->Prop}
theorem Inv.wish (I:Inv X pins σ H s)(E:Value->Shared->Prop):Inv (X.wish E) pins σ H s:=⟨I.ok.wish E,I.os,I.bare,I.base,I.loc,I.cell,I.free,I.freeC,I.pin,I.hok,I.len⟩
theorem Inv.unwish (I:Inv (X.wish E) pins σ H s):Inv X pins σ H s:=⟨I.ok.unwish,I.os,I.bare,I.base,I.loc,I.cell,I.free,I.freeC,I.pin,I.hok,I.len⟩
theorem SP.unwish {D:Ends}{f:Flow}{s':Shared}(h:SP (X.wish E) pins D f s'):SP X pins D f s':=by
 cases f with
 |next=>obtain⟨σ',H',I,q⟩:=h;exact⟨σ',H',I.unwish,q⟩
 |brk=>obtain⟨σ',H',I,q⟩:=h;exact⟨σ',H',I.unwish,q⟩
 |cont=>obtain⟨σ',H',I,q⟩:=h;exact⟨σ',H',I.unwish,q⟩
 |ret u=>obtain⟨v,σ',H',I,r,q⟩:=h;exact⟨v,σ',H',I.unwish,r,q⟩
theorem PSs.nox {st:List Stmt}{t:TS}(h:PSs X.nox st t):PSs X st t:=fun pins s σ H D I hw=>
 wpAny_mono (h pins s σ H D (I.wish _) hw) (fun _ _ q=>q.unwish) fun _ _ z=>False.elim z
end
section
variable {X:Cx}{st:Stmt}{rest:List Stmt}{t u:TS}{e:Expr}{te:TE}{pos:Pos}
noncomputable def znc:TS:=fun D σ H=>D.nx σ H
noncomputable def tSeq (t u:TS):TS:=fun D σ H=>t {D with nx:=u D} σ H
theorem zaH:PSs X [] znc:=fun _ _ σ H _ I h=>wpAny_execs_nil ⟨σ,H,I,h⟩
theorem zae (h1:PS X st t)(h2:PSs X rest u):PSs X (st::rest) (tSeq t u):=by
 intro pins s σ H D I h
 refine wpAny_execs_cons (thn (h1 pins s σ H {D with nx:=u D} I h) fun f s1 q=> ?_)
 cases f with
 |next=>
  obtain⟨σ',H',I',q⟩:=q
  exact h2 pins s1 σ' H' D I' q
 |ret v=>exact q
 |brk=>exact q
 |cont=>exact q
theorem zag (h1:PS X st t):PSs X [st] t:=by
 intro pins s σ H D I h
 refine wpAny_execs_cons (thn (h1 pins s σ H D I h) fun f s1 q=> ?_)
 cases f with
 |next=>exact wpAny_execs_nil q
 |ret v=>exact q
 |brk=>exact q
 |cont=>exact q
theorem Inv.quiet {pins:List (Addr×Obj)}{σ:St}{H:Hp}{s:Shared}(I:Inv X pins σ H s):interactive X.env=false:=by simp[interactive,I.ok.kind]
noncomputable def znd (te:TE):TS:=fun D σ H=>te σ H fun _ H1=>D.nx σ H1
theorem za5 (he:PE X e te)(hs:swapsWith e none pos.line X.env=pure false:=by rfl):PS X (.Expr e pos) (znd te):=by
 intro pins s σ H D I h
 exact wpAny_Expr_any (thn (he pins s σ H _ I h) fun v s1 ⟨x,H1,I1,r1,q1⟩=>⟨σ,H1,I1,q1⟩) I.quiet hs
noncomputable def tRet (te:TE):TS:=fun D σ H=>te σ H D.rt
theorem zas (he:PE X e te):PS X (.Return (some e) pos) (tRet te):=by
 intro pins s σ H D I h
 exact wpAny_Return_some (thn (he pins s σ H _ I h) fun v s1 ⟨x,H1,I1,r1,q1⟩=>⟨x,σ,H1,I1,r1,q1⟩)
noncomputable def tIfS (c:TT)(t u:TS):TS:=fun D σ H=>c σ H fun b H1=>if b=true then t D σ H1 else u D σ H1
theorem zbp {c:Expr}{a b:List Stmt}{tc:TT}(hc:PT X c tc)(ha:PSs X a t)(hb:PSs X b u):PS X (.If c a b pos) (tIfS tc t u):=by
 intro pins s σ H D I h
 refine wpAny_If (thn (hc pins s σ H _ I h) fun d s1 zq=> ?_)
 obtain⟨H1,I1,q1⟩:=zq
 cases d with
 |true=>exact ha pins s1 σ H1 D I1 q1
 |false=>exact hb pins s1 σ H1 D I1 q1
end
noncomputable abbrev TG:=V->St->Hp->(St->Hp->Prop)->Prop
noncomputable abbrev TGs:=List V->St->Hp->(St->Hp->Prop)->Prop
noncomputable def PG (X:Cx)(target:Expr)(t:TG):Prop:=
 ∀(pins:List (Addr×Obj)) (s:Shared) (σ:St) (H:Hp) (v:V) (u:Value) (Q:St->Hp->Prop),Inv X pins σ H s->RelV v u->t v σ H Q->
  wpAny (model X.prog X.w) X.A (assign target X.env u) (fun _ s'=>∃σ' H',Inv X pins σ' H' s'/\Q σ' H') X.xe s
noncomputable def PGs (X:Cx)(ts:List Expr)(t:TGs):Prop:=
 ∀(pins:List (Addr×Obj)) (s:Shared) (σ:St) (H:Hp) (vs:List V) (us:List Value) (Q:St->Hp->Prop),Inv X pins σ H s->Vals vs us->t vs σ H Q->
  wpAny (model X.prog X.w) X.A (assignInOrder ((assignEach ts X.env).map (·.2)) us) (fun _ s'=>∃σ' H',Inv X pins σ' H' s'/\Q σ' H') X.xe s
noncomputable abbrev TSet:=V->V->V->Hp->(Hp->Prop)->Prop
noncomputable def PSet (X:Cx)(t:TSet):Prop:=
 ∀(pins:List (Addr×Obj)) (s:Shared) (σ:St) (H:Hp) (o i v:V) (ov iv u:Value) (Q:Hp->Prop),Inv X pins σ H s->RelV o ov->RelV i iv->RelV v u->t o i v H Q->
  wpAny (model X.prog X.w) X.A (setItem ov iv u) (fun _ s'=>∃H',Inv X pins σ H' s'/\Q H') X.xe s
noncomputable abbrev TIp:=V->V->Hp->VK->Prop
noncomputable def PIp (X:Cx)(op:Operator)(t:TIp):Prop:=
 ∀(pins:List (Addr×Obj)) (s:Shared) (σ:St) (H:Hp) (x y:V) (v u:Value) (Q:VK),Inv X pins σ H s->RelV x v->RelV y u->t x y H Q->
  wpAny (model X.prog X.w) X.A (inplaceOp op v u) (EP X pins σ Q) X.xe s
section
variable {X:Cx}{pos:Pos}
noncomputable def zbG (i:Nat):TG:=fun v σ H Q=>Q (σ.set i (some v)) H
theorem zal {i:Nat}{x:Str}(hN:X.N.Nodup)(hi:X.N[i]? =some x)(hx:Loc X.env.scope x)(hf:X.fn x=true∨X.env.scope.names.lookup x=some .local:=by first|exact .inl rfl|exact .inr rfl|assumption):PG X (.Name x pos) (zbG i):=by
 intro pins s σ H v u Q I r h
 exact wpAny_assign_Name (zcp I hN hi hx r (fun s' I'=>⟨_,H,I',h⟩) hf)
noncomputable def gNil:TGs:=fun vs σ H Q=>vs=[]/\Q σ H
noncomputable def zfy (t:TG)(u:TGs):TGs:=fun vs σ H Q=>∃v r,vs=v::r/\t v σ H fun σ' H'=>u r σ' H' Q
theorem zfz:PGs X [] gNil:=by
 intro pins s σ H vs us Q I r h
 obtain⟨e,h⟩:=h
 subst e
 cases r
 exact assignInOrder_nil ⟨σ,H,I,h⟩
theorem zbV {e:Expr}{es:List Expr}{t:TG}{u:TGs}(h1:PG X e t)(h2:PGs X es u)
  (hs:(assignEach (e::es) X.env).map (·.2)=assign e X.env::(assignEach es X.env).map (·.2):=by rfl):PGs X (e::es) (zfy t u):=by
 intro pins s σ H vs us Q I r h
 obtain⟨v,vr,e1,h⟩:=h
 subst e1
 cases r with
 |cons r rr=>
  rw[hs]
  refine assignInOrder_cons (thn (h1 pins s σ H _ _ _ I r h) fun _ s1 zq=> ?_)
  obtain⟨σ1,H1,I1,q1⟩:=zq
  exact h2 pins s1 σ1 H1 _ _ Q I1 rr q1
noncomputable def gTup (K:PySem.W.Frag)(n:Nat)(t:TGs):TG:=fun v σ H Q=>∃a xs,v=.ref a/\SqT K H a xs/\xs.length=n/\t xs σ H Q
theorem zh4 {es:List Expr}{k:Nat}{t:TGs}{n:Nat}(hc:X.calm=true)(h:PGs X es t)
  (hn:(assignEach es X.env).length=n:=by rfl) (hst:(assignEach es X.env).findIdx? (·.1)=none:=by rfl):PG X (.Tuple es k pos) (gTup X.K n t):=by
 intro pins s σ H v u Q I r hw
 obtain⟨a,xs,e1,hq,hl,hw⟩:=hw
 subst e1
 cases r
 obtain⟨its,rv,ht,hz⟩:=I.tuple hq
 refine assign_Tuple_tuple (I.ok.hd hc) ht (by simp[hn,<-hl,rv.length]) hst fun h' hx=> ?_
 have I1:Inv X pins σ H {s with heap:=h'}:=I.kept (t':=s.toks) fun b o e=>hx b o (Nat.ne_of_lt (Heap.lt_size e)) e
 exact h pins _ σ H xs _ Q I1 (by simpa using rv) hw
noncomputable def gSub (to ti:TE)(t:TSet):TG:=fun v σ H Q=>to σ H fun o H1=>ti σ H1 fun i H2=>t o i v H2 fun H3=>Q σ H3
theorem zcq {o i:Expr}{to ti:TE}{t:TSet}(ho:PE X o to)(hi:PE X i ti)(hs:PSet X t)
  (ha:∀v,assign (.Subscript o i pos) X.env v=(do
   let ov<-holding [v] (eval o X.env)
   let iv<-holding [v,ov] (eval i X.env)
   standAt pos
   holding [v,ov,iv] (setItem ov iv v)
   release [v,ov,iv] []):=by intro _;rfl):PG X (.Subscript o i pos) (gSub to ti t):=by
 intro pins s σ H v u Q I r h
 rw[ha]
 refine wpAny_bind (wpAny_holding (thn (ho pins s σ H _ I h) fun ov s1 zq=> ?_))
 obtain⟨x,H1,I1,r1,q1⟩:=zq
 refine wpAny_bind (wpAny_holding (thn (hi pins s1 σ H1 _ I1 q1) fun iv s2 zq=> ?_))
 obtain⟨y,H2,I2,r2,q2⟩:=zq
 refine wpAny_bind (wpAny_standAt (wpAny_bind (wpAny_holding (thn (hs pins s2 σ H2 x y v ov iv u _ I2 r1 r2 r q2) fun _ s3 zq=> ?_))))
 obtain⟨H3,I3,q3⟩:=zq
 exact wpAny_release ⟨σ,H3,I3,q3⟩
noncomputable def tAsg (te:TE)(g:TG):TS:=fun D σ H=>te σ H fun x H1=>g x σ H1 D.nx
theorem zcr {tg e:Expr}{te:TE}{g:TG}(he:PE X e te)(hg:PG X tg g)(hs:swapsWithSole [tg] e pos.line X.env=pure false:=by rfl)(hw:swappedStores [tg] e X.env=pure none:=by rfl)
  (h1:(assignEach [tg] X.env).map (·.2)=[assign tg X.env]:=by rfl):PS X (.Assign [tg] e pos) (tAsg te g):=by
 intro pins s σ H D I h
 refine wpAny_Assign_stores (thn (he pins s σ H _ I h) fun v s1 zq=> ?_) hs hw
 obtain⟨x,H1,I1,r1,q1⟩:=zq
 rw[h1]
 exact thn (hg pins s1 σ H1 x v _ I1 r1 q1) fun _ s2 q=>q
theorem zam {i:Nat}{x:Str}{e:Expr}{te:TE}{pos':Pos}(hN:X.N.Nodup)(hi:X.N[i]? =some x)(hx:Loc X.env.scope x)(he:PE X e te)(hs:swapsWith e (some (.Name x pos')) pos.line X.env=pure false:=by rfl)(hf:X.fn x=true∨X.env.scope.names.lookup x=some .local:=by first|exact .inl rfl|exact .inr rfl|assumption):
  PS X (.Assign [.Name x pos'] e pos) (tAsg te (zbG i)):=by
 intro pins s σ H D I h
 refine wpAny_Assign_Name (thn (he pins s σ H _ I h) fun v s1 zq=> ?_) hs
 obtain⟨y,H1,I1,r1,q1⟩:=zq
 exact zcp I1 hN hi hx r1 (fun s2 I2=>⟨_,H1,I2,q1⟩) hf
noncomputable def tPar (i j:Nat)(ta:TA):TS:=fun D σ H=>ta σ H fun vs H1=>∃v w,vs=[v,w]/\D.nx ((σ.set i (some v)).set j (some w)) H1
theorem zmf {i j:Nat}{x y:Str}{a b:Expr}{ta:TA}{px py pt:Pos}{kt k2 pt2}(hc:X.calm=true)(hN:X.N.Nodup)(hi:X.N[i]? =some x)(hj:X.N[j]? =some y)(hij:i≠j)
  (hx:X.env.scope.names.lookup x=some .local) (hy:X.env.scope.names.lookup y=some .local) (ha:PA X [a,b] ta)
  (hw:swappedStores [.Tuple [.Name x px,.Name y py] kt pt] (.Tuple [a,b] k2 pt2) X.env=pure (some [x,y]))
  (hs:swapsWithSole [.Tuple [.Name x px,.Name y py] kt pt] (.Tuple [a,b] k2 pt2) pos.line X.env=pure false:=by rfl):
  PS X (.Assign [.Tuple [.Name x px,.Name y py] kt pt] (.Tuple [a,b] k2 pt2) pos) (tPar i j ta):=by
 intro pins s σ H D I h
 rw[exec_Assign_arm]
 refine wpAny_bind (wpAny_standAt ?_)
 rw[hs]
 refine wpAny_bind (wpAny_pure ?_)
 rw[if_neg (by decide)]
 refine wpAny_bind (Tuple_ (thn (ha _ pins s σ H _ I h) fun us s1 zq=> ?_))
 obtain⟨vs,H1,I1,r1,q1⟩:=zq
 obtain⟨v,w,e1,q1⟩:=q1
 subst e1
 obtain⟨u1,u2,rfl,rv,rw'⟩:∃u1 u2,us=[u1,u2]/\RelV v u1/\RelV w u2:=by
  cases r1 with
  | cons p q=>
   cases q with
   |cons p' q'=>
    cases q'
    exact⟨_,_,rfl,p,p'⟩
 refine wpAny_newObj_type ?_ (by show 2<=sizeLine;decide)
 have I2:Inv X pins σ H1 {s1 with heap:=s1.heap.push {cls:=.type "tuple",data:=.seq [u1,u2].toArray}}:=I1.kept (t':=s1.toks) fun b o e=>Heap.get?_push_of_some _ e
 rw[hw]
 refine wpAny_bind (wpAny_pure ?_)
 show wpAny (model X.prog X.w) X.A (do rule "assign.swapped-stores";let items<-unpackItems (.ref s1.heap.objs.size) 2 none;assignInOrder [fun v=>bindName X.env y v,fun v=>bindName X.env x v] items.reverse;pure Flow.next) _ _ _
 refine wpAny_bind (wpAny_rule (wpAny_bind (unpackItems_tuple (items:=#[u1,u2]) (I.ok.hd hc) (IsTup.new s1.heap _) fun h' hx'=> ?_)))
 have I3:=I2.kept (h':=h') (t':=s1.toks) fun b o e=>hx' b o (Nat.ne_of_lt (Heap.lt_size e)) e
 show wpAny _ _ (assignInOrder [fun v=>bindName X.env y v,fun v=>bindName X.env x v] [u2,u1] >>= fun _=>pure Flow.next) _ _ _
 refine wpAny_bind (assignInOrder_cons (wpAny_bindName (zcp I3 hN hj (.inl hy) rw' (fun s2 I4=> ?_) (.inr hy))))
 refine assignInOrder_cons (wpAny_bindName (zcp I4 hN hi (.inl hx) rv (fun s3 I5=>assignInOrder_nil (wpAny_pure ?_)) (.inr hx)))
 rw[List.set_comm _ _ (Ne.symm hij)] at I5
 exact⟨_,H1,I5,q1⟩
noncomputable def tAug (i:Nat)(te:TE)(ti:TIp):TS:=fun D σ H=>∃x,σ[i]? =some (some x)/\te σ H fun y H1=>ti x y H1 fun z H2=>D.nx (σ.set i (some z)) H2
theorem zmg {i:Nat}{x:Str}{e:Expr}{te:TE}{op:Operator}{ti:TIp}{pos':Pos}(hN:X.N.Nodup)(hi:X.N[i]? =some x)(hx:Loc X.env.scope x)(he:PE X e te)(ho:PIp X op ti)(hf:X.fn x=true∨X.env.scope.names.lookup x=some .local:=by first|exact .inl rfl|exact .inr rfl|assumption):
  PS X (.AugAssign (.Name x pos') op e pos) (tAug i te ti):=by
 intro pins s σ H D I h
 obtain⟨v,e1,h⟩:=h
 obtain⟨m,hn,hl⟩:=I.loc
 have vis:Vis X.env.scope x:=by rcases hx with k|k;exact .inl k;exact .inr (.inl k)
 obtain⟨u,r,l⟩:=hl i x v hi e1 vis
 refine wpAny_AugAssign_Name ?_
 have go:wpAny (model X.prog X.w) X.A (eval e X.env) (fun w s₂=>wpAny (model X.prog X.w) X.A (inplaceOp op u w) (fun r s₃=>wpAny (model X.prog X.w) X.A (storeName X.env x r) (fun _=>SP X pins D .next) X.xe s₃) X.xe s₂) X.xe s:=by
  refine thn (he pins s σ H _ I h) fun w s1 zq=> ?_
  obtain⟨y,H1,I1,r1,q1⟩:=zq
  refine thn (ho pins s1 σ H1 v y u w _ I1 r r1 q1) fun z s2 zq=> ?_
  obtain⟨zv,H2,I2,r2,q2⟩:=zq
  exact zcp I2 hN hi hx r2 (fun s3 I3=>⟨_,H2,I3,q2⟩) hf
 rcases l with⟨hk,hm⟩|⟨hk,c,hc,hcell⟩
 ·exact wpAny_loadName_local I.ok.kind hk hn hm go
 ·rcases hk with hk|hk
  ·exact wpAny_loadName_cell I.ok.kind hk hc hcell go
  ·rcases hx with k|k
   ·have:X.env.scope.names.lookup x=some .free:=hk
    rw[k] at this;cases this
   ·have:X.env.scope.names.lookup x=some .free:=hk
    rw[k] at this;cases this
noncomputable def ipI (f:Int->Int->Int):TIp:=fun x y H Q=>∃i j,x=.int i/\y=.int j/\Q (.int (f i j)) H
theorem zmh:PIp X .Add (ipI fun i j=>i+j):=by
 intro pins s σ H x y v u Q I r1 r2 h
 obtain⟨i,j,e1,e2,q⟩:=h
 subst e1;subst e2
 obtain⟨t,rfl⟩:=r1
 obtain⟨t',rfl⟩:=r2
 exact iadd_int ⟨.int _,H,I.tok _,⟨_,rfl⟩,q⟩
noncomputable def zmi (c:TT)(tb:TS):TS:=fun D σ H=>∃W:Nat->St->Hp->Prop,(∃m,W m σ H)/\∀m σ H,W m σ H->
 c σ H fun b H1=>if b=true then ∃N:St->Hp->Prop,(∀σ' H',N σ' H'->∃m',m'<m/\W m' σ' H')/\tb {D with nx:=N,ct:=N,bk:=D.nx} σ H1 else D.nx σ H1
theorem zgm {c:Expr}{body:List Stmt}{tc:TT}{tb:TS}(hp:PassesOwn (model X.prog X.w) X.A X.env X.xe)(hc:PT X c tc)(hb:PSs X body tb):PS X (.While c body [] pos) (zmi tc tb):=by
 intro pins s σ H D I h
 obtain⟨W,⟨m0,w0⟩,turn⟩:=h
 refine wpAny_While (codeAny_whileLoop (fun n s'=>∃σ' H',Inv X pins σ' H' s'/\W n σ' H') ?_ m0 ⟨σ,H,I,w0⟩)
 rintro n s1 ⟨σ1,H1,I1,w1⟩
 refine wpAny_passesOwn hp (thn (hc pins s1 σ1 H1 _ I1 (turn n σ1 H1 w1)) fun b s2 zq=> ?_)
 obtain⟨H2,I2,q2⟩:=zq
 cases b with
 | true=>
  obtain⟨N,hN,q2⟩:=q2
  rw[if_pos rfl]
  refine wpAny_passesOwn hp (thn (hb pins s2 σ1 H2 _ I2 q2) fun f s3 q3=> ?_)
  cases f with
  |next=>
   obtain⟨σ3,H3,I3,n3⟩:=q3
   obtain⟨m',hm,w3⟩:=hN σ3 H3 n3
   exact⟨m',hm,σ3,H3,I3,w3⟩
  |cont=>
   obtain⟨σ3,H3,I3,n3⟩:=q3
   obtain⟨m',hm,w3⟩:=hN σ3 H3 n3
   exact⟨m',hm,σ3,H3,I3,w3⟩
  |brk=>exact q3
  |ret v=>exact q3
 |false=>
  rw[if_neg Bool.false_ne_true]
  exact wpAny_execs_nil ⟨σ1,H2,I2,q2⟩
end
structure It where
 go:Nat->Hp->Prop
 yld:Nat->Hp->V->Hp->Prop
 stop:Nat->Hp->Prop
noncomputable def FpOk (X:Cx)(pins:List (Addr×Obj))(H:Hp)(b:Addr):Prop:=
 H b=none/\b≠X.env.locals/\b∉X.fs/\(b∈X.ex∨X.s₀.heap.objs.size<=b)/\(∀x c,X.env.cells.lookup x=some c->c≠b)/\∀p∈X.pn++pins,p.1≠b
theorem Inv.fpOk {X:Cx}{pins:List (Addr×Obj)}{σ:St}{H H':Hp}{s:Shared}{b:Addr}(I:Inv X pins σ H s)(hb:s.heap.objs.size<=b)(hn:H' b=none):FpOk X pins H' b:=by
 refine⟨hn,Nat.ne_of_gt (Nat.lt_of_lt_of_le I.lt hb),I.nofs hb,.inr (Nat.le_trans I.sz hb),fun x c e z=> ?_,fun p hp z=> ?_⟩
 ·obtain ⟨v,q⟩:=I.cell x c e
  exact absurd (Nat.lt_of_lt_of_le q.lt (by rw[z];exact hb)) (Nat.lt_irrefl _)
 ·exact absurd (Nat.lt_of_lt_of_le (Heap.lt_size (I.pin p hp).1) (by rw[z];exact hb)) (Nat.lt_irrefl _)
structure Turn (P:Program) (w:World) (K:PySem.W.Frag) (tg:Expr) (J:It) (fp:List Addr) (it:Addr) (tn:Nat->Heap->Prop):Prop where
 mem:it∈fp
 obj:∀i h,tn i h->∀b∈fp,∃o,h.get? b=some o/\∀v,o.data≠.cell v
 keep:∀i h h',tn i h->(∀b∈fp,∀o,h.get? b=some o->h'.get? b=some o)->tn i h'
 item:∀(X:Cx),X.prog=P->X.w=w->X.K=K->X.calm=true->∀(i:Nat) (pins:List (Addr×Obj)) (s:Shared) (σ:St) (H:Hp) (E:Value->Shared->Prop),Inv X pins σ H s->(∀b∈fp,FpOk X pins H b)->tn i s.heap->J.go i H->
  wpAny (model P w) X.A (pyNext (.ref it)) (fun r s1=>∃u,r=some u/\
   wpAny (model P w) X.A (letOwnedTupleGo tg (.ref it) u) (fun _ s2=>∃x H',Inv X pins σ H' s2/\RelV x u/\J.yld i H x H'/\tn (i+1) s2.heap/\∀b∈fp,H' b=none) E s1) E s
 done:∀(X:Cx),X.prog=P->X.w=w->X.K=K->X.calm=true->∀(i:Nat) (pins:List (Addr×Obj)) (s:Shared) (σ:St) (H:Hp) (E:Value->Shared->Prop),Inv X pins σ H s->(∀b∈fp,FpOk X pins H b)->tn i s.heap->J.stop i H->
  wpAny (model P w) X.A (pyNext (.ref it)) (fun r s1=>r=none/\Inv X pins σ H s1) E s
 self:∀(A:Around) (i:Nat) (s:Shared) (Q:Value->Shared->Prop) (E:Value->Shared->Prop),tn i s.heap->Q (.ref it) s->wpAny (model P w) A (pyIter (.ref it)) Q E s
noncomputable abbrev TI:=St->Hp->(It->Hp->Prop)->Prop
noncomputable def PIE (X:Cx)(pins:List (Addr×Obj))(σ:St)(tg:Expr)(R:It->Hp->Prop)(itv:Value)(s2:Shared):Prop:=
 ∃(it:Addr) (fp:List Addr) (tn:Nat->Heap->Prop) (J:It) (H':Hp),itv=.ref it/\Inv X pins σ H' s2/\Turn X.prog X.w X.K tg J fp it tn/\tn 0 s2.heap/\(∀b∈fp,FpOk X pins H' b)/\R J H'
noncomputable def PI (X:Cx)(tg iter:Expr)(wi:TI):Prop:=
 ∀(pins:List (Addr×Obj)) (s:Shared) (σ:St) (H:Hp) (R:It->Hp->Prop),Inv X pins σ H s->wi σ H R->
  wpAny (model X.prog X.w) X.A (eval iter X.env) (fun v s1=>wpAny (model X.prog X.w) X.A (pyIter v) (PIE X pins σ tg R) X.xe s1) X.xe s
theorem zla {M:Model}{A:Around}{E:Value->Shared->Prop}{s:Shared}{tg:Expr}{it:Addr}{u:Value}{o:Obj}{n:String}{vs:Array Value}{Q:Unit->Shared->Prop}(ho:s.heap.get? it=some o)(hc:o.cls=.type n)(hd:o.data=.fields vs)
    (hn:["enumerate", "zip", "dict_itemiterator", "dict_reverseitemiterator", "odict_iterator", "itertools.zip_longest", "itertools.pairwise"].contains n=false) (hQ:Q () s):wpAny M A (letOwnedTupleGo tg (.ref it) u) Q E s:=by
  unfold letOwnedTupleGo
  cases tg <;>first
    |exact wpAny_pure hQ
    |(cases u<;>first
        |exact wpAny_pure hQ
        | (refine wpAny_bind (wpAny_load ho ?_)
           rw[hc,hd]
           show wpAny M A (if (["enumerate", "zip", "dict_itemiterator", "dict_reverseitemiterator", "odict_iterator", "itertools.zip_longest", "itertools.pairwise"].contains n&&vs[0]? ==some (rawInt _))=true then _ else _) Q E s
           rw[if_neg (by intro h;rw[hn,Bool.false_and] at h;cases h)]
           exact wpAny_pure hQ))
noncomputable def Itl (K:PySem.W.Frag)(a:Addr):It:=
 ⟨fun i H=>∃xs x,SqL K H a xs/\xs[i]? =some x,fun i H x H'=>H'=H/\∀xs,SqL K H a xs->xs[i]? =some x,fun i H=>∃xs,SqL K H a xs/\xs.length<=i⟩
noncomputable def Itt (K:PySem.W.Frag)(a:Addr):It:=
 ⟨fun i H=>∃xs x,SqT K H a xs/\xs[i]? =some x,fun i H x H'=>H'=H/\∀xs,SqT K H a xs->xs[i]? =some x,fun i H=>∃xs,SqT K H a xs/\xs.length<=i⟩
noncomputable def Itr (lo:Int)(n:Nat):It:=⟨fun i _=>i<n,fun i H x H'=>H'=H/\x=.int (lo+i),fun i _=>n<=i⟩
theorem zh5 {P:Program}{w:World}{K:PySem.W.Frag}{tg:Expr}(a it:Addr):Turn P w K tg (Itl K a) [it] it (fun i h=>h.IsListIter it a i) where
 mem:=by simp
 obj:=fun i h st b hb=>by
  have e:b=it:=by simpa using hb
  subst e
  obtain⟨o,e,c,d⟩:=st
  exact⟨o,e,fun v z=>by rw[d] at z;cases z⟩
 keep:=fun i h h' st k=>st.at fun o e=>k it (by simp) o e
 item:=by
  intro X hP hw hK hc i pins s σ H E I hf st hg
  subst hP hw hK
  obtain⟨xs,x,hq,hx⟩:=hg
  obtain⟨its,rv,p,hz⟩:=I.list hq
  obtain⟨u,hu,ru⟩:=rv.get hx
  obtain⟨f0,f1,f2,f3,f4,f5⟩:=hf it (by simp)
  refine wpAny_pyNext_list_item st p.isList (x:=u) (by simpa using hu) fun h' st' sb=> ?_
  have I1:Inv X pins σ H {s with heap:=h'}:=I.turned (t':=s.toks) (fun b o hb e=>(sb.2 b hb).trans e) f0 f1 f3 f4 f5
  obtain⟨o,e,c,d⟩:=id st'
  exact⟨u,rfl,zla (s:={s with heap:=h'}) e c d (by decide) ⟨x,H,I1,ru,⟨rfl,fun ys hy=>by rw[I.list_inj hy hq];exact hx⟩,st',fun b hb=>(hf b hb).1⟩⟩
 done:=by
  intro X hP hw hK hc i pins s σ H E I hf st hg
  subst hP hw hK
  obtain⟨xs,hq,hx⟩:=hg
  obtain⟨its,rv,p,hz⟩:=I.list hq
  obtain⟨f0,f1,f2,f3,f4,f5⟩:=hf it (by simp)
  have hl:=rv.length
  exact wpAny_pyNext_list_end (I.ok.hd hc) st p.isList (by simp;(first|lia|omega)) fun h' eb=>⟨rfl,I.turned (t':=s.toks) (fun b o hb e=>eb b o hb e) f0 f1 f3 f4 f5⟩
 self:=fun _ _ _ _ _ st h=>wpAny_pyIter_listiter st h
theorem zhs {P:Program}{w:World}{K:PySem.W.Frag}{tg:Expr}(a it:Addr):Turn P w K tg (Itt K a) [it] it (fun i h=>h.IsTupleIter it a i) where
 mem:=by simp
 obj:=fun i h st b hb=>by
  have e:b=it:=by simpa using hb
  subst e
  obtain⟨o,e,c,d⟩:=st
  exact⟨o,e,fun v z=>by rw[d] at z;cases z⟩
 keep:=fun i h h' st k=>st.at fun o e=>k it (by simp) o e
 item:=by
  intro X hP hw hK hc i pins s σ H E I hf st hg
  subst hP hw hK
  obtain⟨xs,x,hq,hx⟩:=hg
  obtain⟨its,rv,p,hz⟩:=I.tuple hq
  obtain⟨u,hu,ru⟩:=rv.get hx
  obtain⟨f0,f1,f2,f3,f4,f5⟩:=hf it (by simp)
  refine wpAny_pyNext_tuple_item st (show s.heap.IsTuple a its.toArray from p) (x:=u) (by simpa using hu) fun h' st' sb=> ?_
  have I1:Inv X pins σ H {s with heap:=h'}:=I.turned (t':=s.toks) (fun b o hb e=>(sb.2 b hb).trans e) f0 f1 f3 f4 f5
  obtain⟨o,e,c,d⟩:=id st'
  exact⟨u,rfl,zla (s:={s with heap:=h'}) e c d (by decide) ⟨x,H,I1,ru,⟨rfl,fun ys hy=>by rw[I.tuple_inj hy hq];exact hx⟩,st',fun b hb=>(hf b hb).1⟩⟩
 done:=by
  intro X hP hw hK hc i pins s σ H E I hf st hg
  subst hP hw hK
  obtain⟨xs,hq,hx⟩:=hg
  obtain⟨its,rv,p,hz⟩:=I.tuple hq
  obtain⟨f0,f1,f2,f3,f4,f5⟩:=hf it (by simp)
  have hl:=rv.length
  exact wpAny_pyNext_tuple_end (I.ok.hd hc) st (show s.heap.IsTuple a its.toArray from p) (by simp;(first|lia|omega)) fun h' eb=>⟨rfl,I.turned (t':=s.toks) (fun b o hb e=>eb b o hb e) f0 f1 f3 f4 f5⟩
 self:=fun _ _ _ _ _ st h=>wpAny_pyIter_tupleiter st h
theorem zht {P:Program}{w:World}{K:PySem.W.Frag}{tg:Expr}(it:Addr)(lo:Int)(n:Nat):Turn P w K tg (Itr lo n) [it] it (fun i h=>IsRangeIter h it (lo+(i:Nat)*1) ((n:Int)-(i:Nat)) 1) where
 mem:=by simp
 obj:=fun i h st b hb=>by
  have e:b=it:=by simpa using hb
  subst e
  exact⟨_,st,fun v z=>by
   have z':Data.fields _=Data.cell v:=z
   cases z'⟩
 keep:=fun i h h' st k=>k it (by simp) _ st
 item:=by
  intro X hP hw hK hc i pins s σ H E I hf st hg
  subst hP hw hK
  obtain⟨f0,f1,f2,f3,f4,f5⟩:=hf it (by simp)
  have W:=Walks.range (prog:=X.prog) (w:=X.w) (I.ok.hd hc) it lo 1 n
  refine W.item i s _ _ hg st fun v h' tk hv st' kk=> ?_
  obtain⟨t,rfl⟩:=hv
  have I1:Inv X pins σ H {s with heap:=h',toks:=tk}:=I.turned (fun b o hb e=>kk b o (by simpa using hb) e) f0 f1 f3 f4 f5
  refine⟨_,rfl,zla (s:={s with heap:=h',toks:=tk}) (n:= "range_iterator") st' rfl rfl (by decide) ⟨.int (lo+i),H,I1,⟨t, ?_⟩,⟨rfl,rfl⟩,st',fun b hb=>(hf b hb).1⟩⟩
  rw[Int.mul_one]
 done:=by
  intro X hP hw hK hc i pins s σ H E I hf st hg
  subst hP hw hK
  obtain⟨f0,f1,f2,f3,f4,f5⟩:=hf it (by simp)
  exact wpAny_pyNext_range_end (I.ok.hd hc) st (by have:n<=i:=hg;(first|lia|omega)) fun h' eb=>⟨rfl,I.turned (t':=s.toks) (fun b o hb e=>eb b o hb e) f0 f1 f3 f4 f5⟩
 self:=fun _ _ _ _ _ st h=>wpAny_pyIter_rangeiter st h
section
variable {X:Cx}{tg:Expr}
noncomputable def zne (K:PySem.W.Frag)(tl:TE):TI:=fun σ H R=>tl σ H fun x H1=>∃a,x=.ref a/\(∃xs,SqL K H1 a xs)/\R (Itl K a) H1
noncomputable def iTup (K:PySem.W.Frag)(tl:TE):TI:=fun σ H R=>tl σ H fun x H1=>∃a,x=.ref a/\(∃xs,SqT K H1 a xs)/\R (Itt K a) H1
theorem za1 {l:Expr}{tl:TE}(hl:PE X l tl):PI X tg l (zne X.K tl):=by
 intro pins s σ H R I h
 refine thn (hl pins s σ H _ I h) fun v s1 zq=> ?_
 obtain⟨x,H1,I1,r1,q1⟩:=zq
 obtain⟨a,e,⟨xs,hq⟩,q⟩:=q1
 subst e
 cases r1
 obtain⟨its,rv,p,hz⟩:=I1.list hq
 refine wpAny_pyIter_list p.isList ?_
 refine⟨s1.heap.objs.size,[s1.heap.objs.size],_,_,H1,rfl,I1.kept (t':=s1.toks) fun b o e=>Heap.get?_push_of_some _ e,zh5 a _,⟨_,Heap.get?_push_size _ rfl,rfl,rfl⟩,fun b hb=> ?_,q⟩
 have e:b=s1.heap.objs.size:=by simpa using hb
 subst e
 exact I1.fpOk (Nat.le_refl _) (I1.hok.fresh (Nat.le_refl _))
theorem za2 {l:Expr}{tl:TE}(hl:PE X l tl):PI X tg l (iTup X.K tl):=by
 intro pins s σ H R I h
 refine thn (hl pins s σ H _ I h) fun v s1 zq=> ?_
 obtain⟨x,H1,I1,r1,q1⟩:=zq
 obtain⟨a,e,⟨xs,hq⟩,q⟩:=q1
 subst e
 cases r1
 obtain⟨its,rv,p,hz⟩:=I1.tuple hq
 refine wpAny_pyIter_tuple (show s1.heap.IsTuple a its.toArray from p) ?_
 refine⟨s1.heap.objs.size,[s1.heap.objs.size],_,_,H1,rfl,I1.kept (t':=s1.toks) fun b o e=>Heap.get?_push_of_some _ e,zhs a _,⟨_,Heap.get?_push_size _ rfl,rfl,rfl⟩,fun b hb=> ?_,q⟩
 have e:b=s1.heap.objs.size:=by simpa using hb
 subst e
 exact I1.fpOk (Nat.le_refl _) (I1.hok.fresh (Nat.le_refl _))
theorem zgn {pins:List (Addr×Obj)}{σ:St}{H:Hp}{s:Shared}{R:It->Hp->Prop}{E:Value->Shared->Prop}{lo hi:Int}{t u v:Tok}{tk:Nat}(I:Inv X pins σ H s)(h1:-(2^62)<=lo)(h2:lo<2^62)(h3:-(2^62)<=hi)(h4:hi<2^62)
  (q:R (Itr lo (hi-lo).toNat) H):wpAny (model X.prog X.w) X.A (pyIter (.ref s.heap.objs.size)) (PIE X pins σ tg R) E {s with heap:=s.heap.push {cls:=.type "range",data:=.fields #[.int lo t,.int hi u,.int 1 v]},toks:=tk}:=by
 refine wpAny_pyIter_range (IsRange.new ..) (small_one h1 h2 h3 h4) ?_
 have I1:Inv X pins σ H {s with heap:=s.heap.push {cls:=.type "range",data:=.fields #[.int lo t,.int hi u,.int 1 v]},toks:=tk}:=I.kept fun b o e=>Heap.get?_push_of_some _ e
 refine⟨(s.heap.push {cls:=.type "range",data:=.fields #[.int lo t,.int hi u,.int 1 v]}).objs.size,[(s.heap.push {cls:=.type "range",data:=.fields #[.int lo t,.int hi u,.int 1 v]}).objs.size],_,_,H,rfl,
  I1.kept (t':=tk) fun b o e=>Heap.get?_push_of_some _ e,zht _ lo (hi-lo).toNat, ?_,fun b hb=> ?_,q⟩
 ·have e1:lo+((0:Nat):Int)*1=lo:=by simp
  have e2:(((hi-lo).toNat:Nat):Int)-((0:Nat):Int)=Builtin.Range.rangeSize lo hi 1:=by rw[rangeSize_one];split<;>(first|lia|omega)
  show IsRangeIter _ _ (lo+((0:Nat):Int)*1) ((((hi-lo).toNat:Nat):Int)-((0:Nat):Int)) 1
  rw[e1,e2]
  exact Heap.get?_push_size _ rfl
 ·have e:b=(s.heap.push {cls:=.type "range",data:=.fields #[.int lo t,.int hi u,.int 1 v]}).objs.size:=by simpa using hb
  subst e
  exact I1.fpOk (Nat.le_refl _) (I1.hok.fresh (Nat.le_refl _))
noncomputable def znf (ta:TA):TI:=fun σ H R=>ta σ H fun vs H1=>∃j:Int,vs=[.int j]/\-(2^62)<=j/\j<2^62/\R (Itr 0 j.toNat) H1
noncomputable def zng (ta:TA):TI:=fun σ H R=>ta σ H fun vs H1=>∃i j:Int,vs=[.int i,.int j]/\(-(2^62)<=i/\i<2^62/\-(2^62)<=j/\j<2^62)/\R (Itr i (j-i).toNat) H1
theorem za6 {a:Expr}{ta:TA}{p pos:Pos}(hg:Gl X "range")(hm:X.mg "range" =none)(ha:PA X [a] ta)(hs:starEach [a] X.env=[(false,eval a X.env)]:=by rfl):PI X tg (.Call (.Name "range" p) [a] [] pos) (znf ta):=by
 intro pins s σ H R I h
 refine Call_ (zdd I hg hm boot_range (PyProof.Rows.callWith_type1 (thn (ha pos pins s σ H _ I h) fun us s1 zq=> ?_) hs rfl))
 obtain⟨vs,H1,I1,r1,q1⟩:=zq
 obtain⟨j,e,q1,q2,q⟩:=q1
 subst e
 cases r1 with
 |cons r rr=>
  cases rr
  obtain⟨t,rfl⟩:=r
  exact call_range_1 (zgn I1 (by (first|lia|omega)) (by (first|lia|omega)) q1 q2 (by simpa using q))
theorem zh6 {a b:Expr}{ta:TA}{p pos:Pos}(hg:Gl X "range")(hm:X.mg "range" =none)(ha:PA X [a,b] ta)(hs:starEach [a,b] X.env=[(false,eval a X.env),(false,eval b X.env)]:=by rfl)(hs2:starEach [b] X.env=[(false,eval b X.env)]:=by rfl):
  PI X tg (.Call (.Name "range" p) [a,b] [] pos) (zng ta):=by
 intro pins s σ H R I h
 refine Call_ (zdd I hg hm boot_range (PyProof.Rows.callWith_type1 (thn (ha pos pins s σ H _ I h) fun us s1 zq=> ?_) (by rw[hs,hs2]) (by rw[hs2];rfl)))
 obtain⟨vs,H1,I1,r1,q1⟩:=zq
 obtain⟨i,j,e,⟨q1,q2,q3,q4⟩,q⟩:=q1
 subst e
 cases r1 with
 | cons r rr=>
  cases rr with
  |cons r' rr=>
   cases rr
   obtain⟨t,rfl⟩:=r
   obtain⟨t',rfl⟩:=r'
   exact call_range_2 (zgn I1 q1 q2 q3 q4 q)
noncomputable def tFor (wi:TI)(g:TG)(tb:TS):TS:=fun D σ H=>wi σ H fun J H1=>∃W:Nat->Nat->St->Hp->Prop,(∃m,W 0 m σ H1)/\∀i m σ H,W i m σ H->
 (J.stop i H/\D.nx σ H)∨(J.go i H/\∃N:St->Hp->Prop,(∀σ' H',N σ' H'->∃m',m'<m/\W (i+1) m' σ' H')/\∀x H',J.yld i H x H'->g x σ H' fun σ2 H2=>tb {D with nx:=N,ct:=N,bk:=D.nx} σ2 H2)
noncomputable def zbH (fp:List Addr)(h:Heap):List (Addr×Obj):=fp.filterMap fun b=>(h.get? b).map fun o=>(b,o)
theorem zaQ {fp:List Addr}{h:Heap}{b:Addr}{o:Obj}(hb:b∈fp)(e:h.get? b=some o):(b,o)∈zbH fp h:=List.mem_filterMap.mpr ⟨b,hb,by rw[e];rfl⟩
theorem zh7 {fp:List Addr}{h:Heap}{p:Addr×Obj}(hp:p∈zbH fp h):p.1∈fp/\h.get? p.1=some p.2:=by
 obtain⟨b,hb,e⟩:=List.mem_filterMap.mp hp
 cases q:h.get? b with
 |none=>rw[q] at e;cases e
 |some o=>
  rw[q] at e
  have e':(b,o)=p:=Option.some.inj e
  subst e'
  exact⟨hb,q⟩
theorem Inv.pinned {pins:List (Addr×Obj)}{σ:St}{H:Hp}{s:Shared}{fp:List Addr}(I:Inv X pins σ H s)(hf:∀b∈fp,FpOk X pins H b)(ho:∀b∈fp,∃o,s.heap.get? b=some o/\∀v,o.data≠.cell v):Inv X (pins++zbH fp s.heap) σ H s:=
 I.pins_of fun p hp=>(List.mem_append.mp hp).elim (fun z=>I.pin p (List.mem_append_right _ z)) fun z=>by
  obtain⟨hb,e⟩:=zh7 z
  obtain⟨f0,f1,f2,_⟩:=hf p.1 hb
  obtain⟨o,e',d⟩:=ho p.1 hb
  rw[e] at e';cases e'
  exact⟨e,f0,f1,f2,d⟩
theorem Inv.unpinned {pins pl:List (Addr×Obj)}{σ:St}{H:Hp}{s:Shared}(I:Inv X (pins++pl) σ H s):Inv X pins σ H s:=I.pins_of fun p hp=>I.pin p (List.mem_append_right _ (List.mem_append_left _ hp))
theorem zaI {iter:Expr}{body:List Stmt}{wi:TI}{g:TG}{tb:TS}{pos:Pos}(hp:PassesOwn (model X.prog X.w) X.A X.env X.xe)(hc:X.calm=true)(hi:PI X tg iter wi)(hg:PG X tg g)(hb:PSs X body tb)
  (hs:∀x,foldedSetIterable iter X.env x=pure x:=by intro _;rfl):PS X (.For tg iter body [] pos) (tFor wi g tb):=by
 intro pins s σ H D I h
 refine wpAny_For (thn (hi pins s σ H _ I h) fun v s1 h1=>thn h1 fun itv s2 h2=> ?_) hs
 obtain⟨it,fp,tn,J,H2,e,I2,T,st2,f2,W,⟨m0,w0⟩,turn⟩:=h2
 subst e
 have stat:∀{H':Hp},(∀b∈fp,H' b=none)->∀b∈fp,FpOk X pins H' b:=fun hn b hb=>⟨hn b hb,(f2 b hb).2⟩
 refine codeAny_forLoop_any (fun n s'=>∃i σ' H',Inv X pins σ' H' s'/\tn i s'.heap/\(∀b∈fp,H' b=none)/\W i n σ' H') ?_ m0 ⟨0,σ,H2,I2,st2,fun b hb=>(f2 b hb).1,w0⟩
 rintro n s3 ⟨i,σ3,H3,I3,st3,fr3,w3⟩
 rcases turn i n σ3 H3 w3 with⟨stop,qn⟩|⟨go,N,hN,step⟩
 ·refine wpAny_passesOwn hp (thn (T.done X rfl rfl rfl hc i pins s3 σ3 H3 X.xe I3 (stat fr3) st3 stop) fun r s4 zq=> ?_)
  obtain⟨hr,I4⟩:=zq
  subst hr
  exact wpAny_execs_nil ⟨σ3,H3,I4,qn⟩
 ·refine wpAny_passesOwn hp (thn (T.item X rfl rfl rfl hc i pins s3 σ3 H3 X.xe I3 (stat fr3) st3 go) fun r s4 zq=> ?_)
  obtain⟨u,hr,h4⟩:=zq
  subst hr
  refine wpAny_passesOwn hp (thn h4 fun _ s5 zq=> ?_)
  obtain⟨x,H5,I5,r5,y5,st5,fr5⟩:=zq
  have I5':=I5.pinned (stat fr5) (T.obj _ _ st5)
  refine wpAny_passesOwn hp (thn (hg _ s5 σ3 H5 x u _ I5' r5 (step x H5 y5)) fun _ s6 zq=> ?_)
  obtain⟨σ6,H6,I6,q6⟩:=zq
  refine wpAny_passesOwn hp (thn (hb _ s6 σ6 H6 _ I6 q6) fun f s7 q7=> ?_)
  have again:∀{σ7:St} {H7:Hp},Inv X (pins++zbH fp s5.heap) σ7 H7 s7->N σ7 H7->∃m,m<n/\∃i σ' H',Inv X pins σ' H' s7/\tn i s7.heap/\(∀b∈fp,H' b=none)/\W i m σ' H':=fun {σ7 H7} I7 n7=>by
   obtain⟨m',hm,w7⟩:=hN σ7 H7 n7
   refine⟨m',hm,i+1,σ7,H7,I7.unpinned,T.keep _ _ _ st5 fun b hb o e=>(I7.pin (b,o) (List.mem_append_right _ (List.mem_append_right _ (zaQ hb e)))).1,fun b hb=> ?_,w7⟩
   obtain⟨o,e,d⟩:=T.obj _ _ st5 b hb
   exact (I7.pin (b,o) (List.mem_append_right _ (List.mem_append_right _ (zaQ hb e)))).2.1
  cases f with
  |next=>obtain⟨σ7,H7,I7,n7⟩:=q7;exact again I7 n7
  |cont=>obtain⟨σ7,H7,I7,n7⟩:=q7;exact again I7 n7
  |brk=>obtain⟨σ7,H7,I7,q7⟩:=q7;exact⟨σ7,H7,I7.unpinned,q7⟩
  |ret v=>obtain⟨x7,σ7,H7,I7,r7,q7⟩:=q7;exact⟨x7,σ7,H7,I7.unpinned,r7,q7⟩
end
theorem zbW {K:PySem.W.Frag}{a:Addr}{xs:List V}{g:TG}{tb:TS}{D:Ends}{σ:St}{H:Hp}(Pv:Nat->St->Hp->Prop)(h0:Pv 0 σ H)(hl:∀i σ H,i<=xs.length->Pv i σ H->SqL K H a xs)
  (hs:∀i x σ H,xs[i]? =some x->Pv i σ H->g x σ H fun σ2 H2=>tb {D with nx:=Pv (i+1),ct:=Pv (i+1),bk:=D.nx} σ2 H2) (hd:∀σ H,Pv xs.length σ H->D.nx σ H):
  ∃W:Nat->Nat->St->Hp->Prop,(∃m,W 0 m σ H)/\∀i m σ H,W i m σ H->
   ((Itl K a).stop i H/\D.nx σ H)∨((Itl K a).go i H/\∃N:St->Hp->Prop,(∀σ' H',N σ' H'->∃m',m'<m/\W (i+1) m' σ' H')/\∀x H',(Itl K a).yld i H x H'->g x σ H' fun σ2 H2=>tb {D with nx:=N,ct:=N,bk:=D.nx} σ2 H2):=by
 refine⟨fun i m σ H=>m=xs.length-i/\i<=xs.length/\Pv i σ H,⟨xs.length,by simp,Nat.zero_le _,h0⟩, ?_⟩
 rintro i m σ H ⟨rfl,hi,p⟩
 have q:=hl i σ H hi p
 by_cases hlt:i<xs.length
 ·refine .inr ⟨⟨xs,xs[i],q,by simp[hlt]⟩,Pv (i+1),fun σ' H' p'=>⟨xs.length-(i+1),by (first|lia|omega),rfl,hlt,p'⟩,fun x H' y=> ?_⟩
  obtain⟨e,y⟩:=y
  subst e
  exact hs i x σ _ (y xs q) p
 ·have e:i=xs.length:=by (first|lia|omega)
  subst e
  exact .inl ⟨⟨xs,q,Nat.le_refl _⟩,hd σ H p⟩
theorem zfA {K:PySem.W.Frag}{a:Addr}{xs:List V}{g:TG}{tb:TS}{D:Ends}{σ:St}{H:Hp}(Pv:Nat->St->Hp->Prop)(h0:Pv 0 σ H)(hl:∀i σ H,i<=xs.length->Pv i σ H->SqT K H a xs)
  (hs:∀i x σ H,xs[i]? =some x->Pv i σ H->g x σ H fun σ2 H2=>tb {D with nx:=Pv (i+1),ct:=Pv (i+1),bk:=D.nx} σ2 H2) (hd:∀σ H,Pv xs.length σ H->D.nx σ H):
  ∃W:Nat->Nat->St->Hp->Prop,(∃m,W 0 m σ H)/\∀i m σ H,W i m σ H->
   ((Itt K a).stop i H/\D.nx σ H)∨((Itt K a).go i H/\∃N:St->Hp->Prop,(∀σ' H',N σ' H'->∃m',m'<m/\W (i+1) m' σ' H')/\∀x H',(Itt K a).yld i H x H'->g x σ H' fun σ2 H2=>tb {D with nx:=N,ct:=N,bk:=D.nx} σ2 H2):=by
 refine⟨fun i m σ H=>m=xs.length-i/\i<=xs.length/\Pv i σ H,⟨xs.length,by simp,Nat.zero_le _,h0⟩, ?_⟩
 rintro i m σ H ⟨rfl,hi,p⟩
 have q:=hl i σ H hi p
 by_cases hlt:i<xs.length
 ·refine .inr ⟨⟨xs,xs[i],q,by simp[hlt]⟩,Pv (i+1),fun σ' H' p'=>⟨xs.length-(i+1),by (first|lia|omega),rfl,hlt,p'⟩,fun x H' y=> ?_⟩
  obtain⟨e,y⟩:=y
  subst e
  exact hs i x σ _ (y xs q) p
 ·have e:i=xs.length:=by (first|lia|omega)
  subst e
  exact .inl ⟨⟨xs,q,Nat.le_refl _⟩,hd σ H p⟩
theorem za7 {lo:Int}{n:Nat}{g:TG}{tb:TS}{D:Ends}{σ:St}{H:Hp}(Pv:Nat->St->Hp->Prop)(h0:Pv 0 σ H)
  (hs:∀i σ H,i<n->Pv i σ H->g (.int (lo+i)) σ H fun σ2 H2=>tb {D with nx:=Pv (i+1),ct:=Pv (i+1),bk:=D.nx} σ2 H2) (hd:∀σ H,Pv n σ H->D.nx σ H):
  ∃W:Nat->Nat->St->Hp->Prop,(∃m,W 0 m σ H)/\∀i m σ H,W i m σ H->
   ((Itr lo n).stop i H/\D.nx σ H)∨((Itr lo n).go i H/\∃N:St->Hp->Prop,(∀σ' H',N σ' H'->∃m',m'<m/\W (i+1) m' σ' H')/\∀x H',(Itr lo n).yld i H x H'->g x σ H' fun σ2 H2=>tb {D with nx:=N,ct:=N,bk:=D.nx} σ2 H2):=by
 refine⟨fun i m σ H=>m=n-i/\i<=n/\Pv i σ H,⟨n,by simp,Nat.zero_le _,h0⟩, ?_⟩
 rintro i m σ H ⟨rfl,hi,p⟩
 by_cases hlt:i<n
 ·refine .inr ⟨hlt,Pv (i+1),fun σ' H' p'=>⟨n-(i+1),by (first|lia|omega),rfl,hlt,p'⟩,fun x H' y=> ?_⟩
  obtain⟨e,y⟩:=y
  subst e y
  exact hs i σ _ hlt p
 ·have e:i=n:=by (first|lia|omega)
  subst e
  exact .inl ⟨Nat.le_refl _,hd σ H p⟩
noncomputable abbrev R2:=V->V->Hp->VK->Prop
noncomputable def OpR (X:Cx)(f:Value->Value->Sem Value)(r:R2):Prop:=
 ∀(pins:List (Addr×Obj)) (s:Shared) (σ:St) (H:Hp) (x y:V) (v u:Value) (Q:VK),Inv X pins σ H s->RelV x v->RelV y u->r x y H Q->
  wpAny (model X.prog X.w) X.A (f v u) (EP X pins σ Q) X.xe s
noncomputable def UnR (X:Cx)(f:Value->Sem Value)(r:V->Hp->VK->Prop):Prop:=
 ∀(pins:List (Addr×Obj)) (s:Shared) (σ:St) (H:Hp) (x:V) (v:Value) (Q:VK),Inv X pins σ H s->RelV x v->r x H Q->
  wpAny (model X.prog X.w) X.A (f v) (EP X pins σ Q) X.xe s
noncomputable def zbu (X:Cx)(f:Value)(r:List V->Hp->VK->Prop):Prop:=
 ∀(pins:List (Addr×Obj)) (s:Shared) (σ:St) (H:Hp) (xs:List V) (us:List Value) (Q:VK),Inv X pins σ H s->Vals xs us->r xs H Q->
  wpAny (model X.prog X.w) X.A (call f us) (EP X pins σ Q) X.xe s
noncomputable def TruR (X:Cx)(r:V->Hp->(Bool->Hp->Prop)->Prop):Prop:=
 ∀(pins:List (Addr×Obj)) (s:Shared) (σ:St) (H:Hp) (x:V) (v:Value) (Q:Bool->Hp->Prop),Inv X pins σ H s->RelV x v->r x H Q->
  wpAny (model X.prog X.w) X.A (truthy v) (TP X pins σ Q) X.xe s
noncomputable def tOp (r:R2)(ta tb:TE):TE:=fun σ H Q=>ta σ H fun x H1=>tb σ H1 fun y H2=>r x y H2 Q
noncomputable def tUn (r:V->Hp->VK->Prop)(ta:TE):TE:=fun σ H Q=>ta σ H fun x H1=>r x H1 Q
noncomputable def rI (C:Int->Int->Prop)(g:Int->Int->V):R2:=fun x y H Q=>∃i j,x=.int i/\y=.int j/\C i j/\Q (g i j) H
noncomputable def rI0 (g:Int->Int->V):R2:=fun x y H Q=>∃i j,x=.int i/\y=.int j/\Q (g i j) H
noncomputable def rU (g:Int->V):V->Hp->VK->Prop:=fun x H Q=>∃i,x=.int i/\Q (g i) H
section
variable {X:Cx}{a b c:Expr}{ta tb tc:TE}{pos:Pos}
theorem binT (ha:PE X a ta)(hb:PE X b tb){pins:List (Addr×Obj)}{s:Shared}{σ:St}{H:Hp}{R:V->V->Hp->Prop}(I:Inv X pins σ H s)
  (h:ta σ H fun x H1=>tb σ H1 fun y H2=>R x y H2) {Q:Value->Shared->Prop} {f:Value->Value->Sem Value}
  (hf:∀v u s2 x y H2,Inv X pins σ H2 s2->RelV x v->RelV y u->R x y H2->wpAny (model X.prog X.w) X.A (f v u) Q X.xe s2):
  wpAny (model X.prog X.w) X.A (eval a X.env) (fun v s₁=>wpAny (model X.prog X.w) X.A (eval b X.env) (fun u s₂=>wpAny (model X.prog X.w) X.A (f v u) Q X.xe s₂) X.xe s₁) X.xe s:=by
 refine thn (ha pins s σ H _ I h) fun v s1 zq=> ?_
 obtain⟨x,H1,I1,r1,q1⟩:=zq
 refine thn (hb pins s1 σ H1 _ I1 q1) fun u s2 zq=> ?_
 obtain⟨y,H2,I2,r2,q2⟩:=zq
 exact hf v u s2 x y H2 I2 r1 r2 q2
theorem zaw {op:Operator}{r:R2}(ho:OpR X (binaryOp op) r)(ha:PE X a ta)(hb:PE X b tb):PE X (.BinOp a op b pos) (tOp r ta tb):=by
 intro pins s σ H Q I h
 exact wpAny_BinOp (binT ha hb I h fun v u s2 x y H2 I2 rx ry q=>ho pins s2 σ H2 x y v u Q I2 rx ry q)
theorem zhu {op:UnaryOp}{r:V->Hp->VK->Prop}(ho:UnR X (unaryOp op) r)(ha:PE X a ta):PE X (.UnaryOp op a pos) (tUn r ta):=by
 intro pins s σ H Q I h
 exact UnaryOp_ (thn (ha pins s σ H _ I h) fun v s1 ⟨x,H1,I1,r1,q1⟩=>ho pins s1 σ H1 x v Q I1 r1 q1)
theorem opI {f:Value->Value->Sem Value}{C:Int->Int->Prop}{g:Int->Int->Int}
  (rule:∀(i j:Int) (t u:Tok) (s:Shared) (Q:Value->Shared->Prop) (E:Value->Shared->Prop),C i j->Q (.int (g i j) s.toks) {s with toks:=s.toks+1}->wpAny (model X.prog X.w) X.A (f (.int i t) (.int j u)) Q E s):
  OpR X f (rI C fun i j=>.int (g i j)):=by
 intro pins s σ H x y v u Q I rx ry h
 obtain⟨i,j,rfl,rfl,hc,q⟩:=h
 obtain⟨t,rfl⟩:=rx
 obtain⟨t',rfl⟩:=ry
 exact rule i j t t' s _ _ hc ⟨.int (g i j),H,I.tok _,⟨_,rfl⟩,q⟩
theorem opI0 {f:Value->Value->Sem Value}{g:Int->Int->Int}
  (rule:∀(i j:Int) (t u:Tok) (s:Shared) (Q:Value->Shared->Prop) (E:Value->Shared->Prop),Q (.int (g i j) s.toks) {s with toks:=s.toks+1}->wpAny (model X.prog X.w) X.A (f (.int i t) (.int j u)) Q E s):
  OpR X f (rI0 fun i j=>.int (g i j)):=by
 intro pins s σ H x y v u Q I rx ry h
 obtain⟨i,j,rfl,rfl,q⟩:=h
 obtain⟨t,rfl⟩:=rx
 obtain⟨t',rfl⟩:=ry
 exact rule i j t t' s _ _ ⟨.int (g i j),H,I.tok _,⟨_,rfl⟩,q⟩
theorem opB0 {f:Value->Value->Sem Value}{g:Int->Int->Bool}
  (rule:∀(i j:Int) (t u:Tok) (s:Shared) (Q:Value->Shared->Prop) (E:Value->Shared->Prop),Q (.bool (g i j)) s->wpAny (model X.prog X.w) X.A (f (.int i t) (.int j u)) Q E s):
  OpR X f (rI0 fun i j=>.bl (g i j)):=by
 intro pins s σ H x y v u Q I rx ry h
 obtain⟨i,j,rfl,rfl,q⟩:=h
 obtain⟨t,rfl⟩:=rx
 obtain⟨t',rfl⟩:=ry
 exact rule i j t t' s _ _ ⟨.bl (g i j),H,I,rfl,q⟩
noncomputable def CDiv (i j:Int):Prop:=0<j/\j<1073741824
noncomputable def CPow (i j:Int):Prop:=0<=j/\j<=1000000/\i.natAbs<2^64
noncomputable def CMul (i j:Int):Prop:=(-(2^64)<i/\i<2^64)∨(-(2^64)<j/\j<2^64)
theorem CMul.ok {i j:Int}(h:CMul i j):IntMulOk i j:=by
 rcases h with⟨h1,h2⟩|⟨h1,h2⟩
 ·exact .of_left (intBits_le_64 h1 h2)
 ·exact .of_right (intBits_le_64 h1 h2)
theorem zbb:OpR X (binaryOp .Add) (rI0 fun i j=>.int (i+j)):=opI0 fun _ _ _ _ _ _ _ q=>add_int q
theorem zcs:OpR X (binaryOp .Sub) (rI0 fun i j=>.int (i-j)):=opI0 fun _ _ _ _ _ _ _ q=>sub_int q
theorem zdF:OpR X (binaryOp .Mult) (rI CMul fun i j=>.int (i*j)):=opI fun _ _ _ _ _ _ _ hc q=>mul_int q hc.ok
theorem zfB:OpR X (binaryOp .FloorDiv) (rI CDiv fun i j=>.int (i/j)):=opI fun i j _ _ _ _ _ hc q=>by
 have h1:(0:Int)<j:=hc.1
 have h2:j<1073741824:=hc.2
 exact floordiv_int (by (first|lia|omega)) (by rw[Int.fdiv_eq_ediv_of_nonneg i (by (first|lia|omega))];exact q) (.inl (PyProof.noPylong_small (by (first|lia|omega))))
theorem zcQ:OpR X (binaryOp .Mod) (rI (fun _ j=>0<j) fun i j=>.int (i%j)):=opI fun i j _ _ _ _ _ hc q=>by
 have h1:(0:Int)<j:=hc
 exact mod_int' (by (first|lia|omega)) (by rw[Int.fmod_eq_emod_of_nonneg i (by (first|lia|omega))];exact q)
theorem zkC:OpR X (binaryOp .Pow) (rI CPow fun i j=>.int (i^j.toNat)):=opI fun _ _ _ _ _ _ _ hc q=>pow_int_small hc.1 hc.2.1 hc.2.2 q
theorem unI {f:Value->Sem Value}{g:Int->Int}
  (rule:∀(i:Int) (t:Tok) (s:Shared) (Q:Value->Shared->Prop) (E:Value->Shared->Prop),Q (.int (g i) s.toks) {s with toks:=s.toks+1}->wpAny (model X.prog X.w) X.A (f (.int i t)) Q E s):
  UnR X f (rU fun i=>.int (g i)):=by
 intro pins s σ H x v Q I rx h
 obtain⟨i,rfl,q⟩:=h
 obtain⟨t,rfl⟩:=rx
 exact rule i t s _ _ ⟨.int (g i),H,I.tok _,⟨_,rfl⟩,q⟩
theorem zdG:UnR X (unaryOp .USub) (rU fun i=>.int (-i)):=unI fun _ _ _ _ _ q=>neg_int q
end
noncomputable def scal:V->V->Bool
 | .non,.non=>true| .non,.int _=>true| .int _,.non=>true| .non,.bl _=>true| .bl _,.non=>true| .non,.str _=>true| .str _,.non=>true
 | .int _,.int _=>true| .bl _,.bl _=>true| .str _,.str _=>true| .byt _,.byt _=>true
 | .int _,.str _=>true| .str _,.int _=>true| .bl _,.str _=>true| .str _,.bl _=>true
 |_,_=>false
noncomputable def rEq:R2:=fun x y H Q=>scal x y=true/\Q (.bl (decide (x=y))) H
noncomputable def rNe:R2:=fun x y H Q=>scal x y=true/\Q (.bl (!decide (x=y))) H
theorem zcH {i j:Int}:decide (V.int i=V.int j)=(i==j):=by
 rw[Bool.eq_iff_iff]
 simp
theorem zkD {i j:Bool}:decide (V.bl i=V.bl j)=(i==j):=by
 rw[Bool.eq_iff_iff]
 simp
theorem zh8 {i j:Str}:decide (V.str i=V.str j)=(i==j):=by
 rw[Bool.eq_iff_iff]
 simp
theorem zh9 {i j:Array UInt8}:decide (V.byt i=V.byt j)=(i.toList==j.toList):=by
 rw[Bool.eq_iff_iff]
 cases i
 cases j
 simp
section
variable {X:Cx}{a b c:Expr}{ta tb tc:TE}{pos:Pos}
theorem zaA {pins:List (Addr×Obj)}{σ:St}{H:Hp}{s:Shared}{Q:VK}{k k':Bool}(I:Inv X pins σ H s)(q:Q (.bl k) H)(e:k=k'):EP X pins σ Q (.bool k') s:=by
 subst e
 exact⟨.bl k,H,I,rfl,q⟩
theorem zdX:OpR X (compareOp .Eq) rEq:=by
 intro pins s σ H x y v u Q I rx ry h
 obtain⟨hs,q⟩:=h
 cases x with
 |non=>
  cases rx
  cases y with
  |non=>cases ry;exact PySem.EqNone.eq_none_none (zaA I q (by simp))
  |bl j=>cases ry;exact PySem.EqNone.eq_none_bool (zaA I q (by simp))
  |int j=>obtain⟨t',rfl⟩:=ry;exact PySem.EqNone.eq_none_int (zaA I q (by simp))
  |str j=>obtain⟨t',rfl⟩:=ry;exact PySem.EqNone.eq_none_str (zaA I q (by simp))
  |_=>exact absurd (show false=true from hs) Bool.false_ne_true
 |bl i=>
  cases rx
  cases y with
  |non=>cases ry;exact PySem.EqNone.eq_bool_none (zaA I q (by simp))
  |bl j=>cases ry;exact eq_bool (zaA I q zkD)
  |str j=>obtain⟨t',rfl⟩:=ry;exact PySem.EqMixed.eq_bool_str (zaA I q (by simp))
  |_=>exact absurd (show false=true from hs) Bool.false_ne_true
 |int i=>
  obtain⟨t,rfl⟩:=rx
  cases y with
  |non=>cases ry;exact PySem.EqNone.eq_int_none (zaA I q (by simp))
  |int j=>obtain⟨t',rfl⟩:=ry;exact eq_int (zaA I q zcH)
  |str j=>obtain⟨t',rfl⟩:=ry;exact PySem.EqMixed.eq_int_str (zaA I q (by simp))
  |_=>exact absurd (show false=true from hs) Bool.false_ne_true
 |str i=>
  obtain⟨t,rfl⟩:=rx
  cases y with
  |non=>cases ry;exact PySem.EqNone.eq_str_none (zaA I q (by simp))
  |bl j=>cases ry;exact PySem.EqMixed.eq_str_bool (zaA I q (by simp))
  |int j=>obtain⟨t',rfl⟩:=ry;exact PySem.EqMixed.eq_str_int (zaA I q (by simp))
  |str j=>obtain⟨t',rfl⟩:=ry;exact eq_str (zaA I q zh8)
  |_=>exact absurd (show false=true from hs) Bool.false_ne_true
 |byt i=>
  obtain⟨t,rfl⟩:=rx
  cases y with
  |byt j=>obtain⟨t',rfl⟩:=ry;exact PySem.W.eq_bytes (zaA I q zh9)
  |_=>exact absurd (show false=true from hs) Bool.false_ne_true
 |_=>cases y<;>exact absurd (show false=true from hs) Bool.false_ne_true
theorem zlb:OpR X (compareOp .NotEq) rNe:=by
 intro pins s σ H x y v u Q I rx ry h
 obtain⟨hs,q⟩:=h
 cases x with
 |non=>
  cases rx
  cases y with
  |non=>cases ry;exact PySem.EqNone.ne_none_none (zaA I q (by simp))
  |bl j=>cases ry;exact PySem.EqNone.ne_none_bool (zaA I q (by simp))
  |int j=>obtain⟨t',rfl⟩:=ry;exact PySem.EqNone.ne_none_int (zaA I q (by simp))
  |str j=>obtain⟨t',rfl⟩:=ry;exact PySem.EqNone.ne_none_str (zaA I q (by simp))
  |_=>exact absurd (show false=true from hs) Bool.false_ne_true
 |bl i=>
  cases rx
  cases y with
  |non=>cases ry;exact PySem.EqNone.ne_bool_none (zaA I q (by simp))
  |bl j=>cases ry;exact ne_bool (zaA I q (congrArg not zkD))
  |str j=>obtain⟨t',rfl⟩:=ry;exact PySem.EqMixed.ne_bool_str (zaA I q (by simp))
  |_=>exact absurd (show false=true from hs) Bool.false_ne_true
 |int i=>
  obtain⟨t,rfl⟩:=rx
  cases y with
  |non=>cases ry;exact PySem.EqNone.ne_int_none (zaA I q (by simp))
  |int j=>obtain⟨t',rfl⟩:=ry;exact ne_int (zaA I q (congrArg not zcH))
  |str j=>obtain⟨t',rfl⟩:=ry;exact PySem.EqMixed.ne_int_str (zaA I q (by simp))
  |_=>exact absurd (show false=true from hs) Bool.false_ne_true
 |str i=>
  obtain⟨t,rfl⟩:=rx
  cases y with
  |non=>cases ry;exact PySem.EqNone.ne_str_none (zaA I q (by simp))
  |bl j=>cases ry;exact PySem.EqMixed.ne_str_bool (zaA I q (by simp))
  |int j=>obtain⟨t',rfl⟩:=ry;exact PySem.EqMixed.ne_str_int (zaA I q (by simp))
  |str j=>obtain⟨t',rfl⟩:=ry;exact ne_str (zaA I q (congrArg not zh8))
  |_=>exact absurd (show false=true from hs) Bool.false_ne_true
 |byt i=>
  obtain⟨t,rfl⟩:=rx
  cases y with
  |byt j=>obtain⟨t',rfl⟩:=ry;exact PySem.W.ne_bytes (zaA I q (congrArg not zh9))
  |_=>exact absurd (show false=true from hs) Bool.false_ne_true
 |_=>cases y<;>exact absurd (show false=true from hs) Bool.false_ne_true
theorem zmj:OpR X (compareOp .Lt) (rI0 fun i j=>.bl (decide (i<j))):=opB0 fun _ _ _ _ _ _ _ q=>lt_int q
theorem zia:OpR X (compareOp .Gt) (rI0 fun i j=>.bl (decide (j<i))):=opB0 fun _ _ _ _ _ _ _ q=>gt_int q
theorem znh:OpR X (compareOp .GtE) (rI0 fun i j=>.bl (decide (j<=i))):=opB0 fun _ _ _ _ _ _ _ q=>ge_int q
theorem zaB (b:Expr){op:CmpOp}(h:op≠.In:=by decide)(h2:op≠.NotIn:=by decide):behindInMarks op b=false:=by
 have e1:(op==CmpOp.In)=false:=by cases op<;>first|rfl|exact absurd rfl h
 have e2:(op==CmpOp.NotIn)=false:=by cases op<;>first|rfl|exact absurd rfl h2
 cases b<;>simp[behindInMarks,e1,e2]
theorem zde {op:CmpOp}{r:R2}(ho:OpR X (compareOp op) r)(ha:PE X a ta)(hb:PE X b tb)(hm:behindInMarks op b=false):PE X (.Compare a [op] [b] pos) (tOp r ta tb):=by
 intro pins s σ H Q I h
 exact wpAny_Compare1 (binT ha hb I h fun v u s2 x y H2 I2 rx ry q=>ho pins s2 σ H2 x y v u Q I2 rx ry q) hm
noncomputable def zni (t:TE):TT:=fun σ H Q=>t σ H fun x H'=>∃k,x=.bl k/\Q k H'
theorem zax {op:CmpOp}{r:R2}(ho:OpR X (compareOp op) r)(ha:PE X a ta)(hb:PE X b tb)(hm:behindInMarks op b=false):PT X (.Compare a [op] [b] pos) (zni (tOp r ta tb)):=by
 intro pins s σ H Q I h
 refine wpAny_isTrue_Compare1 (thn (ha pins s σ H _ I h) fun v s1 ⟨x,H1,I1,r1,q1⟩=>thn (hb pins s1 σ H1 _ I1 q1) fun u s2 ⟨y,H2,I2,r2,q2⟩=>
  thn (ho pins s2 σ H2 x y v u _ I2 r1 r2 q2) fun c s3 ⟨z,H3,I3,r3,k,e,q3⟩=> ?_) hm
 subst e
 cases r3
 exact wpAny_truthy_bool ⟨H3,I3,q3⟩
noncomputable def TruV (K:PySem.W.Frag)(x:V)(H:Hp)(k:Bool):Prop:=
 match x with
 | .non=>k=false
 | .bl b=>k=b
 | .int i=>k=(i != 0)
 | .str y=>y.length<=sizeLine/\k=((y.length:Int) != 0)
 | .byt y=>y.size<=sizeLine/\k=((y.size:Int) != 0)
 | .ref p=>(∃xs,SqL K H p xs/\k= !xs.isEmpty)∨(∃xs,SqT K H p xs/\k= !xs.isEmpty)∨∃kvs,H p=some (.dK kvs)/\k= !kvs.isEmpty
 |_=>False
theorem zhv {κ:Type}{kvs:List (κ×V)}{vs:List (κ×Value)}(r:KV kvs vs):(!vs.isEmpty)= !kvs.isEmpty:=by
 cases r<;>rfl
theorem zdH {xs:List V}{its:List Value}(r:Vals xs its):(!its.toArray.isEmpty)= !xs.isEmpty:=by
 cases r<;>simp
theorem zdI:(sizeLine:Nat)<2^63:=by rw[sizeLine_eq];decide
theorem zmk:TruR X (fun x H Q=>∃k,TruV X.K x H k/\Q k H):=by
 intro pins s σ H x v Q I rx h
 obtain⟨k,e,q⟩:=h
 have hl:=zdI
 have hs:sizeLine=16777216:=sizeLine_eq
 cases x with
 |non=>
  cases rx
  have e':k=false:=e
  subst e'
  exact truthy_none ⟨H,I,q⟩
 |bl b=>
  cases rx
  have e':k=b:=e
  subst e'
  exact wpAny_truthy_bool ⟨H,I,q⟩
 |int i=>
  obtain⟨t,rfl⟩:=rx
  have e':k=(i != 0):=e
  subst e'
  exact PySem.P.truthy_int ⟨H,I,q⟩
 |str y=>
  obtain⟨t,rfl⟩:=rx
  obtain⟨hy,e'⟩:y.length<=sizeLine/\k=((y.length:Int) != 0):=e
  subst e'
  exact PySem.P.truthy_str (by (first|lia|omega)) ⟨H,I.tok _,q⟩
 |byt y=>
  obtain⟨t,rfl⟩:=rx
  obtain⟨hy,e'⟩:y.size<=sizeLine/\k=((y.size:Int) != 0):=e
  subst e'
  exact PySem.W.truthy_bytes (by (first|lia|omega)) ⟨H,I.tok _,q⟩
 | ref p=>
  cases rx
  have e':(∃xs,SqL X.K H p xs/\k= !xs.isEmpty)∨(∃xs,SqT X.K H p xs/\k= !xs.isEmpty)∨∃kvs,H p=some (.dK kvs)/\k= !kvs.isEmpty:=e
  rcases e' with⟨xs,hx,e'⟩|⟨xs,hx,e'⟩|⟨kvs,hx,e'⟩
  ·subst e'
   obtain⟨its,r,pl,hz⟩:=I.list hx
   have hlen:=r.length
   exact wpAny_truthy_list pl.isList (by simp only[List.size_toArray];(first|lia|omega)) ⟨H,I.tok _,by rw[zdH r];exact q⟩
  ·subst e'
   obtain⟨its,r,pl,hz⟩:=I.tuple hx
   have hlen:=r.length
   exact truthy_tuple pl (by simp only[List.size_toArray];(first|lia|omega)) ⟨H,I.tok _,by rw[zdH r];exact q⟩
  ·subst e'
   obtain⟨hz,hS,vs,r,m⟩:kvs.length<=sizeLine/\(p==sysModules)=false/\∃vs,KV kvs vs/\s.heap.DictOf (zaE X.prog X.w) p vs:=I.hok p _ hx
   have hlen:kvs.length=vs.length:=Paired.length r
   exact wpAny_truthy_dict hS m (by (first|lia|omega)) ⟨H,I.tok _,by rw[zhv r];exact q⟩
 |_=>exact (show False from e).elim
theorem zjJ (ha:PE X a ta)(he:∀whole,isTrue a X.env whole=(do let v<-whole;standAt a.pos;holding [v] (truthy v))):
  PT X a (fun σ H Q=>ta σ H fun x H'=>∃k,TruV X.K x H' k/\Q k H'):=by
 intro pins s σ H Q I h
 exact isTrue_plain (thn (ha pins s σ H _ I h) fun v s1 ⟨x,H1,I1,r1,q1⟩=>zmk pins s1 σ H1 x v Q I1 r1 q1) (he _)
theorem zbI {x:V}{us:List Value}(r:Vals [x] us):∃u,us=[u]/\RelV x u:=by
 cases r with
 |cons r1 r2=>cases r2;exact⟨_,rfl,r1⟩
theorem znj {x y:V}{us:List Value}(r:Vals [x,y] us):∃u w',us=[u,w']/\RelV x u/\RelV y w':=by
 cases r with
 |cons r1 r2=>
  cases r2 with
  |cons r3 r4=>cases r4;exact⟨_,_,rfl,r1,r3⟩
theorem zib:zbu X (.type "int") (fun xs H Q=>(∃i,xs=[.int i]/\Q (.int i) H)∨∃k,xs=[.bl k]/\Q (.int (if k then 1 else 0)) H):=by
 intro pins s σ H xs us Q I r h
 rcases h with⟨i,rfl,q⟩|⟨k,rfl,q⟩
 ·obtain ⟨u,rfl,t,rfl⟩:=zbI r
  exact call_int_int ⟨.int i,H,I,⟨_,rfl⟩,q⟩
 ·obtain ⟨u,rfl,r1⟩:=zbI r
  cases r1
  exact call_int_bool ⟨.int (if k then 1 else 0),H,I.tok _,⟨_,rfl⟩,q⟩
end
structure ObjM (h:Heap) (x dx C:Addr) (mA:Str->Option Value):Prop where
 obj:h.get? x=some (PySem.W.instObj C dx)
 ns:h.Ns1 dx mA
 ne:dx≠x
section
variable {prog:Program}{w:World}{A:Around}{E:Value->Shared->Prop}{s:Shared}{K:PySem.W.Frag}{x dx C f:Addr}{mA:Str->Option Value}{name:Str}{v:Value}
end
section
variable {P:Program}{w:World}{H H':Hp}{h h':Heap}{a C dx:Addr}{fs fs':List (Str×V)}
end
structure Cls (K:PySem.W.Frag) (C:Addr):Prop where
 pg:PySem.W.plainGet K C Str.empty=true
 hd:PySem.W.hasDictIn K C=true
 po:PySem.W.plainOver K C=true
 sa:PySem.W.findIn K (.ref C) "__setattr__" =some (some (.builtin "object.__setattr__"))
structure Con (K:PySem.W.Frag) (C:Addr) (f:Str) (v:V) (u:Value):Prop where
 at_:PySem.W.findIn K (.ref C) f=some (some u)
 rel:RelV v u
 get:PySem.W.specialIn K u "__get__" =some none
 cp:PySem.W.copiedNames.contains f=false
structure Meth (K:PySem.W.Frag) (C:Addr) (m:Str) (f:Addr):Prop where
 at_:PySem.W.findIn K (.ref C) m=some (some (.ref f))
 fn:PySem.W.isFn K (.ref f)=true
 kp:PySem.W.keepIn K (.ref f)=true
section
variable {X:Cx}{pins:List (Addr×Obj)}{σ:St}{H:Hp}{s:Shared}{a C dx:Addr}{fs:List (Str×V)}{f:Str}{v:V}{A:Around}{E:Value->Shared->Prop}
end
section
variable {X:Cx}{o e value:Expr}{f:Str}{pos pos' tpos:Pos}{ta tv:TE}
end
section
variable {X:Cx}{pins:List (Addr×Obj)}{σ:St}{H:Hp}{s:Shared}{A:Around}{E:Value->Shared->Prop}{Q:Value->Shared->Prop}{c:Value}{b:Bool}
inductive TyOf (K:PySem.W.Frag) (H:Hp):V->Value->Prop where
 |non:TyOf K H .non (.type "NoneType")
 |bl (x:Bool):TyOf K H (.bl x) (.type "bool")
 |int (i:Int):TyOf K H (.int i) (.type "int")
 |str (x:Str):TyOf K H (.str x) (.type "str")
 |flt (x:UInt64):TyOf K H (.flt x) (.type "float")
 |lst {a:Addr} {xs:List V} (e:H a=some (.lst xs)):TyOf K H (.ref a) (.type "list")
 |frz {a:Addr} {o:Obj} {xs:List V} (e:H a=some (.frz o (.lst xs))):TyOf K H (.ref a) (.type "list")
 |tup {a:Addr} {xs:List V} (e:H a=some (.tup xs)):TyOf K H (.ref a) (.type "tuple")
 |dK {a:Addr} {kvs:List (Key×V)} (e:H a=some (.dK kvs)):TyOf K H (.ref a) (.type "dict")
 |dT {a:Addr} {kvs:List (List Key×V)} (e:H a=some (.dT kvs)):TyOf K H (.ref a) (.type "dict")
 | ins {a C dx:Addr} {fs:List (Str×V)} (e:H a=some (.ins C dx fs)) (cl:Cls K C) (ha:PySem.W.findIn K (.ref C) "__class__" =some (some (.builtin "object.__class__")))
   (hn:PySem.W.specialIn K (.builtin "object.__class__") "__get__" =some (some (.builtin "getset_descriptor.__get__"))) (htk:PySem.W.takesIn K (.builtin "object.__class__")=some true)
   (hm:PySem.W.mroIn K C (.type "object")=some true):TyOf K H (.ref a) (.ref C)
end
structure Room (k:Nat) (A:Around):Prop where
 hd:A.handled=none
 dp:A.depth+3*k+5<recursionLimit
 un:A.units+16*k+200<cLine
 gd:A.guards=some []
theorem Room.mono {j k:Nat}{A:Around}(r:Room k A)(h:j<=k):Room j A:=⟨r.hd,by have:=r.dp;(first|lia|omega),by have:=r.un;(first|lia|omega),r.gd⟩
theorem Room.deeper {k:Nat}{A:Around}(r:Room (k+1) A)(env:Env):Room k (A.deeper env):=
 ⟨r.hd,by have:=r.dp;show A.depth+1+3*k+5<_;(first|lia|omega),by have:=r.un;show A.units+3+16*k+200<_;(first|lia|omega),r.gd⟩
theorem Room.depth {k:Nat}{A:Around}(r:Room k A):A.depth<recursionLimit:=by have:=r.dp;(first|lia|omega)
theorem Room.units {k:Nat}{A:Around}(r:Room k A):A.units+64<cLine:=by have:=r.un;(first|lia|omega)
noncomputable def tNil:TA:=fun _ H Q=>Q [] H
noncomputable def znk (ta:TE)(tr:TA):TA:=fun σ H Q=>ta σ H fun x H1=>tr σ H1 fun xs H2=>Q (x::xs) H2
section
variable {X:Cx}{e:Expr}{es:List Expr}{te:TE}{t:TA}{pos:Pos}
theorem zad:PA X [] tNil:=fun _ _ _ _ H Q I h=>Calls.spliced_nil ⟨[],H,I,.nil,h⟩
theorem zaa (ha:PE X e te)(hr:PA X es t)(hs:starEach (e::es) X.env=(false,eval e X.env)::starEach es X.env:=by rfl):PA X (e::es) (znk te t):=by
 intro pos pins s σ H Q I h
 rw[hs]
 show wpAny _ _ (spliced ((false,eval e X.env)::backTo pos (starEach es X.env))) _ _ s
 refine Calls.spliced_cons (thn (ha pins s σ H _ I h) fun u s1 zq=> ?_)
 obtain⟨x,H1,I1,r1,q1⟩:=zq
 exact thn (hr pos pins s1 σ H1 _ I1 q1) fun us s2 ⟨xs,H2,I2,r2,q2⟩=>⟨x::xs,H2,I2,.cons r1 r2,q2⟩
noncomputable def tTup (t:TA):TE:=fun σ H Q=>t σ H fun xs H1=>xs.length<=sizeLine/\∀p,H1 p=none->Q (.ref p) (upd H1 p (.tup xs))
noncomputable def tLst (t:TA):TE:=fun σ H Q=>t σ H fun xs H1=>xs.length<=sizeLine/\∀p,H1 p=none->Q (.ref p) (upd H1 p (.lst xs))
theorem zdf {x1}(h:PA X es t):PE X (.Tuple es x1 pos) (tTup t):=by
 intro pins s σ H Q I hq
 refine wpAny_Tuple_spliced (thn (h pos pins s σ H _ I hq) fun us s1 ⟨xs,H1,I1,r,z,q⟩=>⟨by rw[<-r.length];exact z, ?_⟩)
 have hf:H1 s1.heap.objs.size=none:=I1.hok.fresh (Nat.le_refl _)
 refine⟨.ref s1.heap.objs.size,upd H1 s1.heap.objs.size (.tup xs),I1.laid (t':=s1.toks) (fun b u e=>Heap.get?_push_of_some _ e) (Nat.le_refl _) ?_,rfl,q _ hf⟩
 exact⟨z,us,r,PTup.new⟩
theorem zaU (h:PA X es t):PE X (.List es pos) (tLst t):=by
 intro pins s σ H Q I hq
 refine wpAny_List_spliced (thn (h pos pins s σ H _ I hq) fun us s1 ⟨xs,H1,I1,r,z,q⟩=>⟨by rw[<-r.length];exact z, ?_⟩)
 have hf:H1 s1.heap.objs.size=none:=I1.hok.fresh (Nat.le_refl _)
 refine⟨.ref s1.heap.objs.size,upd H1 s1.heap.objs.size (.lst xs),I1.laid (t':=s1.toks) (fun b u e=>Heap.get?_push_of_some _ e) (Nat.le_refl _) ?_,rfl,q _ hf⟩
 exact⟨z,us,0,r,Heap.get?_push_size _ rfl⟩
end
noncomputable abbrev Sp:=List V->Hp->VK->XK->Prop
noncomputable abbrev CXT:=List Env->Hp->Shared->XK->Value->Shared->Prop
structure Env0 (P:Program) (w:World) (K:PySem.W.Frag) (mg:Str->Option Value) (base:Heap) (A:Around) (outer:List Env) (s:Shared) (H:Hp):Prop where
 frames:A.frames=some outer
 mod:Mod K mg base
 bs:∀b o,base.get? b=some o->s.heap.get? b=some o/\H b=none
 bsz:base.objs.size<=s.heap.objs.size
 funs:s.heap.FunFrames base outer
 frf:∀b∈frs outer,H b=none
 hok:HOk P w H s.heap
 bare:AllBare s.gens
noncomputable def CE (outer:List Env)(P:Program)(w:World)(H:Hp)(s:Shared)(Q:VK)(u:Value)(s':Shared):Prop:=
 ∃v H',s'.os=s.os/\AllBare s'.gens/\Un (frs outer) [] H H' s.heap s'.heap/\HOk P w H' s'.heap/\RelV v u/\Q v H'
noncomputable def CR (CX:CXT)(outer:List Env)(P:Program)(w:World)(H:Hp)(s:Shared)(Q:VK)(E:XK)(r:Result)(s':Shared):Prop:=
 match r with
 | .ok (.ret u)=>CE outer P w H s Q u s'
 | .ok _=>False
 | .error e=>CX outer H s E e s'
structure FnOk (P:Program) (w:World) (K:PySem.W.Frag) (mg:Str->Option Value) (base:Heap) (CX:CXT) (k:Nat) (f:Addr) (fd:FuncData) (ps:List Str) (sp:Sp):Prop where
 len:∀vs H Q E,sp vs H Q E->vs.length=ps.length
 run:∀(A:Around) (outer:List Env) (s:Shared) (H:Hp) (args:Args) (us:List Value) (vs:List V) (Q:VK) (E:XK),Room k A->Env0 P w K mg base A outer s H->BindsTo s fd args (ps.zip us)->Vals vs us->sp vs H Q E->
  codeAny (model P w) A (.call (.ref f) args) (CR CX outer P w H s Q E) s
theorem FnOk.mono {P:Program}{w:World}{K:PySem.W.Frag}{mg:Str->Option Value}{base:Heap}{CX:CXT}{j k:Nat}{f:Addr}{fd:FuncData}{ps:List Str}{sp:Sp}(F:FnOk P w K mg base CX j f fd ps sp)(h:j<=k):
  FnOk P w K mg base CX k f fd ps sp:=⟨F.len,fun A outer s H args us vs Q E hr=>F.run A outer s H args us vs Q E (hr.mono h)⟩
section
variable {X:Cx}{pins:List (Addr×Obj)}{σ:St}{H:Hp}{s s':Shared}
theorem Inv.env0 (I:Inv X pins σ H s):Env0 X.prog X.w X.K X.mg X.base X.A X.stack s H:=
 ⟨I.ok.frames,I.ok.mod,I.bs,Nat.le_trans I.ok.bsz I.sz,I.stack,I.stkFree,I.hok,I.bare⟩
theorem Inv.after {Q:VK}{u:Value}(I:Inv X pins σ H s)(h:CE X.stack X.prog X.w H s Q u s'):EP X pins σ Q u s':=by
 obtain⟨v,H',os,bare,un,hok,r,q⟩:=h
 obtain⟨hh,g,d,t,os'⟩:=s'
 obtain rfl:os'=s.os:=os
 exact⟨v,H',I.call (h':=hh) (g':=g) (d':=d) (t':=t) (ch:=[]) un hok bare (fun b z=>absurd z (by simp)),r,q⟩
end
noncomputable def znl (sp:Sp)(dvs:List V)(E:XK)(t:TA):TE:=fun σ H Q=>t σ H fun vs H1=>sp (vs++dvs) H1 Q E
noncomputable def Binds (K:PySem.W.Frag)(fd:FuncData)(ps:List Str)(ds:List Value):Prop:=
 ∀(s:Shared) (us:List Value),K.In s.heap->(us++ds).length=ps.length->BindsTo s fd ⟨us,[]⟩ (ps.zip (us++ds))
theorem Binds.all {K:PySem.W.Frag}{fd:FuncData}{ps:List Str}(h:∀us:List Value,us.length=ps.length->bindArgs fd ⟨us,[]⟩=pure (ps.zip us)):Binds K fd ps []:=fun s us _ hl=>by
 rw[List.append_nil] at hl ⊢
 exact .of_eq (h us hl)
noncomputable def zic (CX:CXT)(X:Cx)(E:XK):Prop:=∀(pins:List (Addr×Obj)) (σ:St) (H:Hp) (s:Shared) (e:Value) (s':Shared),Inv X pins σ H s->CX X.stack H s E e s'->X.xe e s'
section
variable {X:Cx}{CX:CXT}{k:Nat}{f C:Addr}{fd:FuncData}{ps:List Str}{sp:Sp}{dvs:List V}{ds:List Value}{E:XK}{x m:Str}{p pos apos:Pos}{e o:Expr}{es:List Expr}{ta:TE}{t:TA}
theorem zkE {pins:List (Addr×Obj)}{σ:St}{H:Hp}{s:Shared}{Q:VK}{us:List Value}{vs:List V}(F:FnOk X.prog X.w X.K X.mg X.base CX k f fd ps sp)(hr:Room k X.A)(hb:Binds X.K fd ps ds)(hd:Vals dvs ds)(hx:zic CX X E)
  (I:Inv X pins σ H s) (r:Vals vs us) (h:sp (vs++dvs) H Q E):wpAny (model X.prog X.w) X.A (call (.ref f) us) (EP X pins σ Q) X.xe s:=by
 have r2:Vals (vs++dvs) (us++ds):=r.append hd
 have hl:(us++ds).length=ps.length:=by rw[<-r2.length];exact F.len _ _ _ _ h
 refine wpAny_call (codeAny_mono (F.run X.A X.stack s H ⟨us,[]⟩ (us++ds) (vs++dvs) Q E hr I.env0 (hb s us I.kIn hl) r2 h) fun r s' hq=> ?_)
 cases r with
 |error e=>exact hx pins σ H s e s' I hq
 |ok fl=>
  cases fl with
  |ret u=>exact I.after hq
  |next=>exact False.elim hq
  |brk=>exact False.elim hq
  |cont=>exact False.elim hq
theorem zlc (F:FnOk X.prog X.w X.K X.mg X.base CX k f fd ps sp)(hr:Room k X.A)(hg:Gl X x)(hm:X.mg x=some (.ref f))(hk:PySem.W.keepIn X.K (.ref f)=true)(hb:Binds X.K fd ps ds)(hd:Vals dvs ds)(hx:zic CX X E)
  (ha:PA X (e::es) t) (hdb:(x==("__debug__" :Str))=false:=by decide) (he:starEach (e::es) X.env=(false,eval e X.env)::starEach es X.env:=by rfl) (hpl:(backTo pos (starEach es X.env)).any (·.1)=false:=by rfl):
  PE X (.Call (.Name x p) (e::es) [] pos) (znl sp dvs E t):=by
 intro pins s σ H Q I h
 refine wpAny_Call_Name_kw (zh2 I hg hm ?_ hdb)
 refine PySem.W.callWith_K (h₀:=X.base) I.ok.mod.kin hk (thn (ha pos pins s σ H _ I h) fun us s1 ⟨vs,H1,I1,r,q⟩=>⟨I1.kIn, ?_⟩) he hpl
 exact zkE F hr hb hd hx I1 r q
structure Mk (K:PySem.W.Frag) (C f:Addr):Prop where
 makes:PySem.W.makesIn K C=true
 init:PySem.W.findIn K (.ref C) "__init__" =some (some (.ref f))
 fn:PySem.W.isFn K (.ref f)=true
 kp:PySem.W.keepIn K (.ref C)=true
end
section
variable {X:Cx}{CX:CXT}{k:Nat}{f C:Addr}{fd:FuncData}{ps ks:List Str}{sp:Sp}{E:XK}{x m:Str}{p pos apos kpos:Pos}{e o:Expr}{es:List Expr}{kws:List Keyword}{te ta:TE}{t tk:TA}{nm:Option Str}
structure KBinds (K:PySem.W.Frag) (fd:FuncData) (ps ks:List Str) (g:List Value->List Value->List Value) (gV:List V->List V->List V):Prop where
 to:∀(s:Shared) (us ws:List Value),K.In s.heap->(g us ws).length=ps.length->BindsTo s fd ⟨us,ks.zip ws⟩ (ps.zip (g us ws))
 rel:∀{vs:List V} {us:List Value} {zs:List V} {ws:List Value},Vals vs us->Vals zs ws->Vals (gV vs zs) (g us ws)
variable {g:List Value->List Value->List Value}{gV:List V->List V->List V}
end
structure FnScope (N P:List Str) (sc:Scope):Prop where
 kind:sc.kind=.function
 co:sc.isCoroutine=false
 gen:sc.isGenerator=false
 nd:N.Nodup
 pre:N.take P.length=P
 par:∀x∈P,sc.names.lookup x=some .local∨sc.names.lookup x=some .cell
 nofree:∀y∈sc.names,y.2≠.free
theorem zeB {kindOf:Str->Option NameKind}{x:Str}:∀{binds:List (Str×Value)} {m:Str->Option Value},(∀v,(x,v)∉binds)->bindL kindOf binds m x=m x
 |[],_,_=>rfl
 | (n,v)::r,m,h=>by
  unfold bindL
  rw[zeB fun w hw=>h w (List.mem_cons_of_mem _ hw)]
  split
  ·have:x≠n:=by rintro rfl;exact h v List.mem_cons_self
   simp[this]
  ·rfl
theorem zeC {kindOf:Str->Option NameKind}{x:Str}:∀{binds:List (Str×Value)} {m:Str->Option Value},(∀v,(x,v)∉binds)->bindC kindOf binds m x=m x
 |[],_,_=>rfl
 | (n,v)::r,m,h=>by
  unfold bindC
  rw[zeC fun w hw=>h w (List.mem_cons_of_mem _ hw)]
  split
  ·rfl
  ·have:x≠n:=by rintro rfl;exact h v List.mem_cons_self
   simp[this]
theorem zeD {kindOf:Str->Option NameKind}{x:Str}{v:Value}:∀{P:List Str} {vs:List Value} {i:Nat} {m:Str->Option Value},P.Nodup->P[i]? =some x->vs[i]? =some v->kindOf x=some .local->
  bindL kindOf (P.zip vs) m x=some v
 |[],_,_,_,_,h,_,_=>by simp at h
 |_::_,[],_,_,_,_,h,_=>by simp at h
 |p::P,w::vs,0,m,nd,h1,h2,hk=>by
  simp at h1 h2;subst h1;subst h2
  show bindL kindOf ((p,w)::P.zip vs) m p=_
  unfold bindL
  rw[zeB fun v hv=>(List.nodup_cons.mp nd).1 (List.of_mem_zip hv).1,if_pos hk]
  simp
 |p::P,w::vs,i+1,m,nd,h1,h2,hk=>by
  show bindL kindOf ((p,w)::P.zip vs) m x=_
  unfold bindL
  exact zeD (i:=i) (List.nodup_cons.mp nd).2 (by simpa using h1) (by simpa using h2) hk
theorem zeE {kindOf:Str->Option NameKind}{x:Str}{v:Value}:∀{P:List Str} {vs:List Value} {i:Nat} {m:Str->Option Value},P.Nodup->P[i]? =some x->vs[i]? =some v->kindOf x≠some .local->
  bindC kindOf (P.zip vs) m x=some v
 |[],_,_,_,_,h,_,_=>by simp at h
 |_::_,[],_,_,_,_,h,_=>by simp at h
 |p::P,w::vs,0,m,nd,h1,h2,hk=>by
  simp at h1 h2;subst h1;subst h2
  show bindC kindOf ((p,w)::P.zip vs) m p=_
  unfold bindC
  rw[zeC fun v hv=>(List.nodup_cons.mp nd).1 (List.of_mem_zip hv).1,if_neg hk]
  simp
 |p::P,w::vs,i+1,m,nd,h1,h2,hk=>by
  show bindC kindOf ((p,w)::P.zip vs) m x=_
  unfold bindC
  exact zeE (i:=i) (List.nodup_cons.mp nd).2 (by simpa using h1) (by simpa using h2) hk
noncomputable def zeF (N:List Str)(vs:List V):St:=vs.map some++List.replicate (N.length-vs.length) none
noncomputable def cxOf (CX:CXT)(P:Program)(w:World)(K:PySem.W.Frag)(mg:Str->Option Value)(base:Heap)(N:List Str)(qual:Str)(scope:Scope)(f:Addr)(cd:Value)(A:Around)(outer:List Env)(s:Shared)(H:Hp)(E:XK):Cx where
 prog:=P
 w:=w
 K:=K
 mg:=mg
 base:=base
 A:=A.deeper (envOfC qual scope s.heap.objs.size f cd)
 N:=N
 s₀:=s
 H₀:=H
 env:=envOfC qual scope s.heap.objs.size f cd
 outer:=outer
 stack:=envOfC qual scope s.heap.objs.size f cd::outer
 ex:=[]
 calm:=true
 fn:=fun _=>true
 pn:=[]
 xe:=fun e s'=>wpAny (model P w) (A.deeper (envOfC qual scope s.heap.objs.size f cd)) (leaving (envOfC qual scope s.heap.objs.size f cd) e) (fun _ s''=>CX outer H s E e s'') (fun e' s''=>CX outer H s E e' s'') s'
theorem zgo {sc:Scope}{n:Nat}{x:Str}(h:sc.names.lookup x=some .cell):∃c,(cellsFrom n sc.names []).lookup x=some c:=by
 have q:=PySem.W.cellsFrom_some sc.names n [] (.inl h)
 exact Option.isSome_iff_exists.mp q
theorem zid {CX:CXT}{P:Program}{w:World}{K:PySem.W.Frag}{mg:Str->Option Value}{base:Heap}{N ps:List Str}{qual:Str}{scope:Scope}{f:Addr}{cd:Value}{A:Around}{outer:List Env}{s s1:Shared}{H:Hp}{E:XK}{us:List Value}{vs:List V}
  (S:FnScope N ps scope) (hd:A.handled=none) (e0:Env0 P w K mg base A outer s H) (hl:vs.length=ps.length) (r:Vals vs us)
  (x:InCallC s s.heap.objs.size (bindL (envOfC qual scope s.heap.objs.size f cd).kindOf (ps.zip us) fun _=>none) (cellsFrom (s.heap.objs.size+1) scope.names []) (bindC (envOfC qual scope s.heap.objs.size f cd).kindOf (ps.zip us) fun _=>none) s1):
  Inv (cxOf CX P w K mg base N qual scope f cd A outer s H E) [] (zeF N vs) H s1:=by
 have hpl:ps.length<=N.length:=by have:=congrArg List.length S.pre;rw[List.length_take] at this;(first|lia|omega)
 obtain⟨h1,tk,rfl,hk⟩:=x.done
 have noA:∀b:Addr,b∉(cxOf CX P w K mg base N qual scope f cd A outer s H E).ex:=fun b z=>absurd (show b∈([]:List Addr) from z) (by simp)
 refine⟨⟨e0.mod,S.kind,rfl,rfl,Nat.le_refl _,fun y z c h1 h2=> ?_,fun y hy=> ?_,fun y c _ h=> ?_,fun _=>hd,Around.frames_deeper e0.frames,.inr ⟨rfl,rfl⟩,fun b z=>absurd z (noA b),e0.bs,e0.bsz,fun b _ _=>noA b,fun b z=>absurd z (noA b),e0.funs,e0.frf⟩,
  rfl,e0.bare,Un.kept hk,⟨_,x.toInCall.ns,fun i y v h1 h2 h3=> ?_⟩,fun y c h=>⟨_,x.cell y c h⟩,e0.hok.fresh (Nat.le_refl _),fun y c h=> ?_,fun p hp=>absurd (show p∈([]:List (Addr×Obj)) from hp) (by simp),e0.hok.kept hk, ?_⟩
 ·exact name_of_addr x.apart (PySem.mem_of_lookup h1) (PySem.mem_of_lookup h2)
 ·have hy:scope.names.lookup y=some .cell∨scope.names.lookup y=some .free:=hy
  rcases hy with hy|hy
  ·exact zgo hy
  ·exact absurd rfl (S.nofree _ (PySem.mem_of_lookup hy))
 ·exact Nat.le_of_lt (x.above y c (PySem.mem_of_lookup h))
 ·have hi:i<vs.length:=by
   unfold zeF at h2
   by_cases hi:i<vs.length
   ·exact hi
   ·rw [List.getElem?_append_right (by simpa using hi)] at h2
    rw[List.getElem?_replicate] at h2
    split at h2<;>cases h2
  have ha:vs[i]? =some v:=by
   unfold zeF at h2
   rw[List.getElem?_append_left (by simpa using hi),List.getElem?_map] at h2
   cases e:vs[i]? with
   |none=>rw[e] at h2;cases h2
   |some a=>rw[e] at h2;cases h2;rfl
  obtain⟨u,hu,rv⟩:=r.get ha
  have hp:ps[i]? =some y:=by
   rw[<-S.pre,List.getElem?_take_of_lt (by (first|lia|omega))];exact h1
  have ndP:ps.Nodup:=by rw[<-S.pre];exact S.nd.sublist (List.take_sublist _ _)
  refine⟨u,rv, ?_⟩
  rcases S.par y (List.mem_of_getElem? hp) with k|k
  ·exact .inl ⟨k,zeD ndP hp hu k⟩
  ·obtain ⟨c,e⟩:=zgo (n:=s.heap.objs.size+1) k
   refine .inr ⟨.inl k,c,e, ?_⟩
   have q:=x.cell y c e
   rw[zeE ndP hp hu (by show scope.names.lookup y≠_;rw[k];decide)] at q
   exact q
 ·exact e0.hok.fresh (Nat.le_of_lt (x.above y c (PySem.mem_of_lookup h)))
 ·unfold zeF
  show _=N.length
  rw[List.length_append,List.length_map,List.length_replicate]
  (first|lia|omega)
theorem znm {CX:CXT}{P:Program}{w:World}{K:PySem.W.Frag}{mg:Str->Option Value}{base:Heap}{k:Nat}{f:Addr}{name qual:Str}{params:Arguments}{body:List Stmt}{scope:Scope}{dV kV doc pm cdv ct oc:Value}{an od:Option Addr}
  {osl:Array (Option Value)} {N ps:List Str} {sp:Sp} (lk:K.lookup f=some ⟨oc,od,.func (PySem.W.fnOf name qual params body scope dV kV doc pm an cdv ct),osl⟩) (hcd:PySem.W.codeIn K cdv qual=true) (S:FnScope N ps scope)
  (len:∀vs H Q E,sp vs H Q E->vs.length=ps.length)
  (hbody:∀(A:Around) (outer:List Env) (s:Shared) (H:Hp) (vs:List V) (Q:VK) (E:XK),Room k (A.deeper (envOfC qual scope s.heap.objs.size f cdv))->sp vs H Q E->
   ∃t,PSs (cxOf CX P w K mg base N qual scope f cdv A outer s H E) body t/\t {nx:=fun _ H'=>Q .non H',rt:=Q} (zeF N vs) H):
  FnOk P w K mg base CX (k+1) f (PySem.W.fnOf name qual params body scope dV kV doc pm an cdv ct) ps sp:=by
 refine⟨len,fun A outer s H args us vs Q E hr e0 hb r hsp=> ?_⟩
 have hl:=len _ _ _ _ hsp
 have KX:K.In s.heap:=e0.mod.kin.keeps fun b o e=>(e0.bs b o e).1
 have lim:s.heap.NoLimit:=e0.mod.nolimit.keeps fun b o e=>(e0.bs b o e).1
 have hkind:∀y∈ps.zip us,scope.names.lookup y.1=some .local∨(scope.names.lookup y.1=some .cell/\((cellsFrom (s.heap.objs.size+1) scope.names []).lookup y.1).isSome=true):=fun ⟨n,v⟩ hy=>by
  rcases S.par n (List.of_mem_zip hy).1 with q|q
  ·exact .inl q
  ·exact .inr ⟨q,PySem.W.cellsFrom_some _ _ _ (.inl q)⟩
 refine codeAny_call_function hr.depth (KX _ _ lk) rfl S.co S.gen rfl (PySem.W.codeRec_of KX hcd) (hb _ _ _ _ ?_)
 refine wpAny_newFunctionEnv_cells S.kind hkind fun env he s1 x=> ?_
 subst he
 refine⟨lim.keeps x.toInCall.keep,codeAny_func ?_⟩
 obtain⟨t,ht,hq⟩:=hbody A outer s H vs Q E (hr.deeper _) hsp
 have I:Inv (cxOf CX P w K mg base N qual scope f cdv A outer s H E) [] (zeF N vs) H s1:=zid S hr.hd e0 hl r x
 refine wpAny_mono (ht [] s1 (zeF N vs) H _ I hq) (fun fl s' hs=> ?_) fun e s' hs=>hs
 have fin:∀{σ':St} {H':Hp} {v:V} {u:Value},Inv (cxOf CX P w K mg base N qual scope f cdv A outer s H E) [] σ' H' s'->RelV v u->Q v H'->CE outer P w H s Q u s':=
  fun {σ' H' v u} J rv q=>⟨v,H',J.os,J.bare,J.base,J.hok,rv,q⟩
 cases fl with
 |ret u=>
  obtain⟨v,σ',H',J,rv,q⟩:=hs
  exact fin J rv q
 |next=>
  obtain⟨σ',H',J,q⟩:=hs
  exact fin (v:=V.non) (u:=Value.none) J rfl q
 |brk=>
  obtain⟨_,_,_,q⟩:=hs
  exact False.elim q
 |cont=>
  obtain⟨_,_,_,q⟩:=hs
  exact False.elim q
section
variable {X:Cx}{x:Str}{p pos:Pos}{e:Expr}{es:List Expr}{t:TA}{id T:String}{r:List V->Hp->VK->Prop}
noncomputable def tCB (r:List V->Hp->VK->Prop)(t:TA):TE:=fun σ H Q=>t σ H fun vs H1=>r vs H1 Q
theorem zaq (hc:zbu X (.builtin id) r)(hg:Gl X x)(hm:X.mg x=none)(hv:bootBuiltins x=some (.builtin id))(ha:PA X (e::es) t)(hn:x≠ "__name__" :=by decide)(hdb:(x==("__debug__" :Str))=false:=by decide)
  (he:starEach (e::es) X.env=(false,eval e X.env)::starEach es X.env:=by rfl) (hpl:(backTo pos (starEach es X.env)).any (·.1)=false:=by rfl):PE X (.Call (.Name x p) (e::es) [] pos) (tCB r t):=by
 intro pins s σ H Q I h
 refine wpAny_Call_Name_kw (zdd I hg hm hv ?_ hn hdb)
 exact PyProof.Rows.callWith_builtin1 (thn (ha pos pins s σ H _ I h) fun us s1 ⟨vs,H1,I1,r1,q1⟩=>hc pins s1 σ H1 vs us Q I1 r1 q1) he hpl
theorem zao (hc:zbu X (.type T) r)(hg:Gl X x)(hm:X.mg x=none)(hv:bootBuiltins x=some (.type T))(ha:PA X (e::es) t)(hn:x≠ "__name__" :=by decide)(hdb:(x==("__debug__" :Str))=false:=by decide)
  (he:starEach (e::es) X.env=(false,eval e X.env)::starEach es X.env:=by rfl) (hpl:(backTo pos (starEach es X.env)).any (·.1)=false:=by rfl):PE X (.Call (.Name x p) (e::es) [] pos) (tCB r t):=by
 intro pins s σ H Q I h
 refine wpAny_Call_Name_kw (zdd I hg hm hv ?_ hn hdb)
 exact PyProof.Rows.callWith_type1 (thn (ha pos pins s σ H _ I h) fun us s1 ⟨vs,H1,I1,r1,q1⟩=>hc pins s1 σ H1 vs us Q I1 r1 q1) he hpl
end
end L2
namespace HT
open PySem PyProof.Rows
noncomputable def lexLt:List Int->List Int->Bool
 |[],[]=>false
 |[],_::_=>true
 |_::_,[]=>false
 |x::xs,y::ys=>if x=y then lexLt xs ys else decide (x<y)
theorem lexLt_cons (x y:Int)(xs ys:List Int):lexLt (x::xs) (y::ys)=if x=y then lexLt xs ys else decide (x<y):=rfl
theorem lexLt_nil_cons (y:Int)(ys:List Int):lexLt [] (y::ys)=true:=rfl
theorem lexLt_cons_nil (x:Int)(xs:List Int):lexLt (x::xs) []=false:=rfl
section
open PySem.SeqAt
open PySem.AutoSeq1 (wpAny_loadPart')
open PySem.MeetsSeq PySem.MeetsSeq2 PySem.MeetsSeq3
end
section
variable {prog:Program}{w:World}{A:Around}{E:Value->Shared->Prop}{s:Shared}
theorem cat_tup {t b:Addr}{vs ws:List Value}{Q:Value->Shared->Prop}(ht:IsTup s.heap t vs.toArray)(hb:IsTup s.heap b ws.toArray)(hv:vs≠[])
  (h1:ws=[]->Q (.ref t) s) (h2:ws≠[]->Q (.ref s.heap.objs.size) {s with heap:=s.heap.push {cls:=.type "tuple",data:=.seq (vs++ws).toArray}})
  (hsz:vs.length+ws.length<=sizeLine):wpAny (model prog w) A (binaryOp .Add (.ref t) (.ref b)) Q E s:=by
 obtain⟨⟨cls,dd,data,sl⟩,ho,hc,n,hd⟩:=id ht
 obtain⟨⟨cls2,dd2,data2,sl2⟩,ho2,hc2,n2,hd2⟩:=id hb
 simp only at hc hd hc2 hd2
 subst hc hd hc2 hd2
 have e:vs.toArray++ws.toArray=(vs++ws).toArray:=by simp
 by_cases hw:ws=[]
 ·exact concat_meets ⟨_,ho,rfl⟩ ⟨_,ho2,rfl⟩ noFill_tuple_add seq_tuple_add PySem.F.slot_tuple_add PySem.F.entry_tuple_add (PySem.F.args_tuple_add_2 _ _)
   (tuple_addW1 t b vs.toArray ws.toArray n n2 dd dd2 sl sl2 (by simpa using hv) (by simp[hw])) ⟨ho,ho2,h1 hw⟩
 ·refine concat_meets ⟨_,ho,rfl⟩ ⟨_,ho2,rfl⟩ noFill_tuple_add seq_tuple_add PySem.F.slot_tuple_add PySem.F.entry_tuple_add (PySem.F.args_tuple_add_2 _ _)
   (tuple_addW2 t b vs.toArray ws.toArray n n2 dd dd2 sl sl2 (by simpa using hv) (by simpa using hw) (by rw[List.size_toArray,List.size_toArray];exact hsz)) ⟨ho,ho2, ?_⟩
  rw[e]
  exact h2 hw
noncomputable def sIx (n d:Nat):Option Int->Nat
 |none=>d
 |some v=>if v<0 then (v+(n:Int)).toNat else min v.toNat n
theorem sIx_none (n d:Nat):sIx n d none=d:=rfl
theorem sIx_nat (n d k:Nat):sIx n d (some (k:Int))=min k n:=by
 show (if (k:Int)<0 then ((k:Int)+(n:Int)).toNat else min (k:Int).toNat n)=min k n
 rw[if_neg (by (first|lia|omega)),Int.toNat_natCast]
theorem zml (n d:Nat)(hd:d<=n)(o:Option Int):sIx n d o<=n:=by
 cases o with
 |none=>exact hd
 |some v=>
  show (if v<0 then (v+(n:Int)).toNat else min v.toNat n)<=n
  by_cases hv:v<0
  ·rw[if_pos hv];(first|lia|omega)
  ·rw[if_neg hv];exact Nat.min_le_right _ _
theorem zie (v:Int)(n d:Nat):(if v<0 then max (v+(n:Int)) 0 else min v (n:Int))=((sIx n d (some v):Nat):Int):=by
 show (if v<0 then max (v+(n:Int)) 0 else min v (n:Int))=(((if v<0 then (v+(n:Int)).toNat else min v.toNat n):Nat):Int)
 by_cases hv:v<0
 ·simp only[if_pos hv];(first|lia|omega)
 ·simp only[if_neg hv];(first|lia|omega)
theorem zhw (lo hi:Option Int)(n:Nat):Builtin.Slice.sliceAdjust lo hi 1 (n:Int)=(((sIx n 0 lo:Nat):Int),((sIx n n hi:Nat):Int)):=by
 have h1:¬((1:Int)<0):=by (first|lia|omega)
 unfold Builtin.Slice.sliceAdjust
 simp only[h1,if_false]
 refine Prod.ext ?_ ?_
 ·cases lo with
  |none=>rfl
  |some v=>exact zie v n 0
 ·cases hi with
  |none=>rfl
  |some v=>exact zie v n n
theorem zhx (i j:Nat):Builtin.Slice.slicePlaces (i:Int) (j:Int) 1=j-i:=by
 unfold Builtin.Slice.slicePlaces
 have h1:(1:Int)>0:=by (first|lia|omega)
 simp only[h1,if_true,Int.ediv_one]
 split<;>(first|lia|omega)
theorem slicePart_ {v:Value}{o:Option Int}{Q:Option Int->Shared->Prop}(p:IsPart v o)(h:Q o s):wpAny (model prog w) A (Builtin.Slice.slicePartIndex v) Q E s:=by
 cases p with
 |none=>exact slicePart_none h
 |int i t=>exact slicePart_int h
theorem sliceApplied_gen {sl:Addr}{vl vu:Value}{lo hi:Option Int}{n:Nat}{Q:Int×Int×Nat->Shared->Prop}(hs:s.heap.IsSliceOf sl vl vu .none)(pl:IsPart vl lo)(pu:IsPart vu hi)
  (h:Q (((sIx n 0 lo:Nat):Int),1,sIx n n hi-sIx n 0 lo) s):wpAny (model prog w) A (Builtin.Slice.sliceApplied (.ref sl) (pure (n:Int))) Q E s:=by
 obtain⟨os,hos,hcs,hds⟩:=id hs
 unfold Builtin.Slice.sliceApplied Builtin.Slice.sliceFields
 refine wpAny_bind (wpAny_bind (wpAny_field hos hds (x:=vl) rfl (wpAny_bind (wpAny_field hos hds (x:=vu) rfl (wpAny_bind (wpAny_field hos hds (x:=.none) rfl (wpAny_pure ?_)))))))
 refine wpAny_bind (slicePart_none ?_)
 show wpAny _ _ (if ((1:Int)==0)=true then _ else _) _ _ s
 rw[if_neg (by decide)]
 refine wpAny_bind (slicePart_ pl (wpAny_bind (slicePart_ pu (wpAny_bind (wpAny_pure ?_)))))
 show wpAny _ _ (match Builtin.Slice.sliceAdjust lo hi 1 (n:Int) with|(lo,hi)=>pure (lo,(1:Int),Builtin.Slice.slicePlaces lo hi 1)) _ _ s
 rw[zhw lo hi n]
 show wpAny _ _ (pure (((sIx n 0 lo:Nat):Int),(1:Int),Builtin.Slice.slicePlaces ((sIx n 0 lo:Nat):Int) ((sIx n n hi:Nat):Int) 1)) _ _ s
 rw[zhx]
 exact wpAny_pure h
theorem zjK (xs:Array Value)(i k:Nat):((List.range k).filterMap fun (m:Nat)=>xs[((i:Int)+(m:Int)*1).toNat]?).toArray=((xs.toList.drop i).take k).toArray:=by
 have e:(fun (m:Nat)=>xs[((i:Int)+(m:Int)*1).toNat]?)=fun m=>xs[i+m]? :=by
  funext m
  have:((i:Int)+(m:Int)*1).toNat=i+m:=by (first|lia|omega)
  rw[this]
 rw[e]
 have:=pick_run xs i k
 rw[List.filterMap_map] at this
 have e2:((fun x=>xs[x]?)∘fun x=>i+x)=fun m=>xs[i+m]? :=rfl
 rw[e2] at this
 rw[this]
theorem getItem_tuple_cut {t sl:Addr}{items:Array Value}{vl vu:Value}{lo hi:Option Int}{Q:Value->Shared->Prop}(ht:IsTup s.heap t items)(hs:s.heap.IsSliceOf sl vl vu .none)(pl:IsPart vl lo)(pu:IsPart vu hi)
  (hw:¬(sIx items.size 0 lo=0/\sIx items.size items.size hi=items.size))
  (h:Q (.ref s.heap.objs.size) {s with heap:=s.heap.push {cls:=.type "tuple",data:=.seq ((items.toList.drop (sIx items.size 0 lo)).take (sIx items.size items.size hi-sIx items.size 0 lo)).toArray}})
  (hsz:items.size<=sizeLine):wpAny (model prog w) A (getItem (.ref t) (.ref sl)) Q E s:=by
 have htake:sizeOk (.seq ((items.toList.drop (sIx items.size 0 lo)).take (sIx items.size items.size hi-sIx items.size 0 lo)).toArray):=by
  show ((items.toList.drop (sIx items.size 0 lo)).take (sIx items.size items.size hi-sIx items.size 0 lo)).toArray.size<=sizeLine
  rw[List.size_toArray,List.length_take,List.length_drop,Array.length_toList]
  (first|lia|omega)
 have hj:sIx items.size items.size hi<=items.size:=zml _ _ (Nat.le_refl _) hi
 obtain⟨os,hos,hcs,hds⟩:=id hs
 have hTs:s.TypeIs (.ref sl) "slice" :=⟨os,hos,hcs⟩
 unfold getItem
 try with_reducible refine wpAny_holding ?_
 first|refine wpAny_bind (wpAny_pure ?_)|skip
 refine wpAny_bind (wpAny_sequenceKey ht.typeIs (by decide) ?_)
 refine wpAny_bind (wpAny_callSpecial?_slot (name:=Str.ofString "__getitem__") ht.typeIs PyProof.Rows.slot_tuple_getitem
  (wpAny_call_entry PyProof.Rows.slot_tuple_getitem ht.typeIs entry_tuple_getitem ?_ (args_tuple_getitem _ _)))
 show wpAny _ _ (Builtin.Tuple.tupleItemsOf (.ref t) >>= _) _ _ s
 refine wpAny_bind (tupleItemsOf_ ht ?_)
 refine wpAny_bind (wpAny_typeOf hTs ?_)
 rw[if_pos (by decide)]
 refine wpAny_bind (sliceApplied_gen hs pl pu ?_)
 have hno:¬((((sIx items.size 0 lo:Nat):Int)==0&&(1:Int)==1&&(sIx items.size items.size hi-sIx items.size 0 lo)==items.size)=true):=by
  intro q
  rw[Bool.and_eq_true,Bool.and_eq_true] at q
  have q1:((sIx items.size 0 lo:Nat):Int)=0:=eq_of_beq q.1.1
  have q2:sIx items.size items.size hi-sIx items.size 0 lo=items.size:=eq_of_beq q.2
  exact hw ⟨by (first|lia|omega),by (first|lia|omega)⟩
 show wpAny _ _ (if (((sIx items.size 0 lo:Nat):Int)==0&&(1:Int)==1&&(sIx items.size items.size hi-sIx items.size 0 lo)==items.size)=true then _ else _) _ _ s
 rw[if_neg hno,zjK]
 first
  |exact wpAny_bind (m:=Builtin.Tuple.tupleExact _) (wpAny_newObj_type (wpAny_pure ⟨_,rfl,wpAny_pure h⟩) htake)
  |exact wpAny_bind (m:=Builtin.Tuple.tupleExact _) (wpAny_newObj_type (wpAny_bind (wpAny_pure (wpAny_pure ⟨_,rfl,wpAny_pure h⟩))) htake)
  |exact wpAny_bind (wpAny_bind (m:=Builtin.Tuple.tupleExact _) (wpAny_newObj_type (wpAny_pure (wpAny_pure ⟨_,rfl,wpAny_pure h⟩)) htake))
  |exact wpAny_bind (wpAny_bind (m:=Builtin.Tuple.tupleExact _) (wpAny_newObj_type (wpAny_pure ⟨_,rfl,wpAny_pure h⟩) htake))
end
end HT
namespace L2
open PySem PySem.Spec PyProof.Rows
noncomputable abbrev TO:=St->Hp->(Option Int->Hp->Prop)->Prop
noncomputable def PO (X:Cx)(e:Option Expr)(t:TO):Prop:=
 ∀(pins:List (Addr×Obj)) (s:Shared) (σ:St) (H:Hp) (Q:Option Int->Hp->Prop),Inv X pins σ H s->t σ H Q->
  wpAny (model X.prog X.w) X.A (evalPart e X.env) (fun u s'=>∃o H',Inv X pins σ H' s'/\IsPart u o/\Q o H') X.xe s
noncomputable def zld:TO:=fun _ H Q=>Q none H
noncomputable def zmm (t:TE):TO:=fun σ H Q=>t σ H fun x H1=>∃i,x=.int i/\Q (some i) H1
theorem zbq {ns:List Int}:∀{us:List Value},Vals (ns.map V.int) us->IntsAre us ns:=by
 induction ns with
 |nil=>intro us r;rw[List.map_nil] at r;cases r;exact .nil
 | cons n ns ih=>
  intro us r
  rw[List.map_cons] at r
  cases r with
  |cons r1 r2=>
   obtain⟨t,e⟩:=r1
   subst e
   exact .cons n t (ih r2)
section
variable {X:Cx}{e:Expr}{te:TE}{lo hi:Option Expr}{tl th:TO}{pos p2:Pos}
theorem zbJ:PO X none zld:=by
 intro pins s σ H Q I h
 rw[evalPart_none]
 exact wpAny_pure ⟨none,H,I,.none,h⟩
theorem zb8 (h:PE X e te):PO X (some e) (zmm te):=by
 intro pins s σ H Q I hw
 rw[evalPart_some]
 refine thn (h pins s σ H _ I hw) fun u s1 zq=> ?_
 obtain⟨x,H1,I1,r1,q1⟩:=zq
 obtain⟨i,rfl,q⟩:=q1
 obtain⟨t,rfl⟩:=r1
 exact⟨some i,H1,I1,.int i t,q⟩
noncomputable def SlR (X:Cx)(r:V->Option Int->Option Int->Hp->VK->Prop):Prop:=
 ∀(pins:List (Addr×Obj)) (s:Shared) (σ:St) (H:Hp) (x:V) (v vl vu:Value) (lo hi:Option Int) (sl:Addr) (Q:VK),Inv X pins σ H s->RelV x v->s.heap.IsSliceOf sl vl vu .none->IsPart vl lo->IsPart vu hi->r x lo hi H Q->
  ∃T id,typeLookup (.type T) "__getitem__" =pure (some (.builtin id))/\s.TypeIs v T/\wpAny (model X.prog X.w) X.A (getItem v (.ref sl)) (EP X pins σ Q) X.xe s
noncomputable def tSl (r:V->Option Int->Option Int->Hp->VK->Prop)(te:TE)(tl th:TO):TE:=fun σ H Q=>te σ H fun x H1=>tl σ H1 fun l H2=>th σ H2 fun u H3=>r x l u H3 Q
theorem zbX {r:V->Option Int->Option Int->Hp->VK->Prop}(hr:SlR X r)(he:PE X e te)(hl:PO X lo tl)(hu:PO X hi th):PE X (.Subscript e (.Slice lo hi none p2) pos) (tSl r te tl th):=by
 intro pins s σ H Q I h
 refine Subscript_ (thn (he pins s σ H _ I h) fun v s1 zq=> ?_)
 obtain⟨x,H1,I1,r1,q1⟩:=zq
 refine wpAny_Slice (thn (hl pins s1 σ H1 _ I1 q1) fun vl s2 ⟨l,H2,I2,pl,q2⟩=>thn (hu pins s2 σ H2 _ I2 q2) fun vu s3 ⟨u,H3,I3,pu,q3⟩=> ?_)
 rw[evalPart_none]
 refine wpAny_pure ?_
 have I4:Inv X pins σ H3 {s3 with heap:=s3.heap.push {cls:=.type "slice",data:=.fields #[vl,vu,.none]}}:=I3.kept (t':=s3.toks) fun b ob q=>Heap.get?_push_of_some _ q
 obtain⟨T,id,hT,ht,hg⟩:=hr pins {s3 with heap:=s3.heap.push {cls:=.type "slice",data:=.fields #[vl,vu,.none]}} σ H3 x v vl vu l u s3.heap.objs.size Q I4 r1 (Heap.IsSliceOf.new ..) pl pu q3
 show wpAny (model X.prog X.w) X.A (subscriptTail e (.Slice lo hi none p2) v (.ref s3.heap.objs.size)) (EP X pins σ Q) X.xe {s3 with heap:=s3.heap.push {cls:=.type "slice",data:=.fields #[vl,vu,.none]}}
 exact tail_any (ops:=[.ref s3.heap.objs.size,v]) ht hT hg (by with_unfolding_all rfl)
noncomputable def cutV (xs:List V)(lo hi:Option Int):List V:=(xs.drop (HT.sIx xs.length 0 lo)).take (HT.sIx xs.length xs.length hi-HT.sIx xs.length 0 lo)
theorem zdg (xs:List V)(lo hi:Option Int):(cutV xs lo hi).length<=xs.length:=by
 unfold cutV
 rw[List.length_take,List.length_drop]
 (first|lia|omega)
noncomputable def rSlT (K:PySem.W.Frag):V->Option Int->Option Int->Hp->VK->Prop:=fun x lo hi H Q=>∃a xs,x=.ref a/\SqT K H a xs/\
 ¬(HT.sIx xs.length 0 lo=0/\HT.sIx xs.length xs.length hi=xs.length)/\∀p,H p=none->Q (.ref p) (upd H p (.tup (cutV xs lo hi)))
theorem zmn:SlR X (rSlT X.K):=by
 intro pins s σ H x v vl vu lo hi sl Q I rx hs pl pu h
 obtain⟨a,xs,rfl,hx,hw,q⟩:=h
 cases rx
 obtain⟨its,r,ht,hz⟩:=I.tuple hx
 have hlen:its.toArray.size=xs.length:=by rw[List.size_toArray];exact r.length.symm
 refine⟨"tuple",_,PyProof.Rows.slot_tuple_getitem.lookup,ht.typeIs, ?_⟩
 refine HT.getItem_tuple_cut ht hs pl pu (by rw[hlen];exact hw) ?_ (by rw[hlen];exact hz)
 rw[hlen]
 refine⟨.ref s.heap.objs.size,_,I.laid (t':=s.toks) (o:=.tup (cutV xs lo hi)) (fun b ob q=>Heap.get?_push_of_some _ q) (Nat.le_refl _) ?_,rfl,q _ (I.hok.fresh (Nat.le_refl _))⟩
 exact⟨Nat.le_trans (zdg xs lo hi) hz,_,(r.drop (HT.sIx xs.length 0 lo)).take (HT.sIx xs.length xs.length hi-HT.sIx xs.length 0 lo),PTup.new⟩
noncomputable def znn (K:PySem.W.Frag):R2:=fun x y H Q=>∃a b xs ys,x=.ref a/\y=.ref b/\SqT K H a xs/\SqT K H b ys/\xs≠[]/\xs.length+ys.length<=sizeLine/\
 (ys=[]->Q (.ref a) H)/\(ys≠[]->∀p,H p=none->Q (.ref p) (upd H p (.tup (xs++ys))))
theorem Vals.nil_iff {xs:List V}{us:List Value}(r:Vals xs us):us=[]↔xs=[]:=by
 cases r with
 |nil=>simp
 |cons _ _=>simp
theorem zle:OpR X (binaryOp .Add) (znn X.K):=by
 intro pins s σ H x y v u Q I rx ry h
 obtain⟨a,b,xs,ys,rfl,rfl,ha,hb,hx,hz,q1,q2⟩:=h
 cases rx
 cases ry
 obtain⟨its,r1,p1,_⟩:=I.tuple ha
 obtain⟨its2,r2,p2,_⟩:=I.tuple hb
 refine HT.cat_tup p1 p2 (fun z=>hx (r1.nil_iff.mp z)) (fun z=>⟨.ref a,H,I,rfl,q1 (r2.nil_iff.mp z)⟩) (fun z=> ?_) (by rw[<-r1.length,<-r2.length];exact hz)
 refine⟨.ref s.heap.objs.size,_,I.laid (t':=s.toks) (o:=.tup (xs++ys)) (fun b ob q=>Heap.get?_push_of_some _ q) (Nat.le_refl _) ?_,rfl,q2 (fun w=>z (r2.nil_iff.mpr w)) _ (I.hok.fresh (Nat.le_refl _))⟩
 exact⟨by rw[List.length_append];exact hz,_,r1.append r2,PTup.new⟩
end
noncomputable def ixN (n:Nat)(i:Int):Option Nat:=if 0<=i then (if i<n then some i.toNat else none) else if-(n:Int)<=i then some (i+n).toNat else none
noncomputable def atI {α:Type}(xs:List α)(i:Int):Option α:=(ixN xs.length i).bind fun j=>xs[j]?
theorem zif {n:Nat}{i:Int}{j:Nat}(h:ixN n i=some j):seqIndex? i n=some j/\j<n/\-(n:Int)<=i/\i<n:=by
 unfold ixN at h
 by_cases h0:0<=i
 ·rw [if_pos h0] at h
  by_cases h1:i<n
  ·rw [if_pos h1] at h
   have e:i.toNat=j:=Option.some.inj h
   exact⟨by rw[seqIndex_of h0 h1,e],by (first|lia|omega),by (first|lia|omega),h1⟩
  ·rw[if_neg h1] at h;cases h
 ·rw [if_neg h0] at h
  by_cases h1:-(n:Int)<=i
  ·rw [if_pos h1] at h
   have e:(i+n).toNat=j:=Option.some.inj h
   exact⟨by rw[seqIndex_neg (by (first|lia|omega)) h1,e],by (first|lia|omega),h1,by (first|lia|omega)⟩
  ·rw[if_neg h1] at h;cases h
theorem zig {α:Type}{xs:List α}{i:Int}{v:α}(h:atI xs i=some v):∃j,seqIndex? i xs.length=some j/\xs[j]? =some v/\j<xs.length/\-(xs.length:Int)<=i/\i<xs.length:=by
 unfold atI at h
 cases e:ixN xs.length i with
 |none=>rw[e] at h;cases h
 |some j=>
  rw[e] at h
  obtain⟨h1,h2,h3,h4⟩:=zif e
  exact⟨j,h1,h,h2,h3,h4⟩
theorem zaC {α:Type}{xs:List α}{j:Nat}{v:α}(h:xs[j]? =some v):atI xs (j:Int)=some v:=by
 have hj:j<xs.length:=(List.getElem?_eq_some_iff.mp h).1
 have e:ixN xs.length (j:Int)=some j:=by
  unfold ixN
  rw[if_pos (by (first|lia|omega)),if_pos (by (first|lia|omega))];simp
 unfold atI;rw[e];exact h
noncomputable def zlf (b:Expr):Prop:=∀o i,subscripted b false o i=operate [o,i] (getItem o i)
noncomputable def IxR (X:Cx)(r:R2):Prop:=
 ∀(value slice:Expr) (pins:List (Addr×Obj)) (s:Shared) (σ:St) (H:Hp) (x y:V) (v u:Value) (Q:VK),Inv X pins σ H s->RelV x v->RelV y u->r x y H Q->
  subscripted slice false v u=operate [v,u] (getItem v u)->wpAny (model X.prog X.w) X.A (subscriptTail value slice v u) (EP X pins σ Q) X.xe s
noncomputable def MtR (X:Cx)(id:String)(r:V->List V->Hp->VK->Prop):Prop:=
 ∀(pins:List (Addr×Obj)) (s:Shared) (σ:St) (H:Hp) (x:V) (xs:List V) (v:Value) (us:List Value) (Q:VK),Inv X pins σ H s->RelV x v->Vals xs us->r x xs H Q->
  wpAny (model X.prog X.w) X.A (call (.builtin id) (v::us)) (EP X pins σ Q) X.xe s
section
variable {X:Cx}{a b:Expr}{ta tb:TE}{pos:Pos}
theorem zaX {r:R2}(hr:IxR X r)(ha:PE X a ta)(hb:PE X b tb)(hs:zlf b):PE X (.Subscript a b pos) (tOp r ta tb):=by
 intro pins s σ H Q I h
 exact Subscript_ (binT ha hb I h fun v u s2 x y H2 I2 rx ry q=>hr a b pins s2 σ H2 x y v u Q I2 rx ry q (hs _ _))
noncomputable def rIxL (K:PySem.W.Frag):R2:=fun x y H Q=>∃p xs i v,x=.ref p/\y=.int i/\SqL K H p xs/\atI xs i=some v/\Q v H
noncomputable def rIxT (K:PySem.W.Frag):R2:=fun x y H Q=>∃p xs i v,x=.ref p/\y=.int i/\SqT K H p xs/\atI xs i=some v/\Q v H
theorem zaz:IxR X (rIxL X.K):=by
 intro value slice pins s σ H x y v u Q I rx ry h hs
 obtain⟨p,xs,i,z,rfl,rfl,hq,he,q⟩:=h
 cases rx
 obtain⟨t,rfl⟩:=ry
 obtain⟨its,r,pl,hz⟩:=I.list hq
 obtain⟨j,h1,h2,h3,h4,h5⟩:=zig he
 obtain⟨w,ew,rw'⟩:=r.get h2
 have hl:=r.length
 have hn:=zdI
 have fin:EP X pins σ Q w s:=⟨z,H,I,rw',q⟩
 by_cases h0:0<=i
 ·have hj:i.toNat=j:=by
   rw[seqIndex_of h0 h5] at h1
   exact Option.some.inj h1
  exact item_listR pl.isList h0 (by (first|lia|omega)) (by rw[hj];simpa using ew) fin hs
 ·have hj:(i+(its.toArray.size:Int)).toNat=j:=by
   rw[seqIndex_neg (by (first|lia|omega)) h4] at h1
   rw[List.size_toArray,<-hl]
   exact Option.some.inj h1
  exact subscriptTail_builtinR (x:=w) pl.isList.typeIs slot_list_getitem.lookup
   (wpAny_getItem_list_neg (Q:=fun r s'=>r=w/\EP X pins σ Q r s') pl.isList (by (first|lia|omega)) (by rw[List.size_toArray]<;>(first|lia|omega)) (by (first|lia|omega)) (by rw[hj];simpa using ew) ⟨rfl,fin⟩) hs
theorem zih:IxR X (rIxT X.K):=by
 intro value slice pins s σ H x y v u Q I rx ry h hs
 obtain⟨p,xs,i,z,rfl,rfl,hq,he,q⟩:=h
 cases rx
 obtain⟨t,rfl⟩:=ry
 obtain⟨its,r,pl,hz⟩:=I.tuple hq
 obtain⟨j,h1,h2,h3,h4,h5⟩:=zig he
 obtain⟨w,ew,rw'⟩:=r.get h2
 have hl:=r.length
 have hn:=zdI
 have fin:EP X pins σ Q w s:=⟨z,H,I,rw',q⟩
 exact subscriptTail_builtinR (x:=w) pl.typeIs slot_tuple_getitem.lookup
  (getItem_tuple (j:=j) (Q:=fun r s'=>r=w/\EP X pins σ Q r s') pl (by (first|lia|omega)) (by (first|lia|omega)) (by rw[List.size_toArray,<-hl];exact h1) (by simpa using ew) ⟨rfl,fin⟩) hs
theorem zhy (its:List Value)(n j:Nat)(u:Value):Obj.mapSeq (·.setIfInBounds j u) {cls:=.type "list",data:=.seq its.toArray n}={cls:=.type "list",data:=.seq (its.set j u).toArray n}:=by
 simp[Obj.mapSeq]
theorem Inv.lst {pins:List (Addr×Obj)}{σ:St}{H:Hp}{s:Shared}{p:Addr}{xs:List V}(I:Inv X pins σ H s)(h:H p=some (.lst xs)):
  ∃(its:List Value) (n:Nat),Vals xs its/\s.heap.get? p=some {cls:=.type "list",data:=.seq its.toArray n}/\xs.length<=sizeLine:=by
 obtain⟨z,its,n,r,e⟩:=I.hok p _ h
 exact⟨its,n,r,e,z⟩
theorem Inv.lstUpd {pins:List (Addr×Obj)}{σ:St}{H:Hp}{s:Shared}{p:Addr}{xs ys:List V}{its its':List Value}{n n':Nat}{f:Obj->Obj}(I:Inv X pins σ H s)(h:H p=some (.lst xs))
  (ho:s.heap.get? p=some {cls:=.type "list",data:=.seq its.toArray n}) (hf:f {cls:=.type "list",data:=.seq its.toArray n}={cls:=.type "list",data:=.seq its'.toArray n'}) (r:Vals ys its') (hz:ys.length<=sizeLine) (t:Nat):
  Inv X pins σ (upd H p (.lst ys)) {s with heap:=s.heap.update p f,toks:=t}:=by
 have e:(s.heap.update p f).get? p=some {cls:=.type "list",data:=.seq its'.toArray n'}:=by
  rw[Heap.get?_update_self f ho (by rw[hf]<;>rfl),hf]
 refine I.write (x:=p) (e:=p) (by rw[h];trivial) (.inl rfl) (fun b u hb q=>(Heap.get?_update_other _ _ (Ne.symm hb)).trans q) ⟨_,e⟩ ?_
 exact⟨hz,its',n',r,e⟩
noncomputable def zno:V->V->V->Hp->(Hp->Prop)->Prop:=fun o i v H Q=>∃p xs k j,o=.ref p/\i=.int k/\H p=some (.lst xs)/\ixN xs.length k=some j/\Q (upd H p (.lst (xs.set j v)))
theorem za3:PSet X zno:=by
 intro pins s σ H o i v ov iv u Q I ro ri rv h
 obtain⟨p,xs,k,j,rfl,rfl,hp,hj,q⟩:=h
 cases ro
 obtain⟨t,rfl⟩:=ri
 obtain⟨its,n,r,ho,hz⟩:=I.lst hp
 obtain⟨h1,h2,h3,h4⟩:=zif hj
 have hl:=r.length
 have hn:=zdI
 have I':Inv X pins σ (upd H p (.lst (xs.set j v))) {s with heap:=s.heap.update p (Obj.mapSeq (·.setIfInBounds j u))}:=
  I.lstUpd hp ho (zhy its n j u) (r.set rv j) (by rw[List.length_set];exact hz) s.toks
 by_cases h0:0<=k
 ·have hk:k.toNat=j:=by
   rw[seqIndex_of h0 h4] at h1
   exact Option.some.inj h1
  exact PySem.W.ki_setAt ho h0 (by (first|lia|omega)) (by rw[List.size_toArray,<-hl];exact h4) (by rw[hk];exact⟨_,I',q⟩)
 ·have hk:(k+(its.toArray.size:Int)).toNat=j:=by
   rw[seqIndex_neg (by (first|lia|omega)) h3] at h1
   rw[List.size_toArray,<-hl]
   exact Option.some.inj h1
  exact PySem.W.ki_setBack ho (by (first|lia|omega)) (by rw[List.size_toArray,<-hl];exact h3) (by (first|lia|omega)) (by rw[hk];exact⟨_,I',q⟩)
theorem zeG (lo hi:Option Int)(n:Nat):(sliceBounds lo hi none n).1=((HT.sIx n 0 lo:Nat):Int)/\(sliceBounds lo hi none n).2.1=((HT.sIx n n hi:Nat):Int)/\(sliceBounds lo hi none n).2.2=1:=by
 refine⟨?_, ?_,rfl⟩
 ·cases lo with
  |none=>simp[sliceBounds,HT.sIx]
  |some i=>
   simp only[sliceBounds,HT.sIx,Option.getD_none,show (1:Int)>0 by decide,if_true]
   by_cases h:i<0
   ·simp only[h,if_true]<;>(first|lia|omega)
   ·simp only[h,if_false]<;>(first|lia|omega)
 ·cases hi with
  |none=>simp[sliceBounds,HT.sIx]
  |some i=>
   simp only[sliceBounds,HT.sIx,Option.getD_none,show (1:Int)>0 by decide,if_true]
   by_cases h:i<0
   ·simp only[h,if_true]<;>(first|lia|omega)
   ·simp only[h,if_false]<;>(first|lia|omega)
theorem zdY (its:List Value)(lo hi:Option Int):slicePick its.toArray lo hi none=((its.drop (HT.sIx its.length 0 lo)).take (HT.sIx its.length its.length hi-HT.sIx its.length 0 lo)).toArray:=by
 obtain⟨h1,h2,h3⟩:=zeG lo hi its.toArray.size
 unfold slicePick
 rw[h1,h2,h3]
 simp only[sliceRange_one,pick_run,List.size_toArray]<;>rfl
noncomputable def rSlL (K:PySem.W.Frag):V->Option Int->Option Int->Hp->VK->Prop:=fun x lo hi H Q=>∃a xs,x=.ref a/\SqL K H a xs/\∀p,H p=none->Q (.ref p) (upd H p (.lst (cutV xs lo hi)))
theorem zfC:SlR X (rSlL X.K):=by
 intro pins s σ H x v vl vu lo hi sl Q I rx hs pl pu h
 obtain⟨a,xs,rfl,hx,q⟩:=h
 cases rx
 obtain⟨its,r,ht,hz⟩:=I.list hx
 have hlen:=r.length
 refine⟨"list",_,slot_list_getitem.lookup,ht.isList.typeIs, ?_⟩
 refine wpAny_getItem_list_slice ht.isList hs pl pu .none (by simp) ?_ (by rw[List.size_toArray]<;>(first|lia|omega))
 rw[zdY,<-hlen]
 refine⟨.ref s.heap.objs.size,_,I.laid (t':=s.toks) (o:=.lst (cutV xs lo hi)) (fun b ob q=>Heap.get?_push_of_some _ q) (Nat.le_refl _) ?_,rfl,q _ (I.hok.fresh (Nat.le_refl _))⟩
 exact⟨Nat.le_trans (zdg xs lo hi) hz,_,0,(r.drop (HT.sIx xs.length 0 lo)).take (HT.sIx xs.length xs.length hi-HT.sIx xs.length 0 lo),Heap.get?_push_size _ rfl⟩
noncomputable def zdZ:V->Bool
 | .non=>true
 | .bl _=>true
 | .int _=>true
 | .str _=>true
 |_=>false
noncomputable def eqV:V->V->Bool
 | .non,.non=>true
 | .bl a,.bl b=>a==b
 | .bl a,.int b=>(if a then 1 else 0)==b
 | .int a,.bl b=>a==(if b then 1 else 0)
 | .int a,.int b=>a==b
 | .str a,.str b=>a==b
 |_,_=>false
theorem zmo {A:Around}{s:Shared}{y x:V}{u v:Value}(ry:RelV y u)(rx:RelV x v)(fy:zdZ y=true)(fx:zdZ x=true):SeqAt.EqAt A s u v (eqV y x):=by
 cases y with
 |non=>
  cases ry
  cases x with
  |non=>cases rx;exact SeqAt.EqAt.same _
  |bl b=>cases rx;exact SeqAt.EqAt.none_bool b
  |int b=>obtain⟨t,rfl⟩:=rx;exact SeqAt.EqAt.none_int b t
  |str b=>obtain⟨t,rfl⟩:=rx;exact SeqAt.EqAt.none_str b t
  |_=>exact absurd (show false=true from fx) Bool.false_ne_true
 |bl a=>
  cases ry
  cases x with
  |non=>cases rx;exact SeqAt.EqAt.bool_none a
  |bl b=>cases rx;exact SeqAt.EqAt.bool_bool a b
  |int b=>obtain⟨t,rfl⟩:=rx;exact SeqAt.EqAt.bool_int a b t
  |str b=>obtain⟨t,rfl⟩:=rx;exact SeqAt.EqAt.bool_str a b t
  |_=>exact absurd (show false=true from fx) Bool.false_ne_true
 |int a=>
  obtain⟨t',rfl⟩:=ry
  cases x with
  |non=>cases rx;exact SeqAt.EqAt.int_none a t'
  |bl b=>cases rx;exact SeqAt.EqAt.int_bool a t' b
  |int b=>obtain⟨t,rfl⟩:=rx;exact SeqAt.EqAt.int_int a t' b t
  |str b=>obtain⟨t,rfl⟩:=rx;exact SeqAt.EqAt.int_str a t' b t
  |_=>exact absurd (show false=true from fx) Bool.false_ne_true
 |str a=>
  obtain⟨t',rfl⟩:=ry
  cases x with
  |non=>cases rx;exact SeqAt.EqAt.str_none a t'
  |bl b=>cases rx;exact SeqAt.EqAt.str_bool a t' b
  |int b=>obtain⟨t,rfl⟩:=rx;exact SeqAt.EqAt.str_int a t' b t
  |str b=>obtain⟨t,rfl⟩:=rx;exact SeqAt.EqAt.str_str a t' b t
  |_=>exact absurd (show false=true from fx) Bool.false_ne_true
 |_=>exact absurd (show false=true from fy) Bool.false_ne_true
noncomputable def eqU (x:V)(u:Value):Bool:=match u with
 | .none=>eqV .non x
 | .bool b=>eqV (.bl b) x
 | .int i _=>eqV (.int i) x
 | .str z _=>eqV (.str z) x
 |_=>false
theorem zkF {x y:V}{u:Value}(r:RelV y u)(f:zdZ y=true):eqU x u=eqV y x:=by
 cases y with
 |non=>cases r;rfl
 |bl b=>cases r;rfl
 |int i=>obtain⟨t,rfl⟩:=r;rfl
 |str z=>obtain⟨t,rfl⟩:=r;rfl
 |_=>exact absurd (show false=true from f) Bool.false_ne_true
theorem zfD {x:V}:∀{xs:List V} {us:List Value},Vals xs us->xs.all zdZ=true->us.any (eqU x)=xs.any fun y=>eqV y x
 |_,_,.nil,_=>rfl
 |y::xs,u::us,.cons r t,f=>by
  rw[List.all_cons,Bool.and_eq_true] at f
  rw[List.any_cons,List.any_cons,zkF r f.1,zfD t f.2]
theorem zd0 {A:Around}{s:Shared}{x:V}{v:Value}(rx:RelV x v)(fx:zdZ x=true):∀{xs:List V} {us:List Value},Vals xs us->xs.all zdZ=true->∀u∈us,SeqAt.EqAt A s u v (eqU x u)
 |_,_,.nil,_=>fun u hu=>by cases hu
 |y::xs,u::us,.cons r t,f=>fun u' hu=>by
  rw[List.all_cons,Bool.and_eq_true] at f
  rcases List.mem_cons.mp hu with rfl|hu
  ·rw[zkF r f.1];exact zmo r rx f.1 fx
  ·exact zd0 rx fx t f.2 u' hu
noncomputable def inV (x:V)(xs:List V):Bool:=xs.any fun y=>eqV y x
noncomputable def rIn (K:PySem.W.Frag)(neg:Bool):R2:=fun x y H Q=>∃p xs,y=.ref p/\(SqL K H p xs∨SqT K H p xs)/\zdZ x=true/\xs.all zdZ=true/\Q (.bl (if neg then !inV x xs else inV x xs)) H
theorem zeH:OpR X (compareOp .NotIn) (rIn X.K true):=by
 intro pins s σ H x y v u Q I rx ry h
 obtain⟨p,xs,rfl,hq,fx,fs,q⟩:=h
 cases ry
 rcases hq with hq|hq
 ·obtain ⟨its,r,pl,hz⟩:=I.list hq
  refine SeqAt.notIn_listAt (eqU x) pl.isList (fun w hw=>zd0 rx fx r fs w (by simpa using hw)) ⟨.bl _,H,I,rfl, ?_⟩
  rw[show its.toArray.any (eqU x)=its.any (eqU x) by simp,zfD r fs]
  exact q
 ·obtain ⟨its,r,pl,hz⟩:=I.tuple hq
  refine SeqAt.notIn_tupleAt (eqU x) pl (fun w hw=>zd0 rx fx r fs w (by simpa using hw)) ⟨.bl _,H,I,rfl, ?_⟩
  rw[show its.toArray.any (eqU x)=its.any (eqU x) by simp,zfD r fs]
  exact q
theorem zat:zbu X (.builtin "len") (fun xs H Q=>∃p ys,xs=[.ref p]/\(SqL X.K H p ys∨SqT X.K H p ys)/\Q (.int ys.length) H):=by
 intro pins s σ H xs us Q I r h
 obtain⟨p,ys,rfl,hq,q⟩:=h
 obtain⟨u,rfl,rx⟩:=zbI r
 cases rx
 have hn:=zdI
 rcases hq with hq|hq
 ·obtain ⟨its,r',pl,hz⟩:=I.list hq
  have hlen:=r'.length
  exact Calls.call_len_list pl.isList (by simp only[List.size_toArray]<;>(first|lia|omega)) ⟨.int ys.length,H,I.tok _,⟨s.toks+1,by rw[List.size_toArray,hlen]⟩,q⟩
 ·obtain ⟨its,r',pl,hz⟩:=I.tuple hq
  have hlen:=r'.length
  exact len_tuple pl (by simp only[List.size_toArray]<;>(first|lia|omega)) ⟨.int ys.length,H,I.tok _,⟨s.toks+1,by rw[List.size_toArray,hlen]⟩,q⟩
theorem zeI:zbu X (.type "list") (fun xs H Q=>∃p ys,xs=[.ref p]/\(SqL X.K H p ys∨SqT X.K H p ys)/\∀l,H l=none->Q (.ref l) (upd H l (.lst ys))):=by
 intro pins s σ H xs us Q I r h
 obtain⟨p,ys,rfl,hq,q⟩:=h
 obtain⟨u,rfl,rx⟩:=zbI r
 cases rx
 have fin:∀(its:List Value),Vals ys its->ys.length<=sizeLine->∀(h':Heap) (c':Nat),(∀b o',s.heap.get? b=some o'->h'.get? b=some o')->
   h'.get? s.heap.objs.size=some {cls:=.type "list",dict:=none,data:=.seq its.toArray c',slots:=#[]}->EP X pins σ Q (.ref s.heap.objs.size) {s with heap:=h'}:=fun its r' hz h' c' kp e=>
  ⟨.ref s.heap.objs.size,_,I.laid (t':=s.toks) kp (Nat.le_refl _) (show ObjOk X.prog X.w _ h' _ (.lst ys) from ⟨hz,its,c',r',e⟩),rfl,q _ (I.hok.fresh (Nat.le_refl _))⟩
 rcases hq with hq|hq
 ·obtain ⟨its,r',pl,hz⟩:=I.list hq
  have hlen:=r'.length
  obtain⟨o,ho,hc,n,hd⟩:=pl.isList
  exact call_list_seq p (.inl rfl) ho hc hd (fun h' c' kp e=>fin its r' hz h' c' kp e) (by simp only[List.size_toArray]<;>(first|lia|omega))
 ·obtain ⟨its,r',pl,hz⟩:=I.tuple hq
  have hlen:=r'.length
  obtain⟨o,ho,hc,n,hd⟩:=pl
  exact call_list_seq p (.inr rfl) ho hc hd (fun h' c' kp e=>fin its r' hz h' c' kp e) (by simp only[List.size_toArray]<;>(first|lia|omega))
theorem zar:zbu X (.type "tuple") (fun xs H Q=>∃p ys,xs=[.ref p]/\((SqL X.K H p ys/\∀l,H l=none->Q (.ref l) (upd H l (.tup ys)))∨(SqT X.K H p ys/\Q (.ref p) H))):=by
 intro pins s σ H xs us Q I r h
 obtain⟨p,ys,rfl,h⟩:=h
 obtain⟨u,rfl,rx⟩:=zbI r
 cases rx
 rcases h with⟨hq,q⟩|⟨hq,q⟩
 ·obtain ⟨its,r',pl,hz⟩:=I.list hq
  have hlen:=r'.length
  refine call_tuple_list pl.isList (fun h' kp=> ?_) (by simp only[List.size_toArray]<;>(first|lia|omega))
  have I1:Inv X pins σ H {s with heap:=h'}:=I.kept (t':=s.toks) kp
  have I2:Inv X pins σ (upd H h'.objs.size (.tup ys)) {s with heap:=h'.push {cls:=.type "tuple",data:=.seq its.toArray}}:=
   I1.laid (t':=s.toks) (fun b o e=>Heap.get?_push_of_some _ e) (Nat.le_refl _) (show ObjOk X.prog X.w _ _ _ (.tup ys) from ⟨hz,its,r',PTup.new⟩)
  exact⟨.ref h'.objs.size,_,I2,rfl,q _ (I1.hok.fresh (Nat.le_refl _))⟩
 ·obtain ⟨its,r',pl,hz⟩:=I.tuple hq
  exact call_tuple_same pl ⟨.ref p,H,I,rfl,q⟩
noncomputable def tyV (K:PySem.W.Frag)(T:String)(x:V)(H:Hp):Prop:=match x with
 | .str _=>T= "str"
 | .int _=>T= "int"
 | .ref p=>(T= "list" /\∃xs,SqL K H p xs)∨(T= "tuple" /\∃o,K.lookup p=some o/\o.cls=.type "tuple" /\o.dict=none)∨
   (T= "dict" /\((∃kvs,H p=some (.dK kvs))∨∃kvs,H p=some (.dT kvs)))∨(T= "set" /\∃S n,H p=some (.set S n))
 |_=>False
theorem zmp {pins:List (Addr×Obj)}{σ:St}{H:Hp}{s:Shared}{T:String}{x:V}{v:Value}(I:Inv X pins σ H s)(r:RelV x v)(ty:tyV X.K T x H):
  s.TypeIs v T/\∀a,v=.ref a->∃ob,s.heap.get? a=some ob/\ob.dict=none:=by
 cases x with
 |str z=>
  obtain⟨t,rfl⟩:=r
  cases (show T= "str" from ty)
  exact⟨typeIs_str s z t,fun _ e=>nomatch e⟩
 |int i=>
  obtain⟨t,rfl⟩:=r
  cases (show T= "int" from ty)
  exact⟨typeIs_int s i t,fun _ e=>nomatch e⟩
 | ref p=>
  cases r
  rcases ty with⟨rfl,xs,hq⟩|⟨rfl,o,hk,hc,hd⟩|⟨rfl,hk⟩|⟨rfl,S,n,hk⟩
  ·obtain ⟨its,_,pl,_⟩:=I.list hq
   refine⟨pl.isList.typeIs,fun a e=> ?_⟩
   cases e
   obtain⟨o,n,e,c,hd,_⟩:=pl
   exact⟨o,e,hd⟩
  ·refine ⟨⟨o,I.kIn p o hk,hc⟩,fun a e=> ?_⟩
   cases e
   exact⟨o,I.kIn _ o hk,hd⟩
  ·have z:∃o,s.heap.get? p=some o/\o.ExactDict:=by
    rcases hk with⟨kvs,hk⟩|⟨kvs,hk⟩
    ·obtain ⟨_,_,_,_,o,_,_,e,ex,_⟩:=I.hok p _ hk
     exact⟨o,e,ex⟩
    ·obtain ⟨_,_,_,_,o,_,_,e,ex,_⟩:=I.hok p _ hk
     exact⟨o,e,ex⟩
   obtain⟨o,e,ex⟩:=z
   refine⟨⟨o,e,ex.1⟩,fun a e2=> ?_⟩
   cases e2
   exact⟨o,e,ex.2.1⟩
  ·obtain ⟨o,_,_,_,e,ex,_⟩:=I.hok p _ hk
   refine⟨⟨o,e,ex.1⟩,fun a e2=> ?_⟩
   cases e2
   exact⟨o,e,ex.2.1⟩
 |_=>exact False.elim ty
noncomputable def tBM (K:PySem.W.Frag)(T:String)(r:V->List V->Hp->VK->Prop)(to:TE)(t:TA):TE:=fun σ H Q=>to σ H fun x H1=>tyV K T x H1/\t σ H1 fun xs H2=>r x xs H2 Q
variable {o e:Expr}{es:List Expr}{to:TE}{t:TA}{name:Str}{apos cpos:Pos}{T id:String}{r:V->List V->Hp->VK->Prop}
theorem zdh (pa:PlainAttrs T)(slot:Slot T name id)(hty:typeOf (.builtin id)=pure (.type "method_descriptor"))(hm:MtR X id r)(ho:PE X o to)(ha:PA X (e::es) t)
  (hbase:attributeBase o name X.env (eval o X.env)=eval o X.env:=by rfl)
  (hfew:((backTo cpos (starEach (e::es) X.env)).all (fun x=> !x.1)&&(backToKw cpos (keywordEach [] X.env)).all (fun x=>x.1.isSome)
   &&decide ((e::es).length+([]:List Keyword).length+(if ([]:List Keyword).isEmpty then 0 else 1)<30))=true:=by rfl)
  (hline:(apos.endLine==cpos.line)=true:=by rfl) (hs:starEach (e::es) X.env=(false,eval e X.env)::starEach es X.env:=by rfl) (hplain:(backTo cpos (starEach es X.env)).any (·.1)=false:=by rfl):
  PE X (.Call (.Attribute o name apos) (e::es) [] cpos) (tBM X.K T r to t):=by
 intro pins s σ H Q I h
 refine wpAny_Call_method_late hbase hfew hline rfl (thn (ho pins s σ H _ I h) fun v s1 zq=> ?_)
 obtain⟨x,H1,I1,r1,ty,q1⟩:=zq
 obtain⟨h1,h2⟩:=zmp I1 r1 ty
 refine⟨T,id,pa,slot,hty,h1,h2, ?_⟩
 have hA:=ha cpos pins s1 σ H1 _ I1 q1
 rw[hs] at hA ⊢
 refine Calls.callWith_builtin (by show (false||(backTo cpos (starEach es X.env)).any (·.1))=false;rw[hplain]<;>rfl) (Calls.evalArgs_plain ?_)
 exact thn hA fun us s2 ⟨vs,H2,I2,r2,q2⟩=>hm pins s2 σ H2 x vs v us Q I2 r1 r2 q2
end
noncomputable def MtM (X:Cx)(id:String)(r:V->List V->Hp->VK->Prop):Prop:=
 ∀(pins:List (Addr×Obj)) (s:Shared) (σ:St) (H:Hp) (x:V) (xs:List V) (v:Value) (us:List Value) (Q:VK),Inv X pins σ H s->RelV x v->Vals xs us->r x xs H Q->
  wpAny (model X.prog X.w) X.A (call (.builtin id) (v::us)) (EP X pins σ Q) X.xe s
theorem Vals.one:∀{x:V} {us:List Value},Vals [x] us->∃u,us=[u]/\RelV x u
 |_,_,.cons r .nil=>⟨_,rfl,r⟩
theorem Vals.two:∀{x y:V} {us:List Value},Vals [x,y] us->∃u v,us=[u,v]/\RelV x u/\RelV y v
 |_,_,_,.cons r (.cons q .nil)=>⟨_,_,rfl,r,q⟩
theorem Vals.eraseIdx:∀{xs:List V} {us:List Value} (i:Nat),Vals xs us->Vals (xs.eraseIdx i) (us.eraseIdx i)
 |_,_,_,.nil=>.nil
 |_,_,0,.cons _ t=>t
 |_,_,i+1,.cons r t=>.cons r (Vals.eraseIdx i t)
theorem Vals.reverse {xs:List V}{us:List Value}(h:Vals xs us):Vals xs.reverse us.reverse:=by
 induction h with
 |nil=>exact .nil
 |cons r t ih=>rw[List.reverse_cons,List.reverse_cons];exact Vals.append ih (.cons r .nil)
theorem Vals.rep {xs:List V}{us:List Value}(h:Vals xs us):∀k:Nat,Vals (List.replicate k xs).flatten (List.replicate k us).flatten
 |0=>.nil
 |k+1=>by
  rw[List.replicate_succ,List.replicate_succ,List.flatten_cons,List.flatten_cons]
  exact Vals.append h (Vals.rep h k)
theorem zeJ {α:Type}:∀(l:List α) (i:Nat),(l.eraseIdx i).length<=l.length
 |[],_=>Nat.le_refl _
 |_::_,0=>Nat.le_succ _
 |_::r,i+1=>Nat.succ_le_succ (zeJ r i)
theorem zeK (its:List Value):∀(k:Nat) (acc:List Value),
  List.foldl (fun x1 x2=>x1++x2) acc.toArray (List.replicate k its.toArray)=(acc++(List.replicate k its).flatten).toArray
 |0,acc=>by simp
 | k+1,acc=>by
  have e:acc.toArray++its.toArray=(acc++its).toArray:=by simp
  have e2:(acc++its)++(List.replicate k its).flatten=acc++(List.replicate (k+1) its).flatten:=by
   rw[List.replicate_succ,List.flatten_cons,List.append_assoc]
  rw[<-e2,<-zeK its k (acc++its),<-e,List.replicate_succ,List.foldl_cons]
section
variable {X:Cx}{pins:List (Addr×Obj)}{σ:St}{H:Hp}{s:Shared}{l b:Addr}{xs ys zs:List V}
theorem Inv.lset {its its':List Value}{n:Nat}{f:Array Value->Array Value}{t':Nat}(I:Inv X pins σ H s)(hH:H l=some (.lst xs))
  (e:s.heap.get? l=some {cls:=.type "list",data:=.seq its.toArray n}) (hf:f its.toArray=its'.toArray) (hv:Vals ys its') (hz:ys.length<=sizeLine):
  Inv X pins σ (upd H l (.lst ys)) {s with heap:=s.heap.update l (Obj.mapSeq f),toks:=t'}:=by
 have q:=PySem.IsL.update e f
 rw[hf] at q
 refine I.write (x:=l) (e:=l) (by rw[hH];exact trivial) (.inl rfl) (fun b' u hb hu=>(Heap.get?_update_other s.heap (Obj.mapSeq f) (Ne.symm hb)).trans hu) ⟨_,q⟩ ?_
 exact⟨hz,its',_,hv,q⟩
theorem Inv.lnew {its:List Value}{t':Nat}(I:Inv X pins σ H s)(hv:Vals ys its)(hz:ys.length<=sizeLine):
  Inv X pins σ (upd H s.heap.objs.size (.lst ys)) {s with heap:=s.heap.push {cls:=.type "list",data:=.seq its.toArray},toks:=t'}:=
 I.laid (fun _ _ q=>Heap.get?_push_of_some _ q) (Nat.le_refl _) ⟨hz,its,0,hv,Heap.get?_push_size _ rfl⟩
theorem Inv.fresh (I:Inv X pins σ H s):H s.heap.objs.size=none:=I.hok.fresh (Nat.le_refl _)
theorem Inv.lstM (I:Inv X pins σ H s)(hH:H l=some (.lst xs)):xs.length<=sizeLine/\∃(its:List Value) (n:Nat),Vals xs its/\xs.length=its.length/\s.heap.get? l=some {cls:=.type "list",data:=.seq its.toArray n}:=by
 obtain⟨z,its,n,r,e⟩:=I.hok l _ hH
 exact⟨z,its,n,r,r.length,e⟩
theorem zjL {n:Nat}(h:n<=sizeLine):Builtin.List.listTooLong n=false:=by
 unfold Builtin.List.listTooLong
 exact decide_eq_false (by (first|lia|omega))
end
section
variable {X:Cx}
noncomputable def zlg:V->List V->Hp->VK->Prop:=fun x vs H Q=>∃l xs y,x=.ref l/\vs=[y]/\H l=some (.lst xs)/\xs.length<sizeLine/\Q .non (upd H l (.lst (xs++[y])))
theorem zaJ:MtM X "list.append" zlg:=by
 intro pins s σ H x vs v us Q I rx rv h
 obtain⟨l,xs,y,rfl,rfl,hH,hz,q⟩:=h
 cases rx
 obtain⟨u,rfl,ru⟩:=rv.one
 obtain⟨z,its,n,r,hl,e⟩:=I.lstM hH
 refine call_meets F.slot_list_append ⟨_,e,rfl⟩ F.entry_list_append (F.args_list_append_2 _ _) (PySem.list_append l its.toArray n u (by rw[List.size_toArray];(first|lia|omega))) ⟨e, ?_⟩
 refine⟨.non,_,I.lset (its':=its++[u]) hH e (by simp) (r.append (.cons ru .nil)) ?_,rfl,q⟩
 rw[List.length_append,List.length_singleton]
 (first|lia|omega)
noncomputable def zmq:V->List V->Hp->VK->Prop:=fun x vs H Q=>∃l xs i k y,x=.ref l/\vs=[.int i]/\H l=some (.lst xs)/\-(2^63)<=i/\i<2^63/\seqIndex? i xs.length=some k/\xs[k]? =some y/\Q y (upd H l (.lst (xs.eraseIdx k)))
theorem zjM:MtM X "list.pop" zmq:=by
 intro pins s σ H x vs v us Q I rx rv h
 obtain⟨l,xs,i,k,y,rfl,rfl,hH,h1,h2,hk,hy,q⟩:=h
 cases rx
 obtain⟨u,rfl,ru⟩:=rv.one
 obtain⟨t,rfl⟩:=ru
 obtain⟨z,its,n,r,hl,e⟩:=I.lstM hH
 obtain⟨w,hw,rw'⟩:=r.get hy
 refine call_meets F.slot_list_pop ⟨_,e,rfl⟩ F.entry_list_pop (F.args_list_pop_2 _ _)
  (MeetsSeq.list_pop_at l its.toArray n i t k w (fitsIndex_both h1 h2) (by rw[List.size_toArray,<-hl];exact hk) (by rw[<-Array.getElem?_toList];exact hw) (by rw[List.size_toArray];(first|lia|omega))) ⟨e, ?_⟩
 refine⟨y,_,I.lset (its':=its.eraseIdx k) hH e ?_ (r.eraseIdx k) ?_,rw',q⟩
 ·show its.toArray.eraseIdxIfInBounds k=(its.eraseIdx k).toArray
  rw[List.eraseIdxIfInBounds_toArray]
 ·have:=zeJ xs k
  (first|lia|omega)
noncomputable def rCat:R2:=fun x y H Q=>∃l b xs zs,x=.ref l/\y=.ref b/\H l=some (.lst xs)/\H b=some (.lst zs)/\xs.length+zs.length<=sizeLine/\∀p,H p=none->Q (.ref p) (upd H p (.lst (xs++zs)))
theorem zmr:OpR X (binaryOp .Add) rCat:=by
 intro pins s σ H x y v u Q I rx ry h
 obtain⟨l,b,xs,zs,rfl,rfl,hH,hB,hz,q⟩:=h
 cases rx
 cases ry
 obtain⟨z,its,n,r,hl,e⟩:=I.lstM hH
 obtain⟨z2,its2,n2,r2,hl2,e2⟩:=I.lstM hB
 refine PySem.P.add_list e e2 ?_ (by rw[List.size_toArray,List.size_toArray];(first|lia|omega))
 have ea:its.toArray++its2.toArray=(its++its2).toArray:=by simp
 rw[ea]
 exact⟨.ref _,_,I.lnew (t':=s.toks) (r.append r2) (by rw[List.length_append];(first|lia|omega)),rfl,q _ I.fresh⟩
noncomputable def rRep:R2:=fun x y H Q=>∃l k xs,x=.ref l/\y=.int k/\H l=some (.lst xs)/\-(2^63)<=k/\k<2^63/\xs.length*k.toNat<=sizeLine/\
 ∀p,H p=none->Q (.ref p) (upd H p (.lst (List.replicate k.toNat xs).flatten))
theorem zlh {α:Type}(xs:List α)(k:Nat):(List.replicate k xs).flatten.length=k*xs.length:=by
 induction k with
 |zero=>simp
 |succ k ih=>rw[List.replicate_succ,List.flatten_cons,List.length_append,ih,Nat.succ_mul,Nat.add_comm]
theorem zii:OpR X (binaryOp .Mult) rRep:=by
 intro pins s σ H x y v u Q I rx ry h
 obtain⟨l,k,xs,rfl,rfl,hH,h1,h2,hz,q⟩:=h
 cases rx
 obtain⟨t,rfl⟩:=ry
 obtain⟨z,its,n,r,hl,e⟩:=I.lstM hH
 have hlen:its.toArray.size*k.toNat<=sizeLine:=by rw[List.size_toArray,<-hl];exact hz
 have hcap:¬its.toArray.size*k.toNat>(2^63-1)/8:=by
  have:(sizeLine:Nat)<=(2^63-1)/8:=by decide
  (first|lia|omega)
 have hfit:¬(!Builtin.List.listFitsIndex k)=true:=by
  rw[fitsIndex_both h1 h2]
  exact Bool.false_ne_true
 have hlong:¬Builtin.List.listTooLong (its.toArray.size*k.toNat)=true:=by
  rw[zjL hlen]
  exact Bool.false_ne_true
 have hnew:List.foldl (fun x1 x2=>x1++x2) #[] (List.replicate (if its.toArray.isEmpty=true then 0 else k.toNat) its.toArray)=(List.replicate k.toNat its).flatten.toArray:=by
  have f0:∀m:Nat,List.foldl (fun x1 x2=>x1++x2) #[] (List.replicate m its.toArray)=(List.replicate m its).flatten.toArray:=fun m=>by
   have:=zeK its m []
   rw[List.nil_append] at this
   exact this
  rw[f0]
  cases its with
  |nil=>simp
  |cons a r'=>rw[if_neg (by simp)]
 refine wpAny_binaryOp_repeat_ref (T:= "list") (U:= "int") (by decide) ⟨_,e,rfl⟩ (fun s'=>typeIs_int s' k t) noFill_list_mul F.fills_int_mul F.slot_int_rmul repeat_list F.slot_int_index.lookup
  (call_meets F.slot_int_rmul (typeIs_int s k t) F.entry_int_rmul (F.args_int_rmul_2 _ _) (int___rmul___int_list k t l its.toArray n)
   ⟨e,rfl,⟨_,e,rfl⟩,call_meets F.slot_list_mul ⟨_,e,rfl⟩ F.entry_list_mul (F.args_list_mul_2 _ _) (AutoListH.list___mul___list_int_3 l its.toArray n k t hfit hcap hlong) ⟨e, ?_⟩⟩)
 rw[hnew]
 exact⟨.ref _,_,I.lnew (t':=s.toks) (r.rep k.toNat) (by rw[zlh,Nat.mul_comm];exact hz),rfl,q _ I.fresh⟩
end
section
variable {prog:Program}{w:World}{A:Around}{E:Value->Shared->Prop}{s:Shared}
end
section
variable {X:Cx}
end
end L2
namespace Att
open PySem PySem.W PySem.Calls PyProof.Rows
theorem zdi {P:Params}{h:Heap}:∀(ns:List Int) (vs:List Value),WellAll P h vs (ns.map WData.int)->IntsAre vs ns:=by
 intro ns
 induction ns with
 |nil=>
  intro vs w
  rw[List.map_nil] at w
  cases w
  exact .nil
 | cons n ns ih=>
  intro vs w
  rw[List.map_cons] at w
  cases w with
  |cons a b=>
   cases a
   exact .cons _ _ (ih _ b)
theorem zij {l:OpenLaw}{n:Nat}(hn:l.most=some n){P:Params}{h:Heap}{args:List WData}{vals:List Value}
  (hpre:l.row.toRowW.claim.pre args=true) (hwl:WellAll P h vals args):
  ∃a vs ns,vals=[Value.ref a]/\args=[WData.list (ns.map WData.int)]/\h.get? a=some {cls:=.type "list",data:=.seq vs.toArray}/\IntsAre vs ns/\ns.length<=n:=by
 have hsh:WShape.hasAll [] args [.list .int]=true:=(pre_splitW hpre).1
 have hc:l.pre.holds [] {args:=args}=true:=(pre_splitW hpre).2
 obtain⟨d,r,rfl,h1,h2⟩:=hasAllW_cons hsh
 obtain rfl:=hasAllW_nil h2
 obtain⟨xs,rfl,h3⟩:=hasW_list h1
 obtain⟨ns,rfl⟩:=items_int h3
 have hlen:ns.length<=n:=by
  unfold OpenLaw.pre at hc
  have h4:(WTm.not (.lt (.lit (.int (n:Int))) (.len (.arg 0)))).holds [] {args:=[.list (ns.map .int)]}=true:=by
   have h4:=(holds_andW hc).1
   rw[hn] at h4
   exact h4
  have h5:=condW_of h4 (w_not (w_lt w_lit (w_len_list (w_arg rfl))))
  rw[List.length_map] at h5
  refine Nat.le_of_not_lt fun q=> ?_
  have q':(n:Int)<((ns.length:Nat):Int):=by (first|lia|omega)
  first
   |(rw[decide_eq_true q'] at h5;exact absurd h5 (by decide))
   |(simp at h5;(first|lia|omega))
 cases hwl with
 |cons w1 w2=>
  cases w2
  cases w1 with
  |list ho hall=>exact⟨_,_,ns,rfl,rfl,ho,zdi ns _ hall,hlen⟩
theorem zik (l:OpenLaw)(args:List WData):l.row.toRowW.claim.post args (.bool true) args=true:=
 postW_of (r:=l.row.toRowW) (X:=(true==true))
  (show WShape.has [] (.bool true) .bool=true by first|rfl|decide|simp[WShape.has,WShape.arms,WShape.armsAll])
  (show (WTm.eq .res (.lit (.bool true))).value [] {args:=args,res:=some (.bool true),after:=args}=some (.bool (true==true)) from w_eq_bool (w_res rfl) w_lit) rfl
theorem attach_call {l:OpenLaw}{n:Nat}{q:Program}{loose:List Str}{XP:(Str->Option Value)->Heap->Prop}{YP:World->Heap->Prop}{d:DefRec}
  (hn:l.most=some n) (hdf:d.params.defaults=[])
  (call:∀(w:World) (s₀ s₁:Shared) (mg mb:Str->Option Value) (fa:Addr) (o:Obj) (pm cd doc:Value) (a:Addr) (vs:List Value) (ns:List Int),
   Ground q loose [] XP w s₀ mg mb s₁.heap->YP w s₁.heap->
   s₁.heap.get? fa=some o->o.data=.func (docDef d.name d.params d.body d.scope pm cd doc)->s₁.heap.CodeRec cd d.name->mg d.name=some (.ref fa)->
   s₁.heap.get? a=some {cls:=.type "list",data:=.seq vs.toArray}->IntsAre vs ns->ns.length<=n->s₁.gens=#[]->
   codeAny (model l.prog w) callerA (.call (.ref fa) ⟨[.ref a],[]⟩) (fun r s'=>r=.ok (.ret (.bool true))/\OldK s₁.heap s'.heap/\s'.os=s₁.os/\AllBare s'.gens) s₁):
  WalkO q loose XP YP l.row.toRowW d [] (fun f vs=>PySem.call f vs):=by
 intro w s₀ s₁ mg mb G Y fa o pm cd doc dV kV ho hd hcd hD hmg hg args vals as hpre hlay hrd hwl hlo
 obtain rfl:dV=.none:=Dflts.none hD hdf
 obtain rfl:kV=.none:=Dflts.noKw hD
 obtain⟨a,vs,ns,rfl,rfl,hobj,hints,hlen⟩:=zij hn hpre hwl
 refine enter_call (codeAny_mono (call w s₀ s₁ mg mb fa o pm cd doc a vs ns G Y ho (fd_plain hd) hcd hmg hobj hints hlen hg) fun r s' hq=> ?_)
 obtain⟨rfl,h2,h3,h4⟩:=hq
 exact⟨.inl ⟨.bool true,.bool true,[],rfl,fun _=>rfl,.bool true,zik l _,fun _=>⟨List.Pairwise.nil,fun _ hm=>(nomatch hm)⟩⟩,h2,h3,h4⟩
section
variable {prog:Program}{w:World}{A:Around}{E:Value->Shared->Prop}{s:Shared}{K:Frag}
end
end Att
namespace L2
open PySem PySem.Spec PyProof.Rows
theorem zdj:∀{vs:List Value} {ns:List Int},IntsAre vs ns->Vals (ns.map V.int) vs
 |_,_,.nil=>.nil
 |_,_,.cons n t h=>.cons ⟨t,rfl⟩ (zdj h)
noncomputable def Only (H:Hp):Prop:=∀b,H b=none∨∃o xs,H b=some (.frz o (.lst xs))
theorem zjN {P:Program}{w:World}{K:PySem.W.Frag}{mg mb:Str->Option Value}{CX:CXT}{k:Nat}{fa a:Addr}{fd:FuncData}{x:Str}{sp:Sp}{s₁:Shared}{vs:List Value}{ns:List Int}
  (KX:K.In s₁.heap) (hns:s₁.heap.Ns mainGlobals mg) (hb:s₁.heap.Ns builtinsNs mb) (hbb:∀x:Str,x≠ "__name__" ->mb x=bootBuiltins x) (hlim:s₁.heap.NoLimit) (hg:s₁.gens=#[])
  (ha:s₁.heap.get? a=some {cls:=.type "list",data:=.seq vs.toArray}) (hi:IntsAre vs ns) (hl:ns.length<=sizeLine) (hr:Room k callerA)
  (F:∀base:Heap,K.In base->base.Ns mainGlobals mg->FnOk P w K mg base CX k fa fd [x] sp) (hbind:∀(s:Shared) (u:Value),BindsTo s fd ⟨[u],[]⟩ [(x,u)])
  (hsp:∀H:Hp,Only H->SqL K H a (ns.map V.int)->sp [.ref a] H (fun v _=>v=.bl true) fun _ _ _=>False)
  (hCX:∀H e s',CX [] H s₁ (fun _ _ _=>False) e s'->False):
  codeAny (model P w) callerA (.call (.ref fa) ⟨[.ref a],[]⟩) (fun r s'=>r=.ok (.ret (.bool true))/\OldK s₁.heap s'.heap/\s'.os=s₁.os/\AllBare s'.gens) s₁:=by
 have rv:=zdj hi
 have lenV:=hi.length
 have core:∀H:Hp,Only H->SqL K H a (ns.map V.int)->HOk P w H s₁.heap->(∀b,H b≠none->b=a)->(H a≠none->K.lookup a=none)->
   codeAny (model P w) callerA (.call (.ref fa) ⟨[.ref a],[]⟩) (fun r s'=>r=.ok (.ret (.bool true))/\OldK s₁.heap s'.heap/\s'.os=s₁.os/\AllBare s'.gens) s₁:=by
  intro H hO hS hok hA hK
  have base_of:∀{b:Addr} {o:Obj},s₁.heap.get? b=some o->H b=none->(hidT s₁.heap H).get? b=some o:=fun e n=>zjI e n
  have noA:∀{b:Addr} {o:Obj} {es:Array DictEntry} {ep:Nat},s₁.heap.get? b=some o->o.data=.dict es ep->H b=none:=fun {b o es ep} e d=>by
   cases q:H b with
   |none=>rfl
   |some u=>
    have e':b=a:=hA b (by rw[q];simp)
    subst e'
    rw[ha] at e;cases e
    have d':Data.seq vs.toArray _=Data.dict es ep:=d
    cases d'
  have nsK:∀{b:Addr} {m:Str->Option Value},s₁.heap.Ns b m->(hidT s₁.heap H).Ns b m:=fun {b m} ⟨o,es,ep,e,d,r⟩=>⟨o,es,ep,base_of e (noA e d),d,r⟩
  have hKb:K.In (hidT s₁.heap H):=fun b o e=>base_of (KX b o e) (by
   cases q:H b with
   |none=>rfl
   |some u=>
    have e':b=a:=hA b (by rw[q];simp)
    subst e'
    rw[hK (by rw[q];simp)] at e;cases e)
  have hM:Mod K mg (hidT s₁.heap H):=⟨hKb,nsK hns,⟨mb,nsK hb,hbb⟩,let ⟨mc,h1,h2⟩:=hlim;⟨mc,nsK h1,h2⟩⟩
  have e0:Env0 P w K mg (hidT s₁.heap H) callerA [] s₁ H:=⟨rfl,hM,fun b o e=>zk6 e,Nat.le_of_eq (zh0 _ _),trivial,fun b hb=>absurd (show b∈([]:List Addr) from hb) (by simp),hok,.of_eq hg⟩
  refine codeAny_mono ((F _ hKb (nsK hns)).run callerA [] s₁ H ⟨[.ref a],[]⟩ [.ref a] [.ref a] _ _ hr e0 (hbind s₁ (.ref a)) (.cons rfl .nil) (hsp H hO hS)) fun r s' h=> ?_
  cases r with
  |error e=>exact (hCX H e s' h).elim
  | ok fl=>
   cases fl with
   |next=>exact False.elim h
   |brk=>exact False.elim h
   |cont=>exact False.elim h
   | ret u=>
    obtain⟨v,H',os,bare,un,hok',r',q⟩:=h
    have q':v=.bl true:=q
    subst q'
    obtain rfl:u=Value.bool true:=r'
    refine⟨rfl,OldK.of_keep fun b o e=> ?_,os,bare⟩
    cases q:H b with
    |none=>exact un.keep b o e q (by intro z;exact absurd (show b∈([]:List Addr) from z) (by simp)) (by simp)
    | some u=>
     rcases hO b with z|⟨ob,xs,z⟩
     ·rw[q] at z;cases z
     ·have z2:=un.frzs b ob _ z
      obtain⟨e1,_⟩:=hok b _ z
      obtain⟨e2,_⟩:=hok' b _ z2
      rw[e] at e1;cases e1
      exact e2
 cases hk:K.lookup a with
 |some o=>
  have e:=KX a o hk
  rw[ha] at e
  cases e
  refine core (fun _=>none) (fun _=>.inl rfl) (.inr ⟨_,vs.toArray,_,hk,rfl,rfl,rfl,by rw[List.size_toArray,lenV];exact hl,by simpa using rv⟩) (fun b u z=>by have z':(none:Option HO)=some u:=z;cases z') (fun b z=>absurd rfl z) fun z=>absurd rfl z
 | none=>
  refine core (fun b=>if b=a then some (.frz {cls:=.type "list",data:=.seq vs.toArray} (.lst (ns.map V.int))) else none) (fun b=> ?_) (.inl (.inr ⟨{cls:=.type "list",data:=.seq vs.toArray},if_pos rfl⟩)) (fun b u z=> ?_) (fun b z=> ?_) fun _=>hk
  ·by_cases hb:b=a
   ·exact .inr ⟨_,_,if_pos hb⟩
   ·exact .inl (if_neg hb)
  ·by_cases hb:b=a
   ·have z':=(if_pos hb).symm.trans z
    cases z'
    subst hb
    exact⟨ha,by rw[List.length_map];exact hl,vs,_,rv,ha⟩
   ·have z':=(if_neg hb).symm.trans z
    cases z'
  ·by_cases hb:b=a
   ·exact hb
   ·exact absurd (if_neg hb) z
theorem zli {l:PySem.W.OpenLaw}{n k:Nat}{q:Program}{loose:List Str}{XP:(Str->Option Value)->Heap->Prop}{YP:World->Heap->Prop}{d:DefRec}{K:Params->PySem.W.Frag}{CX:World->CXT}{sp:World->Sp}{x:Str}
  (hn:l.most=some n) (hn2:n<=sizeLine) (hdf:d.params.defaults=[]) (hr:Room k callerA)
  (hY:∀(w:World) (h:Heap),YP w h->(K w.params).In h)
  (F:∀(w:World) (mg:Str->Option Value) (fa:Addr) (h:Heap),(K w.params).In h->h.Ns mainGlobals mg->mg d.name=some (.ref fa)->
   ∃fd:FuncData,(∀(s:Shared) (u:Value),BindsTo s fd ⟨[u],[]⟩ [(x,u)])/\
    ∀base:Heap,(K w.params).In base->base.Ns mainGlobals mg->FnOk l.prog w (K w.params) mg base (CX w) k fa fd [x] (sp w))
  (hsp:∀(w:World) (H:Hp) (a:Addr) (ns:List Int),ns.length<=n->Only H->SqL (K w.params) H a (ns.map V.int)->sp w [.ref a] H (fun v _=>v=.bl true) fun _ _ _=>False)
  (hCX:∀(w:World) (H:Hp) (s:Shared) (e:Value) (s':Shared),CX w [] H s (fun _ _ _=>False) e s'->False):
  PySem.W.WalkO q loose XP YP l.row.toRowW d [] (fun f vs=>PySem.call f vs):=by
 refine Att.attach_call hn hdf fun w s₀ s₁ mg mb fa o pm cd doc a vs ns G Y ho hd hcd hmg hobj hints hlen hg=> ?_
 have KX:=hY w _ Y
 obtain⟨fd,hb,hF⟩:=F w mg fa _ KX G.T.g hmg
 exact zjN KX G.T.g G.T.b G.T.builtins G.T.nolimit hg hobj hints (Nat.le_trans hlen hn2) hr hF hb (fun H hO hS=>hsp w H a ns hlen hO hS) fun H e s'=>hCX w H s₁ e s'
noncomputable def zbv (s:Stmt):Arguments:=match s with
 | .FunctionDef _ a _ _ _ _ _ _ _ _=>a
 |_=>{posonlyargs:=[],args:=[],vararg:=none,kwonlyargs:=[],kw_defaults:=[],kwarg:=none,defaults:=[]}
noncomputable def za8 (s:Stmt):List Stmt:=match s with
 | .FunctionDef _ _ b _ _ _ _ _ _ _=>b
 |_=>[]
noncomputable def zaf (s:Stmt):Scope:=match s with
 | .FunctionDef _ _ _ _ _ _ sc _ _ _=>sc
 |_=>{kind:=.function,names:=[],isGenerator:=false,isCoroutine:=false}
noncomputable abbrev CX0:CXT:=fun _ _ _ _ _ _=>False
noncomputable abbrev E0:XK:=fun _ _ _=>False
theorem zms {X:Cx}:zic CX0 X E0:=fun _ _ _ _ _ _ _ h=>h.elim
structure Fun (K:PySem.W.Frag) (x qual:Str) (st:Stmt) (f:Addr) (fd:FuncData):Prop where
 ex:∃(oc:Value) (od:Option Addr) (kV doc pm:Value) (an:Option Addr) (cdv ct:Value) (osl:Array (Option Value)),
  fd=PySem.W.fnOf x qual (zbv st) (za8 st) (zaf st) .none kV doc pm an cdv ct/\K.lookup f=some ⟨oc,od,.func fd,osl⟩/\PySem.W.codeIn K cdv qual=true
 kp:PySem.W.keepIn K (.ref f)=true
section
variable {P:Program}{w:World}{K:PySem.W.Frag}{mg:Str->Option Value}{base:Heap}
theorem Fun.ok {x qual:Str}{st:Stmt}{f:Addr}{fd:FuncData}{N ps:List Str}{k:Nat}{sp:Sp}(F:Fun K x qual st f fd)(S:FnScope N ps (zaf st))(len:∀vs H Q E,sp vs H Q E->vs.length=ps.length)
  (hbody:∀(cdv:Value) (A:Around) (outer:List Env) (s:Shared) (H:Hp) (vs:List V) (Q:VK) (E:XK),Room k (A.deeper (envOfC qual (zaf st) s.heap.objs.size f cdv))->sp vs H Q E->
   ∃t,PSs (cxOf CX0 P w K mg base N qual (zaf st) f cdv A outer s H E).nox (za8 st) t/\t {nx:=fun _ H'=>Q .non H',rt:=Q} (zeF N vs) H):FnOk P w K mg base CX0 (k+1) f fd ps sp:=by
 obtain⟨oc,od,kV,doc,pm,an,cdv,ct,osl,rfl,lk,hcd⟩:=F.ex
 refine znm lk hcd S len fun A outer s H vs Q E hr hsp=> ?_
 obtain⟨t,h,q⟩:=hbody cdv A outer s H vs Q E hr hsp
 exact⟨t,h.nox,q⟩
theorem Fun.binds {x qual:Str}{st:Stmt}{f:Addr}{fd:FuncData}{ps:List Str}(F:Fun K x qual st f fd)
  (h:∀(kV doc pm:Value) (an:Option Addr) (cdv ct:Value) (us:List Value),us.length=ps.length->bindArgs (PySem.W.fnOf x qual (zbv st) (za8 st) (zaf st) .none kV doc pm an cdv ct) ⟨us,[]⟩=pure (ps.zip us)):Binds K fd ps []:=by
 obtain⟨oc,od,kV,doc,pm,an,cdv,ct,osl,rfl,lk,hcd⟩:=F.ex
 exact .all (h kV doc pm an cdv ct)
theorem zmt {x qual:Str}{st:Stmt}{f:Addr}{oc:Value}{od an:Option Addr}{osl:Array (Option Value)}{kV doc pm cdv ct:Value}(l:K.lookup f=some ⟨oc,od,.func (PySem.W.fnOf x qual (zbv st) (za8 st) (zaf st) .none kV doc pm an cdv ct),osl⟩)
  (c:PySem.W.codeIn K cdv qual=true) (k:PySem.W.keepIn K (.ref f)=true):Fun K x qual st f (PySem.W.fnOf x qual (zbv st) (za8 st) (zaf st) .none kV doc pm an cdv ct):=⟨⟨oc,od,kV,doc,pm,an,cdv,ct,osl,rfl,l,c⟩,k⟩
end
theorem znp {A:Around}{k:Nat}(hr:Room k A):A.units+1<cLine:=Nat.lt_of_le_of_lt (Nat.add_le_add_left (by decide:1<=64) _) hr.units
section
variable {X:Cx}
theorem pv (i:Nat){x:Str}{pos:Pos}(hN:X.N[i]? =some x:=by rfl)(hv:Vis X.env.scope x:=by first|exact Or.inl rfl|exact Or.inr (Or.inl rfl)|exact Or.inr (Or.inr rfl))(hd:(x==("__debug__" :Str))=false:=by decide)
  (hcd:(x==("__classdict__" :Str))=false:=by decide):PE X (.Name x pos) (tVar i):=zma hN hv hd hcd
end
theorem iteF {A B:Prop}(h:B):if false=true then A else B:=by
 rw[if_neg Bool.false_ne_true]
 exact h
theorem iteT {A B:Prop}(h:A):if true=true then A else B:=by
 rw[if_pos rfl]
 exact h
theorem ite2 {c A B:Prop}[Decidable c](h1:c->A)(h2:¬c->B):if c then A else B:=by
 by_cases h:c
 ·rw [if_pos h]
  exact h1 h
 ·rw [if_neg h]
  exact h2 h
noncomputable def Same (H H':Hp):Prop:=∀b o,H b=some o->H' b=some o
theorem Same.refl (H:Hp):Same H H:=fun _ _ h=>h
theorem Same.trans {H H1 H2:Hp}(a:Same H H1)(b:Same H1 H2):Same H H2:=fun c o h=>b c o (a c o h)
theorem Same.free {H H':Hp}(e:Same H H'){l:Addr}(h:H' l=Option.none):H l=Option.none:=by
 cases q:H l with
 |none=>rfl
 |some o=>
  rw[e l o q] at h
  cases h
theorem Same.seq {K:PySem.W.Frag}{H H':Hp}{a:Addr}{xs:List V}(e:Same H H')(h:SqL K H a xs):SqL K H' a xs:=by
 rcases h with (h|⟨o,h⟩)|h
 ·exact .inl (.inl (e _ _ h))
 ·exact .inl (.inr ⟨o,e _ _ h⟩)
 ·exact .inr h
theorem zbY {env:Env}{scope:Scope}(h:∀y∈scope.names,y.2=.free->∃c,env.cells.lookup y.1=some c):
  ∃cl,closureFor scope env=pure cl/\(∀x c,cl.lookup x=some c->env.cells.lookup x=some c)/\∀y∈scope.names,y.2=.free->cl.lookup y.1=env.cells.lookup y.1:=by
 have go:∀(names:List (Str×NameKind)) (acc:List (Str×Addr)),(∀y∈names,y.2=.free->∃c,env.cells.lookup y.1=some c)->
   (∀x c,acc.lookup x=some c->env.cells.lookup x=some c)->
   ∃cl,(forIn names acc (fun (y:Str×NameKind) (cs:List (Str×Addr))=>if (y.2==.free)=true then (do let c<-cellOf env y.1;pure (ForInStep.yield ((y.1,c)::cs))) else pure (ForInStep.yield cs)):Sem (List (Str×Addr)))=pure cl/\
    (∀x c,cl.lookup x=some c->env.cells.lookup x=some c)/\(∀x c,acc.lookup x=some c->cl.lookup x=some c)/\∀y∈names,y.2=.free->cl.lookup y.1=env.cells.lookup y.1:=by
  intro names
  induction names with
  |nil=>intro acc _ ha;exact⟨acc,rfl,ha,fun _ _ h=>h,fun y hy=>nomatch hy⟩
  | cons y r ih=>
   intro acc hn ha
   obtain⟨n,k⟩:=y
   by_cases hk:k=.free
   ·subst hk
    obtain⟨c,hc⟩:=hn (n,.free) List.mem_cons_self rfl
    have ha':∀x d,(((n,c)::acc:List (Str×Addr))).lookup x=some d->env.cells.lookup x=some d:=fun x d e=>by
     rw[List.lookup_cons] at e
     cases hx:x==n with
     |true=>
      rw[hx] at e
      have e1:x=n:=eq_of_beq hx
      subst e1
      cases e
      exact hc
     |false=>rw[hx] at e;exact ha x d e
    obtain⟨cl,e,h1,h2,h3⟩:=ih ((n,c)::acc) (fun y hy=>hn y (List.mem_cons_of_mem _ hy)) ha'
    refine⟨cl, ?_,h1,fun x d e=> ?_,fun y hy hf=> ?_⟩
    ·rw [List.forIn_cons]
     have ec:cellOf env n=pure c:=by unfold cellOf;rw[hc]
     simp only[beq_self_eq_true,if_true]
     rw[ec]
     exact e
    ·have e':=ha x d e
     by_cases hx:x=n
     ·subst hx
      rw[hc] at e';cases e'
      exact h2 x c (by rw[List.lookup_cons];simp)
     ·exact h2 x d (by rw[List.lookup_cons,beq_eq_false_iff_ne.mpr hx];exact e)
    ·rcases List.mem_cons.mp hy with rfl|hy
     ·show cl.lookup n=env.cells.lookup n
      rw[hc]
      exact h2 n c (by rw[List.lookup_cons];simp)
     ·exact h3 y hy hf
   ·obtain ⟨cl,e,h1,h2,h3⟩:=ih acc (fun y hy=>hn y (List.mem_cons_of_mem _ hy)) ha
    refine⟨cl, ?_,h1,h2,fun y hy hf=> ?_⟩
    ·rw [List.forIn_cons]
     have:(k==NameKind.free)=false:=by simpa using hk
     simp only[this,Bool.false_eq_true,if_false]
     exact e
    ·rcases List.mem_cons.mp hy with rfl|hy
     ·exact absurd hf hk
     ·exact h3 y hy hf
 obtain⟨cl,e,h1,_,h3⟩:=go scope.names [] h (fun x c e=>by simp at e)
 refine⟨cl, ?_,h1,h3⟩
 unfold closureFor
 exact (congrArg (fun m=>m >>= fun r=>pure r) e).trans rfl
noncomputable def zbc (n:Nat)(ix:List Nat)(σ:St):St:=List.replicate n none++ix.map fun i=>σ.getD i none
noncomputable def Cx.comp (X:Cx)(s₂:Shared)(H₂:Hp)(N':List Str)(scope:Scope)(cl:List (Str×Addr))(C:Addr)(fp:List Addr):Cx:=
 {X with N:=N',s₀:=s₂,H₀:=H₂,env:=compEnvC scope cl C X.env,outer:=X.stack,stack:=X.stack,ex:=fp,fn:=fun _=>false,pn:=[],xe:=fun _ _=>False}
structure CompScope (X:Cx) (scope:Scope) (N':List Str) (n:Nat) (ix:List Nat):Prop where
 kind:scope.kind=.function
 nocell:∀y∈scope.names,y.2≠.cell
 names:∀y∈scope.names,y.2=.local->scope.names.lookup y.1=some .local
 free:∀y∈scope.names,y.2=.free->X.env.scope.names.lookup y.1=some .cell∨X.env.scope.names.lookup y.1=some .free
 nodup:∀y:Str,(y,NameKind.free)∈scope.names->scope.names.lookup y=some .local->False
 len:N'.length=n+ix.length
 at_:∀(j i:Nat),ix[j]? =some i->∃x,N'[n+j]? =some x/\X.N[i]? =some x/\(x,NameKind.free)∈scope.names
theorem zaZ {env:Env}{scope:Scope}(x:Str):(relabel scope env).names.lookup x=(scope.names.lookup x).map fun k=>if (k==.free&&env.scope.kind==.function&&env.kindOf x==some .cell) then .cell else k:=by
 show (scope.names.map fun (n,k)=>if (k==NameKind.free&&env.scope.kind==.function&&env.kindOf n==some .cell) then (n,NameKind.cell) else (n,k)).lookup x=_
 generalize scope.names=l
 induction l with
 |nil=>rfl
 | cons y r ih=>
  obtain⟨n,k⟩:=y
  rw[List.map_cons,List.lookup_cons]
  cases hx:x==n with
  | true=>
   have e:x=n:=eq_of_beq hx
   subst e
   by_cases hc:(k==NameKind.free&&env.scope.kind==.function&&env.kindOf x==some .cell)=true
   ·rw [if_pos hc,List.lookup_cons]
    simp only[beq_self_eq_true]
    show some NameKind.cell=some (ite _ _ _)
    rw[if_pos hc]
   ·rw [if_neg hc,List.lookup_cons]
    simp only[beq_self_eq_true]
    show some k=some (ite _ _ _)
    rw[if_neg hc]
  |false=>
   by_cases hc:(k==NameKind.free&&env.scope.kind==.function&&env.kindOf n==some .cell)=true
   ·rw[if_pos hc,List.lookup_cons,hx];exact ih
   ·rw[if_neg hc,List.lookup_cons,hx];exact ih
section
variable {X:Cx}{pins:List (Addr×Obj)}{σ:St}{H:Hp}{s:Shared}
theorem zeL {env:Env}{scope:Scope}{x:Str}(h:scope.names.lookup x=some .free):(relabel scope env).names.lookup x=some .cell∨(relabel scope env).names.lookup x=some .free:=by
 rw[zaZ,h]
 by_cases hc:(NameKind.free==NameKind.free&&env.scope.kind==.function&&env.kindOf x==some .cell)=true
 ·exact .inl (by show some (ite _ _ _)=_;rw[if_pos hc])
 ·exact .inr (by show some (ite _ _ _)=_;rw[if_neg hc])
theorem zhz {env:Env}{scope:Scope}{x:Str}(hn:∀y∈scope.names,y.2≠.cell)(h:(relabel scope env).names.lookup x=some .cell∨(relabel scope env).names.lookup x=some .free):scope.names.lookup x=some .free:=by
 rw[zaZ] at h
 cases e:scope.names.lookup x with
 |none=>rw[e] at h;rcases h with h|h<;>cases h
 | some k=>
  rw[e] at h
  have hk:=hn _ (PySem.mem_of_lookup e)
  by_cases hf:k=.free
  ·rw[hf]
  ·have hb:(k==NameKind.free)=false:=by simpa using hf
   have hr:Option.map (fun k=>if (k==NameKind.free&&env.scope.kind==.function&&env.kindOf x==some .cell)=true then NameKind.cell else k) (some k)=some k:=by
    show some (ite _ _ _)=_
    rw[if_neg (by rw[hb];simp)]
   rw[hr] at h
   rcases h with h|h
   ·cases h;exact absurd rfl hk
   ·exact h
theorem zgp {scope:Scope}{N':List Str}{n:Nat}{ix:List Nat}{cl:List (Str×Addr)}{fp:List Addr}{h₁:Heap}{acc C:Addr}{na:Nat}{m:Str->Option Value}{tk:Nat}
  (I:Inv X pins σ H s) (S:CompScope X scope N' n ix) (hcl1:∀x c,cl.lookup x=some c->X.env.cells.lookup x=some c) (hcl2:∀y∈scope.names,y.2=.free->cl.lookup y.1=X.env.cells.lookup y.1)
  (hf:∀b∈fp,FpOk X pins H b) (hlt:∀b∈fp,b<s.heap.objs.size) (ha:s.heap.objs.size<=acc) (hC:s.heap.objs.size<=C) (hne:C≠acc)
  (k:∀b u,s.heap.get? b=some u->h₁.get? b=some u) (hacc:h₁.get? acc=some {cls:=.type "list",data:=.seq ([]:List Value).toArray na}) (hns:h₁.Ns C m):
  Inv (X.comp s H N' scope cl C fp) [] (zbc n ix σ) (upd H acc (.lst [])) {s with heap:=h₁,toks:=tk}:=by
 have fr:∀b:Addr,s.heap.objs.size<=b->H b=none:=fun b hb=>I.hok.fresh hb
 have cellLt:∀x c,cl.lookup x=some c->c<s.heap.objs.size:=fun x c e=>by
  obtain⟨v,q⟩:=I.cell x c (hcl1 x c e)
  exact q.lt
 refine⟨⟨I.ok.mod,S.kind,I.ok.glob,I.ok.blt,hC,fun x y c e1 e2=>I.ok.inj x y c (hcl1 x c e1) (hcl1 y c e2),fun x hx=> ?_,fun x c e _=>absurd e Bool.false_ne_true,I.ok.hd,I.ok.frames,.inl rfl,fun b hb=>⟨Nat.ne_of_lt (Nat.lt_of_lt_of_le (hlt b hb) hC),fun x c e=>(hf b hb).2.2.2.2.1 x c (hcl1 x c e)⟩,
   I.bs,Nat.le_trans I.ok.bsz I.sz,fun b o e hb=> ?_,fun b hb hs=> ?_,I.stack,I.stkFree⟩,
  rfl,I.bare,Un.laid k ha (fr acc ha),⟨m,hns,fun i x v e1 e2 e3=> ?_⟩,fun x c e=> ?_, ?_,fun x c e=> ?_,fun p hp=>absurd (show p∈([]:List (Addr×Obj)) from hp) (by simp),I.hok.laid k ha ⟨Nat.zero_le _,[],na,.nil,hacc⟩, ?_⟩
 ·have hx':scope.names.lookup x=some .free:=zhz (env:=X.env) S.nocell hx
  have hm:=PySem.mem_of_lookup hx'
  obtain⟨c,e⟩:=I.ok.has x (S.free _ hm rfl)
  exact⟨c,(hcl2 _ hm rfl).trans e⟩
 ·rcases (hf b hb).2.2.2.1 with z|z
  ·exact I.ok.noex b o e z
  ·exact absurd (Nat.lt_of_lt_of_le (Heap.lt_size e) (Nat.le_trans I.ok.bsz z)) (Nat.lt_irrefl _)
 ·rcases List.mem_cons.mp (I.stkSub b hs) with z|z
  ·exact (hf b hb).2.1 z
  ·exact (hf b hb).2.2.1 z
 ·-- a name of the frame,seen through its cell
  have hi:n<=i:=by
   by_cases hi:n<=i
   ·exact hi
   ·unfold zbc at e2
    rw[List.getElem?_append_left (by simp;(first|lia|omega)),List.getElem?_replicate] at e2
    split at e2<;>cases e2
  obtain⟨j,rfl⟩:∃j,i=n+j:=⟨i-n,by (first|lia|omega)⟩
  unfold zbc at e2
  rw[List.getElem?_append_right (by simp),List.length_replicate,Nat.add_sub_cancel_left,List.getElem?_map] at e2
  cases ej:ix[j]? with
  |none=>rw[ej] at e2;cases e2
  | some q=>
   rw[ej] at e2
   have e2':σ.getD q none=some v:=Option.some.inj e2
   have e2'':σ[q]? =some (some v):=by
    rw[List.getD_eq_getElem?_getD] at e2'
    cases eq:σ[q]? with
    |none=>rw[eq] at e2';cases e2'
    |some z=>rw[eq] at e2';exact congrArg some e2'
   obtain⟨y,h1,h2,h3⟩:=S.at_ j q ej
   have ey:y=x:=Option.some.inj (h1.symm.trans e1)
   subst ey
   have hk:=S.free _ h3 rfl
   obtain⟨mX,_,hl⟩:=I.loc
   obtain⟨u,r,l⟩:=hl q y v h2 e2'' (.inr hk)
   refine⟨u,r,.inr ?_⟩
   have hkc:X.env.kindOf y=some .cell∨X.env.kindOf y=some .free:=hk
   have l':∃c,X.env.cells.lookup y=some c/\s.heap.IsCell c (some u):=by
    rcases l with⟨z,_⟩|⟨_,c,ec,hc⟩
    ·rcases hkc with q|q<;>(rw[q] at z;cases z)
    ·exact⟨c,ec,hc⟩
   obtain⟨c,ec,o,ho,hd⟩:=l'
   have e3':Vis (relabel scope X.env) y:=e3
   refine⟨?_,c,(hcl2 _ h3 rfl).trans ec,o,k _ _ ho,hd⟩
   have nl:scope.names.lookup y≠some .local:=fun z=> ?_
   ·cases el:scope.names.lookup y with
    |none=>
     have:(relabel scope X.env).names.lookup y=none:=by rw[zaZ,el];rfl
     rcases e3' with z|z|z<;>(rw[this] at z;cases z)
    | some kk=>
     have hmem:=PySem.mem_of_lookup el
     have ncell:=S.nocell _ hmem
     have hr:(relabel scope X.env).names.lookup y=some (if (kk==NameKind.free&&X.env.scope.kind==.function&&X.env.kindOf y==some .cell)=true then .cell else kk):=by rw[zaZ,el];rfl
     by_cases hkf:kk=.free
     ·subst hkf
      exact zeL (env:=X.env) el
     ·have hb:(kk==NameKind.free)=false:=by simpa using hkf
      have hr':(relabel scope X.env).names.lookup y=some kk:=by rw[hr,hb];rfl
      rcases e3' with z|z|z
      ·rw[hr'] at z;cases z;exact absurd el nl
      ·rw[hr'] at z;cases z;exact absurd rfl ncell
      ·rw[hr'] at z;cases z;exact absurd rfl hkf
   ·exact S.nodup _ h3 z
 ·obtain ⟨v,o,ho,hd⟩:=I.cell x c (hcl1 x c e)
  exact⟨v,o,k _ _ ho,hd⟩
 ·show upd H acc (.lst []) C=none
  rw[zah hne];exact fr C hC
 ·show upd H acc (.lst []) c=none
  have:=cellLt x c e
  rw[zah (Nat.ne_of_lt (Nat.lt_of_lt_of_le this ha))]
  exact I.freeC x c (hcl1 x c e)
 ·show (zbc n ix σ).length=N'.length
  unfold zbc
  rw[List.length_append,List.length_replicate,List.length_map,S.len]
end
noncomputable def Wk (σ σ':St):Prop:=σ.length=σ'.length/\∀(i:Nat) v,σ[i]? =some (some v)->σ'[i]? =some (some v)
noncomputable def PTs (Y:Cx)(ifs:List Expr)(t:TT):Prop:=
 ∀(pins:List (Addr×Obj)) (s:Shared) (σ:St) (H:Hp) (Q:Bool->Hp->Prop),Inv Y pins σ H s->t σ H Q->
  wpAny (model Y.prog Y.w) Y.A (forIn ifs true fun c r=>if r=true then do let ok<-isTrue c Y.env (eval c Y.env);pure (ForInStep.yield ok) else pure (ForInStep.yield r)) (TP Y pins σ Q) Y.xe s
noncomputable def zcI:TT:=fun _ H Q=>Q true H
theorem zaK {Y:Cx}:PTs Y [] zcI:=fun _ _ _ H _ I h=>wpAny_tests_nil ⟨H,I,h⟩
theorem zd1 {Y:Cx}{c:Expr}{t:TT}(h:PT Y c t):PTs Y [c] t:=fun pins s σ H Q I q=>wpAny_tests_one (h pins s σ H Q I q)
theorem zeM {prog:Program}{w:World}{A:Around}{R:Result->Shared->Prop}{s:Shared}{elt target iter:Expr}{ifs:List Expr}{scope:Scope}{pos:Pos}{it acc:Value}{env:Env}(I:Nat->Shared->Prop)
  (turn:∀n s,I n s->wpAny (model prog w) A (pyNext it) (fun r s₁=>match r with
   |none=>R (.ok .next) s₁
   | some v=>wpAny (model prog w) A (letOwnedTupleGo target it v) (fun _ s₂=>wpAny (model prog w) A (assign target env v) (fun _ s₃=>
     wpAny (model prog w) A (forIn ifs true fun c r=>if r=true then do let ok<-isTrue c env (eval c env);pure (ForInStep.yield ok) else pure (ForInStep.yield r)) (fun ok s₄=>
      if ok=true then wpAny (model prog w) A (eval elt env) (fun x s₅=>
       wpAny (model prog w) A (call (.builtin "list.append") [acc,x]) (fun _ s₆=>∃m,m<n/\I m s₆) (fun _ _=>False) s₅) (fun _ _=>False) s₄
      else ∃m,m<n/\I m s₄) (fun _ _=>False) s₃) (fun _ _=>False) s₂) (fun _ _=>False) s₁) (fun _ _=>False) s)
  (n:Nat) (h:I n s):
  codeAny (model prog w) A (.compLoop (.ListComp elt [⟨target,iter,ifs,0⟩] scope pos) 0 it acc env) R s:=by
 refine codeAny_loop rfl I (fun n s hI=> ?_) n h
 show wpAny _ A ((compTurn (.ListComp elt [⟨target,iter,ifs,0⟩] scope pos) 0 it acc env).onRaise (fun x=>do noteFrame x env;theTreesLotGoes x)) _ _ s
 refine wpAny_noted (wpAny_noRaise ?_)
 rw[compTurn_list]
 refine wpAny_bind (wpAny_standAt (wpAny_bind (thn (turn n s hI) fun r s₁ h₁=> ?_)))
 cases r with
 |none=>exact wpAny_pure h₁
 |some v=>
  refine wpAny_bind (thn h₁ fun _ s₂ h₂=>wpAny_bind (thn h₂ fun _ s₃ h₃=>wpAny_bind (thn h₃ fun ok s₄ h₄=> ?_)))
  cases ok with
  |false=>exact wpAny_pure ⟨rfl,h₄⟩
  |true=>exact wpAny_bind (wpAny_bind (thn h₄ fun x s₅ h₅=>wpAny_bind (thn h₅ fun _ s₆ h₆=>wpAny_pure (wpAny_pure ⟨rfl,h₆⟩))))
noncomputable def LcW (J:It)(H1:Hp)(g:TG)(tt:TT)(te:TE)(n:Nat)(ix:List Nat)(σ:St)(Q:VK):Prop:=∀acc,H1 acc=none->
 ∃ W:Nat->Nat->Hp->Prop,(∃m,W 0 m (upd H1 acc (.lst [])))/\∀i m H,W i m H->
  (J.stop i H/\Q (.ref acc) H)∨(J.go i H/\∀x H',J.yld i H x H'->g x (zbc n ix σ) H' fun σ2 H2=>Wk (zbc n ix σ) σ2/\tt σ2 H2 fun b H3=>
   if b=true then te σ2 H3 fun v H4=>∃ys,H4 acc=some (.lst ys)/\ys.length<sizeLine/\∃m',m'<m/\W (i+1) m' (upd H4 acc (.lst (ys++[v])))
   else ∃m',m'<m/\W (i+1) m' H3)
noncomputable def tLc (wi:TI)(g:TG)(tt:TT)(te:TE)(n:Nat)(ix:List Nat):TE:=fun σ H Q=>wi σ H fun J H1=>LcW J H1 g tt te n ix σ Q
section
variable {X:Cx}{elt tg iter:Expr}{ifs:List Expr}{scope:Scope}{pos:Pos}{wi:TI}{g:TG}{tt:TT}{te:TE}{N':List Str}{n:Nat}{ix:List Nat}
theorem zil {pins:List (Addr×Obj)}{σ:St}{H2:Hp}{s2:Shared}{cl:List (Str×Addr)}{it:Addr}{fp:List Addr}{tn:Nat->Heap->Prop}{J:It}{Q:VK}{R:Value->Addr->Result->Shared->Prop}
  (hc:X.calm=true) (S:CompScope X scope N' n ix)
  (hY:∀s₂ H₂ cl C fp,PG (X.comp s₂ H₂ N' scope cl C fp) tg g/\PTs (X.comp s₂ H₂ N' scope cl C fp) ifs tt/\PE (X.comp s₂ H₂ N' scope cl C fp) elt te)
  (I2:Inv X pins σ H2 s2) (hcl1:∀x c,cl.lookup x=some c->X.env.cells.lookup x=some c) (hcl2:∀y∈scope.names,y.2=.free->cl.lookup y.1=X.env.cells.lookup y.1)
  (T:Turn X.prog X.w X.K tg J fp it tn) (st2:tn 0 s2.heap) (f2:∀b∈fp,FpOk X pins H2 b)
  (hW:LcW J H2 g tt te n ix σ Q)
  (hR:∀acc C s' H' m,s'.heap.Ns C m->Inv X pins σ H' s'->H' C=none->C≠X.env.locals->(C∈X.ex∨X.s₀.heap.objs.size<=C)->(∀x c,X.env.cells.lookup x=some c->c≠C)->(∀p∈X.pn++pins,p.1≠C)->C∉X.fs->Q (.ref acc) H'->R (.ref acc) C (.ok .next) s'):
  wpAny (model X.prog X.w) X.A (newList []) (fun acc s₃=>wpAny (model X.prog X.w) X.A (newFunctionEnv scope X.env.globals cl [] X.env.qual none .none (some X.env)) (fun cenv s₄=>
   codeAny (model X.prog X.w) X.A (.compStart (.ListComp elt [⟨tg,iter,ifs,0⟩] scope pos) 0 (.ref it) acc {cenv with scope:=relabel scope X.env}) (R acc cenv.locals) s₄) X.xe s₃) X.xe s2:=by
 refine wpAny_newObj_type (wpAny_newFunctionEnv S.nocell (by intro y hy;simp at hy) (fun h₁ hns₁ hsb₁=> ?_) S.kind)
 dsimp only at hns₁ hsb₁ ⊢
 generalize hH2:s2.heap.push {cls:=.type "list",dict:=none,data:=.seq ([]:List Value).toArray}=G at hns₁ hsb₁ ⊢
 have hC:G.objs.size=s2.heap.objs.size+1:=by rw[<-hH2,Heap.size_push]
 have hlt:∀b∈fp,b<s2.heap.objs.size:=fun b hb=>by
  obtain⟨o,e,_⟩:=T.obj _ _ st2 b hb
  exact Heap.lt_size e
 have old:∀b o,s2.heap.get? b=some o->h₁.get? b=some o:=fun b o e=>hsb₁.extBut b o (by rw[hC];exact Nat.ne_of_lt (Nat.lt_succ_of_lt (Heap.lt_size e))) (Heap.get?_push_of_some _ (hH2▸Heap.get?_push_of_some _ e))
 have hacc:h₁.get? s2.heap.objs.size=some {cls:=.type "list",dict:=none,data:=.seq ([]:List Value).toArray}:=hsb₁.extBut _ _ (by rw[hC];exact Nat.ne_of_lt (Nat.lt_succ_self _)) (Heap.get?_push_of_some _ (hH2▸Heap.get?_push_size _ rfl))
 obtain⟨W,⟨m0,w0⟩,turn⟩:=hW s2.heap.objs.size (I2.hok.fresh (Nat.le_refl _))
 obtain⟨hYg,hYt,hYe⟩:=hY s2 H2 cl G.objs.size fp
 have fpY:∀{H':Hp},(∀b∈fp,H' b=none)->∀b∈fp,FpOk (X.comp s2 H2 N' scope cl G.objs.size fp) [] H' b:=fun {H'} hn b hb=>by
  obtain⟨_,q1,q2,q3,q4,q5⟩:=f2 b hb
  refine⟨hn b hb, ?_,fun z=> ?_,.inl hb,fun x c e=>q4 x c (hcl1 x c e),fun p hp=>absurd (show p∈([]:List (Addr×Obj)) from hp) (by simp)⟩
  ·show b≠G.objs.size
   rw[hC]
   exact Nat.ne_of_lt (Nat.lt_succ_of_lt (hlt b hb))
  ·rcases List.mem_cons.mp (I2.stkSub b z) with y|y
   ·exact q1 y
   ·exact q2 y
 have loop:∀s₃:Shared,s₃={s2 with heap:=h₁,toks:=s2.toks+([]:List (Str×Value)).length}->
   codeAny (model X.prog X.w) X.A (.compLoop (.ListComp elt [⟨tg,iter,ifs,0⟩] scope pos) 0 (.ref it) (.ref s2.heap.objs.size) (compEnvC scope cl G.objs.size X.env)) (R (.ref s2.heap.objs.size) G.objs.size) s₃:=by
  rintro s₃ rfl
  have I4:=zgp (tk:=s2.toks+([]:List (Str×Value)).length) I2 S hcl1 hcl2 f2 hlt (Nat.le_refl _) (by rw[hC];exact Nat.le_succ _) (by rw[hC];exact Nat.ne_of_gt (Nat.lt_succ_self _)) old hacc hns₁
  refine zeM (fun n' s'=>∃i H',Inv (X.comp s2 H2 N' scope cl G.objs.size fp) [] (zbc n ix σ) H' s'/\tn i s'.heap/\(∀b∈fp,H' b=none)/\W i n' H') ?_ m0
   ⟨0,_,I4,T.keep _ _ _ st2 fun b hb o e=>old b o e,fun b hb=> ?_,w0⟩
  ·rintro n' s3 ⟨i,H3,I3,st3,fr3,w3⟩
   rcases turn i n' H3 w3 with⟨stop,q⟩|⟨go,step⟩
   ·refine thn (T.done (X.comp s2 H2 N' scope cl G.objs.size fp) rfl rfl rfl hc i [] s3 _ H3 _ I3 (fpY fr3) st3 stop) fun r s4 zq=> ?_
    obtain⟨hr,I5⟩:=zq
    subst hr
    obtain⟨mC,hnC,_⟩:=I5.loc
    have IX:Inv X pins σ H3 s4:=I2.call' I5.os I5.base I5.hok I5.bare fun b hb=>by
     obtain⟨_,q1,q2,q3,q4,q5⟩:=f2 b hb
     exact⟨q3,q1,q4,q5⟩
    refine hR _ _ s4 H3 mC hnC IX I5.free ?_ (.inr ?_) (fun x c e z=> ?_) (fun p hp z=> ?_) (I2.nofs (by rw[hC];exact Nat.le_succ _)) q
    ·rw [hC]
     exact Nat.ne_of_gt (Nat.lt_succ_of_lt I2.lt)
    ·rw [hC]
     exact Nat.le_succ_of_le I2.sz
    ·obtain ⟨v,q⟩:=I2.cell x c e
     rw[hC] at z
     exact absurd z (Nat.ne_of_lt (Nat.lt_succ_of_lt q.lt))
    ·rw [hC] at z
     exact absurd z (Nat.ne_of_lt (Nat.lt_succ_of_lt (Heap.lt_size (I2.pin p hp).1)))
   ·refine thn (T.item (X.comp s2 H2 N' scope cl G.objs.size fp) rfl rfl rfl hc i [] s3 _ H3 _ I3 (fpY fr3) st3 go) fun r s4 zq=> ?_
    obtain⟨u,hr,h4⟩:=zq
    subst hr
    refine thn h4 fun _ s5 zq=> ?_
    obtain⟨x,H5,I5,r5,y5,st5,fr5⟩:=zq
    have I5':=I5.pinned (fpY fr5) (T.obj _ _ st5)
    refine thn (hYg _ s5 _ H5 x u _ I5' r5 (step x H5 y5)) fun _ s6 zq=> ?_
    obtain⟨σ6,H6,I6,wk,q6⟩:=zq
    have back:∀{H':Hp} {s':Shared},Inv (X.comp s2 H2 N' scope cl G.objs.size fp) ([]++zbH fp s5.heap) σ6 H' s'->
      Inv (X.comp s2 H2 N' scope cl G.objs.size fp) [] (zbc n ix σ) H' s'/\tn (i+1) s'.heap/\∀b∈fp,H' b=none:=fun {H' s'} I7=>by
     refine⟨I7.unpinned.weak wk.1 wk.2,T.keep _ _ _ st5 fun b hb o e=>(I7.pin (b,o) (List.mem_append_right _ (List.mem_append_right _ (zaQ hb e)))).1,fun b hb=> ?_⟩
     obtain⟨o,e,d⟩:=T.obj _ _ st5 b hb
     exact (I7.pin (b,o) (List.mem_append_right _ (List.mem_append_right _ (zaQ hb e)))).2.1
    refine thn (hYt _ s6 σ6 H6 _ I6 q6) fun ok s7 zq=> ?_
    obtain⟨H7,I7,q7⟩:=zq
    cases ok with
    |false=>
     rw[if_neg Bool.false_ne_true] at q7 ⊢
     obtain⟨m',hm,w7⟩:=q7
     obtain⟨b1,b2,b3⟩:=back I7
     exact⟨m',hm,i+1,H7,b1,b2,b3,w7⟩
    |true=>
     rw[if_pos rfl] at q7 ⊢
     refine thn (hYe _ s7 σ6 H7 _ I7 q7) fun xv s8 zq=> ?_
     obtain⟨v8,H8,I8,r8,ys,ha,hz,m',hm,w8⟩:=zq
     refine thn (zaJ _ s8 σ6 H8 (.ref s2.heap.objs.size) [v8] (.ref s2.heap.objs.size) [xv] (fun _ H'=>H'=upd H8 s2.heap.objs.size (.lst (ys++[v8]))) I8 rfl (.cons r8 .nil) ⟨_,ys,v8,rfl,rfl,ha,hz,rfl⟩) fun _ s9 zq=> ?_
     obtain⟨_,H9,I9,_,e9⟩:=zq
     subst e9
     obtain⟨b1,b2,b3⟩:=back I9
     exact⟨m',hm,i+1,_,b1,b2,b3,w8⟩
  ·rw [zah (Nat.ne_of_lt (hlt b hb))]
   exact (f2 b hb).1
 exact codeAny_compStart_list (loop _ rfl) (T.self _ 0 _ _ _ (T.keep _ _ _ st2 fun b hb o e=>old b o e) (loop _ rfl))
theorem zb5 (hc:X.calm=true)(S:CompScope X scope N' n ix)(hi:PI X tg iter wi)
  (hY:∀s₂ H₂ cl C fp,PG (X.comp s₂ H₂ N' scope cl C fp) tg g/\PTs (X.comp s₂ H₂ N' scope cl C fp) ifs tt/\PE (X.comp s₂ H₂ N' scope cl C fp) elt te)
  (hs:∀x,foldedSetIterable iter X.env x=pure x:=by intro _;rfl):PE X (.ListComp elt [⟨tg,iter,ifs,0⟩] scope pos) (tLc wi g tt te n ix):=by
 intro pins s σ H Q I h
 obtain⟨cl,hcl,hcl1,hcl2⟩:=zbY (env:=X.env) (scope:=scope) fun y hy hf=>I.ok.has _ (S.free y hy hf)
 rw[eval_ListComp]
 refine wpAny_comprehension_free (use:=none) rfl hs hcl S.kind S.names (thn (hi pins s σ H _ I h) fun v s1 h1=>thn h1 fun itv s2 h2=> ?_)
 obtain⟨it,fp,tn,J,H2,rfl,I2,T,st2,f2,hW⟩:=h2
 refine zil (R:=fun acc C=>compPost (model X.prog X.w) X.A X.xe none (EP X pins σ Q) acc C) hc S hY I2 hcl1 hcl2 T st2 f2 hW ?_
 intro acc C s' H' m hn IX hf hL h1 h2 h3 h4 q
 exact⟨m,hn,fun h' sb=>⟨.ref acc,H',IX.turned (t':=s'.toks) (fun b o hb e=>sb.extBut b o hb e) hf hL h1 h2 h3,rfl,q⟩⟩
theorem zjO {x:Str}{i:Nat}{pos' spos:Pos}(hsw:swapsWith (.ListComp elt [⟨tg,iter,ifs,0⟩] scope pos) (some (.Name x pos')) spos.line X.env=pure true)(hN:X.N.Nodup)(hi':X.N[i]? =some x)(hx:X.env.scope.names.lookup x=some .local)
  (hc:X.calm=true) (S:CompScope X scope N' n ix) (hi:PI X tg iter wi)
  (hY:∀s₂ H₂ cl C fp,PG (X.comp s₂ H₂ N' scope cl C fp) tg g/\PTs (X.comp s₂ H₂ N' scope cl C fp) ifs tt/\PE (X.comp s₂ H₂ N' scope cl C fp) elt te)
  (hs:∀x,foldedSetIterable iter X.env x=pure x:=by intro _;rfl):PS X (.Assign [.Name x pos'] (.ListComp elt [⟨tg,iter,ifs,0⟩] scope pos) spos) (tAsg (tLc wi g tt te n ix) (zbG i)):=by
 intro pins s σ H D I h
 obtain⟨cl,hcl,hcl1,hcl2⟩:=zbY (env:=X.env) (scope:=scope) fun y hy hf=>I.ok.has _ (S.free y hy hf)
 rw[exec_Assign_Name_used _ _ _ _ hsw]
 refine wpAny_bind (wpAny_standAt (wpAny_bind ?_))
 show wpAny _ _ (do let _<-comprehension (.ListComp elt [⟨tg,iter,ifs,0⟩] scope pos) scope X.env _ (newList []) false (eval iter X.env) (some (assign (.Name x pos') X.env))) _ _ s
 refine wpAny_bind (thn (wpAny_comprehension_free (use:=some (assign (.Name x pos') X.env)) (Q:=fun _ s'=>SP X pins D .next s') rfl hs hcl S.kind S.names (thn (hi pins s σ H _ I h) fun v s1 h1=>thn h1 fun itv s2 h2=> ?_)) fun _ s' hq=>wpAny_pure (wpAny_pure hq))
 obtain⟨it,fp,tn,J,H2,rfl,I2,T,st2,f2,hW⟩:=h2
 refine zil (Q:=fun x H1=>zbG i x σ H1 D.nx) (R:=fun acc C=>compPost (model X.prog X.w) X.A X.xe (some (assign (.Name x pos') X.env)) (fun _ s'=>SP X pins D .next s') acc C) hc S hY I2 hcl1 hcl2 T st2 f2 hW ?_
 intro acc C s' H' m hn IX hf hL h1 h2 h3 h4 q
 show wpAny _ _ (assign (.Name x pos') X.env (.ref acc)) _ _ _
 obtain⟨oC,esC,epC,hoC,hdC,rC⟩:=id hn
 have IP:Inv X (pins++[(C,oC)]) σ H' s':=IX.pins_of fun p hp=>by
  rcases List.mem_append.mp hp with z|z
  ·exact IX.pin p (List.mem_append_right _ z)
  ·have e:p=(C,oC):=by simpa using z
   subst e
   exact⟨hoC,hf,hL,h4,fun v z=>by rw[hdC] at z;cases z⟩
 refine thn (zal hN hi' (.inl hx) (.inr hx) _ s' σ H' (.ref acc) (.ref acc) D.nx IP rfl q) fun _ s'' zq=> ?_
 obtain⟨σ',H'',I'',q''⟩:=zq
 obtain⟨e1,e2,_⟩:=I''.pin (C,oC) (List.mem_append_right _ (List.mem_append_right _ (by simp)))
 refine⟨m,⟨oC,esC,epC,e1,hdC,rC⟩,fun h' sb=>⟨σ',H'', ?_,q''⟩⟩
 exact I''.unpinned.turned (t':=s''.toks) (fun b o hb e=>sb.extBut b o hb e) e2 hL h1 h2 h3
end
theorem PE.mono {X:Cx}{e:Expr}{t t':TE}(h:PE X e t)(m:∀σ H Q,t' σ H Q->t σ H Q):PE X e t':=fun pins s σ H Q I q=>h pins s σ H Q I (m σ H Q q)
theorem zac {H:Hp}{a:Addr}{o:HO}(h:H a=none):Same H (upd H a o):=fun b u e=>by
 rw[zah (zak e h)];exact e
theorem zau {H H':Hp}{a:Addr}{o:HO}(s:Same H H')(h:H a=none):Same H (upd H' a o):=fun b u e=>by
 rw[zah (zak e h)];exact s b u e
noncomputable def SameT (H H':Hp):Prop:=∀b xs,H b=some (.tup xs)->H' b=some (.tup xs)
theorem Same.t {H H':Hp}(h:Same H H'):SameT H H':=fun b xs e=>h b _ e
theorem SameT.trans {H H1 H2:Hp}(a:SameT H H1)(b:SameT H1 H2):SameT H H2:=fun c o h=>b c o (a c o h)
theorem zbK {H:Hp}{a:Addr}{xs ys:List V}(h:H a=some (.lst xs)):SameT H (upd H a (.lst ys)):=fun b zs e=>by
 rw[zah (zjH e h (by intro z;cases z))];exact e
structure Yields (J:It) (Ok:Hp->Prop) (xs:List V):Prop where
 go:∀i H,Ok H->i<xs.length->J.go i H
 yld:∀i H x H',Ok H->i<xs.length->J.yld i H x H'->H'=H/\xs[i]? =some x
 stop:∀H,Ok H->J.stop xs.length H
theorem zaY {K:PySem.W.Frag}{a:Addr}{xs:List V}:Yields (Itl K a) (fun H=>SqL K H a xs) xs:=
 ⟨fun i H q h=>⟨xs,xs[i],q,by simp[h]⟩,fun i H x H' q _ y=>⟨y.1,y.2 xs q⟩,fun H q=>⟨xs,q,Nat.le_refl _⟩⟩
theorem zbZ {K:PySem.W.Frag}{a:Addr}{xs:List V}:Yields (Itt K a) (fun H=>SqT K H a xs) xs:=
 ⟨fun i H q h=>⟨xs,xs[i],q,by simp[h]⟩,fun i H x H' q _ y=>⟨y.1,y.2 xs q⟩,fun H q=>⟨xs,q,Nat.le_refl _⟩⟩
noncomputable def zaN (lo:Int)(n:Nat):List V:=(List.range n).map fun (i:Nat)=>V.int (lo+(i:Int))
theorem zb0 (lo:Int)(n:Nat):(zaN lo n).length=n:=by simp[zaN]
theorem zhA {lo:Int}{n i:Nat}(h:i<n):(zaN lo n)[i]? =some (V.int (lo+(i:Int))):=by
 simp[zaN,h]
theorem zeN {lo:Int}{n:Nat}:Yields (Itr lo n) (fun _=>True) (zaN lo n):=by
 refine⟨fun i H _ h=> ?_,fun i H x H' _ h y=> ?_,fun H _=> ?_⟩
 ·rw[zb0] at h;exact h
 ·obtain ⟨y1,y2⟩:=y
  rw[zb0] at h
  exact⟨y1,by rw[zhA h,y2]⟩
 ·rw[zb0];exact Nat.le_refl _
section
variable {J:It}{Ok:Hp->Prop}{xs:List V}{tt:TT}{te:TE}{ix:List Nat}{σ:St}{H1:Hp}{Q:VK}
theorem zdk (Y:Yields J Ok xs)(small:xs.length<sizeLine)(p:V->Bool)(f:V->V)(hok:∀H,Same H1 H->Ok H)
  (ht:∀x∈xs,∀H,Same H1 H->∀Q':Bool->Hp->Prop,Q' (p x) H->tt (some x::ix.map fun i=>σ.getD i none) H Q')
  (he:∀x∈xs,p x=true->∀H,Same H1 H->∀Q':VK,Q' (f x) H->te (some x::ix.map fun i=>σ.getD i none) H Q')
  (fin:∀acc,H1 acc=none->Q (.ref acc) (upd H1 acc (.lst ((xs.filter p).map f)))):
  LcW J H1 (zbG 0) tt te 1 ix σ Q:=by
 intro acc ha
 refine⟨fun i m H=>m=xs.length-i/\i<=xs.length/\H=upd H1 acc (.lst (((xs.take i).filter p).map f)),⟨xs.length,by simp,Nat.zero_le _,rfl⟩, ?_⟩
 rintro i m H ⟨rfl,hi,rfl⟩
 have sm:Same H1 (upd H1 acc (.lst (((xs.take i).filter p).map f))):=zac ha
 have o:=hok _ sm
 by_cases hlt:i<xs.length
 ·refine .inr ⟨Y.go i _ o hlt,fun x H' y=> ?_⟩
  obtain⟨rfl,hx⟩:=Y.yld i _ x H' o hlt y
  have hmem:x∈xs:=List.mem_of_getElem? hx
  have htk:xs.take (i+1)=xs.take i++[x]:=by
   rw[List.take_succ,hx];rfl
  refine⟨⟨rfl,fun j v e=> ?_⟩, ?_⟩
  ·cases j with
   |zero=>cases e
   |succ j=>exact e
  ·refine ht x hmem _ sm _ ?_
   cases hp:p x with
   |false=>
    rw[if_neg Bool.false_ne_true]
    refine⟨xs.length-(i+1),by (first|lia|omega),rfl,hlt, ?_⟩
    rw[htk,List.filter_append]
    simp[hp]
   | true=>
    rw[if_pos rfl]
    refine he x hmem hp _ sm _ ?_
    refine⟨_,zab, ?_,xs.length-(i+1),by (first|lia|omega),rfl,hlt, ?_⟩
    ·rw [List.length_map]
     refine Nat.lt_of_le_of_lt (List.length_filter_le _ _) ?_
     rw[List.length_take];(first|lia|omega)
    ·rw [zk5,htk,List.filter_append,List.map_append]
     simp[hp]
 ·have e:i=xs.length:=by (first|lia|omega)
  subst e
  refine .inl ⟨Y.stop _ o, ?_⟩
  rw[List.take_length]
  exact fin acc ha
theorem zim (Y:Yields J Ok xs)(small:xs.length<sizeLine)(R:V->V->Hp->Prop)(hR:∀x v H H',SameT H H'->R x v H->R x v H')(hok:∀H,Same H1 H->Ok H)
  (he:∀x∈xs,∀H,Same H1 H->∀Q':VK,(∀v H',Same H H'->R x v H'->Q' v H')->te (some x::ix.map fun i=>σ.getD i none) H Q')
  (fin:∀acc ys H',H1 acc=none->Same H1 H'->H' acc=some (.lst ys)->Paired (fun x v=>R x v H') xs ys->Q (.ref acc) H'):
  LcW J H1 (zbG 0) zcI te 1 ix σ Q:=by
 intro acc ha
 refine⟨fun i m H=>m=xs.length-i/\i<=xs.length/\Same H1 H/\∃ys,H acc=some (.lst ys)/\Paired (fun x v=>R x v H) (xs.take i) ys,⟨xs.length,by simp,Nat.zero_le _,zac ha,[],zab,.nil⟩, ?_⟩
 rintro i m H ⟨rfl,hi,sm,ys,hacc,pr⟩
 have o:=hok _ sm
 have hlen:ys.length=i:=by rw[<-Paired.length pr,List.length_take];(first|lia|omega)
 by_cases hlt:i<xs.length
 ·refine .inr ⟨Y.go i _ o hlt,fun x H' y=> ?_⟩
  obtain⟨rfl,hx⟩:=Y.yld i _ x H' o hlt y
  have hmem:x∈xs:=List.mem_of_getElem? hx
  have htk:xs.take (i+1)=xs.take i++[x]:=by
   rw[List.take_succ,hx];rfl
  refine⟨⟨rfl,fun j v e=> ?_⟩, ?_⟩
  ·cases j with
   |zero=>cases e
   |succ j=>exact e
  ·unfold zcI
   dsimp only
   rw[if_pos rfl]
   refine he x hmem _ sm _ fun v H4 s4 r4=> ?_
   have h4:H4 acc=some (.lst ys):=s4 _ _ hacc
   refine⟨ys,h4,by (first|lia|omega),xs.length-(i+1),by (first|lia|omega),rfl,hlt,zau (sm.trans s4) ha,ys++[v],zab, ?_⟩
   rw[htk]
   have st:SameT H4 (upd H4 acc (.lst (ys++[v]))):=zbK h4
   exact Paired.snoc (Paired.mapP pr fun x' v' r'=>hR _ _ _ _ (s4.t.trans st) r') (hR _ _ _ _ st r4)
 ·have e:i=xs.length:=by (first|lia|omega)
  subst e
  refine .inl ⟨Y.stop _ o, ?_⟩
  rw[List.take_length] at pr
  exact fin acc ys H ha sm hacc pr
end
section
variable {prog:Program}{w:World}{A:Around}{E:Value->Shared->Prop}{s:Shared}
theorem zhB {it t:Addr}{i:Nat}{its:Array Value}{x:Value}{Q:Value->Shared->Prop}(hi:s.heap.IsTupleIter it t i)(ht:s.heap.IsTuple t its)(hx:its[i]? =some x)
  (q:∀h',h'.IsTupleIter it t (i+1)->Heap.SameBut it s.heap h'->Q x {s with heap:=h'}):wpAny (model prog w) A (Builtin.SmallTypes.nextOf (.ref it)) Q E s:=by
 obtain⟨o,e1,e2,e3⟩:=id hi
 obtain⟨u,f1,f2,nu,f3⟩:=ht
 unfold Builtin.SmallTypes.nextOf
 refine wpAny_bind (wpAny_callSpecial?_slot (name:=Str.ofString "__next__") hi.typeIs F.slot_tuple_iterator_next (wpAny_call_entry F.slot_tuple_iterator_next hi.typeIs F.entry_tuple_iterator_next ?_ (F.args_tuple_iterator_next_1 _)))
 show wpAny _ _ (field (.ref it) 0 >>= _) _ _ s
 refine wpAny_bind (wpAny_field e1 e3 (x:=.ref t) rfl ?_)
 show wpAny _ _ (if (Value.ref t==Value.none)=true then _ else _) _ _ s
 rw[if_neg (show ¬((Value.ref t==Value.none)=true) from Bool.false_ne_true)]
 show wpAny _ _ (field (.ref it) 1 >>= _) _ _ s
 refine wpAny_bind (wpAny_field e1 e3 (x:=.int i 0) rfl ?_)
 show wpAny _ _ (seqItems? (.ref t) >>= _) _ _ s
 refine wpAny_bind (wpAny_seqItems f1 f3 ?_)
 simp only[Int.toNat_natCast,hx]
 refine wpAny_bind (wpAny_setField e1 e3 (by simp) (wpAny_pure ⟨x,rfl,wpAny_pure (q _ ⟨_,Heap.get?_update_self _ e1 (Obj.isFreed_of_fields (Obj.data_mapFields e3 _)),(Obj.cls_mapFields ..).trans e2, ?_⟩ (Heap.SameBut.update ..))⟩))
 rw[Obj.data_mapFields e3]
 simp[rawInt]
theorem zin {it t:Addr}{i:Nat}{its:Array Value}{Q:Value->Shared->Prop}(hh:A.handled=none)(hi:s.heap.IsTupleIter it t i)(ht:s.heap.IsTuple t its)(hx:its[i]? =none)
  (q:∀h' e,Heap.ExtBut it s.heap h'->(∃o,h'.get? e=some o/\o.cls=.type "StopIteration")->E (.ref e) {s with heap:=h'}):wpAny (model prog w) A (Builtin.SmallTypes.nextOf (.ref it)) Q E s:=by
 obtain⟨o,e1,e2,e3⟩:=id hi
 obtain⟨u,f1,f2,nu,f3⟩:=ht
 unfold Builtin.SmallTypes.nextOf
 refine wpAny_bind (wpAny_callSpecial?_slot (name:=Str.ofString "__next__") hi.typeIs F.slot_tuple_iterator_next (wpAny_call_entry F.slot_tuple_iterator_next hi.typeIs F.entry_tuple_iterator_next ?_ (F.args_tuple_iterator_next_1 _)))
 show wpAny _ _ (field (.ref it) 0 >>= _) _ _ s
 refine wpAny_bind (wpAny_field e1 e3 (x:=.ref t) rfl ?_)
 show wpAny _ _ (if (Value.ref t==Value.none)=true then _ else _) _ _ s
 rw[if_neg (show ¬((Value.ref t==Value.none)=true) from Bool.false_ne_true)]
 show wpAny _ _ (field (.ref it) 1 >>= _) _ _ s
 refine wpAny_bind (wpAny_field e1 e3 (x:=.int i 0) rfl ?_)
 show wpAny _ _ (seqItems? (.ref t) >>= _) _ _ s
 refine wpAny_bind (wpAny_seqItems f1 f3 ?_)
 simp only[Int.toNat_natCast,hx]
 refine wpAny_bind (wpAny_rule (wpAny_bind (wpAny_setField e1 e3 (by simp) ?_)))
 show wpAny _ _ (newExc (.type "StopIteration") [] >>= _) _ _ _
 refine wpAny_bind ?_
 simp only[newExc,newTuple]
 refine wpAny_bind (wpAny_newObj_type ?_ (by size_fits))
 refine wpAny_bind (m:=firstArgMember _ _) (wpAny_of_eq (a:=Value.none) (by first|rfl|(simp only[firstArgMember];rfl)) ?_)
 refine wpAny_newObj_type ?_ (by size_fits)
 simp only[raiseNew]
 refine wpAny_bind (wpAny_handled ?_)
 first|rw[show A.in1.handled=none from hh]|rw[hh]
 refine wpAny_bind (wpAny_pure (wpAny_throw ?_))
 exact q _ _ (((Heap.SameBut.update ..).extBut.push _).push _) ⟨_,Heap.get?_push_size _ rfl,rfl⟩
end
theorem zkG {prog:Program}{w:World}{A:Around}(hh:A.handled=none)(it t:Addr)(hne:t≠it)(its:Array Value):
  Draws prog w A it [it,t] its.size (fun i v=>its[i]? =some v) (fun i h=>h.IsTupleIter it t i/\h.IsTuple t its) where
 live:=fun _ _ st=>let ⟨o,ho,_⟩:=st.1;⟨o,ho⟩
 frame:=fun _ _ _ st hk=>⟨let ⟨o,ho,r⟩:=st.1;⟨o,hk it (by simp) o ho,r⟩,let ⟨o,ho,r⟩:=st.2;⟨o,hk t (by simp) o ho,r⟩⟩
 item:=fun i s Q E hi st hQ=>zhB st.1 st.2 (x:=its[i]) (by simp[hi]) fun h' a b=>hQ _ h' s.toks (by simp[hi]) ⟨a,st.2.extBut b.extBut hne⟩ b
 done:=fun s Q E st hE=>zin hh st.1 st.2 (by simp) hE
theorem zio (l:Addr)(items:Array Value)(n:Nat)(dct:Option Addr)(sl:Array (Option Value)):
  Meets (Builtin.«enumerate.__new__» ⟨[.type "enumerate",.ref l],[]⟩) (fun _ R s=>s.heap.get? l=some {cls:=.type "tuple",dict:=dct,data:=.seq items n,slots:=sl}/\
   R (.ok (.ret (.ref (s.heap.push {cls:=.type "tuple_iterator",data:=.fields #[.ref l,.int 0 0]}).objs.size)))
    {s with heap:=(s.heap.push {cls:=.type "tuple_iterator",data:=.fields #[.ref l,.int 0 0]}).push {cls:=.type "enumerate",data:=.fields #[.none,.bool false,.ref s.heap.objs.size,rawInt 0,.none,.none]}}):=
 .of_wp fun prog w A R s h=>by
  obtain⟨hp,g,d,tk,os⟩:=s;obtain⟨hl,h⟩:=h
  have hsub:=sub_enumerate
  have hL:Heap.IsTuple (Shared.heap ⟨hp,g,d,tk,os⟩) l items:=⟨_,hl,rfl,n,rfl⟩
  wp_walk using AutoSeq1.wpAny_loadPart' hl
  refine wpAny_stack_any fun st=>wpAny_pure ?_
  split
  ·rename_i c _ _ _ _ _
   cases (c==Value.type "enumerate")<;>(wp_walk using AutoSeq1.wpAny_loadPart' hl,wpAny_pyIter_tuple hL;exact⟨_,rfl,h⟩)
  ·wp_walk using AutoSeq1.wpAny_loadPart' hl,wpAny_pyIter_tuple hL
   exact⟨_,rfl,h⟩
theorem zhC {prog:Program}{w:World}{A:Around}{E:Value->Shared->Prop}{s:Shared}{l:Addr}{items:Array Value}{Q:Value->Shared->Prop}(hL:s.heap.IsTuple l items)
  (h:∀h',IsEnum h' (s.heap.objs.size+1) s.heap.objs.size 0 .none->h'.IsTupleIter s.heap.objs.size l 0->h'.objs.size=s.heap.objs.size+2->
   (∀b o,s.heap.get? b=some o->h'.get? b=some o)->Q (.ref (s.heap.objs.size+1)) {s with heap:=h'}):
  wpAny (model prog w) A (call (.type "enumerate") [.ref l]) Q E s:=by
 obtain⟨⟨c,dct,dt,sl⟩,hl,hc,n,hd⟩:=hL
 replace hc:c=.type "tuple" :=hc
 replace hd:dt=.seq items n:=hd
 subst hc hd
 refine callType_new F.called_enumerate (by decide) (F.typeCall_enumerate_1 _) (F.newCall_enumerate_1 _) (fun obj=>F.args_object_init_2 obj _) F.entry_enumerate_new (zio l items n dct sl) ⟨hl, ?_⟩
 have hz:(s.heap.push {cls:=.type "tuple_iterator",data:=.fields #[.ref l,.int 0 0]}).objs.size=s.heap.objs.size+1:=Heap.size_push ..
 show _/\_
 rw[hz]
 have he:=Heap.get?_push_size (s.heap.push {cls:=.type "tuple_iterator",data:=.fields #[.ref l,.int 0 0]}) (o:={cls:=.type "enumerate",data:=.fields #[.none,.bool false,.ref s.heap.objs.size,rawInt 0,.none,.none]}) rfl
 rw[hz] at he
 exact⟨⟨_,he,rfl⟩,h _ he ⟨_,Heap.get?_push_of_some _ (Heap.get?_push_size _ rfl),rfl,rfl⟩ (by rw[Heap.size_push,hz]) fun b o x=>Heap.get?_push_of_some _ (Heap.get?_push_of_some _ x)⟩
section
variable {X:Cx}{pins:List (Addr×Obj)}{σ:St}{H:Hp}{s:Shared}{h':Heap}
theorem Inv.turnedN {t':Nat}{fp:List Addr}(I:Inv X pins σ H s)(hf:∀b∈fp,FpOk X pins H b)(k:∀b o,b∉fp->s.heap.get? b=some o->h'.get? b=some o):Inv X pins σ H {s with heap:=h',toks:=t'}:=by
 have nit:∀b u,H b=some u->b∉fp:=fun b u e z=>by rw[(hf b z).1] at e;cases e
 refine I.step (g':=s.gens) (d':=s.drawn) (ch:=fp) (fun b hb=> ?_) (fun b o _ _ hc e _=>k b o hc e) (fun b o _ _ hc e _=>⟨o.slots,k b o hc e⟩) (fun _ _ _ _ n=>n)
  (fun b o hc e=>⟨o,k b o hc e⟩) (fun _ _ e=>e) (fun _ _ _ e=>e) (fun b ps e=>⟨#[],by rw[e];simp⟩) (fun m hm=> ?_) (fun b u e=> ?_) I.bare
 ·obtain ⟨_,q1,q2,q3,q4,q5⟩:=hf b hb
  exact⟨q3,q1,q4,q5⟩
 ·obtain ⟨o,es,ep,ho,r⟩:=hm
  exact⟨o,es,ep,k _ o (fun z=>(hf _ z).2.1 rfl) ho,r⟩
 ·refine (I.hok b u e).stay (fun c v hc q=>k c v ?_ q) (fun _ q=>q) fun _ _ q=>q
  rcases hc with z|z
  ·rw[z];exact nit b u e
  ·exact nit c _ z
theorem Inv.trackT {a:Addr}{xs:List V}{its:List Value}(I:Inv X pins σ H s)(hn:H a=none)(hs:X.s₀.heap.objs.size<=a)(hL:a≠X.env.locals)(hc:∀x c,X.env.cells.lookup x=some c->c≠a)(hp:∀p∈X.pn++pins,p.1≠a)
  (rv:Vals xs its) (ht:PTup s.heap a its.toArray) (hz:xs.length<=sizeLine):Inv X pins σ (upd H a (.tup xs)) s:=by
 have ne:∀{b u},H b=some u->b≠a:=fun e=>zak e hn
 refine⟨I.ok,I.os,I.bare,⟨I.base.keep,I.base.slot,fun b o e n hx=> ?_,I.base.there,fun b ys e=> ?_,fun b o u e=> ?_,fun b ps e=> ?_⟩,I.loc,I.cell, ?_,fun x c e=> ?_,fun p hp'=> ?_,fun b u e=> ?_,I.len⟩
 ·rw [zah (Nat.ne_of_lt (Nat.lt_of_lt_of_le (Heap.lt_size e) hs))]
  exact I.base.free b o e n hx
 ·have q:=I.base.tups b ys e
  rw[zah (ne q)];exact q
 ·have q:=I.base.frzs b o u e
  rw[zah (ne q)];exact q
 ·obtain ⟨m,q⟩:=I.base.tbls b ps e
  exact⟨m,by rw[zah (ne q)];exact q⟩
 ·rw[zah (Ne.symm hL)];exact I.free
 ·rw[zah (hc x c e)];exact I.freeC x c e
 ·obtain ⟨q1,q2,q3⟩:=I.pin p hp'
  exact⟨q1,by rw[zah (hp p hp')];exact q2,q3⟩
 ·by_cases hb:b=a
  ·subst hb
   rw[zab] at e;cases e
   exact⟨hz,its,rv,ht⟩
  ·rw [zah hb] at e
   exact (I.hok b u e).stay (fun _ _ _ q=>q) (fun c q=>by rw[zah (ne q)];exact q) fun c ys q=>by rw[zah (ne q)];exact q
theorem Inv.turnedT {t':Nat}{fp:List Addr}{xs:List V}{its:List Value}(I:Inv X pins σ H s)(hf:∀b∈fp,FpOk X pins H b)(k:∀b o,b∉fp->s.heap.get? b=some o->h'.get? b=some o)
  (rv:Vals xs its) (ht:PTup h' s.heap.objs.size its.toArray) (hz:xs.length<=sizeLine):Inv X pins σ (upd H s.heap.objs.size (.tup xs)) {s with heap:=h',toks:=t'}:=by
 refine (I.turnedN (t':=t') hf k).trackT (I.hok.fresh (Nat.le_refl _)) I.sz (Nat.ne_of_gt I.lt) (fun x c e=> ?_) (fun p hp=> ?_) rv ht hz
 ·obtain ⟨v,q⟩:=I.cell x c e
  exact Nat.ne_of_lt q.lt
 ·exact Nat.ne_of_lt (Heap.lt_size (I.pin p hp).1)
end
noncomputable def Ite (K:PySem.W.Frag)(a:Addr):It:=
 ⟨fun i H=>∃xs x,SqT K H a xs/\xs[i]? =some x,fun i H v H'=>∃t x,H t=none/\v=.ref t/\H'=upd H t (.tup [.int i,x])/\∀xs,SqT K H a xs->xs[i]? =some x,fun i H=>∃xs,SqT K H a xs/\xs.length=i⟩
theorem zhD {P:Program}{w:World}{K:PySem.W.Frag}{els:List Expr}{kx}{tp:Pos}(a e it:Addr)(hne:e≠it):Turn P w K (.Tuple els kx tp) (Ite K a) [e,it] e (fun i h=>(∃old,IsEnum h e it i old)/\h.IsTupleIter it a i) where
 mem:=by simp
 obj:=fun i h st b hb=>by
  obtain⟨⟨old,he⟩,o,ho,hc,hd⟩:=st
  rcases List.mem_cons.mp hb with rfl|hb
  ·exact⟨_,he,fun v z=>by cases z⟩
  ·rw [List.mem_singleton.mp hb]
   exact⟨o,ho,fun v z=>by rw[hd] at z;cases z⟩
 keep:=fun i h h' st k=>by
  obtain⟨⟨old,he⟩,o,ho,r⟩:=st
  exact⟨⟨old,k e (by simp) _ he⟩,o,k it (by simp) _ ho,r⟩
 item:=by
  intro X hP hw hK hc i pins s σ H E I hf st hg
  subst hP hw hK
  obtain⟨xs,x,hq,hx⟩:=hg
  obtain⟨its,rv,p,hz⟩:=I.tuple hq
  obtain⟨u,hu,ru⟩:=rv.get hx
  obtain⟨⟨old,he⟩,hi⟩:=st
  obtain⟨o,ho,hcl,hd⟩:=id hi
  have hT:s.heap.IsTuple a its.toArray:=p
  have hai:a≠it:=fun z=>by
   obtain⟨o',e1,e2,_⟩:=p
   rw[z,ho] at e1;cases e1;rw[hcl] at e2;injection e2 with z2;revert z2;decide
  have hae:e≠a:=fun z=>by
   obtain⟨o',e1,e2,_⟩:=p
   rw[<-z,he] at e1;cases e1;injection e2 with z2;revert z2;decide
  have hlt:i<its.toArray.size:=by
   have:=(List.getElem?_eq_some_iff.mp hu).1
   simpa using this
  have hh:X.A.in1.handled=none:=I.ok.hd hc
  refine wpAny_pyNext_enum_itemD (zkG hh it a hai its.toArray) he ⟨hi,hT⟩ hlt hne (by simp[hne,hae]) fun x' h1 tk hP1 ho1 hs1 hT1 hz1 hk1=> ?_
  have ex:x'=u:=by
   have q:its[i]? =some x':=by simpa using hP1
   rw[hu] at q;exact (Option.some.inj q).symm
  subst ex
  refine⟨_,rfl,wpAny_letOwnedTupleGo_enum ho1 fun h2 he2 hs2=> ?_⟩
  have hne0:s.heap.objs.size≠e:=Nat.ne_of_gt (Heap.lt_size he)
  have keep:∀b o,b∉[e,it]->s.heap.get? b=some o->h2.get? b=some o:=fun b o hb e0=>(hs2.2 b fun z=>hb (by simp[z])).trans (hk1 b o (fun z=>hb (by simp[z])) (fun z=>hb (by simp[z])) e0)
  refine⟨.ref s.heap.objs.size,_,I.turnedT (h':=h2) (t':=tk+1) (xs:=[.int i,x]) hf keep (.cons ⟨tk,rfl⟩ (.cons ru .nil)) ⟨_,(hs2.2 _ hne0).trans hT1,rfl,⟨_,rfl⟩,rfl,rfl⟩ (by show 2<=sizeLine;decide),rfl,⟨_,x,I.hok.fresh (Nat.le_refl _),rfl,rfl,fun ys hy=>by rw[I.tuple_inj hy hq];exact hx⟩,⟨⟨_,by simpa using he2⟩, ?_⟩,fun b hb=> ?_⟩
  ·obtain ⟨⟨o1,e1,r1⟩,_⟩:=hs1
   exact⟨o1,(hs2.2 it (Ne.symm hne)).trans e1,r1⟩
  ·rcases List.mem_cons.mp hb with rfl|hb'
   ·rw[zah (Nat.ne_of_lt (Heap.lt_size he))];exact (hf _ hb).1
   ·have e9:=List.mem_singleton.mp hb'
    subst e9
    rw[zah (Nat.ne_of_lt (Heap.lt_size ho))];exact (hf _ hb).1
 done:=by
  intro X hP hw hK hc i pins s σ H E I hf st hg
  subst hP hw hK
  obtain⟨xs,hq,hx⟩:=hg
  obtain⟨its,rv,p,hz⟩:=I.tuple hq
  obtain⟨⟨old,he⟩,hi⟩:=st
  obtain⟨o,ho,hcl,hd⟩:=id hi
  have hT:s.heap.IsTuple a its.toArray:=p
  have hai:a≠it:=fun z=>by
   obtain⟨o',e1,e2,_⟩:=p
   rw[z,ho] at e1;cases e1;rw[hcl] at e2;injection e2 with z2;revert z2;decide
  have hh:X.A.in1.handled=none:=I.ok.hd hc
  have hl:its.toArray.size=i:=by rw[List.size_toArray,<-rv.length,hx]
  refine wpAny_pyNext_enum_endD (zkG hh it a hai its.toArray) he (by rw[hl];exact⟨hi,hT⟩) fun h1 hk=>⟨rfl, ?_⟩
  exact I.turnedN (t':=s.toks) hf fun b o hb e0=>hk b o (fun z=>hb (by simp[z])) e0
 self:=fun _ _ _ _ _ st h=>by
  obtain⟨⟨old,he⟩,_⟩:=st
  exact wpAny_pyIter_enum he h
section
variable {X:Cx}
noncomputable def znq (K:PySem.W.Frag)(ta:TA):TI:=fun σ H R=>ta σ H fun vs H1=>∃a,vs=[.ref a]/\(∃xs,SqT K H1 a xs)/\R (Ite K a) H1
theorem zcX {els:List Expr}{kx}{tp:Pos}{l:Expr}{ta:TA}{p pos:Pos}(hg:Gl X "enumerate")(hm:X.mg "enumerate" =none)(ha:PA X [l] ta)(hs:starEach [l] X.env=[(false,eval l X.env)]:=by rfl):
  PI X (.Tuple els kx tp) (.Call (.Name "enumerate" p) [l] [] pos) (znq X.K ta):=by
 intro pins s σ H R I h
 refine Call_ (zdd I hg hm boot_enumerate (PyProof.Rows.callWith_type1 (thn (ha pos pins s σ H _ I h) fun us s1 zq=> ?_) hs rfl))
 obtain⟨vs,H1,I1,r1,q1⟩:=zq
 obtain⟨a,rfl,⟨xs,hq⟩,q⟩:=q1
 obtain⟨u,rfl,ru⟩:=zbI r1
 cases (show u=Value.ref a from ru)
 obtain⟨its,rv,p',hz⟩:=I1.tuple hq
 refine zhC (show s1.heap.IsTuple a its.toArray from p') fun h' he hi hsz hk=>wpAny_pyIter_enum he ?_
 have I2:Inv X pins σ H1 {s1 with heap:=h'}:=I1.kept (t':=s1.toks) hk
 refine⟨s1.heap.objs.size+1,[s1.heap.objs.size+1,s1.heap.objs.size],_,_,H1,rfl,I2,zhD a _ _ (Nat.ne_of_gt (Nat.lt_succ_self _)),⟨⟨_,he⟩,hi⟩,fun b hb=> ?_,q⟩
 rcases List.mem_cons.mp hb with rfl|hb
 ·exact I1.fpOk (Nat.le_succ _) (I1.hok.fresh (Nat.le_succ _))
 ·rw [List.mem_singleton.mp hb]
  exact I1.fpOk (Nat.le_refl _) (I1.hok.fresh (Nat.le_refl _))
end
structure ZipT (h:Heap) (z TI TO i1 i2 a b:Addr) (i:Nat):Prop where
 z:IsZip h z TI TO .none
 ti:IsPair h TI (.ref i1) (.ref i2)
 to:∃x y,IsPair h TO x y
 one:h.IsTupleIter i1 a i
 two:h.IsTupleIter i2 b i
structure ZipNe (z TI TO i1 i2:Addr):Prop where
 az:TI≠z
 bz:TO≠z
 cz:i1≠z
 dz:i2≠z
 ab:TI≠TO
 ac:TI≠i1
 ad:TI≠i2
 bc:TO≠i1
 bd:TO≠i2
 cd:i1≠i2
section
variable {prog:Program}{w:World}{A:Around}{E:Value->Shared->Prop}{s:Shared}{z TI TO i1 i2 a b:Addr}{i:Nat}{xs ys:Array Value}
theorem zfE {T:Addr}{p q x:Value}{k:Nat}{Q:Unit->Shared->Prop}(hT:IsPair s.heap T p q)(h:∀h',h'.get? T=some {cls:=.type "tuple",data:=.seq ((#[p,q]:Array Value).setIfInBounds k x)}->Heap.SameBut T s.heap h'->Q () {s with heap:=h'}):
  wpAny (model prog w) A (updateSeq T (·.setIfInBounds k x)) Q E s:=wpAny_updateSeq_pair hT h
end
theorem SqT.fpNe {X:Cx}{pins:List (Addr×Obj)}{σ:St}{H:Hp}{s:Shared}{t c:Addr}{zs:List V}(I:Inv X pins σ H s)(hq:SqT X.K H t zs)(f:FpOk X pins H c):t≠c:=by
 rintro rfl
 rcases hq with (h|⟨o,h⟩)|h
 ·rw[f.1] at h;cases h
 ·rw[f.1] at h;cases h
 ·obtain ⟨o,_,_,hl,_⟩:=h
  have e:=I.ok.mod.kin _ _ hl
  rcases f.2.2.2.1 with z|z
  ·exact I.ok.noex _ _ e z
  ·exact absurd (Nat.lt_of_lt_of_le (Heap.lt_size e) (Nat.le_trans I.ok.bsz z)) (Nat.lt_irrefl _)
section
variable {X:Cx}
end
theorem zd2 {α β:Type}{f g:α->Option β}:∀{l:List α},(∀x∈l,f x=g x)->l.filterMap f=l.filterMap g
 |[],_=>rfl
 |a::l,h=>by rw[List.filterMap_cons,List.filterMap_cons,h a List.mem_cons_self,zd2 fun x hx=>h x (List.mem_cons_of_mem _ hx)]
theorem zgq (its:List Value):(List.range its.length).filterMap (fun (k:Nat)=>its.toArray[its.length-1-k]?)=its.reverse:=by
 apply List.ext_getElem?
 intro i
 have e:(List.range its.length).filterMap (fun (k:Nat)=>its.toArray[its.length-1-k]?)=(List.range its.length).map fun k=>its.getD (its.length-1-k) .none:=by
  rw[<-List.filterMap_eq_map]
  apply zd2
  intro k hk
  have hk':=List.mem_range.mp hk
  have h1:its.length-1-k<its.length:=by (first|lia|omega)
  simp[h1]
 rw[e,List.getElem?_map]
 by_cases h:i<its.length
 ·rw [List.getElem?_range h,List.getElem?_reverse h]
  have h1:its.length-1-i<its.length:=by (first|lia|omega)
  simp[h1]
 ·rw [List.getElem?_eq_none (by simpa using h),List.getElem?_eq_none (by simpa using h)]
  rfl
theorem zjP (its:List Value):slicePick its.toArray none none (some (-1))=its.reverse.toArray:=by
 have hb:sliceBounds none none (some (-1)) its.length=((its.length:Int)-1,-1,-1):=by
  unfold sliceBounds;simp
 have hr:∀n:Nat,sliceRange ((n:Int)-1) (-1) (-1)=(List.range n).map fun k=>n-1-k:=by
  intro n
  unfold sliceRange
  have e1:(if (-1:Int)>0 then (if (n:Int)-1< -1 then (-1-((n:Int)-1)+-1-1)/ -1 else 0) else if (n:Int)-1>-1 then ((n:Int)-1- -1- -1-1)/ - -1 else 0).toNat=n:=by
   rw[if_neg (by decide)]
   by_cases h:(n:Int)-1>-1
   ·rw [if_pos h]
    have:((n:Int)-1- -1- -1-1)/ - -1=n:=by
     rw[show (- -1:Int)=1 by decide,Int.ediv_one];(first|lia|omega)
    rw[this];rfl
   ·rw[if_neg h];(first|lia|omega)
  dsimp only
  rw[e1]
  apply List.map_congr_left
  intro k hk
  have:=List.mem_range.mp hk
  (first|lia|omega)
 unfold slicePick
 rw[List.size_toArray,hb]
 show (List.filterMap _ (sliceRange ((its.length:Int)-1) (-1) (-1))).toArray=_
 rw[hr,List.filterMap_map]
 congr 1
 exact zgq its
section
variable {X:Cx}{e:Expr}{te:TE}{p2 pos:Pos}
noncomputable def RvR (X:Cx)(r:V->Hp->VK->Prop):Prop:=
 ∀(pins:List (Addr×Obj)) (s:Shared) (σ:St) (H:Hp) (x:V) (v vs:Value) (sl:Addr) (Q:VK),Inv X pins σ H s->RelV x v->s.heap.IsSliceOf sl .none .none vs->IsPart vs (some (-1))->r x H Q->
  ∃T id,typeLookup (.type T) "__getitem__" =pure (some (.builtin id))/\s.TypeIs v T/\wpAny (model X.prog X.w) X.A (getItem v (.ref sl)) (EP X pins σ Q) X.xe s
theorem ziq {r:V->Hp->VK->Prop}{j:Nat}{p3 p4:Pos}(hr:RvR X r)(he:PE X e te):PE X (.Subscript e (.Slice none none (some (.UnaryOp .USub (.Constant (.int 1) j p3) p4)) p2) pos) (tUn r te):=by
 intro pins s σ H Q I h
 have hst:PO X (some (.UnaryOp .USub (.Constant (.int 1) j p3) p4)) (zmm (tUn (rU fun i=>.int (-i)) (tC (.int 1)))):=zb8 (zhu zdG zaj)
 refine Subscript_ (thn (he pins s σ H _ I h) fun v s1 zq=> ?_)
 obtain⟨x,H1,I1,r1,q1⟩:=zq
 refine wpAny_Slice (thn (zbJ pins s1 σ H1 (fun o H'=>o=none/\r x H' Q) I1 ⟨rfl,q1⟩) fun vl s2 ⟨l,H2,I2,pl,el,q2⟩=>thn (zbJ pins s2 σ H2 (fun o H'=>o=none/\r x H' Q) I2 ⟨rfl,q2⟩) fun vu s3 ⟨u,H3,I3,pu,eu,q3⟩=> ?_)
 subst el eu
 refine thn (hst pins s3 σ H3 (fun o H'=>o=some (-1)/\r x H' Q) I3 ⟨1,rfl,-1,rfl,rfl,q3⟩) fun vs s4 zq=> ?_
 obtain⟨o,H4,I4,ps,eo,q4⟩:=zq
 subst eo
 cases pl
 cases pu
 have I5:Inv X pins σ H4 {s4 with heap:=s4.heap.push {cls:=.type "slice",data:=.fields #[.none,.none,vs]}}:=I4.kept (t':=s4.toks) fun b ob q=>Heap.get?_push_of_some _ q
 obtain⟨T,id,hT,ht,hg⟩:=hr pins {s4 with heap:=s4.heap.push {cls:=.type "slice",data:=.fields #[.none,.none,vs]}} σ H4 x v vs s4.heap.objs.size Q I5 r1 (Heap.IsSliceOf.new ..) ps q4
 show wpAny (model X.prog X.w) X.A (subscriptTail e (.Slice none none (some (.UnaryOp .USub (.Constant (.int 1) j p3) p4)) p2) v (.ref s4.heap.objs.size)) (EP X pins σ Q) X.xe {s4 with heap:=s4.heap.push {cls:=.type "slice",data:=.fields #[.none,.none,vs]}}
 exact tail_any (ops:=[v,.ref s4.heap.objs.size]) ht hT hg (by with_unfolding_all rfl)
noncomputable def rRvL (K:PySem.W.Frag):V->Hp->VK->Prop:=fun x H Q=>∃a xs,x=.ref a/\SqL K H a xs/\∀p,H p=none->Q (.ref p) (upd H p (.lst xs.reverse))
theorem zir:RvR X (rRvL X.K):=by
 intro pins s σ H x v vs sl Q I rx hs ps h
 obtain⟨a,xs,rfl,hx,q⟩:=h
 cases rx
 obtain⟨its,r,ht,hz⟩:=I.list hx
 have hlen:=r.length
 refine⟨"list",_,slot_list_getitem.lookup,ht.isList.typeIs, ?_⟩
 refine wpAny_getItem_list_slice ht.isList hs .none .none ps (by simp) ?_ (by rw[List.size_toArray]<;>(first|lia|omega))
 rw[zjP]
 refine⟨.ref s.heap.objs.size,_,I.laid (t':=s.toks) (o:=.lst xs.reverse) (fun b ob q=>Heap.get?_push_of_some _ q) (Nat.le_refl _) ?_,rfl,q _ (I.hok.fresh (Nat.le_refl _))⟩
 exact⟨by rw[List.length_reverse];exact hz,_,0,r.reverse,Heap.get?_push_size _ rfl⟩
theorem zcJ {prog:Program}{w:World}{A:Around}{E:Value->Shared->Prop}{s:Shared}{t sl:Addr}{its:List Value}{vs:Value}{Q:Value->Shared->Prop}(ht:IsTup s.heap t its.toArray)(hs:s.heap.IsSliceOf sl .none .none vs)(ps:IsPart vs (some (-1)))
  (h:Q (.ref s.heap.objs.size) {s with heap:=s.heap.push {cls:=.type "tuple",data:=.seq its.reverse.toArray}}) (hsz:its.length<=sizeLine):wpAny (model prog w) A (getItem (.ref t) (.ref sl)) Q E s:=by
 have htake:sizeOk (.seq its.reverse.toArray):=by
  show its.reverse.toArray.size<=sizeLine
  rw[List.size_toArray,List.length_reverse];exact hsz
 obtain⟨os,hos,hcs,hds⟩:=id hs
 have hTs:s.TypeIs (.ref sl) "slice" :=⟨os,hos,hcs⟩
 unfold getItem
 try with_reducible refine wpAny_holding ?_
 first|refine wpAny_bind (wpAny_pure ?_)|skip
 refine wpAny_bind (wpAny_sequenceKey ht.typeIs (by decide) ?_)
 refine wpAny_bind (wpAny_callSpecial?_slot (name:=Str.ofString "__getitem__") ht.typeIs PyProof.Rows.slot_tuple_getitem
  (wpAny_call_entry PyProof.Rows.slot_tuple_getitem ht.typeIs entry_tuple_getitem ?_ (args_tuple_getitem _ _)))
 show wpAny _ _ (Builtin.Tuple.tupleItemsOf (.ref t) >>= _) _ _ s
 refine wpAny_bind (tupleItemsOf_ ht ?_)
 refine wpAny_bind (wpAny_typeOf hTs ?_)
 rw[if_pos (by decide)]
 have hap:∀{Q':Int×Int×Nat->Shared->Prop},Q' ((its.length:Int)-1,-1,its.length) s->wpAny (model prog w) A.in1 (Builtin.Slice.sliceApplied (.ref sl) (pure ((its.toArray.size:Nat):Int))) Q' E s:=fun {Q'} q=>by
  unfold Builtin.Slice.sliceApplied Builtin.Slice.sliceFields
  refine wpAny_bind (wpAny_bind (wpAny_field hos hds (x:=.none) rfl (wpAny_bind (wpAny_field hos hds (x:=.none) rfl (wpAny_bind (wpAny_field hos hds (x:=vs) rfl (wpAny_pure ?_)))))))
  refine wpAny_bind (HT.slicePart_ ps ?_)
  show wpAny _ _ (if ((-1:Int)==0)=true then _ else _) _ _ s
  rw[if_neg (by decide)]
  refine wpAny_bind (slicePart_none (wpAny_bind (slicePart_none (wpAny_bind (wpAny_pure ?_)))))
  have e1:Builtin.Slice.sliceAdjust none none (-1) ((its.toArray.size:Nat):Int)=((its.length:Int)-1,-1):=by
   unfold Builtin.Slice.sliceAdjust;simp
  have e2:Builtin.Slice.slicePlaces ((its.length:Int)-1) (-1) (-1)=its.length:=by
   unfold Builtin.Slice.slicePlaces
   rw[if_neg (by decide)]
   by_cases h:(its.length:Int)-1>-1
   ·rw[if_pos h,show (- -1:Int)=1 by decide,Int.ediv_one];(first|lia|omega)
   ·rw[if_neg h];(first|lia|omega)
  show wpAny _ _ (match Builtin.Slice.sliceAdjust none none (-1) ((its.toArray.size:Nat):Int) with|(lo,hi)=>pure (lo,(-1:Int),Builtin.Slice.slicePlaces lo hi (-1))) _ _ s
  rw[e1]
  show wpAny _ _ (pure ((its.length:Int)-1,(-1:Int),Builtin.Slice.slicePlaces ((its.length:Int)-1) (-1) (-1))) _ _ s
  rw[e2]
  exact wpAny_pure q
 refine wpAny_bind (hap ?_)
 show wpAny _ _ (if ((its.length:Int)-1==0&&(-1:Int)==1&&its.length==its.toArray.size)=true then _ else _) _ _ s
 rw[if_neg (by simp)]
 have e3:(List.filterMap (fun (k:Nat)=>its.toArray[((its.length:Int)-1+(k:Int)*-1).toNat]?) (List.range its.length))=its.reverse:=by
  rw[<-zgq its]
  apply zd2
  intro k hk
  have:=List.mem_range.mp hk
  have e:((its.length:Int)-1+(k:Int)*-1).toNat=its.length-1-k:=by (first|lia|omega)
  rw[e]
 rw[e3]
 first
  |exact wpAny_bind (m:=Builtin.Tuple.tupleExact _) (wpAny_newObj_type (wpAny_pure ⟨_,rfl,wpAny_pure h⟩) htake)
  |exact wpAny_bind (m:=Builtin.Tuple.tupleExact _) (wpAny_newObj_type (wpAny_bind (wpAny_pure (wpAny_pure ⟨_,rfl,wpAny_pure h⟩))) htake)
  |exact wpAny_bind (wpAny_bind (m:=Builtin.Tuple.tupleExact _) (wpAny_newObj_type (wpAny_pure (wpAny_pure ⟨_,rfl,wpAny_pure h⟩)) htake))
  |exact wpAny_bind (wpAny_bind (m:=Builtin.Tuple.tupleExact _) (wpAny_newObj_type (wpAny_pure ⟨_,rfl,wpAny_pure h⟩) htake))
noncomputable def rRvT (K:PySem.W.Frag):V->Hp->VK->Prop:=fun x H Q=>∃a xs,x=.ref a/\SqT K H a xs/\∀p,H p=none->Q (.ref p) (upd H p (.tup xs.reverse))
theorem zmu:RvR X (rRvT X.K):=by
 intro pins s σ H x v vs sl Q I rx hs ps h
 obtain⟨a,xs,rfl,hx,q⟩:=h
 cases rx
 obtain⟨its,r,ht,hz⟩:=I.tuple hx
 have hlen:=r.length
 refine⟨"tuple",_,PyProof.Rows.slot_tuple_getitem.lookup,ht.typeIs, ?_⟩
 refine zcJ ht hs ps ?_ (by (first|lia|omega))
 refine⟨.ref s.heap.objs.size,_,I.laid (t':=s.toks) (o:=.tup xs.reverse) (fun b ob q=>Heap.get?_push_of_some _ q) (Nat.le_refl _) ?_,rfl,q _ (I.hok.fresh (Nat.le_refl _))⟩
 exact⟨by rw[List.length_reverse];exact hz,_,r.reverse,PTup.new⟩
end
section
variable {X:Cx}
noncomputable def zlj:List V->Hp->VK->Prop:=fun xs H Q=>∃j:Int,xs=[.int j]/\∀p,H p=none->Q (.ref p) (upd H p (.rng 0 j))
theorem zdl:zbu X (.type "range") zlj:=by
 intro pins s σ H xs us Q I rs h
 obtain⟨j,rfl,q⟩:=h
 obtain⟨u,rfl,t,rfl⟩:=zbI rs
 refine call_range_1 ⟨.ref s.heap.objs.size,_,I.laid (o:=.rng 0 j) (fun b ob q=>Heap.get?_push_of_some _ q) (Nat.le_refl _) ?_,rfl,q _ (I.hok.fresh (Nat.le_refl _))⟩
 exact⟨_,_,_,Heap.get?_push_size _ rfl⟩
noncomputable def zjQ:List V->Hp->VK->Prop:=fun xs H Q=>∃(a:Addr) (j:Int),xs=[.ref a]/\H a=some (.rng 0 j)/\0<=j/\j<=1000/\∀p,H p=none->Q (.ref p) (upd H p (.lst (zaN 0 j.toNat)))
theorem zct (hc:X.calm=true):zbu X (.type "list") zjQ:=by
 intro pins s σ H xs us Q I rs h
 obtain⟨a,j,rfl,ha,h0,h1,q⟩:=h
 obtain⟨u,rfl,ru⟩:=zbI rs
 cases (show u=Value.ref a from ru)
 obtain⟨t,u,v,ho⟩:=(show ObjOk X.prog X.w H s.heap a (.rng 0 j) from I.hok a _ ha)
 have hh:X.A.handled=none:=I.ok.hd hc
 have hsz:Builtin.Range.rangeSize 0 j 1=((j.toNat:Nat):Int):=by rw[rangeSize_one];split<;>(first|lia|omega)
 refine call_list_range hh ho (small_one (by (first|lia|omega)) (by (first|lia|omega)) (by (first|lia|omega)) (by (first|lia|omega))) hsz (by (first|lia|omega)) fun h' tk acc c hk hS hi=> ?_
 obtain⟨i1,i2⟩:=hi
 refine⟨.ref s.heap.objs.size,_,I.laid (t':=tk) (o:=.lst (zaN 0 j.toNat)) hk (Nat.le_refl _) ?_,rfl,q _ (I.hok.fresh (Nat.le_refl _))⟩
 refine⟨by rw[zb0];exact Nat.le_trans (by (first|lia|omega):j.toNat<=1000) (by decide),acc.toList,c, ?_,by simpa using hS⟩
 have key:∀(n:Nat) (l:List Value) (k:Int),l.length=n->(∀(i:Nat) v,l[i]? =some v->∃t,v=Value.int (k+(i:Int)) t)->Vals ((List.range n).map fun (i:Nat)=>V.int (k+(i:Int))) l:=by
  intro n
  induction n with
  |zero=>intro l k hl _;cases l with
   |nil=>exact .nil
   |cons _ _=>cases hl
  | succ n ih=>
   intro l k hl hv
   cases l with
   |nil=>cases hl
   | cons x r=>
    rw[List.range_succ_eq_map,List.map_cons,List.map_map]
    refine .cons ?_ ?_
    ·obtain ⟨t,e⟩:=hv 0 x rfl
     exact⟨t,e⟩
    ·have:=ih r (k+1) (by simpa using hl) (fun i v e=>by
      obtain⟨t,e'⟩:=hv (i+1) v (by simpa using e)
      exact⟨t,by rw[e'];congr 1;push_cast;(first|lia|omega)⟩)
     have e:((fun (i:Nat)=>V.int (k+(i:Int)))∘Nat.succ)=fun (i:Nat)=>V.int (k+1+(i:Int)):=by
      funext i
      show V.int (k+((i+1:Nat):Int))=_
      congr 1;push_cast;(first|lia|omega)
     rw[e]
     exact this
 refine key _ _ 0 (by simpa using i1) fun i v e=> ?_
 obtain⟨t,e'⟩:=i2 i v (by simpa using e)
 exact⟨t,by rw[e'];congr 1;(first|lia|omega)⟩
noncomputable def zlk:V->List V->Hp->VK->Prop:=fun x vs H Q=>∃l xs i y,x=.ref l/\vs=[.int i,y]/\H l=some (.lst xs)/\0<=i/\i<=xs.length/\xs.length<sizeLine/\Q .non (upd H l (.lst (xs.take i.toNat++y::xs.drop i.toNat)))
theorem zis:MtM X "list.insert" zlk:=by
 intro pins s σ H x vs v us Q I rx rv h
 obtain⟨l,xs,i,y,rfl,rfl,hH,h0,h1,hz,q⟩:=h
 cases rx
 obtain⟨ui,uy,rfl,ri,ry⟩:=rv.two
 obtain⟨ti,rfl⟩:=ri
 obtain⟨z,its,n,r,hl,e⟩:=I.lstM hH
 have hfit:¬(!Builtin.List.listFitsIndex i)=true:=by
  have hb:(i:Int)<2^63:=Int.lt_of_le_of_lt h1 (by have:=zdI;(first|lia|omega))
  simp[Builtin.List.listFitsIndex]
  (first|lia|omega)
 refine call_meets F.slot_list_insert ⟨_,e,rfl⟩ F.entry_list_insert (F.args_list_insert_3 _ _ _) (AutoSeq1.list_insert_list_int_val_1 l its.toArray n i ti uy hfit (by rw[List.size_toArray];(first|lia|omega))) ⟨e, ?_⟩
 refine⟨.non,_,I.lset (its':=its.take i.toNat++uy::its.drop i.toNat) hH e ?_ ((r.take _).append (.cons ry (r.drop _))) ?_,rfl,q⟩
 ·have hle:i.toNat<=its.length:=by (first|lia|omega)
  simp only[List.size_toArray]
  rw[if_neg (by (first|lia|omega)),Nat.min_eq_left hle]
  apply Array.ext'
  simp
  rw[List.take_of_length_le (by simp)]
 ·rw [List.length_append,List.length_cons,List.length_take,List.length_drop]
  (first|lia|omega)
end
mutual
inductive Is (H:Hp):V->PyData->Prop
 |non:Is H .non .none
 |bl (b:Bool):Is H (.bl b) (.bool b)
 |int (i:Int):Is H (.int i) (.int i)
 |str (x:Str):Is H (.str x) (.str x)
 |tup {a:Addr} {vs:List V} {ds:List PyData}:H a=some (.tup vs)->IsAll H vs ds->Is H (.ref a) (.tuple ds)
 |lst {a:Addr} {vs:List V} {ds:List PyData}:H a=some (.lst vs)->IsAll H vs ds->Is H (.ref a) (.list ds)
inductive IsAll (H:Hp):List V->List PyData->Prop
 |nil:IsAll H [] []
 |cons {v:V} {vs:List V} {d:PyData} {ds:List PyData}:Is H v d->IsAll H vs ds->IsAll H (v::vs) (d::ds)
end
theorem IsAll.ints {H:Hp}:∀ns:List Int,IsAll H (ns.map V.int) (ns.map PyData.int)
 |[]=>.nil
 |n::r=>.cons (.int n) (IsAll.ints r)
theorem Is.ints {H:Hp}{a:Addr}{ns:List Int}(h:H a=some (.tup (ns.map V.int))):Is H (.ref a) (.tuple (ns.map PyData.int)):=.tup h (IsAll.ints ns)
section
variable {X:Cx}{pins:List (Addr×Obj)}{σ:St}{H:Hp}{s:Shared}
mutual
theorem Inv.reads (I:Inv X pins σ H s):∀{v:V} {d:PyData} {u:Value},Is H v d->RelV v u->∃as,Reads s.heap u d as
 |_,_,_,.non,r=>by cases (show _=Value.none from r);exact⟨_,.none⟩
 |_,_,_,.bl b,r=>by cases (show _=Value.bool b from r);exact⟨_,.bool b⟩
 |_,_,_,.int i,r=>by obtain⟨t,rfl⟩:=r;exact⟨_,.int i t⟩
 |_,_,_,.str x,r=>by obtain⟨t,rfl⟩:=r;exact⟨_,.str x t⟩
 |_,_,_,.tup (a:=a) (vs:=vs) h al,r=>by
  cases (show _=Value.ref a from r)
  obtain⟨_,its,rv,o,ho,hc,⟨n,hd⟩,_⟩:=(show ObjOk X.prog X.w H s.heap a (.tup vs) from I.hok a _ h)
  obtain⟨as,q⟩:=Inv.readsAll I al rv
  exact⟨as,.tuple ho hc hd (by simpa using q)⟩
 |_,_,_,.lst (a:=a) (vs:=vs) h al,r=>by
  cases (show _=Value.ref a from r)
  obtain⟨_,its,n,rv,ho⟩:=(show ObjOk X.prog X.w H s.heap a (.lst vs) from I.hok a _ h)
  obtain⟨as,q⟩:=Inv.readsAll I al rv
  exact⟨_,.list ho rfl rfl (by simpa using q)⟩
theorem Inv.readsAll (I:Inv X pins σ H s):∀{vs:List V} {ds:List PyData} {us:List Value},IsAll H vs ds->Vals vs us->∃as,ReadsAll s.heap us ds as
 |_,_,_,.nil,.nil=>⟨_,.nil⟩
 |_,_,_,.cons h al,.cons r rs=>by
  obtain⟨as,q⟩:=Inv.reads I h r
  obtain⟨bs,q'⟩:=Inv.readsAll I al rs
  exact⟨_,.cons q q'⟩
end
noncomputable def rEqD:R2:=fun x y H Q=>∃d e,Is H x d/\Is H y e/\SeqAt.shaped d=true/\SeqAt.shaped e=true/\Q (.bl (PyData.eqv d e)) H
noncomputable def rNeD:R2:=fun x y H Q=>∃d e,Is H x d/\Is H y e/\SeqAt.shaped d=true/\SeqAt.shaped e=true/\Q (.bl (!PyData.eqv d e)) H
theorem zit (hu:X.A.units+64<cLine):OpR X (compareOp .Eq) rEqD:=by
 intro pins s σ H x y v u Q I rx ry h
 obtain⟨d,e,hd,he,sd,se,q⟩:=h
 obtain⟨as,ra⟩:=I.reads hd rx
 obtain⟨bs,rb⟩:=I.reads he ry
 exact eq_dataH ra rb sd se hu ⟨.bl _,H,I,rfl,q⟩
theorem zdJ (hu:X.A.units+64<cLine):OpR X (compareOp .NotEq) rNeD:=by
 intro pins s σ H x y v u Q I rx ry h
 obtain⟨d,e,hd,he,sd,se,q⟩:=h
 obtain⟨as,ra⟩:=I.reads hd rx
 obtain⟨bs,rb⟩:=I.reads he ry
 exact ne_dataH ra rb sd se hu ⟨.bl _,H,I,rfl,q⟩
end
theorem zcY:∀ns:List Int,PyData.canLayAll0 (ns.map PyData.int)=true
 |[]=>rfl
 |_::r=>by simp[PyData.canLayAll0,PyData.canLay0,zcY r]
theorem zcu:∀ns:List Int,PyData.depthAll (ns.map PyData.int)=0
 |[]=>rfl
 |_::r=>by simp[PyData.depthAll,PyData.depth,zcu r]
theorem zcR (ns:List Int):SeqAt.shaped (.tuple (ns.map PyData.int))=true:=by
 simp[SeqAt.shaped,PyData.canLay0,PyData.depth,zcY,zcu]
theorem zbd (ns:List Int):SeqAt.shaped (.list (ns.map PyData.int))=true:=by
 simp[SeqAt.shaped,PyData.canLay0,PyData.depth,zcY,zcu]
theorem zcZ:∀ns ms:List Int,PyData.eqvAll (ns.map PyData.int) (ms.map PyData.int)=decide (ns=ms)
 |[],[]=>by simp[PyData.eqvAll]
 |[],_::_=>by simp[PyData.eqvAll]
 |_::_,[]=>by simp[PyData.eqvAll]
 |a::r,b::t=>by
  simp only[List.map_cons,PyData.eqvAll,PyData.eqv,zcZ r t]
  by_cases h:a=b<;>by_cases h':r=t<;>simp[h,h']
noncomputable def ziu (sc:Scope)(N:List Str)(scope:Scope)(N':List Str)(n:Nat)(ix:List Nat):Bool:=
 scope.kind==.function&&scope.names.all (fun y=>y.2 != .cell)&&scope.names.all (fun y=>y.2 != .local||scope.names.lookup y.1==some .local)&&
 scope.names.all (fun y=>y.2 != .free||(sc.names.lookup y.1==some .cell||sc.names.lookup y.1==some .free))&&scope.names.all (fun y=>y.2 != .free||scope.names.lookup y.1 != some .local)&&
 N'.length==n+ix.length&&(List.range ix.length).all fun j=>match ix[j]?,N'[n+j]? with
  |some i,some x=>N[i]? ==some x&&scope.names.contains (x,.free)
  |_,_=>false
theorem CompScope.of {X:Cx}{sc:Scope}{N:List Str}{scope:Scope}{N':List Str}{n:Nat}{ix:List Nat}(h:ziu sc N scope N' n ix=true)(hs:X.env.scope=sc)(hN:X.N=N):CompScope X scope N' n ix:=by
 unfold ziu at h
 simp only[Bool.and_eq_true,List.all_eq_true] at h
 obtain⟨⟨⟨⟨⟨⟨h1,h2⟩,h3⟩,h4⟩,h5⟩,h6⟩,h7⟩:=h
 subst hs hN
 refine⟨eq_of_beq h1,fun y hy=>by simpa using h2 y hy,fun y hy hl=> ?_,fun y hy hf=> ?_,fun y hy hl=> ?_,eq_of_beq h6,fun j i e=> ?_⟩
 ·have:=h3 y hy
  rw[hl] at this
  simpa using this
 ·have:=h4 y hy
  rw[hf] at this
  simpa using this
 ·have:=h5 _ hy
  rw[hl] at this
  simp at this
 ·have hj:j<ix.length:=(List.getElem?_eq_some_iff.mp e).1
  have:=h7 j (List.mem_range.mpr hj)
  rw[e] at this
  cases hx:N'[n+j]? with
  |none=>rw[hx] at this;simp at this
  |some x=>
   rw[hx] at this
   simp only[Bool.and_eq_true] at this
   exact⟨x,rfl,eq_of_beq this.1,by simpa using this.2⟩
structure Cal (P:Program) (w:World) (K:PySem.W.Frag) (mg:Str->Option Value) (base:Heap) (k:Nat) (x:Str) (ps:List Str) (sp:Sp):Prop where
 ex:∃f fd,FnOk P w K mg base CX0 k f fd ps sp/\mg x=some (.ref f)/\PySem.W.keepIn K (.ref f)=true/\Binds K fd ps []
section
variable {X:Cx}{k:Nat}{ps:List Str}{sp:Sp}{x:Str}{p pos:Pos}{e:Expr}{es:List Expr}{t:TA}
theorem zan (C:Cal X.prog X.w X.K X.mg X.base k x ps sp)(hr:Room k X.A)(hg:Gl X x)(ha:PA X (e::es) t)(hdb:(x==("__debug__" :Str))=false:=by decide)(he:starEach (e::es) X.env=(false,eval e X.env)::starEach es X.env:=by rfl)
  (hpl:(backTo pos (starEach es X.env)).any (·.1)=false:=by rfl):PE X (.Call (.Name x p) (e::es) [] pos) (fun σ H Q=>t σ H fun vs H1=>sp vs H1 Q E0):=by
 obtain⟨f,fd,F,hm,hk,hb⟩:=C.ex
 exact (zlc F hr hg hm hk hb .nil zms ha hdb he hpl).mono fun σ H Q q=>by
  have e:(fun (vs:List V) (H1:Hp)=>sp (vs++[]) H1 Q E0)=fun vs H1=>sp vs H1 Q E0:=by funext vs H1;rw[List.append_nil]
  show t σ H fun vs H1=>sp (vs++[]) H1 Q E0
  rw[e]
  exact q
end
structure Top (mg:Str->Option Value):Prop where
 n_len:mg "len" =none
 n_tuple:mg "tuple" =none
 n_list:mg "list" =none
 n_range:mg "range" =none
 n_int:mg "int" =none
 n_bool:mg "bool" =none
 n_isinstance:mg "isinstance" =none
 n_all:mg "all" =none
 n_zip:mg "zip" =none
 n_enumerate:mg "enumerate" =none
 n_min:mg "min" =none
 n_sum:mg "sum" =none
 n_max:mg "max" =none
 n_abs:mg "abs" =none
 n_sorted:mg "sorted" =none
section
variable {X:Cx}
noncomputable def znr:R2:=fun x y H Q=>∃a b xs ys,x=.ref a/\y=.ref b/\H a=some (.tup xs)/\H b=some (.tup ys)/\xs.length+ys.length<=sizeLine/\∀p H',Same H H'->H' p=some (.tup (xs++ys))->Q (.ref p) H'
theorem zd3:OpR X (binaryOp .Add) znr:=by
 intro pins s σ H x y v u Q I rx ry h
 obtain⟨a,b,xs,ys,rfl,rfl,ha,hb,hz,q⟩:=h
 have ha':SqT X.K H a xs:=SqT.of ha
 have hb':SqT X.K H b ys:=SqT.of hb
 by_cases hx:xs=[]
 ·subst hx
  cases rx
  cases ry
  obtain⟨its,r1,p1,_⟩:=I.tuple ha'
  obtain⟨its2,r2,p2,_⟩:=I.tuple hb'
  cases r1
  obtain⟨⟨cls,dd,data,sl⟩,ho,hc,n,hd⟩:=id p1
  obtain⟨⟨cls2,dd2,data2,sl2⟩,ho2,hc2,n2,hd2⟩:=id p2
  simp only at hc hd hc2 hd2
  subst hc hd hc2 hd2
  exact concat_meets ⟨_,ho,rfl⟩ ⟨_,ho2,rfl⟩ noFill_tuple_add seq_tuple_add PySem.F.slot_tuple_add PySem.F.entry_tuple_add (PySem.F.args_tuple_add_2 _ _)
   (tuple_addW0 a b #[] its2.toArray n n2 dd dd2 sl sl2 rfl) ⟨ho,ho2,⟨.ref b,H,I,rfl,q b H (Same.refl H) hb⟩⟩
 ·refine zle pins s σ H _ _ v u Q I rx ry ⟨a,b,xs,ys,rfl,rfl,ha',hb',hx,hz,fun hy=> ?_,fun _ p hp=> ?_⟩
  ·subst hy
   exact q a H (Same.refl H) (by rw[List.append_nil];exact ha)
  ·exact q p _ (zac hp) zab
end
noncomputable def spU (f:List Int->List Int):Sp:=fun vs H Q _=>∃(a:Addr) (ns:List Int),vs=[.ref a]/\H a=some (.tup (ns.map V.int))/\ns.length<=1000/\∀p H',Same H H'->H' p=some (.tup ((f ns).map V.int))->Q (.ref p) H'
theorem zaR {n:Nat}(h:n<=1000):n<sizeLine:=Nat.lt_of_le_of_lt h (by decide)
theorem zai (ns:List Int):(ns.map V.int).length=ns.length:=List.length_map ..
theorem zdm {f:V->V}{g:Int->Int}(h:∀n,f (.int n)=.int (g n))(ns:List Int):(ns.map V.int).map f=(ns.map g).map V.int:=by
 rw[List.map_map,List.map_map]
 apply List.map_congr_left
 intro n _
 exact h n
theorem zb9 {α:Type}(l:List α):l.filter (fun _=>true)=l:=by simp
noncomputable def Hand (H:Hp)(p q:Addr):Prop:=∃(ns:List Int) (seed:Int),H p=some (.lst [.ref q,.int seed])/\H q=some (.lst (ns.map V.int))/\(∀n∈ns,0<=n)/\ns.length<=63
noncomputable def Keep (p q:Addr)(H H':Hp):Prop:=∀b o,H b=some o->b≠p->b≠q->H' b=some o
theorem Keep.refl (p q:Addr)(H:Hp):Keep p q H H:=fun _ _ h _ _=>h
theorem Keep.trans {p q:Addr}{H H1 H2:Hp}(a:Keep p q H H1)(b:Keep p q H1 H2):Keep p q H H2:=fun c o h h1 h2=>b c o (a c o h h1 h2) h1 h2
theorem Same.keep {p q:Addr}{H H':Hp}(s:Same H H'):Keep p q H H':=fun b o h _ _=>s b o h
theorem Hand.same {p q:Addr}{H H':Hp}(h:Hand H p q)(s:Same H H'):Hand H' p q:=by
 obtain⟨ns,seed,h1,h2,h3,h4⟩:=h
 exact⟨ns,seed,s _ _ h1,s _ _ h2,h3,h4⟩
theorem Hand.ne {p q:Addr}{H:Hp}(h:Hand H p q):p≠q:=by
 obtain⟨ns,seed,h1,h2,_⟩:=h
 refine zjH h1 h2 fun z=> ?_
 injection z with z
 cases ns with
 |nil=>cases z
 |cons a r=>injection z with z _;cases z
theorem Keep.free {p q:Addr}{H H':Hp}(k:Keep p q H H')(h:Hand H p q){l:Addr}(hl:H' l=none)(h':Hand H' p q):H l=none:=by
 cases e:H l with
 |none=>rfl
 |some o=>
  obtain⟨_,_,h1,h2,_⟩:=h'
  have:=k l o e (fun z=>by subst z;rw[h1] at hl;cases hl) (fun z=>by subst z;rw[h2] at hl;cases hl)
  rw[hl] at this;cases this
noncomputable def zgr (K:PySem.W.Frag):Sp:=fun vs H Q _=>∃(a:Addr) (ns:List Int),vs=[.ref a]/\SqL K H a (ns.map V.int)/\ns.length<=63/\∀p q H',Same H H'->Hand H' p q->H p=none->H q=none->Q (.ref p) H'
noncomputable def zdn:Sp:=fun vs H Q _=>∃(p q:Addr) (m:Int),vs=[.ref p,.int m]/\0<m/\m<1073741824/\Hand H p q/\∀d H',0<=d->d<m->Hand H' p q->Keep p q H H'->Q (.int d) H'
noncomputable def zgs:Sp:=fun vs H Q _=>∃(p q:Addr) (m:Int),vs=[.ref p,.int m]/\9<=m/\m<1000/\Hand H p q/\∀d H',0<=d->d<=m->Hand H' p q->Keep p q H H'->Q (.int d) H'
noncomputable def num0 (n:Nat):List Int:=(List.range n).map fun (i:Nat)=>(i:Int)
noncomputable def zll:Sp:=fun vs H Q _=>∃(p q:Addr) (m:Nat),vs=[.ref p,.int m]/\m<=500/\Hand H p q/\∀(l:Addr) (ys:List Int) (H':Hp),ys.Perm (num0 m)->H l=none->H' l=some (.lst (ys.map V.int))->Hand H' p q->Keep p q H H'->Q (.ref l) H'
noncomputable def zd4:Sp:=fun vs H Q _=>∃(p q:Addr) (m:Nat),vs=[.ref p,.int m]/\m<=500/\Hand H p q/\∀(l:Addr) (ys:List Int) (H':Hp),ys.Perm (num0 m)->H' l=some (.tup (ys.map V.int))->Hand H' p q->Keep p q H H'->Q (.ref l) H'
theorem zbe {p q l:Addr}{H:Hp}{o:HO}(h:Hand H p q)(hl:H l=none):Hand (upd H l o) p q:=h.same (zac hl)
theorem zcv {p q l:Addr}{H:Hp}{o u:HO}(h:Hand H p q)(hl:H l=some u)(hp:l≠p)(hq:l≠q):Hand (upd H l o) p q:=by
 obtain⟨ns,seed,h1,h2,h3,h4⟩:=h
 exact⟨ns,seed,by rw[zah (Ne.symm hp)];exact h1,by rw[zah (Ne.symm hq)];exact h2,h3,h4⟩
theorem PS.mono {X:Cx}{st:Stmt}{t t':TS}(h:PS X st t)(m:∀D σ H,t' D σ H->t D σ H):PS X st t':=fun pins s σ H D I q=>h pins s σ H D I (m D σ H q)
theorem zbw (n:Nat):zaN 0 n=(num0 n).map V.int:=by
 unfold zaN num0
 rw[List.map_map]
 apply List.map_congr_left
 intro i _
 show V.int (0+(i:Int))=V.int (i:Int)
 rw[Int.zero_add]
theorem zaP {n:Nat}{x:Int}(h:x∈num0 n):0<=x/\x<n:=by
 unfold num0 at h
 obtain⟨i,hi,rfl⟩:=List.mem_map.mp h
 have:=List.mem_range.mp hi
 (first|lia|omega)
theorem zhE (c m:Nat)(h:c<=m):num0 m=num0 c++(num0 (m-c)).map fun x=>(c:Int)+x:=by
 unfold num0
 apply List.ext_getElem?
 intro i
 by_cases hi:i<c
 ·rw [List.getElem?_append_left (by simpa using hi)]
  simp[hi,(by (first|lia|omega):i<m)]
 ·rw [List.getElem?_append_right (by simpa using hi)]
  simp only[List.length_map,List.length_range,List.map_map,List.getElem?_map]
  by_cases hm:i<m
  ·rw [List.getElem?_range hm,List.getElem?_range (by (first|lia|omega):i-c<m-c)]
   simp
   (first|lia|omega)
  ·rw [List.getElem?_eq_none (by simpa using hm),List.getElem?_eq_none (by simp;(first|lia|omega))]
   rfl
theorem zd5:∀(ys:List Int) (i j:Nat) (a b:Int),ys[i]? =some a->ys[j]? =some b->((ys.set i b).set j a).Perm ys:=by
 intro ys i j a b hi hj
 obtain⟨h1,e1⟩:=List.getElem?_eq_some_iff.mp hi
 obtain⟨h2,e2⟩:=List.getElem?_eq_some_iff.mp hj
 subst e1 e2
 exact List.set_set_perm h1 h2
theorem zhF {row ys:List Int}{m:Nat}(hr:row.Perm (num0 m))(hl:ys.length=m)(h:∀(k:Nat) (a:Int),row[k]? =some a->∀b,row[(k+1)%m]? =some b->ys[a.toNat]? =some b):ys.Perm (num0 m):=by
 have hrl:row.length=m:=by rw[hr.length_eq];simp[num0]
 have e1:ys=(num0 m).map fun a=>ys.getD a.toNat 0:=by
  apply List.ext_getElem?
  intro i
  unfold num0
  rw[List.map_map,List.getElem?_map]
  by_cases hi:i<m
  ·rw [List.getElem?_range hi,List.getElem?_eq_getElem (by (first|lia|omega))]
   simp[hl,hi]
  ·rw [List.getElem?_eq_none (by (first|lia|omega)),List.getElem?_eq_none (by simpa using hi)]
   rfl
 have e2:(row.map fun a=>ys.getD a.toNat 0)=row.drop 1++row.take 1:=by
  apply List.ext_getElem?
  intro i
  rw[List.getElem?_map]
  by_cases hi:i<m
  ·rw [List.getElem?_eq_getElem (by (first|lia|omega):i<row.length)]
   have hn:(i+1)%m<row.length:=by rw[hrl];exact Nat.mod_lt _ (by (first|lia|omega))
   have:=h i row[i] (List.getElem?_eq_getElem (by (first|lia|omega))) _ (List.getElem?_eq_getElem hn)
   show some (ys.getD _ 0)=_
   rw[List.getD_eq_getElem?_getD,this]
   by_cases hlast:i+1=m
   ·have e:(i+1)%m=0:=by rw[hlast,Nat.mod_self]
    rw[List.getElem?_append_right (by simp;(first|lia|omega))]
    simp only[e]
    rw[List.getElem?_take]
    simp[hrl,(by (first|lia|omega):i-(m-1)=0)]
   ·have e:(i+1)%m=i+1:=Nat.mod_eq_of_lt (by (first|lia|omega))
    rw[List.getElem?_append_left (by simp;(first|lia|omega)),List.getElem?_drop]
    simp only[e]
    rw[Nat.add_comm 1 i,List.getElem?_eq_getElem (by (first|lia|omega):i+1<row.length)]
    rfl
  ·rw [List.getElem?_eq_none (by (first|lia|omega)),List.getElem?_eq_none (by simp;(first|lia|omega))]
   rfl
 have e3:(row.map fun a=>ys.getD a.toNat 0).Perm row:=by
  rw[e2]
  refine List.perm_append_comm.trans ?_
  rw[List.take_append_drop]
 rw[e1]
 exact ((hr.map _).symm.trans e3).trans hr
theorem zca {X:Cx}{i j:Nat}{x y:Str}{px py pt:Pos}{kt:Nat}(hc:X.calm=true)(hN:X.N.Nodup)(hi:X.N[i]? =some x)(hj:X.N[j]? =some y)(hx:Loc X.env.scope x)(hy:Loc X.env.scope y)(fx:X.fn x=true∨X.env.scope.names.lookup x=some .local)(fy:X.fn y=true∨X.env.scope.names.lookup y=some .local):
  PG X (.Tuple [.Name x px,.Name y py] kt pt) (gTup X.K 2 (zfy (zbG i) (zfy (zbG j) gNil))):=zh4 hc (zbV (zal hN hi hx fx) (zbV (zal hN hj hy fy) zfz))
theorem zjR {X:Cx}(K:PySem.W.Frag){i j:Nat}{x y:Str}{px py pt:Pos}{kt:Nat}(hK:X.K=K)(hc:X.calm=true)(hN:X.N.Nodup)(hi:X.N[i]? =some x)(hj:X.N[j]? =some y)(hx:Loc X.env.scope x)(hy:Loc X.env.scope y)(fx:X.fn x=true∨X.env.scope.names.lookup x=some .local)(fy:X.fn y=true∨X.env.scope.names.lookup y=some .local):
  PG X (.Tuple [.Name x px,.Name y py] kt pt) (gTup K 2 (zfy (zbG i) (zfy (zbG j) gNil))):=hK▸zh4 hc (zbV (zal hN hi hx fx) (zbV (zal hN hj hy fy) zfz))
theorem ziv (ns ms:List Int):PyData.eqv (.tuple (ns.map PyData.int)) (.tuple (ms.map PyData.int))=decide (ns=ms):=zcZ ns ms
theorem zlm (ys:List Int)(h:Int->Int):(num0 ys.length).map (fun k=>h (ys.getD k.toNat 0))=ys.map h:=by
 apply List.ext_getElem?
 intro i
 unfold num0
 rw[List.map_map,List.getElem?_map,List.getElem?_map]
 by_cases hi:i<ys.length
 ·rw [List.getElem?_range hi,List.getElem?_eq_getElem hi]
  simp[hi]
 ·rw [List.getElem?_eq_none (by simpa using hi),List.getElem?_eq_none (by (first|lia|omega))]
  rfl
theorem zfF {ys:List Int}{i:Int}(h0:0<=i)(h1:i<ys.length):atI (ys.map V.int) i=some (.int (ys.getD i.toNat 0)):=by
 have hlt:i.toNat<ys.length:=by (first|lia|omega)
 have e:((i.toNat:Nat):Int)=i:=by (first|lia|omega)
 have:=zaC (xs:=ys.map V.int) (j:=i.toNat) (v:=.int (ys.getD i.toNat 0)) (by rw[List.getElem?_map,List.getD_eq_getElem?_getD,List.getElem?_eq_getElem hlt];rfl)
 rwa [e] at this
theorem zdK {n:Nat}{x:V}(h:x∈zaN 0 n):∃k:Int,x=.int k/\0<=k/\k<n:=by
 rw[zbw] at h
 obtain⟨k,hk,rfl⟩:=List.mem_map.mp h
 exact⟨k,rfl,zaP hk⟩
structure Def (K:PySem.W.Frag) (x:Str) (st:Stmt):Prop where
 ex:∃(f:Addr) (oc:Value) (od an:Option Addr) (kV doc pm cdv ct:Value) (osl:Array (Option Value)),PySem.W.nsIn K mainGlobals x=some (some (.ref f))/\
  K.lookup f=some ⟨oc,od,.func (PySem.W.fnOf x x (zbv st) (za8 st) (zaf st) .none kV doc pm an cdv ct),osl⟩/\PySem.W.codeIn K cdv x=true/\PySem.W.keepIn K (.ref f)=true
section
variable {K:PySem.W.Frag}{h:Heap}{mg:Str->Option Value}{x:Str}{st:Stmt}
theorem Def.of {f:Addr}{oc:Value}{od an:Option Addr}{kV doc pm cdv ct:Value}{osl:Array (Option Value)}(a:PySem.W.nsIn K mainGlobals x=some (some (.ref f)))
  (l:K.lookup f=some ⟨oc,od,.func (PySem.W.fnOf x x (zbv st) (za8 st) (zaf st) .none kV doc pm an cdv ct),osl⟩) (c:PySem.W.codeIn K cdv x=true) (k:PySem.W.keepIn K (.ref f)=true):Def K x st:=
 ⟨f,oc,od,an,kV,doc,pm,cdv,ct,osl,a,l,c,k⟩
theorem Def.fn (D:Def K x st)(X:K.In h)(G:h.Ns mainGlobals mg):∃f fd,Fun K x x st f fd/\mg x=some (.ref f):=by
 obtain⟨f,oc,od,an,kV,doc,pm,cdv,ct,osl,a,l,c,k⟩:=D.ex
 exact⟨f,_,zmt (st:=st) l c k,PySem.W.mg_of X G a⟩
end
structure TopK (K:PySem.W.Frag):Prop where
 k_len:PySem.W.nsIn K mainGlobals "len" =some none
 k_tuple:PySem.W.nsIn K mainGlobals "tuple" =some none
 k_list:PySem.W.nsIn K mainGlobals "list" =some none
 k_range:PySem.W.nsIn K mainGlobals "range" =some none
 k_int:PySem.W.nsIn K mainGlobals "int" =some none
 k_bool:PySem.W.nsIn K mainGlobals "bool" =some none
 k_isinstance:PySem.W.nsIn K mainGlobals "isinstance" =some none
 k_all:PySem.W.nsIn K mainGlobals "all" =some none
 k_zip:PySem.W.nsIn K mainGlobals "zip" =some none
 k_enumerate:PySem.W.nsIn K mainGlobals "enumerate" =some none
 k_min:PySem.W.nsIn K mainGlobals "min" =some none
 k_sum:PySem.W.nsIn K mainGlobals "sum" =some none
 k_max:PySem.W.nsIn K mainGlobals "max" =some none
 k_abs:PySem.W.nsIn K mainGlobals "abs" =some none
 k_sorted:PySem.W.nsIn K mainGlobals "sorted" =some none
theorem TopK.top {K:PySem.W.Frag}{h:Heap}{mg:Str->Option Value}(T:TopK K)(X:K.In h)(G:h.Ns mainGlobals mg):Top mg:=
  ⟨PySem.W.mg_none_of X G T.k_len,PySem.W.mg_none_of X G T.k_tuple,PySem.W.mg_none_of X G T.k_list,PySem.W.mg_none_of X G T.k_range,PySem.W.mg_none_of X G T.k_int,PySem.W.mg_none_of X G T.k_bool,PySem.W.mg_none_of X G T.k_isinstance,
   PySem.W.mg_none_of X G T.k_all,PySem.W.mg_none_of X G T.k_zip,PySem.W.mg_none_of X G T.k_enumerate,PySem.W.mg_none_of X G T.k_min,PySem.W.mg_none_of X G T.k_sum,PySem.W.mg_none_of X G T.k_max,PySem.W.mg_none_of X G T.k_abs,PySem.W.mg_none_of X G T.k_sorted⟩
open Sem (wp)
open AutoSeq1 (wpAny_loadPart')
section
variable {prog:Program}{w:World}{A:Around}{E:Value->Shared->Prop}{s:Shared}
end
section
variable {X:Cx}
end
open Sem (wp)
open AutoSeq1 (wpAny_loadPart')
section
variable {prog:Program}{w:World}{A:Around}{E:Value->Shared->Prop}{s:Shared}
end
section
variable {X:Cx}{pos:Pos}
end
section
variable {prog:Program}{w:World}{A:Around}{E:Value->Shared->Prop}{s:Shared}
end
section
variable {X:Cx}
end
noncomputable def atO (ns:List Int)(x:Int):Int:=ns.getD x.toNat 0
noncomputable def invO (ns:List Int):List Int:=(num0 ns.length).map fun x=>((ns.idxOf x:Nat):Int)
noncomputable def zbj (ns ms:List Int):List Int:=ms.map (atO ns)
noncomputable def Ord (m:Nat)(ns:List Int):Prop:=ns.Perm (num0 m)
theorem zaV (n:Nat):(num0 n).length=n:=by simp[num0]
theorem zaD (n:Nat):(num0 n).Nodup:=by
 unfold num0
 refine List.Pairwise.map _ (fun a b (h:a≠b)=> ?_) (List.nodup_range (n:=n))
 show (a:Int)≠(b:Int)
 (first|lia|omega)
theorem mem_num0 {n:Nat}{x:Int}:x∈num0 n↔0<=x/\x<n:=by
 refine⟨zaP,fun zq=> ?_⟩
 obtain⟨h0,h1⟩:=zq
 unfold num0
 exact List.mem_map.mpr ⟨x.toNat,List.mem_range.mpr (by (first|lia|omega)),by (first|lia|omega)⟩
theorem zc0 {n i:Nat}(h:i<n):(num0 n)[i]? =some (i:Int):=by simp[num0,h]
section
variable {m:Nat}{ns ms ks:List Int}{x:Int}
theorem Ord.len (h:Ord m ns):ns.length=m:=by rw[List.Perm.length_eq h,zaV]
theorem Ord.nodup (h:Ord m ns):ns.Nodup:=h.symm.nodup (zaD m)
theorem Ord.mem (h:Ord m ns):x∈ns↔0<=x/\x<m:=by rw[List.Perm.mem_iff h,mem_num0]
theorem Ord.rng (h:Ord m ns):∀y∈ns,0<=y/\y<m:=fun _ hy=>h.mem.mp hy
theorem zbk {i:Nat}(h:i<ns.length):atO ns (i:Int)=ns[i]:=by
 unfold atO
 rw[Int.toNat_natCast,List.getD_eq_getElem?_getD,List.getElem?_eq_getElem h]
 rfl
theorem zln (h0:0<=x)(h1:x<ns.length):atO ns x∈ns:=by
 unfold atO
 rw[List.getD_eq_getElem?_getD,List.getElem?_eq_getElem (by (first|lia|omega))]
 exact List.getElem_mem _
theorem zgt (ys:List Int):(num0 ys.length).map (atO ys)=ys:=by
 have e:=zlm ys fun x=>x
 rw[List.map_id'] at e
 exact e
theorem zlo (h:ns.length=m):zbj ns (num0 m)=ns:=by
 subst h
 exact zgt ns
theorem zgu (h0:0<=x)(h1:x<m):atO (num0 m) x=x:=by
 unfold atO
 rw[List.getD_eq_getElem?_getD,zc0 (by (first|lia|omega))]
 show ((x.toNat:Nat):Int)=x
 (first|lia|omega)
theorem zlp (h:∀y∈ns,0<=y/\y<m):zbj (num0 m) ns=ns:=by
 unfold zbj
 conv=>rhs;rw[<-List.map_id ns]
 exact List.map_congr_left fun y hy=>zgu (h y hy).1 (h y hy).2
theorem zgv (h0:0<=x)(h1:x<ms.length):atO (zbj ns ms) x=atO ns (atO ms x):=by
 show (zbj ns ms).getD x.toNat 0=atO ns (ms.getD x.toNat 0)
 unfold zbj
 have hlt:x.toNat<ms.length:=by (first|lia|omega)
 rw[List.getD_eq_getElem?_getD,List.getElem?_map,List.getD_eq_getElem?_getD,List.getElem?_eq_getElem hlt]
 rfl
theorem zhG (h:∀y∈ks,0<=y/\y<ms.length):zbj (zbj ns ms) ks=zbj ns (zbj ms ks):=by
 show ks.map (atO (zbj ns ms))=(ks.map (atO ms)).map (atO ns)
 rw[List.map_map]
 exact List.map_congr_left fun y hy=>zgv (h y hy).1 (h y hy).2
theorem ziw:(invO ns).length=ns.length:=by unfold invO;rw[List.length_map,zaV]
theorem zlq (h:Ord m ns)(h0:0<=x)(h1:x<m):atO (invO ns) x=(ns.idxOf x:Nat):=by
 unfold atO invO
 rw[h.len,List.getD_eq_getElem?_getD,List.getElem?_map,zc0 (by (first|lia|omega):x.toNat<m)]
 show ((ns.idxOf ((x.toNat:Nat):Int):Nat):Int)=_
 rw[show ((x.toNat:Nat):Int)=x by (first|lia|omega)]
theorem zeO (h:Ord m ns):zbj (invO ns) ns=num0 m:=by
 apply List.ext_getElem?
 intro i
 unfold zbj
 rw[List.getElem?_map]
 by_cases hi:i<m
 ·have hi':i<ns.length:=by rw[h.len];exact hi
  rw[zc0 hi,List.getElem?_eq_getElem hi']
  show some (atO (invO ns) ns[i])=_
  have:=h.rng _ (List.getElem_mem hi')
  rw[zlq h this.1 this.2,List.Nodup.idxOf_getElem h.nodup i hi']
 ·rw [List.getElem?_eq_none (by rw[h.len];(first|lia|omega)),List.getElem?_eq_none (by rw[zaV];(first|lia|omega))]
  rfl
theorem zgw (h:Ord m ns):zbj ns (invO ns)=num0 m:=by
 unfold zbj invO
 rw[List.map_map,h.len]
 conv=>rhs;rw[<-List.map_id (num0 m)]
 refine List.map_congr_left fun x hx=> ?_
 have hmem:x∈ns:=h.mem.mpr (mem_num0.mp hx)
 have hlt:=List.idxOf_lt_length_of_mem hmem
 show atO ns ((ns.idxOf x:Nat):Int)=x
 rw[zbk hlt,List.getElem_idxOf hlt]
theorem Ord.inv (h:Ord m ns):Ord m (invO ns):=by
 have e:(ns.map (atO (invO ns))).Perm ((num0 m).map (atO (invO ns))):=List.Perm.map _ h
 have e2:(num0 m).map (atO (invO ns))=invO ns:=by rw[<-h.len,<-ziw];exact zgt _
 have e3:ns.map (atO (invO ns))=num0 m:=zeO h
 rw[e2,e3] at e
 exact e.symm
theorem zhH (hx:Ord m ns)(hy:Ord m ms)(e:zbj ns ms=num0 m):ns=invO ms:=by
 have a1:zbj (zbj ns ms) (invO ms)=zbj ns (zbj ms (invO ms)):=zhG (by rw[hy.len];exact hy.inv.rng)
 rw[e,zgw hy,zlp hy.inv.rng,zlo hx.len] at a1
 exact a1.symm
theorem zlr (h:Ord m ns):invO (invO ns)=ns:=(zhH h h.inv (zgw h)).symm
end
theorem zc1 {K:PySem.W.Frag}{a:Addr}{xs:List V}{g:TG}{tb:TS}{D:Ends}{σ:L2.St}{H:Hp}(Pv:Nat->L2.St->Hp->Prop)(h0:Pv 0 σ H)(hl:∀i σ H,i<=xs.length->Pv i σ H->SqT K H a xs)
  (hs:∀i x t σ H,xs[i]? =some x->Pv i σ H->H t=none->g (.ref t) σ (upd H t (.tup [.int i,x])) fun σ2 H2=>tb {D with nx:=Pv (i+1),ct:=Pv (i+1),bk:=D.nx} σ2 H2) (hd:∀σ H,Pv xs.length σ H->D.nx σ H):
  ∃W:Nat->Nat->L2.St->Hp->Prop,(∃m,W 0 m σ H)/\∀i m σ H,W i m σ H->
   ((Ite K a).stop i H/\D.nx σ H)∨((Ite K a).go i H/\∃N:L2.St->Hp->Prop,(∀σ' H',N σ' H'->∃m',m'<m/\W (i+1) m' σ' H')/\∀x H',(Ite K a).yld i H x H'->g x σ H' fun σ2 H2=>tb {D with nx:=N,ct:=N,bk:=D.nx} σ2 H2):=by
 refine⟨fun i m σ H=>m=xs.length-i/\i<=xs.length/\Pv i σ H,⟨xs.length,by simp,Nat.zero_le _,h0⟩, ?_⟩
 rintro i m σ H ⟨rfl,hi,p⟩
 have q:=hl i σ H hi p
 by_cases hlt:i<xs.length
 ·refine .inr ⟨⟨xs,xs[i],q,by simp[hlt]⟩,Pv (i+1),fun σ' H' p'=>⟨xs.length-(i+1),by (first|lia|omega),rfl,hlt,p'⟩,fun x H' y=> ?_⟩
  obtain⟨t,x',ht,rfl,rfl,y⟩:=y
  exact hs i x' t σ _ (y xs q) p ht
 ·have e:i=xs.length:=by (first|lia|omega)
  subst e
  exact .inl ⟨⟨xs,q,rfl⟩,hd σ H p⟩
noncomputable def zc2:Sp:=fun vs H Q _=>∃(a:Addr) (ns:List Int) (m:Nat),vs=[.ref a]/\H a=some (.tup (ns.map V.int))/\Ord m ns/\m<=500/\∀p H',Same H H'->H' p=some (.tup ((invO ns).map V.int))->Q (.ref p) H'
theorem zfG {α:Type}(x:α)(n:Nat):(List.replicate n [x]).flatten=List.replicate n x:=by
 induction n with
 |zero=>rfl
 |succ n ih=>rw[List.replicate_succ,List.flatten_cons,ih];rfl
theorem zkH {ys:List Int}{i:Int}(h0:0<=i)(h1:i<ys.length):ixN (ys.map V.int).length i=some i.toNat:=by
 unfold ixN
 rw[zai,if_pos h0,if_pos (by (first|lia|omega))]
theorem zd6 {m:Nat}{ns ys:List Int}(h:Ord m ns)(hl:ys.length=m)(hp:∀(j:Nat) x,ns[j]? =some x->ys[x.toNat]? =some (j:Int)):ys=invO ns:=by
 apply List.ext_getElem?
 intro i
 by_cases hi:i<m
 ·have hm:((i:Nat):Int)∈ns:=h.mem.mpr ⟨by (first|lia|omega),by (first|lia|omega)⟩
  have hlt:=List.idxOf_lt_length_of_mem hm
  have:=hp (ns.idxOf (i:Int)) i (by rw[List.getElem?_eq_getElem hlt,List.getElem_idxOf hlt])
  rw[Int.toNat_natCast] at this
  rw[this]
  unfold invO
  rw[h.len,List.getElem?_map,zc0 hi]
  rfl
 ·rw[List.getElem?_eq_none (by (first|lia|omega)),List.getElem?_eq_none (by rw[ziw,h.len];(first|lia|omega))]
theorem eqTT {H:Hp}{a b:Addr}{ns ms:List Int}{Q:VK}(ha:H a=some (.tup (ns.map V.int)))(hb:H b=some (.tup (ms.map V.int)))(e:ns=ms)(h:Q (.bl true) H):rEqD (.ref a) (.ref b) H Q:=by
 refine⟨_,_,Is.ints ha,Is.ints hb,zcR ns,zcR ms, ?_⟩
 rw[ziv,decide_eq_true e]
 exact h
noncomputable def itO (ns:List Int)(x:Int):Nat->Int
 |0=>x
 |k+1=>atO ns (itO ns x k)
noncomputable def orbO (ns:List Int)(x:Int)(k:Nat):List Int:=(List.range k).map (itO ns x)
structure IsRound (ns:List Int) (x:Int) (row:List Int):Prop where
 ex:∃k,row=orbO ns x (k+1)/\itO ns x (k+1)=x
 nd:row.Nodup
theorem zbx (ns:List Int)(x:Int)(k:Nat):(orbO ns x k).length=k:=by simp[orbO]
theorem zgx (ns:List Int)(x:Int)(k:Nat):orbO ns x (k+1)=orbO ns x k++[itO ns x k]:=by simp[orbO,List.range_succ]
theorem mem_orb {ns:List Int}{x y:Int}{k:Nat}:y∈orbO ns x k↔∃j,j<k/\itO ns x j=y:=by
 unfold orbO
 rw[List.mem_map]
 constructor
 ·rintro⟨j,hj,e⟩;exact⟨j,List.mem_range.mp hj,e⟩
 ·rintro⟨j,hj,e⟩;exact⟨j,List.mem_range.mpr hj,e⟩
theorem zbL {ns:List Int}{x:Int}{k j:Nat}(h:j<k):(orbO ns x k)[j]? =some (itO ns x j):=by simp[orbO,h]
theorem zdL (ns:List Int)(x:Int)(j:Nat):∀k,itO ns x (j+k)=itO ns (itO ns x j) k
 |0=>rfl
 |k+1=>by show atO ns (itO ns x (j+k))=atO ns _;rw[zdL ns x j k]
theorem zgy {α:Type}[DecidableEq α]:∀{l L:List α},l.Nodup->(∀y∈l,y∈L)->l.length<=L.length
 |[],_,_,_=>Nat.zero_le _
 | a::t,L,h,s=>by
  have ha:=s a (by simp)
  have hn:=List.nodup_cons.mp h
  have h1:t.length<=(L.erase a).length:=zgy hn.2 fun y hy=>by
   have hne:y≠a:=fun e=>hn.1 (e▸hy)
   exact (List.mem_erase_of_ne hne).mpr (s y (by simp[hy]))
  have h2:=List.length_erase_of_mem ha
  have h3:0<L.length:=List.length_pos_of_mem ha
  simp only[List.length_cons]
  (first|lia|omega)
section
variable {m:Nat}{ns:List Int}{x y:Int}
theorem zdo (h:Ord m ns)(h0:0<=x/\x<m):∀k,0<=itO ns x k/\itO ns x k<m
 |0=>h0
 |k+1=>h.rng _ (zln (zdo h h0 k).1 (by rw[h.len];exact (zdo h h0 k).2))
theorem zls (h:Ord m ns)(hx:0<=x/\x<m)(hy:0<=y/\y<m)(e:atO ns x=atO ns y):x=y:=by
 have ln:=h.len
 have q:∀{z:Int},0<=z/\z<m->atO (invO ns) (atO ns z)=z:=fun {z} hz=>by
  have this:atO (zbj (invO ns) ns) z=atO (num0 m) z:=congrArg (fun l=>atO l z) (zeO h)
  rw[zgv hz.1 (by rw[ln];exact hz.2),zgu hz.1 hz.2] at this
  exact this
 rw[<-q hx,<-q hy,e]
theorem zgz (h:Ord m ns)(hx:0<=x/\x<m){k:Nat}(nd:(orbO ns x (k+1)).Nodup)(hne:itO ns x (k+1)≠x):(orbO ns x (k+2)).Nodup:=by
 rw[zgx]
 refine List.nodup_append.mpr ⟨nd,by simp, ?_⟩
 intro a ha b hb e
 rw[List.mem_singleton] at hb
 subst hb
 obtain⟨j,hj,e1⟩:=mem_orb.mp ha
 cases j with
 |zero=>exact hne (e.symm.trans e1.symm)
 |succ j=>
  have e2:itO ns x j=itO ns x k:=zls h (zdo h hx j) (zdo h hx k) (e1.trans e)
  have g1:(orbO ns x (k+1))[j]? =some (itO ns x j):=zbL (by (first|lia|omega))
  have g2:(orbO ns x (k+1))[k]? =some (itO ns x k):=zbL (by (first|lia|omega))
  rw[e2] at g1
  obtain⟨l1,g1⟩:=List.getElem?_eq_some_iff.mp g1
  obtain⟨l2,g2⟩:=List.getElem?_eq_some_iff.mp g2
  have q1:=List.Nodup.idxOf_getElem nd j l1
  have q2:=List.Nodup.idxOf_getElem nd k l2
  rw[g1] at q1
  rw[g2] at q2
  (first|lia|omega)
theorem zcw (h:Ord m ns)(hx:0<=x/\x<m){k:Nat}(nd:(orbO ns x k).Nodup):k<=m:=by
 have:=zgy (L:=num0 m) nd fun y hy=>by
  obtain⟨j,_,rfl⟩:=mem_orb.mp hy
  exact mem_num0.mpr (zdo h hx j)
 rwa [zbx,zaV] at this
theorem zgA (h:Ord m ns)(hx:0<=x/\x<m):∀(n k:Nat),m-k=n->(orbO ns x (k+1)).Nodup->∃row,IsRound ns x row
 | n,k,e,nd=>by
  by_cases hk:itO ns x (k+1)=x
  ·exact⟨_,⟨k,rfl,hk⟩,nd⟩
  ·have nd2:=zgz h hx nd hk
   have b:=zcw h hx nd2
   cases n with
   |zero=>(first|lia|omega)
   |succ n=>exact zgA h hx n (k+1) (by (first|lia|omega)) nd2
theorem zjS (h:Ord m ns)(hx:0<=x/\x<m):∃row,IsRound ns x row:=zgA h hx m 0 rfl (by simp[orbO])
theorem zix {r r':List Int}(a:IsRound ns x r)(b:IsRound ns x r'):r=r':=by
 obtain⟨⟨k,rfl,hk⟩,nd⟩:=a
 obtain⟨⟨k',rfl,hk'⟩,nd'⟩:=b
 have key:∀{k k':Nat},itO ns x (k+1)=x->(orbO ns x (k'+1)).Nodup->¬k<k':=fun {k k'} hk nd hlt=>by
  have g1:(orbO ns x (k'+1))[0]? =some (itO ns x 0):=zbL (by (first|lia|omega))
  have g2:(orbO ns x (k'+1))[k+1]? =some (itO ns x (k+1)):=zbL (by (first|lia|omega))
  rw[hk] at g2
  obtain⟨l1,g1⟩:=List.getElem?_eq_some_iff.mp g1
  obtain⟨l2,g2⟩:=List.getElem?_eq_some_iff.mp g2
  have q1:=List.Nodup.idxOf_getElem nd 0 l1
  have q2:=List.Nodup.idxOf_getElem nd (k+1) l2
  rw[g1] at q1
  rw[g2] at q2
  have e:itO ns x 0=x:=rfl
  rw[e] at q1
  (first|lia|omega)
 have:=key hk nd'
 have:=key hk' nd
 have e:k=k':=by (first|lia|omega)
 rw[e]
open Classical in
noncomputable def rowO (ns:List Int)(x:Int):List Int:=if h:∃row,IsRound ns x row then choose h else []
theorem zcx (h:Ord m ns)(hx:0<=x/\x<m):IsRound ns x (rowO ns x):=by
 unfold rowO
 rw[dif_pos (zjS h hx)]
 exact Classical.choose_spec _
theorem zkI (h:Ord m ns)(hx:0<=x/\x<m){r:List Int}(a:IsRound ns x r):r=rowO ns x:=zix a (zcx h hx)
noncomputable def zbM (ns:List Int)(acc:List (List Int))(f:Int):List (List Int):=if f∈acc.flatten then acc else acc++[rowO ns f]
noncomputable def zaM (ns fs:List Int):List (List Int):=fs.foldl (zbM ns) []
noncomputable def zay (ns:List Int):List (List Int):=zaM ns (num0 ns.length)
theorem zdp (ns fs:List Int)(f:Int):zaM ns (fs++[f])=zbM ns (zaM ns fs) f:=by simp[zaM,List.foldl_append]
theorem ziy (h:Ord m ns)(hx:0<=x/\x<m):1<=(rowO ns x).length/\(rowO ns x).length<=m:=by
 obtain⟨⟨k,e,_⟩,nd⟩:=zcx h hx
 rw[e] at nd
 rw[e,zbx]
 exact⟨by (first|lia|omega),zcw h hx nd⟩
theorem zfH (h:Ord m ns)(hx:0<=x/\x<m):∀y∈rowO ns x,0<=y/\y<m:=fun y hy=>by
 obtain⟨⟨k,e,_⟩,nd⟩:=zcx h hx
 rw[e] at hy
 obtain⟨j,_,rfl⟩:=mem_orb.mp hy
 exact zdo h hx j
structure MetO (ns:List Int) (m:Nat) (rows:List (List Int)):Prop where
 nd:rows.flatten.Nodup
 rng:∀y∈rows.flatten,0<=y/\y<m
 clo:∀y∈rows.flatten,atO ns y∈rows.flatten
 row:∀r∈rows,∃f:Int,0<=f/\f<m/\r=rowO ns f
theorem MetO.it {rows:List (List Int)}(M:MetO ns m rows)(hy:y∈rows.flatten):∀k,itO ns y k∈rows.flatten
 |0=>hy
 |k+1=>M.clo _ (M.it hy k)
theorem MetO.step (h:Ord m ns){rows:List (List Int)}(M:MetO ns m rows){f:Int}(hf:0<=f/\f<m):MetO ns m (zbM ns rows f):=by
 unfold zbM
 split
 ·exact M
 ·rename_i hn
  obtain⟨⟨k,e,hk⟩,nd⟩:=zcx h hf
  have e1:(rows++[rowO ns f]).flatten=rows.flatten++rowO ns f:=by simp
  refine⟨?_, ?_, ?_, ?_⟩
  ·rw [e1]
   refine List.nodup_append.mpr ⟨M.nd,nd,fun a ha b hb eab=>hn ?_⟩
   subst eab
   rw[e] at hb
   obtain⟨j,hj,rfl⟩:=mem_orb.mp hb
   have:=M.it ha (k+1-j)
   rw[<-zdL,show j+(k+1-j)=k+1 by (first|lia|omega),hk] at this
   exact this
  ·rw [e1]
   intro y hy
   rcases List.mem_append.mp hy with hy|hy
   ·exact M.rng y hy
   ·exact zfH h hf y hy
  ·rw [e1]
   intro y hy
   rcases List.mem_append.mp hy with hy|hy
   ·exact List.mem_append_left _ (M.clo y hy)
   ·refine List.mem_append_right _ ?_
    rw[e] at hy ⊢
    obtain⟨j,hj,rfl⟩:=mem_orb.mp hy
    by_cases hlast:j=k
    ·subst hlast
     exact mem_orb.mpr ⟨0,by (first|lia|omega),hk.symm⟩
    ·exact mem_orb.mpr ⟨j+1,by (first|lia|omega),rfl⟩
  ·intro r hr
   rcases List.mem_append.mp hr with hr|hr
   ·exact M.row r hr
   ·exact⟨f,hf.1,hf.2,List.mem_singleton.mp hr⟩
theorem zcb:MetO ns m []:=⟨by simp,by simp,by simp,by simp⟩
theorem zby (h:Ord m ns):∀(fs:List Int),(∀f∈fs,0<=f/\f<m)->∀{acc:List (List Int)},MetO ns m acc->MetO ns m (fs.foldl (zbM ns) acc)
 |[],_,_,M=>M
 |f::fs,hf,_,M=>zby h fs (fun g hg=>hf g (by simp[hg])) (M.step h (hf f (by simp)))
theorem MetO.lens (h:Ord m ns){rows:List (List Int)}(M:MetO ns m rows):rows.flatten.length<=m/\rows.length<=m/\∀r∈rows,1<=r.length/\r.length<=m:=by
 have h1:rows.flatten.length<=m:=by
  have:=zgy (L:=num0 m) M.nd fun y hy=>mem_num0.mpr (M.rng y hy)
  rwa [zaV] at this
 have h3:∀r∈rows,1<=r.length/\r.length<=m:=fun r hr=>by
  obtain⟨f,f0,f1,rfl⟩:=M.row r hr
  exact ziy h ⟨f0,f1⟩
 have h2:∀{rows:List (List Int)},(∀r∈rows,1<=r.length/\r.length<=m)->rows.length<=rows.flatten.length:=fun {rows}=>by
  induction rows with
  |nil=>intro _;simp
  |cons r t ih=>
   intro h
   have:=h r (by simp)
   have:=ih fun r hr=>h r (by simp[hr])
   simp only[List.length_cons,List.flatten_cons,List.length_append]
   (first|lia|omega)
 exact⟨h1,Nat.le_trans (h2 h3) h1,h3⟩
theorem zc3 (h:Ord m ns):∀(fs:List Int),(∀f∈fs,0<=f/\f<m)->∀(acc:List (List Int)) y,(y∈acc.flatten∨y∈fs)->y∈(fs.foldl (zbM ns) acc).flatten
 |[],_,acc,y,hy=>by
  rcases hy with hy|hy
  ·exact hy
  ·cases hy
 | f ::fs,hf,acc,y,hy=>by
  refine zc3 h fs (fun g hg=>hf g (by simp[hg])) (zbM ns acc f) y ?_
  have grow:∀z,z∈acc.flatten->z∈(zbM ns acc f).flatten:=fun z hz=>by
   unfold zbM
   split
   ·exact hz
   ·simp only[List.flatten_append];exact List.mem_append_left _ hz
  rcases hy with hy|hy
  ·exact .inl (grow y hy)
  ·rcases List.mem_cons.mp hy with rfl|hy
   ·left
    unfold zbM
    split
    ·assumption
    ·obtain ⟨⟨k,e,_⟩,_⟩:=zcx h (hf y (by simp))
     simp only[List.flatten_append]
     refine List.mem_append_right _ ?_
     simp only[List.flatten_cons,List.flatten_nil,List.append_nil]
     rw[e]
     exact mem_orb.mpr ⟨0,by (first|lia|omega),rfl⟩
   ·exact .inr hy
theorem zb1 {l L:List Int}(hl:l.Nodup)(hL:L.Nodup)(e:∀y,y∈l↔y∈L):l.Perm L:=(List.perm_ext_iff_of_nodup hl hL).mpr e
theorem zfI (h:Ord m ns):(zay ns).flatten.Perm (num0 m):=by
 unfold zay zaM
 rw[h.len]
 have M:=zby h (num0 m) (fun f hf=>zaP hf) zcb
 exact zb1 M.nd (zaD m) fun y=>⟨fun hy=>mem_num0.mpr (M.rng y hy),fun hy=>zc3 h (num0 m) (fun f hf=>zaP hf) [] y (.inr hy)⟩
end
section
variable {X:Cx}
end
section
variable {prog:Program}{w:World}{A:Around}{E:Value->Shared->Prop}{s:Shared}
theorem zcc {t sl:Addr}{items:Array Value}{vl vu:Value}{lo hi:Option Int}{Q:Value->Shared->Prop}(ht:IsTup s.heap t items)(hs:s.heap.IsSliceOf sl vl vu .none)(pl:IsPart vl lo)(pu:IsPart vu hi)
  (hw:HT.sIx items.size 0 lo=0/\HT.sIx items.size items.size hi=items.size) (h:Q (.ref t) s):wpAny (model prog w) A (getItem (.ref t) (.ref sl)) Q E s:=by
 obtain⟨os,hos,hcs,hds⟩:=id hs
 have hTs:s.TypeIs (.ref sl) "slice" :=⟨os,hos,hcs⟩
 unfold getItem
 try with_reducible refine wpAny_holding ?_
 first|refine wpAny_bind (wpAny_pure ?_)|skip
 refine wpAny_bind (wpAny_sequenceKey ht.typeIs (by decide) ?_)
 refine wpAny_bind (wpAny_callSpecial?_slot (name:=Str.ofString "__getitem__") ht.typeIs PyProof.Rows.slot_tuple_getitem
  (wpAny_call_entry PyProof.Rows.slot_tuple_getitem ht.typeIs entry_tuple_getitem ?_ (args_tuple_getitem _ _)))
 show wpAny _ _ (Builtin.Tuple.tupleItemsOf (.ref t) >>= _) _ _ s
 refine wpAny_bind (tupleItemsOf_ ht ?_)
 refine wpAny_bind (wpAny_typeOf hTs ?_)
 rw[if_pos (by decide)]
 refine wpAny_bind (HT.sliceApplied_gen hs pl pu ?_)
 show wpAny _ _ (if (((HT.sIx items.size 0 lo:Nat):Int)==0&&(1:Int)==1&&(HT.sIx items.size items.size hi-HT.sIx items.size 0 lo)==items.size)=true then _ else _) _ _ s
 rw[if_pos (by rw[hw.1,hw.2];simp)]
 unfold Builtin.Tuple.tupleIsExact
 refine wpAny_bind (wpAny_bind (wpAny_typeOf ht.typeIs (wpAny_pure ?_)))
 rw[if_pos (by decide)]
 refine wpAny_bind (wpAny_rule ?_)
 exact wpAny_pure ⟨_,rfl,wpAny_pure h⟩
end
section
variable {X:Cx}{e:Expr}{te:TE}{p2 pos:Pos}
end
noncomputable abbrev RowsAt (H:Hp)(zs:List Addr)(rows:List (List Int)):Prop:=Paired (fun (z:Addr) (r:List Int)=>H z=some (.tup (r.map V.int))) zs rows
theorem RowsAt.sameT {H H':Hp}{zs:List Addr}{rows:List (List Int)}(h:RowsAt H zs rows)(s:SameT H H'):RowsAt H' zs rows:=Paired.mapP h fun _ _ q=>s _ _ q
theorem RowsAt.same {H H':Hp}{zs:List Addr}{rows:List (List Int)}(h:RowsAt H zs rows)(s:Same H H'):RowsAt H' zs rows:=h.sameT s.t
theorem RowsAt.data {H:Hp}:∀{zs:List Addr} {rows:List (List Int)},RowsAt H zs rows->IsAll H (zs.map V.ref) (rows.map fun r=>PyData.tuple (r.map PyData.int))
 |_,_,.nil=>.nil
 |_,_,.cons r t=>.cons (Is.ints r) (RowsAt.data t)
theorem zgB:∀rows:List (List Int),PyData.canLayAll0 (rows.map fun r=>PyData.tuple (r.map PyData.int))=true
 |[]=>rfl
 |r::t=>by
  simp only[List.map_cons,PyData.canLayAll0,PyData.canLay0,zcY,zgB t]
  rfl
theorem zeP:∀rows:List (List Int),PyData.depthAll (rows.map fun r=>PyData.tuple (r.map PyData.int))<=1
 |[]=>Nat.zero_le _
 |r::t=>by
  have:=zeP t
  simp only[List.map_cons,PyData.depthAll,PyData.depth,zcu]
  (first|lia|omega)
theorem zfJ (rows:List (List Int)):SeqAt.shaped (.tuple (rows.map fun r=>PyData.tuple (r.map PyData.int)))=true:=by
 have h1:=zgB rows
 have h2:=zeP rows
 simp[SeqAt.shaped,PyData.canLay0,PyData.depth,h1]
 (first|lia|omega)
theorem zgC:∀rows:List (List Int),PyData.eqvAll (rows.map fun r=>PyData.tuple (r.map PyData.int)) (rows.map fun r=>PyData.tuple (r.map PyData.int))=true
 |[]=>rfl
 |r::t=>by
  simp[PyData.eqvAll,PyData.eqv,zcZ,zgC t]
structure Bits (bs:List Bool) (m:Nat) (S:List Int):Prop where
 len:bs.length=m
 bit:∀i,i<m->bs[i]? =some (decide ((i:Int)∈S))
theorem zns (m:Nat):Bits (List.replicate m false) m []:=⟨by simp,fun i hi=>by simp[hi]⟩
theorem Bits.set {bs:List Bool}{m:Nat}{S:List Int}{y:Int}(B:Bits bs m S)(h0:0<=y)(h1:y<m):Bits (bs.set y.toNat true) m (S++[y]):=by
 refine⟨by rw[List.length_set];exact B.len,fun i hi=> ?_⟩
 have hl:=B.len
 by_cases e:i=y.toNat
 ·subst e
  rw[List.getElem?_set_self (by (first|lia|omega))]
  have:((y.toNat:Nat):Int)=y:=by (first|lia|omega)
  rw[this]
  simp
 ·rw [List.getElem?_set_ne (Ne.symm e),B.bit i hi]
  have hne:((i:Nat):Int)≠y:=by (first|lia|omega)
  simp[hne]
noncomputable def zcd:Sp:=fun vs H Q _=>∃(a:Addr) (ns:List Int) (m:Nat) (x:Int),vs=[.ref a,.int x]/\H a=some (.tup (ns.map V.int))/\Ord m ns/\m<=500/\0<=x/\x<m/\∀p H',Same H H'->H' p=some (.tup ((rowO ns x).map V.int))->Q (.ref p) H'
noncomputable def zbz:Sp:=fun vs H Q _=>∃(a l:Addr) (ns fs:List Int) (m:Nat),vs=[.ref a,.ref l]/\H a=some (.tup (ns.map V.int))/\H l=some (.lst (fs.map V.int))/\Ord m ns/\m<=500/\(∀f∈fs,0<=f/\f<m)/\
 ∀p zs H',Same H H'->H' p=some (.lst (zs.map V.ref))->RowsAt H' zs (zaM ns fs)->Q (.ref p) H'
noncomputable def zd7:Sp:=fun vs H Q _=>∃(a:Addr) (ns:List Int) (m:Nat),vs=[.ref a]/\H a=some (.tup (ns.map V.int))/\Ord m ns/\m<=500/\∀p zs H',Same H H'->H' p=some (.tup (zs.map V.ref))->RowsAt H' zs (zay ns)->Q (.ref p) H'
theorem zcy (zs:List Addr):(zs.map V.ref).length=zs.length:=List.length_map ..
inductive Ents (P:Params):List DictEntry->List (Str×Addr)->Prop
 |nil:Ents P [] []
 |cons {x:Str} {t:Tok} {f:Addr} {es:List DictEntry} {kvs:List (Str×Addr)}:Ents P es kvs->Ents P (⟨PyData.keyHash P x,.str x t,.ref f⟩::es) ((x,f)::kvs)
structure GDict (K:PySem.W.Frag) (P:Params) (C:Addr) (kvs:List (Str×Addr)):Prop where
 ex:∃es n,K.lookup C=some {cls:=.type "dict",data:=.dict es n}/\Ents P es.toList kvs
 nd:(kvs.map (·.1)).Nodup
theorem Ents.keys {prog:Program}{w:World}:∀{es:List DictEntry} {kvs:List (Str×Addr)},Ents w.params es kvs->∀e∈es,∃k,(PySem.strKind prog w).is k e.key=true/\e.hash=(PySem.strKind prog w).hash k
 |_,_,.nil,_,h=>by cases h
 |_,_,.cons (x:=x) t,e,h=>by
  rcases List.mem_cons.mp h with rfl|h
  ·exact⟨x,by simp[PySem.strKind,Value.isStrOf],rfl⟩
  ·exact Ents.keys t e h
theorem Ents.pairs {prog:Program}{w:World}:∀{es:List DictEntry} {kvs:List (Str×Addr)},Ents w.params es kvs->Pairs (PySem.strKind prog w) es (kvs.map fun kv=>(kv.1,Value.ref kv.2))
 |_,_,.nil=>.nil
 |_,_,.cons t=>.cons (by simp[PySem.strKind,Value.isStrOf]) rfl (Ents.pairs t)
theorem zcS:∀(kvs:List (Str×Addr)) (x:Str),valueAt (kvs.map fun kv=>(kv.1,Value.ref kv.2)) x=(kvs.lookup x).map Value.ref
 |[],_=>rfl
 | (y,f)::t,x=>by
  have ih:=zcS t x
  unfold valueAt at ih ⊢
  rw[List.map_cons,List.find?_cons,List.lookup_cons]
  by_cases h:y=x
  ·subst h
   simp
  ·have h2:(x==y)=false:=beq_eq_false_iff_ne.mpr fun z=>h z.symm
   simp only[decide_eq_false h,h2]
   exact ih
section
variable {X:Cx}
noncomputable def rGd (K:PySem.W.Frag)(P:Params):R2:=fun x y H Q=>∃C kvs z f,x=.ref C/\y=.str z/\GDict K P C kvs/\kvs.lookup z=some f/\Q (.ref f) H
theorem znt:IxR X (rGd X.K X.w.params):=by
 intro value slice pins s σ H x y v u Q I rx ry h hs
 obtain⟨C,kvs,z,f,rfl,rfl,⟨⟨es,n,hk,en⟩,nd⟩,hl,q⟩:=h
 cases rx
 obtain⟨t,rfl⟩:=ry
 have hg:=I.kIn C _ hk
 have hD:s.heap.DictOf (PySem.strKind X.prog X.w) C (kvs.map fun kv=>(kv.1,Value.ref kv.2)):=
  ⟨_,es,n,hg,⟨rfl,rfl,rfl⟩,rfl,fun e he=>en.keys e (by simpa using he),en.pairs,by rw[List.map_map];exact nd⟩
 have fin:EP X pins σ Q (.ref f) {s with toks:=s.toks+1}:=⟨.ref f,H,I.tok _,rfl,q⟩
 exact subscriptTail_builtinR (x:=.ref f) hD.typeIs PySem.F.slot_dict_getitem.lookup
  (wpAny_getItem_of (k:=z) (knd:=PySem.strKind X.prog X.w) (Q:=fun r s'=>r=.ref f/\EP X pins σ Q r s') (by simp[PySem.strKind,Value.isStrOf]) hD.mapOf (by rw[zcS,hl];rfl) ⟨rfl,fin⟩) hs
end
structure CalF (P:Program) (w:World) (K:PySem.W.Frag) (mg:Str->Option Value) (base:Heap) (k:Nat) (f:Addr) (ps:List Str) (sp:Sp):Prop where
 ex:∃fd,FnOk P w K mg base CX0 k f fd ps sp/\PySem.W.keepIn K (.ref f)=true/\Binds K fd ps []
section
variable {X:Cx}{k:Nat}{x:Str}{p pos:Pos}{e:Expr}{es:List Expr}{t:TA}{tf:TE}
noncomputable def zmv (P:Program)(w:World)(K:PySem.W.Frag)(mg:Str->Option Value)(base:Heap)(k:Nat)(tf:TE)(t:TA):TE:=fun σ H Q=>tf σ H fun v H1=>∃f ps sp,v=.ref f/\CalF P w K mg base k f ps sp/\t σ H1 fun vs H2=>sp vs H2 Q E0
theorem zjT (hf:PE X (.Name x p) tf)(hr:Room k X.A)(ha:PA X (e::es) t)(he:starEach (e::es) X.env=(false,eval e X.env)::starEach es X.env:=by rfl)
  (hpl:(backTo pos (starEach es X.env)).any (·.1)=false:=by rfl):PE X (.Call (.Name x p) (e::es) [] pos) (zmv X.prog X.w X.K X.mg X.base k tf t):=by
 intro pins s σ H Q I h
 refine wpAny_Call_Name_kw (thn (hf pins s σ H _ I h) fun v s1 zq=> ?_)
 obtain⟨y,H1,I1,r1,f,ps,sp,ey,⟨fd,F,hk,hb⟩,q1⟩:=zq
 subst ey
 cases (show v=Value.ref f from r1)
 refine PySem.W.callWith_K (h₀:=X.base) I1.ok.mod.kin hk (thn (ha pos pins s1 σ H1 _ I1 q1) fun us s2 ⟨vs,H2,I2,r2,q2⟩=>⟨I2.kIn, ?_⟩) he hpl
 exact zkE F hr hb .nil zms I2 r2 (by rw[List.append_nil];exact q2)
noncomputable def znu:List V->Hp->VK->Prop:=fun xs H Q=>∃(l:Addr) (ns:List Int),xs=[.ref l]/\H l=some (.lst (ns.map V.int))/\Q (.int ns.sum) H
theorem zdq (hc:X.calm=true):zbu X (.builtin "sum") znu:=by
 intro pins s σ H xs us Q I rs h
 obtain⟨l,ns,rfl,hH,q⟩:=h
 obtain⟨u,rfl,ru⟩:=zbI rs
 cases (show u=Value.ref l from ru)
 obtain⟨z,its,n,r,hl,e⟩:=I.lstM hH
 have hI:=zbq r
 obtain⟨xs,hxs⟩:=hI.allInts.items
 have hnum:(numsOf its.toArray.toList)=ns:=hI.numsOf
 refine sum_intListG (xs:=xs) (I.ok.hd hc) (by rw[<-hxs];exact⟨_,e,rfl,n,rfl⟩) fun h' tk t' hk=> ?_
 have hs:preSum (numAt xs) xs.size=ns.sum:=by
  rw[preSum_eq,List.take_of_length_le (by simp)]
  rw[<-nums_intItems,<-hxs,hnum]
 rw[hs]
 exact⟨.int ns.sum,H,I.kept (t':=tk) hk,⟨_,rfl⟩,q⟩
end
noncomputable abbrev lc2 (elt tg iter:Expr)(ifs:List Expr)(tg2 iter2:Expr)(ifs2:List Expr)(scope:Scope)(pos:Pos):Expr:=.ListComp elt [⟨tg,iter,ifs,0⟩,⟨tg2,iter2,ifs2,0⟩] scope pos
theorem zfK (elt tg iter:Expr)(ifs:List Expr)(tg2 iter2:Expr)(ifs2:List Expr)(scope:Scope)(pos:Pos)(it acc:Value)(env:Env):
  compTurn (lc2 elt tg iter ifs tg2 iter2 ifs2 scope pos) 1 it acc env=(do
   standAt iter2.pos
   match<-pyNext it with
   |none=>pure (.done .next)
   | some v=>
    letOwnedTupleGo tg2 it v
    assign tg2 env v
    let mut ok:=true
    for c in ifs2 do
     if ok then ok<-isTrue c env (eval c env)
    if ok then
     (do let _<-call (.builtin "list.append") [acc,<-eval elt env])
    again (.compLoop (lc2 elt tg iter ifs tg2 iter2 ifs2 scope pos) 1 it acc env)):=by rfl
theorem zeQ (elt tg iter:Expr)(ifs:List Expr)(tg2 iter2:Expr)(ifs2:List Expr)(scope:Scope)(pos:Pos)(it acc:Value)(env:Env):
  compTurn (lc2 elt tg iter ifs tg2 iter2 ifs2 scope pos) 0 it acc env=(do
   standAt iter.pos
   match<-pyNext it with
   |none=>pure (.done .next)
   | some v=>
    letOwnedTupleGo tg it v
    assign tg env v
    let mut ok:=true
    for c in ifs do
     if ok then ok<-isTrue c env (eval c env)
    if ok then
     let x<-eval iter2 env
     standAt iter2.pos
     let x<-foldedSetIterable iter2 env x
     let _<-runOwn (.compStart (lc2 elt tg iter ifs tg2 iter2 ifs2 scope pos) 1 (<-holding [x] (pyIter x)) acc env) env
    again (.compLoop (lc2 elt tg iter ifs tg2 iter2 ifs2 scope pos) 0 it acc env)):=by rfl
section
variable {prog:Program}{w:World}{A:Around}{R:Result->Shared->Prop}{s:Shared}{elt tg iter tg2 iter2:Expr}{ifs ifs2:List Expr}{scope:Scope}{pos:Pos}{it acc:Value}{env:Env}
theorem zfL (I:Nat->Shared->Prop)
  (turn:∀n s,I n s->wpAny (model prog w) A (pyNext it) (fun r s₁=>match r with
   |none=>R (.ok .next) s₁
   | some v=>wpAny (model prog w) A (letOwnedTupleGo tg2 it v) (fun _ s₂=>wpAny (model prog w) A (assign tg2 env v) (fun _ s₃=>
     wpAny (model prog w) A (forIn ifs2 true fun c r=>if r=true then do let ok<-isTrue c env (eval c env);pure (ForInStep.yield ok) else pure (ForInStep.yield r)) (fun ok s₄=>
      if ok=true then wpAny (model prog w) A (eval elt env) (fun x s₅=>
       wpAny (model prog w) A (call (.builtin "list.append") [acc,x]) (fun _ s₆=>∃m,m<n/\I m s₆) (fun _ _=>False) s₅) (fun _ _=>False) s₄
      else ∃m,m<n/\I m s₄) (fun _ _=>False) s₃) (fun _ _=>False) s₂) (fun _ _=>False) s₁) (fun _ _=>False) s)
  (n:Nat) (h:I n s):
  codeAny (model prog w) A (.compLoop (lc2 elt tg iter ifs tg2 iter2 ifs2 scope pos) 1 it acc env) R s:=by
 refine codeAny_loop rfl I (fun n s hI=> ?_) n h
 show wpAny _ A ((compTurn (lc2 elt tg iter ifs tg2 iter2 ifs2 scope pos) 1 it acc env).onRaise (fun x=>do noteFrame x env;theTreesLotGoes x)) _ _ s
 refine wpAny_noted (wpAny_noRaise ?_)
 rw[zfK]
 refine wpAny_bind (wpAny_standAt (wpAny_bind (thn (turn n s hI) fun r s₁ h₁=> ?_)))
 cases r with
 |none=>exact wpAny_pure h₁
 |some v=>
  refine wpAny_bind (thn h₁ fun _ s₂ h₂=>wpAny_bind (thn h₂ fun _ s₃ h₃=>wpAny_bind (thn h₃ fun ok s₄ h₄=> ?_)))
  cases ok with
  |false=>exact wpAny_pure ⟨rfl,h₄⟩
  |true=>exact wpAny_bind (wpAny_bind (thn h₄ fun x s₅ h₅=>wpAny_bind (thn h₅ fun _ s₆ h₆=>wpAny_pure (wpAny_pure ⟨rfl,h₆⟩))))
theorem zeR (hs2:∀x,foldedSetIterable iter2 env x=pure x)(I:Nat->Shared->Prop)
  (turn:∀n s,I n s->wpAny (model prog w) A (pyNext it) (fun r s₁=>match r with
   |none=>R (.ok .next) s₁
   | some v=>wpAny (model prog w) A (letOwnedTupleGo tg it v) (fun _ s₂=>wpAny (model prog w) A (assign tg env v) (fun _ s₃=>
     wpAny (model prog w) A (forIn ifs true fun c r=>if r=true then do let ok<-isTrue c env (eval c env);pure (ForInStep.yield ok) else pure (ForInStep.yield r)) (fun ok s₄=>
      if ok=true then wpAny (model prog w) A (eval iter2 env) (fun x s₅=>wpAny (model prog w) A (pyIter x) (fun it2 s₆=>
       codeAny (model prog w) A (.compStart (lc2 elt tg iter ifs tg2 iter2 ifs2 scope pos) 1 it2 acc env) (fun r s₇=>r=.ok .next/\∃m,m<n/\I m s₇) s₆) (fun _ _=>False) s₅) (fun _ _=>False) s₄
      else ∃m,m<n/\I m s₄) (fun _ _=>False) s₃) (fun _ _=>False) s₂) (fun _ _=>False) s₁) (fun _ _=>False) s)
  (n:Nat) (h:I n s):
  codeAny (model prog w) A (.compLoop (lc2 elt tg iter ifs tg2 iter2 ifs2 scope pos) 0 it acc env) R s:=by
 refine codeAny_loop rfl I (fun n s hI=> ?_) n h
 show wpAny _ A ((compTurn (lc2 elt tg iter ifs tg2 iter2 ifs2 scope pos) 0 it acc env).onRaise (fun x=>do noteFrame x env;theTreesLotGoes x)) _ _ s
 refine wpAny_noted (wpAny_noRaise ?_)
 rw[zeQ]
 refine wpAny_bind (wpAny_standAt (wpAny_bind (thn (turn n s hI) fun r s₁ h₁=> ?_)))
 cases r with
 |none=>exact wpAny_pure h₁
 | some v=>
  refine wpAny_bind (thn h₁ fun _ s₂ h₂=>wpAny_bind (thn h₂ fun _ s₃ h₃=>wpAny_bind (thn h₃ fun ok s₄ h₄=> ?_)))
  cases ok with
  |false=>exact wpAny_pure ⟨rfl,h₄⟩
  |true=>
   refine wpAny_bind (thn h₄ fun x s₅ h₅=>wpAny_bind (wpAny_standAt (wpAny_bind (wpAny_of_eq (hs2 x) (wpAny_bind (wpAny_holding (thn h₅ fun it2 s₆ h₆=> ?_)))))))
   refine wpAny_bind (wpAny_runOwn (codeAny_mono h₆ fun r s₇ hr=> ?_))
   obtain⟨rfl,hr⟩:=hr
   exact wpAny_pure ⟨rfl,hr⟩
theorem zb6
  (h0:codeAny (model prog w) A (.compLoop (lc2 elt tg iter ifs tg2 iter2 ifs2 scope pos) 1 it acc env) R s)
  (h:wpAny (model prog w) A (pyIter it) (fun it' s'=>codeAny (model prog w) A (.compLoop (lc2 elt tg iter ifs tg2 iter2 ifs2 scope pos) 1 it' acc env) R s')
   (notedBy (model prog w) A env fun x s'=>R (.error x) s') s):
  codeAny (model prog w) A (.compStart (lc2 elt tg iter ifs tg2 iter2 ifs2 scope pos) 1 it acc env) R s:=by
 refine codeAny_of_tree ?_
 show wpAny _ _ ((compStart (lc2 elt tg iter ifs tg2 iter2 ifs2 scope pos) 1 it acc env).onRaise (fun x=>do noteFrame x env;standAt theWindowsPlace)) _ _ s
 refine wpAny_notedAt ?_
 unfold compStart
 show wpAny _ _ (ask >>= _) _ _ s
 refine wpAny_bind (wpAny_askSetting (wpAny_ite ?_))
 split
 ·first
   |exact wpAny_bind (wpAny_pure (wpAny_pure (And.intro rfl h0)))
   |exact wpAny_pure (And.intro rfl h0)
 ·refine wpAny_bind (wpAny_rule (wpAny_bind (wpAny_standAt (wpAny_bind (wpAny_mono h (fun it' s' h'=>wpAny_pure (And.intro rfl h')) fun _ _ e=>e)))))
end
noncomputable def InW (J:It)(H1:Hp)(g:TG)(tt:TT)(te:TE)(acc:Addr)(σ:St)(Kt:Hp->Prop):Prop:=
 ∃ V:Nat->Nat->Hp->Prop,(∃m,V 0 m H1)/\∀i m H,V i m H->
  (J.stop i H/\Kt H)∨(J.go i H/\∀x H',J.yld i H x H'->g x σ H' fun σ2 H2=>Wk σ σ2/\tt σ2 H2 fun b H3=>
   if b=true then te σ2 H3 fun v H4=>∃ys,H4 acc=some (.lst ys)/\ys.length<sizeLine/\∃m',m'<m/\V (i+1) m' (upd H4 acc (.lst (ys++[v])))
   else ∃m',m'<m/\V (i+1) m' H3)
noncomputable def LcW2 (J:It)(H1:Hp)(g:TG)(tt:TT)(wi2:TI)(g2:TG)(tt2:TT)(te:TE)(n:Nat)(ix:List Nat)(σ:St)(Q:VK):Prop:=∀acc,H1 acc=none->
 ∃ W:Nat->Nat->Hp->Prop,(∃m,W 0 m (upd H1 acc (.lst [])))/\∀i m H,W i m H->
  (J.stop i H/\Q (.ref acc) H)∨(J.go i H/\∀x H',J.yld i H x H'->g x (zbc n ix σ) H' fun σ2 H2=>Wk (zbc n ix σ) σ2/\tt σ2 H2 fun b H3=>
   if b=true then wi2 σ2 H3 fun J2 H4=>InW J2 H4 g2 tt2 te acc σ2 fun H5=>∃m',m'<m/\W (i+1) m' H5
   else ∃m',m'<m/\W (i+1) m' H3)
noncomputable def tLc2 (wi:TI)(g:TG)(tt:TT)(wi2:TI)(g2:TG)(tt2:TT)(te:TE)(n:Nat)(ix:List Nat):TE:=fun σ H Q=>wi σ H fun J H1=>LcW2 J H1 g tt wi2 g2 tt2 te n ix σ Q
section
variable {X:Cx}{elt tg iter tg2 iter2:Expr}{ifs ifs2:List Expr}{scope:Scope}{pos:Pos}{wi wi2:TI}{g g2:TG}{tt tt2:TT}{te:TE}{N':List Str}{n:Nat}{ix:List Nat}
theorem zgD {pins:List (Addr×Obj)}{σ:St}{H2:Hp}{s2:Shared}{cl:List (Str×Addr)}{it:Addr}{fp:List Addr}{tn:Nat->Heap->Prop}{J:It}{Q:VK}{R:Value->Addr->Result->Shared->Prop}
  (hc:X.calm=true) (S:CompScope X scope N' n ix)
  (hY:∀s₂ H₂ cl C fp,PG (X.comp s₂ H₂ N' scope cl C fp) tg g/\PTs (X.comp s₂ H₂ N' scope cl C fp) ifs tt/\PI (X.comp s₂ H₂ N' scope cl C fp) tg2 iter2 wi2/\PG (X.comp s₂ H₂ N' scope cl C fp) tg2 g2/\PTs (X.comp s₂ H₂ N' scope cl C fp) ifs2 tt2/\
   PE (X.comp s₂ H₂ N' scope cl C fp) elt te)
  (hs2:∀env x,foldedSetIterable iter2 env x=pure x)
  (I2:Inv X pins σ H2 s2) (hcl1:∀x c,cl.lookup x=some c->X.env.cells.lookup x=some c) (hcl2:∀y∈scope.names,y.2=.free->cl.lookup y.1=X.env.cells.lookup y.1)
  (T:Turn X.prog X.w X.K tg J fp it tn) (st2:tn 0 s2.heap) (f2:∀b∈fp,FpOk X pins H2 b)
  (hW:LcW2 J H2 g tt wi2 g2 tt2 te n ix σ Q)
  (hR:∀acc C s' H' m,s'.heap.Ns C m->Inv X pins σ H' s'->H' C=none->C≠X.env.locals->(C∈X.ex∨X.s₀.heap.objs.size<=C)->(∀x c,X.env.cells.lookup x=some c->c≠C)->(∀p∈X.pn++pins,p.1≠C)->C∉X.fs->Q (.ref acc) H'->R (.ref acc) C (.ok .next) s'):
  wpAny (model X.prog X.w) X.A (newList []) (fun acc s₃=>wpAny (model X.prog X.w) X.A (newFunctionEnv scope X.env.globals cl [] X.env.qual none .none (some X.env)) (fun cenv s₄=>
   codeAny (model X.prog X.w) X.A (.compStart (lc2 elt tg iter ifs tg2 iter2 ifs2 scope pos) 0 (.ref it) acc {cenv with scope:=relabel scope X.env}) (R acc cenv.locals) s₄) X.xe s₃) X.xe s2:=by
 refine wpAny_newObj_type (wpAny_newFunctionEnv S.nocell (by intro y hy;simp at hy) (fun h₁ hns₁ hsb₁=> ?_) S.kind)
 dsimp only at hns₁ hsb₁ ⊢
 generalize hH2:s2.heap.push {cls:=.type "list",dict:=none,data:=.seq ([]:List Value).toArray}=G at hns₁ hsb₁ ⊢
 have hC:G.objs.size=s2.heap.objs.size+1:=by rw[<-hH2,Heap.size_push]
 have hlt:∀b∈fp,b<s2.heap.objs.size:=fun b hb=>by
  obtain⟨o,e,_⟩:=T.obj _ _ st2 b hb
  exact Heap.lt_size e
 have old:∀b o,s2.heap.get? b=some o->h₁.get? b=some o:=fun b o e=>hsb₁.extBut b o (by rw[hC];exact Nat.ne_of_lt (Nat.lt_succ_of_lt (Heap.lt_size e))) (Heap.get?_push_of_some _ (hH2▸Heap.get?_push_of_some _ e))
 have hacc:h₁.get? s2.heap.objs.size=some {cls:=.type "list",dict:=none,data:=.seq ([]:List Value).toArray}:=hsb₁.extBut _ _ (by rw[hC];exact Nat.ne_of_lt (Nat.lt_succ_self _)) (Heap.get?_push_of_some _ (hH2▸Heap.get?_push_size _ rfl))
 obtain⟨W,⟨m0,w0⟩,turn⟩:=hW s2.heap.objs.size (I2.hok.fresh (Nat.le_refl _))
 obtain⟨hYg,hYt,hYi,hYg2,hYt2,hYe⟩:=hY s2 H2 cl G.objs.size fp
 have fpY:∀{H':Hp},(∀b∈fp,H' b=none)->∀b∈fp,FpOk (X.comp s2 H2 N' scope cl G.objs.size fp) [] H' b:=fun {H'} hn b hb=>by
  obtain⟨_,q1,q2,q3,q4,q5⟩:=f2 b hb
  refine⟨hn b hb, ?_,fun z=> ?_,.inl hb,fun x c e=>q4 x c (hcl1 x c e),fun p hp=>absurd (show p∈([]:List (Addr×Obj)) from hp) (by simp)⟩
  ·show b≠G.objs.size
   rw[hC]
   exact Nat.ne_of_lt (Nat.lt_succ_of_lt (hlt b hb))
  ·rcases List.mem_cons.mp (I2.stkSub b z) with y|y
   ·exact q1 y
   ·exact q2 y
 have loop:∀s₃:Shared,s₃={s2 with heap:=h₁,toks:=s2.toks+([]:List (Str×Value)).length}->
   codeAny (model X.prog X.w) X.A (.compLoop (lc2 elt tg iter ifs tg2 iter2 ifs2 scope pos) 0 (.ref it) (.ref s2.heap.objs.size) (compEnvC scope cl G.objs.size X.env)) (R (.ref s2.heap.objs.size) G.objs.size) s₃:=by
  rintro s₃ rfl
  have I4:=zgp (tk:=s2.toks+([]:List (Str×Value)).length) I2 S hcl1 hcl2 f2 hlt (Nat.le_refl _) (by rw[hC];exact Nat.le_succ _) (by rw[hC];exact Nat.ne_of_gt (Nat.lt_succ_self _)) old hacc hns₁
  refine zeR (fun x=>hs2 _ x) (fun n' s'=>∃i H',Inv (X.comp s2 H2 N' scope cl G.objs.size fp) [] (zbc n ix σ) H' s'/\tn i s'.heap/\(∀b∈fp,H' b=none)/\W i n' H') ?_ m0
   ⟨0,_,I4,T.keep _ _ _ st2 fun b hb o e=>old b o e,fun b hb=> ?_,w0⟩
  ·rintro n' s3 ⟨i,H3,I3,st3,fr3,w3⟩
   rcases turn i n' H3 w3 with⟨stop,q⟩|⟨go,step⟩
   ·refine thn (T.done (X.comp s2 H2 N' scope cl G.objs.size fp) rfl rfl rfl hc i [] s3 _ H3 _ I3 (fpY fr3) st3 stop) fun r s4 zq=> ?_
    obtain⟨hr,I5⟩:=zq
    subst hr
    obtain⟨mC,hnC,_⟩:=I5.loc
    have IX:Inv X pins σ H3 s4:=I2.call' I5.os I5.base I5.hok I5.bare fun b hb=>by
     obtain⟨_,q1,q2,q3,q4,q5⟩:=f2 b hb
     exact⟨q3,q1,q4,q5⟩
    refine hR _ _ s4 H3 mC hnC IX I5.free ?_ (.inr ?_) (fun x c e z=> ?_) (fun p hp z=> ?_) (I2.nofs (by rw[hC];exact Nat.le_succ _)) q
    ·rw [hC]
     exact Nat.ne_of_gt (Nat.lt_succ_of_lt I2.lt)
    ·rw [hC]
     exact Nat.le_succ_of_le I2.sz
    ·obtain ⟨v,q⟩:=I2.cell x c e
     rw[hC] at z
     exact absurd z (Nat.ne_of_lt (Nat.lt_succ_of_lt q.lt))
    ·rw [hC] at z
     exact absurd z (Nat.ne_of_lt (Nat.lt_succ_of_lt (Heap.lt_size (I2.pin p hp).1)))
   ·refine thn (T.item (X.comp s2 H2 N' scope cl G.objs.size fp) rfl rfl rfl hc i [] s3 _ H3 _ I3 (fpY fr3) st3 go) fun r s4 zq=> ?_
    obtain⟨u,hr,h4⟩:=zq
    subst hr
    refine thn h4 fun _ s5 zq=> ?_
    obtain⟨x,H5,I5,r5,y5,st5,fr5⟩:=zq
    have I5':=I5.pinned (fpY fr5) (T.obj _ _ st5)
    refine thn (hYg _ s5 _ H5 x u _ I5' r5 (step x H5 y5)) fun _ s6 zq=> ?_
    obtain⟨σ6,H6,I6,wk,q6⟩:=zq
    have back:∀{H':Hp} {s':Shared},Inv (X.comp s2 H2 N' scope cl G.objs.size fp) ([]++zbH fp s5.heap) σ6 H' s'->
      Inv (X.comp s2 H2 N' scope cl G.objs.size fp) [] (zbc n ix σ) H' s'/\tn (i+1) s'.heap/\∀b∈fp,H' b=none:=fun {H' s'} I7=>by
     refine⟨I7.unpinned.weak wk.1 wk.2,T.keep _ _ _ st5 fun b hb o e=>(I7.pin (b,o) (List.mem_append_right _ (List.mem_append_right _ (zaQ hb e)))).1,fun b hb=> ?_⟩
     obtain⟨o,e,d⟩:=T.obj _ _ st5 b hb
     exact (I7.pin (b,o) (List.mem_append_right _ (List.mem_append_right _ (zaQ hb e)))).2.1
    refine thn (hYt _ s6 σ6 H6 _ I6 q6) fun ok s7 zq=> ?_
    obtain⟨H7,I7,q7⟩:=zq
    cases ok with
    |false=>
     rw[if_neg Bool.false_ne_true] at q7 ⊢
     obtain⟨m',hm,w7⟩:=q7
     obtain⟨b1,b2,b3⟩:=back I7
     exact⟨m',hm,i+1,H7,b1,b2,b3,w7⟩
    | true=>
     rw[if_pos rfl] at q7 ⊢
     refine thn (hYi _ s7 σ6 H7 _ I7 q7) fun xv s8 h8=>thn h8 fun itv s9 h9=> ?_
     obtain⟨it2,fp2,tn2,J2,H9,rfl,I9,T2,st9,f9,V,⟨m1,v0⟩,turn2⟩:=h9
     have stat2:∀{H':Hp},(∀b∈fp2,H' b=none)->∀b∈fp2,FpOk (X.comp s2 H2 N' scope cl G.objs.size fp) ([]++zbH fp s5.heap) H' b:=fun hn b hb=>⟨hn b hb,(f9 b hb).2⟩
     have loop2:codeAny (model X.prog X.w) X.A (.compLoop (lc2 elt tg iter ifs tg2 iter2 ifs2 scope pos) 1 (.ref it2) (.ref s2.heap.objs.size) (compEnvC scope cl G.objs.size X.env))
       (fun r s₇=>r=.ok .next/\∃m,m<n'/\∃i H',Inv (X.comp s2 H2 N' scope cl G.objs.size fp) [] (zbc n ix σ) H' s₇/\tn i s₇.heap/\(∀b∈fp,H' b=none)/\W i m H') s9:=by
      refine zfL (fun n'' s'=>∃j H',Inv (X.comp s2 H2 N' scope cl G.objs.size fp) ([]++zbH fp s5.heap) σ6 H' s'/\tn2 j s'.heap/\(∀b∈fp2,H' b=none)/\V j n'' H') ?_ m1 ⟨0,H9,I9,st9,fun b hb=>(f9 b hb).1,v0⟩
      rintro n'' s10 ⟨j,H10,I10,st10,fr10,v10⟩
      rcases turn2 j n'' H10 v10 with⟨stop2,q10⟩|⟨go2,step2⟩
      ·refine thn (T2.done (X.comp s2 H2 N' scope cl G.objs.size fp) rfl rfl rfl hc j _ s10 _ H10 _ I10 (stat2 fr10) st10 stop2) fun r s11 zq=> ?_
       obtain⟨hr,I11⟩:=zq
       subst hr
       obtain⟨m',hm,w10⟩:=q10
       obtain⟨b1,b2,b3⟩:=back I11
       exact⟨rfl,m',hm,i+1,H10,b1,b2,b3,w10⟩
      ·refine thn (T2.item (X.comp s2 H2 N' scope cl G.objs.size fp) rfl rfl rfl hc j _ s10 _ H10 _ I10 (stat2 fr10) st10 go2) fun r s11 zq=> ?_
       obtain⟨u2,hr,h11⟩:=zq
       subst hr
       refine thn h11 fun _ s12 zq=> ?_
       obtain⟨y,H12,I12,r12,y12,st12,fr12⟩:=zq
       have I12':=I12.pinned (stat2 fr12) (T2.obj _ _ st12)
       refine thn (hYg2 _ s12 _ H12 y u2 _ I12' r12 (step2 y H12 y12)) fun _ s13 zq=> ?_
       obtain⟨σ13,H13,I13,wk2,q13⟩:=zq
       have back2:∀{H':Hp} {s':Shared},Inv (X.comp s2 H2 N' scope cl G.objs.size fp) (([]++zbH fp s5.heap)++zbH fp2 s12.heap) σ13 H' s'->
         Inv (X.comp s2 H2 N' scope cl G.objs.size fp) ([]++zbH fp s5.heap) σ6 H' s'/\tn2 (j+1) s'.heap/\∀b∈fp2,H' b=none:=fun {H' s'} I7=>by
        refine⟨I7.unpinned.weak wk2.1 wk2.2,T2.keep _ _ _ st12 fun b hb o e=>(I7.pin (b,o) (List.mem_append_right _ (List.mem_append_right _ (zaQ hb e)))).1,fun b hb=> ?_⟩
        obtain⟨o,e,d⟩:=T2.obj _ _ st12 b hb
        exact (I7.pin (b,o) (List.mem_append_right _ (List.mem_append_right _ (zaQ hb e)))).2.1
       refine thn (hYt2 _ s13 σ13 H13 _ I13 q13) fun ok2 s14 zq=> ?_
       obtain⟨H14,I14,q14⟩:=zq
       cases ok2 with
       |false=>
        rw[if_neg Bool.false_ne_true] at q14 ⊢
        obtain⟨m',hm,v14⟩:=q14
        obtain⟨b1,b2,b3⟩:=back2 I14
        exact⟨m',hm,j+1,H14,b1,b2,b3,v14⟩
       |true=>
        rw[if_pos rfl] at q14 ⊢
        refine thn (hYe _ s14 σ13 H14 _ I14 q14) fun xv s15 zq=> ?_
        obtain⟨v15,H15,I15,r15,ys,ha,hz,m',hm,w15⟩:=zq
        refine thn (zaJ _ s15 σ13 H15 (.ref s2.heap.objs.size) [v15] (.ref s2.heap.objs.size) [xv] (fun _ H'=>H'=upd H15 s2.heap.objs.size (.lst (ys++[v15]))) I15 rfl (.cons r15 .nil) ⟨_,ys,v15,rfl,rfl,ha,hz,rfl⟩) fun _ s16 zq=> ?_
        obtain⟨_,H16,I16,_,e16⟩:=zq
        subst e16
        obtain⟨b1,b2,b3⟩:=back2 I16
        exact⟨m',hm,j+1,_,b1,b2,b3,w15⟩
     exact zb6 loop2 (T2.self _ 0 _ _ _ st9 loop2)
  ·rw [zah (Nat.ne_of_lt (hlt b hb))]
   exact (f2 b hb).1
 exact codeAny_compStart_list (loop _ rfl) (T.self _ 0 _ _ _ (T.keep _ _ _ st2 fun b hb o e=>old b o e) (loop _ rfl))
theorem zmw (hc:X.calm=true)(S:CompScope X scope N' n ix)(hi:PI X tg iter wi)
  (hY:∀s₂ H₂ cl C fp,PG (X.comp s₂ H₂ N' scope cl C fp) tg g/\PTs (X.comp s₂ H₂ N' scope cl C fp) ifs tt/\PI (X.comp s₂ H₂ N' scope cl C fp) tg2 iter2 wi2/\PG (X.comp s₂ H₂ N' scope cl C fp) tg2 g2/\PTs (X.comp s₂ H₂ N' scope cl C fp) ifs2 tt2/\
   PE (X.comp s₂ H₂ N' scope cl C fp) elt te)
  (hs:∀x,foldedSetIterable iter X.env x=pure x:=by intro _;rfl) (hs2:∀env x,foldedSetIterable iter2 env x=pure x:=by intro _ _;rfl):
  PE X (.ListComp elt [⟨tg,iter,ifs,0⟩,⟨tg2,iter2,ifs2,0⟩] scope pos) (tLc2 wi g tt wi2 g2 tt2 te n ix):=by
 intro pins s σ H Q I h
 obtain⟨cl,hcl,hcl1,hcl2⟩:=zbY (env:=X.env) (scope:=scope) fun y hy hf=>I.ok.has _ (S.free y hy hf)
 rw[eval_ListComp]
 refine wpAny_comprehension_free (use:=none) rfl hs hcl S.kind S.names (thn (hi pins s σ H _ I h) fun v s1 h1=>thn h1 fun itv s2 h2=> ?_)
 obtain⟨it,fp,tn,J,H2,rfl,I2,T,st2,f2,hW⟩:=h2
 refine zgD (R:=fun acc C=>compPost (model X.prog X.w) X.A X.xe none (EP X pins σ Q) acc C) hc S hY hs2 I2 hcl1 hcl2 T st2 f2 hW ?_
 intro acc C s' H' m hn IX hf hL h1 h2 h3 h4 q
 exact⟨m,hn,fun h' sb=>⟨.ref acc,H',IX.turned (t':=s'.toks) (fun b o hb e=>sb.extBut b o hb e) hf hL h1 h2 h3,rfl,q⟩⟩
end
noncomputable def Itel (K:PySem.W.Frag)(a:Addr):It:=
 ⟨fun i H=>∃xs x,SqL K H a xs/\xs[i]? =some x,fun i H v H'=>∃t x,H t=none/\v=.ref t/\H'=upd H t (.tup [.int i,x])/\∀xs,SqL K H a xs->xs[i]? =some x,fun i H=>∃xs,SqL K H a xs/\xs.length=i⟩
theorem zhI {P:Program}{w:World}{K:PySem.W.Frag}{els:List Expr}{kx}{tp:Pos}(a e it:Addr)(hne:e≠it):Turn P w K (.Tuple els kx tp) (Itel K a) [e,it] e (fun i h=>(∃old,IsEnum h e it i old)/\h.IsListIter it a i) where
 mem:=by simp
 obj:=fun i h st b hb=>by
  obtain⟨⟨old,he⟩,o,ho,hc,hd⟩:=st
  rcases List.mem_cons.mp hb with rfl|hb
  ·exact⟨_,he,fun v z=>by cases z⟩
  ·rw [List.mem_singleton.mp hb]
   exact⟨o,ho,fun v z=>by rw[hd] at z;cases z⟩
 keep:=fun i h h' st k=>by
  obtain⟨⟨old,he⟩,o,ho,r⟩:=st
  exact⟨⟨old,k e (by simp) _ he⟩,o,k it (by simp) _ ho,r⟩
 item:=by
  intro X hP hw hK hc i pins s σ H E I hf st hg
  subst hP hw hK
  obtain⟨xs,x,hq,hx⟩:=hg
  obtain⟨its,rv,p,hz⟩:=I.list hq
  obtain⟨u,hu,ru⟩:=rv.get hx
  obtain⟨⟨old,he⟩,hi⟩:=st
  obtain⟨o,ho,hcl,hd⟩:=id hi
  have hT:s.heap.IsList a its.toArray:=p.isList
  have hai:a≠it:=fun z=>by
   obtain⟨o',e1,e2,_⟩:=p.isList
   rw[z,ho] at e1;cases e1;rw[hcl] at e2;injection e2 with z2;revert z2;decide
  have hae:e≠a:=fun z=>by
   obtain⟨o',e1,e2,_⟩:=p.isList
   rw[<-z,he] at e1;cases e1;injection e2 with z2;revert z2;decide
  have hlt:i<its.toArray.size:=by
   have:=(List.getElem?_eq_some_iff.mp hu).1
   simpa using this
  have hh:X.A.in1.handled=none:=I.ok.hd hc
  refine wpAny_pyNext_enum_itemD (Draws.list hh it a hai its.toArray) he ⟨hi,hT⟩ hlt hne (by simp[hne,hae]) fun x' h1 tk hP1 ho1 hs1 hT1 hz1 hk1=> ?_
  have ex:x'=u:=by
   have q:its[i]? =some x':=by simpa using hP1
   rw[hu] at q;exact (Option.some.inj q).symm
  subst ex
  refine⟨_,rfl,wpAny_letOwnedTupleGo_enum ho1 fun h2 he2 hs2=> ?_⟩
  have hne0:s.heap.objs.size≠e:=Nat.ne_of_gt (Heap.lt_size he)
  have keep:∀b o,b∉[e,it]->s.heap.get? b=some o->h2.get? b=some o:=fun b o hb e0=>(hs2.2 b fun z=>hb (by simp[z])).trans (hk1 b o (fun z=>hb (by simp[z])) (fun z=>hb (by simp[z])) e0)
  refine⟨.ref s.heap.objs.size,_,I.turnedT (h':=h2) (t':=tk+1) (xs:=[.int i,x]) hf keep (.cons ⟨tk,rfl⟩ (.cons ru .nil)) ⟨_,(hs2.2 _ hne0).trans hT1,rfl,⟨_,rfl⟩,rfl,rfl⟩ (by show 2<=sizeLine;decide),rfl,⟨_,x,I.hok.fresh (Nat.le_refl _),rfl,rfl,fun ys hy=>by rw[I.list_inj hy hq];exact hx⟩,⟨⟨_,by simpa using he2⟩, ?_⟩,fun b hb=> ?_⟩
  ·obtain ⟨⟨o1,e1,r1⟩,_⟩:=hs1
   exact⟨o1,(hs2.2 it (Ne.symm hne)).trans e1,r1⟩
  ·rcases List.mem_cons.mp hb with rfl|hb'
   ·rw[zah (Nat.ne_of_lt (Heap.lt_size he))];exact (hf _ hb).1
   ·have e9:=List.mem_singleton.mp hb'
    subst e9
    rw[zah (Nat.ne_of_lt (Heap.lt_size ho))];exact (hf _ hb).1
 done:=by
  intro X hP hw hK hc i pins s σ H E I hf st hg
  subst hP hw hK
  obtain⟨xs,hq,hx⟩:=hg
  obtain⟨its,rv,p,hz⟩:=I.list hq
  obtain⟨⟨old,he⟩,hi⟩:=st
  obtain⟨o,ho,hcl,hd⟩:=id hi
  have hT:s.heap.IsList a its.toArray:=p.isList
  have hai:a≠it:=fun z=>by
   obtain⟨o',e1,e2,_⟩:=p.isList
   rw[z,ho] at e1;cases e1;rw[hcl] at e2;injection e2 with z2;revert z2;decide
  have hh:X.A.in1.handled=none:=I.ok.hd hc
  have hl:its.toArray.size=i:=by rw[List.size_toArray,<-rv.length,hx]
  refine wpAny_pyNext_enum_endD (Draws.list hh it a hai its.toArray) he (by rw[hl];exact⟨hi,hT⟩) fun h1 hk=>⟨rfl, ?_⟩
  exact I.turnedN (t':=s.toks) hf fun b o hb e0=>hk b o (fun z=>hb (by simp[z])) e0
 self:=fun _ _ _ _ _ st h=>by
  obtain⟨⟨old,he⟩,_⟩:=st
  exact wpAny_pyIter_enum he h
section
variable {X:Cx}
noncomputable def zmx (K:PySem.W.Frag)(ta:TA):TI:=fun σ H R=>ta σ H fun vs H1=>∃a,vs=[.ref a]/\(∃xs,SqL K H1 a xs)/\R (Itel K a) H1
theorem zgE {els:List Expr}{kx}{tp:Pos}{l:Expr}{ta:TA}{p pos:Pos}(hg:Gl X "enumerate")(hm:X.mg "enumerate" =none)(ha:PA X [l] ta)(hs:starEach [l] X.env=[(false,eval l X.env)]:=by rfl):
  PI X (.Tuple els kx tp) (.Call (.Name "enumerate" p) [l] [] pos) (zmx X.K ta):=by
 intro pins s σ H R I h
 refine Call_ (zdd I hg hm boot_enumerate (PyProof.Rows.callWith_type1 (thn (ha pos pins s σ H _ I h) fun us s1 zq=> ?_) hs rfl))
 obtain⟨vs,H1,I1,r1,q1⟩:=zq
 obtain⟨a,rfl,⟨xs,hq⟩,q⟩:=q1
 obtain⟨u,rfl,ru⟩:=zbI r1
 cases (show u=Value.ref a from ru)
 obtain⟨its,rv,p',hz⟩:=I1.list hq
 refine call_enumerate_list p'.isList fun h' he hi hsz hk=>wpAny_pyIter_enum he ?_
 have I2:Inv X pins σ H1 {s1 with heap:=h'}:=I1.kept (t':=s1.toks) hk
 refine⟨s1.heap.objs.size+1,[s1.heap.objs.size+1,s1.heap.objs.size],_,_,H1,rfl,I2,zhI a _ _ (Nat.ne_of_gt (Nat.lt_succ_self _)),⟨⟨_,he⟩,hi⟩,fun b hb=> ?_,q⟩
 rcases List.mem_cons.mp hb with rfl|hb
 ·exact I1.fpOk (Nat.le_succ _) (I1.hok.fresh (Nat.le_succ _))
 ·rw [List.mem_singleton.mp hb]
  exact I1.fpOk (Nat.le_refl _) (I1.hok.fresh (Nat.le_refl _))
end
noncomputable def zaL (xs:List V)(ys:V->List V)(p:V->V->Bool):List (V×V):=xs.flatMap fun x=>((ys x).filter (p x)).map fun y=>(x,y)
theorem zgF {J:It}{Ok:Hp->Prop}{xs:List V}{wi2:TI}{tt2:TT}{te:TE}{ix:List Nat}{σ:L2.St}{H1:Hp}{Q:VK}(Y:Yields J Ok xs)(ys:V->List V)(p:V->V->Bool)(R:V×V->V->Hp->Prop)
  (small:(zaL xs ys p).length<sizeLine) (hR:∀xy v H H',SameT H H'->R xy v H->R xy v H') (hok:∀H,Same H1 H->Ok H)
  (hin:∀x∈xs,∀H,Same H1 H->∀Rr:It->Hp->Prop,(∀J2 Ok2 H',Same H H'->Yields J2 Ok2 (ys x)->(∀G,SameT H' G->Same H1 G->Ok2 G)->Rr J2 H')->wi2 (some x::none::ix.map fun i=>σ.getD i none) H Rr)
  (ht:∀x∈xs,∀y∈ys x,∀H,Same H1 H->∀Q':Bool->Hp->Prop,Q' (p x y) H->tt2 (some x::some y::ix.map fun i=>σ.getD i none) H Q')
  (he:∀x∈xs,∀y∈ys x,p x y=true->∀H,Same H1 H->∀Q':VK,(∀v H',Same H H'->R (x,y) v H'->Q' v H')->te (some x::some y::ix.map fun i=>σ.getD i none) H Q')
  (fin:∀acc vs H',H1 acc=none->Same H1 H'->H' acc=some (.lst vs)->Paired (fun xy v=>R xy v H') (zaL xs ys p) vs->Q (.ref acc) H'):
  LcW2 J H1 (zbG 0) zcI wi2 (zbG 1) tt2 te 2 ix σ Q:=by
 intro acc ha
 refine⟨fun i m H=>m=xs.length-i/\i<=xs.length/\Same H1 H/\∃vs,H acc=some (.lst vs)/\Paired (fun xy v=>R xy v H) (zaL (xs.take i) ys p) vs,⟨xs.length,by simp,Nat.zero_le _,zac ha,[],zab,.nil⟩, ?_⟩
 rintro i m H ⟨rfl,hi,sm,vs,hacc,pr⟩
 have o:=hok _ sm
 by_cases hlt:i<xs.length
 ·refine .inr ⟨Y.go i _ o hlt,fun x H' y=> ?_⟩
  obtain⟨rfl,hx⟩:=Y.yld i _ x H' o hlt y
  have hmem:x∈xs:=List.mem_of_getElem? hx
  have htk:zaL (xs.take (i+1)) ys p=zaL (xs.take i) ys p++((ys x).filter (p x)).map fun y=>(x,y):=by
   unfold zaL
   rw[List.take_succ,hx]
   simp
  have hle:(zaL (xs.take (i+1)) ys p).length<=(zaL xs ys p).length:=by
   have e:zaL xs ys p=zaL (xs.take (i+1)) ys p++zaL (xs.drop (i+1)) ys p:=by
    unfold zaL
    conv=>lhs;rw[<-List.take_append_drop (i+1) xs]
    rw[List.flatMap_append]
   rw[e,List.length_append]
   (first|lia|omega)
  refine⟨⟨rfl,fun j v e=> ?_⟩, ?_⟩
  ·cases j with
   |zero=>cases e
   |succ j=>exact e
  ·unfold zcI
   dsimp only
   rw[if_pos rfl]
   refine hin x hmem _ sm _ fun J2 Ok2 H4 s4 Y2 hok2=> ?_
   refine⟨fun j m2 G=>m2=(ys x).length-j/\j<=(ys x).length/\SameT H4 G/\Same H1 G/\∃us,G acc=some (.lst us)/\Paired (fun xy v=>R xy v G) (zaL (xs.take i) ys p++(((ys x).take j).filter (p x)).map fun y=>(x,y)) us,
    ⟨(ys x).length,by simp,Nat.zero_le _,fun _ _ e=>e,sm.trans s4,vs,s4 _ _ hacc,by simpa using Paired.mapP pr fun xy v r=>hR xy v _ _ s4.t r⟩, ?_⟩
   rintro j m2 G ⟨rfl,hj,st,sm5,us,hus,pr5⟩
   have o2:=hok2 G st sm5
   by_cases hjl:j<(ys x).length
   ·refine .inr ⟨Y2.go j _ o2 hjl,fun y G' yy=> ?_⟩
    obtain⟨rfl,hy⟩:=Y2.yld j _ y G' o2 hjl yy
    have hymem:y∈ys x:=List.mem_of_getElem? hy
    have htk2:(ys x).take (j+1)=(ys x).take j++[y]:=by rw[List.take_succ,hy];rfl
    refine⟨⟨rfl,fun k v e=> ?_⟩, ?_⟩
    ·cases k with
     |zero=>exact e
     |succ k=>
      cases k with
      |zero=>cases e
      |succ k=>exact e
    ·refine ht x hmem y hymem _ sm5 _ ?_
     cases hp:p x y with
     |false=>
      rw[if_neg Bool.false_ne_true]
      refine⟨(ys x).length-(j+1),by (first|lia|omega),rfl,hjl,st,sm5,us,hus, ?_⟩
      rw[htk2,List.filter_append]
      simpa [hp] using pr5
     | true=>
      rw[if_pos rfl]
      refine he x hmem y hymem hp _ sm5 _ fun v G4 t4 r4=> ?_
      have hus4:G4 acc=some (.lst us):=t4 _ _ hus
      have st6:SameT G4 (upd G4 acc (.lst (us++[v]))):=zbK hus4
      have hlen:us.length<sizeLine:=by
       have e1:=Paired.length pr5
       rw[List.length_append,List.length_map] at e1
       have e2:(((ys x).take j).filter (p x)).length<=((ys x).filter (p x)).length:=by
        conv=>rhs;rw[<-List.take_append_drop j (ys x),List.filter_append,List.length_append]
        (first|lia|omega)
       rw[htk,List.length_append,List.length_map] at hle
       (first|lia|omega)
      refine⟨us,hus4,hlen,(ys x).length-(j+1),by (first|lia|omega),rfl,hjl,(st.trans t4.t).trans st6,zau (sm5.trans t4) ha,us++[v],zab, ?_⟩
      rw[htk2,List.filter_append,List.map_append,<-List.append_assoc]
      simp only[List.filter_cons,hp,if_true,List.filter_nil,List.map_cons,List.map_nil]
      exact Paired.snoc (Paired.mapP pr5 fun xy v r=>hR xy v _ _ (t4.t.trans st6) r) (hR _ _ _ _ st6 r4)
   ·have e:j=(ys x).length:=by (first|lia|omega)
    subst e
    refine .inl ⟨Y2.stop _ o2,xs.length-(i+1),by (first|lia|omega),rfl,hlt,sm5,us,hus, ?_⟩
    rw[List.take_length] at pr5
    rw[htk]
    exact pr5
 ·have e:i=xs.length:=by (first|lia|omega)
  subst e
  refine .inl ⟨Y.stop _ o, ?_⟩
  rw[List.take_length] at pr
  exact fin acc vs H ha sm hacc pr
section
variable {X:Cx}
noncomputable def rSlA:V->Option Int->Option Int->Hp->VK->Prop:=fun x lo hi H Q=>∃a xs,x=.ref a/\H a=some (.tup xs)/\∀p H',Same H H'->H' p=some (.tup (cutV xs lo hi))->Q (.ref p) H'
theorem zfM:SlR X rSlA:=by
 intro pins s σ H x v vl vu lo hi sl Q I rx hs pl pu h
 obtain⟨a,xs,rfl,ha,q⟩:=h
 by_cases hw:HT.sIx xs.length 0 lo=0/\HT.sIx xs.length xs.length hi=xs.length
 ·cases rx
  obtain⟨its,r,ht,hz⟩:=I.tuple (SqT.of (K:=X.K) ha)
  have hl:its.toArray.size=xs.length:=by rw[List.size_toArray];exact r.length.symm
  refine⟨"tuple",_,PyProof.Rows.slot_tuple_getitem.lookup,ht.typeIs, ?_⟩
  refine zcc ht hs pl pu (by rw[hl];exact hw) ⟨.ref a,H,I,rfl,q a H (Same.refl H) ?_⟩
  unfold cutV
  rw[hw.1,hw.2,List.drop_zero,Nat.sub_zero,List.take_length]
  exact ha
 ·exact zmn pins s σ H _ v vl vu lo hi sl Q I rx hs pl pu ⟨a,xs,rfl,SqT.of ha,hw,fun p hp=>q p _ (zac hp) zab⟩
end
theorem zeS {K:PySem.W.Frag}{a:Addr}{xs:List V}{g:TG}{tb:TS}{D:Ends}{σ:L2.St}{H:Hp}(Pv:Nat->L2.St->Hp->Prop)(h0:Pv 0 σ H)(hl:∀i σ H,i<=xs.length->Pv i σ H->SqL K H a xs)
  (hs:∀i x t σ H,xs[i]? =some x->Pv i σ H->H t=none->g (.ref t) σ (upd H t (.tup [.int i,x])) fun σ2 H2=>tb {D with nx:=Pv (i+1),ct:=Pv (i+1),bk:=D.nx} σ2 H2) (hd:∀σ H,Pv xs.length σ H->D.nx σ H):
  ∃W:Nat->Nat->L2.St->Hp->Prop,(∃m,W 0 m σ H)/\∀i m σ H,W i m σ H->
   ((Itel K a).stop i H/\D.nx σ H)∨((Itel K a).go i H/\∃N:L2.St->Hp->Prop,(∀σ' H',N σ' H'->∃m',m'<m/\W (i+1) m' σ' H')/\∀x H',(Itel K a).yld i H x H'->g x σ H' fun σ2 H2=>tb {D with nx:=N,ct:=N,bk:=D.nx} σ2 H2):=by
 refine⟨fun i m σ H=>m=xs.length-i/\i<=xs.length/\Pv i σ H,⟨xs.length,by simp,Nat.zero_le _,h0⟩, ?_⟩
 rintro i m σ H ⟨rfl,hi,p⟩
 have q:=hl i σ H hi p
 by_cases hlt:i<xs.length
 ·refine .inr ⟨⟨xs,xs[i],q,by simp[hlt]⟩,Pv (i+1),fun σ' H' p'=>⟨xs.length-(i+1),by (first|lia|omega),rfl,hlt,p'⟩,fun x H' y=> ?_⟩
  obtain⟨t,x',ht,rfl,rfl,y⟩:=y
  exact hs i x' t σ _ (y xs q) p ht
 ·have e:i=xs.length:=by (first|lia|omega)
  subst e
  exact .inl ⟨⟨xs,q,rfl⟩,hd σ H p⟩
section
variable {X:Cx}{elt tg iter tg2 iter2:Expr}{ifs ifs2:List Expr}{scope:Scope}{pos:Pos}{wi wi2:TI}{g g2:TG}{tt tt2:TT}{te:TE}{N':List Str}{n:Nat}{ix:List Nat}
theorem ziz {x:Str}{i:Nat}{pos' spos:Pos}(hsw:swapsWith (.ListComp elt [⟨tg,iter,ifs,0⟩,⟨tg2,iter2,ifs2,0⟩] scope pos) (some (.Name x pos')) spos.line X.env=pure true)(hN:X.N.Nodup)(hi':X.N[i]? =some x)(hx:X.env.scope.names.lookup x=some .local)
  (hc:X.calm=true) (S:CompScope X scope N' n ix) (hi:PI X tg iter wi)
  (hY:∀s₂ H₂ cl C fp,PG (X.comp s₂ H₂ N' scope cl C fp) tg g/\PTs (X.comp s₂ H₂ N' scope cl C fp) ifs tt/\PI (X.comp s₂ H₂ N' scope cl C fp) tg2 iter2 wi2/\PG (X.comp s₂ H₂ N' scope cl C fp) tg2 g2/\PTs (X.comp s₂ H₂ N' scope cl C fp) ifs2 tt2/\
   PE (X.comp s₂ H₂ N' scope cl C fp) elt te)
  (hs:∀x,foldedSetIterable iter X.env x=pure x:=by intro _;rfl) (hs2:∀env x,foldedSetIterable iter2 env x=pure x:=by intro _ _;rfl):
  PS X (.Assign [.Name x pos'] (.ListComp elt [⟨tg,iter,ifs,0⟩,⟨tg2,iter2,ifs2,0⟩] scope pos) spos) (tAsg (tLc2 wi g tt wi2 g2 tt2 te n ix) (zbG i)):=by
 intro pins s σ H D I h
 obtain⟨cl,hcl,hcl1,hcl2⟩:=zbY (env:=X.env) (scope:=scope) fun y hy hf=>I.ok.has _ (S.free y hy hf)
 rw[exec_Assign_Name_used _ _ _ _ hsw]
 refine wpAny_bind (wpAny_standAt (wpAny_bind ?_))
 show wpAny _ _ (do let _<-comprehension (.ListComp elt [⟨tg,iter,ifs,0⟩,⟨tg2,iter2,ifs2,0⟩] scope pos) scope X.env _ (newList []) false (eval iter X.env) (some (assign (.Name x pos') X.env))) _ _ s
 refine wpAny_bind (thn (wpAny_comprehension_free (use:=some (assign (.Name x pos') X.env)) (Q:=fun _ s'=>SP X pins D .next s') rfl hs hcl S.kind S.names (thn (hi pins s σ H _ I h) fun v s1 h1=>thn h1 fun itv s2 h2=> ?_)) fun _ s' hq=>wpAny_pure (wpAny_pure hq))
 obtain⟨it,fp,tn,J,H2,rfl,I2,T,st2,f2,hW⟩:=h2
 refine zgD (Q:=fun x H1=>zbG i x σ H1 D.nx) (R:=fun acc C=>compPost (model X.prog X.w) X.A X.xe (some (assign (.Name x pos') X.env)) (fun _ s'=>SP X pins D .next s') acc C) hc S hY hs2 I2 hcl1 hcl2 T st2 f2 hW ?_
 intro acc C s' H' m hn IX hf hL h1 h2 h3 h4 q
 show wpAny _ _ (assign (.Name x pos') X.env (.ref acc)) _ _ _
 obtain⟨oC,esC,epC,hoC,hdC,rC⟩:=id hn
 have IP:Inv X (pins++[(C,oC)]) σ H' s':=IX.pins_of fun p hp=>by
  rcases List.mem_append.mp hp with z|z
  ·exact IX.pin p (List.mem_append_right _ z)
  ·have e:p=(C,oC):=by simpa using z
   subst e
   exact⟨hoC,hf,hL,h4,fun v z=>by rw[hdC] at z;cases z⟩
 refine thn (zal hN hi' (.inl hx) (.inr hx) _ s' σ H' (.ref acc) (.ref acc) D.nx IP rfl q) fun _ s'' zq=> ?_
 obtain⟨σ',H'',I'',q''⟩:=zq
 obtain⟨e1,e2,_⟩:=I''.pin (C,oC) (List.mem_append_right _ (List.mem_append_right _ (by simp)))
 refine⟨m,⟨oC,esC,epC,e1,hdC,rC⟩,fun h' sb=>⟨σ',H'', ?_,q''⟩⟩
 exact I''.unpinned.turned (t':=s''.toks) (fun b o hb e=>sb.extBut b o hb e) e2 hL h1 h2 h3
end
noncomputable def zb7 (m:Nat)(b:List Int):List Int:=(num0 m).filter fun x=>decide (x∉b)
noncomputable def zce (m:Nat)(L:List (List Int)):List (List Int):=L.flatMap fun b=>(zb7 m b).map fun x=>b++[x]
noncomputable def zdC (m:Nat)(L:List (List Int)):Nat->List (List Int)
 |0=>L
 |k+1=>zce m (zdC m L k)
theorem zhJ (m:Nat)(b:List Int):(zb7 m b).Nodup:=List.Nodup.sublist List.filter_sublist (zaD m)
theorem ziA (m:Nat)(b:List Int)(x:Int):zb7 m (b++[x])=(zb7 m b).filter fun y=>decide (y≠x):=by
 unfold zb7
 rw[List.filter_filter]
 apply List.filter_congr
 intro y _
 simp[List.mem_append]
 exact Bool.and_comm _ _
theorem zd8 {A B:List Int}{x:Int}(nd:(A++x::B).Nodup):(A++x::B).filter (fun y=>decide (y≠x))=A++B:=by
 obtain⟨n1,n2,n3⟩:=List.nodup_append.mp nd
 have hx1:∀y∈A,y≠x:=fun y hy=>n3 y hy x (by simp)
 have hx2:∀y∈B,y≠x:=fun y hy z=>(List.nodup_cons.mp n2).1 (z▸hy)
 rw[List.filter_append,List.filter_cons]
 simp only[ne_eq,not_true_eq_false,decide_false,Bool.false_eq_true,if_false]
 rw[List.filter_eq_self.mpr fun y hy=>by simpa using hx1 y hy,List.filter_eq_self.mpr fun y hy=>by simpa using hx2 y hy]
theorem zeT {L:List Int}(nd:L.Nodup){k:Nat}(hk:k<L.length):L.filter (fun y=>decide (y≠L[k]))=L.take k++L.drop (k+1):=by
 have e:L.take k++L[k]::L.drop (k+1)=L:=by rw[<-List.drop_eq_getElem_cons hk,List.take_append_drop]
 have:=zd8 (A:=L.take k) (B:=L.drop (k+1)) (x:=L[k]) (by rw[e];exact nd)
 rwa [e] at this
noncomputable def allA (m:Nat):List (List Int):=zdC m [[]] m
theorem zjU (m:Nat):zb7 m []=num0 m:=by
 unfold zb7
 exact List.filter_eq_self.mpr fun y _=>by simp
structure Beg (m k:Nat) (b:List Int):Prop where
 len:b.length=k
 nd:b.Nodup
 rng:∀y∈b,0<=y/\y<m
 free:(zb7 m b).length+k=m
theorem beg0 (m:Nat):Beg m 0 []:=⟨rfl,by simp,by simp,by rw[zjU,zaV];(first|lia|omega)⟩
theorem Beg.more {m k:Nat}{b:List Int}(B:Beg m k b){x:Int}(hx:x∈zb7 m b):Beg m (k+1) (b++[x]):=by
 have hx':=List.mem_filter.mp hx
 have hxb:x∉b:=by simpa using hx'.2
 have hxr:=zaP hx'.1
 refine⟨by rw[List.length_append,B.len];rfl,List.nodup_append.mpr ⟨B.nd,by simp,fun a ha c hc e=> ?_⟩,fun y hy=> ?_, ?_⟩
 ·rw [List.mem_singleton] at hc
  subst hc e
  exact hxb ha
 ·rcases List.mem_append.mp hy with hy|hy
  ·exact B.rng y hy
  ·rw[List.mem_singleton.mp hy];exact hxr
 ·obtain ⟨i,hi⟩:=List.getElem?_of_mem hx
  obtain⟨hi1,hi2⟩:=List.getElem?_eq_some_iff.mp hi
  have:=zeT (zhJ m b) hi1
  rw[ziA,<-hi2,this,List.length_append,List.length_take,List.length_drop]
  have:=B.free
  (first|lia|omega)
noncomputable def facD (m:Nat):Nat->Nat
 |0=>1
 |k+1=>facD m k*(m-k)
theorem zcz (m:Nat):∀k,(∀b∈zdC m [[]] k,Beg m k b)/\(zdC m [[]] k).length=facD m k
 |0=>⟨fun b hb=>by rw[List.mem_singleton.mp hb];exact beg0 m,rfl⟩
 | k +1=>by
  obtain⟨h1,h2⟩:=zcz m k
  refine⟨fun b hb=> ?_, ?_⟩
  ·obtain ⟨c,hc,hb⟩:=List.mem_flatMap.mp hb
   obtain⟨x,hx,rfl⟩:=List.mem_map.mp hb
   exact (h1 c hc).more hx
  ·show (zce m (zdC m [[]] k)).length=facD m k*(m-k)
   have key:∀L:List (List Int),(∀b∈L,Beg m k b)->(zce m L).length=L.length*(m-k):=fun L=>by
    induction L with
    |nil=>intro _;simp[zce]
    |cons b t ih=>
     intro h
     have hb:=(h b (by simp)).free
     have:=ih fun c hc=>h c (by simp[hc])
     have e:zce m (b::t)=((zb7 m b).map fun x=>b++[x])++zce m t:=by simp[zce]
     rw[e,List.length_append,List.length_map,this,List.length_cons,Nat.succ_mul]
     (first|lia|omega)
   rw[key _ h1,h2]
theorem zeU:∀m<7,∀k<8,facD m k<=720:=by decide
theorem Beg.ord {m:Nat}{b:List Int}(B:Beg m m b):Ord m b:=by
 refine zb1 B.nd (zaD m) fun y=>⟨fun hy=>mem_num0.mpr (B.rng y hy),fun hy=> ?_⟩
 by_cases h:y∈b
 ·exact h
 ·have:=zgy (l:=y::b) (L:=num0 m) (List.nodup_cons.mpr ⟨h,B.nd⟩) fun z hz=>by
   rcases List.mem_cons.mp hz with rfl|hz
   ·exact hy
   ·exact mem_num0.mpr (B.rng z hz)
  rw[zaV,List.length_cons,B.len] at this
  (first|lia|omega)
theorem zgG {m k:Nat}(hm:m<=6)(hk:k<=7):(zdC m [[]] k).length<=720:=by
 rw[(zcz m k).2]
 exact zeU m (by (first|lia|omega)) k (by (first|lia|omega))
theorem zgH (n:Int):∀S:List Int,inV (.int n) (S.map V.int)=decide (n∈S)
 |[]=>by simp[inV]
 | a::t=>by
  have ih:=zgH n t
  have e:inV (.int n) ((a::t).map V.int)=((a==n)||inV (.int n) (t.map V.int)):=rfl
  rw[e,ih]
  by_cases h:a=n
  ·subst h
   simp
  ·have h':¬n=a:=fun z=>h z.symm
   rw[beq_eq_false_iff_ne.mpr h,Bool.false_or,decide_eq_decide]
   rw[List.mem_cons]
   exact⟨.inr,fun z=>z.resolve_left h'⟩
theorem ziB (S:List Int):(S.map V.int).all zdZ=true:=by
 rw[List.all_eq_true]
 intro x hx
 obtain⟨n,_,rfl⟩:=List.mem_map.mp hx
 rfl
theorem neLL {H:Hp}{a b:Addr}{ns ms:List Int}{Q:VK}(ha:H a=some (.lst (ns.map V.int)))(hb:H b=some (.lst (ms.map V.int)))(e:ns=ms)(h:Q (.bl false) H):rNeD (.ref a) (.ref b) H Q:=by
 refine⟨_,_,.lst ha (IsAll.ints ns),.lst hb (IsAll.ints ms),zbd ns,zbd ms, ?_⟩
 rw[show PyData.eqv (.list (ns.map PyData.int)) (.list (ms.map PyData.int))=decide (ns=ms) from zcZ ns ms,decide_eq_true e]
 exact h
theorem RowsAt.get {H:Hp}:∀{zs:List Addr} {rows:List (List Int)},RowsAt H zs rows->∀{i:Nat} {z:Addr},zs[i]? =some z->∃r,rows[i]? =some r/\H z=some (.tup (r.map V.int))
 |_,_,.nil,_,_,h=>by simp at h
 |_,_,.cons r _,0,_,h=>by simp at h;subst h;exact⟨_,rfl,r⟩
 |_,_,.cons _ t,i+1,_,h=>RowsAt.get t (i:=i) (by simpa using h)
theorem zd9:∀{ns ms:List Int},ns.map V.int=ms.map V.int->ns=ms
 |[],[],_=>rfl
 |[],_::_,h=>by cases h
 |_::_,[],h=>by cases h
 |a::t,b::u,h=>by
  simp only[List.map_cons,List.cons.injEq] at h
  obtain⟨h1,h2⟩:=h
  injection h1 with h1
  rw[h1,zd9 h2]
section
variable {X:Cx}
end
noncomputable def sumR (n:Nat)(g:Nat->Int):Int:=((List.range n).map g).sum
theorem zdr (n:Nat)(g:Nat->Int):sumR (n+1) g=sumR n g+g n:=by simp[sumR,List.range_succ]
theorem zjV (n:Nat):(List.replicate n (1:Int)).sum=n:=by
 induction n with
 |zero=>rfl
 |succ n ih=>rw[List.replicate_succ,List.sum_cons,ih];push_cast;(first|lia|omega)
noncomputable def zbF (ns:List Int):Int:=sumR ns.length fun k=>if (ns.take (k+1)).all (fun a=>decide (a<=atO ns k)) then 1 else 0
noncomputable def patO (L:List Int)(x:Int):List Int:=if L.countP (fun a=>decide (a<x))=L.length then L++[x] else L.set (L.countP fun a=>decide (a<x)) x
noncomputable def zjW (ns:List Int):List Int:=ns.foldl patO []
theorem zjX (ns:List Int)(j:Nat):ns.getD j 0=atO ns (j:Int):=by unfold atO;rw[Int.toNat_natCast]
structure Heaps (ns:List Int) (L:List Int) (es:List Int):Prop where
 inc:L.Pairwise (·<·)
 len:es.length=ns.length
 up:∀(j:Nat) a,L[j]? =some a->∃k:Nat,ns[k]? =some a/\es[k]? =some ((j:Int)+1)
 dn:∀(k:Nat) e,es[k]? =some e->∃(j:Nat) (a b:Int),e=(j:Int)+1/\L[j]? =some a/\ns[k]? =some b/\a<=b
theorem ziC (ns:List Int)(x:Int):zjW (ns++[x])=patO (zjW ns) x:=by simp[zjW,List.foldl_append]
structure CompScopeZ (X:Cx) (scope:Scope) (N':List Str) (n:Nat) (ix:List Nat) (z:Str):Prop where
 kind:scope.kind=.function
 onecell:∀y∈scope.names,y.2=.cell->y.1=z
 nz:∀y:Str,(y,NameKind.free)∈scope.names->y≠z
 cf:∀(a:Addr) (cl:List (Str×Addr)),cellsFrom a scope.names cl=(z,a)::cl
 pc:∀h:Heap,pushCells h scope.names=h.push {cls:=.type "cell",data:=.cell none}
 names:∀y∈scope.names,y.2=.local->scope.names.lookup y.1=some .local
 free:∀y∈scope.names,y.2=.free->X.env.scope.names.lookup y.1=some .cell∨X.env.scope.names.lookup y.1=some .free
 nodup:∀y:Str,(y,NameKind.free)∈scope.names->scope.names.lookup y=some .local->False
 len:N'.length=n+ix.length
 at_:∀(j i:Nat),ix[j]? =some i->∃x,N'[n+j]? =some x/\X.N[i]? =some x/\(x,NameKind.free)∈scope.names
section
variable {X:Cx}{pins:List (Addr×Obj)}{σ:St}{H:Hp}{s:Shared}
end
section
variable {X:Cx}{elt tg iter:Expr}{ifs:List Expr}{scope:Scope}{pos:Pos}{wi:TI}{g:TG}{tt:TT}{te:TE}{N':List Str}{n:Nat}{ix:List Nat}
end
mutual
inductive IsK (K:PySem.W.Frag) (H:Hp):V->PyData->Prop
 |non:IsK K H .non .none
 |bl (b:Bool):IsK K H (.bl b) (.bool b)
 |int (i:Int):IsK K H (.int i) (.int i)
 |str (x:Str):IsK K H (.str x) (.str x)
 |tup {a:Addr} {vs:List V} {ds:List PyData}:SqT K H a vs->IsAllK K H vs ds->IsK K H (.ref a) (.tuple ds)
 |lst {a:Addr} {vs:List V} {ds:List PyData}:H a=some (.lst vs)->IsAllK K H vs ds->IsK K H (.ref a) (.list ds)
inductive IsAllK (K:PySem.W.Frag) (H:Hp):List V->List PyData->Prop
 |nil:IsAllK K H [] []
 |cons {v:V} {vs:List V} {d:PyData} {ds:List PyData}:IsK K H v d->IsAllK K H vs ds->IsAllK K H (v::vs) (d::ds)
end
section
variable {X:Cx}{pins:List (Addr×Obj)}{σ:St}{H:Hp}{s:Shared}
end
section
variable {X:Cx}
noncomputable def znv (K:PySem.W.Frag):List V->Hp->VK->Prop:=fun xs H Q=>∃(l:Addr) (ns:List Int),xs=[.ref l]/\SqT K H l (ns.map V.int)/\Q (.int ns.sum) H
theorem ziD (hc:X.calm=true):zbu X (.builtin "sum") (znv X.K):=by
 intro pins s σ H xs us Q I rs h
 obtain⟨l,ns,rfl,hH,q⟩:=h
 obtain⟨u,rfl,ru⟩:=zbI rs
 cases (show u=Value.ref l from ru)
 obtain⟨its,r,ht,hz⟩:=I.tuple hH
 have hI:=zbq r
 obtain⟨xs,hxs⟩:=hI.allInts.items
 have hnum:(numsOf its.toArray.toList)=ns:=hI.numsOf
 refine PySem.W.ktm_sumG (xs:=xs) (I.ok.hd hc) (by rw[<-hxs];exact ht) fun h' tk t' hk=> ?_
 have hs:preSum (numAt xs) xs.size=ns.sum:=by
  rw[preSum_eq,List.take_of_length_le (by simp)]
  rw[<-nums_intItems,<-hxs,hnum]
 rw[hs]
 exact⟨.int ns.sum,H,I.kept (t':=tk) hk,⟨_,rfl⟩,q⟩
end
end L2
namespace L2
end L2
namespace L2
open PySem PySem.Spec PyProof.Rows
theorem zeV (ns:List Int)(lo:Nat):cutV (ns.map V.int) (some (lo:Int)) none=(ns.drop lo).map V.int:=by
 unfold cutV
 rw[HT.sIx_nat,HT.sIx_none,zai,<-List.map_drop,<-List.map_take]
 congr 1
 by_cases h:lo<=ns.length
 ·rw[Nat.min_eq_left h,List.take_of_length_le (by rw[List.length_drop];exact Nat.le_refl _)]
 ·rw[show min lo ns.length=ns.length by (first|lia|omega),List.drop_length,List.drop_of_length_le (by (first|lia|omega)),List.take_nil]
theorem GDict.of {K:PySem.W.Frag}{P:Params}{C:Addr}{kvs:List (Str×Addr)}{es:Array DictEntry}{n:Nat}(l:K.lookup C=some {cls:=.type "dict",data:=.dict es n})(en:Ents P es.toList kvs)(nd:(kvs.map (·.1)).Nodup):GDict K P C kvs:=⟨⟨es,n,l,en⟩,nd⟩
theorem CalF.of {P:Program}{w:World}{K:PySem.W.Frag}{mg:Str->Option Value}{base:Heap}{k k':Nat}{x:Str}{f:Addr}{ps:List Str}{sp:Sp}(C:Cal P w K mg base k x ps sp)(h:mg x=some (.ref f))(hk:k<=k'):CalF P w K mg base k' f ps sp:=by
 obtain⟨f',fd,F,hm,kp,hb⟩:=C.ex
 rw[h] at hm
 cases hm
 exact⟨fd,F.mono hk,kp,hb⟩
structure TopX (mg:Str->Option Value):Prop where
 n_str:mg "str" =none
 n_repr:mg "repr" =none
 n_divmod:mg "divmod" =none
structure TopXK (K:PySem.W.Frag):Prop where
 k_str:PySem.W.nsIn K mainGlobals "str" =some none
 k_repr:PySem.W.nsIn K mainGlobals "repr" =some none
 k_divmod:PySem.W.nsIn K mainGlobals "divmod" =some none
theorem Paired.append {α β:Type}{F:α->β->Prop}:∀{l1 l2:List α} {v1 v2:List β},Paired F l1 v1->Paired F l2 v2->Paired F (l1++l2) (v1++v2)
 |_,_,_,_,.nil,h=>h
 |_,_,_,_,.cons r t,h=>.cons r (Paired.append t h)
section
variable {κ:Type}[DecidableEq κ]
noncomputable def valV (kvs:List (κ×V))(k:κ):Option V:=(kvs.find? fun kv=>decide (kv.1=k)).map (·.2)
noncomputable def putK (kvs:List (κ×V))(k:κ)(v:V):List (κ×V):=
 if (kvs.any fun kv=>decide (kv.1=k))=true then kvs.map (fun kv=>if kv.1=k then (kv.1,v) else kv) else kvs++[(k,v)]
theorem zea {p:κ×V}{r:List (κ×V)}{k:κ}(e:p.1=k):valV (p::r) k=some p.2:=by simp[valV,List.find?_cons,e]
theorem zeb {p:κ×V}{r:List (κ×V)}{k:κ}(e:¬p.1=k):valV (p::r) k=valV r k:=by simp[valV,List.find?_cons,e]
theorem zgI (k:κ):∀kvs:List (κ×V),(kvs.any fun kv=>decide (kv.1=k))=(valV kvs k).isSome
 |[]=>rfl
 |p::r=>by
  rw[List.any_cons]
  by_cases e:p.1=k
  ·simp only[zea e,decide_eq_true e,Bool.true_or,Option.isSome_some]
  ·rw[zeb e,decide_eq_false e,Bool.false_or];exact zgI k r
theorem zds (kvs:List (κ×V))(k:κ)(v:V):(putK kvs k v).length<=kvs.length+1:=by
 unfold putK
 split
 ·rw[List.length_map];(first|lia|omega)
 ·rw[List.length_append,List.length_cons,List.length_nil];(first|lia|omega)
theorem RelO.isSome_eq {o:Option V}{u:Option Value}(r:RelO o u):o.isSome=u.isSome:=by
 cases o with
 |none=>cases u with
  |none=>rfl
  |some _=>exact (show False from r).elim
 |some _=>cases u with
  |none=>exact (show False from r).elim
  |some _=>rfl
theorem RelO.getD {o:Option V}{u:Option Value}{d:V}{d':Value}(r:RelO o u)(rd:RelV d d'):RelV (o.getD d) (u.getD d'):=by
 cases o with
 |none=>cases u with
  |none=>exact rd
  |some _=>exact (show False from r).elim
 |some _=>cases u with
  |none=>exact (show False from r).elim
  |some _=>exact r
theorem KV.val {kvs:List (κ×V)}{vs:List (κ×Value)}(r:KV kvs vs)(k:κ):RelO (valV kvs k) (valueAt vs k):=by
 unfold KV at r
 induction r with
 |nil=>exact True.intro
 | @cons p q ps qs h t ih=>
  obtain⟨h1,h2⟩:=h
  by_cases e:p.1=k
  ·have e':q.1=k:=h1.symm.trans e
   have b:valueAt (q::qs) k=some q.2:=by simp[valueAt,List.find?_cons,e']
   rw[zea e,b];exact h2
  ·have e':¬q.1=k:=fun z=>e (h1.trans z)
   have b:valueAt (q::qs) k=valueAt qs k:=by simp[valueAt,List.find?_cons,e']
   rw[zeb e,b];exact ih
theorem KV.any {kvs:List (κ×V)}{vs:List (κ×Value)}(r:KV kvs vs)(k:κ):(kvs.any fun kv=>decide (kv.1=k))=vs.any fun kv=>decide (kv.1=k):=by
 unfold KV at r
 induction r with
 |nil=>rfl
 |cons h t ih=>rw[List.any_cons,List.any_cons,ih,h.1]
theorem KV.repl {kvs:List (κ×V)}{vs:List (κ×Value)}(r:KV kvs vs)(k:κ){y:V}{u:Value}(ry:RelV y u):
  KV (kvs.map fun kv=>if kv.1=k then (kv.1,y) else kv) (vs.map fun kv=>if kv.1=k then (kv.1,u) else kv):=by
 unfold KV at r ⊢
 induction r with
 |nil=>exact .nil
 |@cons p q ps qs h t ih=>
  rw[List.map_cons,List.map_cons]
  refine .cons ?_ ih
  obtain⟨h1,h2⟩:=h
  by_cases e:p.1=k
  ·rw[if_pos e,if_pos (h1.symm.trans e)];exact⟨h1,ry⟩
  ·rw[if_neg e,if_neg (fun z=>e (h1.trans z))];exact⟨h1,h2⟩
theorem KV.put {kvs:List (κ×V)}{vs:List (κ×Value)}(r:KV kvs vs)(k:κ){y:V}{u:Value}(ry:RelV y u):KV (putK kvs k y) (stored vs k u):=by
 unfold putK stored
 rw[r.any k]
 by_cases e:(vs.any fun kv=>decide (kv.1=k))=true
 ·rw[if_pos e,if_pos e];exact r.repl k ry
 ·rw[if_neg e,if_neg e];exact Paired.snoc r ⟨rfl,ry⟩
theorem KV.length {kvs:List (κ×V)}{vs:List (κ×Value)}(r:KV kvs vs):kvs.length=vs.length:=Paired.length r
end
theorem zlu {P:Program}{w:World}{k:Key}{u:Value}(r:RelV (kV k) u):(zaE P w).is k u=true:=by
 cases k with
 |inl i=>obtain⟨t,e⟩:=(show ∃t,u=Value.int i t from r);subst e;exact zfw P w i t
 |inr x=>obtain⟨t,e⟩:=(show ∃t,u=Value.str x t from r);subst e;exact zfx P w x t
theorem zeW {P:Program}{w:World}:∀{ks:List Key} {us:List Value},Vals (ks.map kV) us->ItemsAre (zaE P w) ks us
 |[],_,r=>by rw[List.map_nil] at r;cases r;exact .nil
 |k::ks,_,r=>by
  rw[List.map_cons] at r
  cases r with
  |cons h t=>exact .cons (zlu h) (zeW t)
noncomputable abbrev KT (H:Hp):List (List Key×V)->List (List Key×Addr×Value)->Prop:=Paired fun p q=>p.1=q.1/\H q.2.1=some (.tup (p.1.map kV))/\RelV p.2 q.2.2
theorem KT.val {H:Hp}{kvs:List (List Key×V)}{xs:List (List Key×Addr×Value)}(r:KT H kvs xs)(k:List Key):RelO (valV kvs k) ((atKey xs k).map (·.2)):=by
 induction r with
 |nil=>exact True.intro
 | @cons p q ps qs h t ih=>
  obtain⟨h1,_,h2⟩:=h
  by_cases e:p.1=k
  ·have e':q.1=k:=h1.symm.trans e
   have b:atKey (q::qs) k=some q.2:=by simp[atKey,List.find?_cons,e']
   rw[zea e,b];exact h2
  ·have e':¬q.1=k:=fun z=>e (h1.trans z)
   have b:atKey (q::qs) k=atKey qs k:=by simp[atKey,List.find?_cons,e']
   rw[zeb e,b];exact ih
theorem KT.repl {H:Hp}{kvs:List (List Key×V)}{xs:List (List Key×Addr×Value)}(r:KT H kvs xs)(k:List Key){y:V}{u:Value}(ry:RelV y u):
  KT H (kvs.map fun kv=>if kv.1=k then (kv.1,y) else kv) (xs.map (putAt k u)):=by
 induction r with
 |nil=>exact .nil
 |@cons p q ps qs h t ih=>
  rw[List.map_cons,List.map_cons]
  refine .cons ?_ ih
  obtain⟨h1,h2,h3⟩:=h
  unfold putAt
  by_cases e:p.1=k
  ·rw[if_pos e,if_pos (h1.symm.trans e)];exact⟨h1,h2,ry⟩
  ·rw[if_neg e,if_neg (fun z=>e (h1.trans z))];exact⟨h1,h2,h3⟩
theorem KT.put {H:Hp}{kvs:List (List Key×V)}{xs:List (List Key×Addr×Value)}(r:KT H kvs xs)(k:List Key){b:Addr}{y:V}{u:Value}(hb:H b=some (.tup (k.map kV)))(ry:RelV y u):
  KT H (putK kvs k y) (storedH xs k b u):=by
 have e:(kvs.any fun kv=>decide (kv.1=k))=(atKey xs k).isSome:=by
  rw[zgI,(r.val k).isSome_eq,Option.isSome_map]
 unfold putK storedH
 rw[e]
 by_cases q:(atKey xs k).isSome=true
 ·rw[if_pos q,if_pos q];exact r.repl k ry
 ·rw[if_neg q,if_neg q];exact Paired.snoc r ⟨rfl,hb,ry⟩
theorem KT.keeps {H H':Hp}{kvs:List (List Key×V)}{xs:List (List Key×Addr×Value)}(r:KT H kvs xs)(ht:∀b ys,H b=some (.tup ys)->H' b=some (.tup ys)):KT H' kvs xs:=
 Paired.mapP r fun _ _ z=>⟨z.1,ht _ _ z.2.1,z.2.2⟩
section
variable {P:Program}{w:World}{H:Hp}{h:Heap}{a:Addr}
theorem zmy {u:HO}(ok:HOk P w H h)(e:Rd H a u):ObjOk P w H h a u:=e.ok ok
theorem zlv {kvs:List (Key×V)}(ok:HOk P w H h)(e:Rd H a (.dK kvs)):kvs.length<=sizeLine/\(a==sysModules)=false/\∃vs,KV kvs vs/\h.DictOf (zaE P w) a vs:=
 show ObjOk P w H h a (.dK kvs) from zmy ok e
theorem znw {kvs:List (Key×V)}(ok:HOk P w H h)(e:H a=some (.dK kvs)):kvs.length<=sizeLine/\(a==sysModules)=false/\∃vs,KV kvs vs/\h.DictOf (zaE P w) a vs:=zlv ok (.inl e)
theorem zgJ {ks:List Key}(ok:HOk P w H h)(e:H a=some (.tup (ks.map kV))):(tupleKind (zaE P w)).is h ks a:=by
 obtain⟨_,its,r,o,h1,h2,⟨n,h3⟩,_⟩:=(show ObjOk P w H h a (.tup (ks.map kV)) from ok a _ e)
 exact⟨o,its.toArray,n,h1,h2,h3,by simpa using zeW r⟩
theorem zlw {kvs:List (List Key×V)}(ok:HOk P w H h)(e:Rd H a (.dT kvs)):kvs.length<=sizeLine/\(a==sysModules)=false/\
  ∃xs,KT H kvs xs/\h.DictOfH (tupleKind (zaE P w)) a xs:=by
 obtain⟨z,y,xs,r,o,es,ep,h1,h2,h3,h4,h5⟩:=(show ObjOk P w H h a (.dT kvs) from zmy ok e)
 refine⟨z,y,xs,r,o,es,ep,h1,h2,h3,h4,fun x hx=> ?_,h5⟩
 have all:∀{l:List (List Key×V)} {m:List (List Key×Addr×Value)},KT H l m->∀x∈m,(tupleKind (zaE P w)).is h x.1 x.2.1:=by
  intro l m q
  induction q with
  |nil=>intro x hx;exact nomatch hx
  | @cons p q ps qs hq t ih=>
   intro x hx
   rcases List.mem_cons.mp hx with e|hx
   ·subst e
    exact zgJ ok (by rw[<-hq.1];exact hq.2.1)
   ·exact ih x hx
 exact all r x hx
theorem zmz {kvs:List (List Key×V)}(ok:HOk P w H h)(e:H a=some (.dT kvs)):kvs.length<=sizeLine/\(a==sysModules)=false/\
  ∃xs,KT H kvs xs/\h.DictOfH (tupleKind (zaE P w)) a xs:=zlw ok (.inl e)
end
noncomputable def DGet (H:Hp)(a:Addr)(y:V)(r:Option V):Prop:=
 (∃kvs k,Rd H a (.dK kvs)/\y=kV k/\r=valV kvs k)∨∃kvs k b,Rd H a (.dT kvs)/\y=.ref b/\H b=some (.tup (k.map kV))/\r=valV kvs k
noncomputable def DPut (H:Hp)(a:Addr)(y v:V)(H':Hp):Prop:=
 (∃kvs k,H a=some (.dK kvs)/\y=kV k/\kvs.length<sizeLine/\H'=upd H a (.dK (putK kvs k v)))∨
 ∃kvs k b,H a=some (.dT kvs)/\y=.ref b/\H b=some (.tup (k.map kV))/\kvs.length<sizeLine/\H'=upd H a (.dT (putK kvs k v))
theorem DGet.t {H:Hp}{a b:Addr}{kvs:List (List Key×V)}{k:List Key}(e:H a=some (.dT kvs))(eb:H b=some (.tup (k.map kV))):DGet H a (.ref b) (valV kvs k):=.inr ⟨kvs,k,b,.inl e,rfl,eb,rfl⟩
theorem DPut.t {H:Hp}{a b:Addr}{kvs:List (List Key×V)}{k:List Key}{v:V}(e:H a=some (.dT kvs))(eb:H b=some (.tup (k.map kV)))(hl:kvs.length<sizeLine):
  DPut H a (.ref b) v (upd H a (.dT (putK kvs k v))):=.inr ⟨kvs,k,b,e,rfl,eb,hl,rfl⟩
section
variable {X:Cx}{pins:List (Addr×Obj)}{σ:St}{H:Hp}{s:Shared}{a:Addr}{y v:V}{u r:Value}{o:Option V}{A:Around}{E:Value->Shared->Prop}
theorem Inv.big (I:Inv X pins σ H s):sysModules<s.heap.objs.size:=by
 have h:mainGlobals<s.heap.objs.size:=(I.mod.glob.keeps I.bk).lt
 exact Nat.lt_trans (by decide) h
theorem zfN {h':Heap}{t':Nat}{ob:HO}(I:Inv X pins σ H s)(mu:Mut (H a))(hs:Heap.SameBut a s.heap h')(he:∃q,h'.get? a=some q)(new:ObjOk X.prog X.w (upd H a ob) h' a ob):
  Inv X pins σ (upd H a ob) {s with heap:=h',toks:=t'}:=
 I.write (x:=a) (e:=a) mu (.inl rfl) (fun b q hb z=>(hs.2 b hb).trans z) he new
theorem zmA {P:Program}{w:World}{H':Hp}{h':Heap}{kvs:List (Key×V)}{vs:List (Key×Value)}(z:kvs.length<=sizeLine)(hd:(a==sysModules)=false)(rel:KV kvs vs)(dd:h'.DictOf (zaE P w) a vs):
  ObjOk P w H' h' a (.dK kvs):=⟨z,hd,vs,rel,dd⟩
theorem ziE {H':Hp}{Q:Unit->Shared->Prop}(hu:A.units+1<cLine)(I:Inv X pins σ H s)(g:DPut H a y v H')(ry:RelV y u)(rv:RelV v r)(h:∀s',Inv X pins σ H' s'->Q () s'):
  wpAny (model X.prog X.w) A (setItem (.ref a) u r) Q E s:=by
 rcases g with⟨kvs,k,e,ey,l,eH⟩|⟨kvs,k,b,e,ey,eb,l,eH⟩
 ·subst ey eH
  obtain⟨z,hd,vs,rel,dd⟩:=znw I.hok e
  have hz:vs.length<=sizeLine:=by rw[<-rel.length];exact z
  have hl:(putK kvs k v).length<=sizeLine:=by have:=zds kvs k v;(first|lia|omega)
  refine wpAny_setItem_pairs (hsz:=hz) (zlu ry) dd fun h' dd' hs=>h _ ?_
  have he:∃q,h'.get? a=some q:=let ⟨q,_,_,hq,_⟩:=dd';⟨q,hq⟩
  exact zfN I (by rw[e];exact True.intro) hs he (zmA hl hd (rel.put k rv) dd')
 ·subst ey eH
  cases (show u=Value.ref b from ry)
  obtain⟨z,hd,xs,rel,dd⟩:=zmz I.hok e
  have hz:xs.length<=sizeLine:=by rw[<-Paired.length rel];exact z
  have hl:(putK kvs k v).length<=sizeLine:=by have:=zds kvs k v;(first|lia|omega)
  refine wpAny_setItem_heap (hsz:=hz) (tupleKind_room_in1 hu) (zgJ I.hok eb) dd fun h' dd' hs=>h _ ?_
  obtain⟨q,es,ep,hq,h2,h3,h4,_,h5⟩:=dd'
  refine zfN I (by rw[e];exact True.intro) hs ⟨q,hq⟩ ⟨hl,hd,_,(rel.put k eb rv).keeps fun c ys ec=> ?_,q,es,ep,hq,h2,h3,h4,h5⟩
  rw[zah (zjH ec e (fun z=>nomatch z))]
  exact ec
end
section
variable {X:Cx}{pins:List (Addr×Obj)}{σ:St}{H:Hp}{s:Shared}{a:Addr}{kvs:List (Key×V)}{k:Key}{u:Value}{A:Around}{E:Value->Shared->Prop}
end
noncomputable def znx (td ty tv:TE):TS:=fun D σ H=>tv σ H fun v H1=>td σ H1 fun x H2=>ty σ H2 fun y H3=>∃a H4,x=.ref a/\DPut H3 a y v H4/\D.nx σ H4
section
variable {X:Cx}{o i e value:Expr}{pos pos' tpos:Pos}{td ty tv:TE}
theorem zlx (hu:X.A.units+1<cLine)(ho:PE X o td)(hi:PE X i ty)(hv:PE X value tv)(hs:swapsWith value (some (.Subscript o i pos')) pos.line X.env=pure false):
  PS X (.Assign [.Subscript o i pos'] value pos) (znx td ty tv):=by
 intro pins s σ H D I h
 refine wpAny_Assign_Subscript (thn (hv pins s σ H _ I h) fun r s1 ⟨v,H1,I1,rv,q1⟩=>thn (ho pins s1 σ H1 _ I1 q1) fun u s2 ⟨x,H2,I2,rx,q2⟩=>thn (hi pins s2 σ H2 _ I2 q2) fun iv s3 ⟨y,H3,I3,ry,a,H4,ex,g,q3⟩=> ?_) hs
 subst ex
 obtain rfl:u=Value.ref a:=rx
 exact ziE hu I3 g ry rv fun s4 I4=>⟨σ,H4,I4,q3⟩
end
theorem zgK {P:Program}{w:World}{H:Hp}(h:Heap)(hb:sysModules<h.objs.size):ObjOk P w H (h.push {cls:=.type "dict",data:=.dict #[]}) h.objs.size (.dT []):=
 ⟨Nat.zero_le _,beq_eq_false_iff_ne.mpr (Ne.symm (Nat.ne_of_lt hb)),[],.nil,_,#[],0,Heap.get?_push_size _ rfl,⟨rfl,rfl,rfl⟩,rfl,rfl,List.nodup_nil⟩
noncomputable def zmB:TE:=fun _ H Q=>∀p,H p=none->Q (.ref p) (upd H p (.dT []))
section
variable {X:Cx}{pos:Pos}
theorem zjY:PE X (.Dict [] [] pos) zmB:=fun pins s σ H Q I h=>
 wpAny_Dict_empty ⟨.ref s.heap.objs.size,_,I.laid (a:=s.heap.objs.size) (o:=.dT []) (t':=s.toks) (fun _ _ q=>Heap.get?_push_of_some _ q) (Nat.le_refl _) (zgK s.heap I.big),rfl,h _ (I.hok.fresh (Nat.le_refl _))⟩
end
structure M1 (X:Cx) (o:Expr) (m:Str) (apos:Pos) (e:Expr) (cpos:Pos):Prop where
 base:attributeBase o m X.env (eval o X.env)=eval o X.env
 few:((backTo cpos (starEach [e] X.env)).all (fun x=> !x.1)&&(backToKw cpos (keywordEach [] X.env)).all (fun x=>x.1.isSome)
  &&decide (([e]:List Expr).length+([]:List Keyword).length+(if ([]:List Keyword).isEmpty then 0 else 1)<30))=true
 line:(apos.endLine==cpos.line)=true
 trees:backTo cpos (starEach [e] X.env)=[(false,eval e X.env)]
structure M2 (X:Cx) (o:Expr) (m:Str) (apos:Pos) (e f:Expr) (cpos:Pos):Prop where
 base:attributeBase o m X.env (eval o X.env)=eval o X.env
 few:((backTo cpos (starEach [e,f] X.env)).all (fun x=> !x.1)&&(backToKw cpos (keywordEach [] X.env)).all (fun x=>x.1.isSome)
  &&decide (([e,f]:List Expr).length+([]:List Keyword).length+(if ([]:List Keyword).isEmpty then 0 else 1)<30))=true
 line:(apos.endLine==cpos.line)=true
 trees:backTo cpos (starEach [e,f] X.env)=[(false,eval e X.env),(false,eval f X.env)]
noncomputable def IsD (H:Hp)(a:Addr):Prop:=(∃kvs,Rd H a (.dK kvs))∨∃kvs,Rd H a (.dT kvs)
theorem zkJ {X:Cx}{pins:List (Addr×Obj)}{σ:St}{H:Hp}{s:Shared}{a:Addr}(I:Inv X pins σ H s)(d:IsD H a):
  s.TypeIs (.ref a) "dict" /\(∀b,Value.ref a=.ref b->∃ob,s.heap.get? b=some ob/\ob.dict=none)/\(a==sysModules)=false:=by
 rcases d with⟨kvs,e⟩|⟨kvs,e⟩
 ·obtain ⟨_,hd,vs,_,dd⟩:=zlv I.hok e
  refine⟨dd.typeIs,fun b q=> ?_,hd⟩
  cases q
  obtain⟨ob,_,_,h1,h2,_⟩:=dd
  exact⟨ob,h1,h2.2.1⟩
 ·obtain ⟨_,hd,xs,_,dd⟩:=zlw I.hok e
  refine⟨dd.typeIs,fun b q=> ?_,hd⟩
  cases q
  obtain⟨ob,_,_,h1,h2,_⟩:=dd
  exact⟨ob,h1,h2.2.1⟩
section
variable {X:Cx}{pins:List (Addr×Obj)}{σ:St}{H:Hp}{s:Shared}{a:Addr}{y d:V}{u r:Value}{o:Option V}{A:Around}{E:Value->Shared->Prop}
theorem zmC {Q:Value->Shared->Prop}(hu:A.units+1<cLine)(I:Inv X pins σ H s)(g:DGet H a y o)(ry:RelV y u)(rd:RelV d r)(h:∀w' s',Inv X pins σ H s'->RelV (o.getD d) w'->Q w' s'):
  wpAny (model X.prog X.w) A (call (.builtin "dict.get") [.ref a,u,r]) Q E s:=by
 rcases g with⟨kvs,k,e,ey,l⟩|⟨kvs,k,b,e,ey,eb,l⟩
 ·subst ey
  obtain⟨z,hd,vs,rel,dd⟩:=zlv I.hok e
  refine call_meetsIn PySem.F.slot_dict_get dd.typeIs PySem.F.entry_dict_get (PySem.F.args_dict_get_3 _ _ _) (meets_dict_get_default (zaE X.prog X.w) a (zlu ry) hd r) ⟨_,dd.mapOf,h _ _ (I.tok _) ?_⟩
  rw[l]
  exact (rel.val k).getD rd
 ·subst ey
  cases (show u=Value.ref b from ry)
  obtain⟨z,hd,xs,rel,dd⟩:=zlw I.hok e
  refine call_meetsIn PySem.F.slot_dict_get dd.typeIs PySem.F.entry_dict_get (PySem.F.args_dict_get_3 _ _ _) (meetsH_dict_get_default (tupleKind (zaE X.prog X.w)) a b hd r) ⟨tupleKind_room_in1 hu,k,xs,zgJ I.hok eb,dd,h _ _ (I.tok _) ?_⟩
  rw[l]
  exact (rel.val k).getD rd
end
noncomputable def zmD (td ty tx:TE):TE:=fun σ H Q=>td σ H fun x H1=>∃a,x=.ref a/\IsD H1 a/\ty σ H1 fun y H2=>tx σ H2 fun z H3=>∃o,DGet H3 a y o/\Q (o.getD z) H3
section
variable {X:Cx}{o e f:Expr}{apos cpos:Pos}{td ty tx:TE}
theorem zjZ (hu:X.A.units+1<cLine)(ho:PE X o td)(he:PE X e ty)(hf:PE X f tx)(m:M2 X o "get" apos e f cpos):PE X (.Call (.Attribute o "get" apos) [e,f] [] cpos) (zmD td ty tx):=by
 intro pins s σ H Q I h
 refine wpAny_Call_method m.base m.few m.line PySem.F.plainAttrs_dict PySem.F.slot_dict_get PySem.F.type_dict_get (thn (ho pins s σ H _ I h) fun u s1 zq=> ?_)
 obtain⟨x,H1,I1,rx,a,ex,d,q1⟩:=zq
 subst ex
 obtain rfl:u=Value.ref a:=rx
 obtain⟨t1,t2,_⟩:=zkJ I1 d
 refine⟨t1,t2, ?_⟩
 rw[m.trees]
 refine Calls.callWith_builtin rfl (Calls.evalArgs_plain (Calls.spliced_cons (thn (he pins s1 σ H1 _ I1 q1) fun iv s2 ⟨y,H2,I2,ry,q2⟩=>
  Calls.spliced_cons (thn (hf pins s2 σ H2 _ I2 q2) fun fv s3 ⟨z,H3,I3,rz,ov,g,q3⟩=>Calls.spliced_nil ?_))))
 exact zmC hu I3 g ry rz fun w' s4 I4 rw'=>⟨_,H3,I4,rw',q3⟩
end
section
variable {X:Cx}{pins:List (Addr×Obj)}{σ:St}{H:Hp}{s:Shared}{a:Addr}{kvs:List (Key×V)}{A:Around}{E:Value->Shared->Prop}
end
section
variable {X:Cx}{pins:List (Addr×Obj)}{σ:St}{H:Hp}{s:Shared}{a:Addr}{y:V}{u:Value}{A:Around}{E:Value->Shared->Prop}
end
noncomputable def kD:Key->PyData
 | .inl i=>.int i
 | .inr x=>.str x
mutual
inductive IsY (S:Addr->Prop) (H:Hp):V->PyData->Prop
 |non:IsY S H .non .none
 |bl (b:Bool):IsY S H (.bl b) (.bool b)
 |int (i:Int):IsY S H (.int i) (.int i)
 |str (x:Str):IsY S H (.str x) (.str x)
 |tup {a:Addr} {vs:List V} {ds:List PyData}:H a=some (.tup vs)->IsAllY S H vs ds->IsY S H (.ref a) (.tuple ds)
 |lst {a:Addr} {vs:List V} {ds:List PyData}:H a=some (.lst vs)->S a->IsAllY S H vs ds->IsY S H (.ref a) (.list ds)
 |d0 {a:Addr}:H a=some (.dK [])->IsY S H (.ref a) (.dict [])
 |d1 {a:Addr} {k:Key} {v:V} {d:PyData}:H a=some (.dK [(k,v)])->IsY S H v d->IsY S H (.ref a) (.dict [(kD k,d)])
inductive IsAllY (S:Addr->Prop) (H:Hp):List V->List PyData->Prop
 |nil:IsAllY S H [] []
 |cons {v:V} {vs:List V} {d:PyData} {ds:List PyData}:IsY S H v d->IsAllY S H vs ds->IsAllY S H (v::vs) (d::ds)
end
section
variable {X:Cx}{pins:List (Addr×Obj)}{σ:St}{H:Hp}{s:Shared}
end
open Classical in
theorem zbA {X:Cx}(K:PySem.W.Frag)(hK:X.K=K):zbu X (.type "list") (fun xs H Q=>∃p ys,xs=[.ref p]/\(SqL K H p ys∨SqT K H p ys)/\∀l,H l=none->Q (.ref l) (upd H l (.lst ys))):=hK▸zeI
noncomputable def lit:Nat->Expr->Option PyData
 |0,_=>none
 |_+1,.Constant .none _ _=>some .none
 |_+1,.Constant (.bool b) _ _=>some (.bool b)
 |_+1,.Constant (.int i) _ _=>some (.int i)
 |_+1,.Constant (.str x) _ _=>some (.str x)
 |_+1,.UnaryOp .USub (.Constant (.int i) _ _) _=>some (.int (-i))
 |n+1,.Tuple es _ _=>if es.length<=100 then (es.mapM (lit n)).map PyData.tuple else none
 |n+1,.List es _=>if es.length<=100 then (es.mapM (lit n)).map PyData.list else none
 |_+1,.Dict [] [] _=>some (.dict [])
 |_+1,_=>none
noncomputable def risL:List Int->Bool
 |a::b::r=>decide (a<b)&&risL (b::r)
 |_=>true
end L2
namespace Srt
open PySem PyProof.Rows
noncomputable def zcK:Bool->Keyed->Array Keyed->Nat->Nat->Nat->StateT SortSt Sem (Option Nat):=sortPriv%PySem.Builtin.gallop
section
variable {M:Model}{A:Around}{E:Value->Shared->Prop}{s:Shared}
noncomputable def Looks (M:Model)(A:Around)(E:Value->Shared->Prop)(s:Shared)(st:SortSt)(left:Bool)(key:Keyed)(arr:Array Keyed)(base n:Nat)(B:Nat->Bool):Prop:=
 ∀(i:Nat) (Q:Option Bool->SortSt->Prop),i<n->Q (some (B i)) st->wpS M A E s (elem' arr (base+i) >>= fun x=>if left=true then lt' x key else lt' key x >>= fun o=>pure (Option.map not o)) Q st
theorem zdM {st:SortSt}{left:Bool}{key:Keyed}{arr:Array Keyed}{base n hint:Nat}{B:Nat->Bool}{Q:Option Nat->SortSt->Prop}(hB:Looks M A E s st left key arr base n B)(hm:∀i j,i<=j->j<n->B j=true->B i=true)(hh:hint<n)
  (h:∀k,k<=n->(∀i,i<k->B i=true)->(∀i,k<=i->i<n->B i=false)->Q (some k) st):wpS M A E s (zcK left key arr base n hint) Q st:=by
 unfold zcK
 refine wpS_bind (hB hint _ hh ?_)
 dsimp only
 cases hb0:B hint with
 | true=>
  rw[if_pos rfl]
  refine wpS_bind (wpS_mono (wpS_forRange (I:=fun x c st'=>st'=st/\∃la ofs,c=(none,la,ofs)/\la<ofs/\la<n-hint/\x+1<=ofs/\B (hint+la)=true)
   (Q:=fun c st'=>st'=st/\∃la ofs,c=(none,la,ofs)/\la<ofs/\la<n-hint/\B (hint+la)=true/\(n-hint<=ofs∨B (hint+ofs)=false)) ?step ?fin ⟨rfl,0,1,rfl,by (first|lia|omega),by (first|lia|omega),by (first|lia|omega),hb0⟩) ?post)
  case fin=>
   rintro c st' ⟨rfl,la,ofs,rfl,a,b,d,e⟩
   rw[Nat.max_eq_right (Nat.zero_le _)] at d
   exact⟨rfl,la,ofs,rfl,a,b,e,.inl (by (first|lia|omega))⟩
  case step=>
   rintro x c st' _ hx ⟨rfl,la,ofs,rfl,a,b,d,e⟩
   dsimp only
   by_cases hge:ofs≥n-hint
   ·rw [if_pos hge]
    exact wpS_pure ⟨rfl,la,ofs,rfl,a,b,e,.inl hge⟩
   ·rw [if_neg hge]
    refine wpS_bind (hB (hint+ofs) _ (by (first|lia|omega)) ?_)
    dsimp only
    cases hb:B (hint+ofs) with
    |true=>
     rw[if_neg (by decide)]
     exact wpS_pure ⟨rfl,_,_,rfl,by (first|lia|omega),by (first|lia|omega),by (first|lia|omega),hb⟩
    |false=>
     rw[if_pos (show (!false)=true from rfl)]
     exact wpS_pure ⟨rfl,la,ofs,rfl,a,b,e,.inr hb⟩
  case post=>
   rintro c st' ⟨rfl,la,ofs,rfl,a,b,e,hor⟩
   dsimp only
   have h1:hint+la+1<=hint+min ofs (n-hint):=by (first|lia|omega)
   have h2:hint+min ofs (n-hint)<=n:=by (first|lia|omega)
   have hl:∀i,i<hint+la+1->B i=true:=fun i hi=>hm i (hint+la) (by (first|lia|omega)) (by (first|lia|omega)) e
   have hr:∀i,hint+min ofs (n-hint)<=i->i<n->B i=false:=fun i h1 h2=>by
    rcases hor with ho|ho
    ·(first|lia|omega)
    ·cases hi2:B i with
     |false=>rfl
     |true=>
      by_cases hlt:ofs<n-hint
      ·rw[hm (hint+ofs) i (by (first|lia|omega)) h2 hi2] at ho;cases ho
      ·(first|lia|omega)
   generalize hint+la+1=lo0 at h1 hl ⊢
   generalize hint+min ofs (n-hint)=hi0 at h1 h2 hr ⊢
   refine wpS_bind (wpS_mono (wpS_forRange (I:=fun x c st''=>st''=st'/\∃lo hi,c=(none,lo,hi)/\lo<=hi/\hi<=n/\hi-lo<=n-x/\(∀i,i<lo->B i=true)/\∀i,hi<=i->i<n->B i=false)
    (Q:=fun c st''=>st''=st'/\∃lo hi,c=(none,lo,hi)/\lo=hi/\hi<=n/\(∀i,i<lo->B i=true)/\∀i,hi<=i->i<n->B i=false) ?step ?fin ⟨rfl,lo0,hi0,rfl,h1,h2,by (first|lia|omega),hl,hr⟩) ?post)
   case fin=>
    rintro c st'' ⟨rfl,lo,hi,rfl,a,b,d,e,f⟩
    rw[Nat.max_eq_right (Nat.zero_le _)] at d
    exact⟨rfl,lo,hi,rfl,by (first|lia|omega),b,e,f⟩
   case step=>
    rintro x c st'' _ hx ⟨rfl,lo,hi,rfl,a,b,d,e,f⟩
    dsimp only
    by_cases hge:lo≥hi
    ·rw [if_pos hge]
     exact wpS_pure ⟨rfl,lo,hi,rfl,by (first|lia|omega),b,e,f⟩
    ·rw [if_neg hge]
     refine wpS_bind (hB (lo+(hi-lo)/2) _ (by (first|lia|omega)) ?_)
     dsimp only
     cases hb:B (lo+(hi-lo)/2) with
     |true=>
      rw[if_pos rfl]
      exact wpS_pure ⟨rfl,_,_,rfl,by (first|lia|omega),b,by (first|lia|omega),fun i hi'=>hm i _ (by (first|lia|omega)) (by (first|lia|omega)) hb,f⟩
     |false=>
      rw[if_neg (by decide)]
      refine wpS_pure ⟨rfl,_,_,rfl,by (first|lia|omega),by (first|lia|omega),by (first|lia|omega),e,fun i h1 h2=> ?_⟩
      cases hi2:B i with
      |false=>rfl
      |true=>rw[hm _ i h1 h2 hi2] at hb;cases hb
   case post=>
    rintro c st'' ⟨rfl,lo,hi,rfl,rfl,b,e,f⟩
    dsimp only
    exact wpS_pure (h lo b e f)
 | false=>
  rw[if_neg (by decide)]
  refine wpS_bind (wpS_mono (wpS_forRange (I:=fun x c st'=>st'=st/\∃la ofs,c=(none,la,ofs)/\la<ofs/\la<=hint/\x+1<=ofs/\B (hint-la)=false)
   (Q:=fun c st'=>st'=st/\∃la ofs,c=(none,la,ofs)/\la<ofs/\la<=hint/\B (hint-la)=false/\(hint+1<=ofs∨B (hint-ofs)=true)) ?step ?fin ⟨rfl,0,1,rfl,by (first|lia|omega),by (first|lia|omega),by (first|lia|omega),hb0⟩) ?post)
  case fin=>
   rintro c st' ⟨rfl,la,ofs,rfl,a,b,d,e⟩
   rw[Nat.max_eq_right (Nat.zero_le _)] at d
   exact⟨rfl,la,ofs,rfl,a,b,e,.inl (by (first|lia|omega))⟩
  case step=>
   rintro x c st' _ hx ⟨rfl,la,ofs,rfl,a,b,d,e⟩
   dsimp only
   by_cases hge:ofs≥hint+1
   ·rw [if_pos hge]
    exact wpS_pure ⟨rfl,la,ofs,rfl,a,b,e,.inl hge⟩
   ·rw [if_neg hge]
    refine wpS_bind (hB (hint-ofs) _ (by (first|lia|omega)) ?_)
    dsimp only
    cases hb:B (hint-ofs) with
    |true=>
     rw[if_pos rfl]
     exact wpS_pure ⟨rfl,la,ofs,rfl,a,b,e,.inr hb⟩
    |false=>
     rw[if_neg (by decide)]
     exact wpS_pure ⟨rfl,_,_,rfl,by (first|lia|omega),by (first|lia|omega),by (first|lia|omega),hb⟩
  case post=>
   rintro c st' ⟨rfl,la,ofs,rfl,a,b,e,hor⟩
   dsimp only
   have h1:hint+1-min ofs (hint+1)<=hint-la:=by (first|lia|omega)
   have h2:hint-la<=n:=by (first|lia|omega)
   have hl:∀i,i<hint+1-min ofs (hint+1)->B i=true:=fun i hi=>by
    rcases hor with ho|ho
    ·(first|lia|omega)
    ·by_cases hlt:ofs<hint+1
     ·exact hm i (hint-ofs) (by (first|lia|omega)) (by (first|lia|omega)) ho
     ·(first|lia|omega)
   have hr:∀i,hint-la<=i->i<n->B i=false:=fun i h1 h2=>by
    cases hi2:B i with
    |false=>rfl
    |true=>rw[hm (hint-la) i (by (first|lia|omega)) h2 hi2] at e;cases e
   generalize hint+1-min ofs (hint+1)=lo0 at h1 hl ⊢
   generalize hint-la=hi0 at h1 h2 hr ⊢
   refine wpS_bind (wpS_mono (wpS_forRange (I:=fun x c st''=>st''=st'/\∃lo hi,c=(none,lo,hi)/\lo<=hi/\hi<=n/\hi-lo<=n-x/\(∀i,i<lo->B i=true)/\∀i,hi<=i->i<n->B i=false)
    (Q:=fun c st''=>st''=st'/\∃lo hi,c=(none,lo,hi)/\lo=hi/\hi<=n/\(∀i,i<lo->B i=true)/\∀i,hi<=i->i<n->B i=false) ?step ?fin ⟨rfl,lo0,hi0,rfl,h1,h2,by (first|lia|omega),hl,hr⟩) ?post)
   case fin=>
    rintro c st'' ⟨rfl,lo,hi,rfl,a,b,d,e,f⟩
    rw[Nat.max_eq_right (Nat.zero_le _)] at d
    exact⟨rfl,lo,hi,rfl,by (first|lia|omega),b,e,f⟩
   case step=>
    rintro x c st'' _ hx ⟨rfl,lo,hi,rfl,a,b,d,e,f⟩
    dsimp only
    by_cases hge:lo≥hi
    ·rw [if_pos hge]
     exact wpS_pure ⟨rfl,lo,hi,rfl,by (first|lia|omega),b,e,f⟩
    ·rw [if_neg hge]
     refine wpS_bind (hB (lo+(hi-lo)/2) _ (by (first|lia|omega)) ?_)
     dsimp only
     cases hb:B (lo+(hi-lo)/2) with
     |true=>
      rw[if_pos rfl]
      exact wpS_pure ⟨rfl,_,_,rfl,by (first|lia|omega),b,by (first|lia|omega),fun i hi'=>hm i _ (by (first|lia|omega)) (by (first|lia|omega)) hb,f⟩
     |false=>
      rw[if_neg (by decide)]
      refine wpS_pure ⟨rfl,_,_,rfl,by (first|lia|omega),by (first|lia|omega),by (first|lia|omega),e,fun i h1 h2=> ?_⟩
      cases hi2:B i with
      |false=>rfl
      |true=>rw[hm _ i h1 h2 hi2] at hb;cases hb
   case post=>
    rintro c st'' ⟨rfl,lo,hi,rfl,rfl,b,e,f⟩
    dsimp only
    exact wpS_pure (h lo b e f)
end
noncomputable def zgL:Array Keyed->Array Keyed->StateT SortSt Sem (Array Keyed):=sortPriv%PySem.Builtin.mergeLo
noncomputable def zgM:Array Keyed->Array Keyed->StateT SortSt Sem (Array Keyed):=sortPriv%PySem.Builtin.mergeHi
noncomputable abbrev zbr (st:SortSt)(g:Nat):SortSt:=SortSt.mk' (kindOf st) (arrOf st) (pendingOf st) g (failedOf st)
section
variable {O:KeyOrd}(kf:Keyed->O.α)
noncomputable def Up (l:List Keyed):Prop:=l.Pairwise fun p q=>O.kle (kf p) (kf q)
noncomputable def KeysUp (a:Array Keyed):Prop:=∀(i j:Nat) (p q:Keyed),i<=j->a[i]? =some p->a[j]? =some q->O.kle (kf p) (kf q)
theorem KeysUp.up {a:Array Keyed}(h:KeysUp kf a):Up kf a.toList:=by
 refine List.pairwise_iff_getElem.mpr fun i j hi hj hij=> ?_
 exact h i j _ _ (Nat.le_of_lt hij) (by rw[Array.getElem?_eq_getElem (by simpa using hi)];simp) (by rw[Array.getElem?_eq_getElem (by simpa using hj)];simp)
noncomputable def Res (a b r:Array Keyed):Prop:=r.toList.Perm (a.toList++b.toList)/\Up kf r.toList
structure Way (a b out:Array Keyed) (ia ib:Nat):Prop where
 perm:out.toList.Perm (a.toList.take ia++b.toList.take ib)
 up:Up kf out.toList
 la:∀p∈out.toList,∀q,a[ia]? =some q->O.kle (kf p) (kf q)
 lb:∀p∈out.toList,∀q,b[ib]? =some q->O.kle (kf p) (kf q)
theorem zc4 (a:Array Keyed)(i:Nat):(a.extract i a.size).toList=a.toList.drop i:=by
 rw[Array.toList_extract]
 simp only[List.extract]
 exact List.take_of_length_le (by simp)
theorem zcf (a:Array Keyed)(i k:Nat):(a.extract i (i+k)).toList=(a.toList.drop i).take k:=by
 rw[Array.toList_extract]
 simp[List.extract]
variable {kf}
theorem zbf {a:Array Keyed}(ha:KeysUp kf a){i:Nat}{q:Keyed}(hq:q∈a.toList.drop i){p:Keyed}(hp:a[i]? =some p):O.kle (kf p) (kf q):=by
 obtain⟨j,hj⟩:=List.getElem?_of_mem hq
 rw[List.getElem?_drop] at hj
 exact ha i (i+j) p q (by (first|lia|omega)) hp (by rw[<-hj];simp)
theorem zaW {l m:List Keyed}(hl:Up kf l)(hm:Up kf m)(h:∀p∈l,∀q∈m,O.kle (kf p) (kf q)):Up kf (l++m):=List.pairwise_append.mpr ⟨hl,hm,h⟩
theorem zfO {a:Array Keyed}(ha:KeysUp kf a)(i:Nat):Up kf (a.toList.drop i):=(ha.up).sublist (List.drop_sublist _ _)
theorem Way.done {a b out:Array Keyed}{ia:Nat}(ha:KeysUp kf a)(w:Way kf a b out ia b.size):Res kf a b (out++a.extract ia a.size++b.extract b.size b.size):=by
 have e:(out++a.extract ia a.size++b.extract b.size b.size).toList=out.toList++a.toList.drop ia:=by
  rw[Array.toList_append,Array.toList_append,zc4,zc4]
  simp
 refine⟨?_, ?_⟩
 ·rw [e]
  have hp:=w.perm
  rw[List.take_of_length_le (by simp:b.toList.length<=b.size)] at hp
  refine (hp.append_right _).trans ?_
  rw[List.append_assoc]
  refine (List.Perm.append_left _ List.perm_append_comm).trans ?_
  rw[<-List.append_assoc,List.take_append_drop]
 ·rw [e]
  refine zaW w.up (zfO ha ia) fun p hp q hq=> ?_
  obtain⟨j,hj⟩:=List.getElem?_of_mem hq
  rw[List.getElem?_drop] at hj
  have hlt:ia<a.size:=by
   have:=(List.getElem?_eq_some_iff.mp hj).1
   simp at this
   (first|lia|omega)
  have h0:a[ia]? =some a[ia]:=Array.getElem?_eq_getElem hlt
  exact KeyOrd.kle_trans (w.la p hp _ h0) (zbf ha hq h0)
theorem Way.last {a b out:Array Keyed}{ia ib:Nat}(ha:KeysUp kf a)(hb:KeysUp kf b)(w:Way kf a b out ia ib)(h1:ia+1=a.size)(hib:ib<b.size)(hl:∀p q,a[ia]? =some p->q∈b.toList->O.kle (kf q) (kf p)):
  Res kf a b (out++b.extract ib b.size++a.extract ia a.size):=by
 have e:(out++b.extract ib b.size++a.extract ia a.size).toList=out.toList++(b.toList.drop ib++a.toList.drop ia):=by
  rw[Array.toList_append,Array.toList_append,zc4,zc4,List.append_assoc]
 have h0:a[ia]? =some a[ia]:=Array.getElem?_eq_getElem (by (first|lia|omega))
 have hb0:b[ib]? =some b[ib]:=Array.getElem?_eq_getElem hib
 refine⟨?_, ?_⟩
 ·rw [e]
  refine (w.perm.append_right _).trans ?_
  rw[List.append_assoc]
  have p1:(b.toList.take ib++(b.toList.drop ib++a.toList.drop ia)).Perm (a.toList.drop ia++b.toList):=by
   rw[<-List.append_assoc,List.take_append_drop]
   exact List.perm_append_comm
  refine (List.Perm.append_left _ p1).trans ?_
  rw[<-List.append_assoc,List.take_append_drop]
 ·rw [e]
  refine zaW w.up (zaW (zfO hb ib) (zfO ha ia) fun p hp q hq=> ?_) fun p hp q hq=> ?_
  ·have:=zbf ha hq h0
   exact KeyOrd.kle_trans (hl _ p h0 (List.mem_of_mem_drop hp)) this
  ·rcases List.mem_append.mp hq with h|h
   ·exact KeyOrd.kle_trans (w.lb p hp _ hb0) (zbf hb h hb0)
   ·exact KeyOrd.kle_trans (w.la p hp _ h0) (zbf ha h h0)
theorem zcT {a:Array Keyed}{i:Nat}{p:Keyed}(h:a[i]? =some p):a.toList.take (i+1)=a.toList.take i++[p]:=by
 rw[List.take_succ]
 have:a.toList[i]? =some p:=by rw[<-h];simp
 rw[this]
 rfl
theorem Way.pushB {a b out:Array Keyed}{ia ib:Nat}{p:Keyed}(hb:KeysUp kf b)(w:Way kf a b out ia ib)(hp:b[ib]? =some p)(h:∀q,a[ia]? =some q->O.kle (kf p) (kf q)):Way kf a b (out.push p) ia (ib+1):=by
 refine⟨?_, ?_,fun x hx q hq=> ?_,fun x hx q hq=> ?_⟩
 ·rw [Array.toList_push,zcT hp,<-List.append_assoc]
  exact w.perm.append_right _
 ·rw [Array.toList_push]
  refine zaW w.up (List.pairwise_singleton _ _) fun x hx y hy=> ?_
  rw[List.mem_singleton.mp hy]
  exact w.lb x hx p hp
 ·rw [Array.toList_push] at hx
  rcases List.mem_append.mp hx with h'|h'
  ·exact w.la x h' q hq
  ·rw [List.mem_singleton.mp h']
   exact h q hq
 ·rw [Array.toList_push] at hx
  rcases List.mem_append.mp hx with h'|h'
  ·exact KeyOrd.kle_trans (w.lb x h' p hp) (hb ib (ib+1) p q (by (first|lia|omega)) hp hq)
  ·rw [List.mem_singleton.mp h']
   exact hb ib (ib+1) p q (by (first|lia|omega)) hp hq
theorem Way.pushA {a b out:Array Keyed}{ia ib:Nat}{p:Keyed}(ha:KeysUp kf a)(w:Way kf a b out ia ib)(hp:a[ia]? =some p)(h:∀q,b[ib]? =some q->O.kle (kf p) (kf q)):Way kf a b (out.push p) (ia+1) ib:=by
 refine⟨?_, ?_,fun x hx q hq=> ?_,fun x hx q hq=> ?_⟩
 ·rw [Array.toList_push,zcT hp,List.append_assoc]
  refine (w.perm.append_right _).trans ?_
  rw[List.append_assoc]
  exact List.Perm.append_left _ List.perm_append_comm
 ·rw [Array.toList_push]
  refine zaW w.up (List.pairwise_singleton _ _) fun x hx y hy=> ?_
  rw[List.mem_singleton.mp hy]
  exact w.la x hx p hp
 ·rw [Array.toList_push] at hx
  rcases List.mem_append.mp hx with h'|h'
  ·exact KeyOrd.kle_trans (w.la x h' p hp) (ha ia (ia+1) p q (by (first|lia|omega)) hp hq)
  ·rw [List.mem_singleton.mp h']
   exact ha ia (ia+1) p q (by (first|lia|omega)) hp hq
 ·rw [Array.toList_push] at hx
  rcases List.mem_append.mp hx with h'|h'
  ·exact w.lb x h' q hq
  ·rw [List.mem_singleton.mp h']
   exact h q hq
theorem Way.manyA {a b:Array Keyed}{ia ib:Nat}(ha:KeysUp kf a):∀{k:Nat} {out:Array Keyed},Way kf a b out ia ib->ia+k<=a.size->(∀i p q,i<k->a[ia+i]? =some p->b[ib]? =some q->O.kle (kf p) (kf q))->Way kf a b (out++a.extract ia (ia+k)) (ia+k) ib
 |0,out,w,_,_=>by
  have e:out++a.extract ia (ia+0)=out:=by simp;(first|lia|omega)
  rw[e]
  exact w
 | k+1,out,w,hk,h=>by
  have ih:=Way.manyA ha (k:=k) w (by (first|lia|omega)) fun i p q hi=>h i p q (by (first|lia|omega))
  have h0:a[ia+k]? =some a[ia+k]:=Array.getElem?_eq_getElem (by (first|lia|omega))
  have:=ih.pushA ha h0 fun q hq=>h k _ q (by (first|lia|omega)) h0 hq
  have e:(out++a.extract ia (ia+k)).push a[ia+k]=out++a.extract ia (ia+(k+1)):=by
   apply Array.ext'
   rw[Array.toList_push,Array.toList_append,Array.toList_append,zcf,zcf,List.take_succ,List.append_assoc]
   congr 1
   rw[List.getElem?_drop]
   have:a.toList[ia+k]? =some a[ia+k]:=by rw[<-h0];simp
   rw[this]
   rfl
  rw[e] at this
  exact this
theorem Way.manyB {a b:Array Keyed}{ia ib:Nat}(hb:KeysUp kf b):∀{k:Nat} {out:Array Keyed},Way kf a b out ia ib->ib+k<=b.size->(∀i p q,i<k->b[ib+i]? =some p->a[ia]? =some q->O.kle (kf p) (kf q))->Way kf a b (out++b.extract ib (ib+k)) ia (ib+k)
 |0,out,w,_,_=>by
  have e:out++b.extract ib (ib+0)=out:=by simp;(first|lia|omega)
  rw[e]
  exact w
 | k+1,out,w,hk,h=>by
  have ih:=Way.manyB hb (k:=k) w (by (first|lia|omega)) fun i p q hi=>h i p q (by (first|lia|omega))
  have h0:b[ib+k]? =some b[ib+k]:=Array.getElem?_eq_getElem (by (first|lia|omega))
  have:=ih.pushB hb h0 fun q hq=>h k _ q (by (first|lia|omega)) h0 hq
  have e:(out++b.extract ib (ib+k)).push b[ib+k]=out++b.extract ib (ib+(k+1)):=by
   apply Array.ext'
   rw[Array.toList_push,Array.toList_append,Array.toList_append,zcf,zcf,List.take_succ,List.append_assoc]
   congr 1
   rw[List.getElem?_drop]
   have:b.toList[ib+k]? =some b[ib+k]:=by rw[<-h0];simp
   rw[this]
   rfl
  rw[e] at this
  exact this
end
section
variable {M:Model}{A:Around}{E:Value->Shared->Prop}{s:Shared}
structure Cmp (M:Model) (A:Around) (E:Value->Shared->Prop) (s:Shared) (kd:SortKind) (O:KeyOrd) (kf:Keyed->O.α) (okk:Keyed->Prop):Prop where
 lt:∀(x y:Keyed) (st:SortSt) (Q:Option Bool->SortSt->Prop),okk x->okk y->kindOf st=kd->Q (some (O.blt (kf x) (kf y))) st->wpS M A E s (lt' x y) Q st
theorem zap {arr:Array Keyed}{i:Nat}{p:Keyed}{st:SortSt}{Q:Keyed->SortSt->Prop}(h:arr[i]? =some p)(q:Q p st):wpS M A E s (elem' arr i) Q st:=by
 rw[elem'_eq,h]
 exact wpS_pure q
variable {O:KeyOrd}{kf:Keyed->O.α}{okk:Keyed->Prop}{kd:SortKind}
noncomputable def RunUp (kf:Keyed->O.α)(a:Array Keyed)(lo hi:Nat):Prop:=∀(i j:Nat) (p q:Keyed),lo<=i->i<=j->j<hi->a[i]? =some p->a[j]? =some q->O.kle (kf p) (kf q)
theorem KeysUp.run {a:Array Keyed}(h:KeysUp kf a)(lo hi:Nat):RunUp kf a lo hi:=fun i j p q _ h2 _=>h i j p q h2
theorem zgN (C:Cmp M A E s kd O kf okk){st:SortSt}(hk:kindOf st=kd){key:Keyed}{arr:Array Keyed}{base n hint:Nat}{Q:Option Nat->SortSt->Prop}(ok:∀p∈arr.toList,okk p)(okq:okk key)(ha:RunUp kf arr base (base+n))(hn:base+n<=arr.size)(hh:hint<n)
  (h:∀k,k<=n->(∀i p,i<k->arr[base+i]? =some p->O.kle (kf p) (kf key))->(∀i p,k<=i->i<n->arr[base+i]? =some p->O.klt (kf key) (kf p))->Q (some k) st):wpS M A E s (zcK false key arr base n hint) Q st:=by
 have at_:∀i,i<n->∃p,arr[base+i]? =some p:=fun i hi=>⟨arr[base+i],Array.getElem?_eq_getElem (by (first|lia|omega))⟩
 have mem:∀{i:Nat} {p:Keyed},arr[i]? =some p->p∈arr.toList:=fun {i p} h=>List.mem_of_getElem? (i:=i) (by rw[<-h];simp)
 refine zdM (B:=fun i=>match arr[base+i]? with|some p=> !O.blt (kf key) (kf p)|none=>false) (fun i Q' hi q=> ?_) (fun i j hij hj hB=> ?_) hh fun k hk1 h1 h2=> ?_
 ·obtain ⟨p,hp⟩:=at_ i hi
  try dsimp only at q
  rw[hp] at q
  refine wpS_bind (zap hp ?_)
  rw[if_neg (by decide)]
  refine wpS_bind (C.lt key p st _ okq (ok p (mem hp)) hk ?_)
  exact wpS_pure q
 ·obtain ⟨p,hp⟩:=at_ i (by (first|lia|omega))
  obtain⟨p',hp'⟩:=at_ j hj
  try dsimp only at hB ⊢
  rw[hp'] at hB
  rw[hp]
  have hB:O.blt (kf key) (kf p')=false:=by simpa using hB
  have:=KeyOrd.kle_trans (ha (base+i) (base+j) p p' (by (first|lia|omega)) (by (first|lia|omega)) (by (first|lia|omega)) hp hp') hB
  show (!O.blt (kf key) (kf p))=true
  rw[show O.blt (kf key) (kf p)=false from this]
  rfl
 ·refine h k hk1 (fun i p hi hp=> ?_) fun i p h3 h4 hp=> ?_
  ·have:=h1 i hi
   try dsimp only at this
   rw[hp] at this
   show O.blt (kf key) (kf p)=false
   simpa using this
  ·have:=h2 i h3 h4
   try dsimp only at this
   rw[hp] at this
   show O.blt (kf key) (kf p)=true
   simpa using this
theorem zgO (C:Cmp M A E s kd O kf okk){st:SortSt}(hk:kindOf st=kd){key:Keyed}{arr:Array Keyed}{base n hint:Nat}{Q:Option Nat->SortSt->Prop}(ok:∀p∈arr.toList,okk p)(okq:okk key)(ha:RunUp kf arr base (base+n))(hn:base+n<=arr.size)(hh:hint<n)
  (h:∀k,k<=n->(∀i p,i<k->arr[base+i]? =some p->O.klt (kf p) (kf key))->(∀i p,k<=i->i<n->arr[base+i]? =some p->O.kle (kf key) (kf p))->Q (some k) st):wpS M A E s (zcK true key arr base n hint) Q st:=by
 have at_:∀i,i<n->∃p,arr[base+i]? =some p:=fun i hi=>⟨arr[base+i],Array.getElem?_eq_getElem (by (first|lia|omega))⟩
 have mem:∀{i:Nat} {p:Keyed},arr[i]? =some p->p∈arr.toList:=fun {i p} h=>List.mem_of_getElem? (i:=i) (by rw[<-h];simp)
 refine zdM (B:=fun i=>match arr[base+i]? with|some p=>O.blt (kf p) (kf key)|none=>false) (fun i Q' hi q=> ?_) (fun i j hij hj hB=> ?_) hh fun k hk1 h1 h2=> ?_
 ·obtain ⟨p,hp⟩:=at_ i hi
  try dsimp only at q
  rw[hp] at q
  refine wpS_bind (zap hp ?_)
  rw[if_pos rfl]
  exact C.lt p key st _ (ok p (mem hp)) okq hk q
 ·obtain ⟨p,hp⟩:=at_ i (by (first|lia|omega))
  obtain⟨p',hp'⟩:=at_ j hj
  try dsimp only at hB ⊢
  rw[hp'] at hB
  rw[hp]
  exact KeyOrd.klt_of_kle_of_klt (ha (base+i) (base+j) p p' (by (first|lia|omega)) (by (first|lia|omega)) (by (first|lia|omega)) hp hp') hB
 ·refine h k hk1 (fun i p hi hp=> ?_) fun i p h3 h4 hp=> ?_
  ·have:=h1 i hi
   try dsimp only at this
   rw[hp] at this
   exact this
  ·have:=h2 i h3 h4
   try dsimp only at this
   rw[hp] at this
   exact this
theorem ziF (C:Cmp M A E s kd O kf okk){st:SortSt}(hk:kindOf st=kd){key:Keyed}{arr:Array Keyed}{base n hint:Nat}{Q:Option Nat->SortSt->Prop}(ok:∀p∈arr.toList,okk p)(okq:okk key)(ha:KeysUp kf arr)(hn:base+n<=arr.size)(hh:hint<n)
  (h:∀k,k<=n->(∀i p,i<k->arr[base+i]? =some p->O.kle (kf p) (kf key))->(∀i p,k<=i->i<n->arr[base+i]? =some p->O.klt (kf key) (kf p))->Q (some k) st):wpS M A E s (zcK false key arr base n hint) Q st:=zgN C hk ok okq (ha.run _ _) hn hh h
theorem ziG (C:Cmp M A E s kd O kf okk){st:SortSt}(hk:kindOf st=kd){key:Keyed}{arr:Array Keyed}{base n hint:Nat}{Q:Option Nat->SortSt->Prop}(ok:∀p∈arr.toList,okk p)(okq:okk key)(ha:KeysUp kf arr)(hn:base+n<=arr.size)(hh:hint<n)
  (h:∀k,k<=n->(∀i p,i<k->arr[base+i]? =some p->O.klt (kf p) (kf key))->(∀i p,k<=i->i<n->arr[base+i]? =some p->O.kle (kf key) (kf p))->Q (some k) st):wpS M A E s (zcK true key arr base n hint) Q st:=zgO C hk ok okq (ha.run _ _) hn hh h
end
section
variable {M:Model}{A:Around}{E:Value->Shared->Prop}{s:Shared}
variable {O:KeyOrd}{kf:Keyed->O.α}{okk:Keyed->Prop}{kd:SortKind}
theorem Way.done' {a b out:Array Keyed}{ia ib:Nat}(w:Way kf a b out ia ib)(ha:KeysUp kf a)(e:ib=b.size):Res kf a b (out++a.extract ia a.size++b.extract ib b.size):=by
 subst e
 exact w.done ha
theorem zdN {τ α:Type}{c:Prop}[Decidable c]{y:Nat}{Q:α->τ->Prop}{st:τ}{G:Nat->StateT τ Sem α}(k:∀g3,wpS M A E s (G g3) Q st):∀u,wpS M A E s (if c then G u else G y) Q st:=fun u=>by
 split
 ·exact k _
 ·exact k _
theorem zfP {τ α:Type}{c:Prop}[Decidable c]{d e:Nat->Prop}[∀i,Decidable (d i)][∀i,Decidable (e i)]{X Y J:Array Keyed->Nat->StateT τ Sem α}{i0:Nat}{o0:Array Keyed}{P:Nat->Array Keyed->Prop}{C:Array Keyed->Nat->Prop}{Q:α->τ->Prop}{st:τ}
  (hX:∀i o,P i o->c->d i->wpS M A E s (X o i) Q st) (hY:∀i o,P i o->¬d i->¬e i) (h1:∀i o,P i o->¬d i->C o i) (h0:¬c->C o0 i0) (k:∀o i,C o i->wpS M A E s (J o i) Q st):
  ∀i1 o1,P i1 o1->wpS M A E s (if c then if d i1 then X o1 i1 else if e i1 then Y o1 i1 else J o1 i1 else J o0 i0) Q st:=fun i1 o1 hP=>by
 by_cases hc:c
 ·rw [if_pos hc]
  by_cases hd:d i1
  ·rw [if_pos hd]
   exact hX i1 o1 hP hc hd
  ·rw [if_neg hd,if_neg (hY i1 o1 hP hd)]
   exact k _ _ (h1 i1 o1 hP hd)
 ·rw [if_neg hc]
  exact k _ _ (h0 hc)
theorem zdt {τ α:Type}{c:Prop}[Decidable c]{d:Nat->Prop}[∀i,Decidable (d i)]{X J:Array Keyed->Nat->StateT τ Sem α}{i0:Nat}{o0:Array Keyed}{P:Nat->Array Keyed->Prop}{C:Array Keyed->Nat->Prop}{Q:α->τ->Prop}{st:τ}
  (hX:∀i o,P i o->c->d i->wpS M A E s (X o i) Q st) (h1:∀i o,P i o->¬d i->C o i) (h0:¬c->C o0 i0) (k:∀o i,C o i->wpS M A E s (J o i) Q st):
  ∀i1 o1,P i1 o1->wpS M A E s (if c then if d i1 then X o1 i1 else J o1 i1 else J o0 i0) Q st:=fun i1 o1 hP=>by
 by_cases hc:c
 ·rw [if_pos hc]
  by_cases hd:d i1
  ·rw [if_pos hd]
   exact hX i1 o1 hP hc hd
  ·rw [if_neg hd]
   exact k _ _ (h1 i1 o1 hP hd)
 ·rw [if_neg hc]
  exact k _ _ (h0 hc)
set_option maxHeartbeats 4000000 in
theorem zfQ (C:Cmp M A E s kd O kf okk){st:SortSt}(hk:kindOf st=kd){a b:Array Keyed}{Q:Array Keyed->SortSt->Prop}(oka:∀p∈a.toList,okk p)(okb:∀p∈b.toList,okk p)(ha:KeysUp kf a)(hb:KeysUp kf b)(na:0<a.size)(nb:0<b.size)
  (h0:∀p q,b[0]? =some p->a[0]? =some q->O.kle (kf p) (kf q)) (hl:∀p q,a[a.size-1]? =some p->q∈b.toList->O.klt (kf q) (kf p))
  (h:∀r g,Res kf a b r->Q r (zbr st g)):wpS M A E s (zgL a b) Q st:=by
 unfold zgL
 have hb0:b[0]? =some b[0]:=Array.getElem?_eq_getElem nb
 refine wpS_bind (wpS_lift (wpAny_rule ⟨rfl, ?_⟩))
 try dsimp only
 refine wpS_bind (zap hb0 ?_)
 try dsimp only
 have hz:zbr st (gallopOf st)=st:=rfl
 have w0:Way kf a b #[b[0]] 0 1:=by
  have e:Way kf a b #[] 0 0:=⟨by simp,List.Pairwise.nil,fun p hp=>by simp at hp,fun p hp=>by simp at hp⟩
  exact e.pushB hb hb0 fun q hq=>h0 _ q hb0 hq
 by_cases e1:(1==b.size)=true
 ·rw [if_pos e1]
  have e1':1=b.size:=by simpa using e1
  rw[e1'] at w0
  have:=h _ (gallopOf st) (w0.done ha)
  rw[hz,<-e1'] at this
  rw[<-e1']
  exact wpS_pure this
 rw[if_neg e1]
 have e1':1≠b.size:=by simpa using e1
 by_cases e2:(0+1==a.size)=true
 ·rw [if_pos e2]
  have e2':0+1=a.size:=by simpa using e2
  have:=h _ (gallopOf st) (w0.last ha hb e2' (by (first|lia|omega)) fun p q hp hq=>KeyOrd.kle_of_klt (hl p q (by rw[<-e2'];exact hp) hq))
  rw[hz] at this
  exact wpS_pure this
 rw[if_neg e2]
 have e2':0+1≠a.size:=by simpa using e2
 refine wpS_bind (wpS_get ?_)
 try dsimp only
 have hlast:∀{out:Array Keyed} {ia ib:Nat},Way kf a b out ia ib->ia+1=a.size->ib<b.size->Res kf a b (out++b.extract ib b.size++a.extract ia a.size):=fun w e hi=>w.last ha hb e hi fun p q hp hq=>KeyOrd.kle_of_klt (hl p q (by rw[<-e];exact hp) hq)
 have mema:∀{i:Nat} {p:Keyed},a[i]? =some p->okk p:=fun {i p} h=>oka p (List.mem_of_getElem? (i:=i) (by rw[<-h];simp))
 have memb:∀{i:Nat} {p:Keyed},b[i]? =some p->okk p:=fun {i p} h=>okb p (List.mem_of_getElem? (i:=i) (by rw[<-h];simp))
 refine wpS_bind (wpS_mono (wpS_forRange (I:=fun x c st'=>(∃g0,st'=zbr st g0)/\∃out ia ib g,c=(none,out,ia,ib,g)/\Way kf a b out ia ib/\ia+1<a.size/\ib<b.size/\x+1<=ia+ib)
  (Q:=fun c st'=>(∃g0,st'=zbr st g0)/\∃r,c.1=some r/\Res kf a b r) ?step ?fin ⟨⟨_,hz.symm⟩,_,_,_,_,rfl,w0,by (first|lia|omega),by (first|lia|omega),by (first|lia|omega)⟩) ?post)
 case fin=>
  rintro c st' ⟨_,out,ia,ib,g,rfl,w,h1,h2,h3⟩
  rw[Nat.max_eq_right (Nat.zero_le _)] at h3
  (first|lia|omega)
 case post=>
  rintro⟨c1,c2⟩ st' ⟨⟨g0,rfl⟩,r,hc,hr⟩
  dsimp only at hc
  subst hc
  exact wpS_pure (h r g0 hr)
 case step=>
  rintro x c st' _ hx ⟨⟨g0,rfl⟩,out0,ia0,ib0,g,rfl,w00,h10,h20,h30⟩
  dsimp only
  refine wpS_bind (wpS_mono (wpS_forRange (I:=fun y c st''=>st''=zbr st g0/\∃out ia ib ac bc,c=(none,out,ia,ib,ac,bc)/\Way kf a b out ia ib/\ia+1<a.size/\ib<b.size/\y+(ia0+ib0)<=ia+ib)
   (Q:=fun c st''=>st''=zbr st g0/\((∃r,c.1=some r/\Res kf a b r)∨∃out ia ib ac bc,c=(none,out,ia,ib,ac,bc)/\Way kf a b out ia ib/\ia+1<a.size/\ib<b.size/\ia0+ib0+1<=ia+ib)) ?step1 ?fin1 ⟨rfl,_,_,_,_,_,rfl,w00,h10,h20,by (first|lia|omega)⟩) ?post1)
  case fin1=>
   rintro c st' ⟨rfl,out,ia,ib,ac,bc,rfl,w,h1,h2,h3⟩
   rw[Nat.max_eq_right (Nat.zero_le _)] at h3
   exact⟨rfl,.inr ⟨_,_,_,_,_,rfl,w,h1,h2,by (first|lia|omega)⟩⟩
  case step1=>
   rintro y c st' _ hy ⟨rfl,out,ia,ib,ac,bc,rfl,w,h1,h2,h3⟩
   dsimp only
   have hpb:b[ib]? =some b[ib]:=Array.getElem?_eq_getElem h2
   have hpa:a[ia]? =some a[ia]:=Array.getElem?_eq_getElem (by (first|lia|omega))
   refine wpS_bind (zap hpb ?_)
   refine wpS_bind (zap hpa ?_)
   refine wpS_bind (C.lt _ _ _ _ (memb hpb) (mema hpa) hk ?_)
   dsimp only
   cases hbl:O.blt (kf b[ib]) (kf a[ia]) with
   | true=>
    rw[if_pos rfl]
    refine wpS_bind (zap hpb ?_)
    have w':=w.pushB hb hpb fun q hq=>by
     rw[hpa] at hq
     cases hq
     exact KeyOrd.kle_of_klt hbl
    by_cases e:(ib+1==b.size)=true
    ·rw [if_pos e]
     have e':ib+1=b.size:=by simpa using e
     have:=(e'▸w':Way kf a b _ ia b.size).done ha
     rw[<-e'] at this
     refine wpS_pure ⟨rfl,.inl ⟨_,rfl, ?_⟩⟩
     rw[<-e']
     exact this
    ·rw [if_neg e]
     have e':ib+1≠b.size:=by simpa using e
     by_cases e3:bc+1≥g
     ·rw [if_pos e3]
      exact wpS_pure ⟨rfl,.inr ⟨_,_,_,_,_,rfl,w',h1,by (first|lia|omega),by (first|lia|omega)⟩⟩
     ·rw [if_neg e3]
      exact wpS_pure ⟨rfl,_,_,_,_,_,rfl,w',h1,by (first|lia|omega),by (first|lia|omega)⟩
   | false=>
    rw[if_neg (by decide)]
    refine wpS_bind (zap hpa ?_)
    have w':=w.pushA ha hpa fun q hq=>by
     rw[hpb] at hq
     cases hq
     exact hbl
    by_cases e:(ia+1+1==a.size)=true
    ·rw [if_pos e]
     have e':ia+1+1=a.size:=by simpa using e
     exact wpS_pure ⟨rfl,.inl ⟨_,rfl,hlast w' e' h2⟩⟩
    ·rw [if_neg e]
     have e':ia+1+1≠a.size:=by simpa using e
     by_cases e3:ac+1≥g
     ·rw [if_pos e3]
      exact wpS_pure ⟨rfl,.inr ⟨_,_,_,_,_,rfl,w',by (first|lia|omega),h2,by (first|lia|omega)⟩⟩
     ·rw [if_neg e3]
      exact wpS_pure ⟨rfl,_,_,_,_,_,rfl,w',by (first|lia|omega),h2,by (first|lia|omega)⟩
  case post1=>
   rintro c st' ⟨rfl,⟨r,hc,hr⟩|⟨out1,ia1,ib1,ac,bc,rfl,w1,h11,h21,h31⟩⟩
   ·obtain ⟨c1,c2⟩:=c
    dsimp only at hc
    subst hc
    exact wpS_pure ⟨⟨_,rfl⟩,_,rfl,hr⟩
   ·dsimp only
    refine wpS_bind (wpS_lift (wpAny_rule ⟨rfl, ?_⟩))
    refine wpS_bind (wpS_mono (wpS_forRange (I:=fun y c st''=>(∃g1,st''=zbr st g1)/\∃out ia ib g ac bc,c=(none,out,ia,ib,g,ac,bc)/\Way kf a b out ia ib/\ia+1<a.size/\ib<b.size/\ia0+ib0+1<=ia+ib)
     (Q:=fun c st''=>(∃g1,st''=zbr st g1)/\((∃r,c.1=some r/\Res kf a b r)∨∃out ia ib g ac bc,c=(none,out,ia,ib,g,ac,bc)/\Way kf a b out ia ib/\ia+1<a.size/\ib<b.size/\ia0+ib0+1<=ia+ib)) ?step2 ?fin2 ⟨⟨_,rfl⟩,_,_,_,_,_,_,rfl,w1,h11,h21,h31⟩) ?post2)
    case fin2=>
     rintro c st' ⟨hg,hc⟩
     exact⟨hg,.inr hc⟩
    case post2=>
     rintro c st' ⟨⟨g1,rfl⟩,⟨r,hc,hr⟩|⟨out2,ia2,ib2,g2,ac2,bc2,rfl,w2,h12,h22,h32⟩⟩
     ·obtain ⟨c1,c2⟩:=c
      dsimp only at hc
      subst hc
      exact wpS_pure ⟨⟨_,rfl⟩,_,rfl,hr⟩
     ·dsimp only
      refine wpS_bind (wpS_modify ?_)
      exact wpS_pure ⟨⟨_,rfl⟩,_,_,_,_,rfl,w2,h12,h22,by (first|lia|omega)⟩
    case step2=>
     rintro y c st' _ hy ⟨⟨g1,rfl⟩,out,ia,ib,g',ac',bc',rfl,w,h1,h2,h3⟩
     dsimp only
     have hpb:b[ib]? =some b[ib]:=Array.getElem?_eq_getElem h2
     generalize g'-1=u
     revert u
     refine zdN ?_
     intro g3
     refine wpS_bind (wpS_modify ?_)
     refine wpS_bind (zap hpb ?_)
     refine wpS_bind (ziF C (st:=zbr st g3) hk oka (memb hpb) ha (by (first|lia|omega)) (by (first|lia|omega)) fun k hkn hle hgt=> ?_)
     have kless:k<a.size-ia:=by
      rcases Nat.lt_or_ge k (a.size-ia) with h'|h'
      ·exact h'
      ·exfalso
       have hz2:a[a.size-1]? =some a[a.size-1]:=Array.getElem?_eq_getElem (by (first|lia|omega))
       have:=hle (a.size-ia-1) a[a.size-1] (by (first|lia|omega)) (by rw[show ia+(a.size-ia-1)=a.size-1 by (first|lia|omega)];exact hz2)
       exact KeyOrd.not_klt_of_kle this (hl _ _ hz2 (List.mem_of_getElem? (i:=ib) (by rw[<-hpb];simp)))
     have wA:=w.manyA ha (k:=k) (by (first|lia|omega)) fun i p q hi hp hq=>by
      rw[hpb] at hq
      cases hq
      exact hle i p hi hp
     have nx:∀q,a[ia+k]? =some q->O.kle (kf b[ib]) (kf q):=fun q hq=>KeyOrd.kle_of_klt (hgt k q (Nat.le_refl _) kless hq)
     dsimp only
     have hP:Way kf a b (out++a.extract ia (ia+k)) (ia+k) ib/\(∀q,a[ia+k]? =some q->O.kle (kf b[ib]) (kf q))/\ia+k<a.size/\ia<=ia+k:=⟨wA,nx,by (first|lia|omega),by (first|lia|omega)⟩
     have hC0:Way kf a b out ia ib/\(∀q,a[ia]? =some q->O.kle (kf b[ib]) (kf q))∨k>0:=by
      rcases Nat.eq_zero_or_pos k with z|z
      ·exact .inl ⟨w,fun q hq=>KeyOrd.kle_of_klt (hgt 0 q (by (first|lia|omega)) (by (first|lia|omega)) hq)⟩
      ·exact .inr z
     clear wA nx
     revert hP
     generalize ia+k=i1
     generalize out++a.extract ia i1=o1
     revert i1 o1
     refine zfP (C:=fun o i=>Way kf a b o i ib/\(∀q,a[i]? =some q->O.kle (kf b[ib]) (kf q))/\i+1<a.size/\ia<=i) (fun i1 o1 hP _ e4=> ?_) (fun i1 o1 hP _=> ?_) (fun i1 o1 hP e4=> ?_) (fun ek=> ?_) ?_
     ·exact wpS_pure ⟨⟨_,rfl⟩,.inl ⟨_,rfl,hlast hP.1 (by simpa using e4) h2⟩⟩
     ·have:=hP.2.2.1
      simp
      (first|lia|omega)
     ·have e4':i1+1≠a.size:=by simpa using e4
      exact⟨hP.1,hP.2.1,by have:=hP.2.2.1;(first|lia|omega),hP.2.2.2⟩
     ·rcases hC0 with⟨c1,c2⟩|c
      ·exact⟨c1,c2,h1,Nat.le_refl _⟩
      ·exact absurd c ek
     ·rintro o1 i1 ⟨wA,nx,hi1,hi2⟩
      refine wpS_bind (zap hpb ?_)
      have wB:=wA.pushB hb hpb nx
      by_cases e5:(ib+1==b.size)=true
      ·rw [if_pos e5]
       exact wpS_pure ⟨⟨_,rfl⟩,.inl ⟨_,rfl,wB.done' ha (by simpa using e5)⟩⟩
      rw[if_neg e5]
      have e5':ib+1≠b.size:=by simpa using e5
      have hpa:a[i1]? =some a[i1]:=Array.getElem?_eq_getElem (by (first|lia|omega))
      obtain⟨ax,hax⟩:∃ax,ax=a[i1]:=⟨_,rfl⟩
      refine wpS_bind (zap hpa ?_)
      refine wpS_bind (ziG C (st:=zbr st g3) hk okb (mema hpa) hb (by (first|lia|omega)) (by (first|lia|omega)) fun k1 hkn1 hlt1 hge1=> ?_)
      dsimp only
      have wC:=wB.manyB hb (k:=k1) (by (first|lia|omega)) fun i p q hi hp hq=>by
       rw[hpa] at hq
       cases hq
       exact KeyOrd.kle_of_klt (hlt1 i p hi hp)
      have hC0:(∀q,b[ib+1]? =some q->O.kle (kf ax) (kf q))∨k1>0:=by
       rcases Nat.eq_zero_or_pos k1 with z|z
       ·rw [hax]
        exact .inl fun q hq=>hge1 0 q (by (first|lia|omega)) (by (first|lia|omega)) hq
       ·exact .inr z
      have hP:Way kf a b (o1.push b[ib]++b.extract (ib+1) (ib+1+k1)) i1 (ib+1+k1)/\(ib+1+k1≠b.size->∀q,b[ib+1+k1]? =some q->O.kle (kf ax) (kf q))/\ib+1+k1<=b.size/\ib+1<=ib+1+k1:=⟨wC,fun e6' q hq=>by rw[hax];exact hge1 k1 q (Nat.le_refl _) (by (first|lia|omega)) hq,by (first|lia|omega),by (first|lia|omega)⟩
      clear wC hlt1 hge1 hkn1
      revert hP
      generalize ib+1+k1=j1
      generalize o1.push b[ib]++b.extract (ib+1) j1=o2
      revert j1 o2
      refine zdt (C:=fun o j=>Way kf a b o i1 j/\(∀q,b[j]? =some q->O.kle (kf ax) (kf q))/\j<b.size/\ib+1<=j) (fun j1 o2 hP _ e6=> ?_) (fun j1 o2 hP e6=> ?_) (fun ek1=> ?_) ?_
      ·exact wpS_pure ⟨⟨_,rfl⟩,.inl ⟨_,rfl,hP.1.done' ha (by simpa using e6)⟩⟩
      ·have e6':j1≠b.size:=by simpa using e6
       exact⟨hP.1,hP.2.1 e6',by have:=hP.2.2.1;(first|lia|omega),hP.2.2.2⟩
      ·rcases hC0 with c1|c
       ·exact⟨wB,c1,by (first|lia|omega),Nat.le_refl _⟩
       ·exact absurd c ek1
      ·rintro o2 j1 ⟨wC,nx2,hj1,hj2⟩
       rw[hax] at nx2
       refine wpS_bind (zap hpa ?_)
       have wD:=wC.pushA ha hpa nx2
       by_cases e7:(i1+1+1==a.size)=true
       ·rw [if_pos e7]
        exact wpS_pure ⟨⟨_,rfl⟩,.inl ⟨_,rfl,hlast wD (by simpa using e7) (by (first|lia|omega))⟩⟩
       rw[if_neg e7]
       have e7':i1+1+1≠a.size:=by simpa using e7
       by_cases e8:(decide (k<7)&&decide (k1<7))=true
       ·rw [if_pos e8]
        exact wpS_pure ⟨⟨_,rfl⟩,.inr ⟨_,_,_,_,_,_,rfl,wD,by (first|lia|omega),by (first|lia|omega),by (first|lia|omega)⟩⟩
       ·rw [if_neg e8]
        exact wpS_pure ⟨⟨_,rfl⟩,_,_,_,_,_,_,rfl,wD,by (first|lia|omega),by (first|lia|omega),by (first|lia|omega)⟩
end
section
variable {O:KeyOrd}(kf:Keyed->O.α)
structure WayH (a b out:Array Keyed) (na nb:Nat):Prop where
 perm:out.toList.reverse.Perm (a.toList.drop na++b.toList.drop nb)
 up:Up kf out.toList.reverse
 la:∀p∈out.toList,∀q∈a.toList.take na,O.kle (kf q) (kf p)
 lb:∀p∈out.toList,∀q∈b.toList.take nb,O.kle (kf q) (kf p)
variable {kf}
theorem zc5 (a:Array Keyed)(i:Nat):(a.extract 0 i).toList=a.toList.take i:=by
 rw[Array.toList_extract]
 simp[List.extract]
theorem zfR {a:Array Keyed}(ha:KeysUp kf a)(i:Nat):Up kf (a.toList.take i):=(ha.up).sublist (List.take_sublist _ _)
theorem zeX {a:Array Keyed}(ha:KeysUp kf a){i:Nat}{p q:Keyed}(hq:q∈a.toList.take i)(hp:p∈a.toList.drop i):O.kle (kf q) (kf p):=by
 have h:=ha.up
 rw[<-List.take_append_drop i a.toList] at h
 exact (List.pairwise_append.mp h).2.2 q hq p hp
theorem zbs {a:Array Keyed}(ha:KeysUp kf a){i j:Nat}{p q:Keyed}(hq:q∈a.toList.take i)(hp:a[j]? =some p)(hij:i<=j+1):O.kle (kf q) (kf p):=by
 obtain⟨m,hm⟩:=List.getElem?_of_mem hq
 have hlt:m<i:=by
  have:=(List.getElem?_eq_some_iff.mp hm).1
  rw[List.length_take] at this
  (first|lia|omega)
 rw[List.getElem?_take_of_lt hlt] at hm
 exact ha m j q p (by (first|lia|omega)) (by rw[<-hm];simp) hp
theorem WayH.done {a b out:Array Keyed}{na nb:Nat}(w:WayH kf a b out na nb)(hb:KeysUp kf b)(e:na=0):Res kf a b (a.extract 0 na++b.extract 0 nb++out.reverse):=by
 subst e
 have e:(a.extract 0 0++b.extract 0 nb++out.reverse).toList=b.toList.take nb++out.toList.reverse:=by
  rw[Array.toList_append,Array.toList_append,zc5,zc5,Array.toList_reverse]
  simp
 refine⟨?_, ?_⟩
 ·rw [e]
  refine (List.Perm.append_left _ w.perm).trans ?_
  rw[List.drop_zero,<-List.append_assoc]
  refine (List.Perm.append_right _ List.perm_append_comm).trans ?_
  rw[List.append_assoc,List.take_append_drop]
 ·rw [e]
  exact zaW (zfR hb nb) w.up fun p hp q hq=>w.lb q (List.mem_reverse.mp hq) p hp
theorem WayH.first {a b out:Array Keyed}{na nb:Nat}(w:WayH kf a b out na nb)(ha:KeysUp kf a)(hb:KeysUp kf b)(h:∀p∈b.toList.take nb,∀q∈a.toList,O.kle (kf p) (kf q)):Res kf a b (b.extract 0 nb++a.extract 0 na++out.reverse):=by
 have e:(b.extract 0 nb++a.extract 0 na++out.reverse).toList=b.toList.take nb++(a.toList.take na++out.toList.reverse):=by
  rw[Array.toList_append,Array.toList_append,zc5,zc5,Array.toList_reverse,List.append_assoc]
 refine⟨?_, ?_⟩
 ·rw [e]
  refine (List.Perm.append_left _ (List.Perm.append_left _ w.perm)).trans ?_
  rw[<-List.append_assoc (a.toList.take na),List.take_append_drop,<-List.append_assoc]
  refine (List.Perm.append_right _ List.perm_append_comm).trans ?_
  rw[List.append_assoc,List.take_append_drop]
 ·rw [e]
  refine zaW (zfR hb nb) (zaW (zfR ha na) w.up fun p hp q hq=>w.la q (List.mem_reverse.mp hq) p hp) fun p hp q hq=> ?_
  rcases List.mem_append.mp hq with h'|h'
  ·exact h p hp q (List.mem_of_mem_take h')
  ·exact w.lb q (List.mem_reverse.mp h') p hp
theorem zec (l:List Keyed){i j:Nat}(h:i<=j):(l.drop i).take (j-i)++l.drop j=l.drop i:=by
 have:=List.take_append_drop (j-i) (l.drop i)
 rw[List.drop_drop,show i+(j-i)=j by (first|lia|omega)] at this
 exact this
theorem WayH.addA {a b out out':Array Keyed}{na na' nb:Nat}(w:WayH kf a b out na nb)(ha:KeysUp kf a)(hle:na'<=na)(e:out'.toList.reverse=(a.toList.drop na').take (na-na')++out.toList.reverse)
  (h:∀p∈(a.toList.drop na').take (na-na'),∀q∈b.toList.take nb,O.kle (kf q) (kf p)):WayH kf a b out' na' nb:=by
 have mid:∀p∈(a.toList.drop na').take (na-na'),p∈a.toList.take na:=fun p hp=>by
  rw[<-List.drop_take] at hp
  exact List.mem_of_mem_drop hp
 have spl:∀p∈out'.toList,p∈(a.toList.drop na').take (na-na')∨p∈out.toList:=fun p hp=>by
  have:p∈out'.toList.reverse:=List.mem_reverse.mpr hp
  rw[e] at this
  exact (List.mem_append.mp this).imp id List.mem_reverse.mp
 refine⟨?_, ?_,fun p hp q hq=> ?_,fun p hp q hq=> ?_⟩
 ·rw [e]
  refine (List.Perm.append_left _ w.perm).trans ?_
  rw[<-List.append_assoc,zec _ hle]
 ·rw [e]
  refine zaW (ha.up.sublist ((List.take_sublist _ _).trans (List.drop_sublist _ _))) w.up fun p hp q hq=>w.la q (List.mem_reverse.mp hq) p (mid p hp)
 ·rcases spl p hp with h'|h'
  ·exact zeX ha hq (List.mem_of_mem_take h')
  ·refine w.la p h' q ?_
   rw[show na'=min na' na by (first|lia|omega),<-List.take_take] at hq
   exact List.mem_of_mem_take hq
 ·rcases spl p hp with h'|h'
  ·exact h p h' q hq
  ·exact w.lb p h' q hq
theorem WayH.flip {a b out:Array Keyed}{na nb:Nat}(w:WayH kf a b out na nb):WayH kf b a out nb na:=⟨w.perm.trans List.perm_append_comm,w.up,w.lb,w.la⟩
theorem zly {a:Array Keyed}{n:Nat}{p:Keyed}(hp:a[n]? =some p):(a.toList.drop n).take (n+1-n)=[p]:=by
 have h1:a.toList[n]? =some p:=by rw[<-hp];simp
 have h2:n<a.toList.length:=(List.getElem?_eq_some_iff.mp h1).1
 rw[show n+1-n=1 by (first|lia|omega),List.drop_eq_getElem_cons h2,(List.getElem?_eq_some_iff.mp h1).2]
 rfl
theorem WayH.pushA {a b out:Array Keyed}{na nb:Nat}{p:Keyed}(w:WayH kf a b out na nb)(ha:KeysUp kf a)(h0:0<na)(hp:a[na-1]? =some p)(h:∀q∈b.toList.take nb,O.kle (kf q) (kf p)):WayH kf a b (out.push p) (na-1) nb:=by
 have e:=zly hp
 rw[show na-1+1=na by (first|lia|omega)] at e
 refine w.addA ha (by (first|lia|omega)) ?_ fun x hx q hq=> ?_
 ·rw [e,Array.toList_push]
  simp
 ·rw [e] at hx
  rw[List.mem_singleton.mp hx]
  exact h q hq
theorem WayH.manyA {a b out:Array Keyed}{na n1 nb:Nat}(w:WayH kf a b out na nb)(ha:KeysUp kf a)(hle:n1<=na)(h:∀i p,n1<=i->i<na->a[i]? =some p->∀q∈b.toList.take nb,O.kle (kf q) (kf p)):WayH kf a b (out++(a.extract n1 na).reverse) n1 nb:=by
 have e:=zcf a n1 (na-n1)
 rw[show n1+(na-n1)=na by (first|lia|omega)] at e
 refine w.addA ha hle ?_ fun x hx q hq=> ?_
 ·rw [Array.toList_append,Array.toList_reverse,e]
  simp
 ·obtain ⟨m,hm⟩:=List.getElem?_of_mem hx
  have hlt:m<na-n1:=by
   have:=(List.getElem?_eq_some_iff.mp hm).1
   rw[List.length_take] at this
   (first|lia|omega)
  rw[List.getElem?_take_of_lt hlt,List.getElem?_drop] at hm
  exact h (n1+m) x (by (first|lia|omega)) (by (first|lia|omega)) (by rw[<-hm];simp) q hq
end
section
variable {M:Model}{A:Around}{E:Value->Shared->Prop}{s:Shared}
variable {O:KeyOrd}{kf:Keyed->O.α}{okk:Keyed->Prop}{kd:SortKind}
theorem ziH {a:Array Keyed}{i:Nat}{q:Keyed}(hq:q∈a.toList.take i):∃m,m<i/\a[m]? =some q:=by
 obtain⟨m,hm⟩:=List.getElem?_of_mem hq
 have hlt:m<i:=by
  have:=(List.getElem?_eq_some_iff.mp hm).1
  rw[List.length_take] at this
  (first|lia|omega)
 rw[List.getElem?_take_of_lt hlt] at hm
 exact⟨m,hlt,by rw[<-hm];simp⟩
set_option maxHeartbeats 4000000 in
theorem zfS (C:Cmp M A E s kd O kf okk){st:SortSt}(hk:kindOf st=kd){a b:Array Keyed}{Q:Array Keyed->SortSt->Prop}(oka:∀p∈a.toList,okk p)(okb:∀p∈b.toList,okk p)(ha:KeysUp kf a)(hb:KeysUp kf b)(na1:0<a.size)(nb1:0<b.size)
  (h0:∀p q,b[0]? =some p->a[0]? =some q->O.klt (kf p) (kf q)) (hl:∀p q,a[a.size-1]? =some p->q∈b.toList->O.klt (kf q) (kf p))
  (h:∀r g,Res kf a b r->Q r (zbr st g)):wpS M A E s (zgM a b) Q st:=by
 unfold zgM
 have hb0:b[0]? =some b[0]:=Array.getElem?_eq_getElem nb1
 have ha0:a[0]? =some a[0]:=Array.getElem?_eq_getElem na1
 have hal:a[a.size-1]? =some a[a.size-1]:=Array.getElem?_eq_getElem (by (first|lia|omega))
 have hfirst:∀{out:Array Keyed} {na nb:Nat},WayH kf a b out na nb->nb=1->Res kf a b (b.extract 0 nb++a.extract 0 na++out.reverse):=fun w e=>w.first ha hb fun p hp q hq=>by
  subst e
  have g1:=zbs hb hp hb0 (by (first|lia|omega))
  obtain⟨m,hm⟩:=List.getElem?_of_mem hq
  exact KeyOrd.kle_trans g1 (KeyOrd.kle_trans (KeyOrd.kle_of_klt (h0 _ _ hb0 ha0)) (ha 0 m _ _ (by (first|lia|omega)) ha0 (by rw[<-hm];simp)))
 have mema:∀{i:Nat} {p:Keyed},a[i]? =some p->okk p:=fun {i p} h=>oka p (List.mem_of_getElem? (i:=i) (by rw[<-h];simp))
 have memb:∀{i:Nat} {p:Keyed},b[i]? =some p->okk p:=fun {i p} h=>okb p (List.mem_of_getElem? (i:=i) (by rw[<-h];simp))
 have hz:zbr st (gallopOf st)=st:=rfl
 have w0:WayH kf a b #[a[a.size-1]] (a.size-1) b.size:=by
  have e:WayH kf a b #[] a.size b.size:=⟨by simp,List.Pairwise.nil,fun p hp=>by simp at hp,fun p hp=>by simp at hp⟩
  exact e.pushA ha na1 hal fun q hq=>KeyOrd.kle_of_klt (hl _ q hal (List.mem_of_mem_take hq))
 refine wpS_bind (wpS_lift (wpAny_rule ⟨rfl, ?_⟩))
 try dsimp only
 refine wpS_bind (zap hal ?_)
 try dsimp only
 by_cases e1:(a.size-1==0)=true
 ·rw [if_pos e1]
  have:=h _ (gallopOf st) (w0.done hb (by simpa using e1))
  rw[hz] at this
  exact wpS_pure this
 rw[if_neg e1]
 have e1':a.size-1≠0:=by simpa using e1
 by_cases e2:(b.size==1)=true
 ·rw [if_pos e2]
  have:=h _ (gallopOf st) (hfirst w0 (by simpa using e2))
  rw[hz] at this
  exact wpS_pure this
 rw[if_neg e2]
 have e2':b.size≠1:=by simpa using e2
 refine wpS_bind (wpS_get ?_)
 try dsimp only
 refine wpS_bind (wpS_mono (wpS_forRange (I:=fun x c st'=>(∃g0,st'=zbr st g0)/\∃out na nb g,c=(none,na,nb,out,g)/\WayH kf a b out na nb/\1<=na/\2<=nb/\na<=a.size/\nb<=b.size/\x+1+(na+nb)<=a.size+b.size)
  (Q:=fun c st'=>(∃g0,st'=zbr st g0)/\∃r,c.1=some r/\Res kf a b r) ?step ?fin ⟨⟨_,hz.symm⟩,_,_,_,_,rfl,w0,by (first|lia|omega),by (first|lia|omega),by (first|lia|omega),by (first|lia|omega),by (first|lia|omega)⟩) ?post)
 case fin=>
  rintro c st' ⟨_,out,na,nb,g,rfl,w,h1,h2,h1',h2',h3⟩
  rw[Nat.max_eq_right (Nat.zero_le _)] at h3
  (first|lia|omega)
 case post=>
  rintro⟨c1,c2⟩ st' ⟨⟨g0,rfl⟩,r,hc,hr⟩
  dsimp only at hc
  subst hc
  exact wpS_pure (h r g0 hr)
 case step=>
  rintro x c st' _ hx ⟨⟨g0,rfl⟩,out0,na0,nb0,g,rfl,w00,h10,h20,h10',h20',h30⟩
  dsimp only
  refine wpS_bind (wpS_mono (wpS_forRange (I:=fun y c st''=>st''=zbr st g0/\∃out na nb ac bc,c=(none,na,nb,out,ac,bc)/\WayH kf a b out na nb/\1<=na/\2<=nb/\na<=a.size/\nb<=b.size/\y+(na+nb)<=na0+nb0)
   (Q:=fun c st''=>st''=zbr st g0/\((∃r,c.1=some r/\Res kf a b r)∨∃out na nb ac bc,c=(none,na,nb,out,ac,bc)/\WayH kf a b out na nb/\1<=na/\2<=nb/\na<=a.size/\nb<=b.size/\na+nb+1<=na0+nb0)) ?step1 ?fin1 ⟨rfl,_,_,_,_,_,rfl,w00,h10,h20,h10',h20',by (first|lia|omega)⟩) ?post1)
  case fin1=>
   rintro c st' ⟨rfl,out,na,nb,ac,bc,rfl,w,h1,h2,h1',h2',h3⟩
   rw[Nat.max_eq_right (Nat.zero_le _)] at h3
   exact⟨rfl,.inr ⟨_,_,_,_,_,rfl,w,h1,h2,h1',h2',by (first|lia|omega)⟩⟩
  case step1=>
   rintro y c st' _ hy ⟨rfl,out,na,nb,ac,bc,rfl,w,h1,h2,h1',h2',h3⟩
   dsimp only
   have hpb:b[nb-1]? =some b[nb-1]:=Array.getElem?_eq_getElem (by (first|lia|omega))
   have hpa:a[na-1]? =some a[na-1]:=Array.getElem?_eq_getElem (by (first|lia|omega))
   refine wpS_bind (zap hpb ?_)
   refine wpS_bind (zap hpa ?_)
   refine wpS_bind (C.lt _ _ _ _ (memb hpb) (mema hpa) hk ?_)
   dsimp only
   cases hbl:O.blt (kf b[nb-1]) (kf a[na-1]) with
   | true=>
    rw[if_pos rfl]
    refine wpS_bind (zap hpa ?_)
    have w':=w.pushA ha (by (first|lia|omega)) hpa fun q hq=>KeyOrd.kle_trans (zbs hb hq hpb (by (first|lia|omega))) (KeyOrd.kle_of_klt hbl)
    by_cases e:(na-1==0)=true
    ·rw [if_pos e]
     exact wpS_pure ⟨rfl,.inl ⟨_,rfl,w'.done hb (by simpa using e)⟩⟩
    ·rw [if_neg e]
     have e':na-1≠0:=by simpa using e
     by_cases e3:ac+1≥g
     ·rw [if_pos e3]
      exact wpS_pure ⟨rfl,.inr ⟨_,_,_,_,_,rfl,w',by (first|lia|omega),by (first|lia|omega),by (first|lia|omega),by (first|lia|omega),by (first|lia|omega)⟩⟩
     ·rw [if_neg e3]
      exact wpS_pure ⟨rfl,_,_,_,_,_,rfl,w',by (first|lia|omega),by (first|lia|omega),by (first|lia|omega),by (first|lia|omega),by (first|lia|omega)⟩
   | false=>
    rw[if_neg (by decide)]
    refine wpS_bind (zap hpb ?_)
    have w':=(w.flip.pushA hb (by (first|lia|omega)) hpb fun q hq=>KeyOrd.kle_trans (zbs ha hq hpa (by (first|lia|omega))) hbl).flip
    by_cases e:(nb-1==1)=true
    ·rw [if_pos e]
     exact wpS_pure ⟨rfl,.inl ⟨_,rfl,hfirst w' (by simpa using e)⟩⟩
    ·rw [if_neg e]
     have e':nb-1≠1:=by simpa using e
     by_cases e3:bc+1≥g
     ·rw [if_pos e3]
      exact wpS_pure ⟨rfl,.inr ⟨_,_,_,_,_,rfl,w',by (first|lia|omega),by (first|lia|omega),by (first|lia|omega),by (first|lia|omega),by (first|lia|omega)⟩⟩
     ·rw [if_neg e3]
      exact wpS_pure ⟨rfl,_,_,_,_,_,rfl,w',by (first|lia|omega),by (first|lia|omega),by (first|lia|omega),by (first|lia|omega),by (first|lia|omega)⟩
  case post1=>
   rintro c st' ⟨rfl,⟨r,hc,hr⟩|⟨out1,na1,nb1,ac,bc,rfl,w1,h11,h21,h11',h21',h31⟩⟩
   ·obtain ⟨c1,c2⟩:=c
    dsimp only at hc
    subst hc
    exact wpS_pure ⟨⟨_,rfl⟩,_,rfl,hr⟩
   ·dsimp only
    refine wpS_bind (wpS_lift (wpAny_rule ⟨rfl, ?_⟩))
    refine wpS_bind (wpS_mono (wpS_forRange (I:=fun y c st''=>(∃g1,st''=zbr st g1)/\∃out na nb g ac bc,c=(none,na,nb,out,g,ac,bc)/\WayH kf a b out na nb/\1<=na/\2<=nb/\na<=a.size/\nb<=b.size/\na+nb+1<=na0+nb0)
     (Q:=fun c st''=>(∃g1,st''=zbr st g1)/\((∃r,c.1=some r/\Res kf a b r)∨∃out na nb g ac bc,c=(none,na,nb,out,g,ac,bc)/\WayH kf a b out na nb/\1<=na/\2<=nb/\na<=a.size/\nb<=b.size/\na+nb+1<=na0+nb0)) ?step2 ?fin2 ⟨⟨_,rfl⟩,_,_,_,_,_,_,rfl,w1,h11,h21,h11',h21',h31⟩) ?post2)
    case fin2=>
     rintro c st' ⟨hg,hc⟩
     exact⟨hg,.inr hc⟩
    case post2=>
     rintro c st' ⟨⟨g1,rfl⟩,⟨r,hc,hr⟩|⟨out2,na2,nb2,g2,ac2,bc2,rfl,w2,h12,h22,h12',h22',h32⟩⟩
     ·obtain ⟨c1,c2⟩:=c
      dsimp only at hc
      subst hc
      exact wpS_pure ⟨⟨_,rfl⟩,_,rfl,hr⟩
     ·dsimp only
      refine wpS_bind (wpS_modify ?_)
      exact wpS_pure ⟨⟨_,rfl⟩,_,_,_,_,rfl,w2,h12,h22,h12',h22',by (first|lia|omega)⟩
    case step2=>
     rintro y c st' _ hy ⟨⟨g1,rfl⟩,out,na,nb,g',ac',bc',rfl,w,h1,h2,h1',h2',h3⟩
     dsimp only
     have hpb:b[nb-1]? =some b[nb-1]:=Array.getElem?_eq_getElem (by (first|lia|omega))
     obtain⟨bx,hbx⟩:∃bx,bx=b[nb-1]:=⟨_,rfl⟩
     generalize g'-1=u
     revert u
     refine zdN ?_
     intro g3
     refine wpS_bind (wpS_modify ?_)
     refine wpS_bind (zap hpb ?_)
     refine wpS_bind (ziF C (st:=zbr st g3) hk oka (memb hpb) ha (by (first|lia|omega)) (by (first|lia|omega)) fun at_ hkn hle hgt=> ?_)
     have fA:∀q∈a.toList.take at_,O.kle (kf q) (kf b[nb-1]):=fun q hq=>by
      obtain⟨m,hm1,hm2⟩:=ziH hq
      exact hle m q hm1 (by rw[Nat.zero_add];exact hm2)
     dsimp only
     have wA:=w.manyA ha (n1:=at_) (by (first|lia|omega)) fun i p hi1 hi2 hp q hq=>by
      have g1:=hgt i p hi1 hi2 (by rw[Nat.zero_add];exact hp)
      exact KeyOrd.kle_trans (zbs hb hq hpb (by (first|lia|omega))) (KeyOrd.kle_of_klt g1)
     have hP:WayH kf a b (out++(a.extract at_ na).reverse) at_ nb/\(∀q∈a.toList.take at_,O.kle (kf q) (kf bx))/\at_<=na:=⟨wA,by rw[hbx];exact fA,by (first|lia|omega)⟩
     have hC0:(∀q∈a.toList.take na,O.kle (kf q) (kf bx))∨na-at_>0:=by
      rcases Nat.eq_zero_or_pos (na-at_) with z|z
      ·rw [show na=at_ by (first|lia|omega),hbx]
       exact .inl fA
      ·exact .inr z
     revert hP
     clear wA fA hle hgt hkn
     generalize hac:na-at_=ac at hC0 ⊢
     clear hac
     generalize out++(a.extract at_ na).reverse=o1
     revert at_ o1
     refine zdt (C:=fun o n1=>WayH kf a b o n1 nb/\(∀q∈a.toList.take n1,O.kle (kf q) (kf bx))/\n1≠0/\n1<=na) (fun n1 o1 hP _ e4=> ?_) (fun n1 o1 hP e4=> ?_) (fun ek=> ?_) ?_
     ·exact wpS_pure ⟨⟨_,rfl⟩,.inl ⟨_,rfl,hP.1.done hb (by simpa using e4)⟩⟩
     ·exact⟨hP.1,hP.2.1,by simpa using e4,hP.2.2⟩
     ·rcases hC0 with c1|c
      ·exact⟨w,c1,by (first|lia|omega),Nat.le_refl _⟩
      ·exact absurd c ek
     ·rintro o1 n1 ⟨wA,fA,e4',hn1⟩
      rw[hbx] at fA
      refine wpS_bind (zap hpb ?_)
      have wB:=(wA.flip.pushA hb (by (first|lia|omega)) hpb fA).flip
      by_cases e5:(nb-1==1)=true
      ·rw [if_pos e5]
       exact wpS_pure ⟨⟨_,rfl⟩,.inl ⟨_,rfl,hfirst wB (by simpa using e5)⟩⟩
      rw[if_neg e5]
      have e5':nb-1≠1:=by simpa using e5
      have hpa:a[n1-1]? =some a[n1-1]:=Array.getElem?_eq_getElem (by (first|lia|omega))
      refine wpS_bind (zap hpa ?_)
      refine wpS_bind (ziG C (st:=zbr st g3) hk okb (mema hpa) hb (by (first|lia|omega)) (by (first|lia|omega)) fun bt hbn hlt1 hge1=> ?_)
      dsimp only
      have fB:∀q∈b.toList.take bt,O.kle (kf q) (kf a[n1-1]):=fun q hq=>by
       obtain⟨m,hm1,hm2⟩:=ziH hq
       exact KeyOrd.kle_of_klt (hlt1 m q hm1 (by rw[Nat.zero_add];exact hm2))
      by_cases ek1:nb-1-bt>0
      ·rw [if_pos ek1]
       have wC:=(wB.flip.manyA hb (n1:=bt) (by (first|lia|omega)) fun i p hi1 hi2 hp q hq=>by
        have g1:=hge1 i p hi1 hi2 (by rw[Nat.zero_add];exact hp)
        exact KeyOrd.kle_trans (zbs ha hq hpa (by (first|lia|omega))) g1).flip
       by_cases e6:(bt==1)=true
       ·rw [if_pos e6]
        exact wpS_pure ⟨⟨_,rfl⟩,.inl ⟨_,rfl,hfirst wC (by simpa using e6)⟩⟩
       rw[if_neg e6]
       have e6':bt≠1:=by simpa using e6
       have e9:bt≠0:=fun hz9=>by
        have g1:=hge1 0 b[0] (by (first|lia|omega)) (by (first|lia|omega)) (by rw[Nat.zero_add];exact hb0)
        exact KeyOrd.not_klt_of_kle (KeyOrd.kle_trans (ha 0 (n1-1) _ _ (by (first|lia|omega)) ha0 hpa) g1) (h0 _ _ hb0 ha0)
       rw[if_neg (show ¬((bt==0)=true) by simpa using e9)]
       refine wpS_bind (zap hpa ?_)
       have wD:=wC.pushA ha (by (first|lia|omega)) hpa fB
       by_cases e7:(n1-1==0)=true
       ·rw [if_pos e7]
        exact wpS_pure ⟨⟨_,rfl⟩,.inl ⟨_,rfl,wD.done hb (by simpa using e7)⟩⟩
       rw[if_neg e7]
       have e7':n1-1≠0:=by simpa using e7
       by_cases e8:(decide (ac<7)&&decide (nb-1-bt<7))=true
       ·rw [if_pos e8]
        exact wpS_pure ⟨⟨_,rfl⟩,.inr ⟨_,_,_,_,_,_,rfl,wD,by (first|lia|omega),by (first|lia|omega),by (first|lia|omega),by (first|lia|omega),by (first|lia|omega)⟩⟩
       ·rw [if_neg e8]
        exact wpS_pure ⟨⟨_,rfl⟩,_,_,_,_,_,_,rfl,wD,by (first|lia|omega),by (first|lia|omega),by (first|lia|omega),by (first|lia|omega),by (first|lia|omega)⟩
      ·rw [if_neg ek1]
       have fB':∀q∈b.toList.take (nb-1),O.kle (kf q) (kf a[n1-1]):=by
        rw[show nb-1=bt by (first|lia|omega)]
        exact fB
       refine wpS_bind (zap hpa ?_)
       have wD:=wB.pushA ha (by (first|lia|omega)) hpa fB'
       by_cases e7:(n1-1==0)=true
       ·rw [if_pos e7]
        exact wpS_pure ⟨⟨_,rfl⟩,.inl ⟨_,rfl,wD.done hb (by simpa using e7)⟩⟩
       rw[if_neg e7]
       have e7':n1-1≠0:=by simpa using e7
       by_cases e8:(decide (ac<7)&&decide (nb-1-bt<7))=true
       ·rw [if_pos e8]
        exact wpS_pure ⟨⟨_,rfl⟩,.inr ⟨_,_,_,_,_,_,rfl,wD,by (first|lia|omega),by (first|lia|omega),by (first|lia|omega),by (first|lia|omega),by (first|lia|omega)⟩⟩
       ·rw [if_neg e8]
        exact wpS_pure ⟨⟨_,rfl⟩,_,_,_,_,_,_,rfl,wD,by (first|lia|omega),by (first|lia|omega),by (first|lia|omega),by (first|lia|omega),by (first|lia|omega)⟩
end
noncomputable def put (m:List Keyed)(at_:Nat)(a:Array Keyed):Array Keyed:=m.zipIdx.foldl (fun a pj=>a.setIfInBounds (at_+pj.2) pj.1) a
theorem zkK:∀(m:List Keyed) (k at_:Nat) (a:Array Keyed),at_+k+m.length<=a.size->
  ((m.zipIdx k).foldl (fun a pj=>a.setIfInBounds (at_+pj.2) pj.1) a).toList=a.toList.take (at_+k)++(m++a.toList.drop (at_+k+m.length))
 |[],k,at_,a,_=>by simp
 | p::m,k,at_,a,h=>by
  rw[List.zipIdx_cons,List.foldl_cons]
  have h':at_+(k+1)+m.length<=(a.setIfInBounds (at_+k) p).size:=by
   rw[Array.size_setIfInBounds]
   simp only[List.length_cons] at h
   (first|lia|omega)
  rw[zkK m (k+1) at_ _ h',Array.toList_setIfInBounds]
  simp only[List.length_cons] at h ⊢
  have hl:at_+k<a.toList.length:=by simp;(first|lia|omega)
  have e1:(a.toList.set (at_+k) p).take (at_+(k+1))=a.toList.take (at_+k)++[p]:=by
   rw[show at_+(k+1)=at_+k+1 by (first|lia|omega),List.take_succ,List.take_set_of_le (Nat.le_refl _),List.getElem?_set_self hl]
   rfl
  have e2:(a.toList.set (at_+k) p).drop (at_+(k+1)+m.length)=a.toList.drop (at_+k+(m.length+1)):=by
   rw[List.drop_set_of_lt (by (first|lia|omega))]
   congr 1
   (first|lia|omega)
  rw[e1,e2,List.append_assoc]
  rfl
theorem zgP {m:List Keyed}{at_:Nat}{a:Array Keyed}(h:at_+m.length<=a.size):(put m at_ a).toList=a.toList.take at_++(m++a.toList.drop (at_+m.length)):=by
 have:=zkK m 0 at_ a (by (first|lia|omega))
 rw[Nat.add_zero] at this
 exact this
section
variable {O:KeyOrd}{kf:Keyed->O.α}
theorem zkL {r arr:Array Keyed}{lo:Nat}(h:lo+r.size<=arr.size)(j:Nat):(put r.toList lo arr)[j]? =if lo<=j/\j<lo+r.size then r[j-lo]? else arr[j]? :=by
 have e:=zgP (m:=r.toList) (at_:=lo) (a:=arr) (by simpa using h)
 have g:(put r.toList lo arr)[j]? =(put r.toList lo arr).toList[j]? :=by simp
 have lt:(arr.toList.take lo).length=lo:=by simp;(first|lia|omega)
 have lr:r.toList.length=r.size:=by simp
 rw[g,e]
 by_cases h1:j<lo
 ·rw [if_neg (by (first|lia|omega)),List.getElem?_append_left (by rw[lt];exact h1),List.getElem?_take_of_lt h1]
  simp
 ·rw [List.getElem?_append_right (by rw[lt];(first|lia|omega)),lt]
  by_cases h2:j<lo+r.size
  ·rw [if_pos ⟨by (first|lia|omega),h2⟩,List.getElem?_append_left (by rw[lr];(first|lia|omega))]
   simp
  ·rw [if_neg (by (first|lia|omega)),List.getElem?_append_right (by rw[lr];(first|lia|omega)),List.getElem?_drop,lr,show lo+r.size+(j-lo-r.size)=j by (first|lia|omega)]
   simp
theorem zlz {r arr:Array Keyed}{sa lo hi sb:Nat}(hsz:r.size=hi-lo)(hlo:lo<=hi)(hsa:sa<=lo)(hhi:hi<=sb)(hin:sb<=arr.size)(ur:Up kf r.toList)
  (r1:RunUp kf arr sa lo) (r2:RunUp kf arr hi sb)
  (pre:∀i p,sa<=i->i<lo->arr[i]? =some p->∀q∈r.toList,O.kle (kf p) (kf q))
  (post:∀j q,hi<=j->j<sb->arr[j]? =some q->∀p∈r.toList,O.kle (kf p) (kf q))
  (far:∀i j p q,sa<=i->i<lo->hi<=j->j<sb->arr[i]? =some p->arr[j]? =some q->O.kle (kf p) (kf q)):RunUp kf (put r.toList lo arr) sa sb:=by
 intro i j p q h1 h2 h3 hp hq
 rw[zkL (by (first|lia|omega))] at hp hq
 have mem:∀{m:Nat} {p:Keyed},r[m]? =some p->p∈r.toList:=fun {m p} h=>List.mem_of_getElem? (i:=m) (by rw[<-h];simp)
 by_cases a1:lo<=i/\i<lo+r.size
 ·rw [if_pos a1] at hp
  by_cases a2:lo<=j/\j<lo+r.size
  ·rw [if_pos a2] at hq
   by_cases hij:i=j
   ·subst hij
    rw[hp] at hq
    cases hq
    exact KeyOrd.kle_refl _
   ·have l1:r.toList[i-lo]? =some p:=by rw[<-hp];simp
    have l2:r.toList[j-lo]? =some q:=by rw[<-hq];simp
    obtain⟨b1,c1⟩:=List.getElem?_eq_some_iff.mp l1
    obtain⟨b2,c2⟩:=List.getElem?_eq_some_iff.mp l2
    have:=List.pairwise_iff_getElem.mp ur (i-lo) (j-lo) b1 b2 (by (first|lia|omega))
    rw[c1,c2] at this
    exact this
  ·rw [if_neg a2] at hq
   exact post j q (by (first|lia|omega)) h3 hq p (mem hp)
 ·rw [if_neg a1] at hp
  by_cases a2:lo<=j/\j<lo+r.size
  ·rw [if_pos a2] at hq
   exact pre i p h1 (by (first|lia|omega)) hp q (mem hq)
  ·rw [if_neg a2] at hq
   by_cases b1:i<lo
   ·by_cases b2:j<lo
    ·exact r1 i j p q h1 h2 b2 hp hq
    ·exact far i j p q h1 b1 (by (first|lia|omega)) h3 hp hq
   ·exact r2 i j p q (by (first|lia|omega)) h2 h3 hp hq
theorem zeY {a:Array Keyed}{i j m:Nat}(hj:j<=a.size)(hm:m<j-i):(a.extract i j)[m]? =a[i+m]? :=by
 rw[Array.getElem?_extract_of_lt (by (first|lia|omega))]
 exact (Array.getElem?_eq_getElem _).symm
theorem zdu {a:Array Keyed}{i j:Nat}(hj:j<=a.size){q:Keyed}(h:q∈(a.extract i j).toList):∃m,i<=m/\m<j/\a[m]? =some q:=by
 obtain⟨m,hm⟩:=List.getElem?_of_mem h
 have hl:m<j-i:=by
  have:=(List.getElem?_eq_some_iff.mp hm).1
  simp at this
  (first|lia|omega)
 have:(a.extract i j)[m]? =some q:=by rw[<-hm];exact (Array.getElem?_toList).symm
 rw[zeY hj hl] at this
 exact⟨i+m,by (first|lia|omega),by (first|lia|omega),this⟩
theorem zkM {a:Array Keyed}{i j:Nat}(hj:j<=a.size)(h:RunUp kf a i j):KeysUp kf (a.extract i j):=by
 intro m n p q hmn hp hq
 have hl:n<j-i:=by
  have:=(Array.getElem?_eq_some_iff.mp hq).1
  simp at this
  (first|lia|omega)
 rw[zeY hj (by (first|lia|omega))] at hp
 rw[zeY hj hl] at hq
 exact h _ _ p q (by (first|lia|omega)) (by (first|lia|omega)) (by (first|lia|omega)) hp hq
theorem zj0 {r arr:Array Keyed}{lo mid hi:Nat}(h1:lo<=mid)(h2:mid<=hi)(h3:hi<=arr.size)(hr:r.toList.Perm ((arr.extract lo mid).toList++(arr.extract mid hi).toList)):(put r.toList lo arr).Perm arr:=by
 have hsz:r.toList.length=hi-lo:=by
  rw[hr.length_eq]
  simp
  (first|lia|omega)
 rw[Array.perm_iff_toList_perm,zgP (by (first|lia|omega)),hsz,show lo+(hi-lo)=hi by (first|lia|omega)]
 refine (List.Perm.append_left _ (List.Perm.append_right _ hr)).trans ?_
 have e1:=zcf arr lo (mid-lo)
 have e2:=zcf arr mid (hi-mid)
 rw[show lo+(mid-lo)=mid by (first|lia|omega)] at e1
 rw[show mid+(hi-mid)=hi by (first|lia|omega)] at e2
 rw[e1,e2,List.append_assoc,zec _ h2,zec _ h1,List.take_append_drop]
end
section
variable {M:Model}{A:Around}{E:Value->Shared->Prop}{s:Shared}{O:KeyOrd}{kf:Keyed->O.α}{okk:Keyed->Prop}{kd:SortKind}
noncomputable def ka (kf:Keyed->O.α)(a:Array Keyed)(i:Nat):O.α:=kf (a[i]?.getD (.none,.none))
theorem zcA {a b:Array Keyed}{i j:Nat}(h:a[i]? =b[j]?):ka kf a i=ka kf b j:=by
 unfold ka
 rw[h]
theorem zj1 {a:Array Keyed}{i:Nat}{p:Keyed}(h:a[i]? =some p):ka kf a i=kf p:=by
 unfold ka
 rw[h]
 rfl
theorem zcB {a:Array Keyed}{i j:Nat}(hj:j<=a.size)(k:Nat):ka kf (mirror a i j ((j-i)/2)) k=if i<=k/\k<j then ka kf a (i+j-1-k) else ka kf a k:=by
 have e:=getElem?_mirror_all (i:=i) hj k
 by_cases c:i<=k/\k<j
 ·rw [if_pos c] at e ⊢
  exact zcA e
 ·rw [if_neg c] at e ⊢
  exact zcA e
theorem zbl {a:Array Keyed}{i j:Nat}(hj:j<=a.size)(he:∀k,i<=k->k<j->ka kf a k=ka kf a (j-1))(k:Nat):ka kf (mirror a i j ((j-i)/2)) k=ka kf a k:=by
 rw[zcB hj]
 by_cases c:i<=k/\k<j
 ·rw[if_pos c,he _ (by (first|lia|omega)) (by (first|lia|omega)),he k c.1 c.2]
 ·rw[if_neg c]
theorem zkN {a:Array Keyed}{src d:Nat}(hs:src<a.size)(hd:d<=src)(k:Nat):ka kf (bubble a src d) k=if k=src-d then ka kf a src else if src-d<k/\k<=src then ka kf a (k-1) else ka kf a k:=by
 have e:=getElem?_bubble hs d hd k
 by_cases c:k=src-d
 ·rw [if_pos c] at e ⊢
  exact zcA e
 ·rw [if_neg c] at e ⊢
  by_cases c2:src-d<k/\k<=src
  ·rw [if_pos c2] at e ⊢
   exact zcA e
  ·rw [if_neg c2] at e ⊢
   exact zcA e
noncomputable def Sd (kf:Keyed->O.α)(a:Array Keyed)(lo n:Nat):Prop:=∀i j,i<=j->j<n->O.kle (ka kf a (lo+i)) (ka kf a (lo+j))
noncomputable def Fd (kf:Keyed->O.α)(a:Array Keyed)(lo n:Nat):Prop:=∀i j,i<=j->j<n->O.kle (ka kf a (lo+j)) (ka kf a (lo+i))
theorem Sd.one {a:Array Keyed}{lo:Nat}:Sd kf a lo 1:=fun i j h1 h2=>by
 have:i=j:=by (first|lia|omega)
 subst this
 exact KeyOrd.kle_refl _
theorem Sd.more {a:Array Keyed}{lo n:Nat}(h:Sd kf a lo n)(h1:1<=n)(e:O.kle (ka kf a (lo+n-1)) (ka kf a (lo+n))):Sd kf a lo (n+1):=fun i j hij hj=>by
 by_cases c:j<n
 ·exact h i j hij c
 ·have hj':j=n:=by (first|lia|omega)
  subst hj'
  by_cases ci:i=j
  ·subst ci
   exact KeyOrd.kle_refl _
  ·have:=h i (j-1) (by (first|lia|omega)) (by (first|lia|omega))
   rw[show lo+(j-1)=lo+j-1 by (first|lia|omega)] at this
   exact KeyOrd.kle_trans this e
theorem Fd.more {a:Array Keyed}{lo n:Nat}(h:Fd kf a lo n)(h1:1<=n)(e:O.kle (ka kf a (lo+n)) (ka kf a (lo+n-1))):Fd kf a lo (n+1):=fun i j hij hj=>by
 by_cases c:j<n
 ·exact h i j hij c
 ·have hj':j=n:=by (first|lia|omega)
  subst hj'
  by_cases ci:i=j
  ·subst ci
   exact KeyOrd.kle_refl _
  ·have:=h i (j-1) (by (first|lia|omega)) (by (first|lia|omega))
   rw[show lo+(j-1)=lo+j-1 by (first|lia|omega)] at this
   exact KeyOrd.kle_trans e this
structure Wk (kd:SortKind) (a0:Array Keyed) (lo:Nat) (pd:Array (Nat×Nat×Nat)) (st:SortSt):Prop where
 perm:(arrOf st).Perm a0
 kind:kindOf st=kd
 failed:failedOf st=none
 pend:pendingOf st=pd
 pre:∀i,i<lo->(arrOf st)[i]? =a0[i]?
variable {a0:Array Keyed}{lo:Nat}{pd:Array (Nat×Nat×Nat)}{st:SortSt}
theorem Wk.size (B:Wk kd a0 lo pd st):(arrOf st).size=a0.size:=B.perm.size_eq
theorem Wk.mir (B:Wk kd a0 lo pd st){i j:Nat}(h1:lo<=i)(h2:j<=a0.size):Wk kd a0 lo pd (setArr st (mirror (arrOf st) i j ((j-i)/2))):=by
 refine⟨(mirror_perm _ _ _ _).trans B.perm,B.kind,B.failed,B.pend,fun k hk=> ?_⟩
 show (mirror (arrOf st) i j ((j-i)/2))[k]? =_
 rw[getElem?_mirror_all (by rw[B.size];exact h2),if_neg (by (first|lia|omega))]
 exact B.pre k hk
theorem Wk.bub (B:Wk kd a0 lo pd st){src d:Nat}(h1:lo+d<=src)(h2:src<a0.size):Wk kd a0 lo pd (setArr st (bubble (arrOf st) src d)):=by
 refine⟨(bubble_perm _ _ _).trans B.perm,B.kind,B.failed,B.pend,fun k hk=> ?_⟩
 show (bubble (arrOf st) src d)[k]? =_
 rw[getElem?_bubble (by rw[B.size];exact h2) d (by (first|lia|omega)),if_neg (by (first|lia|omega)),if_neg (by (first|lia|omega))]
 exact B.pre k hk
theorem Wk.ok (B:Wk kd a0 lo pd st)(ok:∀p∈a0.toList,okk p){i:Nat}{p:Keyed}(h:(arrOf st)[i]? =some p):okk p:=by
 refine ok p ((Array.perm_iff_toList_perm.mp B.perm).mem_iff.mp (List.mem_of_getElem? (i:=i) ?_))
 rw[<-h]
 simp
theorem ltA (C:Cmp M A E s kd O kf okk)(ok:∀p∈a0.toList,okk p)(B:Wk kd a0 lo pd st){i j:Nat}(hi:i<a0.size)(hj:j<a0.size){Q:Option Bool->SortSt->Prop}(h:Q (some (O.blt (ka kf (arrOf st) i) (ka kf (arrOf st) j))) st):wpS M A E s (ltAt' i j) Q st:=by
 obtain⟨p1,e1⟩:∃p,(arrOf st)[i]? =some p:=⟨_,Array.getElem?_eq_getElem (by rw[B.size];exact hi)⟩
 obtain⟨p2,e2⟩:∃p,(arrOf st)[j]? =some p:=⟨_,Array.getElem?_eq_getElem (by rw[B.size];exact hj)⟩
 rw[zj1 e1,zj1 e2] at h
 rw[ltAt'_eq]
 refine wpS_bind (wpS_get ?_)
 refine wpS_bind (zap e1 ?_)
 refine wpS_bind (zap e2 ?_)
 exact C.lt _ _ st _ (B.ok ok e1) (B.ok ok e2) B.kind h
theorem revA {i j:Nat}{Q:Unit->SortSt->Prop}(h:Q () (setArr st (mirror (arrOf st) i j ((j-i)/2)))):wpS M A E s (reverseSlice' i j) Q st:=by
 rw[reverseSlice'_eq]
 exact wpS_modify h
end
section
variable {M:Model}{A:Around}{E:Value->Shared->Prop}{s:Shared}{O:KeyOrd}{kf:Keyed->O.α}{okk:Keyed->Prop}{kd:SortKind}{a0:Array Keyed}{lo:Nat}{pd:Array (Nat×Nat×Nat)}{st:SortSt}
theorem zmE (C:Cmp M A E s kd O kf okk)(ok:∀p∈a0.toList,okk p)(B:Wk kd a0 lo pd st){nrem:Nat}(hn:lo+nrem<=a0.size)(h1:1<=nrem){Q:Option Nat->SortSt->Prop}
  (h:∀m st',Wk kd a0 lo pd st'->1<=m->m<=nrem->Sd kf (arrOf st') lo m->Q (some m) st'):wpS M A E s (countRun' lo nrem) Q st:=by
 unfold countRun'
 refine wpS_bind (wpS_mono (wpS_forRange (I:=fun x c st'=>st'=st/\c=(none,x)/\Sd kf (arrOf st) lo x) (Q:=fun c st'=>st'=st/\∃n,c=(none,n)/\1<=n/\n<=nrem/\Sd kf (arrOf st) lo n/\(n=nrem∨O.klt (ka kf (arrOf st) (lo+n)) (ka kf (arrOf st) (lo+n-1)))) ?step ?fin ⟨rfl,rfl,Sd.one⟩) ?post)
 case fin=>
  rintro c st' ⟨rfl,rfl,hs⟩
  rw[show max 1 nrem=nrem by (first|lia|omega)] at hs ⊢
  exact⟨rfl,nrem,rfl,h1,Nat.le_refl _,hs,.inl rfl⟩
 case step=>
  rintro x c st' hx1 hx2 ⟨rfl,rfl,hs⟩
  dsimp only
  refine wpS_bind (ltA C ok B (by (first|lia|omega)) (by (first|lia|omega)) ?_)
  cases hb:O.blt (ka kf (arrOf st') (lo+x)) (ka kf (arrOf st') (lo+x-1)) with
  |true=>
   dsimp only
   rw[if_pos rfl]
   exact wpS_pure ⟨rfl,x,rfl,hx1,by (first|lia|omega),hs,.inr hb⟩
  |false=>
   dsimp only
   rw[if_neg (by decide)]
   exact wpS_pure ⟨rfl,rfl,hs.more hx1 hb⟩
 case post=>
  rintro c st' ⟨rfl,n,rfl,hn1,hn2,hs,hor⟩
  dsimp only
  by_cases hnn:n=nrem
  ·rw [if_pos (by simpa using hnn)]
   exact wpS_pure (h n st' B hn1 hn2 hs)
  rw[if_neg (by simpa using hnn)]
  have hlt:=hor.resolve_left hnn
  by_cases hgt:n>1
  ·rw [if_pos hgt]
   refine wpS_bind (ltA C ok B (by (first|lia|omega)) (by (first|lia|omega)) ?_)
   cases hr:O.blt (ka kf (arrOf st') lo) (ka kf (arrOf st') (lo+n-1)) with
   |true=>
    dsimp only
    rw[if_pos rfl]
    exact wpS_pure (h n st' B hn1 hn2 hs)
   | false=>
    dsimp only
    rw[if_neg (by decide)]
    refine wpS_bind (revA ?_)
    have hall:∀k,lo<=k->k<lo+n->ka kf (arrOf st') k=ka kf (arrOf st') (lo+n-1):=fun k k1 k2=>by
     have a1:=hs 0 (k-lo) (by (first|lia|omega)) (by (first|lia|omega))
     have a2:=hs (k-lo) (n-1) (by (first|lia|omega)) (by (first|lia|omega))
     rw[show lo+(k-lo)=k by (first|lia|omega)] at a1 a2
     rw[show lo+(n-1)=lo+n-1 by (first|lia|omega)] at a2
     rw[Nat.add_zero] at a1
     exact KeyOrd.kle_antisymm a2 (KeyOrd.kle_trans hr a1)
    have BB:=B.mir (i:=lo) (j:=lo+n) (Nat.le_refl _) (by (first|lia|omega))
    have hF:Fd kf (arrOf (setArr st' (mirror (arrOf st') lo (lo+n) ((lo+n-lo)/2)))) lo (n+1):=by
     intro i j hij hj
     show O.kle (ka kf (mirror (arrOf st') lo (lo+n) ((lo+n-lo)/2)) _) (ka kf (mirror (arrOf st') lo (lo+n) ((lo+n-lo)/2)) _)
     rw[zbl (by rw[B.size];(first|lia|omega)) hall,zbl (by rw[B.size];(first|lia|omega)) hall]
     by_cases c:j<n
     ·rw [hall (lo+i) (by (first|lia|omega)) (by (first|lia|omega)),hall (lo+j) (by (first|lia|omega)) (by (first|lia|omega))]
      exact KeyOrd.kle_refl _
     ·have ej:j=n:=by (first|lia|omega)
      subst ej
      by_cases ci:i=j
      ·subst ci
       exact KeyOrd.kle_refl _
      ·rw [hall (lo+i) (by (first|lia|omega)) (by (first|lia|omega))]
       exact KeyOrd.kle_of_klt hlt
    generalize setArr st' (mirror (arrOf st') lo (lo+n) ((lo+n-lo)/2))=st2 at BB hF ⊢
    clear hall hr
    refine wpS_bind (wpS_lift (wpAny_rule ⟨rfl, ?_⟩))
    refine wpS_bind (wpS_mono (wpS_forRange (I:=fun x c st3=>∃neq,c=(none,x,neq)/\Wk kd a0 lo pd st3/\Fd kf (arrOf st3) lo x/\neq+1<=x/\(∀i,lo+x-(neq+1)<=i->i<lo+x->ka kf (arrOf st3) i=ka kf (arrOf st3) (lo+x-1))) (Q:=fun c st3=>∃m neq,c=(none,m,neq)/\Wk kd a0 lo pd st3/\n+1<=m/\m<=nrem/\Fd kf (arrOf st3) lo m/\neq+1<=m/\(∀i,lo+m-(neq+1)<=i->i<lo+m->ka kf (arrOf st3) i=ka kf (arrOf st3) (lo+m-1))) ?step2 ?fin2 ⟨0,rfl,BB,hF,by (first|lia|omega),fun i _ _=>by congr 1;(first|lia|omega)⟩) ?post2)
    case fin2=>
     rintro c st3 ⟨neq,rfl,B3,F3,hq,he⟩
     rw[show max (n+1) nrem=nrem by (first|lia|omega)] at F3 hq he ⊢
     exact⟨nrem,neq,rfl,B3,by (first|lia|omega),Nat.le_refl _,F3,hq,he⟩
    case step2=>
     rintro x c st3 hx1 hx2 ⟨neq,rfl,B3,F3,hq,he⟩
     dsimp only
     have hsz:lo+x<=(arrOf st3).size:=by rw[B3.size];(first|lia|omega)
     refine wpS_bind (ltA C ok B3 (by (first|lia|omega)) (by (first|lia|omega)) ?_)
     cases hb:O.blt (ka kf (arrOf st3) (lo+x)) (ka kf (arrOf st3) (lo+x-1)) with
     | true=>
      dsimp only
      rw[if_pos rfl]
      have F4:=F3.more (by (first|lia|omega)) (KeyOrd.kle_of_klt hb)
      by_cases hneq:neq>0
      ·rw [if_pos hneq]
       refine wpS_bind (revA (wpS_pure ⟨0,rfl,B3.mir (by (first|lia|omega)) (by (first|lia|omega)),fun i j hij hj=> ?_,by (first|lia|omega),fun i _ _=>by congr 1;(first|lia|omega)⟩))
       show O.kle (ka kf (mirror (arrOf st3) _ _ _) _) (ka kf (mirror (arrOf st3) _ _ _) _)
       rw[zbl hsz he,zbl hsz he]
       exact F4 i j hij hj
      ·rw [if_neg hneq]
       exact wpS_pure ⟨0,rfl,B3,F4,by (first|lia|omega),fun i _ _=>by congr 1;(first|lia|omega)⟩
     | false=>
      dsimp only
      rw[if_neg (by decide)]
      refine wpS_bind (ltA C ok B3 (by (first|lia|omega)) (by (first|lia|omega)) ?_)
      cases hb2:O.blt (ka kf (arrOf st3) (lo+x-1)) (ka kf (arrOf st3) (lo+x)) with
      |true=>
       dsimp only
       rw[if_pos rfl]
       exact wpS_pure ⟨x,neq,rfl,B3,by (first|lia|omega),by (first|lia|omega),F3,hq,he⟩
      | false=>
       dsimp only
       rw[if_neg (by decide)]
       have ex:ka kf (arrOf st3) (lo+x)=ka kf (arrOf st3) (lo+x-1):=O.total _ _ hb hb2
       refine wpS_pure ⟨neq+1,rfl,B3,F3.more (by (first|lia|omega)) hb2,by (first|lia|omega),fun i i1 i2=> ?_⟩
       rw[show lo+(x+1)-1=lo+x by (first|lia|omega)]
       by_cases ci:i=lo+x
       ·rw[ci]
       ·rw [ex]
        exact he i (by (first|lia|omega)) (by (first|lia|omega))
    case post2=>
     rintro c st3 ⟨m,neq,rfl,B3,hm1,hm2,F3,hq,he⟩
     dsimp only
     have hsz:lo+m<=(arrOf st3).size:=by rw[B3.size];(first|lia|omega)
     by_cases hneq:neq>0
     ·rw [if_pos hneq]
      refine wpS_bind (revA ?_)
      have B4:=B3.mir (i:=lo+m-(neq+1)) (j:=lo+m) (by (first|lia|omega)) (by (first|lia|omega))
      have F4:Fd kf (arrOf (setArr st3 (mirror (arrOf st3) (lo+m-(neq+1)) (lo+m) ((lo+m-(lo+m-(neq+1)))/2)))) lo m:=fun i j hij hj=>by
       show O.kle (ka kf (mirror (arrOf st3) _ _ _) _) (ka kf (mirror (arrOf st3) _ _ _) _)
       rw[zbl hsz he,zbl hsz he]
       exact F3 i j hij hj
      generalize setArr st3 (mirror (arrOf st3) (lo+m-(neq+1)) (lo+m) ((lo+m-(lo+m-(neq+1)))/2))=st4 at B4 F4 ⊢
      refine wpS_bind (revA ?_)
      have B5:=B4.mir (i:=lo) (j:=lo+m) (Nat.le_refl _) (by (first|lia|omega))
      have S5:Sd kf (arrOf (setArr st4 (mirror (arrOf st4) lo (lo+m) ((lo+m-lo)/2)))) lo m:=fun i j hij hj=>by
       show O.kle (ka kf (mirror (arrOf st4) _ _ _) _) (ka kf (mirror (arrOf st4) _ _ _) _)
       rw[zcB (by rw[B4.size];(first|lia|omega)),zcB (by rw[B4.size];(first|lia|omega)),if_pos (by (first|lia|omega)),if_pos (by (first|lia|omega)),show lo+(lo+m)-1-(lo+i)=lo+(m-1-i) by (first|lia|omega),show lo+(lo+m)-1-(lo+j)=lo+(m-1-j) by (first|lia|omega)]
       exact F4 _ _ (by (first|lia|omega)) (by (first|lia|omega))
      generalize setArr st4 (mirror (arrOf st4) lo (lo+m) ((lo+m-lo)/2))=st5 at B5 S5 ⊢
      refine wpS_bind (wpS_mono (wpS_forRange (I:=fun x c st6=>st6=st5/\c=(none,x)/\Sd kf (arrOf st5) lo x) (Q:=fun c st6=>st6=st5/\∃k,c=(none,k)/\1<=k/\k<=nrem/\Sd kf (arrOf st5) lo k) ?step3 ?fin3 ⟨rfl,rfl,S5⟩) ?post3)
      case fin3=>
       rintro c st6 ⟨rfl,rfl,hs6⟩
       rw[show max m nrem=nrem by (first|lia|omega)] at hs6 ⊢
       exact⟨rfl,nrem,rfl,by (first|lia|omega),Nat.le_refl _,hs6⟩
      case step3=>
       rintro x c st6 hx1 hx2 ⟨rfl,rfl,hs6⟩
       dsimp only
       refine wpS_bind (ltA C ok B5 (by (first|lia|omega)) (by (first|lia|omega)) ?_)
       cases hb:O.blt (ka kf (arrOf st6) (lo+x)) (ka kf (arrOf st6) (lo+x-1)) with
       |true=>
        dsimp only
        rw[if_pos rfl]
        exact wpS_pure ⟨rfl,x,rfl,by (first|lia|omega),by (first|lia|omega),hs6⟩
       |false=>
        dsimp only
        rw[if_neg (by decide)]
        exact wpS_pure ⟨rfl,rfl,hs6.more (by (first|lia|omega)) hb⟩
      case post3=>
       rintro c st6 ⟨rfl,k,rfl,hk1,hk2,hs6⟩
       exact wpS_pure (h k _ B5 hk1 hk2 hs6)
     ·rw [if_neg hneq]
      have B4:=B3
      have F4:=F3
      generalize st3=st4 at B4 F4 ⊢
      refine wpS_bind (revA ?_)
      have B5:=B4.mir (i:=lo) (j:=lo+m) (Nat.le_refl _) (by (first|lia|omega))
      have S5:Sd kf (arrOf (setArr st4 (mirror (arrOf st4) lo (lo+m) ((lo+m-lo)/2)))) lo m:=fun i j hij hj=>by
       show O.kle (ka kf (mirror (arrOf st4) _ _ _) _) (ka kf (mirror (arrOf st4) _ _ _) _)
       rw[zcB (by rw[B4.size];(first|lia|omega)),zcB (by rw[B4.size];(first|lia|omega)),if_pos (by (first|lia|omega)),if_pos (by (first|lia|omega)),show lo+(lo+m)-1-(lo+i)=lo+(m-1-i) by (first|lia|omega),show lo+(lo+m)-1-(lo+j)=lo+(m-1-j) by (first|lia|omega)]
       exact F4 _ _ (by (first|lia|omega)) (by (first|lia|omega))
      generalize setArr st4 (mirror (arrOf st4) lo (lo+m) ((lo+m-lo)/2))=st5 at B5 S5 ⊢
      refine wpS_bind (wpS_mono (wpS_forRange (I:=fun x c st6=>st6=st5/\c=(none,x)/\Sd kf (arrOf st5) lo x) (Q:=fun c st6=>st6=st5/\∃k,c=(none,k)/\1<=k/\k<=nrem/\Sd kf (arrOf st5) lo k) ?step3 ?fin3 ⟨rfl,rfl,S5⟩) ?post3)
      case fin3=>
       rintro c st6 ⟨rfl,rfl,hs6⟩
       rw[show max m nrem=nrem by (first|lia|omega)] at hs6 ⊢
       exact⟨rfl,nrem,rfl,by (first|lia|omega),Nat.le_refl _,hs6⟩
      case step3=>
       rintro x c st6 hx1 hx2 ⟨rfl,rfl,hs6⟩
       dsimp only
       refine wpS_bind (ltA C ok B5 (by (first|lia|omega)) (by (first|lia|omega)) ?_)
       cases hb:O.blt (ka kf (arrOf st6) (lo+x)) (ka kf (arrOf st6) (lo+x-1)) with
       |true=>
        dsimp only
        rw[if_pos rfl]
        exact wpS_pure ⟨rfl,x,rfl,by (first|lia|omega),by (first|lia|omega),hs6⟩
       |false=>
        dsimp only
        rw[if_neg (by decide)]
        exact wpS_pure ⟨rfl,rfl,hs6.more (by (first|lia|omega)) hb⟩
      case post3=>
       rintro c st6 ⟨rfl,k,rfl,hk1,hk2,hs6⟩
       exact wpS_pure (h k _ B5 hk1 hk2 hs6)
  ·rw [if_neg hgt]
   have BB:=B
   have hF:Fd kf (arrOf st') lo (n+1):=by
    have e1:n=1:=by (first|lia|omega)
    subst e1
    intro i j hij hj
    by_cases ci:i=j
    ·subst ci
     exact KeyOrd.kle_refl _
    ·have ei:i=0:=by (first|lia|omega)
     have ej:j=1:=by (first|lia|omega)
     subst ei ej
     exact KeyOrd.kle_of_klt hlt
   generalize st'=st2 at BB hF ⊢
   refine wpS_bind (wpS_lift (wpAny_rule ⟨rfl, ?_⟩))
   refine wpS_bind (wpS_mono (wpS_forRange (I:=fun x c st3=>∃neq,c=(none,x,neq)/\Wk kd a0 lo pd st3/\Fd kf (arrOf st3) lo x/\neq+1<=x/\(∀i,lo+x-(neq+1)<=i->i<lo+x->ka kf (arrOf st3) i=ka kf (arrOf st3) (lo+x-1))) (Q:=fun c st3=>∃m neq,c=(none,m,neq)/\Wk kd a0 lo pd st3/\n+1<=m/\m<=nrem/\Fd kf (arrOf st3) lo m/\neq+1<=m/\(∀i,lo+m-(neq+1)<=i->i<lo+m->ka kf (arrOf st3) i=ka kf (arrOf st3) (lo+m-1))) ?step2 ?fin2 ⟨0,rfl,BB,hF,by (first|lia|omega),fun i _ _=>by congr 1;(first|lia|omega)⟩) ?post2)
   case fin2=>
    rintro c st3 ⟨neq,rfl,B3,F3,hq,he⟩
    rw[show max (n+1) nrem=nrem by (first|lia|omega)] at F3 hq he ⊢
    exact⟨nrem,neq,rfl,B3,by (first|lia|omega),Nat.le_refl _,F3,hq,he⟩
   case step2=>
    rintro x c st3 hx1 hx2 ⟨neq,rfl,B3,F3,hq,he⟩
    dsimp only
    have hsz:lo+x<=(arrOf st3).size:=by rw[B3.size];(first|lia|omega)
    refine wpS_bind (ltA C ok B3 (by (first|lia|omega)) (by (first|lia|omega)) ?_)
    cases hb:O.blt (ka kf (arrOf st3) (lo+x)) (ka kf (arrOf st3) (lo+x-1)) with
    | true=>
     dsimp only
     rw[if_pos rfl]
     have F4:=F3.more (by (first|lia|omega)) (KeyOrd.kle_of_klt hb)
     by_cases hneq:neq>0
     ·rw [if_pos hneq]
      refine wpS_bind (revA (wpS_pure ⟨0,rfl,B3.mir (by (first|lia|omega)) (by (first|lia|omega)),fun i j hij hj=> ?_,by (first|lia|omega),fun i _ _=>by congr 1;(first|lia|omega)⟩))
      show O.kle (ka kf (mirror (arrOf st3) _ _ _) _) (ka kf (mirror (arrOf st3) _ _ _) _)
      rw[zbl hsz he,zbl hsz he]
      exact F4 i j hij hj
     ·rw [if_neg hneq]
      exact wpS_pure ⟨0,rfl,B3,F4,by (first|lia|omega),fun i _ _=>by congr 1;(first|lia|omega)⟩
    | false=>
     dsimp only
     rw[if_neg (by decide)]
     refine wpS_bind (ltA C ok B3 (by (first|lia|omega)) (by (first|lia|omega)) ?_)
     cases hb2:O.blt (ka kf (arrOf st3) (lo+x-1)) (ka kf (arrOf st3) (lo+x)) with
     |true=>
      dsimp only
      rw[if_pos rfl]
      exact wpS_pure ⟨x,neq,rfl,B3,by (first|lia|omega),by (first|lia|omega),F3,hq,he⟩
     | false=>
      dsimp only
      rw[if_neg (by decide)]
      have ex:ka kf (arrOf st3) (lo+x)=ka kf (arrOf st3) (lo+x-1):=O.total _ _ hb hb2
      refine wpS_pure ⟨neq+1,rfl,B3,F3.more (by (first|lia|omega)) hb2,by (first|lia|omega),fun i i1 i2=> ?_⟩
      rw[show lo+(x+1)-1=lo+x by (first|lia|omega)]
      by_cases ci:i=lo+x
      ·rw[ci]
      ·rw [ex]
       exact he i (by (first|lia|omega)) (by (first|lia|omega))
   case post2=>
    rintro c st3 ⟨m,neq,rfl,B3,hm1,hm2,F3,hq,he⟩
    dsimp only
    have hsz:lo+m<=(arrOf st3).size:=by rw[B3.size];(first|lia|omega)
    by_cases hneq:neq>0
    ·rw [if_pos hneq]
     refine wpS_bind (revA ?_)
     have B4:=B3.mir (i:=lo+m-(neq+1)) (j:=lo+m) (by (first|lia|omega)) (by (first|lia|omega))
     have F4:Fd kf (arrOf (setArr st3 (mirror (arrOf st3) (lo+m-(neq+1)) (lo+m) ((lo+m-(lo+m-(neq+1)))/2)))) lo m:=fun i j hij hj=>by
      show O.kle (ka kf (mirror (arrOf st3) _ _ _) _) (ka kf (mirror (arrOf st3) _ _ _) _)
      rw[zbl hsz he,zbl hsz he]
      exact F3 i j hij hj
     generalize setArr st3 (mirror (arrOf st3) (lo+m-(neq+1)) (lo+m) ((lo+m-(lo+m-(neq+1)))/2))=st4 at B4 F4 ⊢
     refine wpS_bind (revA ?_)
     have B5:=B4.mir (i:=lo) (j:=lo+m) (Nat.le_refl _) (by (first|lia|omega))
     have S5:Sd kf (arrOf (setArr st4 (mirror (arrOf st4) lo (lo+m) ((lo+m-lo)/2)))) lo m:=fun i j hij hj=>by
      show O.kle (ka kf (mirror (arrOf st4) _ _ _) _) (ka kf (mirror (arrOf st4) _ _ _) _)
      rw[zcB (by rw[B4.size];(first|lia|omega)),zcB (by rw[B4.size];(first|lia|omega)),if_pos (by (first|lia|omega)),if_pos (by (first|lia|omega)),show lo+(lo+m)-1-(lo+i)=lo+(m-1-i) by (first|lia|omega),show lo+(lo+m)-1-(lo+j)=lo+(m-1-j) by (first|lia|omega)]
      exact F4 _ _ (by (first|lia|omega)) (by (first|lia|omega))
     generalize setArr st4 (mirror (arrOf st4) lo (lo+m) ((lo+m-lo)/2))=st5 at B5 S5 ⊢
     refine wpS_bind (wpS_mono (wpS_forRange (I:=fun x c st6=>st6=st5/\c=(none,x)/\Sd kf (arrOf st5) lo x) (Q:=fun c st6=>st6=st5/\∃k,c=(none,k)/\1<=k/\k<=nrem/\Sd kf (arrOf st5) lo k) ?step3 ?fin3 ⟨rfl,rfl,S5⟩) ?post3)
     case fin3=>
      rintro c st6 ⟨rfl,rfl,hs6⟩
      rw[show max m nrem=nrem by (first|lia|omega)] at hs6 ⊢
      exact⟨rfl,nrem,rfl,by (first|lia|omega),Nat.le_refl _,hs6⟩
     case step3=>
      rintro x c st6 hx1 hx2 ⟨rfl,rfl,hs6⟩
      dsimp only
      refine wpS_bind (ltA C ok B5 (by (first|lia|omega)) (by (first|lia|omega)) ?_)
      cases hb:O.blt (ka kf (arrOf st6) (lo+x)) (ka kf (arrOf st6) (lo+x-1)) with
      |true=>
       dsimp only
       rw[if_pos rfl]
       exact wpS_pure ⟨rfl,x,rfl,by (first|lia|omega),by (first|lia|omega),hs6⟩
      |false=>
       dsimp only
       rw[if_neg (by decide)]
       exact wpS_pure ⟨rfl,rfl,hs6.more (by (first|lia|omega)) hb⟩
     case post3=>
      rintro c st6 ⟨rfl,k,rfl,hk1,hk2,hs6⟩
      exact wpS_pure (h k _ B5 hk1 hk2 hs6)
    ·rw [if_neg hneq]
     have B4:=B3
     have F4:=F3
     generalize st3=st4 at B4 F4 ⊢
     refine wpS_bind (revA ?_)
     have B5:=B4.mir (i:=lo) (j:=lo+m) (Nat.le_refl _) (by (first|lia|omega))
     have S5:Sd kf (arrOf (setArr st4 (mirror (arrOf st4) lo (lo+m) ((lo+m-lo)/2)))) lo m:=fun i j hij hj=>by
      show O.kle (ka kf (mirror (arrOf st4) _ _ _) _) (ka kf (mirror (arrOf st4) _ _ _) _)
      rw[zcB (by rw[B4.size];(first|lia|omega)),zcB (by rw[B4.size];(first|lia|omega)),if_pos (by (first|lia|omega)),if_pos (by (first|lia|omega)),show lo+(lo+m)-1-(lo+i)=lo+(m-1-i) by (first|lia|omega),show lo+(lo+m)-1-(lo+j)=lo+(m-1-j) by (first|lia|omega)]
      exact F4 _ _ (by (first|lia|omega)) (by (first|lia|omega))
     generalize setArr st4 (mirror (arrOf st4) lo (lo+m) ((lo+m-lo)/2))=st5 at B5 S5 ⊢
     refine wpS_bind (wpS_mono (wpS_forRange (I:=fun x c st6=>st6=st5/\c=(none,x)/\Sd kf (arrOf st5) lo x) (Q:=fun c st6=>st6=st5/\∃k,c=(none,k)/\1<=k/\k<=nrem/\Sd kf (arrOf st5) lo k) ?step3 ?fin3 ⟨rfl,rfl,S5⟩) ?post3)
     case fin3=>
      rintro c st6 ⟨rfl,rfl,hs6⟩
      rw[show max m nrem=nrem by (first|lia|omega)] at hs6 ⊢
      exact⟨rfl,nrem,rfl,by (first|lia|omega),Nat.le_refl _,hs6⟩
     case step3=>
      rintro x c st6 hx1 hx2 ⟨rfl,rfl,hs6⟩
      dsimp only
      refine wpS_bind (ltA C ok B5 (by (first|lia|omega)) (by (first|lia|omega)) ?_)
      cases hb:O.blt (ka kf (arrOf st6) (lo+x)) (ka kf (arrOf st6) (lo+x-1)) with
      |true=>
       dsimp only
       rw[if_pos rfl]
       exact wpS_pure ⟨rfl,x,rfl,by (first|lia|omega),by (first|lia|omega),hs6⟩
      |false=>
       dsimp only
       rw[if_neg (by decide)]
       exact wpS_pure ⟨rfl,rfl,hs6.more (by (first|lia|omega)) hb⟩
     case post3=>
      rintro c st6 ⟨rfl,k,rfl,hk1,hk2,hs6⟩
      exact wpS_pure (h k _ B5 hk1 hk2 hs6)
theorem binA (C:Cmp M A E s kd O kf okk)(ok:∀p∈a0.toList,okk p)(B:Wk kd a0 lo pd st){n m:Nat}(hn:lo+n<=a0.size)(hm:m<=n)(hs:Sd kf (arrOf st) lo m){Q:Bool->SortSt->Prop}
  (h:∀st',Wk kd a0 lo pd st'->Sd kf (arrOf st') lo n->Q true st'):wpS M A E s (binarySort' lo n m) Q st:=by
 unfold binarySort'
 refine wpS_bind (wpS_mono (wpS_forRange (I:=fun k c st'=>c=(none,())/\Wk kd a0 lo pd st'/\Sd kf (arrOf st') lo (min k n)) (Q:=fun c st'=>c=(none,())/\Wk kd a0 lo pd st'/\Sd kf (arrOf st') lo n) ?step ?fin ⟨rfl,B, ?init⟩) ?post)
 case post=>
  rintro c st' ⟨rfl,B',hs'⟩
  exact wpS_pure (h st' B' hs')
 case init=>
  intro i j hij hj
  by_cases c:m=0
  ·have e:i=j:=by (first|lia|omega)
   subst e
   exact KeyOrd.kle_refl _
  ·exact hs i j hij (by (first|lia|omega))
 case fin=>
  rintro c st' ⟨hc,B',hs'⟩
  rw[show min (max (max m 1) n) n=n by (first|lia|omega)] at hs'
  exact⟨hc,B',hs'⟩
 case step=>
  rintro k c st' hk1 hk2 ⟨rfl,B',hs'⟩
  rw[show min k n=k by (first|lia|omega)] at hs'
  refine wpS_bind (wpS_mono (wpS_forRange (I:=fun x c st2=>st2=st'/\∃l r,c=(none,l,r)/\l<=r/\r<=k/\r-l<=k-x/\(∀i,i<l->O.kle (ka kf (arrOf st') (lo+i)) (ka kf (arrOf st') (lo+k)))/\(∀i,r<=i->i<k->O.klt (ka kf (arrOf st') (lo+k)) (ka kf (arrOf st') (lo+i))))
   (Q:=fun c st2=>st2=st'/\∃l r,c=(none,l,r)/\l<=k/\(∀i,i<l->O.kle (ka kf (arrOf st') (lo+i)) (ka kf (arrOf st') (lo+k)))/\(∀i,l<=i->i<k->O.klt (ka kf (arrOf st') (lo+k)) (ka kf (arrOf st') (lo+i)))) ?st2 ?fi2 ⟨rfl,0,k,rfl,by (first|lia|omega),by (first|lia|omega),by (first|lia|omega),fun i hi=>by (first|lia|omega),fun i i1 i2=>by (first|lia|omega)⟩) ?po2)
  case fi2=>
   rintro c st2 ⟨rfl,l,r,rfl,h1,h2,h3,h4,h5⟩
   have e:l=r:=by (first|lia|omega)
   subst e
   exact⟨rfl,l,l,rfl,h2,h4,h5⟩
  case st2=>
   rintro x c st2 _ hx ⟨rfl,l,r,rfl,h1,h2,h3,h4,h5⟩
   dsimp only
   by_cases hge:l≥r
   ·rw [if_pos hge]
    have e:l=r:=by (first|lia|omega)
    subst e
    exact wpS_pure ⟨rfl,l,l,rfl,h2,h4,h5⟩
   ·rw [if_neg hge]
    refine wpS_bind (ltA C ok B' (by (first|lia|omega)) (by (first|lia|omega)) ?_)
    cases hb:O.blt (ka kf (arrOf st2) (lo+k)) (ka kf (arrOf st2) (lo+(l+r)/2)) with
    |true=>
     dsimp only
     rw[if_pos rfl]
     exact wpS_pure ⟨rfl,l,(l+r)/2,rfl,by (first|lia|omega),by (first|lia|omega),by (first|lia|omega),h4,fun i i1 i2=>KeyOrd.klt_of_klt_of_kle hb (hs' _ _ i1 i2)⟩
    |false=>
     dsimp only
     rw[if_neg (by decide)]
     exact wpS_pure ⟨rfl,(l+r)/2+1,r,rfl,by (first|lia|omega),by (first|lia|omega),by (first|lia|omega),fun i i1=>KeyOrd.kle_trans (hs' i ((l+r)/2) (by (first|lia|omega)) (by (first|lia|omega))) hb,h5⟩
  case po2=>
   rintro c st2 ⟨rfl,l,r,rfl,h1,h2,h3⟩
   dsimp only
   have hz:lo+k<(arrOf st2).size:=by rw[B'.size];(first|lia|omega)
   refine wpS_bind (show wpS M A E s (moveDown' (lo+k) (lo+l)) _ st2 from ?_)
   rw[moveDown'_eq]
   refine wpS_modify (wpS_pure ⟨rfl,B'.bub (by (first|lia|omega)) (by (first|lia|omega)), ?_⟩)
   rw[show min (k+1) n=k+1 by (first|lia|omega)]
   intro i j hij hj
   show O.kle (ka kf (bubble (arrOf st2) (lo+k) (lo+k-(lo+l))) (lo+i)) (ka kf (bubble (arrOf st2) (lo+k) (lo+k-(lo+l))) (lo+j))
   rw[zkN hz (by (first|lia|omega)),zkN hz (by (first|lia|omega)),show lo+k-(lo+k-(lo+l))=lo+l by (first|lia|omega)]
   by_cases ci:i<l
   ·rw [if_neg (by (first|lia|omega)),if_neg (by (first|lia|omega))]
    by_cases cj:j<l
    ·rw [if_neg (by (first|lia|omega)),if_neg (by (first|lia|omega))]
     exact hs' i j hij (by (first|lia|omega))
    ·by_cases ej:j=l
     ·rw [if_pos (by (first|lia|omega))]
      exact h2 i ci
     ·rw [if_neg (by (first|lia|omega)),if_pos (by (first|lia|omega)),show lo+j-1=lo+(j-1) by (first|lia|omega)]
      exact hs' i (j-1) (by (first|lia|omega)) (by (first|lia|omega))
   ·by_cases ei:i=l
    ·rw [if_pos (by (first|lia|omega))]
     by_cases ej:j=l
     ·rw [if_pos (by (first|lia|omega))]
      exact KeyOrd.kle_refl _
     ·rw [if_neg (by (first|lia|omega)),if_pos (by (first|lia|omega)),show lo+j-1=lo+(j-1) by (first|lia|omega)]
      exact KeyOrd.kle_of_klt (h3 (j-1) (by (first|lia|omega)) (by (first|lia|omega)))
    ·rw [if_neg (by (first|lia|omega)),if_pos (by (first|lia|omega)),if_neg (by (first|lia|omega)),if_pos (by (first|lia|omega)),show lo+j-1=lo+(j-1) by (first|lia|omega),show lo+i-1=lo+(i-1) by (first|lia|omega)]
     exact hs' (i-1) (j-1) (by (first|lia|omega)) (by (first|lia|omega))
end
noncomputable def zc6:Nat->StateT SortSt Sem Bool:=sortPriv%PySem.Builtin.mergeAt
section
variable {M:Model}{A:Around}{E:Value->Shared->Prop}{s:Shared}{O:KeyOrd}{kf:Keyed->O.α}{okk:Keyed->Prop}{kd:SortKind}{st:SortSt}
theorem RunUp.join {a:Array Keyed}{x y z:Nat}(r1:RunUp kf a x y)(r2:RunUp kf a y z)(h:∀i j p q,x<=i->i<y->y<=j->j<z->a[i]? =some p->a[j]? =some q->O.kle (kf p) (kf q)):RunUp kf a x z:=fun i j p q h1 h2 h3 hp hq=>by
 by_cases c1:j<y
 ·exact r1 i j p q h1 h2 c1 hp hq
 ·by_cases c2:i<y
  ·exact h i j p q h1 c2 (by (first|lia|omega)) h3 hp hq
  ·exact r2 i j p q (by (first|lia|omega)) h2 h3 hp hq
theorem RunUp.sub {a:Array Keyed}{x y x' y':Nat}(r:RunUp kf a x y)(h1:x<=x')(h2:y'<=y):RunUp kf a x' y':=fun i j p q a1 a2 a3 hp hq=>r i j p q (by (first|lia|omega)) a2 (by (first|lia|omega)) hp hq
theorem zmF (C:Cmp M A E s kd O kf okk)(ok:∀p∈(arrOf st).toList,okk p)(hk:kindOf st=kd)(hf:failedOf st=none){i sa na pw sb nb z:Nat}(h1:(pendingOf st)[i]? =some (sa,na,pw))(h2:(pendingOf st)[i+1]? =some (sb,nb,z))(e:sb=sa+na)(hna:0<na)(hnb:0<nb)(hz:sb+nb<=(arrOf st).size)
  (r1:RunUp kf (arrOf st) sa sb) (r2:RunUp kf (arrOf st) sb (sb+nb)) {Q:Bool->SortSt->Prop}
  (h:∀st',(arrOf st').Perm (arrOf st)->kindOf st'=kd->failedOf st'=none->pendingOf st'=((pendingOf st).setIfInBounds i (sa,na+nb,pw)).eraseIdxIfInBounds (i+1)->RunUp kf (arrOf st') sa (sb+nb)->(∀j,j<sa∨sb+nb<=j->(arrOf st')[j]? =(arrOf st)[j]?)->Q true st'):wpS M A E s (zc6 i) Q st:=by
 unfold zc6
 refine wpS_bind (wpS_get ?_)
 simp only[h1,h2]
 refine wpS_bind (wpS_modify (f:=fun _=>_) ?_)
 have mem:∀{j:Nat} {p:Keyed},(arrOf st)[j]? =some p->okk p:=fun {j p} g=>ok p (List.mem_of_getElem? (i:=j) (by rw[<-g];simp))
 have at_:∀j,j<(arrOf st).size->∃p,(arrOf st)[j]? =some p:=fun j hj=>⟨_,Array.getElem?_eq_getElem hj⟩
 obtain⟨pb,hpb⟩:=at_ sb (by (first|lia|omega))
 have hq:∀st',arrOf st'=arrOf st->kindOf st'=kd->failedOf st'=none->pendingOf st'=((pendingOf st).setIfInBounds i (sa,na+nb,pw)).eraseIdxIfInBounds (i+1)->RunUp kf (arrOf st) sa (sb+nb)->Q true st':=fun st' e1 e2 e3 e4 e5=>h st' (by rw[e1]) e2 e3 e4 (by rw[e1];exact e5) (fun j _=>by rw[e1])
 refine wpS_bind (zap (arr:=arrOf st) hpb ?_)
 have hk':kindOf (setPending st (((pendingOf st).setIfInBounds i (sa,na+nb,pw)).eraseIdxIfInBounds (i+1)))=kd:=hk
 refine wpS_bind (zgN (st:=setPending st (((pendingOf st).setIfInBounds i (sa,na+nb,pw)).eraseIdxIfInBounds (i+1))) C hk' ok (mem hpb) (r1.sub (Nat.le_refl _) (by (first|lia|omega))) (show sa+na<=(arrOf st).size by (first|lia|omega)) hna fun k hk1 g1 g2=> ?_)
 dsimp only
 by_cases c0:na-k=0
 ·rw [if_pos (by simpa using c0)]
  refine wpS_pure (hq _ rfl hk hf rfl (r1.join r2 fun x y p q x1 x2 y1 y2 hp hq=> ?_))
  have a1:=g1 (x-sa) p (by (first|lia|omega)) (by rw[show sa+(x-sa)=x by (first|lia|omega)];exact hp)
  exact KeyOrd.kle_trans a1 (r2 sb y pb q (Nat.le_refl _) y1 y2 hpb hq)
 rw[if_neg (by simpa using c0)]
 obtain⟨pl,hpl⟩:=at_ (sa+k+(na-k)-1) (by (first|lia|omega))
 refine wpS_bind (zap (arr:=arrOf st) hpl ?_)
 refine wpS_bind (zgO (st:=setPending st (((pendingOf st).setIfInBounds i (sa,na+nb,pw)).eraseIdxIfInBounds (i+1))) C hk' ok (mem hpl) r2 hz (by (first|lia|omega)) fun k2 hk2 g3 g4=> ?_)
 dsimp only
 by_cases c1:k2=0
 ·rw [if_pos (by simpa using c1)]
  refine wpS_pure (hq _ rfl hk hf rfl (r1.join r2 fun x y p q x1 x2 y1 y2 hp hq=> ?_))
  have a1:=g4 (y-sb) q (by (first|lia|omega)) (by (first|lia|omega)) (by rw[show sb+(y-sb)=y by (first|lia|omega)];exact hq)
  exact KeyOrd.kle_trans (r1 x _ p pl x1 (by (first|lia|omega)) (by (first|lia|omega)) hp hpl) a1
 rw[if_neg (by simpa using c1)]
 have X1:KeysUp kf ((arrOf st).extract (sa+k) sb):=zkM (by (first|lia|omega)) (r1.sub (by (first|lia|omega)) (Nat.le_refl _))
 have X2:KeysUp kf ((arrOf st).extract sb (sb+k2)):=zkM (by (first|lia|omega)) (r2.sub (Nat.le_refl _) (by (first|lia|omega)))
 have z1:((arrOf st).extract (sa+k) sb).size=na-k:=by rw[Array.size_extract];(first|lia|omega)
 have z2:((arrOf st).extract sb (sb+k2)).size=k2:=by rw[Array.size_extract];(first|lia|omega)
 have o1:∀p∈((arrOf st).extract (sa+k) sb).toList,okk p:=fun p hp=>by
  obtain⟨m,_,_,g⟩:=zdu (by (first|lia|omega)) hp
  exact mem g
 have o2:∀p∈((arrOf st).extract sb (sb+k2)).toList,okk p:=fun p hp=>by
  obtain⟨m,_,_,g⟩:=zdu (by (first|lia|omega)) hp
  exact mem g
 have f0:∀p q,((arrOf st).extract sb (sb+k2))[0]? =some p->((arrOf st).extract (sa+k) sb)[0]? =some q->O.klt (kf p) (kf q):=fun p q hp hq=>by
  rw[zeY (by (first|lia|omega)) (by (first|lia|omega)),Nat.add_zero] at hp hq
  rw[hpb] at hp
  cases hp
  exact g2 k q (Nat.le_refl _) (by (first|lia|omega)) hq
 have fl:∀p q,((arrOf st).extract (sa+k) sb)[((arrOf st).extract (sa+k) sb).size-1]? =some p->q∈((arrOf st).extract sb (sb+k2)).toList->O.klt (kf q) (kf p):=fun p q hp hq=>by
  rw[z1,zeY (by (first|lia|omega)) (by (first|lia|omega)),show sa+k+(na-k-1)=sa+k+(na-k)-1 by (first|lia|omega),hpl] at hp
  cases hp
  obtain⟨m,m1,m2,g⟩:=zdu (by (first|lia|omega)) hq
  exact g3 (m-sb) q (by (first|lia|omega)) (by rw[show sb+(m-sb)=m by (first|lia|omega)];exact g)
 have fin:∀(r:Array Keyed) (g:Nat),Res kf ((arrOf st).extract (sa+k) sb) ((arrOf st).extract sb (sb+k2)) r->∀st',arrOf st'=put r.toList (sa+k) (arrOf st)->kindOf st'=kd->failedOf st'=none->pendingOf st'=((pendingOf st).setIfInBounds i (sa,na+nb,pw)).eraseIdxIfInBounds (i+1)->Q true st':=fun r g R st' e1 e2 e3 e4=>by
  have rsz:r.size=(sb+k2)-(sa+k):=by
   have:=R.1.length_eq
   rw[List.length_append,Array.length_toList,Array.length_toList,Array.length_toList,z1,z2] at this
   (first|lia|omega)
  have rmem:∀q∈r.toList,∃m,sa+k<=m/\m<sb+k2/\(arrOf st)[m]? =some q:=fun q hq=>by
   rcases List.mem_append.mp (R.1.mem_iff.mp hq) with g|g
   ·obtain ⟨m,m1,m2,m3⟩:=zdu (by (first|lia|omega)) g
    exact⟨m,m1,by (first|lia|omega),m3⟩
   ·obtain ⟨m,m1,m2,m3⟩:=zdu (by (first|lia|omega)) g
    exact⟨m,by (first|lia|omega),m2,m3⟩
  refine h st' ?_ e2 e3 e4 ?_ fun j hj=> ?_
  ·rw [e1]
   exact zj0 (by (first|lia|omega)) (by (first|lia|omega)) (by (first|lia|omega)) R.1
  ·rw [e1]
   refine zlz rsz (by (first|lia|omega)) (by (first|lia|omega)) (by (first|lia|omega)) (by (first|lia|omega)) R.2 (r1.sub (Nat.le_refl _) (by (first|lia|omega))) (r2.sub (by (first|lia|omega)) (Nat.le_refl _)) ?_ ?_ ?_
   ·intro x p x1 x2 hp q hq
    obtain⟨m,m1,m2,m3⟩:=rmem q hq
    by_cases cm:m<sb
    ·exact r1 x m p q x1 (by (first|lia|omega)) cm hp m3
    ·have a1:=g1 (x-sa) p (by (first|lia|omega)) (by rw[show sa+(x-sa)=x by (first|lia|omega)];exact hp)
     exact KeyOrd.kle_trans a1 (r2 sb m pb q (Nat.le_refl _) (by (first|lia|omega)) (by (first|lia|omega)) hpb m3)
   ·intro y q y1 y2 hq p hp
    obtain⟨m,m1,m2,m3⟩:=rmem p hp
    by_cases cm:m<sb
    ·have a1:=g4 (y-sb) q (by (first|lia|omega)) (by (first|lia|omega)) (by rw[show sb+(y-sb)=y by (first|lia|omega)];exact hq)
     exact KeyOrd.kle_trans (r1 m _ p pl (by (first|lia|omega)) (by (first|lia|omega)) (by (first|lia|omega)) m3 hpl) a1
    ·exact r2 m y p q (by (first|lia|omega)) (by (first|lia|omega)) y2 m3 hq
   ·intro x y p q x1 x2 y1 y2 hp hq
    have a1:=g1 (x-sa) p (by (first|lia|omega)) (by rw[show sa+(x-sa)=x by (first|lia|omega)];exact hp)
    exact KeyOrd.kle_trans a1 (r2 sb y pb q (Nat.le_refl _) (by (first|lia|omega)) y2 hpb hq)
  ·rw[e1,zkL (by (first|lia|omega)),if_neg (by (first|lia|omega))]
 by_cases c2:na-k<=k2
 ·rw [if_pos c2]
  refine wpS_bind (zfQ (st:=setPending st (((pendingOf st).setIfInBounds i (sa,na+nb,pw)).eraseIdxIfInBounds (i+1))) C hk' o1 o2 X1 X2 (show 0<((arrOf st).extract (sa+k) sb).size by (first|lia|omega)) (show 0<((arrOf st).extract sb (sb+k2)).size by (first|lia|omega)) (fun p q hp hq=>KeyOrd.kle_of_klt (f0 p q hp hq)) fl fun r g R=> ?_)
  refine wpS_bind (wpS_modify (wpS_bind (wpS_get ?_)))
  have e:Option.isNone (failedOf st)=true:=by rw[hf];rfl
  refine wpS_pure ?_
  dsimp only
  rw[e]
  exact fin r g R _ rfl hk hf rfl
 ·rw [if_neg c2]
  refine wpS_bind (zfS (st:=setPending st (((pendingOf st).setIfInBounds i (sa,na+nb,pw)).eraseIdxIfInBounds (i+1))) C hk' o1 o2 X1 X2 (show 0<((arrOf st).extract (sa+k) sb).size by (first|lia|omega)) (show 0<((arrOf st).extract sb (sb+k2)).size by (first|lia|omega)) f0 fl fun r g R=> ?_)
  refine wpS_bind (wpS_modify (wpS_bind (wpS_get ?_)))
  have e:Option.isNone (failedOf st)=true:=by rw[hf];rfl
  refine wpS_pure ?_
  dsimp only
  rw[e]
  exact fin r g R _ rfl hk hf rfl
end
noncomputable def Ch:Nat->List (Nat×Nat×Nat)->Nat->Prop
 |s,[],e=>s=e
 |s,x::r,e=>x.1=s/\1<=x.2.1/\Ch (s+x.2.1) r e
theorem Ch.append {l m:List (Nat×Nat×Nat)}:∀{s e:Nat},Ch s (l++m) e->∃k,Ch s l k/\Ch k m e:=by
 induction l with
 |nil=>exact fun {s e} h=>⟨s,rfl,h⟩
 |cons x l ih=>
  intro s e h
  obtain⟨h1,h2,h3⟩:=h
  obtain⟨k,a,b⟩:=ih h3
  exact⟨k,⟨h1,h2,a⟩,b⟩
theorem Ch.app {l m:List (Nat×Nat×Nat)}:∀{s k e:Nat},Ch s l k->Ch k m e->Ch s (l++m) e:=by
 induction l with
 |nil=>
  intro s k e h g
  cases (show s=k from h)
  exact g
 |cons x l ih=>exact fun {s k e} h g=>⟨h.1,h.2.1,ih h.2.2 g⟩
theorem Ch.len {l:List (Nat×Nat×Nat)}:∀{s e:Nat},Ch s l e->s+l.length<=e:=by
 induction l with
 |nil=>exact fun {s e} h=>by cases (show s=e from h);exact Nat.le_refl _
 |cons x l ih=>
  intro s e h
  have:=ih h.2.2
  have:=h.2.1
  rw[List.length_cons]
  (first|lia|omega)
theorem Ch.mem {l:List (Nat×Nat×Nat)}:∀{s e:Nat},Ch s l e->∀x∈l,s<=x.1/\1<=x.2.1/\x.1+x.2.1<=e:=by
 induction l with
 |nil=>exact fun _ x hx=>by cases hx
 | cons y l ih=>
  intro s e h x hx
  have hl:=h.2.2.len
  have h1:=h.1
  have h2:=h.2.1
  rcases List.mem_cons.mp hx with rfl|hx
  ·exact⟨by (first|lia|omega),h2,by (first|lia|omega)⟩
  ·have:=ih h.2.2 x hx
   exact⟨by (first|lia|omega),this.2.1,this.2.2⟩
section
variable {M:Model}{A:Around}{E:Value->Shared->Prop}{s:Shared}{O:KeyOrd}{kf:Keyed->O.α}{okk:Keyed->Prop}{kd:SortKind}{a0:Array Keyed}{lo:Nat}{st:SortSt}
structure Stk (kf:Keyed->O.α) (kd:SortKind) (a0:Array Keyed) (lo:Nat) (st:SortSt):Prop where
 perm:(arrOf st).Perm a0
 kind:kindOf st=kd
 failed:failedOf st=none
 ch:Ch 0 (pendingOf st).toList lo
 runs:∀x∈(pendingOf st).toList,RunUp kf (arrOf st) x.1 (x.1+x.2.1)
theorem RunUp.of_eq {a b:Array Keyed}{x y:Nat}(r:RunUp kf a x y)(h:∀j,x<=j->j<y->b[j]? =a[j]?):RunUp kf b x y:=fun i j p q h1 h2 h3 hp hq=>r i j p q h1 h2 h3 (by rw[<-h i h1 (by (first|lia|omega))];exact hp) (by rw[<-h j (by (first|lia|omega)) h3];exact hq)
theorem ziI (C:Cmp M A E s kd O kf okk)(ok:∀p∈a0.toList,okk p)(S:Stk kf kd a0 lo st)(hlo:lo<=a0.size){i:Nat}(hi:i+1<(pendingOf st).size){Q:Bool->SortSt->Prop}(h:∀st',Stk kf kd a0 lo st'->(pendingOf st').size+1=(pendingOf st).size->(∀j,lo<=j->(arrOf st')[j]? =(arrOf st)[j]?)->Q true st'):wpS M A E s (zc6 i) Q st:=by
 have hl:i+1<(pendingOf st).toList.length:=by simpa using hi
 obtain⟨⟨sa,na,pw⟩,h1⟩:∃x,(pendingOf st).toList[i]? =some x:=⟨_,List.getElem?_eq_getElem (by (first|lia|omega))⟩
 obtain⟨⟨sb,nb,z⟩,h2⟩:∃x,(pendingOf st).toList[i+1]? =some x:=⟨_,List.getElem?_eq_getElem hl⟩
 have split:(pendingOf st).toList=(pendingOf st).toList.take i++((sa,na,pw)::(sb,nb,z)::(pendingOf st).toList.drop (i+2)):=by
  obtain⟨g1,e1⟩:=List.getElem?_eq_some_iff.mp h1
  obtain⟨g2,e2⟩:=List.getElem?_eq_some_iff.mp h2
  rw[<-e1,<-e2,List.getElem_cons_drop,List.getElem_cons_drop,List.take_append_drop]
 have hlen:((pendingOf st).toList.take i).length=i:=by rw[List.length_take];(first|lia|omega)
 have C0:=S.ch
 rw[split] at C0
 obtain⟨k,c1,c2⟩:=C0.append
 obtain⟨e1,n1,c3⟩:=c2
 obtain⟨e2,n2,c4⟩:=c3
 dsimp only at e1 n1 e2 n2 c4
 have l4:=c4.len
 have m1:(sa,na,pw)∈(pendingOf st).toList:=List.mem_of_getElem? h1
 have m2:(sb,nb,z)∈(pendingOf st).toList:=List.mem_of_getElem? h2
 have sz:=S.perm.size_eq
 refine zmF C (fun p hp=>ok p ((Array.perm_iff_toList_perm.mp S.perm).mem_iff.mp hp)) S.kind S.failed (i:=i) (sa:=sa) (na:=na) (pw:=pw) (sb:=sb) (nb:=nb) (z:=z) (by rw[<-h1];simp) (by rw[<-h2];simp) (by (first|lia|omega)) n1 n2 (by (first|lia|omega)) ?_ (S.runs _ m2) fun st' p1 p2 p3 p4 p5 p6=> ?_
 ·have:=S.runs _ m1
  dsimp only at this
  rw[show sb=sa+na by (first|lia|omega)]
  exact this
 ·have newl:(pendingOf st').toList=(pendingOf st).toList.take i++((sa,na+nb,pw)::(pendingOf st).toList.drop (i+2)):=by
   rw[p4,Array.toList_eraseIdxIfInBounds,Array.toList_setIfInBounds]
   conv=>lhs;rw[split]
   rw[List.set_append_right _ _ (by (first|lia|omega)),hlen,Nat.sub_self,List.set_cons_zero,List.eraseIdx_append_of_length_le (by (first|lia|omega)),hlen,show i+1-i=1 by (first|lia|omega)]
   rfl
  have d1:=c1.mem
  have d4:=c4.mem
  refine h st' ⟨p1.trans S.perm,p2,p3, ?_,fun x hx=> ?_⟩ ?_ fun j hj=>p6 j (.inr (by (first|lia|omega)))
  ·rw [newl]
   exact c1.app ⟨e1,by show 1<=na+nb;(first|lia|omega),by show Ch (k+(na+nb)) _ lo;rw[show k+(na+nb)=k+na+nb by (first|lia|omega)];exact c4⟩
  ·rw [newl] at hx
   rcases List.mem_append.mp hx with hx|hx
   ·have:=d1 x hx
    exact (S.runs x (by rw[split];exact List.mem_append_left _ hx)).of_eq fun j j1 j2=>p6 j (.inl (by (first|lia|omega)))
   ·rcases List.mem_cons.mp hx with rfl|hx
    ·show RunUp kf (arrOf st') sa (sa+(na+nb))
     rw[show sa+(na+nb)=sb+nb by (first|lia|omega)]
     exact p5
    ·have:=d4 x hx
     exact (S.runs x (by rw[split];exact List.mem_append_right _ (List.mem_cons_of_mem _ (List.mem_cons_of_mem _ hx)))).of_eq fun j j1 j2=>p6 j (.inr (by (first|lia|omega)))
  ·have a1:(pendingOf st').size=(pendingOf st').toList.length:=by simp
   have a2:(pendingOf st).size=(pendingOf st).toList.length:=by simp
   rw[a1,a2,newl,List.length_append,List.length_cons,hlen,List.length_drop]
   (first|lia|omega)
theorem Sd.run {a:Array Keyed}{lo n:Nat}(h:Sd kf a lo n):RunUp kf a lo (lo+n):=fun i j p q h1 h2 h3 hp hq=>by
 have:=h (i-lo) (j-lo) (by (first|lia|omega)) (by (first|lia|omega))
 rw[show lo+(i-lo)=i by (first|lia|omega),show lo+(j-lo)=j by (first|lia|omega),zj1 hp,zj1 hq] at this
 exact this
theorem zmG {c:Prop}[Decidable c]{a b n:Nat}(h1:a+1<n)(h2:b+1<n):(if c then a else b)+1<n:=by
 by_cases g:c
 ·rw[if_pos g];exact h1
 ·rw[if_neg g];exact h2
theorem Stk.wk (S:Stk kf kd a0 lo st):Wk kd (arrOf st) lo (pendingOf st) st:=⟨Array.Perm.refl _,S.kind,S.failed,rfl,fun _ _=>rfl⟩
theorem Stk.more (S:Stk kf kd a0 lo st){st1:SortSt}(B:Wk kd (arrOf st) lo (pendingOf st) st1):Stk kf kd a0 lo st1:=by
 refine⟨B.perm.trans S.perm,B.kind,B.failed,by rw[B.pend];exact S.ch,fun x hx=> ?_⟩
 rw[B.pend] at hx
 have:=S.ch.mem x hx
 exact (S.runs x hx).of_eq fun j _ j2=>B.pre j (by (first|lia|omega))
theorem Stk.push (S:Stk kf kd a0 lo st){n:Nat}(h1:1<=n)(r:RunUp kf (arrOf st) lo (lo+n)):Stk kf kd a0 (lo+n) (setPending st ((pendingOf st).push (lo,n,0))):=by
 have e:(pendingOf (setPending st ((pendingOf st).push (lo,n,0)))).toList=(pendingOf st).toList++[(lo,n,0)]:=Array.toList_push
 refine⟨S.perm,S.kind,S.failed, ?_,fun x hx=> ?_⟩
 ·rw [e]
  exact S.ch.app ⟨rfl,h1,rfl⟩
 ·rw [e] at hx
  rcases List.mem_append.mp hx with hx|hx
  ·exact S.runs x hx
  ·rw [List.mem_singleton.mp hx]
   exact r
theorem Ch.modify {f:Nat×Nat×Nat->Nat×Nat×Nat}(hf:∀x,(f x).1=x.1/\(f x).2.1=x.2.1):∀{l:List (Nat×Nat×Nat)} {k s e:Nat},Ch s l e->Ch s (l.modify k f) e
 |[],k,s,e,h=>by
  rw[List.modify_nil]
  exact h
 |x::l,0,s,e,h=>by
  rw[List.modify_zero_cons]
  exact⟨by rw[(hf x).1];exact h.1,by rw[(hf x).2];exact h.2.1,by rw[(hf x).2];exact h.2.2⟩
 |x::l,k+1,s,e,h=>by
  rw[List.modify_succ_cons]
  exact⟨h.1,h.2.1,Ch.modify hf h.2.2⟩
theorem zhK {f:Nat×Nat×Nat->Nat×Nat×Nat}{l:List (Nat×Nat×Nat)}{k:Nat}{x:Nat×Nat×Nat}(h:x∈l.modify k f):x∈l∨∃y∈l,x=f y:=by
 obtain⟨j,hj⟩:=List.getElem?_of_mem h
 rw[List.getElem?_modify] at hj
 cases e:l[j]? with
 |none=>rw[e] at hj;cases hj
 | some y=>
  rw[e] at hj
  have hj:some (if k=j then f y else y)=some x:=hj
  have hy:y∈l:=List.mem_of_getElem? e
  by_cases c:k=j
  ·rw [if_pos c] at hj
   cases hj
   exact .inr ⟨y,hy,rfl⟩
  ·rw [if_neg c] at hj
   cases hj
   exact .inl hy
theorem Stk.power (S:Stk kf kd a0 lo st){k pw:Nat}{f:Nat×Nat×Nat->Nat×Nat×Nat}(hf:∀x,(f x).1=x.1/\(f x).2.1=x.2.1):Stk kf kd a0 lo (setPending st ((pendingOf st).modify k f)):=by
 have e:(pendingOf (setPending st ((pendingOf st).modify k f))).toList=(pendingOf st).toList.modify k f:=Array.toList_modify
 refine⟨S.perm,S.kind,S.failed, ?_,fun x hx=> ?_⟩
 ·rw [e]
  exact S.ch.modify hf
 ·rw [e] at hx
  rcases zhK hx with hx|⟨y,hy,rfl⟩
  ·exact S.runs x hx
  ·rw [(hf y).1,(hf y).2]
   exact S.runs y hy
theorem zlA (C:Cmp M A E s kd O kf okk)(ok:∀p∈a0.toList,okk p)(ha:arrOf st=a0)(hk:kindOf st=kd)(hf:failedOf st=none)(hp:pendingOf st=#[]){Q:Unit->SortSt->Prop}(h:∀st',(arrOf st').Perm a0->failedOf st'=none->RunUp kf (arrOf st') 0 a0.size->Q () st'):wpS M A E s sortRuns' Q st:=by
 unfold sortRuns'
 refine wpS_bind (wpS_get ?_)
 have S0:Stk kf kd a0 0 st:=⟨by rw[ha],hk,hf,by rw[hp];rfl,fun x hx=>by rw[hp] at hx;cases hx⟩
 have esz:(sortPriv%PySem.Builtin.SortState.a) st=a0:=ha
 try dsimp only
 rw[esz]
 generalize (sortPriv%PySem.Builtin.minRun) a0.size a0.size 0=mr
 refine wpS_bind (wpS_mono (wpS_forRange (I:=fun x c st1=>∃lo,c=(none,lo)/\Stk kf kd a0 lo st1/\x<=lo/\lo<=a0.size) (Q:=fun c st1=>c=(none,a0.size)/\Stk kf kd a0 a0.size st1) ?step ?fin ⟨0,rfl,S0,Nat.le_refl _,Nat.zero_le _⟩) ?post)
 case fin=>
  rintro c st1 ⟨lo,rfl,S1,h1,h2⟩
  rw[Nat.max_eq_right (Nat.zero_le _)] at h1
  have e:lo=a0.size:=by (first|lia|omega)
  subst e
  exact⟨rfl,S1⟩
 case step=>
  rintro x c st1 _ hx ⟨lo,rfl,S1,h1,h2⟩
  try dsimp only
  by_cases hge:lo≥a0.size
  ·rw [if_pos hge]
   have e:lo=a0.size:=by (first|lia|omega)
   subst e
   exact wpS_pure ⟨rfl,S1⟩
  rw[if_neg hge]
  have z1:=S1.perm.size_eq
  have ok1:∀p∈(arrOf st1).toList,okk p:=fun p hp=>ok p ((Array.perm_iff_toList_perm.mp S1.perm).mem_iff.mp hp)
  refine wpS_bind (zmE C ok1 S1.wk (by (first|lia|omega)) (by (first|lia|omega)) fun m st2 B2 m1 m2 hs2=> ?_)
  try dsimp only
  by_cases hmr:m<mr
  ·rw [if_pos hmr]
   refine wpS_bind (wpS_lift (wpAny_rule ⟨rfl, ?_⟩))
   refine wpS_bind (binA C ok1 B2 (n:=min (a0.size-lo) mr) (by (first|lia|omega)) (by (first|lia|omega)) hs2 fun st3 B3 hs3=> ?_)
   try dsimp only
   rw[if_neg (by decide)]
   have n1:1<=min (a0.size-lo) mr:=by (first|lia|omega)
   have n2:lo+min (a0.size-lo) mr<=a0.size:=by (first|lia|omega)
   generalize min (a0.size-lo) mr=n at n1 n2 hs3 ⊢
   have S3:=S1.more B3
   have r3:=hs3.run
   clear hs3 B3
   refine wpS_bind (wpS_get ?_)
   try dsimp only
   cases hb:((sortPriv%PySem.Builtin.SortState.pending) st3).back? with
   |none=>
    try dsimp only
    exact wpS_bind (wpS_modify (wpS_pure ⟨lo+n,rfl,S3.push n1 r3,by (first|lia|omega),n2⟩))
   | some y=>
    obtain⟨s1,k1,w1⟩:=y
    try dsimp only
    generalize (sortPriv%PySem.Builtin.power) a0.size (2*s1+k1) (2*s1+k1+k1+n) a0.size=pw
    refine wpS_bind (wpS_mono (wpS_forRange (I:=fun _ c st4=>c=(none,())/\Stk kf kd a0 lo st4/\RunUp kf (arrOf st4) lo (lo+n)) (Q:=fun c st4=>c=(none,())/\Stk kf kd a0 lo st4/\RunUp kf (arrOf st4) lo (lo+n)) ?st4 (fun _ _ g=>g) ⟨rfl,S3,r3⟩) ?po4)
    case st4=>
     rintro x4 c st4 _ _ ⟨rfl,S4,r4⟩
     try dsimp only
     refine wpS_bind (wpS_get ?_)
     try dsimp only
     cases hz:(if ((sortPriv%PySem.Builtin.SortState.pending) st4).size>1 then ((sortPriv%PySem.Builtin.SortState.pending) st4)[((sortPriv%PySem.Builtin.SortState.pending) st4).size-2]? else none) with
     |none=>
      try dsimp only
      exact wpS_pure ⟨rfl,S4,r4⟩
     | some y4=>
      obtain⟨s5,k5,w5⟩:=y4
      try dsimp only
      have h4:(pendingOf st4).size>1:=by
       by_cases c4:(pendingOf st4).size>1
       ·exact c4
       ·rw [if_neg c4] at hz
        cases hz
      by_cases c5:w5<=pw
      ·rw [if_pos c5]
       exact wpS_pure ⟨rfl,S4,r4⟩
      ·rw [if_neg c5]
       refine wpS_bind (ziI C ok S4 h2 (i:=(pendingOf st4).size-2) (by (first|lia|omega)) fun st5 S5 _ e5=> ?_)
       try dsimp only
       rw[if_neg (by decide)]
       exact wpS_pure ⟨rfl,S5,r4.of_eq fun j j1 _=>e5 j j1⟩
    case po4=>
     rintro c st4 ⟨rfl,S4,r4⟩
     try dsimp only
     refine wpS_bind (wpS_modify ?_)
     have S5:=S4.power (k:=(pendingOf st4).size-1) (pw:=pw) (f:=fun x=>(x.1,x.2.1,pw)) (fun _=>⟨rfl,rfl⟩)
     exact wpS_bind (wpS_modify (wpS_pure ⟨lo+n,rfl,S5.push n1 r4,by (first|lia|omega),n2⟩))
  ·rw [if_neg hmr]
   have n1:1<=m:=m1
   have n2:lo+m<=a0.size:=by (first|lia|omega)
   have B3:=B2
   have hs3:=hs2
   generalize m=n at n1 n2 hs3 ⊢
   generalize st2=st3 at B3 hs3 ⊢
   have S3:=S1.more B3
   have r3:=hs3.run
   clear hs3 B3
   refine wpS_bind (wpS_get ?_)
   try dsimp only
   cases hb:((sortPriv%PySem.Builtin.SortState.pending) st3).back? with
   |none=>
    try dsimp only
    exact wpS_bind (wpS_modify (wpS_pure ⟨lo+n,rfl,S3.push n1 r3,by (first|lia|omega),n2⟩))
   | some y=>
    obtain⟨s1,k1,w1⟩:=y
    try dsimp only
    generalize (sortPriv%PySem.Builtin.power) a0.size (2*s1+k1) (2*s1+k1+k1+n) a0.size=pw
    refine wpS_bind (wpS_mono (wpS_forRange (I:=fun _ c st4=>c=(none,())/\Stk kf kd a0 lo st4/\RunUp kf (arrOf st4) lo (lo+n)) (Q:=fun c st4=>c=(none,())/\Stk kf kd a0 lo st4/\RunUp kf (arrOf st4) lo (lo+n)) ?st4 (fun _ _ g=>g) ⟨rfl,S3,r3⟩) ?po4)
    case st4=>
     rintro x4 c st4 _ _ ⟨rfl,S4,r4⟩
     try dsimp only
     refine wpS_bind (wpS_get ?_)
     try dsimp only
     cases hz:(if ((sortPriv%PySem.Builtin.SortState.pending) st4).size>1 then ((sortPriv%PySem.Builtin.SortState.pending) st4)[((sortPriv%PySem.Builtin.SortState.pending) st4).size-2]? else none) with
     |none=>
      try dsimp only
      exact wpS_pure ⟨rfl,S4,r4⟩
     | some y4=>
      obtain⟨s5,k5,w5⟩:=y4
      try dsimp only
      have h4:(pendingOf st4).size>1:=by
       by_cases c4:(pendingOf st4).size>1
       ·exact c4
       ·rw [if_neg c4] at hz
        cases hz
      by_cases c5:w5<=pw
      ·rw [if_pos c5]
       exact wpS_pure ⟨rfl,S4,r4⟩
      ·rw [if_neg c5]
       refine wpS_bind (ziI C ok S4 h2 (i:=(pendingOf st4).size-2) (by (first|lia|omega)) fun st5 S5 _ e5=> ?_)
       try dsimp only
       rw[if_neg (by decide)]
       exact wpS_pure ⟨rfl,S5,r4.of_eq fun j j1 _=>e5 j j1⟩
    case po4=>
     rintro c st4 ⟨rfl,S4,r4⟩
     try dsimp only
     refine wpS_bind (wpS_modify ?_)
     have S5:=S4.power (k:=(pendingOf st4).size-1) (pw:=pw) (f:=fun x=>(x.1,x.2.1,pw)) (fun _=>⟨rfl,rfl⟩)
     exact wpS_bind (wpS_modify (wpS_pure ⟨lo+n,rfl,S5.push n1 r4,by (first|lia|omega),n2⟩))
 case post=>
  rintro c st1 ⟨rfl,S1⟩
  try dsimp only
  have l1:=S1.ch.len
  rw[Nat.zero_add,Array.length_toList] at l1
  refine wpS_bind (wpS_mono (wpS_forRange (I:=fun x c st2=>c=(none,())/\Stk kf kd a0 a0.size st2/\((pendingOf st2).size+x<=a0.size∨(pendingOf st2).size<=1)) (Q:=fun c st2=>c=(none,())/\Stk kf kd a0 a0.size st2/\(pendingOf st2).size<=1) ?st2 ?fi2 ⟨rfl,S1,.inl (by (first|lia|omega))⟩) ?po2)
  case fi2=>
   rintro c st2 ⟨rfl,S2,hor⟩
   rw[Nat.max_eq_right (Nat.zero_le _)] at hor
   exact⟨rfl,S2,by (first|lia|omega)⟩
  case st2=>
   rintro x c st2 _ hx ⟨rfl,S2,hor⟩
   try dsimp only
   refine wpS_bind (wpS_get ?_)
   try dsimp only
   by_cases h1:(pendingOf st2).size<=1
   ·rw [if_pos h1]
    exact wpS_pure ⟨rfl,S2,h1⟩
   rw[if_neg h1]
   have h2:2<=(pendingOf st2).size:=by (first|lia|omega)
   refine wpS_bind (show wpS M A E s (zc6 _) _ st2 from ziI C ok S2 (Nat.le_refl _) ?_ fun st3 S3 e3 _=> ?_)
   ·exact zmG (show (pendingOf st2).size-2-1+1<(pendingOf st2).size by (first|lia|omega)) (show (pendingOf st2).size-2+1<(pendingOf st2).size by (first|lia|omega))
   try dsimp only
   rw[if_neg (by decide)]
   exact wpS_pure ⟨rfl,S3,by (first|lia|omega)⟩
  case po2=>
   rintro c st2 ⟨rfl,S2,hor⟩
   try dsimp only
   refine wpS_pure (h st2 S2.perm S2.failed ?_)
   have c2:=S2.ch
   have r2:=S2.runs
   have l2:(pendingOf st2).toList.length<=1:=by rw[Array.length_toList];exact hor
   match e:(pendingOf st2).toList with
   |[]=>
    rw[e] at c2
    have:0=a0.size:=c2
    intro i j p q _ _ hj
    (first|lia|omega)
   |[y]=>
    rw[e] at c2 r2
    obtain⟨e1,_,e2⟩:=c2
    have:=r2 y (List.mem_singleton.mpr rfl)
    have e3:0+y.2.1=a0.size:=e2
    rw[e1,e3] at this
    exact this
   |_::_::_=>
    rw[e] at l2
    simp at l2
end
noncomputable def hS (h:Heap)(a:Addr)(vs:List Value):Heap:=((h.update a (Obj.mapSeq fun _=>(#[]:Array Value))).push (seqObj "tuple" vs.toArray 0)).push (seqObj "list" #[] 0)
section
variable {prog:Program}{w:World}{A:Around}{E:Value->Shared->Prop}{s:Shared}{O:KeyOrd}{kf:Keyed->O.α}{okk:Keyed->Prop}{kd:SortKind}
theorem listSortA {a:Addr}{vs:List Value}{n:Nat}{P:PySem.Fin->Shared->Prop}(ho:s.heap.get? a=some (seqObj "list" vs.toArray n))(hln:vs.length<=sizeLine)
  (hkk:2<=vs.length->∀Q:SortKind->Shared->Prop,Q kd {s with heap:=hS s.heap a vs}->wpAny (model prog w) A (keyKind' vs.toArray) Q E {s with heap:=hS s.heap a vs})
  (C:Cmp (model prog w) A E {s with heap:=hS s.heap a vs} kd O kf okk) (ok:∀p∈(pairsOf vs).toList,okk p)
  (h:∀st':SortSt,(arrOf st').Perm (pairsOf vs)->RunUp kf (arrOf st') 0 vs.length->P (.done (.ret .none)) {s with heap:=sortedHeap s.heap a vs ((arrOf st').map (·.2))}):
  wpAny (model prog w) A (Builtin.«list.sort» ⟨[.ref a],[]⟩) P E s:=by
 rw[list_sort_plain]
 have ha:a<s.heap.objs.size:=Heap.lt_size ho
 have zz:vs.toArray.size=vs.length:=by simp
 refine wpAny_bind (listItems_at ho rfl (wpAny_bind (listUpdate_at ho rfl ?_ (by rw[zz];exact hln) (Nat.zero_le _))))
 obtain⟨e1,ho1⟩:∃e,(s.heap.update a (Obj.mapSeq fun _=>(#[]:Array Value))).get? a=some (seqObj "list" #[] e):=⟨_,get?_update_seq ho fun _=>#[]⟩
 refine wpAny_bind (seqEpoch_at ho1 rfl (wpAny_bind (wpAny_newTuple ?_ (by simpa using hln))))
 refine wpAny_bind (wpAny_newList ?_ (Nat.zero_le _))
 refine wpAny_holding ?_
 have ho6:(hS s.heap a vs).get? a=some (seqObj "list" #[] e1):=by
  unfold hS
  rw[Heap.get?_push_ne _ _ _ (by rw[size_push',Heap.size_update];exact Nat.ne_of_lt (Nat.lt_succ_of_lt ha)),Heap.get?_push_ne _ _ _ (by rw[Heap.size_update];exact Nat.ne_of_lt ha)]
  exact ho1
 show wpAny (model prog w) A _ P E {s with heap:=hS s.heap a vs}
 dsimp only
 by_cases c:vs.toArray.size<2
 ·rw [if_pos c,if_pos c]
  refine wpAny_bind (wpAny_pure ?_)
  rw[StateT.run_pure]
  refine wpAny_bind (wpAny_pure ?_)
  dsimp only
  refine wpAny_bind (seqEpoch_at ho6 rfl (wpAny_bind (listUpdate_at ho6 rfl ?_ (Nat.zero_le _) ?_)))
  ·simp only[bne_self_eq_false,Bool.false_eq_true,if_false]
   refine wpAny_pure (h (SortSt.mk' general' (vs.toArray.zip vs.toArray) #[] 7 none) (Array.Perm.refl _) fun i j p q h1 h2 h3 hp hq=> ?_)
   have e:i=j:=by (first|lia|omega)
   subst e
   rw[hp] at hq
   cases hq
   exact KeyOrd.kle_refl _
  ·rw [Array.size_map]
   show (pairsOf vs).size<=_
   rw[pairsOf_size]
   (first|lia|omega)
 ·rw [if_neg c,if_neg c]
  refine wpAny_bind (hkk (by (first|lia|omega)) _ ?_)
  refine wpAny_bind (wpAny_mono (zlA (a0:=pairsOf vs) (st:=SortSt.mk' kd (vs.toArray.zip vs.toArray) #[] 7 none) (Q:=fun _ st'=>(arrOf st').Perm (pairsOf vs)/\failedOf st'=none/\RunUp kf (arrOf st') 0 (pairsOf vs).size) C ok rfl rfl rfl rfl fun st' a1 a2 a3=>⟨a1,a2,a3⟩) ?_ fun _ _ e=>e)
  rintro⟨⟨⟩,st'⟩ s' ⟨rfl,hp,hf,hs⟩
  dsimp only
  have zp:((arrOf st').map (·.2)).size=vs.length:=(Array.size_map ..).trans (hp.size_eq.trans (pairsOf_size _))
  refine wpAny_bind (seqEpoch_at ho6 rfl (wpAny_bind (listUpdate_at ho6 rfl ?_ (Nat.zero_le _) (by show ((arrOf st').map (·.2)).size<=_;(first|lia|omega)))))
  rw[hf]
  simp only[bne_self_eq_false,Bool.false_eq_true,if_false]
  rw[pairsOf_size] at hs
  exact wpAny_pure (h st' hp hs)
noncomputable def hC (h:Heap)(vs:List Value):Heap:=((h.push (seqObj "list" #[] 0)).update h.objs.size (Obj.mapSeq (·++vs.toArray))).push (seqObj "list" vs.toArray 0)
theorem zj2 (h:Heap)(vs:List Value):(hC h vs).get? (h.objs.size+1)=some (seqObj "list" vs.toArray 0):=by
 have e:((h.push (seqObj "list" #[] 0)).update h.objs.size (Obj.mapSeq (·++vs.toArray))).objs.size=h.objs.size+1:=by rw[Heap.size_update,size_push']
 unfold hC
 rw[<-e]
 exact Heap.get?_push_size _ rfl
theorem zkO {h:Heap}{vs:List Value}{b:Addr}{o:Obj}(e:h.get? b=some o):(hC h vs).get? b=some o:=by
 have hlt:b<h.objs.size:=Heap.lt_size e
 unfold hC
 rw[Heap.get?_push_ne _ _ _ (by rw[Heap.size_update,size_push'];exact Nat.ne_of_lt (Nat.lt_succ_of_lt hlt)),Heap.get?_update_ne _ _ _ _ (Nat.ne_of_lt hlt),Heap.get?_push_ne _ _ _ (Nat.ne_of_lt hlt)]
 exact e
theorem hS_old {h:Heap}{a:Addr}{vs:List Value}{b:Addr}{o:Obj}(hb:b≠a)(e:h.get? b=some o):(hS h a vs).get? b=some o:=by
 have hlt:b<h.objs.size:=Heap.lt_size e
 unfold hS
 rw[Heap.get?_push_ne _ _ _ (by rw[size_push',Heap.size_update];exact Nat.ne_of_lt (Nat.lt_succ_of_lt hlt)),Heap.get?_push_ne _ _ _ (by rw[Heap.size_update];exact Nat.ne_of_lt hlt),Heap.get?_update_ne _ _ _ _ hb]
 exact e
theorem sortedA {l:Addr}{vs:List Value}{Q:Value->Shared->Prop}(hl:s.heap.IsList l vs.toArray)(hln:vs.length<=sizeLine)
  (hkk:2<=vs.length->∀(A':Around) (E':Value->Shared->Prop) (h':Heap) (Q:SortKind->Shared->Prop),(∀b o,s.heap.get? b=some o->h'.get? b=some o)->Q kd {s with heap:=h'}->wpAny (model prog w) A' (keyKind' vs.toArray) Q E' {s with heap:=h'})
  (C:∀(A':Around) (E':Value->Shared->Prop) (h':Heap),(∀b o,s.heap.get? b=some o->h'.get? b=some o)->Cmp (model prog w) A' E' {s with heap:=h'} kd O kf okk) (ok:∀p∈(pairsOf vs).toList,okk p)
  (h:∀st':SortSt,(arrOf st').Perm (pairsOf vs)->RunUp kf (arrOf st') 0 vs.length->Q (.ref (s.heap.objs.size+1)) {s with heap:=sortedAll s.heap vs ((arrOf st').map (·.2))}):
  wpAny (model prog w) A (call (.builtin "sorted") [.ref l]) Q E s:=by
 refine Calls.call_function_entry kind_sorted plain_sorted entry_sorted (args_sorted1 _) ?_
 unfold Builtin.«sorted»
 refine wpAny_bind (m:=checkCount "sorted" 1 1 _) (wpAny_pure ?_)
 refine wpAny_bind (collect_list hl ?_ hln)
 refine wpAny_bind (wpAny_newList ?_ hln)
 have e:((s.heap.push (seqObj "list" #[] 0)).update s.heap.objs.size (Obj.mapSeq (·++vs.toArray))).objs.size=s.heap.objs.size+1:=by rw[Heap.size_update,size_push']
 show wpAny _ _ _ _ _ {s with heap:=hC s.heap vs}
 rw[e]
 have hk:∀b o,s.heap.get? b=some o->(hS (hC s.heap vs) (s.heap.objs.size+1) vs).get? b=some o:=fun b o g=>hS_old (Nat.ne_of_lt (Nat.lt_succ_of_lt (Heap.lt_size g))) (zkO g)
 refine wpAny_bind (wpAny_holding (wpAny_call_entry slot_list_sort ⟨_,zj2 s.heap vs,rfl⟩ entry_list_sort (listSortA (s:={s with heap:=hC s.heap vs}) (zj2 s.heap vs) hln (fun h2 Q' q=>hkk h2 _ _ _ Q' hk q) (C _ _ _ hk) ok fun st' a1 a2=>⟨_,rfl, ?_⟩) (args_list_sort _)))
 exact wpAny_pure ⟨_,rfl,h st' a1 a2⟩
end
noncomputable def intO:KeyOrd where
 α:=Int
 blt:=fun a b=>decide (a<b)
 irrefl:=fun a=>decide_eq_false (Int.lt_irrefl a)
 trans:=fun a b c h1 h2=>decide_eq_true (Int.lt_trans (of_decide_eq_true h1) (of_decide_eq_true h2))
 negTrans:=fun a b c h=>by
  have:=of_decide_eq_true h
  by_cases g:a<b
  ·exact .inl (decide_eq_true g)
  ·exact .inr (decide_eq_true (by (first|lia|omega)))
 total:=fun a b h1 h2=>by
  have:=of_decide_eq_false h1
  have:=of_decide_eq_false h2
  (first|lia|omega)
noncomputable def isI (p:Keyed):Prop:=∃n t,p.1=.int n t
theorem cmpI {prog:Program}{w:World}{A:Around}{E:Value->Shared->Prop}{s:Shared}:Cmp (model prog w) A E s oneType' intO (fun p=>numOf p.1) isI:=by
 refine⟨fun x y st Q hx hy hk q=> ?_⟩
 obtain⟨⟨a,t,ea⟩,⟨b,u,eb⟩⟩:=And.intro hx hy
 obtain⟨x1,x2⟩:=x
 obtain⟨y1,y2⟩:=y
 dsimp only at ea eb
 subst ea eb
 rw[lt'_eq]
 refine wpS_bind (wpS_get ?_)
 rw[hk,keyLt'_oneType]
 refine wpS_bind (wpS_lift (wpAny_attempt (oneLt_int ⟨rfl, ?_⟩)))
 exact wpS_pure q
end Srt
namespace L2
open PySem PySem.Spec PyProof.Rows
section
variable {X:Cx}
theorem zhL {xs:Array Keyed}{n:Nat}(h:Srt.RunUp (O:=Srt.intO) (fun p=>numOf p.1) xs 0 n)(hn:n<=xs.size):SortedTo xs n:=fun i j hij hj=>by
 have e1:xs[i]? =some (xs[i]'(by (first|lia|omega))):=Array.getElem?_eq_getElem (by (first|lia|omega))
 have e2:xs[j]? =some (xs[j]'(by (first|lia|omega))):=Array.getElem?_eq_getElem (by (first|lia|omega))
 have g:=h i j _ _ (Nat.zero_le _) hij hj e1 e2
 have g2:¬numOf (xs[j]'(by (first|lia|omega))).1<numOf (xs[i]'(by (first|lia|omega))).1:=of_decide_eq_false g
 unfold K
 rw[e1,e2]
 show numOf _<=numOf _
 (first|lia|omega)
noncomputable def zj3:List V->Hp->VK->Prop:=fun xs H Q=>∃(l:Addr) (ns:List Int),xs=[.ref l]/\H l=some (.lst (ns.map V.int))/\
 ∀p (ns':List Int),ns'.Perm ns->ns'.Pairwise (·<=·)->H p=none->Q (.ref p) (upd H p (.lst (ns'.map V.int)))
theorem zcU:zbu X (.builtin "sorted") zj3:=by
 intro pins s σ H xs us Q I rs h
 obtain⟨l,ns,rfl,hH,q⟩:=h
 obtain⟨u,rfl,ru⟩:=zbI rs
 cases (show u=Value.ref l from ru)
 obtain⟨z,its,n,r,hl,e⟩:=I.lstM hH
 have hln:its.length=ns.length:=by rw[<-r.length,zai]
 have hI:=zbq r
 have hz:its.length<=sizeLine:=by
  rw[hln,<-zai ns]
  exact z
 refine Srt.sortedA (l:=l) (vs:=its) (kd:=oneType') (O:=Srt.intO) (kf:=fun p=>numOf p.1) (okk:=Srt.isI) ⟨_,e,rfl,n,rfl⟩ hz (fun h2 A' E' h' Q' _ q'=> ?_) (fun A' E' h' _=>Srt.cmpI) (fun p hp=>hI.intKeys p hp) fun st' a1 a2=> ?_
 ·obtain ⟨v1,v2,rest,rfl⟩:∃v1 v2 rest,its=v1::v2::rest:=by
   match its,h2 with
   |v1::v2::rest,_=>exact⟨v1,v2,rest,rfl⟩
  rw[keyKind_ints hI]
  exact wpAny_pure q'
 ·have zs:(arrOf st').size=its.length:=a1.size_eq.trans (pairsOf_size _)
  have hs:SortedTo (arrOf st') (pairsOf its).size:=by
   rw[pairsOf_size]
   exact zhL a2 (by (first|lia|omega))
  obtain⟨ns',b1,b2,b3⟩:=sorted_out hI a1 hs
  generalize (arrOf st').map (·.2)=out at b1
  obtain⟨c,hc⟩:=sortedAll_at s.heap its out
  have hk:∀b o,s.heap.get? b=some o->(sortedAll s.heap its out).get? b=some o:=fun b o hb=>sortedAll_old hb
  have hf:H (s.heap.objs.size+1)=none:=I.hok.fresh (Nat.le_succ _)
  refine⟨.ref (s.heap.objs.size+1),_,I.laid (t':=s.toks) (o:=.lst (ns'.map V.int)) hk (Nat.le_succ _) ?_,rfl,q _ ns' b2 b3 hf⟩
  refine⟨?_,out.toList,c,zdj b1,by simpa using hc⟩
  rw[zai,b2.length_eq,<-zai ns]
  exact z
end
structure PEw (X:Cx) (e:Expr) (t:TE):Prop where
 h:PE X e t
structure PAw (X:Cx) (e:List Expr) (t:TA):Prop where
 h:PA X e t
structure PTw (X:Cx) (e:Expr) (t:TT):Prop where
 h:PT X e t
structure PWw (X:Cx) (e:Expr) (t:TT):Prop where
 h:PW X e t
structure PSw (X:Cx) (e:Stmt) (t:TS):Prop where
 h:PS X e t
structure PSsw (X:Cx) (e:List Stmt) (t:TS):Prop where
 h:PSs X e t
end L2
namespace Wr
open PySem PySem.Spec PyProof.Rows L2
end Wr
namespace L2
open PySem PySem.Spec PyProof.Rows
noncomputable def ltL:List Int->List Int->Bool
 |a::r,b::t=>decide (a<b)&&ltL r t
 |_,_=>true
noncomputable def zmH (a b:List Int):Bool:=decide (b.length<=a.length)&&ltL a b
noncomputable def prsL:List (List Int)->Bool
 |a::b::r=>zmH a b&&prsL (b::r)
 |_=>true
noncomputable def Chn (ns ks:List Int):Prop:=ks.Pairwise (fun a b=>b<a/\atO ns b<atO ns a)/\∀k∈ks,0<=k/\k<ns.length
structure Pat (ns L:List Int):Prop where
 inc:L.Pairwise (·<·)
 up:∀(j:Nat) a,L[j]? =some a->∃k ks,Chn ns (k::ks)/\ks.length=j/\atO ns k=a
 dn:∀k ks,Chn ns (k::ks)->∃a,L[ks.length]? =some a/\a<=atO ns k
noncomputable def cntL (r:List Int)(x:Int):Nat:=r.countP fun a=>decide (a<x)
noncomputable def putR:List (List Int)->Int->List (List Int)×Nat
 |[],x=>([[x]],0)
 |r::R,x=>if cntL r x=r.length then ((r++[x])::R,0) else (r.set (cntL r x) x::(putR R (r.getD (cntL r x) 0)).1,(putR R (r.getD (cntL r x) 0)).2+1)
noncomputable def zaF:List (List Int)->Nat->Int->List (List Int)
 |[],_,p=>[[p]]
 |s::Q,0,p=>(s++[p])::Q
 |s::Q,k+1,p=>s::zaF Q k p
noncomputable abbrev Inc (r:List Int):Prop:=r.Pairwise (·<·)
noncomputable def Ab (r s:List Int):Prop:=s.length<=r.length/\∀j,j<s.length->r.getD j 0<s.getD j 0
noncomputable def hdAb (r:List Int)(R:List (List Int)):Prop:=∀s,R.head? =some s->Ab r s
noncomputable def Tab:List (List Int)->Prop
 |[]=>True
 |r::R=>Inc r/\r≠[]/\hdAb r R/\Tab R
theorem zlB (a:Int)(t:List Int)(x:Int):cntL (a::t) x=cntL t x+(if a<x then 1 else 0):=by
 unfold cntL
 rw[List.countP_cons]
 simp
theorem zfT (r:List Int)(x:Int):cntL r x<=r.length:=List.countP_le_length
theorem zhM {x:Int}:∀{r:List Int},Inc r->∀{j:Nat},j<r.length->(r.getD j 0<x↔j<cntL r x)
 |[],_,_,h=>by cases h
 | a::t,hi,j,hj=>by
  obtain⟨h1,h2⟩:=List.pairwise_cons.mp hi
  rw[zlB]
  by_cases c:a<x
  ·rw [if_pos c]
   cases j with
   |zero=>simp;exact c
   |succ j=>
    have:=zhM h2 (x:=x) (j:=j) (by simpa using hj)
    show t.getD j 0<x↔_
    rw[this]
    (first|lia|omega)
  ·rw [if_neg c]
   have h0:cntL t x=0:=by
    unfold cntL
    rw[List.countP_eq_zero]
    intro b hb
    have:=h1 b hb
    simp
    (first|lia|omega)
   rw[h0]
   cases j with
   |zero=>simp;(first|lia|omega)
   |succ j=>
    have hj':j<t.length:=by simpa using hj
    have:=h1 (t.getD j 0) (by rw[List.getD_eq_getElem?_getD,List.getElem?_eq_getElem hj'];exact List.getElem_mem hj')
    show t.getD j 0<x↔_
    (first|lia|omega)
theorem incIff {r:List Int}:Inc r↔∀i j,i<j->j<r.length->r.getD i 0<r.getD j 0:=by
 unfold Inc
 rw[List.pairwise_iff_getElem]
 constructor
 ·intro h i j hij hj
  have:=h i j (by (first|lia|omega)) hj hij
  rw[List.getD_eq_getElem?_getD,List.getD_eq_getElem?_getD,List.getElem?_eq_getElem hj,List.getElem?_eq_getElem (by (first|lia|omega):i<r.length)]
  exact this
 ·intro h i j hi hj hij
  have:=h i j hij hj
  rw[List.getD_eq_getElem?_getD,List.getD_eq_getElem?_getD,List.getElem?_eq_getElem hj,List.getElem?_eq_getElem hi] at this
  exact this
theorem zeZ {r:List Int}{c j:Nat}{x:Int}(hc:c<r.length):(r.set c x).getD j 0=if j=c then x else r.getD j 0:=by
 rw[List.getD_eq_getElem?_getD,List.getD_eq_getElem?_getD]
 by_cases e:j=c
 ·rw [if_pos e,e,List.getElem?_set_self hc]
  rfl
 ·rw[if_neg e,List.getElem?_set_ne (Ne.symm e)]
theorem zlC {r:List Int}{j:Nat}{x:Int}:(r++[x]).getD j 0=if j<r.length then r.getD j 0 else if j=r.length then x else 0:=by
 rw[List.getD_eq_getElem?_getD,List.getD_eq_getElem?_getD]
 split
 ·rw[List.getElem?_append_left (by assumption)]
 ·rw [List.getElem?_append_right (by (first|lia|omega))]
  split
  ·rename_i e
   rw[e,Nat.sub_self]
   rfl
  ·rw [List.getElem?_eq_none (by simp;(first|lia|omega))]
   rfl
theorem memD {r:List Int}{j:Nat}(h:j<r.length):r.getD j 0∈r:=by
 rw[List.getD_eq_getElem?_getD,List.getElem?_eq_getElem h]
 exact List.getElem_mem h
theorem zj4 {r:List Int}{x:Int}(hi:Inc r)(hx:x∉r)(hc:cntL r x<r.length):x<r.getD (cntL r x) 0:=by
 have h1:=zhM hi (x:=x) hc
 have h2:=memD hc
 have h3:r.getD (cntL r x) 0≠x:=fun e=>hx (e▸h2)
 have h4:¬r.getD (cntL r x) 0<x:=fun z=>by have:=h1.mp z;(first|lia|omega)
 (first|lia|omega)
theorem ziJ {r:List Int}{x:Int}(hi:Inc r)(hx:x∉r)(hc:cntL r x<r.length):Inc (r.set (cntL r x) x):=by
 rw[incIff]
 intro i j hij hj
 rw[List.length_set] at hj
 have h:=incIff.mp hi i j hij hj
 rw[zeZ hc,zeZ hc]
 by_cases e1:i=cntL r x
 ·rw [if_pos e1,if_neg (by (first|lia|omega))]
  have:=zj4 hi hx hc
  rw[<-e1] at this
  (first|lia|omega)
 ·rw [if_neg e1]
  by_cases e2:j=cntL r x
  ·rw [if_pos e2]
   exact (zhM hi (x:=x) (by (first|lia|omega))).mpr (by (first|lia|omega))
  ·rw [if_neg e2]
   exact h
theorem zmI {r:List Int}{x:Int}(hi:Inc r)(hc:cntL r x=r.length):Inc (r++[x]):=by
 refine List.pairwise_append.mpr ⟨hi,List.pairwise_singleton _ _,fun a ha b hb=> ?_⟩
 rw[List.mem_singleton.mp hb]
 unfold cntL at hc
 rw[List.countP_eq_length] at hc
 exact of_decide_eq_true (hc a ha)
theorem zkP {r s:List Int}{x:Int}(h:Ab r s):Ab (r++[x]) s:=by
 obtain⟨h1,h2⟩:=h
 refine⟨by rw[List.length_append];(first|lia|omega),fun j hj=> ?_⟩
 rw[zlC,if_pos (by (first|lia|omega))]
 exact h2 j hj
theorem zmJ {r:List Int}{R:List (List Int)}{x:Int}(hi:Inc r)(hx:x∉r)(hc:cntL r x<r.length)(hR:hdAb r R)(hT:Tab R):hdAb (r.set (cntL r x) x) (putR R (r.getD (cntL r x) 0)).1:=by
 have hy:=zj4 hi hx hc
 generalize hc':cntL r x=c at*
 generalize hy':r.getD c 0=y at*
 intro s' hs'
 have low:∀j,j<=c->(r.set c x).getD j 0<y:=fun j hj=>by
  rw[zeZ hc]
  by_cases e:j=c
  ·rw[if_pos e];exact hy
  ·rw [if_neg e,<-hy']
   exact incIff.mp hi j c (by (first|lia|omega)) hc
 have leq:∀j,(r.set c x).getD j 0<=r.getD j 0:=fun j=>by
  rw[zeZ hc]
  by_cases e:j=c
  ·rw[if_pos e,e,hy'];(first|lia|omega)
  ·rw[if_neg e];exact Int.le_refl _
 cases R with
 |nil=>
  cases hs'
  refine⟨by rw[List.length_set];show 1<=_;(first|lia|omega),fun j hj=> ?_⟩
  have:j=0:=by simp at hj;exact hj
  subst this
  exact low 0 (Nat.zero_le _)
 | cons s R=>
  obtain⟨ab1,ab2⟩:=hR s rfl
  have hsI:Inc s:=hT.1
  have hle:cntL s y<=c:=by
   refine Nat.not_lt.mp fun z=> ?_
   have hcs:c<s.length:=Nat.lt_of_lt_of_le z (zfT s y)
   have h1:=(zhM hsI (x:=y) hcs).mpr z
   have h2:=ab2 c hcs
   rw[hy'] at h2
   (first|lia|omega)
  unfold putR at hs'
  by_cases e:cntL s y=s.length
  ·rw [if_pos e] at hs'
   cases hs'
   refine⟨by rw[List.length_append,List.length_set];show _+1<=_;(first|lia|omega),fun j hj=> ?_⟩
   rw[List.length_append] at hj
   have hj:j<s.length+1:=hj
   rw[zlC]
   by_cases e2:j<s.length
   ·rw [if_pos e2]
    have:=leq j
    have:=ab2 j e2
    (first|lia|omega)
   ·rw [if_neg e2,if_pos (by (first|lia|omega))]
    exact low j (by (first|lia|omega))
  ·rw [if_neg e] at hs'
   cases hs'
   have hcs:cntL s y<s.length:=by have:=zfT s y;(first|lia|omega)
   refine⟨by rw[List.length_set,List.length_set];exact ab1,fun j hj=> ?_⟩
   rw[List.length_set] at hj
   rw[zeZ (r:=s) hcs]
   by_cases e2:j=cntL s y
   ·rw [if_pos e2]
    exact low j (by (first|lia|omega))
   ·rw [if_neg e2]
    have:=leq j
    have:=ab2 j hj
    (first|lia|omega)
theorem zlD {r:List Int}{c:Nat}{x:Int}(hc:c<r.length):(r.getD c 0::r.set c x).Perm (x::r):=by
 have e:r.getD c 0=r[c]:=by rw[List.getD_eq_getElem?_getD,List.getElem?_eq_getElem hc];rfl
 rw[e,List.set_eq_take_append_cons_drop,if_pos hc]
 have e2:r=r.take c++r[c]::r.drop (c+1):=by
  rw[<-List.drop_eq_getElem_cons hc,List.take_append_drop]
 refine (List.Perm.cons _ List.perm_middle).trans ?_
 refine (List.Perm.swap _ _ _).trans (List.Perm.cons _ ?_)
 conv=>rhs;rw[e2]
 exact List.perm_middle.symm
theorem zfU:∀(R:List (List Int)) (x:Int),Tab R->R.flatten.Nodup->x∉R.flatten->Tab (putR R x).1/\(putR R x).1.flatten.Perm (x::R.flatten)
 |[],x,_,_,_=>⟨⟨List.pairwise_singleton _ _,by simp,(fun s h=>by cases h),trivial⟩,.refl _⟩
 | r::R,x,hT,nd,hx=>by
  obtain⟨hi,hne,hA,hTR⟩:=hT
  rw[List.flatten_cons] at nd hx
  have hxr:x∉r:=fun z=>hx (List.mem_append_left _ z)
  have nd':=List.nodup_append.mp nd
  unfold putR
  by_cases e:cntL r x=r.length
  ·rw [if_pos e]
   refine⟨⟨zmI hi e,by simp,fun s hs=>zkP (hA s hs),hTR⟩, ?_⟩
   rw[List.flatten_cons,List.flatten_cons,List.append_assoc]
   exact List.perm_middle
  ·rw [if_neg e]
   have hc:cntL r x<r.length:=by have:=zfT r x;(first|lia|omega)
   have hyr:=memD hc
   have hyF:r.getD (cntL r x) 0∉R.flatten:=fun z=>nd'.2.2 _ hyr _ z rfl
   obtain⟨i1,i2⟩:=zfU R (r.getD (cntL r x) 0) hTR nd'.2.1 hyF
   refine⟨⟨ziJ hi hxr hc, ?_,zmJ hi hxr hc hA hTR,i1⟩, ?_⟩
   ·intro z
    have:=congrArg List.length z
    rw[List.length_set] at this
    simp at this
    exact hne this
   ·rw [List.flatten_cons,List.flatten_cons]
    refine (List.Perm.append_left _ i2).trans ?_
    refine List.perm_middle.trans ?_
    show ((r.getD (cntL r x) 0::r.set (cntL r x) x)++R.flatten).Perm ((x::r)++R.flatten)
    exact (zlD hc).append_right _
theorem zfV:∀(R:List (List Int)) (x:Int),(putR R x).1.map List.length=(zaF R (putR R x).2 0).map List.length/\(putR R x).2<=R.length
 |[],x=>⟨rfl,Nat.le_refl _⟩
 | r::R,x=>by
  obtain⟨h1,h2⟩:=zfV R (r.getD (cntL r x) 0)
  unfold putR
  split
  ·exact⟨by simp[zaF],Nat.zero_le _⟩
  ·refine ⟨?_,by simp only[List.length_cons];(first|lia|omega)⟩
   show List.map List.length (_::_)=List.map List.length (r::zaF R _ 0)
   rw[List.map_cons,List.map_cons,h1,List.length_set]
theorem ziK:∀(Q P:List (List Int)) (k:Nat) (p q:Int),Q.map List.length=P.map List.length->(zaF Q k p).map List.length=(zaF P k q).map List.length
 |[],[],_,_,_,_=>rfl
 |[],_::_,_,_,_,h=>by cases h
 |_::_,[],_,_,_,h=>by cases h
 |s::Q,r::P,0,p,q,h=>by
  rw[List.map_cons,List.map_cons] at h
  injection h with h1 h2
  show List.map List.length ((s++[p])::Q)=List.map List.length ((r++[q])::P)
  rw[List.map_cons,List.map_cons,h2,List.length_append,List.length_append,h1]
  rfl
 |s::Q,r::P,k+1,p,q,h=>by
  rw[List.map_cons,List.map_cons] at h
  injection h with h1 h2
  show List.map List.length (s::zaF Q k p)=List.map List.length (r::zaF P k q)
  rw[List.map_cons,List.map_cons,h1,ziK Q P k p q h2]
theorem zgQ:∀(Q:List (List Int)) (k:Nat) (p:Int),k<=Q.length->(zaF Q k p).flatten.Perm (p::Q.flatten)
 |[],_,p,_=>.refl _
 |s::Q,0,p,_=>by
  show ((s++[p])++Q.flatten).Perm (p::(s++Q.flatten))
  rw[List.append_assoc]
  exact List.perm_middle
 |s::Q,k+1,p,h=>by
  show (s++(zaF Q k p).flatten).Perm (p::(s++Q.flatten))
  refine (List.Perm.append_left _ (zgQ Q k p (by simpa using h))).trans ?_
  exact List.perm_middle
theorem ziL:∀(Q P:List (List Int)) (k:Nat) (p:Int),Tab Q->(∀y∈Q.flatten,y<p)->Tab P->(zaF Q k p).map List.length=P.map List.length->Tab (zaF Q k p)
 |[],_,_,p,_,_,_,_=>⟨List.pairwise_singleton _ _,by simp,(fun s h=>by cases h),trivial⟩
 |s::Q,P,0,p,hT,hp,_,_=>by
  obtain⟨hi,hne,hA,hTQ⟩:=hT
  refine⟨List.pairwise_append.mpr ⟨hi,List.pairwise_singleton _ _,fun a ha b hb=> ?_⟩,by simp,fun s hs=>zkP (hA s hs),hTQ⟩
  rw[List.mem_singleton.mp hb]
  exact hp a (by rw[List.flatten_cons];exact List.mem_append_left _ ha)
 | s ::Q,P,k+1,p,hT,hp,hP,hl=>by
  obtain⟨hi,hne,hA,hTQ⟩:=hT
  have hpQ:∀y∈Q.flatten,y<p:=fun y hy=>hp y (by rw[List.flatten_cons];exact List.mem_append_right _ hy)
  have hps:∀y∈s,y<p:=fun y hy=>hp y (by rw[List.flatten_cons];exact List.mem_append_left _ hy)
  have hl':List.map List.length (s::zaF Q k p)=P.map List.length:=hl
  cases P with
  |nil=>cases hl'
  | cons r P=>
   rw[List.map_cons,List.map_cons] at hl'
   injection hl' with l1 l2
   obtain⟨_,_,pA,pT⟩:=hP
   have ih:=ziL Q P k p hTQ hpQ pT l2
   refine⟨hi,hne,fun s' hs'=> ?_,ih⟩
   have hlen:s'.length<=s.length:=by
    cases P with
    |nil=>
     rw[List.map_nil] at l2
     have:=List.map_eq_nil_iff.mp l2
     rw[this] at hs'
     cases hs'
    | cons r2 P=>
     have h1:=(pA r2 rfl).1
     cases hq:zaF Q k p with
     |nil=>rw[hq] at hs';cases hs'
     |cons a b=>
      rw[hq] at hs' l2
      cases hs'
      rw[List.map_cons,List.map_cons] at l2
      injection l2 with l3 l4
      (first|lia|omega)
   refine⟨hlen,fun j hj=> ?_⟩
   cases Q with
   |nil=>
    cases hs'
    have hj0:j=0:=by simp at hj;exact hj
    subst hj0
    exact hps _ (memD (by simp at hlen;(first|lia|omega)))
   | cons s2 Q=>
    cases k with
    | zero=>
     cases hs'
     rw[zlC]
     by_cases e:j<s2.length
     ·rw [if_pos e]
      exact (hA s2 rfl).2 j e
     ·rw [List.length_append] at hj
      have hj:j<s2.length+1:=hj
      rw[if_neg e,if_pos (by (first|lia|omega))]
      exact hps _ (memD (by rw[List.length_append] at hlen;have hlen:s2.length+1<=s.length:=hlen;(first|lia|omega)))
    |succ k=>
     have e:s'=s2:=(Option.some.inj hs').symm
     subst e
     exact (hA _ rfl).2 j hj
noncomputable def Dc (l:List Int)(k:Nat):Prop:=∃s:List Int,s.Sublist l/\s.Pairwise (fun a b=>b<a)/\s.length=k
noncomputable def KE (l l':List Int):Prop:=∀a b k,Dc (a++l++b) k↔Dc (a++l'++b) k
theorem KE.refl (l:List Int):KE l l:=fun _ _ _=>Iff.rfl
theorem KE.symm {l l':List Int}(h:KE l l'):KE l' l:=fun a b k=>(h a b k).symm
theorem KE.trans {l l' l'':List Int}(h:KE l l')(h':KE l' l''):KE l l'':=fun a b k=>(h a b k).trans (h' a b k)
theorem KE.ctx {l l':List Int}(u v:List Int)(h:KE l l'):KE (u++l++v) (u++l'++v):=fun a b k=>by
 have:=h (a++u) (v++b) k
 simpa [List.append_assoc] using this
theorem KE.cons {l l':List Int}(x:Int)(h:KE l l'):KE (x::l) (x::l'):=by
 have:=KE.ctx [x] [] h
 simpa using this
theorem KE.app {l l':List Int}(v:List Int)(h:KE l l'):KE (l++v) (l'++v):=by
 have:=KE.ctx [] v h
 simpa using this
theorem KE.pre {l l':List Int}(u:List Int)(h:KE l l'):KE (u++l) (u++l'):=by
 have:=KE.ctx u [] h
 simpa using this
theorem zny {a b l' s1 s2 s3 t2:List Int}(h1:s1.Sublist a)(h3:s3.Sublist b)(hp:(s1++s2++s3).Pairwise fun a b=>b<a)(ht:t2.Sublist l')(hpt:t2.Pairwise fun a b=>b<a)(hlen:t2.length=s2.length)(hle:∀v∈t2,(∃u∈s2,v<=u)/\∃u∈s2,u<=v):Dc (a++l'++b) (s1++s2++s3).length:=by
 refine⟨s1++t2++s3,(h1.append ht).append h3, ?_,by simp[hlen]⟩
 rw[List.append_assoc] at hp ⊢
 obtain⟨p1,p2,p3⟩:=List.pairwise_append.mp hp
 obtain⟨q1,q2,q3⟩:=List.pairwise_append.mp p2
 refine List.pairwise_append.mpr ⟨p1,List.pairwise_append.mpr ⟨hpt,q2,fun x hx y hy=> ?_⟩,fun x hx y hy=> ?_⟩
 ·obtain ⟨_,u,hu,huv⟩:=hle x hx
  have:=q3 u hu y hy
  (first|lia|omega)
 ·rcases List.mem_append.mp hy with hy|hy
  ·obtain ⟨⟨u,hu,huv⟩,_⟩:=hle y hy
   have:=p3 x hx u (List.mem_append_left _ hu)
   (first|lia|omega)
  ·exact p3 x hx y (List.mem_append_right _ hy)
theorem zgR {l l':List Int}(h:∀s2:List Int,s2.Sublist l->s2.Pairwise (fun a b=>b<a)->∃t2:List Int,t2.Sublist l'/\t2.Pairwise (fun a b=>b<a)/\t2.length=s2.length/\∀v∈t2,(∃u∈s2,v<=u)/\∃u∈s2,u<=v){a b:List Int}{k:Nat}(hd:Dc (a++l++b) k):Dc (a++l'++b) k:=by
 obtain⟨s,hs,hp,rfl⟩:=hd
 obtain⟨s12,s3,rfl,h12,h3⟩:=List.sublist_append_iff.mp hs
 obtain⟨s1,s2,rfl,h1,h2⟩:=List.sublist_append_iff.mp h12
 have hp2:s2.Pairwise fun a b=>b<a:=(List.pairwise_append.mp (List.pairwise_append.mp hp).1).2.1
 obtain⟨t2,ht,hpt,hl,hle⟩:=h s2 h2 hp2
 exact zny h1 h3 hp ht hpt hl hle
theorem zaS (s:List Int):∀v∈s,(∃u∈s,v<=u)/\∃u∈s,u<=v:=fun v hv=>⟨⟨v,hv,Int.le_refl _⟩,⟨v,hv,Int.le_refl _⟩⟩
theorem zj5 {p q r:Int}{s:List Int}(h:s.Sublist [p,q,r]):s=[]∨s=[p]∨s=[q]∨s=[r]∨s=[p,q]∨s=[p,r]∨s=[q,r]∨s=[p,q,r]:=by
 cases h with
 | cons _ h=>
  cases h with
  |cons _ h=>
   cases h with
   |cons _ h=>cases h;simp
   |cons_cons _ h=>cases h;simp
  |cons_cons _ h=>
   cases h with
   |cons _ h=>cases h;simp
   |cons_cons _ h=>cases h;simp
 | cons_cons _ h=>
  cases h with
  |cons _ h=>
   cases h with
   |cons _ h=>cases h;simp
   |cons_cons _ h=>cases h;simp
  |cons_cons _ h=>
   cases h with
   |cons _ h=>cases h;simp
   |cons_cons _ h=>cases h;simp
theorem zmK {x y z:Int}(h1:x<y)(h2:y<z):KE [y,x,z] [y,z,x]:=fun a b k=>by
 constructor
 ·refine zgR fun s hs hp=> ?_
  rcases zj5 hs with rfl|rfl|rfl|rfl|rfl|rfl|rfl|rfl
  ·exact⟨[],by simp,hp,rfl,zaS _⟩
  ·exact⟨[y],by simp,hp,rfl,zaS _⟩
  ·exact⟨[x],by simp,hp,rfl,zaS _⟩
  ·exact⟨[z],by simp,hp,rfl,zaS _⟩
  ·exact⟨[y,x],by simp,hp,rfl,zaS _⟩
  ·simp at hp;(first|lia|omega)
  ·simp at hp;(first|lia|omega)
  ·simp at hp;(first|lia|omega)
 ·refine zgR fun s hs hp=> ?_
  rcases zj5 hs with rfl|rfl|rfl|rfl|rfl|rfl|rfl|rfl
  ·exact⟨[],by simp,hp,rfl,zaS _⟩
  ·exact⟨[y],by simp,hp,rfl,zaS _⟩
  ·exact⟨[z],by simp,hp,rfl,zaS _⟩
  ·exact⟨[x],by simp,hp,rfl,zaS _⟩
  ·simp at hp;(first|lia|omega)
  ·exact⟨[y,x],by simp,hp,rfl,zaS _⟩
  ·refine ⟨[y,x],by simp,by simp;(first|lia|omega),rfl,fun v hv=> ?_⟩
   rcases List.mem_cons.mp hv with rfl|hv
   ·exact⟨⟨z,by simp,by (first|lia|omega)⟩,⟨x,by simp,by (first|lia|omega)⟩⟩
   ·rw [List.mem_singleton.mp hv]
    exact⟨⟨z,by simp,by (first|lia|omega)⟩,⟨x,by simp,Int.le_refl _⟩⟩
  ·simp at hp;(first|lia|omega)
theorem zmL {x y z:Int}(h1:x<y)(h2:y<z):KE [x,z,y] [z,x,y]:=fun a b k=>by
 constructor
 ·refine zgR fun s hs hp=> ?_
  rcases zj5 hs with rfl|rfl|rfl|rfl|rfl|rfl|rfl|rfl
  ·exact⟨[],by simp,hp,rfl,zaS _⟩
  ·exact⟨[x],by simp,hp,rfl,zaS _⟩
  ·exact⟨[z],by simp,hp,rfl,zaS _⟩
  ·exact⟨[y],by simp,hp,rfl,zaS _⟩
  ·simp at hp;(first|lia|omega)
  ·simp at hp;(first|lia|omega)
  ·exact⟨[z,y],by simp,hp,rfl,zaS _⟩
  ·simp at hp;(first|lia|omega)
 ·refine zgR fun s hs hp=> ?_
  rcases zj5 hs with rfl|rfl|rfl|rfl|rfl|rfl|rfl|rfl
  ·exact⟨[],by simp,hp,rfl,zaS _⟩
  ·exact⟨[z],by simp,hp,rfl,zaS _⟩
  ·exact⟨[x],by simp,hp,rfl,zaS _⟩
  ·exact⟨[y],by simp,hp,rfl,zaS _⟩
  ·refine ⟨[z,y],by simp,by simp;(first|lia|omega),rfl,fun v hv=> ?_⟩
   rcases List.mem_cons.mp hv with rfl|hv
   ·exact⟨⟨v,by simp,Int.le_refl _⟩,⟨x,by simp,by (first|lia|omega)⟩⟩
   ·rw [List.mem_singleton.mp hv]
    exact⟨⟨z,by simp,by (first|lia|omega)⟩,⟨x,by simp,by (first|lia|omega)⟩⟩
  ·exact⟨[z,y],by simp,hp,rfl,zaS _⟩
  ·simp at hp;(first|lia|omega)
  ·simp at hp;(first|lia|omega)
theorem zgS {x:Int}:∀(y:Int) (v:List Int),Inc (y::v)->x<y->KE (y::v++[x]) (y::x::v)
 |_,[],_,_=>KE.refl _
 |y,z::v,hi,hx=>by
  obtain⟨h1,h2⟩:=List.pairwise_cons.mp hi
  have hyz:=h1 z List.mem_cons_self
  have ih:=zgS (x:=x) z v h2 (by (first|lia|omega))
  refine (KE.cons y ih).trans ?_
  have:=KE.app v (zmK hx hyz)
  exact this.symm
theorem ziM {x y:Int}:∀(u:List Int),Inc (u++[x])->x<y->KE (u++[y,x]) (y::(u++[x]))
 |[],_,_=>KE.refl _
 | a ::u,hi,hx=>by
  obtain⟨h1,h2⟩:=List.pairwise_cons.mp hi
  have ih:=ziM u h2 hx
  refine (KE.cons a ih).trans ?_
  cases hb:u++[x] with
  |nil=>simp at hb
  | cons b w=>
   have hab:a<b:=h1 b (by show b∈u++[x];rw[hb];exact List.mem_cons_self)
   have hby:b<y:=by
    have hbm:b∈u++[x]:=by rw[hb];exact List.mem_cons_self
    rcases List.mem_append.mp hbm with z|z
    ·have:=(List.pairwise_append.mp h2).2.2 b z x (by simp)
     (first|lia|omega)
    ·rw [List.mem_singleton.mp z]
     exact hx
   have:=KE.app w (zmL hab hby)
   show KE (a::y::b::w) (y::(a::u++[x]))
   rw[List.cons_append,hb]
   exact this
theorem zmM {r:List Int}{x:Int}(hi:Inc r)(hx:x∉r)(hc:cntL r x<r.length):KE (r++[x]) (r.getD (cntL r x) 0::r.set (cntL r x) x):=by
 have hi':=ziJ hi hx hc
 have hy:=zj4 hi hx hc
 have e:r.getD (cntL r x) 0=r[cntL r x]:=by rw[List.getD_eq_getElem?_getD,List.getElem?_eq_getElem hc];rfl
 rw[e] at hy ⊢
 rw[List.set_eq_take_append_cons_drop,if_pos hc] at hi' ⊢
 have e2:r=r.take (cntL r x)++r[cntL r x]::r.drop (cntL r x+1):=by
  rw[<-List.drop_eq_getElem_cons hc,List.take_append_drop]
 generalize r.take (cntL r x)=u at*
 generalize r.drop (cntL r x+1)=v at*
 generalize r[cntL r x]=y at*
 rw[e2]
 rw[e2] at hi
 have h1:=zgS (x:=x) y v ((List.pairwise_append.mp hi).2.1) hy
 have h2:KE (u++(y::v++[x])) (u++(y::x::v)):=KE.pre u h1
 have hux:Inc (u++[x]):=hi'.sublist (by
  have:u++x::v=(u++[x])++v:=by simp
  rw[this]
  exact List.sublist_append_left _ _)
 have h3:=KE.app v (ziM u hux hy)
 have h2':KE (u++y::v++[x]) (u++[y,x]++v):=by simpa using h2
 refine h2'.trans ?_
 simpa using h3
noncomputable def rdW:List (List Int)->List Int
 |[]=>[]
 |r::R=>rdW R++r
theorem zkQ:∀(R:List (List Int)) (x:Int),Tab R->R.flatten.Nodup->x∉R.flatten->KE (rdW R++[x]) (rdW (putR R x).1)
 |[],x,_,_,_=>KE.refl _
 | r::R,x,hT,nd,hx=>by
  obtain⟨hi,hne,hA,hTR⟩:=hT
  rw[List.flatten_cons] at nd hx
  have hxr:x∉r:=fun z=>hx (List.mem_append_left _ z)
  have nd':=List.nodup_append.mp nd
  unfold putR
  by_cases e:cntL r x=r.length
  ·rw [if_pos e]
   show KE (rdW R++r++[x]) (rdW R++(r++[x]))
   rw[List.append_assoc]
   exact KE.refl _
  ·rw [if_neg e]
   have hc:cntL r x<r.length:=by have:=zfT r x;(first|lia|omega)
   have hyr:=memD hc
   have hyF:r.getD (cntL r x) 0∉R.flatten:=fun z=>nd'.2.2 _ hyr _ z rfl
   have ih:=zkQ R (r.getD (cntL r x) 0) hTR nd'.2.1 hyF
   show KE (rdW R++r++[x]) (rdW (putR R (r.getD (cntL r x) 0)).1++r.set (cntL r x) x)
   rw[List.append_assoc]
   refine (KE.pre _ (zmM hi hxr hc)).trans ?_
   have:=KE.app (r.set (cntL r x) x) ih
   simpa using this
noncomputable def tabI (ns:List Int):Nat->List (List Int)×List (List Int)
 |0=>([],[])
 |i+1=>((putR (tabI ns i).1 (atO ns i)).1,zaF (tabI ns i).2 (putR (tabI ns i).1 (atO ns i)).2 i)
structure TabsI (ns:List Int) (i:Nat):Prop where
 tp:Tab (tabI ns i).1
 pp:(tabI ns i).1.flatten.Perm (ns.take i)
 ke:KE (ns.take i) (rdW (tabI ns i).1)
 hd:(tabI ns i).1.headD []=zjW (ns.take i)
 tq:Tab (tabI ns i).2
 qp:(tabI ns i).2.flatten.Perm (num0 i)
 ln:(tabI ns i).2.map List.length=(tabI ns i).1.map List.length
theorem zmN (R:List (List Int))(x:Int):(putR R x).1.headD []=patO (R.headD []) x:=by
 cases R with
 |nil=>rfl
 |cons r R=>
  unfold putR patO
  show (if cntL r x=r.length then _ else _:List (List Int)×Nat).1.headD []=if cntL r x=r.length then _ else _
  split<;>rfl
theorem zed {m:Nat}{ns:List Int}(ho:Ord m ns):∀i,i<=m->TabsI ns i
 |0,_=>⟨trivial,.refl _,KE.refl _,rfl,trivial,.refl _,rfl⟩
 | i+1,hi=>by
  have T:=zed ho i (by (first|lia|omega))
  have ln:=ho.len
  have hil:i<ns.length:=by (first|lia|omega)
  have nd:=ho.nodup
  have hx:ns[i]? =some (atO ns i):=by rw[List.getElem?_eq_getElem hil,zbk hil]
  have htk:ns.take (i+1)=ns.take i++[atO ns i]:=by rw[List.take_succ,hx];rfl
  have ndt:(ns.take (i+1)).Nodup:=nd.sublist (List.take_sublist _ _)
  rw[htk,List.nodup_append] at ndt
  have ndF:(tabI ns i).1.flatten.Nodup:=T.pp.nodup_iff.mpr ndt.1
  have hxF:atO ns i∉(tabI ns i).1.flatten:=fun z=>ndt.2.2 _ (T.pp.mem_iff.mp z) _ (by simp) rfl
  obtain⟨t1,t2⟩:=zfU _ _ T.tp ndF hxF
  obtain⟨l1,l2⟩:=zfV (tabI ns i).1 (atO ns i)
  have hlen:(tabI ns i).2.length=(tabI ns i).1.length:=by
   have:=congrArg List.length T.ln
   simpa using this
  have al:(zaF (tabI ns i).2 (putR (tabI ns i).1 (atO ns i)).2 i).map List.length=(putR (tabI ns i).1 (atO ns i)).1.map List.length:=by
   rw[l1]
   exact ziK _ _ _ _ _ T.ln
  have hbelow:∀y∈(tabI ns i).2.flatten,y<(i:Int):=fun y hy=>(zaP (T.qp.mem_iff.mp hy)).2
  refine⟨t1, ?_, ?_, ?_,ziL _ _ _ _ T.tq hbelow t1 al, ?_,al⟩
  ·rw [htk]
   refine t2.trans ?_
   refine (List.Perm.cons _ T.pp).trans ?_
   exact (List.perm_append_comm (l₁:=[atO ns i]) (l₂:=ns.take i))
  ·rw [htk]
   exact (KE.app _ T.ke).trans (zkQ _ _ T.tp ndF hxF)
  ·rw [htk,ziC,<-T.hd]
   exact zmN _ _
  ·refine (zgQ _ _ _ (by (first|lia|omega))).trans ?_
   refine (List.Perm.cons _ T.qp).trans ?_
   have e:num0 (i+1)=num0 i++[(i:Int)]:=by
    unfold num0
    rw[List.range_succ,List.map_append]
    rfl
   rw[e]
   exact (List.perm_append_comm (l₁:=[(i:Int)]) (l₂:=num0 i))
noncomputable def tupI (l:List Int):PyData:=.tuple (l.map PyData.int)
theorem zee:∀{R:List (List Int)},Tab R->∀r∈R,Inc r/\r≠[]
 |[],_,_,h=>by cases h
 |a::R,hT,r,hr=>by
  obtain⟨h1,h2,_,h4⟩:=hT
  rcases List.mem_cons.mp hr with rfl|hr
  ·exact⟨h1,h2⟩
  ·exact zee h4 r hr
theorem zfW:∀{R:List (List Int)},(∀r∈R,r≠[])->R.length<=R.flatten.length
 |[],_=>Nat.le_refl _
 |r::R,h=>by
  have h1:=List.length_pos_iff.mpr (h r List.mem_cons_self)
  have h2:=zfW fun r hr=>h r (List.mem_cons_of_mem _ hr)
  rw[List.flatten_cons,List.length_append,List.length_cons]
  (first|lia|omega)
theorem zj6 {ns:List Int}{i:Nat}(T:TabsI ns i)(hi:i<=60):(tabI ns i).1.length<=60/\(tabI ns i).2.length<=60/\(∀r∈(tabI ns i).1,r.length<=60)/\(∀r∈(tabI ns i).2,r.length<=60):=by
 have f1:(tabI ns i).1.flatten.length<=60:=by
  rw[T.pp.length_eq,List.length_take]
  (first|lia|omega)
 have f2:(tabI ns i).2.flatten.length<=60:=by
  rw[T.qp.length_eq,zaV]
  exact hi
 have g1:=zfW fun r hr=>(zee T.tp r hr).2
 have g2:=zfW fun r hr=>(zee T.tq r hr).2
 exact⟨by (first|lia|omega),by (first|lia|omega),fun r hr=>Nat.le_trans (List.sublist_flatten_of_mem hr).length_le f1,fun r hr=>Nat.le_trans (List.sublist_flatten_of_mem hr).length_le f2⟩
theorem ziN {X:Cx}(K:PySem.W.Frag)(hK:X.K=K):zbu X (.type "tuple") (fun xs H Q=>∃p ys,xs=[.ref p]/\((SqL K H p ys/\∀l,H l=none->Q (.ref l) (upd H l (.tup ys)))∨(SqT K H p ys/\Q (.ref p) H))):=hK▸zar
noncomputable abbrev LsAt (H:Hp)(zs:List Addr)(F:List (List Int)):Prop:=Paired (fun z (f:List Int)=>H z=some (.lst (f.map V.int))) zs F
theorem zcg {α β:Type}{R:α->β->Prop}:∀{l:List α} {m:List β},Paired R l m->∀{i:Nat} {z:α},l[i]? =some z->∃r,m[i]? =some r/\R z r
 |_,_,.nil,i,z,h=>by simp at h
 | _,_,.cons r t,i,z,h=>by
  cases i with
  |zero=>
   cases h
   exact⟨_,rfl,r⟩
  |succ i=>exact zcg t h
theorem LsAt.setAt {H:Hp}:∀{zs:List Addr} {F:List (List Int)} {c:Nat} {z:Addr} {f:List Int},LsAt H zs F->zs.Nodup->zs[c]? =some z->LsAt (upd H z (.lst (f.map V.int))) zs (F.set c f)
 |_,_,_,_,_,.nil,_,h=>by simp at h
 | _ ::zs,_,c,z,f,.cons (a:=y) (b:=g) r t,nd,h=>by
  obtain⟨n1,n2⟩:=List.nodup_cons.mp nd
  cases c with
  | zero=>
   have:y=z:=by simpa using h
   subst this
   refine .cons zab ?_
   have:∀{ys:List Addr} {G:List (List Int)},LsAt H ys G->y∉ys->LsAt (upd H y (.lst (f.map V.int))) ys G:=by
    intro ys G hh
    induction hh with
    |nil=>exact fun _=>.nil
    |cons r' _ ih=>
     intro hn
     refine .cons ?_ (ih fun z=>hn (List.mem_cons_of_mem _ z))
     rw[zah (fun z=>hn (by rw[z];exact List.mem_cons_self))]
     exact r'
   exact this t n1
  |succ c=>
   have hz:zs[c]? =some z:=by simpa using h
   refine .cons ?_ (LsAt.setAt t n2 hz)
   rw[zah (fun e=>n1 (by rw[e];exact List.mem_of_getElem? hz))]
   exact r
theorem LsAt.off {H:Hp}{z:Addr}{o:HO}:∀{ys:List Addr} {G:List (List Int)},LsAt H ys G->z∉ys->LsAt (upd H z o) ys G
 |_,_,.nil,_=>.nil
 |_,_,.cons r t,hn=>by
  refine .cons ?_ (LsAt.off t fun h=>hn (List.mem_cons_of_mem _ h))
  rw[zah (fun e=>hn (by rw[e];exact List.mem_cons_self))]
  exact r
theorem LsAt.same {H H':Hp}{zs:List Addr}{F:List (List Int)}(h:LsAt H zs F)(s:Same H H'):LsAt H' zs F:=Paired.mapP h fun _ _ e=>s _ _ e
noncomputable def RTup (H0:Hp)(x v:V)(H:Hp):Prop:=∃(z t:Addr) (f:List Int),x=.ref z/\v=.ref t/\H0 z=some (.lst (f.map V.int))/\H t=some (.tup (f.map V.int))
theorem ze0 {H0 H:Hp}:∀{zs:List Addr} {F:List (List Int)} {ys:List V},LsAt H0 zs F->Paired (fun x v=>RTup H0 x v H) (zs.map V.ref) ys->∃ts:List Addr,ys=ts.map V.ref/\RowsAt H ts F
 |_,_,_,.nil,.nil=>⟨[],rfl,.nil⟩
 |_,_,_,.cons r t,.cons q u=>by
  obtain⟨z,t',f,e1,e2,e3,e4⟩:=q
  obtain⟨ts,g1,g2⟩:=ze0 t u
  cases e1
  rw[r] at e3
  have:=zd9 (HO.lst.inj (Option.some.inj e3))
  subst this
  exact⟨t'::ts,by rw[e2,g1];rfl,.cons e4 g2⟩
noncomputable def Bmp (R:List (List Int))(x:Int)(i:Nat)(R1:List (List Int))(y:Int):Prop:=R1.length=i/\putR R x=(R1++(putR (R.drop i) y).1,i+(putR (R.drop i) y).2)
theorem znz (R:List (List Int))(x:Int):Bmp R x 0 [] x:=⟨rfl,by simp⟩
theorem zdv {R:List (List Int)}{i:Nat}{r:List Int}(h:R[i]? =some r):R.drop i=r::R.drop (i+1):=by
 obtain⟨hl,e⟩:=List.getElem?_eq_some_iff.mp h
 rw[List.drop_eq_getElem_cons hl,e]
theorem Bmp.step {R R1:List (List Int)}{x y:Int}{i:Nat}{r:List Int}(h:Bmp R x i R1 y)(hr:R[i]? =some r)(hc:¬cntL r y=r.length):Bmp R x (i+1) (R1++[r.set (cntL r y) y]) (r.getD (cntL r y) 0):=by
 obtain⟨h1,h2⟩:=h
 refine⟨by rw[List.length_append,h1];rfl, ?_⟩
 rw[h2,zdv hr]
 show (R1++(if cntL r y=r.length then _ else _:List (List Int)×Nat).1,i+(if cntL r y=r.length then _ else _:List (List Int)×Nat).2)=_
 rw[if_neg hc]
 refine Prod.ext ?_ ?_
 ·simp
 ·show i+(_+1)=i+1+_
  (first|lia|omega)
theorem Bmp.fin {R R1:List (List Int)}{x y:Int}{i:Nat}{r:List Int}(h:Bmp R x i R1 y)(hr:R[i]? =some r)(hc:cntL r y=r.length):putR R x=(R1++(r++[y])::R.drop (i+1),i):=by
 obtain⟨h1,h2⟩:=h
 rw[h2,zdv hr]
 show (R1++(if cntL r y=r.length then _ else _:List (List Int)×Nat).1,i+(if cntL r y=r.length then _ else _:List (List Int)×Nat).2)=_
 rw[if_pos hc]
 rfl
theorem Bmp.last {R R1:List (List Int)}{x y:Int}(h:Bmp R x R.length R1 y):putR R x=(R1++[[y]],R.length):=by
 obtain⟨h1,h2⟩:=h
 rw[h2,List.drop_length]
 rfl
noncomputable def Frm (H G:Hp)(p:Addr)(zs:List Addr):Prop:=∀b o,H b=some o->b≠p->b∉zs->G b=some o
theorem Frm.same {H G G':Hp}{p:Addr}{zs:List Addr}(h:Frm H G p zs)(s:Same G G'):Frm H G' p zs:=fun b o e h1 h2=>s _ _ (h b o e h1 h2)
theorem Frm.upd {H G:Hp}{p z:Addr}{zs:List Addr}{o:HO}(h:Frm H G p zs)(hz:z∈zs):Frm H (upd G z o) p zs:=fun b o' e h1 h2=>by
 rw[zah (fun e'=>h2 (by rw[e'];exact hz))]
 exact h b o' e h1 h2
theorem Frm.updP {H G:Hp}{p:Addr}{zs:List Addr}{o:HO}(h:Frm H G p zs):Frm H (L2.upd G p o) p zs:=fun b o' e h1 h2=>by
 rw[zah h1]
 exact h b o' e h1 h2
noncomputable def zfX:Sp:=fun vs H Q _=>∃(p:Addr) (zs:List Addr) (R:List (List Int)) (x:Int),vs=[.ref p,.int x]/\H p=some (.lst (zs.map V.ref))/\LsAt H zs R/\zs.Nodup/\p∉zs/\R.length<=100/\(∀r∈R,r.length<=100)/\
 ∀zs' H',Frm H H' p zs->H' p=some (.lst (zs'.map V.ref))->LsAt H' zs' (putR R x).1->zs'.Nodup->p∉zs'->(∀z∈zs',z∈zs∨H z=none)->Q (.int ((putR R x).2:Nat)) H'
noncomputable def zlE:Sp:=fun vs H Q _=>∃(p:Addr) (zs:List Addr) (R:List (List Int)),vs=[.ref p]/\H p=some (.lst (zs.map V.ref))/\LsAt H zs R/\R.length<=100/\∀q ys H',Same H H'->H' q=some (.tup (ys.map V.ref))->RowsAt H' ys R->Q (.ref q) H'
noncomputable def zgT:Sp:=fun vs H Q _=>∃(a:Addr) (ns:List Int) (m:Nat),vs=[.ref a]/\H a=some (.tup (ns.map V.int))/\Ord m ns/\m<=60/\∀t q1 q2 ys1 ys2 H',Same H H'->H' t=some (.tup [.ref q1,.ref q2])->H' q1=some (.tup (ys1.map V.ref))->RowsAt H' ys1 (tabI ns m).1->H' q2=some (.tup (ys2.map V.ref))->RowsAt H' ys2 (tabI ns m).2->Q (.ref t) H'
theorem ziO {R1 R2:List (List Int)}{r f:List Int}{i:Nat}(h:R1.length=i):(R1++r::R2).set i f=R1++f::R2:=by
 subst h
 simp
theorem LsAt.at {H:Hp}{zs:List Addr}{F:List (List Int)}{i:Nat}{f:List Int}(h:LsAt H zs F)(hf:F[i]? =some f):∃z,zs[i]? =some z/\H z=some (.lst (f.map V.int)):=by
 have hl:=Paired.length h
 have hi:i<zs.length:=by
  have:=(List.getElem?_eq_some_iff.mp hf).1
  (first|lia|omega)
 obtain⟨f',e1,e2⟩:=zcg h (List.getElem?_eq_getElem hi)
 rw[hf] at e1
 cases e1
 exact⟨_,List.getElem?_eq_getElem hi,e2⟩
end L2
namespace Srt
open PySem PyProof.Rows
theorem lex_irr:∀a:List Int,HT.lexLt a a=false
 |[]=>rfl
 |x::a=>by rw[HT.lexLt_cons,if_pos rfl];exact lex_irr a
theorem lex_tot:∀a b:List Int,HT.lexLt a b=false->HT.lexLt b a=false->a=b
 |[],[],_,_=>rfl
 |[],_::_,h,_=>by rw[HT.lexLt_nil_cons] at h;cases h
 |_::_,[],_,h=>by rw[HT.lexLt_nil_cons] at h;cases h
 | x::a,y::b,h1,h2=>by
  rw[HT.lexLt_cons] at h1 h2
  by_cases c:x=y
  ·subst c
   rw[if_pos rfl] at h1 h2
   rw[lex_tot a b h1 h2]
  ·rw [if_neg c] at h1
   rw[if_neg (Ne.symm c)] at h2
   have:=of_decide_eq_false h1
   have:=of_decide_eq_false h2
   (first|lia|omega)
theorem lex_trans:∀a b c:List Int,HT.lexLt a b=true->HT.lexLt b c=true->HT.lexLt a c=true
 |[],[],_,h,_=>by cases h
 |[],_::_,[],_,h=>by rw[HT.lexLt_cons_nil] at h;cases h
 |[],_::_,_::_,_,_=>rfl
 |_::_,[],_,h,_=>by rw[HT.lexLt_cons_nil] at h;cases h
 |_::_,_::_,[],_,h=>by rw[HT.lexLt_cons_nil] at h;cases h
 | x::a,y::b,z::c,h1,h2=>by
  rw[HT.lexLt_cons] at h1 h2 ⊢
  by_cases c1:x=y
  ·subst c1
   rw[if_pos rfl] at h1
   by_cases c2:x=z
   ·rw [if_pos c2] at h2 ⊢
    exact lex_trans a b c h1 h2
   ·rw [if_neg c2] at h2 ⊢
    exact h2
  ·rw [if_neg c1] at h1
   have g1:=of_decide_eq_true h1
   by_cases c2:y=z
   ·subst c2
    rw[if_neg c1]
    exact h1
   ·rw [if_neg c2] at h2
    have g2:=of_decide_eq_true h2
    rw[if_neg (by (first|lia|omega))]
    exact decide_eq_true (by (first|lia|omega))
theorem lex_neg (a b c:List Int)(h:HT.lexLt a c=true):HT.lexLt a b=true∨HT.lexLt b c=true:=by
 cases h1:HT.lexLt a b with
 |true=>exact .inl rfl
 | false=>
  cases h2:HT.lexLt b a with
  |true=>exact .inr (lex_trans b a c h2 h)
  |false=>
   rw[<-lex_tot a b h1 h2]
   exact .inr h
noncomputable def lexO:KeyOrd where
 α:=List Int
 blt:=HT.lexLt
 irrefl:=lex_irr
 trans:=lex_trans
 negTrans:=lex_neg
 total:=lex_tot
noncomputable def tupI (h:Heap):Value->List Int
 | .ref a=>match h.get? a with
  |some o=>match o.data with
   | .seq xs _=>xs.toList.map numOf
   |_=>[]
  |none=>[]
 |_=>[]
noncomputable def isTI (h:Heap)(v:Value)(ns:List Int):Prop:=∃a o xs n,v=.ref a/\h.get? a=some o/\o.cls=.type "tuple" /\o.data=.seq xs n/\IntsAre xs.toList ns
theorem zj7:∀{vs:List Value} {ns:List Int},IntsAre vs ns->vs.map numOf=ns:=by
 intro vs ns h
 induction h with
 |nil=>rfl
 |cons _ _ _ ih=>rw[List.map_cons,ih];rfl
theorem isTI.tup {h:Heap}{v:Value}{ns:List Int}(p:isTI h v ns):tupI h v=ns:=by
 obtain⟨a,o,xs,n,rfl,ho,_,hd,hi⟩:=p
 show (match h.get? a with|some o=>_|none=>_)=_
 rw[ho]
 show (match o.data with| .seq xs _=>_|_=>_)=_
 rw[hd]
 exact zj7 hi
section
variable {prog:Program}{w:World}{A:Around}{E:Value->Shared->Prop}{s:Shared}
theorem zgU {Q:Bool->Shared->Prop}{b:Bool}:∀{xs ys:List Value} {ns ms:List Int} (i:Nat),IntsAre xs ns->IntsAre ys ms->Q (HT.lexLt ns ms) s->PySem.W.KatLex prog w A b (decide (xs.length<ys.length)) Q (xs.zip ys) i s
 |[],[],_,_,i,.nil,.nil,q=>PySem.W.kat_nil q
 |[],_::_,_,_,i,.nil,.cons _ _ _,q=>PySem.W.kat_nil q
 |_::_,[],_,_,i,.cons _ _ _,.nil,q=>PySem.W.kat_nil q
 | _::xs,_::ys,_,_,i,.cons x t h1,.cons y u h2,q=>by
  rw[List.zip_cons_cons]
  refine PySem.W.kat_cons (wpAny_eqBool_int ?_)
  have e:decide ((Value.int x t::xs).length<(Value.int y u::ys).length)=decide (xs.length<ys.length):=by
   simp
  rw[e]
  rw[HT.lexLt_cons] at q
  by_cases c:x=y
  ·rw [if_pos c] at q
   rw[beq_iff_eq.mpr c]
   exact PySem.W.kat_yes (zgU (i+1) h1 h2 q)
  ·rw [if_neg c] at q
   rw[beq_eq_false_iff_ne.mpr c]
   refine PySem.W.kat_no ?_
   cases b&&i==0 with
   |true=>exact oneLt_int q
   |false=>exact PySem.W.kat_one _ _ (PyProof.Rows.lt_int q)
theorem cmpT (b:Bool):Cmp (model prog w) A E s (tuples' b) lexO (fun p=>tupI s.heap p.1) (fun p=>∃ns,isTI s.heap p.1 ns):=by
 refine⟨fun x y st Q hx hy hk q=> ?_⟩
 obtain⟨ns,hx⟩:=hx
 obtain⟨ms,hy⟩:=hy
 have e1:=hx.tup
 have e2:=hy.tup
 rw[e1,e2] at q
 obtain⟨x1,x2⟩:=x
 obtain⟨y1,y2⟩:=y
 obtain⟨a,o,xs,n,ex,ho,_,hd,hi⟩:=hx
 obtain⟨a',o',ys,n',ey,ho',_,hd',hi'⟩:=hy
 dsimp only at ex ey
 subst ex ey
 rw[lt'_eq]
 refine wpS_bind (wpS_get ?_)
 rw[hk]
 refine wpS_bind (wpS_lift (wpAny_attempt (PySem.W.kat_lt ho hd ho' hd' ?_)))
 have:=zgU (prog:=prog) (w:=w) (A:=A) (s:=s) (b:=b) (Q:=fun c s'=>s'=s/\wpS (model prog w) A E s (pure (some c)) Q st) 0 hi hi' ⟨rfl,wpS_pure q⟩
 rw[Array.length_toList,Array.length_toList] at this
 exact this
end
end Srt
namespace L2
open PySem PySem.Spec PyProof.Rows
noncomputable def RawD (h:Heap)(d:Addr)(es:Array DictEntry)(ep:Nat):Prop:=∃ob,h.get? d=some ob/\ob.ExactDict/\ob.data=.dict es ep
section
variable {prog:Program}{w:World}{A:Around}{E:Value->Shared->Prop}{s:Shared}{d it v:Addr}{es:Array DictEntry}{ep:Nat}
theorem RawD.ty (x:RawD s.heap d es ep):s.TypeIs (.ref d) "dict" :=by
 obtain⟨ob,e,c,_⟩:=x
 exact⟨ob,e,c.1⟩
theorem ziP (hd:(d==sysModules)=false):MeetsIn prog w (Builtin.«dict.items» ⟨[.ref d],[]⟩) (fun _ R s=>s.TypeIs (.ref d) "dict" /\R (.ok (.ret (.ref s.heap.objs.size))) {s with heap:=s.heap.push {cls:=.type "dict_items",data:=.fields #[.ref d]}}):=
 .of_wp fun A R s h=>by
  obtain⟨ht,h⟩:=h
  unfold Builtin.«dict.items» Builtin.Dict.noArgs
  refine wpAny_bind (wpAny_bind (wpAny_notOrdered_dict ht (wpAny_pure ?_)))
  unfold Builtin.Dict.showsAll
  refine wpAny_bind ?_
  rw[if_neg (fun z=>by rw[hd] at z;cases z)]
  exact wpAny_pure (wpAny_bind (wpAny_newObj_type (wpAny_pure ⟨_,rfl,h⟩)))
theorem zj8 {Q:Value->Shared->Prop}(hv:s.heap.get? v=some {cls:=.type "dict_items",data:=.fields #[.ref d]})(hm:RawD s.heap d es ep)
  (q:Q (.ref s.heap.objs.size) {s with heap:=s.heap.push {cls:=.type "dict_itemiterator",data:=.fields #[.none,.bool false,.ref d,.int 0 0,.int es.size 0,.int ep 0,.none,.none]}}):wpAny (model prog w) A (pyIter (.ref v)) Q E s:=by
 obtain⟨ob,ho,_,hdat⟩:=hm
 have tv:s.TypeIs (.ref v) "dict_items" :=⟨_,hv,rfl⟩
 refine wpAny_pyIter_slot tv F.slot_dict_items_iter (wpAny_call_entry F.slot_dict_items_iter tv F.entry_dict_items_iter ?_ (F.args_dict_items_iter_1 _))
 unfold Builtin.«dict_items.__iter__» Builtin.Dict_items.dictOf Builtin.Dict_items.newIterator
 refine wpAny_bind (wpAny_pure (wpAny_bind (wpAny_bind (wpAny_field hv rfl (x:=.ref d) rfl (wpAny_pure (wpAny_bind (wpAny_bind (wpAny_dictEntries ho hdat (wpAny_bind (wpAny_dictEpoch ho hdat ?_))))))))))
 have own:Builtin.Dict_items.ownsTuple "dict_itemiterator" =true:=by decide
 simp only[own,if_true]
 refine wpAny_newObj_type (wpAny_pure ⟨_,rfl, "dict_itemiterator",_,⟨_,Heap.get?_push_size _ rfl,rfl⟩,F.slot_dict_itemiterator_next.lookup, ?_⟩) (by
  simp only[sizeOk,Builtin.Dict_items.ownedTupleFields,List.size_toArray,List.length_append,List.length_cons,List.length_nil,sizeLine_eq]
  (first|lia|omega))
 simpa [rawInt,Builtin.Dict_items.ownedTupleFields] using q
theorem zj9 {i:Nat}{e:DictEntry}{ok ov:Value}{Q:Option Value->Shared->Prop}(hit:IsItemIter s.heap it d i es.size ep ok ov)(hm:RawD s.heap d es ep)(hx:es[i]? =some e)
  (q:∀h',IsItemIterOut h' it d (i+1) es.size ep e.key e.val s.heap.objs.size->h'.get? s.heap.objs.size=some {cls:=.type "tuple",data:=.seq #[e.key,e.val]}->(∀b o,b≠it->s.heap.get? b=some o->h'.get? b=some o)->
   Q (some (.ref s.heap.objs.size)) {s with heap:=h'}):wpAny (model prog w) A (pyNext (.ref it)) Q E s:=by
 obtain⟨hp,g,dr,tk,os⟩:=s
 obtain⟨ob,hod,_,hdd⟩:=hm
 have tI:Shared.TypeIs ⟨hp,g,dr,tk,os⟩ (.ref it) "dict_itemiterator" :=⟨_,hit,rfl⟩
 have own:Builtin.Dict_items.ownsTuple "dict_itemiterator" =true:=by decide
 have hil:it<hp.objs.size:=Heap.lt_size hit
 unfold pyNext
 refine wpAny_bind (wpAny_attempt (wpAny_callSpecial?_slot (name:=Str.ofString "__next__") tI F.slot_dict_itemiterator_next (wpAny_call_entry F.slot_dict_itemiterator_next tI F.entry_dict_itemiterator_next ?_ (F.args_dict_itemiterator_next_1 _))))
 refine wpAny_bind (wpAny_pure (wpAny_bind (wpAny_bind ?_)))
 refine wpAny_bind (wpAny_typeNameOfWhole_itemiter tI (wpAny_pure (wpAny_bind (wpAny_fieldsOf hit rfl ?_))))
 simp only[own,if_true]
 show wpAny _ _ (if (Value.ref d==Value.none)=true then _ else _) _ _ _
 have nd:¬((Value.ref d==Value.none)=true):=Bool.false_ne_true
 rw[if_neg nd]
 refine wpAny_bind (wpAny_pure (wpAny_bind (wpAny_dictEntries hod hdd ?_)))
 rw[if_neg (by simp)]
 refine wpAny_bind (wpAny_pure (wpAny_bind (wpAny_dictEpoch hod hdd ?_)))
 rw[if_neg (by simp)]
 refine wpAny_pure ?_
 simp only[show ¬((i:Int)<0) by (first|lia|omega),if_false,Int.toNat_natCast,hx]
 refine wpAny_bind (wpAny_bind (wpAny_typeNameOfWhole_itemiter tI (wpAny_pure (wpAny_bind (wpAny_isOneOf_itemiter tI ?_)))))
 show wpAny _ _ (setField (.ref it) 3 (rawInt ((i:Int)+1)) >>= _) _ _ ⟨hp,g,dr,tk,os⟩
 refine wpAny_bind (wpAny_setField_rec hit (by simp) fun h1 (e1:_) (k1:Heap.SameBut it hp h1)=> ?_)
 have e1':IsItemIter h1 it d (i+1) es.size ep ok ov:=by
  unfold IsItemIter
  rw[show ((i+1:Nat):Int)=(i:Int)+1 by (first|lia|omega)]
  simpa [rawInt] using e1
 have t1:Shared.TypeIs ⟨h1,g,dr,tk,os⟩ (.ref it) "dict_itemiterator" :=⟨_,e1',rfl⟩
 refine wpAny_bind (wpAny_holding (wpAny_bind (wpAny_isOneOf_itemiter t1 (wpAny_bind (wpAny_isOneOf_itemiter t1 ?_)))))
 show wpAny _ _ (Builtin.Dict_items.pairFromOwner (.ref it) 6 e.key e.val) _ _ ⟨h1,g,dr,tk,os⟩
 unfold Builtin.Dict_items.pairFromOwner Builtin.Dict_items.ownedTupleIsFree
 have z1:h1.objs.size=hp.objs.size:=k1.1
 have e2:IsItemIter (h1.push {cls:=.type "tuple",data:=.seq #[e.key,e.val]}) it d (i+1) es.size ep ok ov:=Heap.get?_push_of_some _ e1'
 have t2:(h1.push {cls:=.type "tuple",data:=.seq #[e.key,e.val]}).get? hp.objs.size=some {cls:=.type "tuple",data:=.seq #[e.key,e.val]}:=by
  rw[<-z1]
  exact Heap.get?_push_size _ rfl
 have k2:∀b o,b≠it->hp.get? b=some o->(h1.push {cls:=.type "tuple",data:=.seq #[e.key,e.val]}).get? b=some o:=fun b o hb x=>Heap.get?_push_of_some _ (k1.extBut b o hb x)
 refine wpAny_bind (wpAny_newTuple ?_)
 show wpAny _ _ (_ >>= _) _ _ ⟨h1.push {cls:=.type "tuple",data:=.seq #[e.key,e.val]},g,dr,tk,os⟩
 rw[z1]
 generalize h1.push {cls:=.type "tuple",data:=.seq #[e.key,e.val]}=h2 at e2 t2 k2
 refine wpAny_bind (wpAny_bind (wpAny_field e2 rfl (x:=.none) rfl (wpAny_pure ?_)))
 simp only[if_true]
 refine wpAny_bind (wpAny_field e2 rfl (x:=ok) rfl (wpAny_bind (wpAny_field e2 rfl (x:=ov) rfl (wpAny_bind (wpAny_setField_rec e2 (by simp) fun h3 (e3:IsItemIter h3 it d (i+1) es.size ep e.key ov) (k3:Heap.SameBut it h2 h3)=> ?_)))))
 refine wpAny_bind (wpAny_setField_rec e3 (by simp) fun h4 (e4:IsItemIter h4 it d (i+1) es.size ep e.key e.val) (k4:Heap.SameBut it h3 h4)=> ?_)
 refine wpAny_bind (wpAny_setField_rec e4 (by simp) fun h5 (e5:IsItemIterOut h5 it d (i+1) es.size ep e.key e.val hp.objs.size) (k5:Heap.SameBut it h4 h5)=> ?_)
 refine wpAny_bind (wpAny_setField_rec e5 (by simp) fun h6 (e6:IsItemIterOut h6 it d (i+1) es.size ep e.key e.val hp.objs.size) (k6:Heap.SameBut it h5 h6)=> ?_)
 have k:∀b o,b≠it->h2.get? b=some o->h6.get? b=some o:=fun b o hb x=>k6.extBut b o hb (k5.extBut b o hb (k4.extBut b o hb (k3.extBut b o hb x)))
 exact wpAny_bind (wpAny_letGo (wpAny_pure (wpAny_pure ⟨_,rfl,wpAny_pure (q h6 e6 (k _ _ (Nat.ne_of_gt hil) t2) fun b o hb x=>k b o hb (k2 b o hb x))⟩)))
theorem zlF {i:Nat}{ok ov:Value}{Q:Option Value->Shared->Prop}(hh:A.handled=none)(hit:IsItemIter s.heap it d i es.size ep ok ov)(hm:RawD s.heap d es ep)(hx:es[i]? =none)
  (q:∀h',Heap.ExtBut it s.heap h'->Q none {s with heap:=h'}):wpAny (model prog w) A (pyNext (.ref it)) Q E s:=by
 obtain⟨ob,hod,_,hdd⟩:=hm
 have tI:s.TypeIs (.ref it) "dict_itemiterator" :=⟨_,hit,rfl⟩
 have own:Builtin.Dict_items.ownsTuple "dict_itemiterator" =true:=by decide
 unfold pyNext
 refine wpAny_bind (wpAny_attempt (wpAny_callSpecial?_slot (name:=Str.ofString "__next__") tI F.slot_dict_itemiterator_next (wpAny_call_entry F.slot_dict_itemiterator_next tI F.entry_dict_itemiterator_next ?_ (F.args_dict_itemiterator_next_1 _))))
 refine wpAny_bind (wpAny_pure (wpAny_bind (wpAny_bind ?_)))
 refine wpAny_bind (wpAny_typeNameOfWhole_itemiter tI (wpAny_pure (wpAny_bind (wpAny_fieldsOf hit rfl ?_))))
 simp only[own,if_true]
 show wpAny _ _ (if (Value.ref d==Value.none)=true then _ else _) _ _ s
 have nd:¬((Value.ref d==Value.none)=true):=Bool.false_ne_true
 rw[if_neg nd]
 refine wpAny_bind (wpAny_pure (wpAny_bind (wpAny_dictEntries hod hdd ?_)))
 rw[if_neg (by simp)]
 refine wpAny_bind (wpAny_pure (wpAny_bind (wpAny_dictEpoch hod hdd ?_)))
 rw[if_neg (by simp)]
 refine wpAny_pure ?_
 simp only[show ¬((i:Int)<0) by (first|lia|omega),if_false,Int.toNat_natCast,hx]
 refine wpAny_bind (wpAny_bind (wpAny_typeNameOfWhole_itemiter tI ?_))
 refine wpAny_pure (wpAny_bind (wpAny_setField hit rfl (by rw[own];simp) ?_))
 refine wpAny_bind ?_
 simp only[newExc,newTuple]
 refine wpAny_bind (wpAny_newObj_type (wpAny_bind (m:=firstArgMember _ _) (wpAny_of_eq (a:=Value.none) (by first|rfl|(simp only[firstArgMember];rfl)) (wpAny_newObj_type ?_ (by size_fits)))) (by size_fits))
 simp only[raiseNew]
 refine wpAny_bind (wpAny_handled ?_)
 rw[show A.in1.handled=none from hh]
 refine wpAny_bind (wpAny_pure (wpAny_throw ?_))
 refine wpAny_bind (wpAny_isInstance (T:= "StopIteration") (b:=true) ⟨_,Heap.get?_push_size _ rfl,rfl⟩ isSubtype_stop (wpAny_pure ?_))
 exact q _ (((Heap.SameBut.update ..).extBut.push _).push _)
end
theorem zaO {α β:Type}{F:α->β->Prop}:∀{l₁:List α} {l₂:List β},Paired F l₁ l₂->∀{i:Nat} {a:α},l₁[i]? =some a->∃b,l₂[i]? =some b/\F a b
 |_,_,.nil,_,_,h=>by cases h
 |_,_,.cons p q,0,_,h=>by cases h;exact⟨_,rfl,p⟩
 |_,_,.cons p q,i+1,_,h=>zaO q (i:=i) h
section
variable {X:Cx}{pins:List (Addr×Obj)}{σ:St}{H:Hp}{s:Shared}{a:Addr}{kvs:List (List Key×V)}{ob:Obj}
theorem Inv.freeze (I:Inv X pins σ H s)(e:H a=some (.dT kvs))(ho:s.heap.get? a=some ob):Inv X pins σ (upd H a (.frz ob (.dT kvs))) s:=by
 refine I.write (t':=s.toks) (h':=s.heap) (x:=a) (e:=a) (o:=.frz ob (.dT kvs)) (by rw[e];trivial) (.inl rfl) (fun _ _ _ q=>q) ⟨_,ho⟩ ⟨ho, ?_⟩
 refine (I.hok a _ e).stay (fun _ _ _ q=>q) (fun b q=> ?_) fun b xs q=> ?_
 ·rw[zah (fun z=>by rw[z,e] at q;cases q)];exact q
 ·rw[zah (fun z=>by rw[z,e] at q;cases q)];exact q
theorem Inv.froz (I:Inv X pins σ H s)(e:H a=some (.frz ob (.dT kvs))):s.heap.get? a=some ob/\∃xs:List (List Key×Addr×Value),Paired (fun (p:List Key×V) (q:List Key×Addr×Value)=>p.1=q.1/\H q.2.1=some (.tup (p.1.map kV))/\RelV p.2 q.2.2) kvs xs/\
  ∃es ep,ob.ExactDict/\ob.data=.dict es ep/\es.toList=xs.map (entryOfKey (tupleKind (zaE X.prog X.w))):=by
 obtain⟨ho,z,y,xs,rel,o',es,ep,e1,c,e2,e3,_⟩:=(show ObjOk X.prog X.w H s.heap a (.frz ob (.dT kvs)) from I.hok a _ e)
 rw[ho] at e1
 cases e1
 exact⟨ho,xs,rel,es,ep,c,e2,e3⟩
end
noncomputable def Itx (a:Addr)(ob:Obj):It:=
  ⟨fun i H=>∃kvs kv,H a=some (.frz ob (.dT kvs))/\kvs[i]? =some kv,
   fun i H x H'=>∃t b k v,H t=none/\x=.ref t/\H b=some (.tup (k.map kV))/\H'=upd H t (.tup [.ref b,v])/\∀kvs,H a=some (.frz ob (.dT kvs))->kvs[i]? =some (k,v),
   fun i H=>∃kvs,H a=some (.frz ob (.dT kvs))/\kvs.length=i⟩
theorem zhN {P:Program}{w:World}{K:PySem.W.Frag}{els:List Expr}{kx}{tp:Pos}(a it:Addr)(ob:Obj)(es:Array DictEntry)(ep:Nat)(hdat:ob.data=.dict es ep):
  Turn P w K (.Tuple els kx tp) (Itx a ob) [it] it (fun i h=>∃ok ov,IsItemIter h it a i es.size ep ok ov) where
 mem:=by simp
 obj:=fun i h st b hb=>by
  obtain⟨ok,ov,hi⟩:=st
  rw[List.mem_singleton.mp hb]
  exact⟨_,hi,fun v z=>by cases z⟩
 keep:=fun i h h' st k=>by
  obtain⟨ok,ov,hi⟩:=st
  exact⟨ok,ov,k it (by simp) _ hi⟩
 item:=by
  intro X hP hw hK hc i pins s σ H E I hf st hg
  subst hP hw hK
  obtain⟨kvs,⟨k,v⟩,hq,hx⟩:=hg
  obtain⟨ok,ov,hi⟩:=st
  obtain⟨ho,xs,rel,es',ep',c,e2,e3⟩:=I.froz hq
  rw[hdat] at e2
  cases e2
  obtain⟨⟨k',b,u⟩,hxs,r1,r2,r3⟩:=zaO rel hx
  have hes:es[i]? =some (entryOfKey (tupleKind (zaE X.prog X.w)) (k',b,u)):=by
   rw[<-Array.getElem?_toList,e3,List.getElem?_map,hxs]
   rfl
  refine zj9 hi ⟨ob,ho,c,hdat⟩ hes fun h1 ho1 ht1 hk1=>⟨_,rfl,wpAny_letOwnedTupleGo_items ho1 fun h2 he2 hs2=> ?_⟩
  have hne0:s.heap.objs.size≠it:=Nat.ne_of_gt (Heap.lt_size hi)
  have keep:∀b o,b∉[it]->s.heap.get? b=some o->h2.get? b=some o:=fun b o hb e0=>(hs2.2 b fun z=>hb (by simp[z])).trans (hk1 b o (fun z=>hb (by simp[z])) e0)
  have I':Inv X pins σ (upd H s.heap.objs.size (.tup [.ref b,v])) {s with heap:=h2,toks:=s.toks}:=I.turnedT (h':=h2) (t':=s.toks) (xs:=[.ref b,v]) (its:=[.ref b,u]) hf keep (.cons rfl (.cons r3 .nil)) ⟨_,(hs2.2 _ hne0).trans ht1,rfl,⟨_,rfl⟩,rfl,rfl⟩ (by show 2<=sizeLine;decide)
  refine⟨.ref s.heap.objs.size,_,I',rfl,⟨_,b,k,v,I.hok.fresh (Nat.le_refl _),rfl,r2,rfl,fun kvs' hy=> ?_⟩,⟨_,_,he2⟩,fun b' hb=> ?_⟩
  ·rw [hq] at hy
   cases hy
   exact hx
  ·have e9:=List.mem_singleton.mp hb
   subst e9
   rw[zah (Nat.ne_of_lt (Heap.lt_size hi))]
   exact (hf _ hb).1
 done:=by
  intro X hP hw hK hc i pins s σ H E I hf st hg
  subst hP hw hK
  obtain⟨kvs,hq,hl⟩:=hg
  obtain⟨ok,ov,hi⟩:=st
  obtain⟨ho,xs,rel,es',ep',c,e2,e3⟩:=I.froz hq
  rw[hdat] at e2
  cases e2
  have hsz:es.size=i:=by
   rw[<-Array.length_toList,e3,List.length_map,<-Paired.length rel,hl]
  refine zlF (I.ok.hd hc) hi ⟨ob,ho,c,hdat⟩ (Array.getElem?_eq_none (Nat.le_of_eq hsz)) fun h1 hk=>⟨rfl, ?_⟩
  exact I.turnedN (t':=s.toks) hf fun b o hb e0=>hk b o (fun z=>hb (by simp[z])) e0
 self:=fun _ _ _ _ _ st h=>by
  obtain⟨ok,ov,hi⟩:=st
  exact PySem.W.kcp_self hi h
noncomputable def zmO (td:TE):TI:=fun σ H R=>td σ H fun x H1=>∃a kvs,x=.ref a/\H1 a=some (.dT kvs)/\∀ob,R (Itx a ob) (upd H1 a (.frz ob (.dT kvs)))
section
variable {X:Cx}
theorem zka {els:List Expr}{kx}{tp:Pos}{o:Expr}{td:TE}{apos cpos:Pos}(ho:PE X o td)(hbase:attributeBase o "items" X.env (eval o X.env)=eval o X.env:=by rfl)(hline:(apos.endLine==cpos.line)=true:=by rfl):
  PI X (.Tuple els kx tp) (.Call (.Attribute o "items" apos) [] [] cpos) (zmO td):=by
 intro pins s σ H R I h
 refine wpAny_Call_method0_late hbase hline (thn (ho pins s σ H _ I h) fun v s1 zq=> ?_)
 obtain⟨x,H1,I1,r1,a,kvs,ex,hd,q1⟩:=zq
 subst ex
 cases (show v=Value.ref a from r1)
 obtain⟨t1,t2,t3⟩:=zkJ I1 (.inr ⟨kvs,.inl hd⟩)
 refine⟨"dict",_,PySem.F.plainAttrs_dict,PySem.F.slot_dict_items,PySem.F.type_dict_items,t1,t2,Calls.callWith_builtin rfl (PySem.evalArgs_none ?_)⟩
 refine call_meetsIn PySem.F.slot_dict_items t1 PySem.F.entry_dict_items (PySem.F.args_dict_items_1 _) (ziP t3) ⟨t1, ?_⟩
 obtain⟨z,y,xs,rel,ob,es,ep,e1,c,e2,e3,_⟩:=(show ObjOk X.prog X.w H1 s1.heap a (.dT kvs) from I1.hok a _ hd)
 have I2:Inv X pins σ H1 {s1 with heap:=s1.heap.push {cls:=.type "dict_items",data:=.fields #[.ref a]}}:=I1.kept (t':=s1.toks) fun b o e=>Heap.get?_push_of_some _ e
 have e1':(s1.heap.push {cls:=.type "dict_items",data:=.fields #[.ref a]}).get? a=some ob:=Heap.get?_push_of_some _ e1
 have hz:(s1.heap.push {cls:=.type "dict_items",data:=.fields #[.ref a]}).objs.size=s1.heap.objs.size+1:=Heap.size_push ..
 refine zj8 (Heap.get?_push_size _ rfl) ⟨ob,e1',c,e2⟩ ?_
 have I3:=(I2.freeze hd e1').kept (t':=s1.toks) (h':=(s1.heap.push {cls:=.type "dict_items",data:=.fields #[.ref a]}).push {cls:=.type "dict_itemiterator",data:=.fields #[.none,.bool false,.ref a,.int 0 0,.int es.size 0,.int ep 0,.none,.none]}) fun b o e=>Heap.get?_push_of_some _ e
 refine⟨_,[_],_,_,_,rfl,I3,zhN a _ ob es ep e2,⟨_,_,Heap.get?_push_size _ rfl⟩,fun b hb=> ?_,q1 ob⟩
 rw[List.mem_singleton.mp hb]
 exact (I2.freeze hd e1').fpOk (Nat.le_refl _) ((I2.freeze hd e1').hok.fresh (Nat.le_refl _))
end
theorem ziQ {a:Addr}{ob:Obj}{kvs:List (List Key×V)}{g:TG}{tb:TS}{D:Ends}{σ:L2.St}{H:Hp}(Pv:Nat->L2.St->Hp->Prop)(h0:Pv 0 σ H)(hl:∀i σ H,i<=kvs.length->Pv i σ H->H a=some (.frz ob (.dT kvs)))
  (hs:∀i k v t b σ H,kvs[i]? =some (k,v)->Pv i σ H->H t=none->H b=some (.tup (k.map kV))->g (.ref t) σ (upd H t (.tup [.ref b,v])) fun σ2 H2=>tb {D with nx:=Pv (i+1),ct:=Pv (i+1),bk:=D.nx} σ2 H2) (hd:∀σ H,Pv kvs.length σ H->D.nx σ H):
  ∃W:Nat->Nat->L2.St->Hp->Prop,(∃m,W 0 m σ H)/\∀i m σ H,W i m σ H->
   ((Itx a ob).stop i H/\D.nx σ H)∨((Itx a ob).go i H/\∃N:L2.St->Hp->Prop,(∀σ' H',N σ' H'->∃m',m'<m/\W (i+1) m' σ' H')/\∀x H',(Itx a ob).yld i H x H'->g x σ H' fun σ2 H2=>tb {D with nx:=N,ct:=N,bk:=D.nx} σ2 H2):=by
 refine⟨fun i m σ H=>m=kvs.length-i/\i<=kvs.length/\Pv i σ H,⟨kvs.length,by simp,Nat.zero_le _,h0⟩, ?_⟩
 rintro i m σ H ⟨rfl,hi,p⟩
 have q:=hl i σ H hi p
 by_cases hlt:i<kvs.length
 ·refine .inr ⟨⟨kvs,kvs[i],q,by simp[hlt]⟩,Pv (i+1),fun σ' H' p'=>⟨kvs.length-(i+1),by (first|lia|omega),rfl,hlt,p'⟩,fun x H' y=> ?_⟩
  obtain⟨t,b,k,v,y1,rfl,y2,rfl,y3⟩:=y
  exact hs i k v t b σ H (y3 kvs q) p y1 y2
 ·have e:i=kvs.length:=by (first|lia|omega)
  subst e
  exact .inl ⟨⟨kvs,q,rfl⟩,hd σ H p⟩
section
variable {prog:Program}{w:World}{A:Around}{E:Value->Shared->Prop}{s:Shared}{d it v:Addr}{es:Array DictEntry}{ep:Nat}
theorem ziR {Q:Value->Shared->Prop}(hd:(d==sysModules)=false)(hm:RawD s.heap d es ep)
  (q:Q (.ref s.heap.objs.size) {s with heap:=s.heap.push {cls:=.type "dict_keyiterator",data:=.fields #[.ref d,.int 0 0,.int es.size 0,.int ep 0]}}):wpAny (model prog w) A (pyIter (.ref d)) Q E s:=by
 have hT:=hm.ty
 obtain⟨ob,ho,_,hdat⟩:=hm
 refine wpAny_pyIter_slot hT F.slot_dict_iter (wpAny_call_entry F.slot_dict_iter hT F.entry_dict_iter ?_ (F.args_dict_iter_1 _))
 unfold Builtin.«dict.__iter__» Builtin.Dict.dictSlotNone
 refine wpAny_bind (wpAny_bind (wpAny_notOrdered_dict hT (wpAny_pure ?_)))
 show wpAny _ _ (Builtin.Dict.showsAll d >>= _) _ _ s
 unfold Builtin.Dict.showsAll
 rw[if_neg (fun z=>by rw[hd] at z;cases z)]
 refine wpAny_bind (wpAny_pure (wpAny_bind (wpAny_dictEntries ho hdat (wpAny_bind (wpAny_dictEpoch ho hdat ?_)))))
 refine wpAny_bind (wpAny_newObj_type (wpAny_pure ⟨_,rfl, "dict_keyiterator",_,⟨_,Heap.get?_push_size _ rfl,rfl⟩,F.slot_dict_keyiterator_next.lookup, ?_⟩))
 simpa [rawInt] using q
theorem ziS {i:Nat}{e:DictEntry}{Q:Option Value->Shared->Prop}(hit:s.heap.IsKeyIter it d i es.size ep)(hm:RawD s.heap d es ep)(hx:es[i]? =some e)
  (q:∀h',h'.IsKeyIter it d (i+1) es.size ep->Heap.SameBut it s.heap h'->Q (some e.key) {s with heap:=h'}):wpAny (model prog w) A (pyNext (.ref it)) Q E s:=by
 obtain⟨o,ho,hc,hd⟩:=id hit
 obtain⟨ob,hod,_,hdd⟩:=hm
 have tI:=hit.typeIs
 have own:Builtin.Dict_items.ownsTuple "dict_keyiterator" =false:=by decide
 unfold pyNext
 refine wpAny_bind (wpAny_attempt (wpAny_callSpecial?_slot (name:=Str.ofString "__next__") tI F.slot_dict_keyiterator_next (wpAny_call_entry F.slot_dict_keyiterator_next tI F.entry_dict_keyiterator_next ?_ (F.args_dict_keyiterator_next_1 _))))
 refine wpAny_bind (wpAny_pure (wpAny_bind (wpAny_bind ?_)))
 refine wpAny_bind (wpAny_typeNameOfWhole_keyiter tI (wpAny_pure (wpAny_bind (wpAny_fieldsOf ho hd ?_))))
 simp only[own,Bool.false_eq_true,if_false]
 show wpAny _ _ (if (Value.ref d==Value.none)=true then _ else _) _ _ s
 have nd:¬((Value.ref d==Value.none)=true):=Bool.false_ne_true
 rw[if_neg nd]
 refine wpAny_bind (wpAny_pure (wpAny_bind (wpAny_dictEntries hod hdd ?_)))
 rw[if_neg (by simp)]
 refine wpAny_bind (wpAny_pure (wpAny_bind (wpAny_dictEpoch hod hdd ?_)))
 rw[if_neg (by simp)]
 refine wpAny_pure ?_
 simp only[show ¬((i:Int)<0) by (first|lia|omega),if_false,Int.toNat_natCast,hx]
 refine wpAny_bind (wpAny_bind (wpAny_typeNameOfWhole_keyiter tI (wpAny_pure (wpAny_bind (wpAny_isOneOf_keyiter tI ?_)))))
 show wpAny _ _ (setField (.ref it) 1 (rawInt ((i:Int)+1)) >>= _) _ _ s
 refine wpAny_bind (wpAny_setField ho hd (by simp) ?_)
 have hit':(s.heap.update it (Obj.mapFields (·.setIfInBounds 1 (rawInt ((i:Int)+1))))).IsKeyIter it d (i+1) es.size ep:=
  ⟨_,Heap.get?_update_self _ ho (Obj.isFreed_of_fields (Obj.data_mapFields hd _)),(Obj.cls_mapFields ..).trans hc,by rw[Obj.data_mapFields hd];simp[rawInt]⟩
 refine wpAny_bind (wpAny_holding (wpAny_bind (wpAny_isOneOf_keyiter (s:={s with heap:=s.heap.update it (Obj.mapFields (·.setIfInBounds 1 (rawInt ((i:Int)+1))))}) hit'.typeIs ?_)))
 show wpAny _ _ (pure e.key) _ _ _
 exact wpAny_pure (wpAny_pure ⟨_,rfl,wpAny_pure (q _ hit' (Heap.SameBut.update ..))⟩)
theorem zkb {i:Nat}{Q:Option Value->Shared->Prop}(hh:A.handled=none)(hit:s.heap.IsKeyIter it d i es.size ep)(hm:RawD s.heap d es ep)(hx:es[i]? =none)
  (q:∀h',Heap.ExtBut it s.heap h'->Q none {s with heap:=h'}):wpAny (model prog w) A (pyNext (.ref it)) Q E s:=by
 obtain⟨o,ho,hc,hd⟩:=id hit
 obtain⟨ob,hod,_,hdd⟩:=hm
 have tI:=hit.typeIs
 have own:Builtin.Dict_items.ownsTuple "dict_keyiterator" =false:=by decide
 unfold pyNext
 refine wpAny_bind (wpAny_attempt (wpAny_callSpecial?_slot (name:=Str.ofString "__next__") tI F.slot_dict_keyiterator_next (wpAny_call_entry F.slot_dict_keyiterator_next tI F.entry_dict_keyiterator_next ?_ (F.args_dict_keyiterator_next_1 _))))
 refine wpAny_bind (wpAny_pure (wpAny_bind (wpAny_bind ?_)))
 refine wpAny_bind (wpAny_typeNameOfWhole_keyiter tI (wpAny_pure (wpAny_bind (wpAny_fieldsOf ho hd ?_))))
 simp only[own,Bool.false_eq_true,if_false]
 show wpAny _ _ (if (Value.ref d==Value.none)=true then _ else _) _ _ s
 have nd:¬((Value.ref d==Value.none)=true):=Bool.false_ne_true
 rw[if_neg nd]
 refine wpAny_bind (wpAny_pure (wpAny_bind (wpAny_dictEntries hod hdd ?_)))
 rw[if_neg (by simp)]
 refine wpAny_bind (wpAny_pure (wpAny_bind (wpAny_dictEpoch hod hdd ?_)))
 rw[if_neg (by simp)]
 refine wpAny_pure ?_
 simp only[show ¬((i:Int)<0) by (first|lia|omega),if_false,Int.toNat_natCast,hx]
 refine wpAny_bind (wpAny_bind (wpAny_typeNameOfWhole_keyiter tI ?_))
 refine wpAny_pure (wpAny_bind (wpAny_setField ho hd (by rw[own];simp) ?_))
 refine wpAny_bind ?_
 simp only[newExc,newTuple]
 refine wpAny_bind (wpAny_newObj_type (wpAny_bind (m:=firstArgMember _ _) (wpAny_of_eq (a:=Value.none) (by first|rfl|(simp only[firstArgMember];rfl)) (wpAny_newObj_type ?_ (by size_fits)))) (by size_fits))
 simp only[raiseNew]
 refine wpAny_bind (wpAny_handled ?_)
 rw[show A.in1.handled=none from hh]
 refine wpAny_bind (wpAny_pure (wpAny_throw ?_))
 refine wpAny_bind (wpAny_isInstance (T:= "StopIteration") (b:=true) ⟨_,Heap.get?_push_size _ rfl,rfl⟩ isSubtype_stop (wpAny_pure ?_))
 exact q _ (((Heap.SameBut.update ..).extBut.push _).push _)
end
theorem RawD.keepR {h h':Heap}{d:Addr}{es:Array DictEntry}{ep:Nat}(x:RawD h d es ep)(e:∀o,h.get? d=some o->h'.get? d=some o):RawD h' d es ep:=let ⟨o,ho,r⟩:=x;⟨o,e _ ho,r⟩
theorem RawD.lt {h:Heap}{d:Addr}{es:Array DictEntry}{ep:Nat}(x:RawD h d es ep):d<h.objs.size:=let ⟨_,ho,_⟩:=x;Heap.lt_size ho
theorem ziT {prog:Program}{w:World}{A:Around}(hh:A.handled=none)(I d:Addr)(hne:d≠I)(es:Array DictEntry)(ep:Nat):
  Walks prog w A I [I,d] [I] es.size (fun i v=>∃e,es[i]? =some e/\v=e.key) (fun i h=>h.IsKeyIter I d i es.size ep/\RawD h d es ep) where
 sub:=fun b hb=>by simp at hb;simp[hb]
 frame:=fun _ _ _ st hk=>⟨st.1.at fun o e=>hk I (by simp) o e,st.2.keepR fun o e=>hk d (by simp) o e⟩
 item:=fun i s Q E hi st hQ=>by
  have hx:es[i]? =some es[i]:=Array.getElem?_eq_getElem hi
  refine ziS st.1 st.2 hx fun h' hit' hs'=> ?_
  exact hQ _ h' s.toks ⟨_,hx,rfl⟩ ⟨hit',st.2.keepR fun o e=>hs'.extBut d o hne e⟩ fun b o hb e=>hs'.extBut b o (fun h=>hb (by simp[h])) e
 done:=fun s Q E st hQ=>zkb hh st.1 st.2 (by simp) fun h' he'=>hQ h' s.toks fun b o hb e=>he' b o (fun h=>hb (by simp[h])) e
 self:=fun _ _ _ _ st hQ=>wpAny_pyIter_keyiter st.1 hQ
theorem zlG {prog:Program}{w:World}{d:Addr}{es:Array DictEntry}{ep:Nat}(lo:(d==sysModules)=false):PySem.W.KdlSrc prog w "dict" d d es.size (fun i v=>∃e,es[i]? =some e/\v=e.key) (fun h=>RawD h d es ep) where
 type:=fun _ hm=>hm.ty
 there:=fun _ hm=>⟨hm.lt,hm.lt⟩
 keep:=fun _ _ hm hk=>hm.keepR fun o e=>hk d (.inl rfl) o e
 notList:=by decide
 notTuple:=by decide
 hint:=fun _ _ _ _ hm hq=>PySem.W.kdl_hint_dict hm.ty hq
 iter:=fun _ _ hh hm=>⟨_,_,(fun _ _ hq=>ziR lo hm hq),ziT hh _ d (Nat.ne_of_lt hm.lt) es ep,⟨⟨_,Heap.get?_push_size _ rfl,rfl,rfl⟩,hm.keepR fun _ e=>Heap.get?_push_of_some _ e⟩⟩
end L2
namespace Srt
open PySem PyProof.Rows
theorem tups_out {h:Heap}{vs:List Value}{nss:List (List Int)}{xs:Array Keyed}(hv:Paired (fun v ns=>isTI h v ns) vs nss)(hp:xs.Perm (pairsOf vs))(hs:RunUp (O:=lexO) (fun p=>tupI h p.1) xs 0 vs.length):
  ((xs.map (·.2)).toList.map (tupI h)).Perm nss/\((xs.map (·.2)).toList.map (tupI h)).Pairwise (fun a b=>HT.lexLt b a=false)/\∀v∈(xs.map (·.2)).toList,v∈vs:=by
 have hl:xs.toList.Perm (vs.zip vs):=by rw[<-pairsOf_toList];exact Array.perm_iff_toList_perm.mp hp
 have hmem:∀p,p∈xs.toList->p.1=p.2/\p.1∈vs:=fun p hp'=>mem_zip_self (hl.mem_iff.mp hp')
 have hvs:vs.map (tupI h)=nss:=by
  clear hp hs hl hmem
  induction hv with
  |nil=>rfl
  |cons p _ ih=>rw[List.map_cons,ih,isTI.tup p]
 have hz:(vs.zip vs).map (·.2)=vs:=by
  rw[List.map_snd_zip (Nat.le_refl _)]
 have hlen:xs.toList.length=vs.length:=by rw[hl.length_eq,List.length_zip,Nat.min_self]
 refine⟨?_, ?_,fun v hv=> ?_⟩
 ·rw [Array.toList_map,<-hvs]
  refine List.Perm.map _ ?_
  have:=hl.map (·.2)
  rwa [hz] at this
 ·rw [Array.toList_map,List.map_map]
  rw[List.pairwise_iff_getElem]
  intro i j hi hj hij
  rw[List.length_map] at hi hj
  rw[List.getElem_map,List.getElem_map]
  have g:=hs i j _ _ (Nat.zero_le _) (Nat.le_of_lt hij) (by (first|lia|omega)) (show xs[i]? =some (xs.toList[i]) by rw[<-Array.getElem?_toList];exact List.getElem?_eq_getElem hi) (show xs[j]? =some (xs.toList[j]) by rw[<-Array.getElem?_toList];exact List.getElem?_eq_getElem hj)
  have e1:=(hmem _ (List.getElem_mem hi)).1
  have e2:=(hmem _ (List.getElem_mem hj)).1
  have g':HT.lexLt (tupI h xs.toList[j].1) (tupI h xs.toList[i].1)=false:=g
  rw[e1,e2] at g'
  exact g'
 ·rw [Array.toList_map] at hv
  obtain⟨p,hp1,rfl⟩:=List.mem_map.mp hv
  obtain⟨e,m⟩:=hmem p hp1
  rw[<-e]
  exact m
theorem tups_kind {prog:Program}{w:World}{A:Around}{E:Value->Shared->Prop}{s:Shared}{vs:List Value}{nss:List (List Int)}{Q:SortKind->Shared->Prop}(hv:Paired (fun v ns=>isTI s.heap v ns) vs nss)(h2:2<=vs.length)(hne:∀ns∈nss,ns≠[])
  (q:Q (tuples' true) s):wpAny (model prog w) A (keyKind' vs.toArray) Q E s:=by
 have key:∃fs:List Value,PySem.W.KatTups s.heap vs fs/\fs.length=vs.length/\∀v∈fs,∃n t,v=Value.int n t:=by
  clear h2 q
  induction hv with
  |nil=>exact⟨[],PySem.W.KatTups.nil,rfl,fun _ h=>by cases h⟩
  | @cons v ns vs' nss' p _ ih=>
   obtain⟨fs,f1,f2,f3⟩:=ih fun ns h=>hne ns (List.mem_cons_of_mem _ h)
   obtain⟨a,o,xs,n,rfl,ho,hc,hd,hi⟩:=p
   have:=hne ns List.mem_cons_self
   have hx:∃i t,xs[0]? =some (Value.int i t):=by
    rw[<-Array.getElem?_toList]
    generalize xs.toList=l at hi
    cases hi with
    |nil=>exact absurd rfl this
    |cons x t _=>exact⟨_,_,rfl⟩
   obtain⟨i,t,hx⟩:=hx
   refine⟨.int i t::fs,PySem.W.KatTups.cons ho hc hd hx f1,by simp[f2],fun v hv=> ?_⟩
   rcases List.mem_cons.mp hv with rfl|hv
   ·exact⟨i,t,rfl⟩
   ·exact f3 v hv
 obtain⟨fs,f1,f2,f3⟩:=key
 refine PySem.W.kat_kind (T:=.type "int") f1 (by (first|lia|omega)) (fun v hv=> ?_) (by decide) q
 obtain⟨n,t,rfl⟩:=f3 v hv
 exact .now
end Srt
namespace L2
open PySem PySem.Spec PyProof.Rows
theorem zkc {prog:Program}{w:World}{A:Around}{E:Value->Shared->Prop}{s:Shared}{T:String}{r d:Addr}{n:Nat}{P:Nat->Value->Prop}{OK:Heap->Prop}{R:List Value->Shared->Prop}(K:PySem.W.KdlSrc prog w T r d n P OK)(hh:A.handled=none)(hok:OK s.heap)(hn:n<=sizeLine)
  (h:∀(h':Heap) (tk:Nat) (acc:Array Value),(∀b o,s.heap.get? b=some o->h'.get? b=some o)->s.heap.objs.size<=h'.objs.size->ItemsOf P acc n->R acc.toList {s with heap:=h',toks:=tk}):
  wpAny (model prog w) A (collect (.ref r)) R E s:=by
 have hlt:=K.there _ hok
 unfold collect
 refine wpAny_bind (wpAny_runValue (codeAny_builtin entry_proto_collect' ?_))
 rw[Around.under_plainId PySem.F.plain_proto_collect _]
 show wpAny _ A.in1 (newList [] >>= fun l=>again (.builtin "list.__iadd__" ⟨[l,.ref r],[]⟩)) _ _ s
 refine wpAny_bind (wpAny_newObj_type (wpAny_pure ⟨plainId_quiet PySem.F.plain_list_iadd _,codeAny_builtin entry_list_iadd' ?_⟩))
 rw[Around.under_plainId PySem.F.plain_list_iadd _]
 have at1:(s.heap.push {cls:=.type "list",data:=.seq ([]:List Value).toArray}).get? s.heap.objs.size=some {cls:=.type "list",data:=.seq #[]}:=Heap.get?_push_size _ rfl
 show wpAny _ A.in1 (Builtin.List.listExtendWith (.ref s.heap.objs.size) (.ref r) (.ref s.heap.objs.size)) _ _ _
 have key:=PySem.W.kdl_extend (A:=A) (s:={s with heap:=s.heap.push {cls:=.type "list",data:=.seq ([]:List Value).toArray}})
  (R:=fun (q:Result) (s':Shared)=>q=.ok (.ret (.ref s.heap.objs.size))/\∃(h':Heap) (tk:Nat) (acc:Array Value) (c:Nat),s'={s with heap:=h',toks:=tk}/\
   (∀b o,s.heap.get? b=some o->h'.get? b=some o)/\h'.get? s.heap.objs.size=some {cls:=.type "list",dict:=none,data:=.seq acc c,slots:=#[]}/\ItemsOf P acc n)
  K hh (K.keep _ _ hok fun b _ o e=>Heap.get?_push_of_some _ e) s.heap.objs.size (Nat.ne_of_gt hlt.1) (Nat.ne_of_gt hlt.2) (.ref s.heap.objs.size) 0 at1
  (fun h' tk acc c hk hS hacc=>⟨rfl,h',tk,acc,c,rfl,fun b o e=>hk b o (Nat.ne_of_lt (Heap.lt_size e)) (Heap.get?_push_of_some _ e),hS,hacc⟩) hn
 have fin:∀s',(∃(h':Heap) (tk:Nat) (acc:Array Value) (c:Nat),s'={s with heap:=h',toks:=tk}/\(∀b o,s.heap.get? b=some o->h'.get? b=some o)/\h'.get? s.heap.objs.size=some {cls:=.type "list",dict:=none,data:=.seq acc c,slots:=#[]}/\ItemsOf P acc n)->
   wpAny (model prog w) A (load s.heap.objs.size >>= fun o=>match o.data with| .seq xs _=>pure xs.toList|_=>unsupported "internal:collect") R E s':=by
  rintro s' ⟨h',tk,acc,c,rfl,hk,hS,hacc⟩
  exact wpAny_bind (wpAny_load hS (wpAny_pure (h h' tk acc hk (Nat.le_of_lt (Heap.lt_size hS)) hacc)))
 refine wpAny_mono key (fun fin' s' x=> ?_) fun e s' x=> ?_
 ·cases fin' with
  |done f=>
   obtain⟨e,x⟩:=x
   cases e
   exact fin s' x
  |again c₁=>
   refine⟨x.1,codeAny_mono x.2 fun q s₂ y=> ?_⟩
   obtain⟨rfl,y⟩:=y
   exact fin s₂ y
 ·cases x.1
section
variable {X:Cx}
noncomputable def ziU:List V->Hp->VK->Prop:=fun xs H Q=>∃(d:Addr) (kvs:List (List Key×V)) (nss:List (List Int)),xs=[.ref d]/\H d=some (.dT kvs)/\kvs.map (·.1)=nss.map (fun ns=>ns.map Sum.inl)/\(2<=nss.length->∀ns∈nss,ns≠[])/\
 ∀p (zs:List Addr) (nss':List (List Int)),nss'.Perm nss->nss'.Pairwise (fun a b=>HT.lexLt b a=false)->Paired (fun z ns=>H z=some (.tup (ns.map V.int))) zs nss'->H p=none->Q (.ref p) (upd H p (.lst (zs.map V.ref)))
theorem zlH (ns:List Int):(ns.map Sum.inl).map kV=ns.map V.int:=by
 rw[List.map_map]
 rfl
theorem zef (hc:X.calm=true):zbu X (.builtin "sorted") ziU:=by
 intro pins s σ H xs us Q I rs h
 obtain⟨d,kvs,nss,rfl,hH,hks,hne,q⟩:=h
 obtain⟨u,rfl,ru⟩:=zbI rs
 cases (show u=Value.ref d from ru)
 obtain⟨z,y,xs,rel,o,es,ep,e1,c,e2,e3,_⟩:=(show ObjOk X.prog X.w H s.heap d (.dT kvs) from I.hok d _ hH)
 have les:es.size=kvs.length:=by rw[<-Array.length_toList,e3,List.length_map,<-Paired.length rel]
 have hkey:∀i (hi:i<es.size),∃b ns,nss[i]? =some ns/\(es[i]).key=.ref b/\H b=some (.tup (ns.map V.int)):=fun i hi=>by
  have hk:kvs[i]? =some kvs[i]:=List.getElem?_eq_getElem (by (first|lia|omega))
  obtain⟨⟨k',b,v⟩,hx,r1,r2,r3⟩:=zaO rel hk
  have he:es.toList[i]? =some (entryOfKey (tupleKind (zaE X.prog X.w)) (k',b,v)):=by rw[e3,List.getElem?_map,hx];rfl
  rw[Array.getElem?_toList,Array.getElem?_eq_getElem hi] at he
  have hn:(kvs.map (·.1))[i]? =some (kvs[i]).1:=by rw[List.getElem?_map,hk];rfl
  rw[hks,List.getElem?_map] at hn
  obtain⟨ns,hn1,hn2⟩:=Option.map_eq_some_iff.mp hn
  refine⟨b,ns,hn1, ?_, ?_⟩
  ·injection he with he
   rw[he]
   rfl
  ·rw [<-hn2,zlH] at r2
   exact r2
 have lns:nss.length=kvs.length:=by
  have:=congrArg List.length hks
  rw[List.length_map,List.length_map] at this
  (first|lia|omega)
 refine Calls.call_function_entry kind_sorted plain_sorted entry_sorted (args_sorted1 _) ?_
 unfold Builtin.«sorted»
 refine wpAny_bind (m:=checkCount "sorted" 1 1 _) (wpAny_pure ?_)
 refine wpAny_bind (zkc (zlG (es:=es) (ep:=ep) y) (I.ok.hd hc) ⟨o,e1,c,e2⟩ (by (first|lia|omega)) fun h1 tk acc hk1 hp1 hacc=> ?_)
 have lacc:acc.toList.length=kvs.length:=by rw[Array.length_toList,hacc.1,les]
 refine wpAny_bind (wpAny_newList ?_ (by (first|lia|omega)))
 show wpAny _ _ _ _ _ {s with heap:=h1.push (seqObj "list" acc.toList.toArray 0),toks:=tk}
 have hat:(h1.push (seqObj "list" acc.toList.toArray 0)).get? h1.objs.size=some (seqObj "list" acc.toList.toArray 0):=Heap.get?_push_size _ rfl
 have hv:∀h':Heap,(∀b o,s.heap.get? b=some o->h'.get? b=some o)->Paired (fun v ns=>Srt.isTI h' v ns) acc.toList nss:=fun h' hk'=>by
  have all:∀(l:List Value) (ms:List (List Int)),l.length=ms.length->(∀(i:Nat) (v:Value),l[i]? =some v->∃ns,ms[i]? =some ns/\Srt.isTI h' v ns)->Paired (fun v ns=>Srt.isTI h' v ns) l ms:=by
   intro l
   induction l with
   |nil=>
    intro ms hl _
    cases ms with
    |nil=>exact .nil
    |cons _ _=>cases hl
   | cons v l ih=>
    intro ms hl hh
    cases ms with
    |nil=>cases hl
    |cons m ms=>
     obtain⟨ns,a1,a2⟩:=hh 0 v rfl
     cases a1
     exact .cons a2 (ih ms (by simpa using hl) fun i v hv=>hh (i+1) v hv)
  refine all _ _ (by (first|lia|omega)) fun i v hv=> ?_
  rw[Array.getElem?_toList] at hv
  obtain⟨e,he,rfl⟩:=hacc.2 i v hv
  obtain⟨hi,hee⟩:=Array.getElem?_eq_some_iff.mp he
  obtain⟨b,ns,n1,n2,n3⟩:=hkey i hi
  rw[hee] at n2
  obtain⟨_,its,r,o',t1,t2,⟨n,t3⟩,_⟩:=(show ObjOk X.prog X.w H s.heap b (.tup (ns.map V.int)) from I.hok b _ n3)
  exact⟨ns,n1,b,o',its.toArray,n,n2,hk' _ _ t1,t2,t3,by simpa using zbq r⟩
 have hkS:∀b o,s.heap.get? b=some o->(Srt.hS (h1.push (seqObj "list" acc.toList.toArray 0)) h1.objs.size acc.toList).get? b=some o:=fun b o g=>Srt.hS_old (Nat.ne_of_lt (Heap.lt_size (hk1 _ _ g))) (Heap.get?_push_of_some _ (hk1 _ _ g))
 have hvS:=hv _ hkS
 refine wpAny_bind (wpAny_holding (wpAny_call_entry slot_list_sort ⟨_,hat,rfl⟩ entry_list_sort (Srt.listSortA (s:={s with heap:=h1.push (seqObj "list" acc.toList.toArray 0),toks:=tk}) (kd:=tuples' true) (O:=Srt.lexO) (kf:=fun p=>Srt.tupI (Srt.hS (h1.push (seqObj "list" acc.toList.toArray 0)) h1.objs.size acc.toList) p.1) (okk:=fun p=>∃ns,Srt.isTI (Srt.hS (h1.push (seqObj "list" acc.toList.toArray 0)) h1.objs.size acc.toList) p.1 ns) hat (by (first|lia|omega)) (fun h2 Q' q'=> ?_) (Srt.cmpT true) (fun p hp=> ?_) fun st' a1 a2=>⟨_,rfl, ?_⟩) (args_list_sort _)))
 ·exact Srt.tups_kind (s:={s with heap:=Srt.hS (h1.push (seqObj "list" acc.toList.toArray 0)) h1.objs.size acc.toList,toks:=tk}) hvS h2 (hne (by (first|lia|omega))) q'
 ·rw [pairsOf_toList] at hp
  have:=(mem_zip_self hp).2
  obtain⟨i,hi⟩:=List.getElem?_of_mem this
  obtain⟨ns,_,h⟩:=zaO hvS hi
  exact⟨ns,h⟩
 ·obtain ⟨b1,b2,b3⟩:=Srt.tups_out hvS a1 a2
  have hsz:(arrOf st').size=acc.toList.length:=a1.size_eq.trans (pairsOf_size _)
  generalize hout:(arrOf st').map (·.2)=out at b1 b2 b3
  have lout:out.toList.length=kvs.length:=by
   rw[<-hout,Array.toList_map,List.length_map,Array.length_toList,hsz,lacc]
  have hz:∀l:List Value,(∀v∈l,v∈acc.toList)->Paired (fun z ns=>H z=some (.tup (ns.map V.int))) (l.map fun v=>match v with| .ref b=>b|_=>0) (l.map (Srt.tupI (Srt.hS (h1.push (seqObj "list" acc.toList.toArray 0)) h1.objs.size acc.toList)))/\Vals ((l.map fun v=>match v with| .ref b=>b|_=>0).map V.ref) l:=by
   intro l
   induction l with
   |nil=>exact fun _=>⟨.nil,.nil⟩
   |cons v l ih=>
    intro hh
    obtain⟨i1,i2⟩:=ih fun v hv=>hh v (List.mem_cons_of_mem _ hv)
    obtain⟨i,hi⟩:=List.getElem?_of_mem (hh v List.mem_cons_self)
    obtain⟨ns,n1,n2⟩:=zaO hvS hi
    rw[Array.getElem?_toList] at hi
    obtain⟨e,he,rfl⟩:=hacc.2 i v hi
    obtain⟨hi',hee⟩:=Array.getElem?_eq_some_iff.mp he
    obtain⟨b,ns',m1,m2,m3⟩:=hkey i hi'
    rw[hee] at m2
    rw[n1] at m1
    cases m1
    rw[m2] at n2 ⊢
    refine⟨.cons ?_ i1,.cons rfl i2⟩
    rw[n2.tup]
    exact m3
  obtain⟨p1,p2⟩:=hz _ b3
  have hk:∀b o,s.heap.get? b=some o->(sortedHeap (h1.push (seqObj "list" acc.toList.toArray 0)) h1.objs.size acc.toList out).get? b=some o:=fun b o g=>by
   rw[sortedHeap_old (Nat.ne_of_lt (Heap.lt_size (hk1 _ _ g))) (by rw[size_push'];exact Nat.lt_succ_of_lt (Heap.lt_size (hk1 _ _ g)))]
   exact Heap.get?_push_of_some _ (hk1 _ _ g)
  obtain⟨cc,hcc⟩:=sortedHeap_at (out:=out) (vs:=acc.toList) hat
  refine wpAny_pure ⟨_,rfl,.ref h1.objs.size,_,I.laid (t':=tk) (o:=.lst ((out.toList.map fun v=>match v with| .ref b=>b|_=>0).map V.ref)) hk hp1 ?_,rfl,q _ _ _ b1 b2 p1 (I.hok.fresh hp1)⟩
  refine⟨?_,out.toList,cc,p2,by simpa using hcc⟩
  rw[List.length_map,List.length_map,lout]
  exact z
end
structure TopY (mg:Str->Option Value):Prop where
 n_any:mg "any" =none
structure TopYK (K:PySem.W.Frag):Prop where
 k_any:PySem.W.nsIn K mainGlobals "any" =some none
theorem TopYK.top {K:PySem.W.Frag}{h:Heap}{mg:Str->Option Value}(T:TopYK K)(X:K.In h)(G:h.Ns mainGlobals mg):TopY mg:=⟨PySem.W.mg_none_of X G T.k_any⟩
theorem zdD (f:Nat->Bool)(bs:List Bool)(h:∀i,i<bs.length->f i=bs.getD i false):(List.range bs.length).any f=bs.any id:=by
 rw[Bool.eq_iff_iff,List.any_eq_true,List.any_eq_true]
 constructor
 ·rintro ⟨i,hi,e⟩
  have hi:=List.mem_range.mp hi
  rw[h i hi,List.getD_eq_getElem?_getD,List.getElem?_eq_getElem hi] at e
  exact⟨_,List.getElem_mem hi,e⟩
 ·rintro ⟨b,hb,e⟩
  obtain⟨i,hi,e'⟩:=List.getElem_of_mem hb
  refine⟨i,List.mem_range.mpr hi, ?_⟩
  rw[h i hi,List.getD_eq_getElem?_getD,List.getElem?_eq_getElem hi,e']
  exact e
noncomputable def rAny:List V->Hp->VK->Prop:=fun xs H Q=>∃(a:Addr) (bs:List Bool),xs=[.ref a]/\H a=some (.lst (bs.map V.bl))/\Q (.bl (bs.any id)) H
theorem zgV {X:Cx}(hc:X.calm=true):zbu X (.builtin "any") rAny:=by
 intro pins s σ H xs us Q I rs h
 obtain⟨a,bs,rfl,ha,q⟩:=h
 obtain⟨u,rfl,ru⟩:=zbI rs
 cases (show u=Value.ref a from ru)
 obtain⟨hz,its,n,rv,ho⟩:=(show ObjOk X.prog X.w H s.heap a (.lst (bs.map V.bl)) from I.hok a _ ha)
 have hl:s.heap.IsList a its.toArray:=⟨_,ho,rfl,n,rfl⟩
 have hh:X.A.in1.handled=none:=I.ok.hd hc
 have hlen:its.length=bs.length:=by rw[<-rv.length,List.length_map]
 have hne:a≠s.heap.objs.size:=Nat.ne_of_lt (Heap.lt_size ho)
 have hit:∀(i:Nat) v,its.toArray[i]? =some v->v=Value.bool (bs.getD i false):=fun i v e=>by
  have e':its[i]? =some v:=by simpa using e
  have hi:i<bs.length:=by rw[<-hlen];exact (List.getElem?_eq_some_iff.mp e').1
  obtain⟨u,hu,ru⟩:=rv.get (i:=i) (x:=V.bl bs[i]) (by rw[List.getElem?_map,List.getElem?_eq_getElem hi];rfl)
  rw[e'] at hu;cases hu
  cases (show v=Value.bool bs[i] from ru)
  rw[List.getD_eq_getElem?_getD,List.getElem?_eq_getElem hi]
  rfl
 refine call_any_walk (wpAny_pyIter_list hl ⟨s.heap.objs.size,_,_,_,_,_,fun i=>bs.getD i false,rfl,Walks.list hh _ a hne its.toArray,⟨⟨_,Heap.get?_push_size _ rfl,rfl,rfl⟩,hl.push _⟩, ?_,fun h' tk hk=> ?_⟩)
 ·intro i v s' Q' E' hP hQ
  rw[hit i v hP]
  exact wpAny_truthy_bool hQ
 ·refine ⟨.bl (bs.any id),H,I.kept (t':=tk) fun b o e=>hk b o ?_ (Heap.get?_push_of_some _ e), ?_,q⟩
  ·exact fun hm=>absurd (List.mem_singleton.mp hm) (Nat.ne_of_lt (Heap.lt_size e))
  ·show Value.bool _=Value.bool _
   have hs:its.toArray.size=bs.length:=by simpa using hlen
   rw[hs,zdD _ bs fun i _=>rfl]
section
variable {X:Cx}{tg:Expr}
theorem ziV (a b:Int):Builtin.Range.rangeSize a b (-1)=(((a-b).toNat:Nat):Int):=by
 unfold Builtin.Range.rangeSize
 rw[if_neg (by decide)]
 split
 ·rw[show (-(-1:Int))=1 from rfl,Int.ediv_one];(first|lia|omega)
 ·(first|lia|omega)
end
section
variable {X:Cx}
end
section
variable {prog:Program}{w:World}{A:Around}{E:Value->Shared->Prop}{s:Shared}{d it v:Addr}{es:Array DictEntry}{ep:Nat}
end
section
variable {prog:Program}{w:World}{A:Around}{s:Shared}{R:Result->Shared->Prop}{es:Array DictEntry}{ep:Nat}
end
section
variable {prog:Program}{w:World}{A:Around}{E:Value->Shared->Prop}{s:Shared}{r d:Addr}{es:Array DictEntry}{ep:Nat}
end
end L2
namespace Srt
open PySem PyProof.Rows
section
variable {prog:Program}{w:World}{A:Around}{E:Value->Shared->Prop}{s:Shared}
end
end Srt
namespace L2
open PySem PySem.Spec PyProof.Rows
noncomputable def ov (H N:Hp):Hp:=fun b=>match N b with
 |some o=>some o
 |none=>H b
section
variable {X:Cx}{pins:List (Addr×Obj)}{σ:List (Option V)}{H N:Hp}{s:Shared}{h':Heap}
end
section
variable {X:Cx}
end
end L2
namespace Srt
open PySem PyProof.Rows
theorem isTI.keep {h h':Heap}{v:Value}{ns:List Int}(p:isTI h v ns)(hk:∀b o,h.get? b=some o->h'.get? b=some o):isTI h' v ns:=by
 obtain⟨a,o,xs,n,e,ho,r⟩:=p
 exact⟨a,o,xs,n,e,hk _ _ ho,r⟩
theorem cmpTK {prog:Program}{w:World}{A:Around}{E:Value->Shared->Prop}{s:Shared}{h:Heap}(b:Bool)(hk:∀b o,h.get? b=some o->s.heap.get? b=some o):Cmp (model prog w) A E s (tuples' b) lexO (fun p=>tupI h p.1) (fun p=>∃ns,isTI h p.1 ns):=by
 refine⟨fun x y st Q hx hy hkd q=> ?_⟩
 obtain⟨ns,hx⟩:=hx
 obtain⟨ms,hy⟩:=hy
 refine (cmpT b).1 x y st Q ⟨ns,hx.keep hk⟩ ⟨ms,hy.keep hk⟩ hkd ?_
 rw[hx.tup,hy.tup] at q
 rw[(hx.keep hk).tup,(hy.keep hk).tup]
 exact q
end Srt
namespace L2
open PySem PySem.Spec PyProof.Rows
section
variable {X:Cx}
noncomputable def ze1:List V->Hp->VK->Prop:=fun xs H Q=>∃(l:Addr) (zs:List Addr) (rows:List (List Int)),xs=[.ref l]/\H l=some (.lst (zs.map V.ref))/\RowsAt H zs rows/\(2<=rows.length->∀r∈rows,r≠[])/\
 ∀p (zs':List Addr) (rows':List (List Int)),rows'.Perm rows->rows'.Pairwise (fun a b=>HT.lexLt b a=false)->RowsAt H zs' rows'->H p=none->Q (.ref p) (upd H p (.lst (zs'.map V.ref)))
theorem zbB:zbu X (.builtin "sorted") ze1:=by
 intro pins s σ H xs us Q I rs h
 obtain⟨l,zs,rows,rfl,hH,hR,hne,q⟩:=h
 obtain⟨u,rfl,ru⟩:=zbI rs
 cases (show u=Value.ref l from ru)
 obtain⟨z,its,n,r,hl,e⟩:=I.lstM hH
 have hln:its.length=rows.length:=by rw[<-r.length,List.length_map,Paired.length hR]
 have hz:its.length<=sizeLine:=by
  rw[<-r.length]
  exact z
 have hv:∀{zs:List Addr} {rows:List (List Int)} {its:List Value},RowsAt H zs rows->Vals (zs.map V.ref) its->Paired (fun v ns=>Srt.isTI s.heap v ns) its rows/\∀v∈its,∃b ns,v=.ref b/\H b=some (.tup (List.map V.int ns))/\Srt.isTI s.heap v ns:=by
  intro zs
  induction zs with
  |nil=>
   intro rows its hR hv
   cases hR
   cases hv
   exact⟨.nil,fun _ h=>by cases h⟩
  |cons a t ih=>
   intro rows its hR hv
   cases hR with
   |@cons _ ns _ _ h1 h2=>
   cases hv with
   |@cons _ v _ _ w1 w2=>
   obtain⟨i1,i2⟩:=ih h2 w2
   cases (show v=Value.ref a from w1)
   obtain⟨_,its',r',o',t1,t2,⟨n',t3⟩,_⟩:=(show ObjOk X.prog X.w H s.heap a (.tup (ns.map V.int)) from I.hok a _ h1)
   have hT:Srt.isTI s.heap (.ref a) ns:=⟨a,o',its'.toArray,n',rfl,t1,t2,t3,by simpa using zbq r'⟩
   refine⟨.cons hT i1,fun v hv=> ?_⟩
   rcases List.mem_cons.mp hv with rfl|hv
   ·exact⟨a,ns,rfl,h1,hT⟩
   ·exact i2 v hv
 obtain⟨hv1,hv2⟩:=hv hR r
 refine Srt.sortedA (l:=l) (vs:=its) (kd:=tuples' true) (O:=Srt.lexO) (kf:=fun p=>Srt.tupI s.heap p.1) (okk:=fun p=>∃ns,Srt.isTI s.heap p.1 ns) ⟨_,e,rfl,n,rfl⟩ hz (fun h2 A' E' h' Q' hk q'=> ?_) (fun A' E' h' hk=>Srt.cmpTK (s:={s with heap:=h'}) true hk) (fun p hp=> ?_) fun st' a1 a2=> ?_
 ·refine Srt.tups_kind (s:={s with heap:=h'}) (nss:=rows) (Paired.mapP hv1 fun _ _ p=>p.keep hk) h2 (hne (by (first|lia|omega))) q'
 ·rw [pairsOf_toList] at hp
  obtain⟨b,ns,_,_,h⟩:=hv2 _ (mem_zip_self hp).2
  exact⟨ns,h⟩
 ·obtain ⟨b1,b2,b3⟩:=Srt.tups_out hv1 a1 a2
  have hsz:(arrOf st').size=its.length:=a1.size_eq.trans (pairsOf_size _)
  generalize hout:(arrOf st').map (·.2)=out at b1 b2 b3
  have lout:out.toList.length=its.length:=by
   rw[<-hout,Array.toList_map,List.length_map,Array.length_toList,hsz]
  have hzz:∀l:List Value,(∀v∈l,v∈its)->Paired (fun z ns=>H z=some (.tup (ns.map V.int))) (l.map fun v=>match v with| .ref b=>b|_=>0) (l.map (Srt.tupI s.heap))/\Vals ((l.map fun v=>match v with| .ref b=>b|_=>0).map V.ref) l:=by
   intro l
   induction l with
   |nil=>exact fun _=>⟨.nil,.nil⟩
   |cons v l ih=>
    intro hh
    obtain⟨i1,i2⟩:=ih fun v hv=>hh v (List.mem_cons_of_mem _ hv)
    obtain⟨b,ns,rfl,m3,n2⟩:=hv2 v (hh v List.mem_cons_self)
    refine⟨.cons ?_ i1,.cons rfl i2⟩
    rw[n2.tup]
    exact m3
  obtain⟨p1,p2⟩:=hzz _ b3
  obtain⟨c,hc⟩:=sortedAll_at s.heap its out
  have hk:∀b o,s.heap.get? b=some o->(sortedAll s.heap its out).get? b=some o:=fun b o hb=>sortedAll_old hb
  have hf:H (s.heap.objs.size+1)=none:=I.hok.fresh (Nat.le_succ _)
  refine⟨.ref (s.heap.objs.size+1),_,I.laid (t':=s.toks) (o:=.lst ((out.toList.map fun v=>match v with| .ref b=>b|_=>0).map V.ref)) hk (Nat.le_succ _) ?_,rfl,q _ _ _ b1 b2 p1 hf⟩
  refine⟨?_,out.toList,c,p2,by simpa using hc⟩
  rw[List.length_map,List.length_map,lout]
  exact hz
noncomputable def rdφ (a:Addr)(i j:Int):Heap->Prop:=fun h=>∃t u v,h.get? a=some {cls:=.type "range",data:=.fields #[.int i t,.int j u,.int (-1) v]}
noncomputable def RngD (a:Addr)(i j:Int):HO:=.ext (rdφ a i j)
noncomputable def zlI:List V->Hp->VK->Prop:=fun xs H Q=>∃i j:Int,xs=[.int i,.int j,.int (-1)]/\∀p,H p=none->Q (.ref p) (upd H p (RngD p i j))
theorem zfY:zbu X (.type "range") zlI:=by
 intro pins s σ H xs us Q I rs h
 obtain⟨i,j,rfl,q⟩:=h
 cases rs with
 | cons r rr=>
  cases rr with
  | cons r' rr=>
   cases rr with
   |cons r'' rr=>
    cases rr
    obtain⟨t,rfl⟩:=r
    obtain⟨t',rfl⟩:=r'
    obtain⟨t'',rfl⟩:=r''
    refine call_range_3 (by decide) ?_ (.inl (PyProof.noPylong_small (by decide)))
    refine⟨.ref s.heap.objs.size,_,I.laid (o:=RngD s.heap.objs.size i j) (fun b ob q=>Heap.get?_push_of_some _ q) (Nat.le_refl _) ?_,rfl,q _ (I.hok.fresh (Nat.le_refl _))⟩
    refine⟨⟨_,_,_,Heap.get?_push_size _ rfl⟩,⟨_,Heap.get?_push_size _ rfl⟩,fun h1 h2 p k=> ?_⟩
    obtain⟨t,u,v,e⟩:=p
    exact⟨t,u,v,k _ e⟩
noncomputable def zfZ (i:Int)(n:Nat):List V:=(List.range n).map fun k:Nat=>V.int (i-k)
noncomputable def zmP:List V->Hp->VK->Prop:=fun xs H Q=>∃(a:Addr) (i j:Int),xs=[.ref a]/\H a=some (RngD a i j)/\(-1000<=j/\j<=i+1/\i-j<=1000/\i<=1000)/\∀p,H p=none->Q (.ref p) (upd H p (.lst (zfZ i (i-j).toNat)))
theorem zhO (hc:X.calm=true):zbu X (.type "list") zmP:=by
 intro pins s σ H xs us Q I rs h
 obtain⟨a,i,j,rfl,ha,⟨h0,h1,h2,h3⟩,q⟩:=h
 obtain⟨u,rfl,ru⟩:=zbI rs
 cases (show u=Value.ref a from ru)
 obtain⟨⟨t,u,v,ho⟩,_⟩:=(show ObjOk X.prog X.w H s.heap a (RngD a i j) from I.hok a _ ha)
 have hh:X.A.handled=none:=I.ok.hd hc
 have hsz:Builtin.Range.rangeSize i j (-1)=(((i-j).toNat:Nat):Int):=ziV i j
 refine call_list_range hh ho (PySem.W.small_down (by (first|lia|omega)) (by (first|lia|omega)) (by (first|lia|omega)) (by (first|lia|omega))) hsz (by (first|lia|omega)) fun h' tk acc c hk hS hi=> ?_
 obtain⟨i1,i2⟩:=hi
 refine⟨.ref s.heap.objs.size,_,I.laid (t':=tk) (o:=.lst (zfZ i (i-j).toNat)) hk (Nat.le_refl _) ?_,rfl,q _ (I.hok.fresh (Nat.le_refl _))⟩
 refine⟨by unfold zfZ;rw[List.length_map,List.length_range];exact Nat.le_trans (by (first|lia|omega):(i-j).toNat<=1000) (by decide),acc.toList,c, ?_,by simpa using hS⟩
 have key:∀(n:Nat) (l:List Value) (k:Int),l.length=n->(∀(i:Nat) v,l[i]? =some v->∃t,v=Value.int (k-(i:Int)) t)->Vals ((List.range n).map fun (i:Nat)=>V.int (k-(i:Int))) l:=by
  intro n
  induction n with
  |zero=>intro l k hl _;cases l with
   |nil=>exact .nil
   |cons _ _=>cases hl
  | succ n ih=>
   intro l k hl hv
   cases l with
   |nil=>cases hl
   | cons x r=>
    rw[List.range_succ_eq_map,List.map_cons,List.map_map]
    refine .cons ?_ ?_
    ·obtain ⟨t,e⟩:=hv 0 x rfl
     exact⟨t,e⟩
    ·have:=ih r (k-1) (by simpa using hl) (fun i v e=>by
      obtain⟨t,e'⟩:=hv (i+1) v (by simpa using e)
      exact⟨t,by rw[e'];congr 1;push_cast;(first|lia|omega)⟩)
     have e:((fun (i:Nat)=>V.int (k-(i:Int)))∘Nat.succ)=fun (i:Nat)=>V.int (k-1-(i:Int)):=by
      funext i
      show V.int (k-((i+1:Nat):Int))=_
      congr 1;push_cast;(first|lia|omega)
     rw[e]
     exact this
 refine key _ _ i (by simpa using i1) fun n v e=> ?_
 obtain⟨t,e'⟩:=i2 n v (by simpa using e)
 exact⟨t,by rw[e'];congr 1;(first|lia|omega)⟩
end
noncomputable def hdI (r:List Int):Int:=r.headD 0
structure WrR (m:Nat) (ns:List Int) (R:List (List Int)):Prop where
 all:R.flatten.Perm (num0 m)
 rnd:∀r∈R,IsRound ns (hdI r) r/\∀y∈r,y<=hdI r
 up:R.Pairwise fun r s=>hdI r<hdI s
theorem IsRound.hd {ns row:List Int}{x:Int}(h:IsRound ns x row):hdI row=x/\x∈row:=by
 obtain⟨⟨k,rfl,_⟩,_⟩:=h
 unfold orbO hdI
 rw[List.range_succ_eq_map,List.map_cons]
 exact⟨rfl,List.mem_cons_self⟩
theorem zmQ {m:Nat}{ns:List Int}{R:List (List Int)}(h:WrR m ns R){y:Int}(h0:0<=y)(h1:y<m):∃r∈R,y∈r:=by
 have:y∈R.flatten:=h.all.mem_iff.mpr (mem_num0.mpr ⟨h0,h1⟩)
 obtain⟨r,hr,hy⟩:=List.mem_flatten.mp this
 exact⟨r,hr,hy⟩
theorem zeg:∀{R:List (List Int)},R.flatten.Nodup->∀{r s:List Int} {y:Int},r∈R->s∈R->y∈r->y∈s->r=s
 |[],_,_,_,_,h,_,_,_=>by cases h
 | a::t,nd,r,s,y,hr,hs,h1,h2=>by
  rw[List.flatten_cons,List.nodup_append] at nd
  obtain⟨_,n2,n3⟩:=nd
  rcases List.mem_cons.mp hr with er|hr'
  ·rcases List.mem_cons.mp hs with es|hs'
   ·rw[er,es]
   ·rw [er] at h1
    exact absurd rfl (n3 y h1 y (List.mem_flatten.mpr ⟨s,hs',h2⟩))
  ·rcases List.mem_cons.mp hs with es|hs'
   ·rw [es] at h2
    exact absurd rfl (n3 y h2 y (List.mem_flatten.mpr ⟨r,hr',h1⟩))
   ·exact zeg n2 hr' hs' h1 h2
theorem ze2 {k:Int}:∀{R:List (List Int)} {r:List Int},R.Pairwise (fun r s=>hdI r<hdI s)->r∈R->hdI r=k->R.filter (fun s=>decide (k<=hdI s))=r::R.filter (fun s=>decide (k+1<=hdI s))
 |[],_,_,h,_=>by cases h
 | a::t,r,up,hr,e=>by
  obtain⟨u1,u2⟩:=List.pairwise_cons.mp up
  rcases List.mem_cons.mp hr with rfl|hr
  ·rw [List.filter_cons,List.filter_cons,if_pos (decide_eq_true (by (first|lia|omega))),if_neg (by simp;(first|lia|omega))]
   congr 1
   refine List.filter_congr fun s hs=> ?_
   have:=u1 s hs
   rw[decide_eq_true (show k<=hdI s by (first|lia|omega)),decide_eq_true (show k+1<=hdI s by (first|lia|omega))]
  ·have:=u1 r hr
   rw[List.filter_cons,List.filter_cons,if_neg (by simp;(first|lia|omega)),if_neg (by simp;(first|lia|omega))]
   exact ze2 u2 hr e
noncomputable def za4 (m:Nat)(j:Nat):List Int:=(List.range j).map fun i:Nat=>(m:Int)-1-(i:Int)
theorem zdO (m j:Nat):za4 m (j+1)=za4 m j++[(m:Int)-1-j]:=by
 unfold za4
 rw[List.range_succ,List.map_append]
 rfl
theorem ziW {m:Nat}{ns:List Int}{R:List (List Int)}(ho:Ord m ns)(h:WrR m ns R):∀j:Nat,j<=m->zaM ns (za4 m j)=(R.filter fun s=>decide ((m:Int)-j<=hdI s)).reverse
 | 0,_=>by
  show []=_
  rw[List.filter_eq_nil_iff.mpr fun r hr=> ?_]
  ·rfl
  ·have hx:=(h.rnd r hr).1.hd.2
   have:hdI r∈R.flatten:=List.mem_flatten.mpr ⟨r,hr,hx⟩
   have:=mem_num0.mp (h.all.mem_iff.mp this)
   simp
   (first|lia|omega)
 | j+1,hj=>by
  have ih:=ziW ho h j (by (first|lia|omega))
  rw[zdO,zdp,ih]
  unfold zbM
  have nd:R.flatten.Nodup:=h.all.nodup_iff.mpr (zaD m)
  obtain⟨r,hr,hy⟩:=zmQ h (y:=(m:Int)-1-j) (by (first|lia|omega)) (by (first|lia|omega))
  have hle:=(h.rnd r hr).2 _ hy
  have e:((m:Int)-1-j+1)=(m:Int)-j:=by (first|lia|omega)
  have e':((m:Int)-((j+1:Nat):Int))=(m:Int)-1-j:=by (first|lia|omega)
  rw[e']
  by_cases c:(m:Int)-j<=hdI r
  ·have hin:((m:Int)-1-j)∈((R.filter fun s=>decide ((m:Int)-j<=hdI s)).reverse).flatten:=
    List.mem_flatten.mpr ⟨r,List.mem_reverse.mpr (List.mem_filter.mpr ⟨hr,decide_eq_true c⟩),hy⟩
   rw[if_pos hin]
   congr 1
   refine List.filter_congr fun s hs=> ?_
   by_cases c2:(m:Int)-j<=hdI s
   ·rw[decide_eq_true c2,decide_eq_true (by (first|lia|omega))]
   ·rw [decide_eq_false c2,decide_eq_false fun c3=> ?_]
    have es:hdI s=(m:Int)-1-j:=by (first|lia|omega)
    have:=(h.rnd s hs).1.hd.2
    rw[es] at this
    rw[zeg nd hr hs hy this] at c
    exact c2 c
  ·have er:hdI r=(m:Int)-1-j:=by (first|lia|omega)
   have hnin:((m:Int)-1-j)∉((R.filter fun s=>decide ((m:Int)-j<=hdI s)).reverse).flatten:=fun z=>by
    obtain⟨s,hs,hys⟩:=List.mem_flatten.mp z
    obtain⟨hs1,hs2⟩:=List.mem_filter.mp (List.mem_reverse.mp hs)
    rw[zeg nd hr hs1 hy hys] at c
    exact c (of_decide_eq_true hs2)
   rw[if_neg hnin,ze2 h.up hr er,e,List.reverse_cons]
   have hx:=(h.rnd r hr).1
   rw[er] at hx
   rw[zkI ho ⟨by (first|lia|omega),by (first|lia|omega)⟩ hx]
theorem zmR {m:Nat}{ns:List Int}{R:List (List Int)}(ho:Ord m ns)(h:WrR m ns R):zaM ns (za4 m m)=R.reverse:=by
 rw[ziW ho h m (Nat.le_refl _),List.filter_eq_self.mpr fun r hr=> ?_]
 have hx:=(h.rnd r hr).1.hd.2
 have:hdI r∈R.flatten:=List.mem_flatten.mpr ⟨r,hr,hx⟩
 have:=mem_num0.mp (h.all.mem_iff.mp this)
 exact decide_eq_true (by (first|lia|omega))
noncomputable def wroR (m:Nat)(ns:List Int):List (List Int):=(zaM ns (za4 m m)).reverse
theorem zcC {m j:Nat}(hj:j<=m):∀f∈za4 m j,0<=f/\f<m:=fun f hf=>by
 obtain⟨i,hi,rfl⟩:=List.mem_map.mp hf
 have:=List.mem_range.mp hi
 (first|lia|omega)
theorem ze3 {m:Nat}{ns:List Int}(ho:Ord m ns):∀j:Nat,j<=m->(∀r∈zaM ns (za4 m j),IsRound ns (hdI r) r/\(∀y∈r,y<=hdI r)/\(m:Int)-j<=hdI r)/\(zaM ns (za4 m j)).Pairwise fun r s=>hdI s<hdI r
 |0,_=>⟨(fun r h=>by cases h),.nil⟩
 | j +1,hj=>by
  obtain⟨h1,h2⟩:=ze3 ho j (by (first|lia|omega))
  have M:=zby ho (za4 m j) (zcC (by (first|lia|omega))) (zcb (ns:=ns) (m:=m))
  have M:MetO ns m (zaM ns (za4 m j)):=M
  have hf:0<=(m:Int)-1-j/\(m:Int)-1-j<m:=by (first|lia|omega)
  rw[zdO,zdp]
  unfold zbM
  split
  ·exact⟨fun r hr=>⟨(h1 r hr).1,(h1 r hr).2.1,by have:=(h1 r hr).2.2;(first|lia|omega)⟩,h2⟩
  ·rename_i hn
   have hr0:=zcx ho hf
   have hh:=hr0.hd.1
   refine⟨fun r hr=> ?_, ?_⟩
   ·rcases List.mem_append.mp hr with hr|hr
    ·exact⟨(h1 r hr).1,(h1 r hr).2.1,by have:=(h1 r hr).2.2;(first|lia|omega)⟩
    ·rw [List.mem_singleton.mp hr,hh]
     refine⟨hr0,fun y hy=> ?_,by (first|lia|omega)⟩
     refine Int.not_lt.mp fun c=>hn ?_
     have hyr:=zfH ho hf y hy
     have hin:y∈(zaM ns (za4 m j)).flatten:=by
      refine zc3 ho (za4 m j) (zcC (by (first|lia|omega))) [] y (.inr ?_)
      refine List.mem_map.mpr ⟨(m-1-y.toNat),List.mem_range.mpr (by (first|lia|omega)),by (first|lia|omega)⟩
     obtain⟨⟨k,e,hk⟩,_⟩:=hr0
     rw[e] at hy
     obtain⟨i,hi,rfl⟩:=mem_orb.mp hy
     have:=M.it hin (k+1-i)
     rw[<-zdL,show i+(k+1-i)=k+1 by (first|lia|omega),hk] at this
     exact this
   ·refine List.pairwise_append.mpr ⟨h2,List.pairwise_singleton _ _,fun r hr s hs=> ?_⟩
    rw[List.mem_singleton.mp hs,hh]
    have:=(h1 r hr).2.2
    (first|lia|omega)
theorem ze4 {m:Nat}{ns:List Int}(ho:Ord m ns):WrR m ns (wroR m ns):=by
 obtain⟨h1,h2⟩:=ze3 ho m (Nat.le_refl _)
 have M:MetO ns m (zaM ns (za4 m m)):=zby ho (za4 m m) (zcC (Nat.le_refl _)) zcb
 unfold wroR
 refine⟨?_,fun r hr=>⟨(h1 r (List.mem_reverse.mp hr)).1,(h1 r (List.mem_reverse.mp hr)).2.1⟩,List.pairwise_reverse.mpr h2⟩
 refine (zb1 ?_ (zaD m) fun y=>⟨fun hy=> ?_,fun hy=> ?_⟩)
 ·exact ((List.reverse_perm (zaM ns (za4 m m))).flatten).nodup_iff.mpr M.nd
 ·exact mem_num0.mpr (M.rng y (((List.reverse_perm (zaM ns (za4 m m))).flatten).mem_iff.mp hy))
 ·refine ((List.reverse_perm (zaM ns (za4 m m))).flatten).mem_iff.mpr (zc3 ho (za4 m m) (zcC (Nat.le_refl _)) [] y (.inr ?_))
  have:=mem_num0.mp hy
  exact List.mem_map.mpr ⟨(m-1-y.toNat),List.mem_range.mpr (by (first|lia|omega)),by (first|lia|omega)⟩
theorem zkR {m:Nat}{ns:List Int}{R:List (List Int)}(ho:Ord m ns)(h:WrR m ns R):R=wroR m ns:=by
 unfold wroR
 rw[zmR ho h,List.reverse_reverse]
structure CutR (R:List (List Int)):Prop where
 row:∀r∈R,∃h t,r=h::t/\∀y∈t,y<h
 up:R.Pairwise fun r s=>hdI r<hdI s
noncomputable def zbN (rows:List (List Int))(x:Int):List (List Int):=
 match rows.getLast? with
 |none=>[[x]]
 |some r=>if hdI r<x then rows++[[x]] else rows.dropLast++[r++[x]]
noncomputable def cutH (ns:List Int):List (List Int):=ns.foldl zbN []
theorem zbg (rows:List (List Int))(r:List Int)(x:Int):zbN (rows++[r]) x=if hdI r<x then rows++[r]++[[x]] else rows++[r++[x]]:=by
 unfold zbN
 rw[List.getLast?_concat]
 simp only[List.dropLast_concat]
theorem ze5:∀(t:List Int) (rows:List (List Int)) (r:List Int),r≠[]->(∀y∈t,y<=hdI r)->t.foldl zbN (rows++[r])=rows++[r++t]
 |[],_,_,_,_=>by simp
 | x::t,rows,r,hr,h=>by
  rw[List.foldl_cons,zbg,if_neg (by have:=h x List.mem_cons_self;(first|lia|omega))]
  have e:hdI (r++[x])=hdI r:=by
   cases r with
   |nil=>exact absurd rfl hr
   |cons _ _=>rfl
  rw[ze5 t rows (r++[x]) (by simp) (fun y hy=>by rw[e];exact h y (List.mem_cons_of_mem _ hy))]
  simp
theorem zlJ {h:Int}{t:List Int}{rows:List (List Int)}(ht:∀y∈t,y<h)(hup:∀r∈rows,hdI r<h):(h::t).foldl zbN rows=rows++[h::t]:=by
 have e:zbN rows h=rows++[[h]]:=by
  rcases List.eq_nil_or_concat rows with rfl|⟨l,r,rfl⟩
  ·rfl
  ·rw[List.concat_eq_append,zbg,if_pos (hup r (by simp))]
 rw[List.foldl_cons,e,ze5 t rows [h] (by simp) fun y hy=>by have:=ht y hy;show y<=h;(first|lia|omega)]
 rfl
theorem ziX:∀(R acc:List (List Int)),(∀r∈R,∃h t,r=h::t/\∀y∈t,y<h)->(acc++R).Pairwise (fun r s=>hdI r<hdI s)->R.flatten.foldl zbN acc=acc++R
 |[],acc,_,_=>by simp
 |r::R,acc,hr,up=>by
  obtain⟨h,t,rfl,ht⟩:=hr r List.mem_cons_self
  have hup:∀r∈acc,hdI r<h:=fun r hr'=>(List.pairwise_append.mp up).2.2 r hr' (h::t) List.mem_cons_self
  rw[List.flatten_cons,List.foldl_append,zlJ ht hup,ziX R (acc++[h::t]) (fun r hr'=>hr r (List.mem_cons_of_mem _ hr')) (by simpa using up)]
  simp
theorem ziY {R:List (List Int)}(h:CutR R):cutH R.flatten=R:=by
 have:=ziX R [] h.row (by simpa using h.up)
 unfold cutH
 simpa using this
theorem ze6 (ns:List Int)(x:Int):cutH (ns++[x])=zbN (cutH ns) x:=by
 unfold cutH
 rw[List.foldl_append]
 rfl
theorem zeh:∀(n:Nat) (ns:List Int),ns.length=n->ns.Nodup->CutR (cutH ns)/\(cutH ns).flatten=ns
 |0,ns,hl,_=>by
  have:ns=[]:=List.eq_nil_of_length_eq_zero hl
  subst this
  exact⟨⟨(fun _ h=>by cases h),.nil⟩,rfl⟩
 | n + 1,ns,hl,nd=>by
  rcases List.eq_nil_or_concat ns with rfl|⟨l,x,rfl⟩
  ·cases hl
  ·rw [List.concat_eq_append] at hl nd ⊢
   rw[List.length_append] at hl
   have nd':=List.nodup_append.mp nd
   obtain⟨⟨c1,c2⟩,c3⟩:=zeh n l (by simpa using hl) nd'.1
   rw[ze6]
   rcases List.eq_nil_or_concat (cutH l) with e|⟨rows,r,e⟩
   ·rw [e] at c3 ⊢
    rw[<-c3]
    refine⟨⟨fun r hr=> ?_,List.pairwise_singleton _ _⟩,rfl⟩
    exact⟨x,[],List.mem_singleton.mp hr,fun _ h=>by cases h⟩
   ·rw [List.concat_eq_append] at e
    rw[e] at c1 c2 c3 ⊢
    rw[zbg]
    obtain⟨h,t,er,ht⟩:=c1 r (by simp)
    have hh:hdI r=h:=by rw[er];rfl
    obtain⟨p1,_,p3⟩:=List.pairwise_append.mp c2
    split
    ·rename_i hlt
     refine⟨⟨fun s hs=> ?_,List.pairwise_append.mpr ⟨c2,List.pairwise_singleton _ _,fun s hs s' hs'=> ?_⟩⟩,by rw[List.flatten_append,c3];rfl⟩
     ·rcases List.mem_append.mp hs with hs|hs
      ·exact c1 s hs
      ·exact⟨x,[],List.mem_singleton.mp hs,fun _ h=>by cases h⟩
     ·rw [List.mem_singleton.mp hs']
      show hdI s<x
      rcases List.mem_append.mp hs with hs|hs
      ·have:=p3 s hs r (by simp)
       (first|lia|omega)
      ·rw [List.mem_singleton.mp hs]
       exact hlt
    ·rename_i hlt
     have hx:x≠h:=fun ex=>by
      have:h∈l:=by
       rw[<-c3]
       exact List.mem_flatten.mpr ⟨r,by simp,by rw[er];exact List.mem_cons_self⟩
      exact nd'.2.2 h this x (by simp) ex.symm
     have e2:hdI (r++[x])=hdI r:=by rw[er];rfl
     refine⟨⟨fun s hs=> ?_,List.pairwise_append.mpr ⟨p1,List.pairwise_singleton _ _,fun s hs s' hs'=> ?_⟩⟩, ?_⟩
     ·rcases List.mem_append.mp hs with hs|hs
      ·exact c1 s (List.mem_append_left _ hs)
      ·refine ⟨h,t++[x],by rw[List.mem_singleton.mp hs,er];rfl,fun y hy=> ?_⟩
       rcases List.mem_append.mp hy with hy|hy
       ·exact ht y hy
       ·rw [List.mem_singleton.mp hy]
        (first|lia|omega)
     ·rw [List.mem_singleton.mp hs',e2]
      exact p3 s hs r (by simp)
     ·rw [<-c3]
      simp
noncomputable def setP (acc:List Int)(ps:List (Int×Int)):List Int:=ps.foldl (fun a p=>a.set p.1.toNat p.2) acc
theorem zc7:∀(ps:List (Int×Int)) (acc:List Int),(setP acc ps).length=acc.length
 |[],_=>rfl
 |p::ps,acc=>by
  show (setP (acc.set p.1.toNat p.2) ps).length=_
  rw[zc7 ps,List.length_set]
theorem ziZ:∀(ps:List (Int×Int)) (acc:List Int) {x:Int},0<=x->(∀p∈ps,0<=p.1)->x∉ps.map (·.1)->(setP acc ps)[x.toNat]? =acc[x.toNat]?
 |[],_,_,_,_,_=>rfl
 |p::ps,acc,x,h0,hp,hx=>by
  show (setP (acc.set p.1.toNat p.2) ps)[x.toNat]? =_
  rw[ziZ ps _ h0 (fun q hq=>hp q (List.mem_cons_of_mem _ hq)) (fun z=>hx (List.mem_cons_of_mem _ z)),List.getElem?_set_ne]
  intro e
  have:=hp p List.mem_cons_self
  have e2:x=p.1:=by (first|lia|omega)
  exact hx (List.mem_cons.mpr (.inl e2))
theorem zgW:∀(ps:List (Int×Int)) (acc:List Int),(ps.map (·.1)).Nodup->(∀p∈ps,0<=p.1/\p.1<acc.length)->∀p∈ps,(setP acc ps)[p.1.toNat]? =some p.2
 |[],_,_,_,_,h=>by cases h
 |q::ps,acc,nd,hr,p,hp=>by
  rw[List.map_cons,List.nodup_cons] at nd
  have hq:=hr q List.mem_cons_self
  show (setP (acc.set q.1.toNat q.2) ps)[p.1.toNat]? =_
  rcases List.mem_cons.mp hp with e|hp'
  ·rw[e,ziZ ps _ hq.1 (fun p hp=>(hr p (List.mem_cons_of_mem _ hp)).1) nd.1,List.getElem?_set_self (by (first|lia|omega))]
  ·exact zgW ps _ nd.2 (fun p hp=>by rw[List.length_set];exact hr p (List.mem_cons_of_mem _ hp)) p hp'
noncomputable def rotr (r:List Int):List Int:=r.getLast?.toList++r.dropLast
theorem zdw (r:List Int):(rotr r).Perm r:=by
 rcases List.eq_nil_or_concat r with rfl|⟨l,x,rfl⟩
 ·exact .refl _
 ·unfold rotr
  rw[List.concat_eq_append,List.getLast?_concat,List.dropLast_concat]
  exact (List.perm_append_comm (l₁:=[x]) (l₂:=l))
theorem zei (r:List Int):(rotr r).length=r.length:=(zdw r).length_eq
theorem zf0 {r:List Int}{i:Nat}(hi:i<r.length):(rotr r)[i]? =some (if i=0 then r.getD (r.length-1) 0 else r.getD (i-1) 0):=by
 rcases List.eq_nil_or_concat r with rfl|⟨l,x,rfl⟩
 ·cases hi
 ·unfold rotr
  rw[List.concat_eq_append] at hi ⊢
  rw[List.getLast?_concat,List.dropLast_concat]
  rw[List.length_append] at hi
  have hi:i<l.length+1:=hi
  cases i with
  |zero=>simp
  |succ i=>
   show l[i]? =_
   rw[if_neg (by (first|lia|omega)),Nat.add_sub_cancel,List.getD_eq_getElem?_getD,List.getElem?_append_left (by (first|lia|omega)),List.getElem?_eq_getElem (by (first|lia|omega))]
   rfl
noncomputable def jnP (R:List (List Int)):List (Int×Int):=(R.map fun r=>(rotr r).zip r).flatten
noncomputable def zbO (m:Nat)(R:List (List Int)):List Int:=setP (List.replicate m 0) (jnP R)
theorem zkS:∀R:List (List Int),(jnP R).map (·.2)=R.flatten
 |[]=>rfl
 |r::R=>by
  have:=zkS R
  unfold jnP at this ⊢
  rw[List.map_cons,List.flatten_cons,List.flatten_cons,List.map_append,this,List.map_snd_zip (by rw[zei];exact Nat.le_refl _)]
theorem zgX:∀R:List (List Int),((jnP R).map (·.1)).Perm R.flatten
 |[]=>.refl _
 |r::R=>by
  have:=zgX R
  unfold jnP at this ⊢
  rw[List.map_cons,List.flatten_cons,List.flatten_cons,List.map_append,List.map_fst_zip (by rw[zei];exact Nat.le_refl _)]
  exact (zdw r).append this
theorem zej {l:List Int}{x:Int}{y:Int}(h0:0<=x)(h:l[x.toNat]? =some y):atO l x=y:=by
 obtain⟨k,rfl⟩:∃k:Nat,x=(k:Int):=⟨x.toNat,by (first|lia|omega)⟩
 rw[Int.toNat_natCast] at h
 obtain⟨hl,e⟩:=List.getElem?_eq_some_iff.mp h
 rw[zbk hl,e]
theorem zek {m:Nat}{R:List (List Int)}(h:R.flatten.Perm (num0 m)):∀p∈jnP R,(0<=p.1/\p.1<m)/\(zbO m R)[p.1.toNat]? =some p.2:=fun p hp=>by
 have hf:=(zgX R).trans h
 have hr:∀p∈jnP R,0<=p.1/\p.1<m:=fun p hp=>mem_num0.mp (hf.mem_iff.mp (List.mem_map.mpr ⟨p,hp,rfl⟩))
 refine⟨hr p hp,zgW (jnP R) _ (hf.nodup_iff.mpr (zaD m)) (fun p hp=>by rw[List.length_replicate];exact hr p hp) p hp⟩
theorem zgY (m:Nat)(R:List (List Int)):(zbO m R).length=m:=by
 unfold zbO
 rw[zc7,List.length_replicate]
theorem zkd {m:Nat}{l:List Int}(hl:l.length=m):l=(num0 m).map (atO l):=by
 refine List.ext_getElem? fun i=> ?_
 unfold num0
 rw[List.map_map,List.getElem?_map]
 by_cases c:i<m
 ·rw [List.getElem?_range c,List.getElem?_eq_getElem (by (first|lia|omega))]
  show _=some (atO l (i:Int))
  rw[zbk (by (first|lia|omega))]
 ·rw [List.getElem?_eq_none (by (first|lia|omega)),List.getElem?_eq_none (by simp;(first|lia|omega))]
  rfl
theorem zke {m:Nat}{R:List (List Int)}(h:R.flatten.Perm (num0 m)):Ord m (zbO m R):=by
 have hs:(jnP R).map (·.2)=((jnP R).map (·.1)).map (atO (zbO m R)):=by
  rw[List.map_map]
  refine List.map_congr_left fun p hp=> ?_
  obtain⟨h1,h2⟩:=zek h p hp
  exact (zej h1.1 h2).symm
 show (zbO m R).Perm (num0 m)
 rw[zkd (zgY m R)]
 refine (((zgX R).trans h).symm.map (atO (zbO m R))).trans ?_
 rw[<-hs,zkS]
 exact h
theorem zi0 {R:List (List Int)}{r:List Int}(hr:r∈R){i:Nat}(hi:i<r.length):((if i=0 then r.getD (r.length-1) 0 else r.getD (i-1) 0),r.getD i 0)∈jnP R:=by
 refine List.mem_flatten.mpr ⟨(rotr r).zip r,List.mem_map.mpr ⟨r,hr,rfl⟩, ?_⟩
 refine List.mem_of_getElem? (i:=i) ?_
 rw[List.getElem?_zip_eq_some]
 refine⟨zf0 hi, ?_⟩
 show r[i]? =some (r.getD i 0)
 rw[List.getD_eq_getElem?_getD,List.getElem?_eq_getElem hi]
 rfl
theorem zlK {m:Nat}{R:List (List Int)}(h:R.flatten.Perm (num0 m))(hc:CutR R):WrR m (zbO m R) R:=by
 refine⟨h,fun r hr=> ?_,hc.up⟩
 obtain⟨x,t,e,ht⟩:=hc.row r hr
 have hx:hdI r=x:=by rw[e];rfl
 have hlen:0<r.length:=by rw[e];simp
 have nxt:∀i:Nat,i<r.length->atO (zbO m R) (r.getD i 0)=r.getD (if i+1=r.length then 0 else i+1) 0:=fun i hi=>by
  by_cases c:i+1=r.length
  ·rw [if_pos c]
   obtain⟨h1,h2⟩:=zek h _ (zi0 hr (i:=0) hlen)
   have:=zej h1.1 h2
   rw[if_pos rfl,show r.length-1=i by (first|lia|omega)] at this
   exact this
  ·rw [if_neg c]
   obtain⟨h1,h2⟩:=zek h _ (zi0 hr (i:=i+1) (by (first|lia|omega)))
   have:=zej h1.1 h2
   rw[if_neg (by (first|lia|omega)),Nat.add_sub_cancel] at this
   exact this
 have it:∀i:Nat,i<r.length->itO (zbO m R) x i=r.getD i 0:=fun i=>by
  induction i with
  |zero=>
   intro _
   rw[e]
   rfl
  |succ i ih=>
   intro hi
   show atO _ (itO _ x i)=_
   rw[ih (by (first|lia|omega)),nxt i (by (first|lia|omega)),if_neg (by (first|lia|omega))]
 refine⟨?_,fun y hy=> ?_⟩
 ·rw [hx]
  refine⟨⟨r.length-1, ?_, ?_⟩, ?_⟩
  ·rw [show r.length-1+1=r.length by (first|lia|omega)]
   refine List.ext_getElem? fun i=> ?_
   by_cases c:i<r.length
   ·rw [zbL c,it i c,List.getD_eq_getElem?_getD,List.getElem?_eq_getElem c]
    rfl
   ·rw[List.getElem?_eq_none (by (first|lia|omega)),List.getElem?_eq_none (by rw[zbx];(first|lia|omega))]
  ·show atO _ (itO _ x (r.length-1))=_
   rw[it _ (by (first|lia|omega)),nxt _ (by (first|lia|omega)),if_pos (by (first|lia|omega)),e]
   rfl
  ·exact (List.sublist_flatten_of_mem hr).nodup (h.nodup_iff.mpr (zaD m))
 ·rw [hx]
  rw[e] at hy
  rcases List.mem_cons.mp hy with rfl|hy
  ·exact Int.le_refl _
  ·exact Int.le_of_lt (ht y hy)
theorem zkT {m:Nat}{ns:List Int}{R:List (List Int)}(h:WrR m ns R):CutR R:=by
 refine⟨fun r hr=> ?_,h.up⟩
 obtain⟨h1,h2⟩:=h.rnd r hr
 cases e:r with
 |nil=>
  have:=h1.hd.2
  rw[e] at this
  cases this
 |cons x t=>
  refine⟨x,t,rfl,fun y hy=> ?_⟩
  have:=h2 y (by rw[e];exact List.mem_cons_of_mem _ hy)
  rw[e] at this
  have nd:=h1.nd
  rw[e,List.nodup_cons] at nd
  have:y≠x:=fun z=>nd.1 (z▸hy)
  have:y<=x:=by assumption
  (first|lia|omega)
theorem zkf {m:Nat}{ns:List Int}{R:List (List Int)}(ho:Ord m ns)(h:WrR m ns R):zbO m R=ns:=by
 have hp:∀p∈jnP R,p.2=atO ns p.1:=fun p hp=>by
  obtain⟨l,hl,hpl⟩:=List.mem_flatten.mp hp
  obtain⟨r,hr,rfl⟩:=List.mem_map.mp hl
  obtain⟨i,hi⟩:=List.getElem?_of_mem hpl
  rw[List.getElem?_zip_eq_some] at hi
  obtain⟨i1,i2⟩:=hi
  have hi':i<r.length:=(List.getElem?_eq_some_iff.mp i2).1
  rw[zf0 hi'] at i1
  obtain⟨⟨k,e,hk⟩,_⟩:=(h.rnd r hr).1
  have g:∀j,j<r.length->r.getD j 0=itO ns (hdI r) j:=fun j hj=>by
   have hj':j<k+1:=by rw[e,zbx] at hj;exact hj
   have e3:r.getD j 0=(orbO ns (hdI r) (k+1)).getD j 0:=congrArg (fun l:List Int=>l.getD j 0) e
   rw[e3,List.getD_eq_getElem?_getD,zbL hj']
   rfl
  have hl:r.length=k+1:=by
   have:=congrArg List.length e
   rwa [zbx] at this
  have e1:=Option.some.inj i1
  have e2:p.2=r.getD i 0:=by
   rw[List.getD_eq_getElem?_getD,i2]
   rfl
  rw[<-e1,e2,g i hi']
  cases i with
  |zero=>rw[if_pos rfl,g _ (by (first|lia|omega)),hl];exact hk.symm
  |succ i=>rw[if_neg (by (first|lia|omega)),Nat.add_sub_cancel,g _ (by (first|lia|omega))];rfl
 refine List.ext_getElem? fun i=> ?_
 by_cases c:i<m
 ·have:(i:Int)∈(jnP R).map (·.1):=((zgX R).trans h.all).mem_iff.mpr (mem_num0.mpr ⟨by (first|lia|omega),by (first|lia|omega)⟩)
  obtain⟨p,hpm,e⟩:=List.mem_map.mp this
  obtain⟨h1,h2⟩:=zek h.all p hpm
  rw[e,Int.toNat_natCast] at h2
  rw[h2,hp p hpm,e,List.getElem?_eq_getElem (by rw[ho.len];exact c),zbk (by rw[ho.len];exact c)]
 ·rw[List.getElem?_eq_none (by rw[zgY];(first|lia|omega)),List.getElem?_eq_none (by rw[ho.len];(first|lia|omega))]
theorem ze7 {ns r:List Int}{x:Int}{j:Nat}(h:IsRound ns x r)(hj:j<r.length):IsRound ns (itO ns x j) (r.drop j++r.take j)/\r[j]? =some (itO ns x j):=by
 obtain⟨⟨k,e,hk⟩,nd⟩:=h
 have hl:r.length=k+1:=by rw[e,zbx]
 have g:∀i,i<k+1->r[i]? =some (itO ns x i):=fun i hi=>by rw[e,zbL hi]
 have wrap:∀i,itO ns x (k+1+i)=itO ns x i:=fun i=>by rw[zdL,hk]
 refine⟨⟨⟨k, ?_, ?_⟩, ?_⟩,g j (by (first|lia|omega))⟩
 ·refine List.ext_getElem? fun i=> ?_
  by_cases c:i<k+1
  ·rw [zbL c,<-zdL]
   by_cases c2:i<k+1-j
   ·rw[List.getElem?_append_left (by rw[List.length_drop];(first|lia|omega)),List.getElem?_drop,g _ (by (first|lia|omega))]
   ·rw [List.getElem?_append_right (by rw[List.length_drop];(first|lia|omega)),List.length_drop,List.getElem?_take,if_pos (by (first|lia|omega)),g _ (by (first|lia|omega)),hl]
    rw[show j+i=k+1+(i-(k+1-j)) by (first|lia|omega),wrap]
  ·rw[List.getElem?_eq_none (by rw[List.length_append,List.length_drop,List.length_take];(first|lia|omega)),List.getElem?_eq_none (by rw[zbx];(first|lia|omega))]
 ·rw[<-zdL,show j+(k+1)=k+1+j by (first|lia|omega),wrap]
 ·have:(r.drop j++r.take j).Perm r:=by
   have:=(List.perm_append_comm (l₁:=r.drop j) (l₂:=r.take j))
   rwa [List.take_append_drop] at this
  exact this.nodup_iff.mpr nd
noncomputable def RotM (r s:List Int):Prop:=∃j,j<r.length/\s=r.drop j++r.take j/\∀y∈r,y<=r.getD j 0
theorem RotM.perm {r s:List Int}(h:RotM r s):s.Perm r:=by
 obtain⟨j,_,rfl,_⟩:=h
 have:=(List.perm_append_comm (l₁:=r.drop j) (l₂:=r.take j))
 rwa [List.take_append_drop] at this
theorem ze8:∀{A B:List (List Int)},Paired RotM A B->B.flatten.Perm A.flatten
 |_,_,.nil=>.refl _
 |_,_,.cons h t=>by
  rw[List.flatten_cons,List.flatten_cons]
  exact h.perm.append (ze8 t)
theorem zdP:∀{R:List (List Int)},R.flatten.Nodup->R.Pairwise fun r s=>∀y∈r,y∉s
 |[],_=>.nil
 |a::t,nd=>by
  rw[List.flatten_cons,List.nodup_append] at nd
  obtain⟨_,n2,n3⟩:=nd
  refine List.pairwise_cons.mpr ⟨fun s hs y hy hys=>n3 y hy y (List.mem_flatten.mpr ⟨s,hs,hys⟩) rfl,zdP n2⟩
theorem zmS {a b:List Int}(ha:a≠[])(hb:b≠[])(h:HT.lexLt b a=false):hdI a<=hdI b:=by
 match a,b,ha,hb with
 | x::a,y::b,_,_=>
  rw[HT.lexLt_cons] at h
  show x<=y
  by_cases c:y=x
  ·(first|lia|omega)
  ·rw [if_neg c] at h
   have:=of_decide_eq_false h
   (first|lia|omega)
theorem zi1 {m:Nat}{ns:List Int}{A B C:List (List Int)}(ho:Ord m ns)(hA:A=zay ns)(hB:Paired RotM A B)(hC:C.Perm B)(hs:C.Pairwise fun a b=>HT.lexLt b a=false):WrR m ns C:=by
 subst hA
 have hall:C.flatten.Perm (num0 m):=(hC.flatten.trans (ze8 hB)).trans (zfI ho)
 have M:MetO ns m (zay ns):=by
  unfold zay
  rw[ho.len]
  exact zby ho (num0 m) (fun f hf=>zaP hf) zcb
 have hrow:∀s∈C,IsRound ns (hdI s) s/\∀y∈s,y<=hdI s:=fun s hs=>by
  have hsB:=hC.mem_iff.mp hs
  obtain⟨i,hi⟩:=List.getElem?_of_mem hsB
  have hlen:=Paired.length hB
  have hiA:i<(zay ns).length:=by
   have:=(List.getElem?_eq_some_iff.mp hi).1
   (first|lia|omega)
  obtain⟨s',hs',j,hj,e,hmx⟩:=zaO hB (List.getElem?_eq_getElem hiA)
  rw[hi] at hs'
  cases hs'
  obtain⟨f,f0,f1,er⟩:=M.row _ (List.getElem_mem hiA)
  have hR:=zcx ho ⟨f0,f1⟩
  rw[<-er] at hR
  obtain⟨r1,r2⟩:=ze7 hR hj
  rw[<-e] at r1
  have hh:=r1.hd.1
  refine⟨by rw[hh];exact r1,fun y hy=> ?_⟩
  have hp:s.Perm (zay ns)[i]:=RotM.perm ⟨j,hj,e,hmx⟩
  have:=hmx y (hp.mem_iff.mp hy)
  rw[List.getD_eq_getElem?_getD,r2] at this
  rw[hh]
  exact this
 refine⟨hall,hrow, ?_⟩
 have ap:=zdP (hall.nodup_iff.mpr (zaD m))
 have ne:∀s∈C,s≠[]:=fun s hs z=>by
  have:=(hrow s hs).1.hd.2
  rw[z] at this
  cases this
 have both:C.Pairwise fun a b=>HT.lexLt b a=false/\∀y∈a,y∉b:=List.Pairwise.and hs ap
 refine both.imp_of_mem fun {a b} ha hb hab=> ?_
 have h1:=zmS (ne a ha) (ne b hb) hab.1
 have h2:hdI a≠hdI b:=fun z=>by
  have m1:=(hrow a ha).1.hd.2
  have m2:=(hrow b hb).1.hd.2
  rw[<-z] at m2
  exact hab.2 _ m1 m2
 (first|lia|omega)
noncomputable def hiP (ns:List Int)(k:Nat):Bool:=(ns.take (k+1)).all fun a=>decide (a<=atO ns k)
noncomputable def hiL (ns:List Int):List Int:=((List.range ns.length).filter (hiP ns)).map fun k:Nat=>atO ns k
theorem zkU {a b:List Int}{k:Nat}(h:k<a.length):hiP (a++b) k=hiP a k/\atO (a++b) k=atO a k:=by
 have e:atO (a++b) k=atO a k:=by
  rw[zbk (by rw[List.length_append];(first|lia|omega)),zbk h,List.getElem_append_left h]
 refine⟨?_,e⟩
 unfold hiP
 rw[e,List.take_append_of_le_length (by (first|lia|omega))]
theorem zmT {pre t:List Int}{h:Int}(hp:∀y∈pre,y<h)(ht:∀y∈t,y<h):((List.range (t.length+1)).filter fun j=>hiP (pre++h::t) (pre.length+j))=[0]:=by
 have hat:∀j,j<t.length+1->atO (pre++h::t) ((pre.length+j:Nat):Int)=(h::t).getD j 0:=fun j hj=>by
  rw[zbk (by rw[List.length_append,List.length_cons];(first|lia|omega)),List.getElem_append_right (by (first|lia|omega)),List.getD_eq_getElem?_getD,List.getElem?_eq_getElem (by rw[List.length_cons];(first|lia|omega))]
  simp
 rw[List.range_succ_eq_map,List.filter_cons]
 have h0:hiP (pre++h::t) (pre.length+0)=true:=by
  unfold hiP
  rw[hat 0 (by (first|lia|omega)),List.all_eq_true]
  intro a ha
  show decide (a<=h)=true
  have ha':a∈pre++[h]:=by
   have e:pre++h::t=(pre++[h])++t:=by simp
   rw[e,List.take_append_of_le_length (by simp),List.take_of_length_le (by simp)] at ha
   exact ha
  rcases List.mem_append.mp ha' with z|z
  ·exact decide_eq_true (Int.le_of_lt (hp a z))
  ·rw [List.mem_singleton.mp z]
   exact decide_eq_true (Int.le_refl _)
 rw[if_pos h0]
 congr 1
 rw[List.filter_eq_nil_iff]
 intro j hj
 obtain⟨i,hi,rfl⟩:=List.mem_map.mp hj
 have hi:=List.mem_range.mp hi
 intro z
 unfold hiP at z
 rw[hat (i+1) (by (first|lia|omega)),List.all_eq_true] at z
 have hm:h∈(pre++h::t).take (pre.length+(i+1)+1):=by
  refine List.mem_of_getElem? (i:=pre.length) ?_
  rw[List.getElem?_take,if_pos (by (first|lia|omega)),List.getElem?_append_right (Nat.le_refl _),Nat.sub_self]
  rfl
 have:=of_decide_eq_true (z h hm)
 have e:(h::t).getD (i+1) 0=t[i]'hi:=by
  rw[List.getD_eq_getElem?_getD]
  show (t[i]?).getD 0=_
  rw[List.getElem?_eq_getElem hi]
  rfl
 rw[e] at this
 have:=ht _ (List.getElem_mem hi)
 (first|lia|omega)
theorem zlL (a:List Int){h:Int}{t:List Int}(hp:∀y∈a,y<h)(ht:∀y∈t,y<h):hiL (a++h::t)=hiL a++[h]:=by
 unfold hiL
 rw[List.length_append,List.length_cons,List.range_add,List.filter_append,List.map_append]
 congr 1
 ·have e1:(List.range a.length).filter (hiP (a++h::t))=(List.range a.length).filter (hiP a):=List.filter_congr fun k hk=>(zkU (List.mem_range.mp hk)).1
  rw[e1]
  refine List.map_congr_left fun k hk=> ?_
  exact (zkU (List.mem_range.mp (List.mem_filter.mp hk).1)).2
 ·rw [List.filter_map]
  have:=zmT hp ht
  show List.map _ (List.map _ ((List.range (t.length+1)).filter (hiP (a++h::t)∘fun x=>a.length+x)))=_
  rw[show (hiP (a++h::t)∘fun x=>a.length+x)=(fun j=>hiP (a++h::t) (a.length+j)) from rfl,this]
  show [atO (a++h::t) ((a.length+0:Nat):Int)]=[h]
  rw[Nat.add_zero,zbk (by rw[List.length_append,List.length_cons];(first|lia|omega)),List.getElem_append_right (Nat.le_refl _)]
  simp
theorem zi2:∀(n:Nat) (R:List (List Int)),R.length=n->CutR R->hiL R.flatten=R.map hdI
 |0,R,hl,_=>by
  have:R=[]:=List.eq_nil_of_length_eq_zero hl
  subst this
  rfl
 | n +1,R,hl,hc=>by
  rcases List.eq_nil_or_concat R with rfl|⟨l,r,rfl⟩
  ·cases hl
  ·rw [List.concat_eq_append] at hl hc ⊢
   rw[List.length_append] at hl
   obtain⟨p1,_,p3⟩:=List.pairwise_append.mp hc.up
   have ih:=zi2 n l (by simpa using hl) ⟨fun s hs=>hc.row s (List.mem_append_left _ hs),p1⟩
   obtain⟨h,t,rfl,ht⟩:=hc.row r (by simp)
   rw[List.flatten_append,List.map_append,<-ih]
   show hiL (l.flatten++(h::t++[]))=_
   rw[List.append_nil,zlL l.flatten (fun y hy=> ?_) ht]
   ·rfl
   ·obtain ⟨s,hs,hys⟩:=List.mem_flatten.mp hy
    obtain⟨h',t',rfl,ht'⟩:=hc.row s (List.mem_append_left _ hs)
    have hlt:h'<h:=p3 _ hs (h::t) (by simp)
    rcases List.mem_cons.mp hys with rfl|hys
    ·exact hlt
    ·have:=ht' y hys
     (first|lia|omega)
theorem zi3 (ns:List Int):zbF ns=((hiL ns).length:Int):=by
 unfold zbF hiL
 rw[List.length_map]
 have key:∀n:Nat,(sumR n fun k=>if hiP ns k then 1 else 0)=(((List.range n).filter (hiP ns)).length:Int):=fun n=>by
  induction n with
  |zero=>rfl
  | succ n ih=>
   rw[List.range_succ,List.filter_append,List.length_append,zdr,ih]
   by_cases c:hiP ns n=true
   ·rw [if_pos c,List.filter_cons,if_pos c]
    simp
   ·rw [if_neg c,List.filter_cons,if_neg c]
    simp
 exact key ns.length
section
variable {prog:Program}{w:World}{A:Around}{R:Result->Shared->Prop}{I:Addr}{fp wr:List Addr}{n:Nat}{Pv:Nat->Value->Prop}{St:Nat->Heap->Prop}
end
section
variable {prog:Program}{w:World}{A:Around}{E:Value->Shared->Prop}{s:Shared}
end
section
variable {X:Cx}
end
end L2
namespace K88
open PySem PySem.Spec PyProof.Rows L2
noncomputable def top (i:Nat):Stmt:=PySem.Challenge.pw_shuffletold_k88_whole_rounds_and_highs_e.main.body.getD i (.Pass ⟨0,0,0,0⟩)
noncomputable abbrev zbC:Stmt:=top 34
noncomputable abbrev zch:Stmt:=top 35
noncomputable abbrev zci:Stmt:=top 36
noncomputable abbrev zcL:Stmt:=top 37
noncomputable abbrev zbh:Stmt:=top 38
section
variable {P:Program}{w:World}{K:PySem.W.Frag}{mg:Str->Option Value}{base:Heap}
theorem sc__law_hand:FnScope ["_law_script", "_law_seed", "_law_cell"] ["_law_script"] (zaf zbC):=⟨rfl,rfl,rfl,by decide+kernel,rfl,by decide+kernel,by decide+kernel⟩
theorem ze9 {f:Addr}{fd:FuncData}(F:Fun K "_law_hand" "_law_hand" zbC f fd):FnOk P w K mg base CX0 1 f fd ["_law_script"] (zgr K):=by
 refine F.ok sc__law_hand (fun vs H Q E h=> ?_) (fun cdv A outer s H vs Q E hr h=> ?_)
 ·obtain ⟨a,ns,rfl,_⟩:=h
  rfl
 ·obtain ⟨a,ns,rfl,hS,hl,k⟩:=h
  refine⟨_,(zae (zam (i:=1) sc__law_hand.nd rfl (Or.inl rfl) zaj)
   (zae (zaI PassesOwn.never rfl (za1 (zbX zfC (pv 0) zbJ (zb8 zaj))) (zal (i:=2) sc__law_hand.nd rfl (Or.inl rfl))
    (zag (zam (i:=1) sc__law_hand.nd rfl (Or.inl rfl) (zaw zcQ (zaw zbb (zaw zbb (zaw zdF (pv 1) zaj) (zaw zcQ (pv 2) zaj)) zaj) zaj))))
   (zag (zas (zaU (zaa (zb5 (N':=["_law_cell"]) (n:=1) (ix:=[]) rfl (CompScope.of (sc:=zaf zbC) (N:=["_law_script", "_law_seed", "_law_cell"]) (by decide+kernel) rfl rfl) (za1 (zbX zfC (pv 0) zbJ (zb8 zaj))) (fun _ _ _ _ _=>⟨(zal (i:=0) (show (["_law_cell"]:List Str).Nodup by decide+kernel) rfl (Or.inl rfl)),(zd1 (zax znh (pv 0) (zaw zkC zaj zaj) (zaB _))),(pv 0)⟩)) (zaa (pv 1) zad))))))), ?_⟩
  have hcut:∃ms:List Int,cutV (ns.map V.int) none (some 63)=ms.map V.int/\ms.length<=63:=by
   refine⟨(ns.drop (HT.sIx (ns.map V.int).length 0 none)).take (HT.sIx (ns.map V.int).length (ns.map V.int).length (some 63)-HT.sIx (ns.map V.int).length 0 none), ?_, ?_⟩
   ·unfold cutV
    rw[List.map_take,List.map_drop]
   ·rw[List.length_take,List.length_drop];(first|lia|omega)
  obtain⟨ms,ecut,hms⟩:=hcut
  refine⟨_,rfl,63,rfl,a,_,rfl,hS,fun p hp=>⟨p,rfl,⟨_,SqL.of zab⟩, ?_⟩⟩
  have sS:∀{H':Hp},Same H H'->SqL K H' a (ns.map V.int):=fun s'=>s'.seq hS
  refine zbW (K:=K) (a:=p) (xs:=ms.map V.int) (fun i σ H2=>∃(seed:Int) (c:Option V),σ=[some (.ref a),some (.int seed),c]/\H2=upd H p (.lst (ms.map V.int))) ⟨19,none,rfl,by rw[ecut]⟩ (fun i σ H2 _ h=>by obtain⟨_,_,_,rfl⟩:=h;exact SqL.of zab) ?_ ?_
  ·rintro i y σ H2 hi ⟨seed,c,rfl,rfl⟩
   obtain⟨z,_,rfl⟩:=List.mem_map.mp (List.mem_of_getElem? hi)
   refine⟨_,rfl,_,_,rfl,rfl,.inr ⟨by decide,by decide⟩,_,rfl,_,_,rfl,rfl,(by show (0:Int)<2305843009213693951;decide),_,_,rfl,rfl,_,_,rfl,rfl,_,_,rfl,rfl,(by show (0:Int)<2305843009213693951;decide), ?_⟩
   exact⟨_,_,rfl,rfl⟩
  ·rintro σ H2 ⟨seed,c,rfl,rfl⟩
   refine⟨_,rfl,63,rfl,a,_,rfl,sS (zac hp),fun p' hp'=>⟨p',rfl,⟨_,SqL.of zab⟩, ?_⟩⟩
   rw[ecut]
   refine zdk (zaY (xs:=ms.map V.int)) (zaR (by rw[zai];(first|lia|omega))) (fun v=>match v with| .int n=>decide (10^(18:Int).toNat<=n)|_=>false) id (fun H' s'=>SqL.of (s' _ _ zab)) (fun x hx H' s' Q' q=> ?_) (fun x hx _ H' s' Q' q=> ?_) fun acc hacc=> ?_
   ·obtain ⟨n,_,rfl⟩:=List.mem_map.mp hx
    exact⟨_,rfl,_,_,rfl,rfl,⟨by decide,by decide,by decide⟩,_,_,rfl,rfl,_,rfl,q⟩
   ·exact⟨_,rfl,q⟩
   ·refine ⟨_,rfl,(by show 2<=sizeLine;decide),fun r hr'=> ?_⟩
    have nacc:r≠acc:=fun z=>by rw[z,zab] at hr';cases hr'
    have hacc1:H acc=none:=by
     rw[zah (fun z=>by rw[z,zab] at hacc;cases hacc)] at hacc
     rw[zah (fun z=>by rw[z,zab] at hacc;cases hacc)] at hacc
     exact hacc
    have hr1:H r=none:=by
     rw[zah nacc] at hr'
     rw[zah (fun z=>by rw[z,zab] at hr';cases hr')] at hr'
     rw[zah (fun z=>by rw[z,zab] at hr';cases hr')] at hr'
     exact hr'
    refine k r acc _ ?_ ?_ hr1 hacc1
    ·exact (((zac hp).trans (zac hp')).trans (zac hacc)).trans (zac hr')
    ·refine ⟨(ms.filter fun n=>decide (10^(18:Int).toNat<=n)),seed,zab, ?_,fun n hn=> ?_, ?_⟩
     ·rw [zah (Ne.symm nacc),zab,List.map_id,List.filter_map]
      rfl
     ·have:=(List.mem_filter.mp hn).2
      have:=of_decide_eq_true this
      have e:(10:Int)^(18:Int).toNat=1000000000000000000:=by decide
      (first|lia|omega)
     ·exact Nat.le_trans (List.length_filter_le _ _) hms
theorem sc__law_pick:FnScope ["_law_hand_here", "_law_many", "_law_digit", "_law_mixed"] ["_law_hand_here", "_law_many"] (zaf zch):=⟨rfl,rfl,rfl,by decide+kernel,rfl,by decide+kernel,by decide+kernel⟩
theorem zi4 {n j:Nat}(h:j<n):ixN n (j:Int)=some j:=by
 unfold ixN
 rw[if_pos (by (first|lia|omega)),if_pos (by (first|lia|omega))]
 rfl
theorem zlM {H:Hp}{q e:Addr}{ns:List Int}{Q:VK}(hq:H q=some (.lst (ns.map V.int)))(he:H e=none)(h:Q (.bl (!ns.isEmpty)) (upd H e (.lst []))):rNeD (.ref q) (.ref e) (upd H e (.lst [])) Q:=by
 refine⟨_,_,.lst (by rw[zah (zak hq he)];exact hq) (IsAll.ints ns),.lst zab .nil,zbd ns,zbd [], ?_⟩
 have e1:PyData.eqv (.list (ns.map PyData.int)) (.list [])=ns.isEmpty:=by
  show PyData.eqvAll (ns.map PyData.int) []=_
  cases ns with
  |nil=>simp[PyData.eqvAll]
  |cons a r=>simp[PyData.eqvAll]
 rw[e1]
 exact h
theorem zfa {f:Addr}{fd:FuncData}(F:Fun K "_law_pick" "_law_pick" zch f fd):FnOk P w K mg base CX0 1 f fd ["_law_hand_here", "_law_many"] zdn:=by
 refine F.ok sc__law_pick (fun vs H Q E h=> ?_) (fun cdv A outer s H vs Q E hr h=> ?_)
 ·obtain ⟨p,q,m,rfl,_⟩:=h
  rfl
 ·obtain ⟨p,q,m,rfl,hm0,hm1,hh,k⟩:=h
  have hu:_:=hr.units
  refine⟨_,(zae (zgm PassesOwn.never (PW.pt (zmb (zax (zdJ hu) (zaX zaz (pv 0) zaj (fun _ _=>rfl)) (zaU zad) (zaB _)) (zk9 (zax zdX (zaX zaz (zaX zaz (pv 0) zaj (fun _ _=>rfl)) zaj (fun _ _=>rfl)) zaj (zaB _)))))
    (zag (za5 (zdh PySem.F.plainAttrs_list PySem.F.slot_list_pop PySem.F.type_list_pop zjM (zaX zaz (pv 0) zaj (fun _ _=>rfl)) (zaa zaj zad)))))
   (zae (zbp (zax (zdJ hu) (zaX zaz (pv 0) zaj (fun _ _=>rfl)) (zaU zad) (zaB _))
    (zae (zam (i:=2) sc__law_pick.nd rfl (Or.inl rfl) (zaw zcQ (zaX zaz (zaX zaz (pv 0) zaj (fun _ _=>rfl)) zaj (fun _ _=>rfl)) (pv 1)))
    (zae (zcr (zaw zfB (zaX zaz (zaX zaz (pv 0) zaj (fun _ _=>rfl)) zaj (fun _ _=>rfl)) (pv 1)) (zcq (zaX zaz (pv 0) zaj (fun _ _=>rfl)) zaj za3))
    (zag (zas (pv 2)))))
    zaH)
   (zae (zcr (zaw zcQ (zaw zbb (zaw zdF (zaX zaz (pv 0) zaj (fun _ _=>rfl)) zaj) zaj) zaj) (zcq (pv 0) zaj za3))
   (zae (zam (i:=3) sc__law_pick.nd rfl (Or.inl rfl) (zaw zfB (zaX zaz (pv 0) zaj (fun _ _=>rfl)) zaj))
   (zag (zas (zaw zcQ (zaw zfB (zaw zcQ (zaw zdF (pv 3) (zaw zbb (zaw zcQ (pv 3) zaj) zaj)) zaj) zaj) (pv 1)))))))), ?_⟩
  refine⟨fun n σ H1=>∃(ns:List Int) (seed:Int),n=ns.length/\σ=[some (.ref p),some (.int m),none,none]/\H1 p=some (.lst [.ref q,.int seed])/\H1 q=some (.lst (ns.map V.int))/\(∀n∈ns,0<=n)/\ns.length<=63/\Keep p q H H1, ?_, ?_⟩
  ·obtain ⟨ns,seed,h1,h2,h3,h4⟩:=hh
   exact⟨_,ns,seed,rfl,rfl,h1,h2,h3,h4,Keep.refl _ _ _⟩
  rintro n σ H1 ⟨ns,seed,rfl,rfl,hp,hq,hn,hlen,kp⟩
  refine⟨_,rfl,p,_,0,_,rfl,rfl,SqL.of hp,zaC (j:=0) rfl,Nat.zero_le _,fun e he=>zlM hq he ⟨_,rfl, ?_⟩⟩
  have hnpq:p≠q:=Hand.ne ⟨ns,seed,hp,hq,hn,hlen⟩
  have hp1:(upd H1 e (.lst [])) p=some (.lst [.ref q,.int seed]):=by rw[zah (zak hp he)];exact hp
  have hq1:(upd H1 e (.lst [])) q=some (.lst (ns.map V.int)):=by rw[zah (zak hq he)];exact hq
  have kp1:Keep p q H (upd H1 e (.lst [])):=kp.trans (zac he).keep
  cases ns with
  | nil=>
   refine iteF ?_
   refine iteF ?_
   refine⟨_,rfl,p,_,0,_,rfl,rfl,SqL.of hp1,zaC (j:=0) rfl,Nat.zero_le _,fun e' he'=>zlM hq1 he' ⟨_,rfl, ?_⟩⟩
   have hp3:(upd (upd H1 e (.lst [])) e' (.lst [])) p=some (.lst [.ref q,.int seed]):=by rw[zah (zak hp1 he')];exact hp1
   have hq3:(upd (upd H1 e (.lst [])) e' (.lst [])) q=some (.lst (([]:List Int).map V.int)):=by rw[zah (zak hq1 he')];exact hq1
   have kp3:Keep p q H (upd (upd H1 e (.lst [])) e' (.lst [])):=kp1.trans (zac he').keep
   refine iteF ?_
   refine⟨_,rfl,p,_,1,_,rfl,rfl,SqL.of hp3,zaC (j:=1) rfl,_,_,rfl,rfl,.inr ⟨by decide,by decide⟩,_,_,rfl,rfl,_,_,rfl,rfl,(by show (0:Int)<2305843009213693951;decide),_,rfl,p,_,1,1,rfl,rfl,hp3,rfl, ?_⟩
   refine⟨_,rfl,p,_,1,_,rfl,rfl,SqL.of zab,zaC (j:=1) rfl,_,_,rfl,rfl,⟨by decide,by decide⟩, ?_⟩
   refine⟨_,rfl,_,rfl,_,_,rfl,rfl,(by show (0:Int)<8191;decide),_,_,rfl,rfl,_,_,rfl,rfl,.inr ?_,_,_,rfl,rfl,(by show (0:Int)<2305843009213693921;decide),_,_,rfl,rfl,⟨by decide,by decide⟩,_,rfl,_,_,rfl,rfl,hm0, ?_⟩
   ·have h1:=Int.emod_nonneg ((seed*3935559000370003+2691343689449507)%2305843009213693951/65537) (by decide:(8191:Int)≠0)
    have h2:=Int.emod_lt_of_pos ((seed*3935559000370003+2691343689449507)%2305843009213693951/65537) (by decide:(0:Int)<8191)
    exact⟨by (first|lia|omega),by (first|lia|omega)⟩
   ·refine k _ _ (Int.emod_nonneg _ (by (first|lia|omega))) (Int.emod_lt_of_pos _ hm0) ⟨[],_,zab,by rw[zah (Ne.symm hnpq)];exact hq3,hn,by simp⟩ ?_
    exact kp3.trans fun b o hb h1 _=>by rw[zah h1];exact hb
  | cons x r=>
   refine iteT ?_
   refine⟨_,rfl,p,_,0,_,rfl,rfl,SqL.of hp1,zaC (j:=0) rfl,q,_,0,_,rfl,rfl,SqL.of hq1,zaC (j:=0) rfl,rfl,_,rfl, ?_⟩
   refine ite2 (fun hz=> ?_) (fun hz=> ?_)
   ·refine ⟨fun σ' H'=>∃(ns:List Int) (seed:Int),ns.length<(x::r).length/\σ'=[some (.ref p),some (.int m),none,none]/\H' p=some (.lst [.ref q,.int seed])/\H' q=some (.lst (ns.map V.int))/\(∀n∈ns,0<=n)/\ns.length<=63/\Keep p q H H', ?_, ?_⟩
    ·rintro σ' H' ⟨ns',seed',hlt,h1,h2,h3,h4,h5,h6⟩
     exact⟨_,hlt,ns',seed',rfl,h1,h2,h3,h4,h5,h6⟩
    ·refine ⟨_,rfl,p,_,0,_,rfl,rfl,SqL.of hp1,zaC (j:=0) rfl,.inl ⟨rfl,_,SqL.of hq1⟩,q,_,0,0,_,rfl,rfl,hq1,by decide,by decide,(by simp[seqIndex?]),rfl, ?_⟩
     refine⟨r,seed,by simp,rfl,by rw[zah hnpq];exact hp1,by rw[zab];rfl,fun y hy=>hn y (List.mem_cons_of_mem _ hy),by have:(x::r).length=r.length+1:=rfl;(first|lia|omega), ?_⟩
     exact kp1.trans fun b o hb _ h2=>by rw[zah h2];exact hb
   ·refine ⟨_,rfl,p,_,0,_,rfl,rfl,SqL.of hp1,zaC (j:=0) rfl,Nat.zero_le _,fun e' he'=>zlM hq1 he' ⟨_,rfl, ?_⟩⟩
    have hp3:(upd (upd H1 e (.lst [])) e' (.lst [])) p=some (.lst [.ref q,.int seed]):=by rw[zah (zak hp1 he')];exact hp1
    have hq3:(upd (upd H1 e (.lst [])) e' (.lst [])) q=some (.lst ((x::r).map V.int)):=by rw[zah (zak hq1 he')];exact hq1
    have kp3:Keep p q H (upd (upd H1 e (.lst [])) e' (.lst [])):=kp1.trans (zac he').keep
    refine iteT ?_
    have hx0:0<=x:=hn x List.mem_cons_self
    refine⟨_,rfl,p,_,0,_,rfl,rfl,SqL.of hp3,zaC (j:=0) rfl,q,_,0,_,rfl,rfl,SqL.of hq3,zaC (j:=0) rfl,_,rfl,_,_,rfl,rfl,hm0, ?_⟩
    refine⟨_,rfl,p,_,0,_,rfl,rfl,SqL.of hp3,zaC (j:=0) rfl,q,_,0,_,rfl,rfl,SqL.of hq3,zaC (j:=0) rfl,_,rfl,_,_,rfl,rfl,⟨hm0,hm1⟩,_,rfl,p,_,0,_,rfl,rfl,SqL.of hp3,zaC (j:=0) rfl,q,_,0,0,rfl,rfl,hq3,zi4 (j:=0) (by simp), ?_⟩
    refine⟨_,rfl, ?_⟩
    refine k _ _ (Int.emod_nonneg _ (by (first|lia|omega))) (Int.emod_lt_of_pos _ hm0) ⟨(x/m)::r,seed,by rw[zah hnpq];exact hp3,by rw[zab];rfl,fun y hy=> ?_,by simpa using hlen⟩ ?_
    ·rcases List.mem_cons.mp hy with rfl|hy
     ·exact Int.ediv_nonneg hx0 (by (first|lia|omega))
     ·exact hn y (List.mem_cons_of_mem _ hy)
    ·exact kp3.trans fun b o hb _ h2=>by rw[zah h2];exact hb
theorem zfb:FnScope ["_law_hand_here", "_law_most"] ["_law_hand_here", "_law_most"] (zaf zci):=⟨rfl,rfl,rfl,by decide+kernel,rfl,by decide+kernel,by decide+kernel⟩
theorem zfc {f:Addr}{fd:FuncData}(F:Fun K "_law_size" "_law_size" zci f fd)(C_law_pick:Cal P w K mg base 1 "_law_pick" ["_law_hand_here", "_law_many"] zdn):FnOk P w K mg base CX0 2 f fd ["_law_hand_here", "_law_most"] zgs:=by
 refine F.ok zfb (fun vs H Q E h=> ?_) (fun cdv A outer s H vs Q E hr h=> ?_)
 ·obtain ⟨p,q,m,rfl,_⟩:=h
  rfl
 ·obtain ⟨p,q,m,rfl,hm0,hm1,hh,k⟩:=h
  refine⟨_,(zae (zbp (zax zdX (zan C_law_pick (hr.mono (by decide)) rfl (zaa (pv 0) (zaa zaj zad))) zaj (zaB _))
    (zag (zas (zaw zcs (pv 1) (zan C_law_pick (hr.mono (by decide)) rfl (zaa (pv 0) (zaa zaj zad))))))
    zaH)
   (zag (zas (zan C_law_pick (hr.mono (by decide)) rfl (zaa (pv 0) (zaa zaj zad)))))), ?_⟩
  refine⟨_,rfl,p,q,8,rfl,by decide,by decide,hh,fun d H1 h0 h1 hh1 k1=>⟨rfl,_,rfl, ?_⟩⟩
  refine ite2 (fun _=> ?_) (fun _=> ?_)
  ·refine ⟨_,rfl,_,rfl,p,q,6,rfl,by decide,by decide,hh1,fun d' H2 h0' h1' hh2 k2=>⟨_,_,rfl,rfl, ?_⟩⟩
   exact k _ _ (by (first|lia|omega)) (by (first|lia|omega)) hh2 (k1.trans k2)
  ·refine ⟨_,rfl,p,q,10,rfl,by decide,by decide,hh1,fun d' H2 h0' h1' hh2 k2=> ?_⟩
   exact k _ _ h0' (by (first|lia|omega)) hh2 (k1.trans k2)
theorem zf1 {ys:List Int}{k:Nat}(h:ys.Perm (num0 k))(i:Nat):(ys.take i++(k:Int)::ys.drop i).Perm (num0 (k+1)):=by
 have e:num0 (k+1)=num0 k++[(k:Int)]:=by
  unfold num0
  rw[List.range_succ,List.map_append]
  rfl
 rw[e]
 refine List.perm_middle.trans ?_
 rw[List.take_append_drop]
 refine (List.Perm.cons _ h).trans ?_
 exact (List.perm_append_singleton _ _).symm
theorem zbD (n:Nat):(num0 n).length=n:=by simp[num0]
theorem sc__law_any:FnScope ["_law_hand_here", "_law_many", "_law_order_here", "_law_k"] ["_law_hand_here", "_law_many"] (zaf zcL):=⟨rfl,rfl,rfl,by decide+kernel,rfl,by decide+kernel,by decide+kernel⟩
theorem zf2 {f:Addr}{fd:FuncData}(F:Fun K "_law_any" "_law_any" zcL f fd)(T:Top mg)(C_law_pick:Cal P w K mg base 1 "_law_pick" ["_law_hand_here", "_law_many"] zdn):FnOk P w K mg base CX0 2 f fd ["_law_hand_here", "_law_many"] zll:=by
 refine F.ok sc__law_any (fun vs H Q E h=> ?_) (fun cdv A outer s H vs Q E hr h=> ?_)
 ·obtain ⟨p,q,m,rfl,_⟩:=h
  rfl
 ·obtain ⟨p,q,m,rfl,hm,hh,k⟩:=h
  refine⟨_,(zae (zam (i:=2) sc__law_any.nd rfl (Or.inl rfl) (zaU zad))
   (zae (zaI PassesOwn.never rfl (za6 rfl T.n_range (zaa (pv 1) zad)) (zal (i:=3) sc__law_any.nd rfl (Or.inl rfl))
    (zag (za5 (zdh PySem.F.plainAttrs_list PySem.F.slot_list_insert PySem.F.type_list_insert zis (pv 2) (zaa (zan C_law_pick (hr.mono (by decide)) rfl (zaa (pv 0) (zaa (zaw zbb (pv 3) zaj) zad))) (zaa (pv 3) zad))))))
   (zag (zas (pv 2))))), ?_⟩
  refine⟨Nat.zero_le _,fun l hl=> ?_⟩
  refine⟨_,rfl,(m:Int),rfl,by (first|lia|omega),by (first|lia|omega), ?_⟩
  have hlp:l≠p/\l≠q:=by
   obtain⟨_,_,h1,h2,_⟩:=hh
   exact⟨Ne.symm (zak h1 hl),Ne.symm (zak h2 hl)⟩
  refine za7 (n:=(m:Int).toNat) (fun i σ H2=>∃(ys:List Int) (c:Option V),σ=[some (.ref p),some (.int m),some (.ref l),c]/\ys.Perm (num0 i)/\H2 l=some (.lst (ys.map V.int))/\Hand H2 p q/\Keep p q H H2) ⟨[],none,rfl,List.Perm.refl _,zab,zbe hh hl,(zac hl).keep⟩ ?_ ?_
  ·rintro i σ H2 hi ⟨ys,c,rfl,hp,hl2,hh2,k2⟩
   have hi':i<m:=by (first|lia|omega)
   have hlen:ys.length=i:=by rw[hp.length_eq,zbD]
   refine⟨_,rfl,.inl ⟨rfl,_,SqL.of hl2⟩,_,rfl,_,rfl,_,_,rfl,rfl,p,q,_,rfl,by (first|lia|omega),by (first|lia|omega),hh2,fun d H3 h0 h1 hh3 k3=> ?_⟩
   have hl3:H3 l=some (.lst (ys.map V.int)):=k3 _ _ hl2 hlp.1 hlp.2
   refine⟨_,rfl,l,_,d,_,rfl,rfl,hl3,h0,by rw[zai];(first|lia|omega),zaR (by rw[zai];(first|lia|omega)), ?_⟩
   refine⟨ys.take d.toNat++(i:Int)::ys.drop d.toNat,_,rfl,zf1 hp _, ?_,zcv hh3 hl3 hlp.1 hlp.2,fun b o hb h1 h2=>by rw[zah (zak hb hl)];exact (k2.trans k3) b o hb h1 h2⟩
   rw[zab,List.map_append,List.map_cons,List.map_take,List.map_drop,Int.zero_add]
  ·rintro σ H2 ⟨ys,c,rfl,hp,hl2,hh2,k2⟩
   refine⟨_,rfl,k l ys H2 ?_ hl hl2 hh2 k2⟩
   simpa using hp
end
noncomputable def OrdM (H0:Hp)(p q:Addr)(m:Nat)(σ:L2.St)(H:Hp):Prop:=∃(way:Int) (l:Addr) (ys:List Int) (c4 c5 c6 c7 c8 c9 c10:Option V),σ=[some (.ref p),some (.int m),some (.int way),some (.ref l),c4,c5,c6,c7,c8,c9,c10]/\ys.Perm (num0 m)/\H l=some (.lst (ys.map V.int))/\H0 l=none/\Hand H p q/\Keep p q H0 H
noncomputable def tM (H0:Hp)(p q:Addr)(m:Nat):TS:=fun D σ H=>OrdM H0 p q m σ H/\∀σ' H',OrdM H0 p q m σ' H'->D.nx σ' H'
theorem zhP (n:Nat):(num0 n).Nodup:=by
 unfold num0
 refine List.Pairwise.map _ (fun a b (h:a≠b)=> ?_) (List.nodup_range (n:=n))
 show (a:Int)≠(b:Int)
 (first|lia|omega)
theorem getI {ys:List Int}{i:Int}{n:Nat}(hl:ys.length=n)(h0:0<=i)(h1:i<n):∃a,ys[i.toNat]? =some a/\atI (ys.map V.int) i=some (.int a)/\ixN (ys.map V.int).length i=some i.toNat:=by
 have hlt:i.toNat<ys.length:=by (first|lia|omega)
 refine⟨ys[i.toNat],List.getElem?_eq_getElem hlt, ?_, ?_⟩
 ·have e:((i.toNat:Nat):Int)=i:=by (first|lia|omega)
  have:=zaC (xs:=ys.map V.int) (j:=i.toNat) (v:=.int ys[i.toNat]) (by rw[List.getElem?_map,List.getElem?_eq_getElem hlt];rfl)
  rwa [e] at this
 ·unfold ixN
  rw[zai,if_pos h0,if_pos (by (first|lia|omega))]
section
variable {P:Program}{w:World}{K:PySem.W.Frag}{mg:Str->Option Value}{base:Heap}
theorem sc__law_order:FnScope ["_law_hand_here", "_law_many", "_law_way", "_law_order_here", "_law_turn", "_law_one", "_law_other", "_law_here", "_law_row", "_law_k", "_law_cut"] ["_law_hand_here", "_law_many"] (zaf zbh):=⟨rfl,rfl,rfl,by decide+kernel,rfl,by decide+kernel,by decide+kernel⟩
set_option maxHeartbeats 4000000 in
theorem zel {f:Addr}{fd:FuncData}(F:Fun K "_law_order" "_law_order" zbh f fd)(T:Top mg)(C_law_pick:Cal P w K mg base 1 "_law_pick" ["_law_hand_here", "_law_many"] zdn)(C_law_any:Cal P w K mg base 2 "_law_any" ["_law_hand_here", "_law_many"] zll):FnOk P w K mg base CX0 3 f fd ["_law_hand_here", "_law_many"] zd4:=by
  refine F.ok sc__law_order (fun vs H Q E h=> ?_) (fun cdv A outer s H vs Q E hr h=> ?_)
  · obtain⟨p,q,m,rfl,_⟩:=h
    rfl
  · obtain⟨p,q,m,rfl,hm,hh,k⟩:=h
    have lne:∀{l:Addr},H l=none->l≠p/\l≠q:=fun {l} hl=>by
      obtain⟨_,_,h1,h2,_⟩:=hh
      exact⟨Ne.symm (zak h1 hl),Ne.symm (zak h2 hl)⟩
    refine⟨_,(zae (zam (i:=2) sc__law_order.nd rfl (Or.inl rfl) (zan C_law_pick (hr.mono (by decide)) rfl (zaa (pv 0) (zaa zaj zad))))
      (zae (zam (i:=3) sc__law_order.nd rfl (Or.inl rfl) (zao (zct rfl) (by rfl) T.n_list boot_list (zaa (zao zdl (by rfl) T.n_range boot_range (zaa (pv 1) zad)) zad)))
      (zae (PS.mono (t':=tM H p q m) (zbp (zax zmj (pv 2) zaj (zaB _))
        (zag (zam (i:=3) sc__law_order.nd rfl (Or.inl rfl) (zan C_law_any (hr.mono (by decide)) rfl (zaa (pv 0) (zaa (pv 1) zad)))))
        zaH) ?w1)
      (zae (PS.mono (t':=tM H p q m) (zbp (zax zdX (pv 2) zaj (zaB _))
        (zag (zaI PassesOwn.never rfl (za6 rfl T.n_range (zaa (zaw zdF (zan C_law_pick (hr.mono (by decide)) rfl (zaa (pv 0) (zaa zaj zad))) (zao zib (by rfl) T.n_int boot_int (zaa (zde zia (pv 1) zaj (zaB _)) zad))) zad)) (zal (i:=4) sc__law_order.nd rfl (Or.inl rfl))
          (zae (zmf (i:=5) (j:=6) rfl sc__law_order.nd rfl rfl (by decide) rfl rfl (zaa (zan C_law_pick (hr.mono (by decide)) rfl (zaa (pv 0) (zaa (pv 1) zad))) (zaa (zan C_law_pick (hr.mono (by decide)) rfl (zaa (pv 0) (zaa (pv 1) zad))) zad)) rfl)
          (zae (zam (i:=7) sc__law_order.nd rfl (Or.inl rfl) (zaX zaz (pv 3) (pv 5) (fun _ _=>rfl)))
          (zae (zcr (zaX zaz (pv 3) (pv 6) (fun _ _=>rfl)) (zcq (pv 3) (pv 5) za3))
          (zag (zcr (pv 7) (zcq (pv 3) (pv 6) za3))))))))
        zaH) ?w2)
      (zae (PS.mono (t':=tM H p q m) (zbp (zax zdX (pv 2) zaj (zaB _))
        (zag (zam (i:=3) sc__law_order.nd rfl (Or.inl rfl) (ziq zir (pv 3))))
        zaH) ?w3)
      (zae (PS.mono (t':=tM H p q m) (zbp (zax zdX (pv 2) zaj (zaB _))
        (zae (zam (i:=8) sc__law_order.nd rfl (Or.inl rfl) (zan C_law_any (hr.mono (by decide)) rfl (zaa (pv 0) (zaa (pv 1) zad))))
        (zag (zaI PassesOwn.never rfl (za6 rfl T.n_range (zaa (pv 1) zad)) (zal (i:=9) sc__law_order.nd rfl (Or.inl rfl))
          (zag (zcr (zaX zaz (pv 8) (zaw zcQ (zaw zbb (pv 9) zaj) (pv 1)) (fun _ _=>rfl)) (zcq (pv 3) (zaX zaz (pv 8) (pv 9) (fun _ _=>rfl)) za3))))))
        zaH) ?w4)
      (zae (PS.mono (t':=tM H p q m) (zbp (zax zdX (pv 2) zaj (zaB _))
        (zae (zam (i:=10) sc__law_order.nd rfl (Or.inr rfl) (zan C_law_pick (hr.mono (by decide)) rfl (zaa (pv 0) (zaa (zaw zbb (pv 1) zaj) zad))))
        (zag (zam (i:=3) sc__law_order.nd rfl (Or.inl rfl) (zaw zmr (zan C_law_any (hr.mono (by decide)) rfl (zaa (pv 0) (zaa (pv 10) zad))) (zb5 (N':=["_law_number", "_law_cut"]) (n:=1) (ix:=[10]) rfl (CompScope.of (sc:=zaf zbh) (N:=["_law_hand_here", "_law_many", "_law_way", "_law_order_here", "_law_turn", "_law_one", "_law_other", "_law_here", "_law_row", "_law_k", "_law_cut"]) (by decide+kernel) rfl rfl) (za1 (zan C_law_any (hr.mono (by decide)) rfl (zaa (pv 0) (zaa (zaw zcs (pv 1) (pv 10)) zad)))) (fun _ _ _ _ _=>⟨(zal (i:=0) (show (["_law_number", "_law_cut"]:List Str).Nodup by decide+kernel) rfl (Or.inl rfl)),zaK,(zaw zbb (pv 1) (pv 0))⟩))))))
        zaH) ?w5)
      (zag (zas (zao zar (by rfl) T.n_tuple boot_tuple (zaa (pv 3) zad))))))))))), ?fin⟩
    case w1=>
      rintro D σ H1 ⟨⟨way,l,ys,c4,c5,c6,c7,c8,c9,c10,rfl,hp,hl,hl0,hh1,k1⟩,nx⟩
      refine⟨_,rfl,_,_,rfl,rfl,_,rfl,ite2 (fun _=> ?_) (fun _=>nx _ _ ⟨way,l,ys,c4,c5,c6,c7,c8,c9,c10,rfl,hp,hl,hl0,hh1,k1⟩)⟩
      refine⟨_,rfl,_,rfl,p,q,m,rfl,hm,hh1,fun l' ys' H2 hp' hn hl' hh2 k2=>nx _ _ ⟨way,l',ys',c4,c5,c6,c7,c8,c9,c10,rfl,hp',hl',k1.free hh hn hh1,hh2,k1.trans k2⟩⟩
    case w2=>
      rintro D σ H1 ⟨⟨way,l,ys,c4,c5,c6,c7,c8,c9,c10,rfl,hp,hl,hl0,hh1,k1⟩,nx⟩
      refine⟨_,rfl,rfl,_,rfl,ite2 (fun _=> ?_) (fun _=>nx _ _ ⟨way,l,ys,c4,c5,c6,c7,c8,c9,c10,rfl,hp,hl,hl0,hh1,k1⟩)⟩
      refine⟨_,rfl,p,q,4,rfl,by decide,by decide,hh1,fun d H2 h0 h1 hh2 k2=> ?_⟩
      refine⟨_,rfl,_,_,rfl,rfl,.inr ⟨_,rfl,_,_,rfl,rfl,.inl ⟨by (first|lia|omega),by (first|lia|omega)⟩, ?_⟩⟩
      have hj:∃n:Nat,d*(if decide ((1:Int)<m)=true then 1 else 0)=(n:Int)/\n<=4/\(n≠0->1<m):=by
        by_cases h:(1:Int)<m
        · rw[if_pos (by simpa using h)]
          exact⟨d.toNat,by (first|lia|omega),by (first|lia|omega),fun _=>by (first|lia|omega)⟩
        · rw[if_neg (by simpa using h)]
          exact⟨0,by (first|lia|omega),by (first|lia|omega),fun z=>absurd rfl z⟩
      obtain⟨n,en,hn4,hn0⟩:=hj
      refine⟨_,rfl,by rw[en];(first|lia|omega),by rw[en];(first|lia|omega), ?_⟩
      rw[en]
      have hlp:=lne hl0
      refine za7 (n:=(n:Int).toNat) (fun i σ H3=>OrdM H p q m σ H3) ⟨way,l,ys,c4,c5,c6,c7,c8,c9,c10,rfl,hp,k2 _ _ hl hlp.1 hlp.2,hl0,hh2,k1.trans k2⟩ ?_ (fun σ H3 h3=>nx _ _ h3)
      rintro i σ H3 hi ⟨way,l,ys,c4,c5,c6,c7,c8,c9,c10,rfl,hp,hl,hl0,hh3,k3⟩
      have hm1:1<m:=hn0 (by (first|lia|omega))
      have hlp:=lne hl0
      have hlen:ys.length=m:=by rw[hp.length_eq,zbD]
      refine⟨_,rfl,_,rfl,p,q,m,rfl,by (first|lia|omega),by (first|lia|omega),hh3,fun d1 H4 a0 a1 hh4 k4=>⟨_,rfl,_,rfl,p,q,m,rfl,by (first|lia|omega),by (first|lia|omega),hh4,fun d2 H5 b0 b1 hh5 k5=>⟨_,_,rfl, ?_⟩⟩⟩
      have hl5:H5 l=some (.lst (ys.map V.int)):=k5 _ _ (k4 _ _ hl hlp.1 hlp.2) hlp.1 hlp.2
      obtain⟨x1,g1,g2,g3⟩:=getI hlen a0 a1
      obtain⟨x2,f1,f2,f3⟩:=getI hlen b0 b1
      refine⟨_,rfl,_,rfl,l,_,_,_,rfl,rfl,SqL.of hl5,g2, ?_⟩
      refine⟨_,rfl,_,rfl,l,_,_,_,rfl,rfl,SqL.of hl5,f2,_,rfl,_,rfl,l,_,_,_,rfl,rfl,hl5,g3, ?_⟩
      refine⟨_,rfl,_,rfl,_,rfl,l,_,_,d2.toNat,rfl,rfl,zab, ?_, ?_⟩
      · rw[List.length_set];exact f3
      · refine⟨way,l,(ys.set d1.toNat x2).set d2.toNat x1,_,_,_,_,c8,c9,c10,rfl,(zd5 ys _ _ _ _ g1 f1).trans hp, ?_,hl0, ?_, ?_⟩
        · rw[zab,List.map_set,List.map_set]
        · exact zcv (zcv hh5 hl5 hlp.1 hlp.2) zab hlp.1 hlp.2
        · exact fun b o hb h1 h2=>by rw[zah (zak hb hl0),zah (zak hb hl0)];exact ((k3.trans k4).trans k5) b o hb h1 h2
    case w3=>
      rintro D σ H1 ⟨⟨way,l,ys,c4,c5,c6,c7,c8,c9,c10,rfl,hp,hl,hl0,hh1,k1⟩,nx⟩
      refine⟨_,rfl,rfl,_,rfl,ite2 (fun _=> ?_) (fun _=>nx _ _ ⟨way,l,ys,c4,c5,c6,c7,c8,c9,c10,rfl,hp,hl,hl0,hh1,k1⟩)⟩
      refine⟨_,rfl,l,_,rfl,SqL.of hl,fun l' hl'=>nx _ _ ⟨way,l',ys.reverse,c4,c5,c6,c7,c8,c9,c10,rfl,(List.reverse_perm ys).trans hp,by rw[zab,List.map_reverse],k1.free hh hl' hh1,zbe hh1 hl',k1.trans (zac hl').keep⟩⟩
    case w4 =>
      rintro D σ H1 ⟨⟨way,l,ys,c4,c5,c6,c7,c8,c9,c10,rfl,hp,hl,hl0,hh1,k1⟩,nx⟩
      refine⟨_,rfl,rfl,_,rfl,ite2 (fun _=> ?_) (fun _=>nx _ _ ⟨way,l,ys,c4,c5,c6,c7,c8,c9,c10,rfl,hp,hl,hl0,hh1,k1⟩)⟩
      refine⟨_,rfl,_,rfl,p,q,m,rfl,hm,hh1,fun lr row H2 hpr hnr hlr hh2 k2=> ?_⟩
      have hlp:=lne hl0
      have hlr0:H lr=none:=k1.free hh hnr hh1
      have hlrp:=lne hlr0
      have hne:l≠lr:=zak hl hnr
      have hrl:row.length=m:=by rw[hpr.length_eq,zbD]
      have hnd:row.Nodup:=hpr.nodup_iff.mpr (zhP m)
      refine⟨_,rfl,(m:Int),rfl,by (first|lia|omega),by (first|lia|omega), ?_⟩
      refine za7 (n:=(m:Int).toNat) (fun i σ H3=>∃(zs:List Int) (c9:Option V),σ=[some (.ref p),some (.int m),some (.int way),some (.ref l),c4,c5,c6,c7,some (.ref lr),c9,c10]/\zs.length=m/\(∀(k:Nat) (a:Int),k<i->row[k]? =some a->∀b,row[(k+1)%m]? =some b->zs[a.toNat]? =some b)/\H3 l=some (.lst (zs.map V.int))/\H3 lr=some (.lst (row.map V.int))/\Hand H3 p q/\Keep p q H H3)
        ⟨ys,c9,rfl,by rw[hp.length_eq,zbD],fun k a hk=>absurd hk (Nat.not_lt_zero _),k2 _ _ hl hlp.1 hlp.2,hlr,hh2,k1.trans k2⟩ ?_ ?_
      · rintro i σ H3 hi ⟨zs,c9,rfl,hzl,hz,hl3,hlr3,hh3,k3⟩
        have hi':i<m:=by (first|lia|omega)
        have hmod:((0:Int)+(i:Int)+1)%(m:Int)=(((i+1)%m:Nat):Int):=by
          rw[Int.zero_add];rfl
        obtain⟨a,ga,ga2,_⟩:=getI (i:=(0:Int)+(i:Int)) hrl (by (first|lia|omega)) (by (first|lia|omega))
        obtain⟨b,gb,gb2,_⟩:=getI (i:=((0:Int)+(i:Int)+1)%(m:Int)) hrl (Int.emod_nonneg _ (by (first|lia|omega))) (Int.emod_lt_of_pos _ (by (first|lia|omega)))
        have ga' : row[i]? = some a := by have e:((0:Int)+(i:Int)).toNat=i:=by (first|lia|omega)
                                          rw[e] at ga;exact ga
        have gb':row[(i+1)%m]? =some b:=by rw[hmod] at gb;exact gb
        have ham:=zaP (hpr.mem_iff.mp (List.mem_of_getElem? ga'))
        obtain⟨x,_,_,gx⟩:=getI (i:=a) hzl ham.1 ham.2
        refine⟨_,rfl,_,rfl,_,_,rfl,rfl,_,rfl,_,_,rfl,rfl,by (first|lia|omega),lr,_,_,_,rfl,rfl,SqL.of hlr3,gb2,_,rfl,_,rfl,_,rfl,lr,_,_,_,rfl,rfl,SqL.of hlr3,ga2,l,_,_,_,rfl,rfl,hl3,gx, ?_⟩
        refine⟨zs.set a.toNat b,_,rfl,by rw[List.length_set];exact hzl,fun k a' hk hka b' hb'=> ?_,by rw[zab,List.map_set],by rw[zah (Ne.symm hne)];exact hlr3,zcv hh3 hl3 hlp.1 hlp.2,fun c o hc h1 h2=>by rw[zah (zak hc hl0)];exact k3 c o hc h1 h2⟩
        by_cases hki:k=i
        · subst hki
          rw[ga'] at hka;cases hka
          rw[gb'] at hb';cases hb'
          rw[List.getElem?_set_self (by (first|lia|omega))]
        · have hna:a.toNat≠a'.toNat:=fun z=>by
            have ha':=zaP (hpr.mem_iff.mp (List.mem_of_getElem? hka))
            have:a=a':=by (first|lia|omega)
            subst this
            obtain⟨u1,u2⟩:=List.getElem?_eq_some_iff.mp ga'
            obtain⟨v1,v2⟩:=List.getElem?_eq_some_iff.mp hka
            exact hki ((List.getElem_inj hnd).mp (v2.trans u2.symm))
          rw[List.getElem?_set_ne hna]
          exact hz k a' (by (first|lia|omega)) hka b' hb'
      · rintro σ H3 ⟨zs,c9,rfl,hzl,hz,hl3,hlr3,hh3,k3⟩
        refine nx _ _ ⟨way,l,zs,c4,c5,c6,c7,_,c9,c10,rfl,zhF hpr hzl fun k a hka b hb=>hz k a ?_ hka b hb,hl3,hl0,hh3,k3⟩
        have:=(List.getElem?_eq_some_iff.mp hka).1
        (first|lia|omega)
    case w5 =>
      rintro D σ H1 ⟨⟨way,l,ys,c4,c5,c6,c7,c8,c9,c10,rfl,hp,hl,hl0,hh1,k1⟩,nx⟩
      refine⟨_,rfl,rfl,_,rfl,ite2 (fun _=> ?_) (fun _=>nx _ _ ⟨way,l,ys,c4,c5,c6,c7,c8,c9,c10,rfl,hp,hl,hl0,hh1,k1⟩)⟩
      refine⟨_,rfl,_,rfl,_,_,rfl,rfl,p,q,_,rfl,by (first|lia|omega),by (first|lia|omega),hh1,fun cut H2 h0 h1 hh2 k2=> ?_⟩
      obtain⟨c,rfl⟩:∃c:Nat,cut=(c:Int):=⟨cut.toNat,by (first|lia|omega)⟩
      have hc:c<=m:=by (first|lia|omega)
      refine⟨_,rfl,_,rfl,p,q,c,rfl,by (first|lia|omega),hh2,fun l1 ys1 H3 hp1 hn1 hl1 hh3 k3=> ?_⟩
      have hl10:H l1=none:=(k1.trans k2).free hh hn1 hh2
      have hl1p:=lne hl10
      refine⟨_,rfl,_,rfl,_,rfl,_,_,rfl,rfl,p,q,m-c,by rw[Int.ofNat_sub hc],by (first|lia|omega),hh3,fun l2 ys2 H4 hp2 hn2 hl2 hh4 k4=>⟨l2,rfl,⟨_,SqL.of hl2⟩, ?_⟩⟩
      have hl2len:ys2.length<=1000:=by rw[hp2.length_eq,zbD];(first|lia|omega)
      refine zdk (zaY (xs:=ys2.map V.int)) (zaR (by rw[zai];exact hl2len)) (fun _=>true) (fun v=>match v with| .int i=>.int ((c:Int)+i)|v=>v) (fun H' s'=>SqL.of (s' _ _ hl2)) (fun _ _ _ _ _ q=>q) (fun x hx _ H' s' Q' q=> ?_) fun acc hacc=> ?_
      · obtain⟨n,_,rfl⟩:=List.mem_map.mp hx
        exact⟨_,rfl,_,rfl,_,_,rfl,rfl,q⟩
      · have hl14:H4 l1=some (.lst (ys1.map V.int)):=k4 _ _ hl1 hl1p.1 hl1p.2
        have hk4:Keep p q H H4:=((k1.trans k2).trans k3).trans k4
        rw[zb9,zdm (g:=fun i=>(c:Int)+i) fun n=>rfl]
        refine⟨l1,acc,_,_,rfl,rfl,by rw[zah (zak hl14 hacc)];exact hl14,zab, ?_,fun l' hl'=> ?_⟩
        · simp only[List.length_map]
          rw[hp1.length_eq,hp2.length_eq,zbD,zbD]
          exact Nat.le_trans (by (first|lia|omega):c+(m-c)<=1000) (by decide)
        · refine nx _ _ ⟨way,l',ys1++ys2.map fun i=>(c:Int)+i,c4,c5,c6,c7,c8,c9,_,rfl, ?_,by rw[zab,List.map_append], ?_,zbe (zbe hh4 hacc) hl',(hk4.trans (zac hacc).keep).trans (zac hl').keep⟩
          · rw[zhE c m hc]
            exact hp1.append (hp2.map _)
          · exact (hk4.trans (zac hacc).keep).free hh hl' (zbe hh4 hacc)
    case fin=>
      refine⟨_,rfl,p,q,7,rfl,by decide,by decide,hh,fun way H1 h0 h1 hh1 k1=> ?_⟩
      refine⟨_,rfl,(m:Int),rfl,fun a ha=>⟨a,m,rfl,zab,by (first|lia|omega),by (first|lia|omega),fun l hl=> ?_⟩⟩
      have ha0:H a=none:=k1.free hh ha hh1
      have hl1:H1 l=none:=by
        rw[zah (fun z=>by rw[z,zab] at hl;cases hl)] at hl
        exact hl
      refine⟨⟨way,l,num0 m,none,none,none,none,none,none,none,rfl,List.Perm.refl _, ?_,k1.free hh hl1 hh1,zbe (zbe hh1 ha) hl,(k1.trans (zac ha).keep).trans (zac hl).keep⟩, ?_⟩
      · rw[zab,zbw];rfl
      intro σ1 G1 M1
      refine⟨M1,fun σ2 G2 M2=>⟨M2,fun σ3 G3 M3=>⟨M3,fun σ4 G4 M4=>⟨M4,fun σ5 G5 M5=> ?_⟩⟩⟩⟩
      obtain⟨way',l',ys',c4,c5,c6,c7,c8,c9,c10,rfl,hp,hl',hl0,hh5,k5⟩:=M5
      refine⟨_,rfl,l',_,rfl,.inl ⟨SqL.of hl',fun t ht=>k t ys' _ hp zab (zbe hh5 ht) (k5.trans (zac ht).keep)⟩⟩
end
end K88
namespace L2
open PySem PySem.Spec PyProof.Rows
end L2
namespace K88
open PySem PySem.Spec PyProof.Rows L2
section
variable {P:Program}{w:World}{K:PySem.W.Frag}{mg:Str->Option Value}{base:Heap}
end
noncomputable abbrev zb2:Stmt:=top 31
noncomputable abbrev zc8:Stmt:=top 32
section
variable {P:Program}{w:World}{K:PySem.W.Frag}{mg:Str->Option Value}{base:Heap}
theorem zf3:FnScope ["rows"] ["rows"] (zaf zb2):=⟨rfl,rfl,rfl,by decide+kernel,rfl,by decide+kernel,by decide+kernel⟩
theorem zf4 {f:Addr}{fd:FuncData}(F:Fun K "as_table" "as_table" zb2 f fd)(T:Top mg):FnOk P w K mg base CX0 1 f fd ["rows"] zlE:=by
 refine F.ok zf3 (fun vs H Q E h=> ?_) (fun cdv A outer s H vs Q E hr h=> ?_)
 ·obtain ⟨p,zs,R,rfl,_⟩:=h
  rfl
 ·obtain ⟨p,zs,R,rfl,hp,LA,hl,k⟩:=h
  have hzl:=Paired.length LA
  refine⟨_,(zag (zas (zao zar (by rfl) T.n_tuple boot_tuple (zaa (zb5 (N':=["row"]) (n:=1) (ix:=[]) rfl (CompScope.of (sc:=zaf zb2) (N:=["rows"]) (by decide+kernel) rfl rfl) (za1 (pv 0)) (fun _ _ _ _ _=>⟨(zal (i:=0) (show (["row"]:List Str).Nodup by decide+kernel) rfl (Or.inl rfl)),zaK,(zao (ziN K rfl) (by rfl) T.n_tuple boot_tuple (zaa (pv 0) zad))⟩)) zad)))), ?_⟩
  refine⟨_,rfl,p,rfl,⟨_,SqL.of hp⟩, ?_⟩
  refine zim (zaY (xs:=zs.map V.ref)) (zaR (by rw[List.length_map];(first|lia|omega))) (fun x v G=>RTup H x v G) (fun x v G G' st h=> ?_) (fun G s'=>SqL.of (s' _ _ hp)) (fun x hx G s' Q' q'=> ?_) fun acc vs G hacc sG hG PV=> ?_
  ·obtain ⟨z,t,f,e1,e2,e3,e4⟩:=h
   exact⟨z,t,f,e1,e2,e3,st _ _ e4⟩
  ·obtain ⟨z,hz,rfl⟩:=List.mem_map.mp hx
   obtain⟨j,hj⟩:=List.getElem?_of_mem hz
   obtain⟨r,hr1,hr2⟩:=zcg LA hj
   refine⟨_,rfl,z,_,rfl,.inl ⟨SqL.of (s' _ _ hr2),fun l hl'=> ?_⟩⟩
   exact q' _ _ (zac hl') ⟨z,l,r,rfl,rfl,hr2,zab⟩
  ·obtain ⟨ts,rfl,RT⟩:=ze0 LA PV
   refine⟨acc,_,rfl,.inl ⟨SqL.of hG,fun l hl'=> ?_⟩⟩
   exact k l ts _ (sG.trans (zac hl')) zab (RT.same (zac hl'))
theorem sc_put_in:FnScope ["rows", "number", "going", "at", "row", "column"] ["rows", "number"] (zaf zc8):=⟨rfl,rfl,rfl,by decide+kernel,rfl,by decide+kernel,by decide+kernel⟩
set_option maxHeartbeats 4000000 in
theorem zi5 {f:Addr}{fd:FuncData}(F:Fun K "put_in" "put_in" zc8 f fd)(T:Top mg):FnOk P w K mg base CX0 1 f fd ["rows", "number"] zfX:=by
 refine F.ok sc_put_in (fun vs H Q E h=> ?_) (fun cdv A outer s H vs Q E hr h=> ?_)
 ·obtain ⟨p,zs,R,x,rfl,_⟩:=h
  rfl
 ·obtain ⟨p,zs,R,x,rfl,hp,LA,nd,hpz,hl,hrl,k⟩:=h
  have hzl:=Paired.length LA
  refine⟨_,(zae (zam (i:=2) sc_put_in.nd rfl (Or.inr rfl) (pv 1))
   (zae (zaI PassesOwn.never rfl (zgE rfl T.n_enumerate (zaa (pv 0) zad)) (zca (i:=3) (j:=4) rfl sc_put_in.nd rfl rfl (Or.inl rfl) (Or.inl rfl) (Or.inl rfl) (Or.inl rfl))
    (zae (zam (i:=5) sc_put_in.nd rfl (Or.inl rfl) (zaq (zdq rfl) (by rfl) T.n_sum boot_sum (zaa (zb5 (N':=["standing", "going"]) (n:=1) (ix:=[2]) rfl (CompScope.of (sc:=zaf zc8) (N:=["rows", "number", "going", "at", "row", "column"]) (by decide+kernel) rfl rfl) (za1 (pv 4)) (fun _ _ _ _ _=>⟨(zal (i:=0) (show (["standing", "going"]:List Str).Nodup by decide+kernel) rfl (Or.inl rfl)),(zd1 (zax zmj (pv 0) (pv 1) (zaB _))),zaj⟩)) zad)))
    (zae (zbp (zax zdX (pv 5) (zaq zat (by rfl) T.n_len PySem.boot_len (zaa (pv 4) zad)) (zaB _))
     (zae (za5 (zdh PySem.F.plainAttrs_list PySem.F.slot_list_append PySem.F.type_list_append zaJ (pv 4) (zaa (pv 2) zad)))
     (zag (zas (pv 3))))
     zaH)
    (zag (zcr (zdf (zaa (pv 2) (zaa (zaX zaz (pv 4) (pv 5) (fun _ _=>rfl)) zad))) (zh4 rfl (zbV (zcq (pv 4) (pv 5) za3) (zbV (zal (i:=2) sc_put_in.nd rfl (Or.inr rfl) (Or.inl rfl)) zfz))))))))
   (zae (za5 (zdh PySem.F.plainAttrs_list PySem.F.slot_list_append PySem.F.type_list_append zaJ (pv 0) (zaa (zaU (zaa (pv 2) zad)) zad)))
   (zag (zas (zaw zcs (zaq zat (by rfl) T.n_len PySem.boot_len (zaa (pv 0) zad)) zaj)))))), ?_⟩
  refine⟨_,rfl,_,rfl,p,rfl,⟨_,SqL.of hp⟩, ?_⟩
  refine zeS (K:=K) (xs:=zs.map V.ref) (fun i σ G=>∃(R1:List (List Int)) (y:Int) (c3 c4 c5:Option V),σ=[some (.ref p),some (.int x),some (.int y),c3,c4,c5]/\Frm H G p zs/\G p=some (.lst (zs.map V.ref))/\LsAt G zs (R1++R.drop i)/\Bmp R x i R1 y) ⟨[],x,_,_,_,rfl,(fun b o e _ _=>e),hp,LA,znz R x⟩ ?_ ?_ ?_
  ·rintro i σ G _ ⟨R1,y,c3,c4,c5,rfl,_,hG,_⟩
   exact SqL.of hG
  ·rintro i v t σ G hi ⟨R1,y,c3,c4,c5,rfl,fr,hG,LG,bm⟩ ht
   obtain⟨z,hz,rfl⟩:∃z,zs[i]? =some z/\V.ref z=v:=by
    rw[List.getElem?_map] at hi
    cases e:zs[i]? with
    |none=>rw[e] at hi;cases hi
    |some z=>rw[e] at hi;exact⟨z,rfl,Option.some.inj hi⟩
   obtain⟨r,hr1,_⟩:=zcg LA hz
   have hrle:=hrl r (List.mem_of_getElem? hr1)
   have hb1:=bm.1
   have hRi:(R1++R.drop i)[i]? =some r:=by
    rw[List.getElem?_append_right (by (first|lia|omega)),hb1,Nat.sub_self,zdv hr1]
    rfl
   obtain⟨r',e1,hzG⟩:=zcg LG hz
   rw[hRi] at e1
   cases e1
   have st:=zac (o:=.tup [.int (i:Int),.ref z]) ht
   refine⟨t,_,rfl,SqT.of zab,rfl,_,_,rfl,_,_,rfl,rfl, ?_⟩
   have fr1:=fr.same st
   have hG1:=st _ _ hG
   have LG1:=LG.same st
   have hz1:=st _ _ hzG
   have ln1:∀b,upd G t (.tup [.int (i:Int),.ref z]) b=none->G b=none:=fun b hb=>st.free hb
   clear st
   generalize upd G t (.tup [.int (i:Int),.ref z])=G1 at fr1 hG1 LG1 hz1 ⊢
   refine⟨_,rfl,z,rfl,⟨_,SqL.of hz1⟩, ?_⟩
   refine zdk (zaY (xs:=r.map V.int)) (zaR (by rw[zai];(first|lia|omega))) (fun v=>match v with| .int b=>decide (b<y)|_=>false) (fun _=>.int 1) (fun H' s'=>SqL.of (s' _ _ hz1)) (fun x hx H' s' Q' q=> ?_) (fun x hx _ H' s' Q' q=>by exact q) fun acc hacc=> ?_
   ·obtain ⟨b,_,rfl⟩:=List.mem_map.mp hx
    exact⟨_,rfl,_,rfl,_,_,rfl,rfl,_,rfl,q⟩
   ·have e1:((r.map V.int).filter fun v=>match v with| .int b=>decide (b<y)|_=>false).map (fun _=>V.int 1)=(List.replicate (cntL r y) (1:Int)).map V.int:=by
     rw[List.map_replicate,List.eq_replicate_iff]
     refine⟨?_,fun b hb=>by obtain⟨c,_,rfl⟩:=List.mem_map.mp hb;rfl⟩
     unfold cntL
     rw[List.length_map,List.filter_map,List.length_map,List.countP_eq_length_filter]
     rfl
    refine⟨acc,_,rfl,by rw[zab,e1], ?_⟩
    rw[zjV]
    have s2:=zac (o:=.lst (((r.map V.int).filter fun v=>match v with| .int b=>decide (b<y)|_=>false).map fun _=>V.int 1)) hacc
    have fr2:=fr1.same s2
    have hG2:=s2 _ _ hG1
    have LG2:=LG1.same s2
    have hz2:=s2 _ _ hz1
    clear s2
    generalize upd G1 acc (.lst (((r.map V.int).filter fun v=>match v with| .int b=>decide (b<y)|_=>false).map fun _=>V.int 1))=G2 at fr2 hG2 LG2 hz2 ⊢
    refine⟨_,rfl,_,rfl,z,_,rfl,.inl (SqL.of hz2),rfl,_,rfl,ite2 (fun hc=> ?_) (fun hc=> ?_)⟩
    ·have hc':cntL r y=r.length:=by
      rw[zai,zcH] at hc
      have:=eq_of_beq hc
      (first|lia|omega)
     refine⟨_,rfl,.inl ⟨rfl,_,SqL.of hz2⟩,_,rfl,z,_,_,rfl,rfl,hz2,zaR (by rw[zai];(first|lia|omega)), ?_⟩
     have hf:=bm.fin hr1 hc'
     have hzm:z∈zs:=List.mem_of_getElem? hz
     have ez:r.map V.int++[V.int y]=(r++[y]).map V.int:=by rw[List.map_append];rfl
     rw[ez]
     refine⟨_,rfl, ?_⟩
     have hk:=k zs (upd G2 z (.lst ((r++[y]).map V.int))) (fr2.upd hzm) (by rw[zah (show p≠z from fun e=>hpz (by rw[e];exact hzm))];exact hG2) ?_ nd hpz (fun z hz=>.inl hz)
     ·rw [hf] at hk
      exact hk
     ·rw [hf]
      have:=LsAt.setAt (f:=r++[y]) LG2 nd hz
      rw[zdv hr1,ziO hb1] at this
      exact this
    ·have hc':¬cntL r y=r.length:=fun z=>hc (by rw[zai,zcH,z];simp)
     have hlt:cntL r y<r.length:=by
      have:=zfT r y
      (first|lia|omega)
     have hzm:z∈zs:=List.mem_of_getElem? hz
     have hat:atI (r.map V.int) ((cntL r y:Nat):Int)=some (.int (r.getD (cntL r y) 0)):=by
      refine zaC ?_
      rw[List.getElem?_map,List.getElem?_eq_getElem hlt,List.getD_eq_getElem?_getD,List.getElem?_eq_getElem hlt]
      rfl
     refine⟨_,rfl,_,rfl,_,rfl,z,_,_,_,rfl,rfl,SqL.of hz2,hat,by show 2<=sizeLine;decide,fun t2 ht2=> ?_⟩
     have s3:=zac (o:=.tup [.int y,.int (r.getD (cntL r y) 0)]) ht2
     have fr3:=fr2.same s3
     have hG3:=s3 _ _ hG2
     have LG3:=LG2.same s3
     have hz3:=s3 _ _ hz2
     refine⟨t2,_,rfl,SqT.of zab,rfl, ?_⟩
     clear s3
     generalize upd G2 t2 (.tup [.int y,.int (r.getD (cntL r y) 0)])=G3 at fr3 hG3 LG3 hz3 ⊢
     refine⟨_,_,rfl,_,rfl,_,rfl,z,_,_,_,rfl,rfl,hz3,zkH (by (first|lia|omega)) (by (first|lia|omega)),_,_,rfl,rfl, ?_⟩
     rw[Int.toNat_natCast,<-List.map_set]
     refine⟨R1++[r.set (cntL r y) y],r.getD (cntL r y) 0,_,_,_,rfl,fr3.upd hzm,by rw[zah (show p≠z from fun e=>hpz (by rw[e];exact hzm))];exact hG3, ?_,bm.step hr1 hc'⟩
     have:=LsAt.setAt (f:=r.set (cntL r y) y) LG3 nd hz
     rw[zdv hr1,ziO hb1] at this
     rw[List.append_assoc]
     exact this
  ·rintro σ G ⟨R1,y,c3,c4,c5,rfl,fr,hG,LG,bm⟩
   rw[List.length_map,hzl] at bm LG
   have hf:=bm.last
   rw[List.drop_length,List.append_nil] at LG
   refine⟨_,rfl,.inl ⟨rfl,_,SqL.of hG⟩,_,rfl,by show 1<=sizeLine;decide,fun l hl'=> ?_⟩
   have u1:=zac (o:=.lst [.int y]) hl'
   have pl:p≠l:=zak hG hl'
   have lz:l∉zs:=fun hm=>by
    obtain⟨j,hj⟩:=List.getElem?_of_mem hm
    obtain⟨r',_,e2⟩:=zcg LG hj
    rw[hl'] at e2
    cases e2
   have hl0:H l=none:=by
    cases e:H l with
    |none=>rfl
    |some o=>
     rw[fr l o e (Ne.symm pl) lz] at hl'
     cases hl'
   refine⟨p,_,_,rfl,rfl,u1 _ _ hG,zaR (by rw[List.length_map];(first|lia|omega)), ?_⟩
   have hG2:=@zab (upd G l (.lst [.int y])) p (.lst (zs.map V.ref++[.ref l]))
   have ez:zs.map V.ref++[V.ref l]=(zs++[l]).map V.ref:=by rw[List.map_append];rfl
   rw[ez] at hG2 ⊢
   refine⟨_,rfl,p,_,rfl,.inl (SqL.of hG2),_,_,rfl,rfl, ?_⟩
   have hk:=k (zs++[l]) (upd (upd G l (.lst [.int y])) p (.lst ((zs++[l]).map V.ref))) ((fr.same u1).updP) hG2 ?_ (List.nodup_append.mpr ⟨nd,by simp,fun a h1 b h2 e=>lz (by rw[<-List.mem_singleton.mp h2,<-e];exact h1)⟩) (fun h=> ?_) (fun z hz=> ?_)
   ·rw [hf] at hk
    have e2:((((zs++[l]).map V.ref).length:Int)-1)=((R.length:Nat):Int):=by
     rw[List.length_map,List.length_append,hzl]
     show ((R.length+1:Nat):Int)-1=_
     (first|lia|omega)
    show Q (V.int ((((zs++[l]).map V.ref).length:Int)-1)) _
    rw[e2]
    exact hk
   ·rw [hf]
    exact Paired.append (LsAt.off (LG.same u1) hpz) (.cons (by rw[zah (Ne.symm pl),zab];rfl) .nil)
   ·rcases List.mem_append.mp h with h|h
    ·exact hpz h
    ·exact pl (List.mem_singleton.mp h)
   ·rcases List.mem_append.mp hz with h|h
    ·exact .inl h
    ·rw [List.mem_singleton.mp h]
     exact .inr hl0
end
end K88
namespace L2
open PySem PySem.Spec PyProof.Rows
structure TwoT (H G:Hp) (p1 p2:Addr) (zs1 zs2:List Addr) (P Q:List (List Int)):Prop where
 sm:Same H G
 h1:G p1=some (.lst (zs1.map V.ref))
 h2:G p2=some (.lst (zs2.map V.ref))
 l1:LsAt G zs1 P
 l2:LsAt G zs2 Q
 n1:zs1.Nodup
 n2:zs2.Nodup
 d:∀z∈zs1,z∉zs2
 p11:p1∉zs1
 p12:p1∉zs2
 p21:p2∉zs1
 p22:p2∉zs2
 pp:p1≠p2
 q1:H p1=none
 q2:H p2=none
 z1:∀z∈zs1,H z=none
 z2:∀z∈zs2,H z=none
theorem TwoT.swap {H G:Hp}{p1 p2:Addr}{zs1 zs2:List Addr}{P Q:List (List Int)}(t:TwoT H G p1 p2 zs1 zs2 P Q):TwoT H G p2 p1 zs2 zs1 Q P:=
 ⟨t.sm,t.h2,t.h1,t.l2,t.l1,t.n2,t.n1,fun z h2 h1=>t.d z h1 h2,t.p22,t.p21,t.p12,t.p11,Ne.symm t.pp,t.q2,t.q1,t.z2,t.z1⟩
theorem TwoT.same {H G G':Hp}{p1 p2:Addr}{zs1 zs2:List Addr}{P Q:List (List Int)}(t:TwoT H G p1 p2 zs1 zs2 P Q)(s:Same G G'):TwoT H G' p1 p2 zs1 zs2 P Q:=
 ⟨t.sm.trans s,s _ _ t.h1,s _ _ t.h2,t.l1.same s,t.l2.same s,t.n1,t.n2,t.d,t.p11,t.p12,t.p21,t.p22,t.pp,t.q1,t.q2,t.z1,t.z2⟩
theorem LsAt.there {H:Hp}{zs:List Addr}{F:List (List Int)}(h:LsAt H zs F){z:Addr}(hz:z∈zs):∃f:List Int,H z=some (.lst (f.map V.int)):=by
 obtain⟨j,hj⟩:=List.getElem?_of_mem hz
 obtain⟨f,_,e⟩:=zcg h hj
 exact⟨f,e⟩
theorem LsAt.frm {H G:Hp}{zs:List Addr}{F:List (List Int)}(h:LsAt H zs F)(k:∀z∈zs,∀o,H z=some o->G z=some o):LsAt G zs F:=by
 induction h with
 |nil=>exact .nil
 |cons h1 h2 ih=>exact .cons (k _ List.mem_cons_self _ h1) (ih fun z hz=>k z (List.mem_cons_of_mem _ hz))
theorem TwoT.put {H G G':Hp}{p1 p2:Addr}{zs1 zs2 zs':List Addr}{P Q P':List (List Int)}(t:TwoT H G p1 p2 zs1 zs2 P Q)(fr:Frm G G' p1 zs1)(h1:G' p1=some (.lst (zs'.map V.ref)))(l1:LsAt G' zs' P')(nd:zs'.Nodup)(hp:p1∉zs')(hz:∀z∈zs',z∈zs1∨G z=none):TwoT H G' p1 p2 zs' zs2 P' Q:=by
 have sm:Same H G':=fun b o e=>fr b o (t.sm b o e) (fun z=>by rw[z,t.q1] at e;cases e) fun z=>by rw[t.z1 b z] at e;cases e
 refine⟨sm,h1,fr _ _ t.h2 (Ne.symm t.pp) t.p21,l1,t.l2.frm fun z hz2 o e=>fr z o e (fun e'=>t.p12 (e'▸hz2)) fun h=>t.d z h hz2,nd,t.n2,fun z hz1 hz2=> ?_,hp,t.p12,fun h=> ?_,t.p22,t.pp,t.q1,t.q2,fun z h=> ?_,t.z2⟩
 ·rcases hz z hz1 with h|h
  ·exact t.d z h hz2
  ·obtain ⟨f,e⟩:=t.l2.there hz2
   rw[h] at e
   cases e
 ·rcases hz p2 h with h|h
  ·exact t.p21 h
  ·rw [t.h2] at h
   cases h
 ·rcases hz z h with h|h
  ·exact t.z1 z h
  ·exact t.sm.free h
theorem TwoT.set1 {H G:Hp}{p1 p2:Addr}{zs1 zs2:List Addr}{P Q:List (List Int)}{i:Nat}{z:Addr}{f:List Int}(t:TwoT H G p1 p2 zs1 zs2 P Q)(hz:zs1[i]? =some z):TwoT H (upd G z (.lst (f.map V.int))) p1 p2 zs1 zs2 (P.set i f) Q:=by
 have hm:z∈zs1:=List.mem_of_getElem? hz
 have e1:p1≠z:=fun e=>t.p11 (by rw[e];exact hm)
 have e2:p2≠z:=fun e=>t.p21 (by rw[e];exact hm)
 exact⟨zau t.sm (t.z1 z hm),by rw[zah e1];exact t.h1,by rw[zah e2];exact t.h2,LsAt.setAt t.l1 t.n1 hz,LsAt.off t.l2 (t.d z hm),t.n1,t.n2,t.d,t.p11,t.p12,t.p21,t.p22,t.pp,t.q1,t.q2,t.z1,t.z2⟩
theorem TwoT.app1 {H G:Hp}{p1 p2:Addr}{zs1 zs2:List Addr}{P Q:List (List Int)}{l:Addr}{f:List Int}(t:TwoT H G p1 p2 zs1 zs2 P Q)(hl:G l=none):TwoT H (upd (upd G l (.lst (f.map V.int))) p1 (.lst ((zs1++[l]).map V.ref))) p1 p2 (zs1++[l]) zs2 (P++[f]) Q:=by
 have u:=zac (o:=.lst (f.map V.int)) hl
 have pl:p1≠l:=zak t.h1 hl
 have pl2:p2≠l:=zak t.h2 hl
 have lz1:l∉zs1:=fun h=>by
  obtain⟨f,e⟩:=t.l1.there h
  rw[hl] at e
  cases e
 have lz2:l∉zs2:=fun h=>by
  obtain⟨f,e⟩:=t.l2.there h
  rw[hl] at e
  cases e
 refine⟨zau (t.sm.trans u) t.q1,zab,by rw[zah (Ne.symm t.pp)];exact u _ _ t.h2,Paired.append (LsAt.off (t.l1.same u) t.p11) (.cons (by rw[zah (Ne.symm pl),zab]) .nil),LsAt.off (t.l2.same u) t.p12,List.nodup_append.mpr ⟨t.n1,by simp,fun a h1 b h2 e=>lz1 (by rw[<-List.mem_singleton.mp h2,<-e];exact h1)⟩,t.n2,fun z h=> ?_,fun h=> ?_,t.p12,fun h=> ?_,t.p22,t.pp,t.q1,t.q2,fun z h=> ?_,t.z2⟩
 ·rcases List.mem_append.mp h with h|h
  ·exact t.d z h
  ·rw [List.mem_singleton.mp h]
   exact lz2
 ·rcases List.mem_append.mp h with h|h
  ·exact t.p11 h
  ·exact pl (List.mem_singleton.mp h)
 ·rcases List.mem_append.mp h with h|h
  ·exact t.p21 h
  ·exact pl2 (List.mem_singleton.mp h)
 ·rcases List.mem_append.mp h with h|h
  ·exact t.z1 z h
  ·rw [List.mem_singleton.mp h]
   exact t.sm.free hl
theorem zgZ:∀(Q:List (List Int)) (p:Int),zaF Q Q.length p=Q++[[p]]
 |[],_=>rfl
 |s::Q,p=>by
  show s::zaF Q Q.length p=_
  rw[zgZ Q p]
  rfl
theorem zi6:∀(Q:List (List Int)) (k:Nat) (p:Int) {q:List Int},Q[k]? =some q->zaF Q k p=Q.set k (q++[p])
 |[],_,_,_,h=>by cases h
 |s::Q,0,p,q,h=>by cases h;rfl
 |s::Q,k+1,p,q,h=>by
  show s::zaF Q k p=s::Q.set k (q++[p])
  rw[zi6 Q k p h]
end L2
namespace K88
open PySem PySem.Spec PyProof.Rows L2
noncomputable abbrev zem:Stmt:=top 30
section
variable {P:Program}{w:World}{K:PySem.W.Frag}{mg:Str->Option Value}{base:Heap}
theorem sc_tables:FnScope ["order", "one", "other", "place", "number", "at"] ["order"] (zaf zem):=⟨rfl,rfl,rfl,by decide+kernel,rfl,by decide+kernel,by decide+kernel⟩
set_option maxHeartbeats 4000000 in
theorem zi7 {f:Addr}{fd:FuncData}(F:Fun K "tables" "tables" zem f fd)(T:Top mg)(Cput_in:Cal P w K mg base 1 "put_in" ["rows", "number"] zfX)(Cas_table:Cal P w K mg base 1 "as_table" ["rows"] zlE):FnOk P w K mg base CX0 2 f fd ["order"] zgT:=by
 refine F.ok sc_tables (fun vs H Q E h=> ?_) (fun cdv A outer s H vs Q E hr h=> ?_)
 ·obtain ⟨a,ns,m,rfl,_⟩:=h
  rfl
 ·obtain ⟨a,ns,m,rfl,ha,ho,hm,k⟩:=h
  have ln:=ho.len
  have bnd:∀i,i<=m->(tabI ns i).1.length<=60/\(tabI ns i).2.length<=60/\(∀r∈(tabI ns i).1,r.length<=60)/\(∀r∈(tabI ns i).2,r.length<=60):=fun i hi=>zj6 (zed ho i hi) (by (first|lia|omega))
  refine⟨_,(zae (zam (i:=1) sc_tables.nd rfl (Or.inl rfl) (zaU zad))
   (zae (zam (i:=2) sc_tables.nd rfl (Or.inl rfl) (zaU zad))
   (zae (zaI PassesOwn.never rfl (zcX rfl T.n_enumerate (zaa (pv 0) zad)) (zca (i:=3) (j:=4) rfl sc_tables.nd rfl rfl (Or.inl rfl) (Or.inl rfl) (Or.inl rfl) (Or.inl rfl))
    (zae (zam (i:=5) sc_tables.nd rfl (Or.inl rfl) (zan Cput_in (hr.mono (by decide)) rfl (zaa (pv 1) (zaa (pv 4) zad))))
    (zae (zbp (zax zdX (pv 5) (zaq zat (by rfl) T.n_len PySem.boot_len (zaa (pv 2) zad)) (zaB _))
     (zag (za5 (zdh PySem.F.plainAttrs_list PySem.F.slot_list_append PySem.F.type_list_append zaJ (pv 2) (zaa (zaU zad) zad))))
     zaH)
    (zag (za5 (zdh PySem.F.plainAttrs_list PySem.F.slot_list_append PySem.F.type_list_append zaJ (zaX zaz (pv 2) (pv 5) (fun _ _=>rfl)) (zaa (pv 3) zad)))))))
   (zag (zas (zdf (zaa (zan Cas_table (hr.mono (by decide)) rfl (zaa (pv 1) zad)) (zaa (zan Cas_table (hr.mono (by decide)) rfl (zaa (pv 2) zad)) zad)))))))), ?_⟩
  refine⟨Nat.zero_le _,fun p1 hp1=> ?_⟩
  have s1:=zac (o:=.lst []) hp1
  refine⟨Nat.zero_le _,fun p2 hp2=> ?_⟩
  have s2:=zac (o:=.lst []) hp2
  have S:=s1.trans s2
  have p12:p1≠p2:=fun e=>by
   rw[<-e,zab] at hp2
   cases hp2
  have T0:TwoT H (upd (upd H p1 (.lst [])) p2 (.lst [])) p1 p2 [] [] [] []:=
   ⟨S,by rw[zah p12,zab];rfl,by rw[zab];rfl,.nil,.nil,.nil,.nil,(fun _ h=>by cases h),(fun h=>by cases h),(fun h=>by cases h),(fun h=>by cases h),(fun h=>by cases h),p12,hp1,s1.free hp2,(fun _ h=>by cases h),(fun _ h=>by cases h)⟩
  refine⟨_,rfl,a,rfl,⟨_,SqT.of (S _ _ ha)⟩, ?_⟩
  refine zc1 (K:=K) (xs:=ns.map V.int) (fun i σ G=>∃(zs1 zs2:List Addr) (c3 c4 c5:Option V),σ=[some (.ref a),some (.ref p1),some (.ref p2),c3,c4,c5]/\TwoT H G p1 p2 zs1 zs2 (tabI ns i).1 (tabI ns i).2) ⟨[],[],_,_,_,rfl,T0⟩ ?_ ?_ ?_
  ·rintro i σ G _ ⟨zs1,zs2,c3,c4,c5,rfl,t⟩
   exact SqT.of (t.sm _ _ ha)
  ·rintro i x t0 σ G hi ⟨zs1,zs2,c3,c4,c5,rfl,t⟩ ht0
   obtain⟨n,hn,rfl⟩:∃n,ns[i]? =some n/\V.int n=x:=by
    rw[List.getElem?_map] at hi
    cases e:ns[i]? with
    |none=>rw[e] at hi;cases hi
    |some z=>rw[e] at hi;exact⟨z,rfl,Option.some.inj hi⟩
   have hil:i<ns.length:=(List.getElem?_eq_some_iff.mp hn).1
   have hat:atO ns i=n:=by
    rw[zbk hil]
    exact (List.getElem?_eq_some_iff.mp hn).2
   obtain⟨b1,b2,b3,b4⟩:=bnd i (by (first|lia|omega))
   have hk2:=(zfV (tabI ns i).1 n).2
   have hlen:(tabI ns i).2.length=(tabI ns i).1.length:=by
    have:=congrArg List.length (zed ho i (by (first|lia|omega))).ln
    simpa using this
   have t:=t.same (zac (o:=.tup [.int (i:Int),.int n]) ht0)
   refine⟨t0,_,rfl,SqT.of zab,rfl,_,_,rfl,_,_,rfl,rfl, ?_⟩
   generalize upd G t0 (.tup [.int (i:Int),.int n])=G1 at t ⊢
   refine⟨_,rfl,_,rfl,p1,zs1,(tabI ns i).1,n,rfl,t.h1,t.l1,t.n1,t.p11,by (first|lia|omega),fun r hr=>by have:=b3 r hr;(first|lia|omega),fun zs' G2 fr h1 l1 nd hp hz=> ?_⟩
   have t2:=t.put fr h1 l1 nd hp hz
   have hzl:=Paired.length t2.l2
   refine⟨_,rfl,_,rfl,p2,_,rfl,.inl (SqL.of t2.h2),rfl,_,rfl,ite2 (fun hc=> ?_) (fun hc=> ?_)⟩
   ·have hc':(putR (tabI ns i).1 n).2=(tabI ns i).2.length:=by
     rw[List.length_map,zcH] at hc
     have:=eq_of_beq hc
     (first|lia|omega)
    refine⟨_,rfl,.inl ⟨rfl,_,SqL.of t2.h2⟩,Nat.zero_le _,fun l hl=> ?_⟩
    refine⟨p2,_,_,rfl,rfl,zac hl _ _ t2.h2,zaR (by rw[List.length_map];(first|lia|omega)), ?_⟩
    have t3:=(t2.swap.app1 (f:=[]) hl).swap
    have ez:zs2.map V.ref++[V.ref l]=(zs2++[l]).map V.ref:=by rw[List.map_append];rfl
    rw[ez]
    have hzi:(zs2++[l])[(putR (tabI ns i).1 n).2]? =some l:=by rw[hc',<-hzl];simp
    have t3:TwoT H (upd (upd G2 l (.lst [])) p2 (.lst ((zs2++[l]).map V.ref))) p1 p2 zs' (zs2++[l]) (putR (tabI ns i).1 n).1 ((tabI ns i).2++[[]]):=t3
    have hlG:(upd (upd G2 l (.lst [])) p2 (.lst ((zs2++[l]).map V.ref))) l=some (.lst []):=by
     rw[zah (zak t2.h2 hl).symm,zab]
    generalize upd (upd G2 l (.lst [])) p2 (.lst ((zs2++[l]).map V.ref))=G3 at t3 hlG ⊢
    refine⟨_,rfl,_,rfl,p2,_,_,.ref l,rfl,rfl,SqL.of t3.h2,zaC (by rw[List.getElem?_map,hzi];rfl),.inl ⟨rfl,_,SqL.of hlG⟩,_,rfl,l,_,_,rfl,rfl,hlG,by show 0<sizeLine;decide, ?_⟩
    have t4:=(t3.swap.set1 (f:=[(i:Int)]) hzi).swap
    refine⟨zs',zs2++[l],_,_,_,rfl, ?_⟩
    have e2:((tabI ns i).2++[[]]).set (putR (tabI ns i).1 n).2 [(i:Int)]=zaF (tabI ns i).2 (putR (tabI ns i).1 n).2 i:=by
     rw[hc',zgZ]
     simp
    rw[e2] at t4
    show TwoT H _ p1 p2 zs' (zs2++[l]) (putR (tabI ns i).1 (atO ns i)).1 (zaF (tabI ns i).2 (putR (tabI ns i).1 (atO ns i)).2 i)
    rw[hat]
    exact t4
   ·have hc':¬(putR (tabI ns i).1 n).2=(tabI ns i).2.length:=fun z=>hc (by rw[List.length_map,hzl,zcH,z];simp)
    have hlt:(putR (tabI ns i).1 n).2<(tabI ns i).2.length:=by (first|lia|omega)
    obtain⟨q,hq⟩:∃q,(tabI ns i).2[(putR (tabI ns i).1 n).2]? =some q:=⟨_,List.getElem?_eq_getElem hlt⟩
    obtain⟨z,hz1,hz2⟩:=t2.l2.at hq
    have hql:=b4 q (List.mem_of_getElem? hq)
    refine⟨_,rfl,_,rfl,p2,_,_,.ref z,rfl,rfl,SqL.of t2.h2,zaC (by rw[List.getElem?_map,hz1];rfl),.inl ⟨rfl,_,SqL.of hz2⟩,_,rfl,z,_,_,rfl,rfl,hz2,zaR (by rw[zai];(first|lia|omega)), ?_⟩
    have ez:q.map V.int++[V.int (i:Int)]=(q++[(i:Int)]).map V.int:=by rw[List.map_append];rfl
    rw[ez]
    have t4:=(t2.swap.set1 (f:=q++[(i:Int)]) hz1).swap
    refine⟨zs',zs2,_,_,_,rfl, ?_⟩
    rw[<-zi6 _ _ _ hq] at t4
    show TwoT H _ p1 p2 zs' zs2 (putR (tabI ns i).1 (atO ns i)).1 (zaF (tabI ns i).2 (putR (tabI ns i).1 (atO ns i)).2 i)
    rw[hat]
    exact t4
  ·rintro σ G ⟨zs1,zs2,c3,c4,c5,rfl,t⟩
   rw[zai,ln] at t
   obtain⟨b1,b2,_⟩:=bnd m (Nat.le_refl _)
   refine⟨_,rfl,p1,zs1,_,rfl,t.h1,t.l1,by (first|lia|omega),fun q1 ys1 G1 u1 hq1 R1=> ?_⟩
   refine⟨_,rfl,p2,zs2,_,rfl,u1 _ _ t.h2,t.l2.same u1,by (first|lia|omega),fun q2 ys2 G2 u2 hq2 R2=> ?_⟩
   refine⟨by show 2<=sizeLine;decide,fun tt htt=> ?_⟩
   have u3:=zac (o:=.tup [.ref q1,.ref q2]) htt
   exact k tt q1 q2 ys1 ys2 _ (((t.sm.trans u1).trans u2).trans u3) zab (u3 _ _ (u2 _ _ hq1)) ((R1.same u2).same u3) (u3 _ _ hq2) (R2.same u3)
end
noncomputable abbrev zen:Stmt:=top 21
section
variable {P:Program}{w:World}{K:PySem.W.Frag}{mg:Str->Option Value}{base:Heap}
theorem sc_undone:FnScope ["order", "places", "place", "number"] ["order"] (zaf zen):=⟨rfl,rfl,rfl,by decide+kernel,rfl,by decide+kernel,by decide+kernel⟩
theorem zi8 {f:Addr}{fd:FuncData}(F:Fun K "undone" "undone" zen f fd)(T:Top mg):FnOk P w K mg base CX0 1 f fd ["order"] zc2:=by
 refine F.ok sc_undone (fun vs H Q E h=> ?_) (fun cdv A outer s H vs Q E hr h=> ?_)
 ·obtain ⟨a,ns,m,rfl,_⟩:=h
  rfl
 ·obtain ⟨a,ns,m,rfl,ha,ho,hm,k⟩:=h
  have hln:=ho.len
  refine⟨_,(zae (zam (i:=1) sc_undone.nd rfl (Or.inl rfl) (zaw zii (zaU (zaa zaj zad)) (zaq zat (by rfl) T.n_len PySem.boot_len (zaa (pv 0) zad))))
   (zae (zaI PassesOwn.never rfl (zcX rfl T.n_enumerate (zaa (pv 0) zad)) (zca (i:=2) (j:=3) rfl sc_undone.nd rfl rfl (Or.inl rfl) (Or.inl rfl) (Or.inl rfl) (Or.inl rfl))
    (zag (zcr (pv 2) (zcq (pv 1) (pv 3) za3))))
   (zag (zas (zao zar (by rfl) T.n_tuple boot_tuple (zaa (pv 1) zad)))))), ?_⟩
  refine⟨by show 1<=sizeLine;decide,fun l hl=> ?_⟩
  have s1:=zac (o:=.lst [.int 0]) hl
  refine⟨_,rfl,a,_,rfl,.inr (SqT.of (s1 _ _ ha)),l,_,_,rfl,rfl,zab,by (first|lia|omega),by rw[zai];(first|lia|omega), ?_,fun p hp=> ?_⟩
  ·simp only[zai,Int.toNat_natCast,List.length_cons,List.length_nil]
   exact Nat.le_trans (by (first|lia|omega):(0+1)*ns.length<=1000) (by decide)
  have s2:=zac (o:=.lst (List.replicate ((ns.map V.int).length:Int).toNat [V.int 0]).flatten) hp
  have hp0:H p=none:=s1.free hp
  have hrep:(List.replicate ((ns.map V.int).length:Int).toNat [V.int 0]).flatten=(List.replicate m (0:Int)).map V.int:=by
   rw[zai,Int.toNat_natCast,zfG,hln,List.map_replicate]
  refine⟨_,rfl,a,rfl,⟨_,SqT.of (s2 _ _ (s1 _ _ ha))⟩,zc1 (K:=K) (xs:=ns.map V.int) (fun i σ H2=>∃(ys:List Int) (c2 c3:Option V),σ=[some (.ref a),some (.ref p),c2,c3]/\Same H H2/\H2 p=some (.lst (ys.map V.int))/\ys.length=m/\
   ∀(j:Nat) x,j<i->ns[j]? =some x->ys[x.toNat]? =some (j:Int)) ?_ ?_ ?_ ?_⟩
  ·exact⟨List.replicate m 0,none,none,rfl,s1.trans s2,by rw[zab,hrep],by simp,fun j x hj=>absurd hj (Nat.not_lt_zero _)⟩
  ·rintro i σ H2 _ ⟨ys,c2,c3,rfl,sm,_⟩
   exact SqT.of (sm _ _ ha)
  ·rintro i x t σ H2 hx ⟨ys,c2,c3,rfl,sm,hy,hyl,hj⟩ ht
   rw[List.getElem?_map] at hx
   obtain⟨n,hn,rfl⟩:∃n,ns[i]? =some n/\V.int n=x:=by
    cases e:ns[i]? with
    |none=>rw[e] at hx;cases hx
    |some n=>rw[e] at hx;exact⟨n,rfl,Option.some.inj hx⟩
   have hr:=ho.rng n (List.mem_of_getElem? hn)
   have hy':(upd H2 t (.tup [.int (i:Int),.int n])) p=some (.lst (ys.map V.int)):=(zac ht) _ _ hy
   refine⟨t,_,rfl,SqT.of zab,rfl,_,_,rfl,_,_,rfl,rfl, ?_⟩
   refine⟨_,rfl,_,rfl,_,rfl,p,_,n,_,rfl,rfl,hy',zkH hr.1 (by rw[hyl];exact hr.2), ?_⟩
   refine⟨ys.set n.toNat (i:Int),_,_,rfl,zau (sm.trans (zac ht)) hp0, ?_,by rw[List.length_set];exact hyl,fun j x hji hjx=> ?_⟩
   ·rw[zab,List.map_set]
   ·by_cases e:j=i
    ·subst e
     rw[hn] at hjx
     cases hjx
     rw[List.getElem?_set_self (by (first|lia|omega))]
    ·have hne:x.toNat≠n.toNat:=fun z=>by
      have hrx:=ho.rng x (List.mem_of_getElem? hjx)
      have:x=n:=by (first|lia|omega)
      subst this
      have h1:i<ns.length:=(List.getElem?_eq_some_iff.mp hn).1
      have h2:j<ns.length:=(List.getElem?_eq_some_iff.mp hjx).1
      have e1:ns[i]=x:=(List.getElem?_eq_some_iff.mp hn).2
      have e2:ns[j]=x:=(List.getElem?_eq_some_iff.mp hjx).2
      have q1:=List.Nodup.idxOf_getElem ho.nodup i h1
      have q2:=List.Nodup.idxOf_getElem ho.nodup j h2
      rw[e1] at q1
      rw[e2] at q2
      exact e (q2.symm.trans q1)
     rw[List.getElem?_set_ne (Ne.symm hne)]
     exact hj j x (by (first|lia|omega)) hjx
  ·rintro σ H2 ⟨ys,c2,c3,rfl,sm,hy,hyl,hj⟩
   refine⟨_,rfl,p,_,rfl,.inl ⟨SqL.of hy,fun l hl=> ?_⟩⟩
   have e:ys=invO ns:=zd6 ho hyl fun j x hjx=>hj j x (by rw[zai];exact (List.getElem?_eq_some_iff.mp hjx).1) hjx
   subst e
   exact k l _ (sm.trans (zac hl)) zab
end
noncomputable abbrev zcM:Stmt:=top 22
section
variable {P:Program}{w:World}{K:PySem.W.Frag}{mg:Str->Option Value}{base:Heap}
theorem zf5:FnScope ["order"] ["order"] (zaf zcM):=⟨rfl,rfl,rfl,by decide+kernel,rfl,by decide+kernel,by decide+kernel⟩
theorem zf6 {f:Addr}{fd:FuncData}(F:Fun K "mirrored" "mirrored" zcM f fd)(T:Top mg):FnOk P w K mg base CX0 1 f fd ["order"] (spU fun ns=>ns.reverse):=by
 refine F.ok zf5 (fun vs H Q E h=> ?_) (fun cdv A outer s H vs Q E hr h=> ?_)
 ·obtain ⟨a,ns,rfl,_⟩:=h
  rfl
 ·obtain ⟨a,ns,rfl,ha,hl,k⟩:=h
  refine⟨_,(zag (zas (ziq zmu (pv 0)))), ?_⟩
  refine⟨_,rfl,a,_,rfl,SqT.of ha,fun p hp=>k p _ (zac hp) ?_⟩
  rw[zab,List.map_reverse]
end
noncomputable abbrev zcj:Stmt:=top 1
noncomputable abbrev zbP:Stmt:=top 5
noncomputable abbrev zbQ:Stmt:=top 6
section
variable {P:Program}{w:World}{K:PySem.W.Frag}{mg:Str->Option Value}{base:Heap}
theorem sc_round_from:FnScope ["order", "first", "numbers", "number"] ["order", "first"] (zaf zbQ):=⟨rfl,rfl,rfl,by decide+kernel,rfl,by decide+kernel,by decide+kernel⟩
theorem zeo {f:Addr}{fd:FuncData}(F:Fun K "round_from" "round_from" zbQ f fd)(T:Top mg):FnOk P w K mg base CX0 1 f fd ["order", "first"] zcd:=by
 refine F.ok sc_round_from (fun vs H Q E h=> ?_) (fun cdv A outer s H vs Q E hr h=> ?_)
 ·obtain ⟨a,ns,m,x,rfl,_⟩:=h
  rfl
 ·obtain ⟨a,ns,m,x,rfl,ha,ho,hm,h0,h1,k⟩:=h
  have ln:=ho.len
  refine⟨_,(zae (zam (i:=2) sc_round_from.nd rfl (Or.inl rfl) (zaU (zaa (pv 1) zad)))
   (zae (zam (i:=3) sc_round_from.nd rfl (Or.inl rfl) (zaX zih (pv 0) (pv 1) (fun _ _=>rfl)))
   (zae (zgm PassesOwn.never (zax zlb (pv 3) (pv 1) (zaB _))
    (zae (za5 (zdh PySem.F.plainAttrs_list PySem.F.slot_list_append PySem.F.type_list_append zaJ (pv 2) (zaa (pv 3) zad)))
    (zag (zam (i:=3) sc_round_from.nd rfl (Or.inl rfl) (zaX zih (pv 0) (pv 3) (fun _ _=>rfl))))))
   (zag (zas (zao zar (by rfl) T.n_tuple boot_tuple (zaa (pv 2) zad))))))), ?_⟩
  refine⟨_,rfl,by show 1<=sizeLine;decide,fun p hp=> ?_⟩
  have s1:=zac (o:=.lst [.int x]) hp
  refine⟨_,rfl,_,rfl,a,_,x,_,rfl,rfl,SqT.of (s1 _ _ ha),zfF h0 (by (first|lia|omega)), ?_⟩
  refine⟨fun n σ H1=>∃j,n=m-j/\σ=[some (.ref a),some (.int x),some (.ref p),some (.int (itO ns x (j+1)))]/\Same H H1/\H1 p=some (.lst ((orbO ns x (j+1)).map V.int))/\(orbO ns x (j+1)).Nodup,⟨m,0,rfl,rfl,s1,zab,by simp[orbO]⟩, ?_⟩
  rintro n σ H1 ⟨j,rfl,rfl,sm,hp1,nd⟩
  have bd:=zcw ho ⟨h0,h1⟩ nd
  refine⟨_,rfl,_,rfl,rfl,_,rfl,ite2 (fun hc=> ?_) (fun hc=> ?_)⟩
  ·have hne:itO ns x (j+1)≠x:=by simpa using hc
   have nd2:=zgz ho ⟨h0,h1⟩ nd hne
   have bd2:=zcw ho ⟨h0,h1⟩ nd2
   have hrg:=zdo ho ⟨h0,h1⟩ (j+1)
   refine⟨_,fun σ' H' h=>h, ?_⟩
   refine⟨_,rfl,.inl ⟨rfl,_,SqL.of hp1⟩,_,rfl,p,_,_,rfl,rfl,hp1,zaR (by rw[zai,zbx];(first|lia|omega)), ?_⟩
   have sm2:Same H (upd H1 p (.lst ((orbO ns x (j+1)).map V.int++[.int (itO ns x (j+1))]))):=zau sm hp
   refine⟨_,rfl,_,rfl,a,_,_,_,rfl,rfl,SqT.of (sm2 _ _ ha),zfF hrg.1 (by (first|lia|omega)), ?_⟩
   refine⟨m-(j+1),by (first|lia|omega),j+1,rfl,rfl,sm2, ?_,nd2⟩
   rw[zab,zgx ns x (j+1),List.map_append]
   rfl
  ·have he:itO ns x (j+1)=x:=by simpa using hc
   refine⟨_,rfl,p,_,rfl,.inl ⟨SqL.of hp1,fun l hl=> ?_⟩⟩
   have e:=zkI ho ⟨h0,h1⟩ ⟨⟨j,rfl,he⟩,nd⟩
   refine k l _ (sm.trans (zac hl)) ?_
   rw[zab,e]
theorem sc_rounds_met:FnScope ["order", "firsts", "rounds", "met", "first", "found", "number"] ["order", "firsts"] (zaf zbP):=⟨rfl,rfl,rfl,by decide+kernel,rfl,by decide+kernel,by decide+kernel⟩
theorem zep {f:Addr}{fd:FuncData}(F:Fun K "rounds_met" "rounds_met" zbP f fd)(T:Top mg)(Cround_from:Cal P w K mg base 1 "round_from" ["order", "first"] zcd):FnOk P w K mg base CX0 2 f fd ["order", "firsts"] zbz:=by
 refine F.ok sc_rounds_met (fun vs H Q E h=> ?_) (fun cdv A outer s H vs Q E hr h=> ?_)
 ·obtain ⟨a,l,ns,fs,m,rfl,_⟩:=h
  rfl
 ·obtain ⟨a,l,ns,fs,m,rfl,ha,hl,ho,hm,hf,k⟩:=h
  have ln:=ho.len
  refine⟨_,(zae (zam (i:=2) sc_rounds_met.nd rfl (Or.inl rfl) (zaU zad))
   (zae (zam (i:=3) sc_rounds_met.nd rfl (Or.inl rfl) (zaw zii (zaU (zaa zdW zad)) (zaq zat (by rfl) T.n_len PySem.boot_len (zaa (pv 0) zad))))
   (zae (zaI PassesOwn.never rfl (za1 (pv 1)) (zal (i:=4) sc_rounds_met.nd rfl (Or.inl rfl))
    (zag (zbp (zkB (zh3 (zaX zaz (pv 3) (pv 4) (fun _ _=>rfl))))
     (zae (zam (i:=5) sc_rounds_met.nd rfl (Or.inl rfl) (zan Cround_from (hr.mono (by decide)) rfl (zaa (pv 0) (zaa (pv 4) zad))))
     (zae (zaI PassesOwn.never rfl (za2 (pv 5)) (zal (i:=6) sc_rounds_met.nd rfl (Or.inl rfl))
      (zag (zcr zdW (zcq (pv 3) (pv 6) za3))))
     (zag (za5 (zdh PySem.F.plainAttrs_list PySem.F.slot_list_append PySem.F.type_list_append zaJ (pv 2) (zaa (pv 5) zad))))))
     zaH)))
   (zag (zas (pv 2)))))), ?_⟩
  refine⟨Nat.zero_le _,fun p hp=> ?_⟩
  have s1:=zac (o:=.lst []) hp
  refine⟨by show 1<=sizeLine;decide,fun o1 ho1=> ?_⟩
  have s2:=zac (o:=.lst [.bl false]) ho1
  refine⟨_,rfl,a,_,rfl,.inr (SqT.of (s2 _ _ (s1 _ _ ha))),o1,_,_,rfl,rfl,zab,by (first|lia|omega),by rw[zai];(first|lia|omega), ?_,fun q hq=> ?_⟩
  ·simp only[zai,Int.toNat_natCast,List.length_cons,List.length_nil]
   exact Nat.le_trans (by (first|lia|omega):(0+1)*ns.length<=1000) (by decide)
  have s3:=zac (o:=.lst (List.replicate ((ns.map V.int).length:Int).toNat [V.bl false]).flatten) hq
  have hq0:H q=none:=s1.free (s2.free hq)
  have hpq:p≠q:=fun z=>by
   subst z
   have:=s2 _ _ (zab (H:=H) (a:=p) (o:=.lst []))
   rw[hq] at this
   cases this
  have hrep:(List.replicate ((ns.map V.int).length:Int).toNat [V.bl false]).flatten=(List.replicate m false).map V.bl:=by
   rw[zai,Int.toNat_natCast,zfG,ln,List.map_replicate]
  refine⟨_,rfl,l,rfl,⟨_,SqL.of (s3 _ _ (s2 _ _ (s1 _ _ hl)))⟩,zbW (K:=K) (xs:=fs.map V.int) (fun i σ H2=>∃(zs:List Addr) (bs:List Bool) (c4 c5 c6:Option V),σ=[some (.ref a),some (.ref l),some (.ref p),some (.ref q),c4,c5,c6]/\Same H H2/\
   H2 p=some (.lst (zs.map V.ref))/\H2 q=some (.lst (bs.map V.bl))/\RowsAt H2 zs (zaM ns (fs.take i))/\MetO ns m (zaM ns (fs.take i))/\Bits bs m (zaM ns (fs.take i)).flatten) ?_ ?_ ?_ ?_⟩
  ·refine ⟨[],List.replicate m false,none,none,none,rfl,(s1.trans s2).trans s3, ?_,by rw[zab,hrep],.nil,zcb,zns m⟩
   rw[zah hpq]
   exact s2 _ _ zab
  ·rintro i σ H2 _ ⟨zs,bs,c4,c5,c6,rfl,sm,_⟩
   exact SqL.of (sm _ _ hl)
  ·rintro i x σ H2 hx ⟨zs,bs,c4,c5,c6,rfl,sm,hp2,hq2,R,M,B⟩
   rw[List.getElem?_map] at hx
   obtain⟨n,hn,rfl⟩:∃n,fs[i]? =some n/\V.int n=x:=by
    cases e:fs[i]? with
    |none=>rw[e] at hx;cases hx
    |some n=>rw[e] at hx;exact⟨n,rfl,Option.some.inj hx⟩
   have hnr:=hf n (List.mem_of_getElem? hn)
   have htk:zaM ns (fs.take (i+1))=zbM ns (zaM ns (fs.take i)) n:=by
    rw[List.take_succ,hn]
    exact zdp ns (fs.take i) n
   have M':=M.step ho hnr
   have lens:=M.lens ho
   have hbit:=B.bit n.toNat (by (first|lia|omega))
   rw[show ((n.toNat:Nat):Int)=n by (first|lia|omega)] at hbit
   have hat:atI (bs.map V.bl) n=some (.bl (decide (n∈(zaM ns (fs.take i)).flatten))):=by
    have:=zaC (xs:=bs.map V.bl) (j:=n.toNat) (v:=.bl (decide (n∈(zaM ns (fs.take i)).flatten))) (by rw[List.getElem?_map,hbit];rfl)
    rwa [show ((n.toNat:Nat):Int)=n by (first|lia|omega)] at this
   refine⟨_,rfl,_,rfl,q,_,n,_,rfl,rfl,SqL.of hq2,hat,_,rfl,ite2 (fun hc=> ?_) (fun hc=> ?_)⟩
   ·have hnm:n∉(zaM ns (fs.take i)).flatten:=by simpa using hc
    have hst:zbM ns (zaM ns (fs.take i)) n=zaM ns (fs.take i)++[rowO ns n]:=by unfold zbM;rw[if_neg hnm]
    refine⟨_,rfl,_,rfl,a,ns,m,n,rfl,sm _ _ ha,ho,hm,hnr.1,hnr.2,fun r H3 s3' hr3=> ?_⟩
    have rl:=ziy ho hnr
    refine⟨_,rfl,r,rfl,⟨_,SqT.of hr3⟩,zfA (K:=K) (xs:=(rowO ns n).map V.int) (fun j σ H4=>∃(bs:List Bool) (c6:Option V),σ=[some (.ref a),some (.ref l),some (.ref p),some (.ref q),some (.int n),some (.ref r),c6]/\Same H H4/\
     H4 p=some (.lst (zs.map V.ref))/\H4 q=some (.lst (bs.map V.bl))/\RowsAt H4 zs (zaM ns (fs.take i))/\H4 r=some (.tup ((rowO ns n).map V.int))/\Bits bs m ((zaM ns (fs.take i)).flatten++(rowO ns n).take j)) ?_ ?_ ?_ ?_⟩
    ·exact⟨bs,c6,rfl,sm.trans s3',s3' _ _ hp2,s3' _ _ hq2,R.same s3',hr3,by rw[List.take_zero,List.append_nil];exact B⟩
    ·rintro j σ H4 _ ⟨bs,c6,rfl,_,_,_,_,hr4,_⟩
     exact SqT.of hr4
    ·rintro j y σ H4 hy ⟨bs,c6,rfl,sm4,hp4,hq4,R4,hr4,B4⟩
     rw[List.getElem?_map] at hy
     obtain⟨z,hz,rfl⟩:∃z,(rowO ns n)[j]? =some z/\V.int z=y:=by
      cases e:(rowO ns n)[j]? with
      |none=>rw[e] at hy;cases hy
      |some n=>rw[e] at hy;exact⟨n,rfl,Option.some.inj hy⟩
     have hzr:=zfH ho hnr z (List.mem_of_getElem? hz)
     have hix:ixN (bs.map V.bl).length z=some z.toNat:=by
      unfold ixN
      rw[List.length_map,B4.len,if_pos hzr.1,if_pos (by (first|lia|omega))]
     refine⟨_,rfl,_,rfl,q,_,z,_,rfl,rfl,hq4,hix, ?_⟩
     have st:SameT H4 (upd H4 q (.lst ((bs.map V.bl).set z.toNat (.bl true)))):=zbK hq4
     refine⟨bs.set z.toNat true,_,rfl,zau sm4 hq0, ?_, ?_,R4.sameT st,st _ _ hr4, ?_⟩
     ·rw[zah hpq];exact hp4
     ·rw[zab,List.map_set]
     ·rw [List.take_succ,hz]
      have:=B4.set hzr.1 hzr.2
      rwa [List.append_assoc] at this
    ·rintro σ H4 ⟨bs,c6,rfl,sm4,hp4,hq4,R4,hr4,B4⟩
     refine⟨_,rfl,.inl ⟨rfl,_,SqL.of hp4⟩,_,rfl,p,_,_,rfl,rfl,hp4,zaR (by rw[zcy,Paired.length R4];(first|lia|omega)), ?_⟩
     have st:SameT H4 (upd H4 p (.lst (zs.map V.ref++[.ref r]))):=zbK hp4
     refine⟨zs++[r],bs,_,_,_,rfl,zau sm4 hp,by rw[zab,List.map_append];rfl,by rw[zah (Ne.symm hpq)];exact hq4, ?_, ?_, ?_⟩
     ·rw [htk,hst]
      exact Paired.snoc (R4.sameT st) (st _ _ hr4)
     ·rw[htk];exact M'
     ·rw [htk,hst]
      rw[zai,List.take_length] at B4
      simpa using B4
   ·have hnm:n∈(zaM ns (fs.take i)).flatten:=by simpa using hc
    have hst:zbM ns (zaM ns (fs.take i)) n=zaM ns (fs.take i):=by unfold zbM;rw[if_pos hnm]
    exact⟨zs,bs,_,_,_,rfl,sm,hp2,hq2,by rw[htk,hst];exact R,by rw[htk,hst];exact M,by rw[htk,hst];exact B⟩
  ·rintro σ H2 ⟨zs,bs,c4,c5,c6,rfl,sm,hp2,hq2,R,M,B⟩
   rw[zai,List.take_length] at R
   exact⟨_,rfl,k p zs H2 sm hp2 R⟩
theorem zfd:FnScope ["order"] ["order"] (zaf zcj):=⟨rfl,rfl,rfl,by decide+kernel,rfl,by decide+kernel,by decide+kernel⟩
theorem zfe {f:Addr}{fd:FuncData}(F:Fun K "rounds_of" "rounds_of" zcj f fd)(T:Top mg)(Crounds_met:Cal P w K mg base 2 "rounds_met" ["order", "firsts"] zbz):FnOk P w K mg base CX0 3 f fd ["order"] zd7:=by
 refine F.ok zfd (fun vs H Q E h=> ?_) (fun cdv A outer s H vs Q E hr h=> ?_)
 ·obtain ⟨a,ns,m,rfl,_⟩:=h
  rfl
 ·obtain ⟨a,ns,m,rfl,ha,ho,hm,k⟩:=h
  have ln:=ho.len
  refine⟨_,(zag (zas (zao zar (by rfl) T.n_tuple boot_tuple (zaa (zan Crounds_met (hr.mono (by decide)) rfl (zaa (pv 0) (zaa (zao (zct rfl) (by rfl) T.n_list boot_list (zaa (zao zdl (by rfl) T.n_range boot_range (zaa (zaq zat (by rfl) T.n_len PySem.boot_len (zaa (pv 0) zad)) zad)) zad)) zad))) zad)))), ?_⟩
  refine⟨_,rfl,_,rfl,a,_,rfl,.inr (SqT.of ha),_,rfl,fun r hr'=>⟨r,_,rfl,zab,by (first|lia|omega),by rw[zai];(first|lia|omega),fun l hl=> ?_⟩⟩
  have s2:=(zac (o:=.rng 0 ((ns.map V.int).length:Int)) hr').trans (zac (o:=.lst (zaN 0 ((ns.map V.int).length:Int).toNat)) hl)
  refine⟨a,l,ns,num0 ns.length,m,rfl,s2 _ _ ha,by rw[zab,zai,Int.toNat_natCast,zbw],ho,hm,by rw[ln];exact fun f hf=>zaP hf,fun p zs H' s' hp R=> ?_⟩
  refine⟨p,_,rfl,.inl ⟨SqL.of hp,fun t ht=> ?_⟩⟩
  exact k t zs _ ((s2.trans s').trans (zac ht)) zab (R.same (zac ht))
end
end K88
namespace L2
open PySem PySem.Spec PyProof.Rows
noncomputable def zhQ (f:List Int->Int):Sp:=fun vs H Q _=>∃(a:Addr) (ns:List Int) (m:Nat),vs=[.ref a]/\H a=some (.tup (ns.map V.int))/\Ord m ns/\m<=60/\∀H',Same H H'->Q (.int (f ns)) H'
theorem zlN {X:Cx}{tg l:Expr}{tl:TE}(K:PySem.W.Frag)(hK:X.K=K)(hl:PE X l tl):PI X tg l (iTup K tl):=hK▸za2 hl
end L2
namespace K88
open PySem PySem.Spec PyProof.Rows L2
noncomputable abbrev zck:Stmt:=top 9
noncomputable abbrev zcN:Stmt:=top 12
section
variable {P:Program}{w:World}{K:PySem.W.Frag}{mg:Str->Option Value}{base:Heap}
theorem zff:FnScope ["order"] ["order"] (zaf zck):=⟨rfl,rfl,rfl,by decide+kernel,rfl,by decide+kernel,by decide+kernel⟩
theorem zfg {f:Addr}{fd:FuncData}(F:Fun K "rounds_in" "rounds_in" zck f fd)(T:Top mg)(Crounds_of:Cal P w K mg base 3 "rounds_of" ["order"] zd7):FnOk P w K mg base CX0 4 f fd ["order"] (zhQ fun ns=>((zay ns).length:Int)):=by
 refine F.ok zff (fun vs H Q E h=> ?_) (fun cdv A outer s H vs Q E hr h=> ?_)
 ·obtain ⟨a,ns,m,rfl,_⟩:=h
  rfl
 ·obtain ⟨a,ns,m,rfl,ha,ho,hm,k⟩:=h
  refine⟨_,(zag (zas (zaq zat (by rfl) T.n_len PySem.boot_len (zaa (zan Crounds_of (hr.mono (by decide)) rfl (zaa (pv 0) zad)) zad)))), ?_⟩
  refine⟨_,rfl,a,ns,m,rfl,ha,ho,by (first|lia|omega),fun p zs H' s' hp R=>⟨p,_,rfl,.inr (SqT.of hp), ?_⟩⟩
  rw[zcy,Paired.length R]
  exact k H' s'
theorem sc_highs_in:FnScope ["order", "highs", "highest", "number"] ["order"] (zaf zcN):=⟨rfl,rfl,rfl,by decide+kernel,rfl,by decide+kernel,by decide+kernel⟩
theorem zf7 {f:Addr}{fd:FuncData}(F:Fun K "highs_in" "highs_in" zcN f fd):FnOk P w K mg base CX0 1 f fd ["order"] (zhQ zbF):=by
 refine F.ok sc_highs_in (fun vs H Q E h=> ?_) (fun cdv A outer s H vs Q E hr h=> ?_)
 ·obtain ⟨a,ns,m,rfl,_⟩:=h
  rfl
 ·obtain ⟨a,ns,m,rfl,ha,ho,hm,k⟩:=h
  have ln:=ho.len
  refine⟨_,(zae (zam (i:=1) sc_highs_in.nd rfl (Or.inl rfl) zaj)
   (zae (zam (i:=2) sc_highs_in.nd rfl (Or.inl rfl) (zhu zdG zaj))
   (zae (zaI PassesOwn.never rfl (za2 (pv 0)) (zal (i:=3) sc_highs_in.nd rfl (Or.inl rfl))
    (zag (zbp (zax zia (pv 3) (pv 2) (zaB _))
     (zae (zmg (i:=1) sc_highs_in.nd rfl (Or.inl rfl) zaj zmh)
     (zag (zam (i:=2) sc_highs_in.nd rfl (Or.inl rfl) (pv 3))))
     zaH)))
   (zag (zas (pv 1)))))), ?_⟩
  refine⟨1,rfl, ?_⟩
  refine⟨_,rfl,a,rfl,⟨_,SqT.of ha⟩,zfA (K:=K) (xs:=ns.map V.int) (fun i σ H2=>∃(h:Int) (c3:Option V),σ=[some (.ref a),some (.int (sumR i fun k=>if (ns.take (k+1)).all (fun a=>decide (a<=atO ns k)) then 1 else 0)),some (.int h),c3]/\H2=H/\(∀a∈ns.take i,a<=h)/\(h=-1∨h∈ns.take i)) ?_ ?_ ?_ ?_⟩
  ·exact⟨-1,none,rfl,rfl,by simp,.inl rfl⟩
  ·rintro i σ H2 _ ⟨h,c3,rfl,rfl,_⟩
   exact SqT.of ha
  ·rintro i x σ H2 hx ⟨h,c3,rfl,rfl,hle,hin⟩
   rw[List.getElem?_map] at hx
   obtain⟨n,hn,rfl⟩:∃n,ns[i]? =some n/\V.int n=x:=by
    cases e:ns[i]? with
    |none=>rw[e] at hx;cases hx
    |some n=>rw[e] at hx;exact⟨n,rfl,Option.some.inj hx⟩
   have hnr:=ho.rng n (List.mem_of_getElem? hn)
   have hat:atO ns (i:Int)=n:=by rw[<-zjX,List.getD_eq_getElem?_getD,hn];rfl
   have htk:ns.take (i+1)=ns.take i++[n]:=by rw[List.take_succ,hn];rfl
   have hnew:n∉ns.take i:=fun z=>by
    obtain⟨j,hj⟩:=List.getElem?_of_mem z
    rw[List.getElem?_take] at hj
    by_cases hji:j<i
    ·rw [if_pos hji] at hj
     obtain⟨l1,e1⟩:=List.getElem?_eq_some_iff.mp hn
     obtain⟨l2,e2⟩:=List.getElem?_eq_some_iff.mp hj
     have q1:=List.Nodup.idxOf_getElem ho.nodup i l1
     have q2:=List.Nodup.idxOf_getElem ho.nodup j l2
     rw[e1] at q1
     rw[e2] at q2
     (first|lia|omega)
    ·rw [if_neg hji] at hj
     cases hj
   refine⟨_,rfl,_,rfl,_,_,rfl,rfl,_,rfl,ite2 (fun hc=> ?_) (fun hc=> ?_)⟩
   ·have hgt:h<n:=by simpa using hc
    have e:(ns.take (i+1)).all (fun a=>decide (a<=atO ns i))=true:=by
     rw[hat,htk,List.all_eq_true]
     intro a ha'
     rcases List.mem_append.mp ha' with h1|h1
     ·have:=hle a h1
      simp
      (first|lia|omega)
     ·rw[List.mem_singleton.mp h1];simp
    refine⟨_,rfl,_,_,rfl,rfl, ?_⟩
    refine⟨_,rfl,n,some (.int n), ?_,rfl, ?_,.inr (by rw[htk];simp)⟩
    ·rw [zdr,e]
     rfl
    ·intro a ha'
     rw[htk] at ha'
     rcases List.mem_append.mp ha' with h1|h1
     ·have:=hle a h1
      (first|lia|omega)
     ·rw[List.mem_singleton.mp h1];exact Int.le_refl _
   ·have hngt:n<=h:=by simpa using hc
    have hmem:h∈ns.take i:=by
     rcases hin with h1|h1
     ·(first|lia|omega)
     ·exact h1
    have hlt:n<h:=by
     have:n≠h:=fun z=>hnew (z▸hmem)
     (first|lia|omega)
    have e:(ns.take (i+1)).all (fun a=>decide (a<=atO ns i))=false:=by
     rw[hat,htk,List.all_eq_false]
     exact⟨h,List.mem_append_left _ hmem,by simp;(first|lia|omega)⟩
    refine⟨h,some (.int n), ?_,rfl, ?_,.inr (by rw[htk];exact List.mem_append_left _ hmem)⟩
    ·rw [zdr,e]
     simp
    ·intro a ha'
     rw[htk] at ha'
     rcases List.mem_append.mp ha' with h1|h1
     ·exact hle a h1
     ·rw[List.mem_singleton.mp h1];exact hngt
  ·rintro σ H2 ⟨h,c3,rfl,rfl,_⟩
   rw[zai]
   exact⟨_,rfl,k _ (Same.refl _)⟩
end
end K88
namespace L2
open PySem PySem.Spec PyProof.Rows
noncomputable def ysAt (H:Hp):V->List V
 | .ref z=>match H z with
  |some (.tup ys)=>ys
  |_=>[]
 |_=>[]
theorem zg0 {H:Hp}{z:Addr}{vs:List V}(h:H z=some (.tup vs)):ysAt H (.ref z)=vs:=by
 show (match H z with|some (.tup ys)=>ys|_=>[])=vs
 rw[h]
theorem zcO {H:Hp}:∀{zs:List Addr} {rows:List (List Int)},RowsAt H zs rows->(zaL (zs.map V.ref) (ysAt H) fun _ _=>true).map (·.2)=rows.flatten.map V.int
 |_,_,.nil=>rfl
 |_,_,.cons h t=>by
  have:=zcO t
  unfold zaL at this ⊢
  rw[List.map_cons,List.flatMap_cons,List.map_append,this,zg0 h,List.flatten_cons,List.map_append,List.filter_eq_self.mpr (fun _ _=>rfl),List.map_map]
  congr 1
  exact List.map_id _
theorem zkV {l:List (V×V)}:∀{vs:List V},Paired (fun (xy:V×V) v=>v=xy.2) l vs->vs=l.map (·.2)
 |_,.nil=>rfl
 |_,.cons h t=>by rw[List.map_cons,h,zkV t]
theorem zg1 {H:Hp}:∀{zs:List Addr} {rows:List (List Int)},RowsAt H zs rows->RowsAt H zs.reverse rows.reverse
 |_,_,.nil=>.nil
 |_,_,.cons h t=>by
  rw[List.reverse_cons,List.reverse_cons]
  exact Paired.append (zg1 t) (.cons h .nil)
theorem zkg (m:Nat):zfZ ((m:Int)-1) (((m:Int)-1-(-1)).toNat)=(za4 m m).map V.int:=by
 unfold zfZ za4
 rw[List.map_map,show ((m:Int)-1-(-1)).toNat=m by (first|lia|omega)]
 rfl
noncomputable def zkh:Sp:=fun vs H Q _=>∃(a:Addr) (ns:List Int) (m:Nat),vs=[.ref a]/\H a=some (.tup (ns.map V.int))/\Ord m ns/\m<=60/\∀p H',Same H H'->H' p=some (.tup ((wroR m ns).flatten.map V.int))->Q (.ref p) H'
noncomputable def zlO:Sp:=fun vs H Q _=>∃(a:Addr) (ns:List Int) (m:Nat),vs=[.ref a]/\H a=some (.tup (ns.map V.int))/\Ord m ns/\m<=60/\∀p zs H',Same H H'->H' p=some (.lst (zs.map V.ref))->LsAt H' zs (cutH ns)->Q (.ref p) H'
noncomputable def zeq:Sp:=fun vs H Q _=>∃(p:Addr) (zs:List Addr) (R:List (List Int)) (m:Nat),vs=[.ref p,.int m]/\H p=some (.lst (zs.map V.ref))/\LsAt H zs R/\R.flatten.Perm (num0 m)/\m<=60/\∀q H',Same H H'->H' q=some (.tup ((zbO m R).map V.int))->Q (.ref q) H'
theorem zf8 {l:List V}{x:V}:atI (l++[x]) (-1)=some x:=by
 unfold atI ixN
 simp
 rw[if_pos (by (first|lia|omega))]
 show (l++[x])[(-1+((l.length:Int)+1)).toNat]? =some x
 rw[show (-1+((l.length:Int)+1)).toNat=l.length by (first|lia|omega)]
 simp
noncomputable def zki:Sp:=fun vs H Q _=>∃(a:Addr) (ns:List Int) (m:Nat),vs=[.ref a]/\H a=some (.tup (ns.map V.int))/\Ord m ns/\m<=60/\∀p H',Same H H'->H' p=some (.tup ((zbO m (cutH ns)).map V.int))->Q (.ref p) H'
noncomputable def zc9:Sp:=fun vs H Q _=>∃(kind:Str) (a:Addr) (ns:List Int) (m:Nat),vs=[.str kind,.ref a]/\H a=some (.tup (ns.map V.int))/\Ord m ns/\m<=60/\((kind= "rounds" /\∀H',Same H H'->Q (.int ((zay ns).length:Int)) H')∨(kind= "highs" /\∀H',Same H H'->Q (.int (zbF ns)) H'))
theorem zi9 (acc:List Int)(ps:List (Int×Int))(p:Int×Int):setP acc (ps++[p])=(setP acc ps).set p.1.toNat p.2:=by
 unfold setP
 rw[List.foldl_append]
 rfl
theorem zkj (acc:List Int)(a b:List (Int×Int)):setP acc (a++b)=setP (setP acc a) b:=by
 unfold setP
 rw[List.foldl_append]
theorem zlP (R:List (List Int))(r:List Int):jnP (R++[r])=jnP R++(rotr r).zip r:=by
 unfold jnP
 rw[List.map_append,List.flatten_append]
 simp
theorem LsAt.setLast {H:Hp}{zs:List Addr}{F:List (List Int)}{z:Addr}{f g:List Int}(h:LsAt H (zs++[z]) (F++[f]))(nd:(zs++[z]).Nodup)(hl:zs.length=F.length):LsAt (upd H z (.lst (g.map V.int))) (zs++[z]) (F++[g]):=by
 have split:∀{zs:List Addr} {F:List (List Int)},zs.length=F.length->LsAt H (zs++[z]) (F++[f])->LsAt H zs F/\H z=some (.lst (f.map V.int)):=by
  intro zs
  induction zs with
  | nil=>
   intro F hl h
   cases F with
   |nil=>
    cases h with
    |cons h _=>exact⟨.nil,h⟩
   |cons _ _=>cases hl
  | cons a t ih=>
   intro F hl h
   cases F with
   |nil=>cases hl
   | cons b F=>
    cases h with
    |cons h1 h2=>
     obtain⟨i1,i2⟩:=ih (by simpa using hl) h2
     exact⟨.cons h1 i1,i2⟩
 obtain⟨h1,_⟩:=split hl h
 have hz:z∉zs:=fun hm=>by
  have:=(List.nodup_append.mp nd).2.2 z hm z (by simp)
  exact this rfl
 exact Paired.append (LsAt.off h1 hz) (.cons zab .nil)
end L2
namespace K88
open PySem PySem.Spec PyProof.Rows L2
noncomputable abbrev zcD:Stmt:=top 2
noncomputable abbrev zbm:Stmt:=top 7
noncomputable abbrev zer:Stmt:=top 4
noncomputable abbrev zcl:Stmt:=top 3
noncomputable abbrev zf9:Stmt:=top 16
section
variable {P:Program}{w:World}{K:PySem.W.Frag}{mg:Str->Option Value}{base:Heap}
theorem sc_written:FnScope ["order", "falling"] ["order"] (zaf zcD):=⟨rfl,rfl,rfl,by decide+kernel,rfl,by decide+kernel,by decide+kernel⟩
theorem zhR {f:Addr}{fd:FuncData}(F:Fun K "written" "written" zcD f fd)(T:Top mg)(Crounds_met:Cal P w K mg base 2 "rounds_met" ["order", "firsts"] zbz):FnOk P w K mg base CX0 3 f fd ["order"] zkh:=by
 refine F.ok sc_written (fun vs H Q E h=> ?_) (fun cdv A outer s H vs Q E hr h=> ?_)
 ·obtain ⟨a,ns,m,rfl,_⟩:=h
  rfl
 ·obtain ⟨a,ns,m,rfl,ha,ho,hm,k⟩:=h
  have ln:=ho.len
  refine⟨_,(zae (zam (i:=1) sc_written.nd rfl (Or.inl rfl) (zan Crounds_met (hr.mono (by decide)) rfl (zaa (pv 0) (zaa (zao (zhO rfl) (by rfl) T.n_list boot_list (zaa (zao zfY (by rfl) T.n_range boot_range (zaa (zaw zcs (zaq zat (by rfl) T.n_len PySem.boot_len (zaa (pv 0) zad)) zaj) (zaa (zhu zdG zaj) (zaa (zhu zdG zaj) zad)))) zad)) zad))))
   (zag (zas (zao zar (by rfl) T.n_tuple boot_tuple (zaa (zmw (N':=["found", "number"]) (n:=2) (ix:=[]) rfl (CompScope.of (sc:=zaf zcD) (N:=["order", "falling"]) (by decide+kernel) rfl rfl) (za1 (ziq zir (pv 1)))
     (fun _ _ _ _ _=>⟨(zal (i:=0) (show (["found", "number"]:List Str).Nodup by decide+kernel) rfl (Or.inl rfl)),zaK,(zlN K rfl (pv 0)),(zal (i:=1) (show (["found", "number"]:List Str).Nodup by decide+kernel) rfl (Or.inl rfl)),zaK,(pv 1)⟩)) zad))))), ?_⟩
  refine⟨_,rfl,_,rfl,a,_,rfl,.inr (SqT.of ha),_,_,rfl,rfl,_,rfl,_,rfl,_,_,rfl,fun r hr'=> ?_⟩
  have s1:=zac (o:=RngD r ((ns.map V.int).length-1) (-1)) hr'
  refine⟨r,_,_,rfl,zab,⟨by decide,by rw[zai];(first|lia|omega),by rw[zai];(first|lia|omega),by rw[zai];(first|lia|omega)⟩,fun l hl=> ?_⟩
  have s2:=zac (o:=.lst (zfZ ((ns.map V.int).length-1) (((ns.map V.int).length-1-(-1):Int)).toNat)) hl
  have e:zfZ (((ns.map V.int).length:Int)-1) ((((ns.map V.int).length:Int)-1-(-1))).toNat=(za4 m m).map V.int:=by
   rw[zai,ln]
   exact zkg m
  have S:=s1.trans s2
  refine⟨a,l,ns,za4 m m,m,rfl,S _ _ ha,by rw[<-e];exact zab,ho,by (first|lia|omega),zcC (Nat.le_refl _),fun p zs H2 t1 hp R=> ?_⟩
  have S2:=S.trans t1
  refine⟨_,rfl,p,_,rfl,SqL.of hp,fun p' hp'=> ?_⟩
  have u1:=zac (o:=.lst (zs.map V.ref).reverse) hp'
  have hp2:=@zab H2 p' (.lst (zs.map V.ref).reverse)
  rw[<-List.map_reverse] at hp2 u1 ⊢
  have R2:=(zg1 R).same u1
  have S3:=S2.trans u1
  generalize upd H2 p' (.lst (zs.reverse.map V.ref))=H3 at hp2 R2 S3 ⊢
  have efl:(zaM ns (za4 m m)).reverse=wroR m ns:=rfl
  rw[efl] at R2
  have hlen:(wroR m ns).flatten.length=m:=by
   rw[(ze4 ho).all.length_eq,zaV]
  refine⟨p',rfl,⟨_,SqL.of hp2⟩, ?_⟩
  refine zgF (zaY (xs:=zs.reverse.map V.ref)) (ysAt H3) (fun _ _=>true) (fun xy v _=>v=xy.2) (zaR ?_) (fun _ _ _ _ _ h=>h) (fun G s'=>SqL.of (s' _ _ hp2)) (fun x hx G s' Rr q'=> ?_) (fun x hx y hy G s' Q' q'=>q') (fun x hx y hy _ G s' Q' q'=> ?_) fun acc vs G hacc s' hvs pr=> ?_
  ·rw [<-List.length_map (f:=fun xy:V×V=>xy.2),zcO R2,zai]
   (first|lia|omega)
  ·obtain ⟨z,hz,rfl⟩:=List.mem_map.mp hx
   obtain⟨j,hj⟩:=List.getElem?_of_mem hz
   obtain⟨r,hr',ez⟩:=R2.get hj
   rw[zg0 ez] at q'
   exact⟨_,rfl,z,rfl,⟨_,SqT.of (s' _ _ ez)⟩,q' _ _ _ (Same.refl G) (zbZ (K:=K) (a:=z) (xs:=r.map V.int)) fun G2 _ s2=>SqT.of (s2 _ _ ez)⟩
  ·exact⟨_,rfl,q' _ _ (Same.refl G) rfl⟩
  ·have hv:=(zkV pr).trans (zcO R2)
   subst hv
   refine⟨acc,_,rfl,.inl ⟨SqL.of hvs,fun l hl=> ?_⟩⟩
   exact k l _ ((S3.trans s').trans (zac hl)) zab
theorem sc_cut_at_highs:FnScope ["order", "rows", "number"] ["order"] (zaf zbm):=⟨rfl,rfl,rfl,by decide+kernel,rfl,by decide+kernel,by decide+kernel⟩
theorem zdx {f:Addr}{fd:FuncData}(F:Fun K "cut_at_highs" "cut_at_highs" zbm f fd):FnOk P w K mg base CX0 1 f fd ["order"] zlO:=by
 refine F.ok sc_cut_at_highs (fun vs H Q E h=> ?_) (fun cdv A outer s H vs Q E hr h=> ?_)
 ·obtain ⟨a,ns,m,rfl,_⟩:=h
  rfl
 ·obtain ⟨a,ns,m,rfl,ha,ho,hm,k⟩:=h
  have ln:=ho.len
  have nd:=ho.nodup
  refine⟨_,(zae (zam (i:=1) sc_cut_at_highs.nd rfl (Or.inl rfl) (zaU zad))
   (zae (zaI PassesOwn.never rfl (za2 (pv 0)) (zal (i:=2) sc_cut_at_highs.nd rfl (Or.inl rfl))
    (zag (zbp (PW.pt (zmc (zkB (zjJ (pv 1) (fun _=>rfl))) (zkA (zax zia (pv 2) (zaX zaz (zaX zaz (pv 1) (zhu zdG zaj) (fun _ _=>rfl)) zaj (fun _ _=>rfl)) (zaB _)))))
     (zag (za5 (zdh PySem.F.plainAttrs_list PySem.F.slot_list_append PySem.F.type_list_append zaJ (pv 1) (zaa (zaU (zaa (pv 2) zad)) zad))))
     (zag (za5 (zdh PySem.F.plainAttrs_list PySem.F.slot_list_append PySem.F.type_list_append zaJ (zaX zaz (pv 1) (zhu zdG zaj) (fun _ _=>rfl)) (zaa (pv 2) zad)))))))
   (zag (zas (pv 1))))), ?_⟩
  refine⟨Nat.zero_le _,fun p hp=> ?_⟩
  have s1:=zac (o:=.lst []) hp
  refine⟨_,rfl,a,rfl,⟨_,SqT.of (s1 _ _ ha)⟩, ?_⟩
  refine zfA (K:=K) (xs:=ns.map V.int) (fun i σ G=>∃(zs:List Addr) (c2:Option V),σ=[some (.ref a),some (.ref p),c2]/\Same H G/\G p=some (.lst (zs.map V.ref))/\LsAt G zs (cutH (ns.take i))/\zs.Nodup/\p∉zs/\∀z∈zs,H z=none) ⟨[],_,rfl,s1,zab,.nil,.nil,(fun h=>by cases h),(fun _ h=>by cases h)⟩ ?_ ?_ ?_
  ·rintro i σ G _ ⟨zs,c2,rfl,sm,_⟩
   exact SqT.of (sm _ _ ha)
  ·rintro i x σ G hi ⟨zs,c2,rfl,sm,hp1,LA,ndz,hpz,hz0⟩
   obtain⟨n,hn,rfl⟩:=List.mem_map.mp (List.mem_of_getElem? hi)
   have hni:ns[i]? =some n:=by
    rw[List.getElem?_map] at hi
    cases e:ns[i]? with
    |none=>rw[e] at hi;cases hi
    |some z=>rw[e] at hi;cases hi;rfl
   have hi':i<ns.length:=(List.getElem?_eq_some_iff.mp hni).1
   have htk:ns.take (i+1)=ns.take i++[n]:=by rw[List.take_succ,hni];rfl
   have hcl:=Paired.length LA
   have hcut:=zeh _ (ns.take i) rfl (nd.sublist (List.take_sublist _ _))
   have hzl:zs.length<=60:=by
    have h1:(cutH (ns.take i)).length<=(cutH (ns.take i)).flatten.length:=by
     have:∀R:List (List Int),(∀r∈R,∃h t,r=h::t/\∀y∈t,y<h)->R.length<=R.flatten.length:=by
      intro R
      induction R with
      |nil=>intro _;exact Nat.le_refl _
      |cons r t ih=>
       intro h
       obtain⟨x,l,rfl,_⟩:=h r List.mem_cons_self
       have:=ih fun r hr=>h r (List.mem_cons_of_mem _ hr)
       simp only[List.length_cons,List.flatten_cons,List.length_append]
       (first|lia|omega)
     exact this _ hcut.1.row
    rw[hcut.2,List.length_take] at h1
    (first|lia|omega)
   refine⟨_,rfl,_,.inl ⟨_,SqL.of hp1,rfl⟩, ?_⟩
   rw[htk,ze6]
   rcases List.eq_nil_or_concat zs with rfl|⟨zl,z,rfl⟩
   ·have e0:cutH (ns.take i)=[]:=List.eq_nil_of_length_eq_zero (by rw[<-hcl];rfl)
    rw[e0]
    refine iteT (iteT ?_)
    refine⟨_,rfl,.inl ⟨rfl,_,SqL.of hp1⟩,_,rfl,by show 1<=sizeLine;decide,fun l hl=> ?_⟩
    have u1:=zac (o:=.lst [.int n]) hl
    have pl:p≠l:=zak hp1 hl
    refine⟨p,_,_,rfl,rfl,u1 _ _ hp1,by show 0<sizeLine;decide, ?_⟩
    refine⟨[l],_,rfl,zau (sm.trans u1) hp,by rw[zab];rfl,.cons (by rw[zah (Ne.symm pl),zab];rfl) .nil,by simp,(fun h=>pl (List.mem_singleton.mp h)),fun z hz=> ?_⟩
    rw[List.mem_singleton.mp hz]
    exact sm.free hl
   ·rw [List.concat_eq_append] at*
    have hne:((zl++[z]).map V.ref).isEmpty=false:=by simp
    rw[hne]
    refine iteF ?_
    rcases List.eq_nil_or_concat (cutH (ns.take i)) with e0|⟨rl,r,e0⟩
    ·rw [e0] at hcl
     simp at hcl
    rw[List.concat_eq_append] at e0
    rw[e0] at LA hcl hcut ⊢
    have hrl:zl.length=rl.length:=by simpa using hcl
    obtain⟨h,t,er,ht⟩:=hcut.1.row r (by simp)
    have hz:G z=some (.lst (r.map V.int)):=by
     have hzz:(zl++[z])[zl.length]? =some z:=by simp
     obtain⟨r',e1,e2⟩:=zaO LA hzz
     have:(rl++[r])[zl.length]? =some r:=by rw[hrl];simp
     rw[this] at e1
     cases e1
     exact e2
    have hh:hdI r=h:=by rw[er];rfl
    refine⟨_,rfl,_,rfl,_,rfl,p,_,_,.ref z,rfl,rfl,SqL.of hp1, ?_,z,_,_,.int h,rfl,rfl,SqL.of hz, ?_,_,_,rfl,rfl,_,rfl, ?_⟩
    ·rw [List.map_append]
     exact zf8
    ·rw [er]
     exact zaC (j:=0) rfl
    rw[zbg,hh]
    by_cases c:h<n
    ·rw [if_pos c,decide_eq_true (show n>h from c)]
     refine iteT ?_
     refine⟨_,rfl,.inl ⟨rfl,_,SqL.of hp1⟩,_,rfl,by show 1<=sizeLine;decide,fun l hl=> ?_⟩
     have u1:=zac (o:=.lst [.int n]) hl
     have pl:p≠l:=zak hp1 hl
     have lz:l∉zl++[z]:=fun hm=>by
      obtain⟨j,hj⟩:=List.getElem?_of_mem hm
      obtain⟨r',_,e2⟩:=zaO LA hj
      rw[hl] at e2
      cases e2
     refine⟨p,_,_,rfl,rfl,u1 _ _ hp1,zaR (by rw[List.length_map];(first|lia|omega)), ?_⟩
     refine⟨zl++[z]++[l],_,rfl,zau (sm.trans u1) hp,by rw[zab,List.map_append (l₂:=[l])];rfl,Paired.append (LsAt.off (LA.same u1) hpz) (.cons (by rw[zah (Ne.symm pl),zab];rfl) .nil),List.nodup_append.mpr ⟨ndz,by simp,fun a h1 b h2 e=>lz (by rw[<-List.mem_singleton.mp h2,<-e];exact h1)⟩,(fun h=> ?_),fun z' hz'=> ?_⟩
     ·rcases List.mem_append.mp h with h|h
      ·exact hpz h
      ·exact pl (List.mem_singleton.mp h)
     ·rcases List.mem_append.mp hz' with h|h
      ·exact hz0 z' h
      ·rw [List.mem_singleton.mp h]
       exact sm.free hl
    ·rw [if_neg c,decide_eq_false (show ¬n>h from c)]
     refine iteF ?_
     have hrlen:r.length<=60:=by
      have h1:r.length<=(rl++[r]).flatten.length:=(List.sublist_flatten_of_mem (by simp)).length_le
      rw[hcut.2,List.length_take] at h1
      (first|lia|omega)
     refine⟨_,rfl,_,rfl,p,_,_,.ref z,rfl,rfl,SqL.of hp1, ?_,.inl ⟨rfl,_,SqL.of hz⟩,_,rfl,z,_,_,rfl,rfl,hz,zaR (by rw[zai];(first|lia|omega)), ?_⟩
     ·rw [List.map_append]
      exact zf8
     have pz:p≠z:=fun e=>hpz (by rw[e];simp)
     have ez:r.map V.int++[V.int n]=(r++[n]).map V.int:=by rw[List.map_append];rfl
     rw[ez]
     refine⟨zl++[z],_,rfl,zau sm (hz0 z (by simp)),by rw[zah pz];exact hp1,LsAt.setLast LA ndz hrl,ndz,hpz,hz0⟩
  ·rintro σ G ⟨zs,c2,rfl,sm,hp1,LA,_⟩
   rw[zai,List.take_length] at LA
   exact⟨_,rfl,k p zs G sm hp1 LA⟩
theorem sc_joined:FnScope ["rounds", "many", "numbers", "found", "at", "number"] ["rounds", "many"] (zaf zer):=⟨rfl,rfl,rfl,by decide+kernel,rfl,by decide+kernel,by decide+kernel⟩
theorem zja {f:Addr}{fd:FuncData}(F:Fun K "joined" "joined" zer f fd)(T:Top mg):FnOk P w K mg base CX0 1 f fd ["rounds", "many"] zeq:=by
 refine F.ok sc_joined (fun vs H Q E h=> ?_) (fun cdv A outer s H vs Q E hr h=> ?_)
 ·obtain ⟨p,zs,R,m,rfl,_⟩:=h
  rfl
 ·obtain ⟨p,zs,R,m,rfl,hp,LA,hperm,hm,k⟩:=h
  refine⟨_,(zae (zam (i:=2) sc_joined.nd rfl (Or.inl rfl) (zaw zii (zaU (zaa zaj zad)) (pv 1)))
   (zae (zaI PassesOwn.never rfl (za1 (pv 0)) (zal (i:=3) sc_joined.nd rfl (Or.inl rfl))
    (zag (zaI PassesOwn.never rfl (zgE rfl T.n_enumerate (zaa (pv 3) zad)) (zca (i:=4) (j:=5) rfl sc_joined.nd rfl rfl (Or.inl rfl) (Or.inl rfl) (Or.inl rfl) (Or.inl rfl))
     (zag (zcr (pv 5) (zcq (pv 2) (zaX zaz (pv 3) (zaw zcs (pv 4) zaj) (fun _ _=>rfl)) za3))))))
   (zag (zas (zao zar (by rfl) T.n_tuple boot_tuple (zaa (pv 2) zad)))))), ?_⟩
  refine⟨by show 1<=sizeLine;decide,fun o1 ho1=> ?_⟩
  have s1:=zac (o:=.lst [.int 0]) ho1
  refine⟨_,rfl,o1,_,_,rfl,rfl,zab,by (first|lia|omega),by (first|lia|omega), ?_,fun q hq=> ?_⟩
  ·show [V.int 0].length*(m:Int).toNat<=sizeLine
   rw[Int.toNat_natCast]
   exact Nat.le_trans (show 1*m<=1000 by (first|lia|omega)) (by decide)
  have s2:=zac (o:=.lst (List.replicate (m:Int).toNat [V.int 0]).flatten) hq
  have hq0:H q=none:=s1.free hq
  have hrep:(List.replicate (m:Int).toNat [V.int 0]).flatten=(List.replicate m (0:Int)).map V.int:=by
   rw[Int.toNat_natCast,zfG,List.map_replicate]
  have S:=s1.trans s2
  have hqn:∀{G:Hp} {xs:List V} {z:Addr} {ys:List V},Same H G->H z=some (.lst ys)->q≠z:=fun sm hz e=>by
   rw[<-e,hq0] at hz
   cases hz
  refine⟨_,rfl,p,rfl,⟨_,SqL.of (S _ _ hp)⟩, ?_⟩
  refine zbW (K:=K) (xs:=zs.map V.ref) (fun i σ G=>∃(c3 c4 c5:Option V),σ=[some (.ref p),some (.int m),some (.ref q),c3,c4,c5]/\Same H G/\G q=some (.lst ((setP (List.replicate m 0) (jnP (R.take i))).map V.int))) ⟨_,_,_,rfl,S,by rw[zab,hrep];rfl⟩ ?_ ?_ ?_
  ·rintro i σ G _ ⟨c3,c4,c5,rfl,sm,_⟩
   exact SqL.of (sm _ _ hp)
  ·rintro i x σ G hi ⟨c3,c4,c5,rfl,sm,hG⟩
   obtain⟨z,hz,rfl⟩:∃z,zs[i]? =some z/\V.ref z=x:=by
    rw[List.getElem?_map] at hi
    cases e:zs[i]? with
    |none=>rw[e] at hi;cases hi
    |some z=>rw[e] at hi;exact⟨z,rfl,Option.some.inj hi⟩
   obtain⟨r,hr1,hr2⟩:=zaO LA hz
   have hrR:r∈R:=List.mem_of_getElem? hr1
   have htk:R.take (i+1)=R.take i++[r]:=by rw[List.take_succ,hr1];rfl
   refine⟨_,rfl,z,rfl,⟨_,SqL.of (sm _ _ hr2)⟩, ?_⟩
   refine zeS (K:=K) (xs:=r.map V.int) (fun j σ G=>∃(c4 c5:Option V),σ=[some (.ref p),some (.int m),some (.ref q),some (.ref z),c4,c5]/\Same H G/\G q=some (.lst ((setP (setP (List.replicate m 0) (jnP (R.take i))) (((rotr r).zip r).take j)).map V.int))) ⟨_,_,rfl,sm,hG⟩ ?_ ?_ ?_
   ·rintro j σ G _ ⟨c4,c5,rfl,sm,_⟩
    exact SqL.of (sm _ _ hr2)
   ·rintro j x t σ G hj ⟨c4,c5,rfl,sm,hG⟩ ht
    obtain⟨n,hn,rfl⟩:∃n,r[j]? =some n/\V.int n=x:=by
     rw[List.getElem?_map] at hj
     cases e:r[j]? with
     |none=>rw[e] at hj;cases hj
     |some z=>rw[e] at hj;exact⟨z,rfl,Option.some.inj hj⟩
    have hjl:j<r.length:=(List.getElem?_eq_some_iff.mp hn).1
    have st:=zac (o:=.tup [.int (j:Int),.int n]) ht
    have hro:=zf0 hjl
    generalize hv:(if j=0 then r.getD (r.length-1) 0 else r.getD (j-1) 0)=v at hro
    have hvm:v∈r:=(zdw r).mem_iff.mp (List.mem_of_getElem? hro)
    have hv01:=mem_num0.mp (hperm.mem_iff.mp (List.mem_flatten.mpr ⟨r,hrR,hvm⟩))
    have hat:atI (r.map V.int) ((j:Int)-1)=some (.int v):=by
     cases j with
     | zero=>
      rw[if_pos rfl] at hv
      rcases List.eq_nil_or_concat r with e|⟨l,y,e⟩
      ·rw [e] at hjl
       cases hjl
      ·rw [List.concat_eq_append] at e
       have:v=y:=by
        rw[<-hv,e]
        simp
       rw[this,e,List.map_append]
       exact zf8
     |succ j=>
      rw[if_neg (by (first|lia|omega)),Nat.add_sub_cancel] at hv
      rw[show (((j+1:Nat):Int)-1)=((j:Nat):Int) by (first|lia|omega)]
      refine zaC ?_
      rw[List.getElem?_map,List.getElem?_eq_getElem (by (first|lia|omega)),<-hv,List.getD_eq_getElem?_getD,List.getElem?_eq_getElem (by (first|lia|omega))]
      rfl
    have hzip:((rotr r).zip r)[j]? =some (v,n):=by
     rw[List.getElem?_zip_eq_some]
     exact⟨hro,hn⟩
    refine⟨t,_,rfl,SqT.of zab,rfl,_,_,rfl,_,_,rfl,rfl, ?_⟩
    refine⟨_,rfl,_,rfl,_,rfl,_,rfl,_,_,rfl,rfl,z,_,_,_,rfl,rfl,SqL.of (st _ _ (sm _ _ hr2)),hat,q,_,v,v.toNat,rfl,rfl,st _ _ hG, ?_, ?_⟩
    ·rw [zai,zc7,zc7,List.length_replicate]
     have:=zi4 (n:=m) (j:=v.toNat) (by (first|lia|omega))
     rwa [show ((v.toNat:Nat):Int)=v by (first|lia|omega)] at this
    ·refine ⟨_,_,rfl,zau (sm.trans st) hq0, ?_⟩
     rw[zab,List.take_succ,hzip]
     show some (HO.lst _)=some (HO.lst (List.map V.int (setP _ (_++[(v,n)]))))
     rw[zi9,List.map_set]
   ·rintro σ G ⟨c4,c5,rfl,sm,hG⟩
    refine⟨_,_,_,rfl,sm, ?_⟩
    rw[htk,zlP,zkj,hG,List.take_of_length_le (l:=(rotr r).zip r) (by rw[zai,List.length_zip,zei];(first|lia|omega))]
  ·rintro σ G ⟨c3,c4,c5,rfl,sm,hG⟩
   refine⟨_,rfl,q,_,rfl,.inl ⟨SqL.of hG,fun l hl=> ?_⟩⟩
   have e:R.take (zs.map V.ref).length=R:=List.take_of_length_le (by rw[List.length_map,Paired.length LA];exact Nat.le_refl _)
   rw[e] at hG
   refine k l _ (sm.trans (zac hl)) ?_
   rw[zab,e]
   rfl
theorem zfh:FnScope ["order"] ["order"] (zaf zcl):=⟨rfl,rfl,rfl,by decide+kernel,rfl,by decide+kernel,by decide+kernel⟩
theorem zfi {f:Addr}{fd:FuncData}(F:Fun K "unwritten" "unwritten" zcl f fd)(T:Top mg)(Cjoined:Cal P w K mg base 1 "joined" ["rounds", "many"] zeq)(Ccut_at_highs:Cal P w K mg base 1 "cut_at_highs" ["order"] zlO):FnOk P w K mg base CX0 2 f fd ["order"] zki:=by
 refine F.ok zfh (fun vs H Q E h=> ?_) (fun cdv A outer s H vs Q E hr h=> ?_)
 ·obtain ⟨a,ns,m,rfl,_⟩:=h
  rfl
 ·obtain ⟨a,ns,m,rfl,ha,ho,hm,k⟩:=h
  have ln:=ho.len
  have nd:=ho.nodup
  refine⟨_,(zag (zas (zan Cjoined (hr.mono (by decide)) rfl (zaa (zan Ccut_at_highs (hr.mono (by decide)) rfl (zaa (pv 0) zad)) (zaa (zaq zat (by rfl) T.n_len PySem.boot_len (zaa (pv 0) zad)) zad))))), ?_⟩
  refine⟨_,rfl,a,ns,m,rfl,ha,ho,hm,fun p zs H1 s1 hp LA=> ?_⟩
  refine⟨_,rfl,a,_,rfl,.inr (SqT.of (s1 _ _ ha)),p,zs,cutH ns,m,by rw[zai,ln],hp,LA, ?_,hm,fun q H2 s2 hq=>k q H2 (s1.trans s2) hq⟩
  rw[(zeh _ ns rfl nd).2]
  exact ho
theorem sc_count:FnScope ["kind", "order", "counter"] ["kind", "order"] (zaf zf9):=⟨rfl,rfl,rfl,by decide+kernel,rfl,by decide+kernel,by decide+kernel⟩
theorem zkk {f C f1 f2 f3 f4 f5 f6:Addr}{fd:FuncData}(F:Fun K "count" "count" zf9 f fd)(hC:mg "COUNTERS" =some (.ref C))(GD:GDict K w.params C [("rounds",f1),("stays",f2),("rises",f3),("highs",f4),("crossed",f5),("longest",f6)])
  (c1:CalF P w K mg base 4 f1 ["order"] (zhQ fun ns=>((zay ns).length:Int))) (c4:CalF P w K mg base 4 f4 ["order"] (zhQ zbF)):FnOk P w K mg base CX0 5 f fd ["kind", "order"] zc9:=by
 refine F.ok sc_count (fun vs H Q E h=> ?_) (fun cdv A outer s H vs Q E hr h=> ?_)
 ·obtain ⟨kind,a,ns,m,rfl,_⟩:=h
  rfl
 ·obtain ⟨kind,a,ns,m,rfl,ha,ho,hm,k⟩:=h
  refine⟨_,(zae (zam (i:=2) sc_count.nd rfl (Or.inl rfl) (zaX znt (zk8 (v:=.ref C) rfl hC rfl) (pv 0) (fun _ _=>rfl)))
   (zag (zas (zjT (k:=4) (pv 2) hr (zaa (pv 1) zad))))), ?_⟩
  rcases k with⟨rfl,k⟩|⟨rfl,k⟩
  ·exact⟨_,rfl,C,_,_,f1,rfl,rfl,GD,rfl,_,rfl,f1,_,_,rfl,c1,_,rfl,a,ns,m,rfl,ha,ho,hm,fun H' s'=>k H' s'⟩
  ·exact⟨_,rfl,C,_,_,f4,rfl,rfl,GD,rfl,_,rfl,f4,_,_,rfl,c4,_,rfl,a,ns,m,rfl,ha,ho,hm,fun H' s'=>k H' s'⟩
end
end K88
namespace St
open PySem
noncomputable def znA:List Nat:=[7,31,127,511,2047]
structure Tb (t:SetTable) (n:Nat):Prop where
 size:t.place.size=n
 nod:t.dummies=#[]
 rise:t.place.toList.Pairwise (·<·)
 mask:t.mask∈znA
 room:n<=t.mask
section
variable {t:SetTable}{hashAt:Nat->Int}{h:Int}
noncomputable def nxt (t:SetTable)(i perturb:Nat):SetTable.Probe:={j:=i,more:=SetTable.runEnd t.mask i-i,i:=i,perturb:=perturb,dummy:=none}
end
end St
namespace St
open PySem PyProof.Rows
noncomputable def SetH (b:Bool)(h:Heap)(a:Addr)(L:List (Int×Value)):Prop:=
 ∃o es ep t,h.get? a=some o/\o.ExactSet/\o.data=.set es ep t/\Tb t es.size/\es.size*5<t.mask*3/\t.plain=true/\t.led=b/\es.toList.Perm L
section
variable {prog:Program}{w:World}{A:Around}{E:Value->Shared->Prop}{s:Shared}
end
noncomputable def hT (ns:List Int):Int:=reduceHash (Builtin.Tuple.tupleHashOf (ns.map hashInt))
section
variable {prog:Program}{w:World}{A:Around}{E:Value->Shared->Prop}{s:Shared}
end
section
variable {prog:Program}{w:World}{A:Around}{R:Result->Shared->Prop}{I:Addr}{fp wr:List Addr}{G:Array GenState->Array GenState->Prop}{n:Nat}{P:Nat->Value->Prop}{Sw:Nat->Shared->Prop}{b:Bool}
end
noncomputable def leads (w:World):Bool:= !w.params.followText "set-order"
section
variable {prog:Program}{w:World}{A:Around}{E:Value->Shared->Prop}{s:Shared}
end
section
variable {prog:Program}{w:World}{A:Around}{E:Value->Shared->Prop}{s:Shared}{S I:Addr}{o:Obj}{es:Array (Int×Value)}{ep:Nat}{t:SetTable}
end
end St
namespace L2
open PySem PySem.Spec PyProof.Rows
noncomputable def SetO (w:World)(S:Addr)(zs:List Addr):HO:=.ext fun h=>∃L:List (Int×Value),L.map (·.2)=zs.map Value.ref/\St.SetH (St.leads w) h S L
section
variable {X:Cx}
noncomputable def zlQ (tk tv:TE):TE:=fun σ H Q=>∀p,H p=none->tk σ (upd H p (.dT [])) fun y H1=>tv σ H1 fun v H2=>∃b ks,y=.ref b/\H2 b=some (.tup (ks.map kV))/\H2 p=some (.dT [])/\Q (.ref p) (upd H2 p (.dT [(ks,v)]))
theorem zjb {k v:Expr}{pos:Pos}{tk tv:TE}(hu:X.A.units+1<cLine)(hk:PE X k tk)(hv:PE X v tv):PE X (.Dict [some k] [v] pos) (zlQ tk tv):=by
 intro pins s σ H Q I q
 have hn:=I.hok.fresh (Nat.le_refl s.heap.objs.size)
 have I1:=I.laid (a:=s.heap.objs.size) (o:=.dT []) (h':=s.heap.push {cls:=.type "dict",data:=.dict #[]}) (t':=s.toks) (fun _ _ q=>Heap.get?_push_of_some _ q) (Nat.le_refl _) (zgK s.heap I.big)
 refine wpAny_Dict_any rfl rfl (by simp) (by show 1<=15;decide) (pairTrees_cons_walk (thn (hk pins _ σ _ _ I1 (q _ hn)) fun u s1 ⟨y,H1,I2,ry,q1⟩=>thn (hv pins s1 σ H1 _ I2 q1) fun r s2 ⟨z,H2,I3,rz,b,ks,ey,eb,ep,q2⟩=>pairTrees_nil_walk ?_))
 subst ey
 cases (show u=Value.ref b from ry)
 obtain⟨z0,hd,xs,rel,dd⟩:=zmz I3.hok ep
 cases rel
 unfold storeAll
 rw[List.forIn_cons]
 refine wpAny_bind (wpAny_bind (wpAny_dictSet_heap (hsz:=Nat.zero_le _) (knd:=tupleKind (zaE X.prog X.w)) (show X.A.units<cLine by (first|lia|omega)) (zgJ I3.hok eb) dd fun h' dd' hs=>wpAny_pure ?_))
 refine wpAny_pure ⟨.ref s.heap.objs.size,_, ?_,rfl,q2⟩
 obtain⟨qo,es,epp,hq,h2,h3,h4,_,h5⟩:=dd'
 refine zfN I3 (by rw[ep];exact True.intro) hs ⟨qo,hq⟩ ⟨by show 1<=sizeLine;decide,hd,_,KT.keeps (H:=H2) (xs:=[(ks,b,r)]) (.cons ⟨rfl,eb,rz⟩ .nil) fun c ys ec=> ?_,qo,es,epp,hq,h2,h3,by rw[h4];rfl,by simp⟩
 rw[zah (zjH ec ep (fun z=>nomatch z))]
 exact ec
end
noncomputable def grAt (sh:List Int)(at_:Nat):List Int:=sh.take at_++[sh.getD at_ 0+1]++sh.drop (at_+1)
noncomputable def grOk (sh:List Int)(at_:Nat):Bool:=at_==0||decide (sh.getD (at_-1) 0>sh.getD at_ 0)
noncomputable def grTo (sh:List Int)(i:Nat):List (List Int):=(sh++[1])::((List.range i).filter (grOk sh)).map (grAt sh)
noncomputable def za9 (sh:List Int):List (List Int):=grTo sh sh.length
theorem zfj (sh:List Int)(i:Nat):grTo sh (i+1)=grTo sh i++if grOk sh i then [grAt sh i] else []:=by
 unfold grTo
 rw[List.range_succ,List.filter_append,List.map_append,List.cons_append]
 cases h:grOk sh i<;>simp[h]
theorem zg2 (sh:List Int)(i:Nat):(grTo sh i).length<=i+1:=by
 unfold grTo
 rw[List.length_cons,List.length_map]
 have:=List.length_filter_le (grOk sh) (List.range i)
 rw[List.length_range] at this
 (first|lia|omega)
noncomputable abbrev ShD:=List (List Int×Int)
noncomputable def putS (d:ShD)(k:List Int)(v:Int):ShD:=if d.any (fun kv=>kv.1==k) then d.map fun kv=>if kv.1==k then (kv.1,v) else kv else d++[(k,v)]
noncomputable def getS (d:ShD)(k:List Int):Int:=((d.find? fun kv=>kv.1==k).map (·.2)).getD 0
noncomputable def addS (w:Int)(d:ShD)(k:List Int):ShD:=putS d k (getS d k+w)
noncomputable def zga (d:ShD)(sw:List Int×Int):ShD:=(za9 sw.1).foldl (addS sw.2) d
noncomputable def znB (d:ShD):ShD:=d.foldl zga []
noncomputable def zaT:Nat->ShD
 |0=>[([],1)]
 |n+1=>znB (zaT n)
noncomputable def keyI (ks:List Int):List Key:=ks.map Sum.inl
noncomputable def dV (d:ShD):List (List Key×V):=d.map fun kv=>(keyI kv.1,V.int kv.2)
theorem zg3 (ks:List Int):(keyI ks).map kV=ks.map V.int:=by
 unfold keyI
 rw[List.map_map]
 rfl
theorem zg4 {a b:List Int}(h:keyI a=keyI b):a=b:=by
 have:=congrArg (List.map fun k:Key=>match k with| .inl i=>i| .inr _=>0) h
 simpa [keyI,List.map_map,Function.comp_def] using this
theorem zg5 (a b:List Int):decide (keyI a=keyI b)=(a==b):=by
 by_cases h:a=b
 ·subst h;simp
 ·rw [decide_eq_false (fun e=>h (zg4 e))]
  exact (beq_eq_false_iff_ne.mpr h).symm
theorem zmU (d:ShD)(k:List Int):(valV (dV d) (keyI k)).getD (.int 0)=.int (getS d k):=by
 unfold valV dV getS
 rw[List.find?_map,Option.map_map]
 have e:((fun kv:List Key×V=>decide (kv.1=keyI k))∘fun kv:List Int×Int=>(keyI kv.1,V.int kv.2))=fun kv=>kv.1==k:=funext fun kv=>zg5 kv.1 k
 rw[e]
 cases d.find? fun kv=>kv.1==k<;>rfl
theorem zmV (d:ShD)(k:List Int)(v:Int):putK (dV d) (keyI k) (.int v)=dV (putS d k v):=by
 unfold putK putS dV
 rw[List.any_map]
 have e:((fun kv:List Key×V=>decide (kv.1=keyI k))∘fun kv:List Int×Int=>(keyI kv.1,V.int kv.2))=fun kv=>kv.1==k:=funext fun kv=>zg5 kv.1 k
 rw[e]
 cases h:d.any fun kv=>kv.1==k
 ·simp
 ·simp only[if_true,List.map_map]
  refine List.map_congr_left fun kv _=> ?_
  show (if keyI kv.1=keyI k then _ else _)=_
  by_cases c:kv.1=k
  ·rw [if_pos (by rw[c])]
   simp[c]
  ·rw [if_neg (fun e=>c (zg4 e))]
   simp[c]
theorem zkl (d:ShD)(k:List Int)(v:Int):(putS d k v).length<=d.length+1:=by
 unfold putS
 split<;>simp
theorem zkm {H:Hp}{a:Addr}{kvs:List (List Key×V)}{o:HO}(h:H a=some (.dT kvs)):SameT H (upd H a o):=fun b zs e=>by
 rw[zah (fun z=>by rw[z,h] at e;cases e)]
 exact e
theorem zlR (ns:List Int)(k:Nat)(h:k<=ns.length):cutV (ns.map V.int) none (some (k:Int))=(ns.take k).map V.int:=by
 unfold cutV
 rw[HT.sIx_none,HT.sIx_nat,List.drop_zero,Nat.sub_zero,zai,Nat.min_eq_left h,List.map_take]
theorem zkn (sh:List Int)(i:Nat)(x:Int)(h:sh.getD i 0=x):((sh.take i).map V.int++[V.int (x+1)])++(sh.drop (i+1)).map V.int=(grAt sh i).map V.int:=by
 unfold grAt
 rw[h,List.map_append,List.map_append]
 rfl
noncomputable def zgb:Sp:=fun vs H Q _=>∃(a:Addr) (sh:List Int),vs=[.ref a]/\H a=some (.tup (sh.map V.int))/\sh.length<=20/\∀(l:Addr) (zs:List Addr) (H':Hp),Same H H'->H' l=some (.lst (zs.map V.ref))->RowsAt H' zs (za9 sh)->Q (.ref l) H'
structure IsSh (sh:List Int) (n:Nat):Prop where
 fall:sh.Pairwise (fun a b=>b<=a)
 pos:∀x∈sh,1<=x
 sum:sh.sum=(n:Int)
theorem zfk {sh:List Int}(h:∀x∈sh,1<=x):(sh.length:Int)<=sh.sum:=by
 induction sh with
 |nil=>simp
 |cons x l ih=>
  have h1:=h x List.mem_cons_self
  have h2:=ih fun y hy=>h y (List.mem_cons_of_mem _ hy)
  rw[List.sum_cons,List.length_cons]
  (first|lia|omega)
noncomputable def shFy:Nat->Nat->Nat->List (List Int)
 |0,n,_=>if n=0 then [[]] else []
 |f+1,n,m=>if n=0 then [[]] else (List.range (min n m)).flatMap fun k=>(shFy f (n-(k+1)) (k+1)).map fun r=>((k+1:Nat):Int)::r
theorem zjc (f n m:Nat):shFy (f+1) n m=if n=0 then [[]] else (List.range (min n m)).flatMap fun k=>(shFy f (n-(k+1)) (k+1)).map fun r=>((k+1:Nat):Int)::r:=rfl
theorem zdy {α β:Type}:∀{l:List α} {f g:α->List β},(∀x∈l,f x=g x)->l.flatMap f=l.flatMap g
 |[],_,_,_=>rfl
 |x::l,f,g,h=>by
  rw[List.flatMap_cons,List.flatMap_cons,h x List.mem_cons_self,zdy fun y hy=>h y (List.mem_cons_of_mem _ hy)]
theorem zfl:∀(f n m:Nat),n<=f->shFy (f+1) n m=shFy f n m
 |0,n,m,h=>by
  have:n=0:=by (first|lia|omega)
  subst this
  rfl
 | f+1,n,m,h=>by
  show (if n=0 then _ else _)=(if n=0 then _ else _)
  by_cases c:n=0
  ·rw[if_pos c,if_pos c]
  ·rw [if_neg c,if_neg c]
   refine zdy fun k hk=> ?_
   rw[zfl f _ _ (by (first|lia|omega))]
theorem zjd {n m:Nat}:∀{f:Nat},n<=f->shFy f n m=shFy n n m:=by
 intro f h
 induction f with
 |zero=>
  have:n=0:=by (first|lia|omega)
  subst this
  rfl
 | succ f ih=>
  rcases Nat.lt_or_ge f n with c|c
  ·have:n=f+1:=by (first|lia|omega)
   subst this
   rfl
  ·rw[zfl f n m c,ih c]
noncomputable def shZy (n m:Nat):List (List Int):=shFy n n m
theorem zfm (m:Nat):shZy 0 m=[[]]:=rfl
theorem zje {n:Nat}(m:Nat)(h:n≠0):shZy n m=(List.range (min n m)).flatMap fun k=>(shZy (n-(k+1)) (k+1)).map fun r=>((k+1:Nat):Int)::r:=by
 obtain⟨f,rfl⟩:∃f,n=f+1:=⟨n-1,by (first|lia|omega)⟩
 have e:shZy (f+1) m=(List.range (min (f+1) m)).flatMap fun k=>(shFy f (f+1-(k+1)) (k+1)).map fun r=>((k+1:Nat):Int)::r:=by
  show shFy (f+1) (f+1) m=_
  rw[zjc,if_neg (by (first|lia|omega))]
 rw[e]
 refine zdy fun k hk=> ?_
 rw[zjd (by (first|lia|omega))]
 rfl
theorem zmW:∀(n m:Nat) (sh:List Int),sh∈shZy n m↔IsSh sh n/\∀x∈sh,x<=(m:Int):=by
 intro n
 induction n using Nat.strongRecOn with
 | _ n ih=>
  intro m sh
  by_cases c:n=0
  ·subst c
   rw[zfm,List.mem_singleton]
   constructor
   ·rintro rfl
    exact⟨⟨.nil,(fun _ h=>by cases h),rfl⟩,(fun _ h=>by cases h)⟩
   ·rintro ⟨h,_⟩
    have:=zfk h.pos
    rw[h.sum] at this
    exact List.length_eq_zero_iff.mp (by (first|lia|omega))
  ·rw [zje m c,List.mem_flatMap]
   constructor
   ·rintro ⟨k,hk,hr⟩
    rw[List.mem_range] at hk
    obtain⟨r,hr',rfl⟩:=List.mem_map.mp hr
    obtain⟨h1,h2⟩:=(ih (n-(k+1)) (by (first|lia|omega)) (k+1) r).mp hr'
    refine⟨⟨List.pairwise_cons.mpr ⟨h2,h1.fall⟩,fun x hx=> ?_, ?_⟩,fun x hx=> ?_⟩
    ·rcases List.mem_cons.mp hx with rfl|hx
     ·(first|lia|omega)
     ·exact h1.pos x hx
    ·rw [List.sum_cons,h1.sum]
     (first|lia|omega)
    ·rcases List.mem_cons.mp hx with rfl|hx
     ·(first|lia|omega)
     ·have:=h2 x hx
      (first|lia|omega)
   ·rintro ⟨h1,h2⟩
    cases sh with
    |nil=>
     have:=h1.sum
     simp at this
     (first|lia|omega)
    |cons x r=>
     have hx:=h1.pos x List.mem_cons_self
     have hm:=h2 x List.mem_cons_self
     have hp:∀y∈r,1<=y:=fun y hy=>h1.pos y (List.mem_cons_of_mem _ hy)
     have hs:=h1.sum
     rw[List.sum_cons] at hs
     have hl:=zfk hp
     obtain⟨k,rfl⟩:∃k:Nat,x=((k+1:Nat):Int):=⟨(x-1).toNat,by (first|lia|omega)⟩
     refine⟨k,List.mem_range.mpr (by (first|lia|omega)),List.mem_map.mpr ⟨r, ?_,rfl⟩⟩
     have hf:=List.pairwise_cons.mp h1.fall
     exact (ih (n-(k+1)) (by (first|lia|omega)) (k+1) r).mpr ⟨⟨hf.2,hp,by (first|lia|omega)⟩,hf.1⟩
theorem zjf:∀(n m:Nat),(shZy n m).Pairwise (fun a b=>HT.lexLt a b=true):=by
 intro n
 induction n using Nat.strongRecOn with
 | _ n ih=>
  intro m
  by_cases c:n=0
  ·subst c
   rw[zfm]
   exact List.pairwise_singleton _ _
  ·rw [zje m c,List.pairwise_flatMap]
   refine⟨fun k hk=> ?_, ?_⟩
   ·rw [List.pairwise_map]
    refine (ih (n-(k+1)) (by (first|lia|omega)) (k+1)).imp fun {a b} h=> ?_
    rw[HT.lexLt_cons,if_pos rfl]
    exact h
   ·refine List.pairwise_lt_range.imp fun {a b} hab x hx y hy=> ?_
    obtain⟨r,_,rfl⟩:=List.mem_map.mp hx
    obtain⟨r',_,rfl⟩:=List.mem_map.mp hy
    rw[HT.lexLt_cons,if_neg (by (first|lia|omega))]
    exact decide_eq_true (by (first|lia|omega))
theorem znC (n m:Nat):(shZy n m).Pairwise (fun a b=>HT.lexLt b a=false):=(zjf n m).imp fun {a b} h=>by
 cases e:HT.lexLt b a with
 |false=>rfl
 |true=>
  have:=Srt.lex_trans a b a h e
  rw[Srt.lex_irr] at this
  cases this
theorem znD (n m:Nat):(shZy n m).Nodup:=(zjf n m).imp fun {a b} h e=>by
 subst e
 rw[Srt.lex_irr] at h
 cases h
theorem mem_grown {sh g:List Int}:g∈za9 sh↔g=sh++[1]∨∃i,i<sh.length/\grOk sh i=true/\g=grAt sh i:=by
 unfold za9 grTo
 rw[List.mem_cons,List.mem_map]
 constructor
 ·rintro (h|⟨i,hi,rfl⟩)
  ·exact .inl h
  ·rw [List.mem_filter,List.mem_range] at hi
   exact .inr ⟨i,hi.1,hi.2,rfl⟩
 ·rintro (h|⟨i,h1,h2,rfl⟩)
  ·exact .inl h
  ·exact .inr ⟨i,List.mem_filter.mpr ⟨List.mem_range.mpr h1,h2⟩,rfl⟩
theorem zlS {sh:List Int}(h:sh.Pairwise (fun a b=>b<=a)){i j:Nat}(hij:i<j)(hj:j<sh.length):sh.getD j 0<=sh.getD i 0:=by
 have:=List.pairwise_iff_getElem.mp h i j (by (first|lia|omega)) hj hij
 rw[List.getD_eq_getElem?_getD,List.getD_eq_getElem?_getD,List.getElem?_eq_getElem hj,List.getElem?_eq_getElem (by (first|lia|omega))]
 exact this
theorem zko {sh g:List Int}{n:Nat}(h:IsSh sh n)(hg:g∈za9 sh):IsSh g (n+1):=by
 rcases mem_grown.mp hg with rfl|⟨i,hi,ho,rfl⟩
 ·refine ⟨List.pairwise_append.mpr ⟨h.fall,List.pairwise_singleton _ _,fun a ha b hb=> ?_⟩,fun x hx=> ?_, ?_⟩
  ·rw [List.mem_singleton.mp hb]
   exact h.pos a ha
  ·rcases List.mem_append.mp hx with hx|hx
   ·exact h.pos x hx
   ·rw [List.mem_singleton.mp hx]
    decide
  ·rw [List.sum_append,h.sum]
   simp
 ·have hat:sh.getD i 0=sh[i]:=by rw[List.getD_eq_getElem?_getD,List.getElem?_eq_getElem hi];rfl
  have hsplit:sh=sh.take i++sh[i]::sh.drop (i+1):=by rw[<-List.drop_eq_getElem_cons hi,List.take_append_drop]
  have hb:∀a∈sh.take i,sh.getD i 0+1<=a:=fun a ha=>by
   obtain⟨j,hj⟩:=List.getElem?_of_mem ha
   rw[List.getElem?_take] at hj
   split at hj
   ·rename_i hji
    have hja:sh.getD j 0=a:=by rw[List.getD_eq_getElem?_getD,hj];rfl
    unfold grOk at ho
    simp only[Bool.or_eq_true,beq_iff_eq,decide_eq_true_eq] at ho
    rcases ho with ho|ho
    ·(first|lia|omega)
    ·rcases Nat.lt_or_ge j (i-1) with c|c
     ·have:=zlS h.fall c (by (first|lia|omega):i-1<sh.length)
      (first|lia|omega)
     ·have:j=i-1:=by (first|lia|omega)
      subst this
      (first|lia|omega)
   ·cases hj
  have hfs:=h.fall
  rw[hsplit] at hfs
  obtain⟨p1,p2,p3⟩:=List.pairwise_append.mp hfs
  obtain⟨p4,p5⟩:=List.pairwise_cons.mp p2
  have hx1:=h.pos _ (List.getElem_mem hi)
  unfold grAt
  rw[hat] at hb ⊢
  refine⟨?_,fun x hx=> ?_, ?_⟩
  ·rw [List.append_assoc]
   refine List.pairwise_append.mpr ⟨p1,List.pairwise_cons.mpr ⟨fun b hb'=> ?_,p5⟩,fun a ha b hb'=> ?_⟩
   ·have:=p4 b hb'
    (first|lia|omega)
   ·rcases List.mem_cons.mp hb' with rfl|hb'
    ·exact hb a ha
    ·have:=p4 b hb'
     have:=hb a ha
     (first|lia|omega)
  ·rw [List.append_assoc] at hx
   rcases List.mem_append.mp hx with hx|hx
   ·exact h.pos x (List.mem_of_mem_take hx)
   ·rcases List.mem_cons.mp hx with rfl|hx
    ·(first|lia|omega)
    ·exact h.pos x (List.mem_of_mem_drop hx)
  ·have hs:=h.sum
   rw[hsplit,List.sum_append,List.sum_cons] at hs
   rw[List.sum_append,List.sum_append]
   simp only[List.sum_cons,List.sum_nil]
   (first|lia|omega)
theorem zkp {sh:List Int}{n:Nat}(h:IsSh sh (n+1)):∃sh',IsSh sh' n/\sh∈za9 sh':=by
 have hne:sh≠[]:=fun e=>by
  subst e
  have:=h.sum
  simp at this
  (first|lia|omega)
 obtain⟨ini,x,rfl⟩:∃ini x,sh=ini++[x]:=⟨sh.dropLast,sh.getLast hne,(List.dropLast_concat_getLast hne).symm⟩
 obtain⟨p1,_,p3⟩:=List.pairwise_append.mp h.fall
 have hx:=h.pos x (by simp)
 have hs:=h.sum
 rw[List.sum_append] at hs
 simp only[List.sum_cons,List.sum_nil] at hs
 have hp:∀y∈ini,1<=y:=fun y hy=>h.pos y (List.mem_append_left _ hy)
 by_cases c:x=1
 ·subst c
  exact⟨ini,⟨p1,hp,by (first|lia|omega)⟩,mem_grown.mpr (.inl rfl)⟩
 ·refine ⟨ini++[x-1],⟨List.pairwise_append.mpr ⟨p1,List.pairwise_singleton _ _,fun a ha b hb=> ?_⟩,fun y hy=> ?_, ?_⟩,mem_grown.mpr (.inr ⟨ini.length,by simp, ?_, ?_⟩)⟩
  ·have:=p3 a ha x (by simp)
   rw[List.mem_singleton.mp hb]
   (first|lia|omega)
  ·rcases List.mem_append.mp hy with hy|hy
   ·exact hp y hy
   ·rw [List.mem_singleton.mp hy]
    (first|lia|omega)
  ·rw [List.sum_append]
   simp only[List.sum_cons,List.sum_nil]
   (first|lia|omega)
  ·unfold grOk
   rcases Nat.eq_zero_or_pos ini.length with e|e
   ·rw [e]
    rfl
   ·have hl:ini.length-1<ini.length:=by (first|lia|omega)
    have e1:(ini++[x-1]).getD (ini.length-1) 0=ini[ini.length-1]:=by
     rw[List.getD_eq_getElem?_getD,List.getElem?_append_left hl,List.getElem?_eq_getElem hl]
     rfl
    have e2:(ini++[x-1]).getD ini.length 0=x-1:=by simp
    rw[e1,e2,Bool.or_eq_true]
    have:=p3 _ (List.getElem_mem hl) x (by simp)
    exact .inr (decide_eq_true (by (first|lia|omega)))
  ·unfold grAt
   have e2:(ini++[x-1]).getD ini.length 0=x-1:=by simp
   rw[e2]
   simp
theorem zmX (d:ShD)(k:List Int)(v:Int):(putS d k v).map (·.1)=if k∈d.map (·.1) then d.map (·.1) else d.map (·.1)++[k]:=by
 have e:d.any (fun kv=>kv.1==k)=decide (k∈d.map (·.1)):=by
  rw[Bool.eq_iff_iff]
  simp
 unfold putS
 rw[e]
 by_cases c:k∈d.map (·.1)
 ·rw [if_pos (decide_eq_true c),if_pos c,List.map_map]
  refine List.map_congr_left fun kv _=> ?_
  show (if (kv.1==k)=true then (kv.1,v) else kv).1=kv.1
  split<;>rfl
 ·rw [if_neg (by simpa using c),if_neg c,List.map_append]
  rfl
theorem zkW (w:Int):∀(gs:List (List Int)) (d:ShD),(d.map (·.1)).Nodup->(((gs.foldl (addS w) d).map (·.1)).Nodup/\∀k,k∈(gs.foldl (addS w) d).map (·.1)↔k∈d.map (·.1)∨k∈gs)
 |[],d,h=>⟨h,fun k=>by simp⟩
 | g::gs,d,h=>by
  have hk:((addS w d g).map (·.1))=if g∈d.map (·.1) then d.map (·.1) else d.map (·.1)++[g]:=zmX d g _
  have hn:((addS w d g).map (·.1)).Nodup:=by
   rw[hk]
   split
   ·exact h
   ·rename_i c
    exact List.nodup_append.mpr ⟨h,by simp,fun a ha b hb e=>c (by rw[List.mem_singleton.mp hb] at e;rw[<-e];exact ha)⟩
  obtain⟨h1,h2⟩:=zkW w gs _ hn
  refine⟨h1,fun k=> ?_⟩
  rw[List.foldl_cons,h2 k,hk,List.mem_cons]
  split
  ·rename_i c
   constructor
   ·rintro (a|a)
    ·exact .inl a
    ·exact .inr (.inr a)
   ·rintro (a|rfl|a)
    ·exact .inl a
    ·exact .inl c
    ·exact .inr a
  ·rw[List.mem_append,List.mem_singleton,or_assoc]
theorem zjg:∀(l:ShD) (d:ShD),(d.map (·.1)).Nodup->(((l.foldl zga d).map (·.1)).Nodup/\∀k,k∈(l.foldl zga d).map (·.1)↔k∈d.map (·.1)∨∃sw∈l,k∈za9 sw.1)
 |[],d,h=>⟨h,fun k=>by simp⟩
 |sw::l,d,h=>by
  obtain⟨a1,a2⟩:=zkW sw.2 (za9 sw.1) d h
  obtain⟨h1,h2⟩:=zjg l (zga d sw) a1
  refine⟨h1,fun k=> ?_⟩
  rw[List.foldl_cons,h2 k]
  have a3:k∈(zga d sw).map (·.1)↔_:=a2 k
  rw[a3,or_assoc]
  simp
theorem zcE:∀n,((zaT n).map (·.1)).Nodup/\∀k,k∈(zaT n).map (·.1)↔IsSh k n
 | 0=>by
  refine⟨by simp[zaT],fun k=> ?_⟩
  show k∈[([]:List Int)]↔_
  rw[List.mem_singleton]
  constructor
  ·rintro rfl
   exact⟨.nil,(fun _ h=>by cases h),rfl⟩
  ·intro h
   have:=zfk h.pos
   rw[h.sum] at this
   exact List.length_eq_zero_iff.mp (by (first|lia|omega))
 | n+1=>by
  obtain⟨i1,i2⟩:=zcE n
  have e:zaT (n+1)=(zaT n).foldl zga []:=rfl
  rw[e]
  obtain⟨h1,h2⟩:=zjg (zaT n) [] (by simp)
  refine⟨h1,fun k=> ?_⟩
  rw[h2 k]
  constructor
  ·rintro (h|⟨sw,hs,hk⟩)
   ·cases h
   ·exact zko ((i2 _).mp (List.mem_map_of_mem hs)) hk
  ·intro h
   obtain⟨sh',a,b⟩:=zkp h
   obtain⟨sw,hs,rfl⟩:=List.mem_map.mp ((i2 _).mpr a)
   exact .inr ⟨sw,hs,b⟩
theorem zdz (n:Nat):((zaT n).map (·.1)).Perm (shZy n n):=by
 obtain⟨h1,h2⟩:=zcE n
 refine (List.perm_ext_iff_of_nodup h1 (znD n n)).mpr fun k=> ?_
 rw[h2 k,zmW]
 refine⟨fun h=>⟨h,fun x hx=> ?_⟩,fun h=>h.1⟩
 have:∀(l:List Int),(∀y∈l,1<=y)->∀x∈l,x<=l.sum:=by
  intro l
  induction l with
  |nil=>exact fun _ x hx=>by cases hx
  | cons y l ih=>
   intro hp x hx
   have hl:=zfk fun z hz=>hp z (List.mem_cons_of_mem _ hz)
   have hy:=hp y List.mem_cons_self
   rw[List.sum_cons]
   rcases List.mem_cons.mp hx with rfl|hx
   ·(first|lia|omega)
   ·have:=ih (fun z hz=>hp z (List.mem_cons_of_mem _ hz)) x hx
    (first|lia|omega)
 have:=this k h.pos x hx
 rw[h.sum] at this
 exact this
noncomputable def ndB:Nat->List Int->Bool
 |_,[]=>true
 |_,[_]=>true
 |0,_=>false
 |k+1,l=>ndB k (l.filter fun x=>(x.natAbs >>> k)%2==0)&&ndB k (l.filter fun x=> !((x.natAbs >>> k)%2==0))
theorem zlT {l:List Int}(p:Int->Bool)(h1:(l.filter p).Nodup)(h2:(l.filter fun x=> !p x).Nodup):l.Nodup:=by
 refine (List.filter_append_perm p l).nodup_iff.mp (List.nodup_append.mpr ⟨h1,h2,fun a ha b hb e=> ?_⟩)
 have e1:=(List.mem_filter.mp ha).2
 have e2:=(List.mem_filter.mp hb).2
 rw[e] at e1
 rw[e1] at e2
 cases e2
theorem zjh:∀(k:Nat) (l:List Int),ndB k l=true->l.Nodup
 |_,[],_=>.nil
 |_,[_],_=>by simp
 |0,_::_::_,h=>by cases h
 |k+1,x::y::l,h=>by
  have h':(ndB k ((x::y::l).filter fun x=>(x.natAbs >>> k)%2==0)&&ndB k ((x::y::l).filter fun x=> !((x.natAbs >>> k)%2==0)))=true:=h
  rw[Bool.and_eq_true] at h'
  exact zlT _ (zjh k _ h'.1) (zjh k _ h'.2)
set_option maxHeartbeats 0 in
set_option maxRecDepth 1000000 in
theorem zji:∀n,n<21->(shZy n n).length<=627/\ndB 30 ((shZy n n).map St.hT)=true:=by decide+kernel
theorem zmY (n:Nat)(h:n<21):(shZy n n).length<=627/\((shZy n n).map St.hT).Nodup:=⟨(zji n h).1,zjh _ _ (zji n h).2⟩
theorem zjj {n:Nat}(h:n<=20):(zaT n).length<=627/\∀kv∈zaT n,kv.1.length<=20:=by
 refine⟨?_,fun kv hk=> ?_⟩
 ·rw [<-List.length_map (f:=fun kv:List Int×Int=>kv.1),(zdz n).length_eq]
  exact (zmY n (by (first|lia|omega))).1
 ·have hs:=((zcE n).2 kv.1).mp (List.mem_map_of_mem hk)
  have:=zfk hs.pos
  rw[hs.sum] at this
  (first|lia|omega)
noncomputable def zes:Sp:=fun vs H Q _=>∃n:Nat,vs=[.int n]/\n<=20/\∀(d:Addr) (H':Hp),Same H H'->H d=none->H' d=some (.dT (dV (zaT n)))->Q (.ref d) H'
noncomputable def zda:Sp:=fun vs H Q _=>∃n:Nat,vs=[.int n]/\n<=20/\∀p zs H',Same H H'->H' p=some (.tup (zs.map V.ref))->RowsAt H' zs (shZy n n)->Q (.ref p) H'
structure TopS (mg:Str->Option Value):Prop where
 n_set:mg "set" =none
structure TopSK (K:PySem.W.Frag):Prop where
 k_set:PySem.W.nsIn K mainGlobals "set" =some none
end L2
namespace K88
open PySem PySem.Spec PyProof.Rows L2
section
variable {P:Program}{w:World}{K:PySem.W.Frag}{mg:Str->Option Value}{base:Heap}
noncomputable abbrev zbE:Stmt:=top 25
noncomputable abbrev zbn:Stmt:=top 26
theorem sc_fillings_of:FnScope ["many", "fillings", "size", "larger", "shape", "ways", "grown"] ["many"] (zaf zbE):=⟨rfl,rfl,rfl,by decide+kernel,rfl,by decide+kernel,by decide+kernel⟩
theorem sc_shapes_grown:FnScope ["shape", "grown", "at", "length"] ["shape"] (zaf zbn):=⟨rfl,rfl,rfl,by decide+kernel,rfl,by decide+kernel,by decide+kernel⟩
set_option maxHeartbeats 4000000 in
theorem zdA {f:Addr}{fd:FuncData}(F:Fun K "shapes_grown" "shapes_grown" zbn f fd)(T:Top mg):FnOk P w K mg base CX0 1 f fd ["shape"] zgb:=by
 refine F.ok sc_shapes_grown (fun vs H Q E h=> ?_) (fun cdv A outer s H vs Q E hr h=> ?_)
 ·obtain ⟨a,sh,rfl,_⟩:=h
  rfl
 ·obtain ⟨a,sh,rfl,ha,hl,k⟩:=h
  refine⟨_,(zae (zam (i:=1) sc_shapes_grown.nd rfl (Or.inl rfl) (zaU (zaa (zaw zd3 (pv 0) (zdf (zaa zaj zad))) zad)))
   (zae (zaI PassesOwn.never rfl (zcX rfl T.n_enumerate (zaa (pv 0) zad)) (zca (i:=2) (j:=3) rfl sc_shapes_grown.nd rfl rfl (Or.inl rfl) (Or.inl rfl) (Or.inl rfl) (Or.inl rfl))
    (zag (zbp (PW.pt (zmc (zax zdX (pv 2) zaj (zaB _)) (zkA (zax zia (zaX zih (pv 0) (zaw zcs (pv 2) zaj) (fun _ _=>rfl)) (pv 3) (zaB _)))))
     (zag (za5 (zdh PySem.F.plainAttrs_list PySem.F.slot_list_append PySem.F.type_list_append zaJ (pv 1) (zaa (zaw zd3 (zaw zd3 (zbX zfM (pv 0) zbJ (zb8 (pv 2))) (zdf (zaa (zaw zbb (pv 3) zaj) zad))) (zbX zfM (pv 0) (zb8 (zaw zbb (pv 2) zaj)) zbJ)) zad))))
     zaH)))
   (zag (zas (pv 1))))), ?_⟩
  refine⟨_,rfl,by show 1<=sizeLine;decide,fun t1 ht1=> ?_⟩
  have s1:=zac (o:=.tup [.int 1]) ht1
  refine⟨a,t1,_,_,rfl,rfl,s1 _ _ ha,zab, ?_,fun p0 G0 s0 hp0=> ?_⟩
  ·rw [zai]
   exact Nat.le_trans (by show sh.length+1<=30;(first|lia|omega)) (by decide)
  refine⟨by show 1<=sizeLine;decide,fun L hL=> ?_⟩
  have sL:=zac (o:=.lst [.ref p0]) hL
  have S0:=(s1.trans s0).trans sL
  have hL0:H L=none:=(s1.trans s0).free hL
  refine⟨_,rfl,a,rfl,⟨_,SqT.of (S0 _ _ ha)⟩, ?_⟩
  refine zc1 (K:=K) (xs:=sh.map V.int) (fun i σ G=>∃(c2 c3:Option V) (zs:List Addr),σ=[some (.ref a),some (.ref L),c2,c3]/\Same H G/\G L=some (.lst (zs.map V.ref))/\RowsAt G zs (grTo sh i)) ?_ ?_ ?_ ?_
  ·refine ⟨none,none,[p0],rfl,S0,zab,.cons (sL _ _ ?_) .nil⟩
   rw[hp0,List.map_append]
   rfl
  ·rintro i σ G _ ⟨c2,c3,zs,rfl,sG,_⟩
   exact SqT.of (sG _ _ ha)
  ·rintro i x t σ G hx ⟨c2,c3,zs,rfl,sG,hG,R⟩ ht
   have hi:i<sh.length:=by
    have:=(List.getElem?_eq_some_iff.mp hx).1
    rwa [zai] at this
   rw[List.getElem?_map,List.getElem?_eq_getElem hi] at hx
   cases hx
   have st:=zac (o:=.tup [.int (i:Int),.int sh[i]]) ht
   have sT:=sG.trans st
   have hG':=st _ _ hG
   have eg:sh.getD i 0=sh[i]:=by rw[List.getD_eq_getElem?_getD,List.getElem?_eq_getElem hi];rfl
   have hzl:zs.length=(grTo sh i).length:=Paired.length R
   have hgl:=zg2 sh i
   refine⟨t,_,rfl,SqT.of zab,rfl,_,_,rfl,_,_,rfl,rfl, ?_⟩
   have fin:∀(p:Addr) (G2:Hp),Same (upd G t (.tup [.int (i:Int),.int sh[i]])) G2->G2 p=some (.tup ((grAt sh i).map V.int))->grOk sh i=true->Same H (upd G2 L (.lst (zs.map V.ref++[.ref p])))/\(upd G2 L (.lst (zs.map V.ref++[.ref p]))) L=some (.lst ((zs++[p]).map V.ref))/\RowsAt (upd G2 L (.lst (zs.map V.ref++[.ref p]))) (zs++[p]) (grTo sh (i+1)):=by
    intro p G2 s2 hp hok
    have hf:=zbK (ys:=zs.map V.ref++[.ref p]) (s2 _ _ hG')
    refine⟨zau (sT.trans s2) hL0,by rw[zab,List.map_append];rfl, ?_⟩
    rw[zfj,if_pos hok]
    exact Paired.snoc (((R.same st).same s2).sameT hf) (hf _ _ hp)
   have hdec:decide (V.int (i:Int)=V.int 0)=(i==0):=by
    by_cases h0:i=0
    ·subst h0;rfl
    ·rw [decide_eq_false (fun e=>h0 (by have:=V.int.inj e;(first|lia|omega)))]
     exact (beq_eq_false_iff_ne.mpr h0).symm
   refine⟨_,rfl,rfl,_,rfl, ?_⟩
   rw[hdec]
   have hcase:i=0∨(i≠0/\sh[i]<sh.getD (i-1) 0)∨(i≠0/\¬sh[i]<sh.getD (i-1) 0):=by (first|lia|omega)
   have hix:i≠0->atI (sh.map V.int) ((i:Int)-1)=some (.int (sh.getD (i-1) 0)):=fun h0=>by
    have:=zfF (ys:=sh) (i:=(i:Int)-1) (by (first|lia|omega)) (by (first|lia|omega))
    rwa [show ((i:Int)-1).toNat=i-1 by (first|lia|omega)] at this
   rcases hcase with h0|⟨h0,h1⟩|⟨h0,h1⟩
   case' inl=>
    have hok:grOk sh i=true:=by unfold grOk;simp[h0]
    rw[beq_iff_eq.mpr h0]
    refine iteT (iteT ?_)
   case' inr.inl=>
    have hok:grOk sh i=true:=by unfold grOk;rw[eg,decide_eq_true h1];simp
    rw[beq_eq_false_iff_ne.mpr h0]
    refine iteF ?_
    refine⟨_,rfl,_,rfl,_,_,rfl,rfl,a,_,_,_,rfl,rfl,SqT.of (sT _ _ ha),hix h0,_,rfl,_,_,rfl,rfl,_,rfl, ?_⟩
    rw[decide_eq_true h1]
    refine iteT ?_
   case inr.inr=>
    have hok:grOk sh i=false:=by unfold grOk;rw[eg,decide_eq_false h1,beq_eq_false_iff_ne.mpr h0];rfl
    rw[beq_eq_false_iff_ne.mpr h0]
    refine iteF ?_
    refine⟨_,rfl,_,rfl,_,_,rfl,rfl,a,_,_,_,rfl,rfl,SqT.of (sT _ _ ha),hix h0,_,rfl,_,_,rfl,rfl,_,rfl, ?_⟩
    rw[decide_eq_false h1]
    refine iteF ?_
    refine⟨_,_,zs,rfl,sT,hG', ?_⟩
    rw[zfj,hok]
    rw[if_neg Bool.false_ne_true,List.append_nil]
    exact R.same st
   all_goals
    refine⟨_,rfl,.inl ⟨rfl,_,SqL.of hG'⟩, ?_⟩
    refine⟨_,rfl,_,rfl,_,rfl,a,_,rfl,sT _ _ ha,fun q1 G1 g1 hq1=> ?_⟩
    rw[zlR _ _ (by (first|lia|omega))] at hq1
    refine⟨_,rfl,_,_,rfl,rfl,by show 1<=sizeLine;decide,fun q2 hq2=> ?_⟩
    have g2:=zac (o:=.tup [.int (sh[i]+1)]) hq2
    refine⟨q1,q2,_,_,rfl,rfl,g2 _ _ hq1,zab, ?_,fun q3 G3 g3 hq3=> ?_⟩
    ·exact Nat.le_trans (by rw[zai,List.length_take];show min _ _+1<=30;(first|lia|omega)) (by decide)
    have g13:=(g1.trans g2).trans g3
    refine⟨_,rfl,_,rfl,_,_,rfl,rfl,_,rfl,a,_,rfl,g13 _ _ (sT _ _ ha),fun q4 G4 g4 hq4=> ?_⟩
    rw[show ((i:Int)+1)=((i+1:Nat):Int) by (first|lia|omega),zeV] at hq4
    refine⟨q3,q4,_,_,rfl,rfl,g4 _ _ hq3,hq4, ?_,fun q5 G5 g5 hq5=> ?_⟩
    ·exact Nat.le_trans (by rw[List.length_append,zai,zai,List.length_take,List.length_drop];show min _ _+1+_<=60;(first|lia|omega)) (by decide)
    rw[zkn sh i _ eg] at hq5
    have g15:=(g13.trans g4).trans g5
    obtain⟨f1,f2,f3⟩:=fin q5 G5 g15 hq5 hok
    refine⟨L,_,_,rfl,rfl,g15 _ _ hG',zaR (by rw[zcy];(first|lia|omega)), ?_⟩
    exact⟨_,_,zs++[q5],rfl,f1,f2,f3⟩
  ·rintro σ G ⟨c2,c3,zs,rfl,sG,hG,R⟩
   refine⟨_,rfl,k L zs G sG hG ?_⟩
   rw[zai] at R
   exact R
set_option maxHeartbeats 4000000 in
theorem zdE {f:Addr}{fd:FuncData}(F:Fun K "fillings_of" "fillings_of" zbE f fd)(T:Top mg)(Cshapes_grown:Cal P w K mg base 1 "shapes_grown" ["shape"] zgb):FnOk P w K mg base CX0 2 f fd ["many"] zes:=by
 refine F.ok sc_fillings_of (fun vs H Q E h=> ?_) (fun cdv A outer s H vs Q E hr h=> ?_)
 ·obtain ⟨n,rfl,_⟩:=h
  rfl
 ·obtain ⟨n,rfl,hn,k⟩:=h
  have hu1:=znp hr
  refine⟨_,(zae (zam (i:=1) sc_fillings_of.nd rfl (Or.inl rfl) (zjb hu1 (zdf zad) zaj))
   (zae (zaI PassesOwn.never rfl (za6 rfl T.n_range (zaa (pv 0) zad)) (zal (i:=2) sc_fillings_of.nd rfl (Or.inl rfl))
    (zae (zam (i:=3) sc_fillings_of.nd rfl (Or.inl rfl) zjY)
    (zae (zaI PassesOwn.never rfl (zka (pv 1)) (zca (i:=4) (j:=5) rfl sc_fillings_of.nd rfl rfl (Or.inl rfl) (Or.inl rfl) (Or.inl rfl) (Or.inl rfl))
     (zag (zaI PassesOwn.never rfl (za1 (zan Cshapes_grown (hr.mono (by decide)) rfl (zaa (pv 4) zad))) (zal (i:=6) sc_fillings_of.nd rfl (Or.inl rfl))
      (zag (zlx hu1 (pv 3) (pv 6) (zaw zbb (zjZ hu1 (pv 3) (pv 6) zaj ⟨rfl,rfl,rfl,rfl⟩) (pv 5)) rfl)))))
    (zag (zam (i:=1) sc_fillings_of.nd rfl (Or.inl rfl) (pv 3))))))
   (zag (zas (pv 1))))), ?_⟩
  refine fun F0 hF0=>⟨Nat.zero_le _,fun t0 ht0=>⟨t0,keyI [],rfl,zab, ?_, ?_⟩⟩
  ·rw[zah (fun z=>by rw[z,zab] at ht0;cases ht0),zab]
  have hF00:(upd (upd (upd H F0 (.dT [])) t0 (.tup [])) F0 (.dT [(keyI [],.int 1)])) F0=some (.dT (dV (zaT 0))):=zab
  have sF0:Same H (upd (upd (upd H F0 (.dT [])) t0 (.tup [])) F0 (.dT [(keyI [],.int 1)])):=zau ((zac hF0).trans (zac ht0)) hF0
  generalize (upd (upd (upd H F0 (.dT [])) t0 (.tup [])) F0 (.dT [(keyI [],.int 1)]))=C0 at hF00 sF0 ⊢
  refine⟨_,rfl,_,rfl,by (first|lia|omega),by (first|lia|omega), ?_⟩
  rw[Int.toNat_natCast]
  refine za7 (n:=n) (fun i σ G=>∃(Fd:Addr) (c2 c3 c4 c5 c6:Option V),σ=[some (.int n),some (.ref Fd),c2,c3,c4,c5,c6]/\Same H G/\H Fd=none/\G Fd=some (.dT (dV (zaT i)))) ?_ ?_ ?_
  ·exact⟨F0,none,none,none,none,none,rfl,sF0,hF0,hF00⟩
  ·rintro i σ G hi ⟨Fd,c2,c3,c4,c5,c6,rfl,sG,hFd,hG⟩
   obtain⟨fl,fk⟩:=zjj (n:=i) (by (first|lia|omega))
   refine fun L hL=> ?_
   have hL0:H L=none:=sG.free hL
   have hLF:Fd≠L:=fun z=>by rw[z,hL] at hG;cases hG
   have sL:=zac (o:=.dT []) hL
   refine⟨_,rfl,Fd,_,rfl,sL _ _ hG,fun ob=> ?_⟩
   refine ziQ (kvs:=dV (zaT i)) (fun j σ G'=>∃(c4 c5 c6:Option V) (D:ShD),σ=[some (.int n),some (.ref Fd),some (.int (0+(i:Int))),some (.ref L),c4,c5,c6]/\Same H G'/\G' Fd=some (.frz ob (.dT (dV (zaT i))))/\G' L=some (.dT (dV D))/\D=((zaT i).take j).foldl zga []/\D.length<=21*j) ?_ ?_ ?_ ?_
   ·refine ⟨_,_,_,[],rfl,zau (sG.trans sL) hFd,zab, ?_,rfl,Nat.le_refl _⟩
    rw[zah (Ne.symm hLF),zab]
    rfl
   ·rintro j σ G' _ ⟨c4,c5,c6,D,rfl,_,h,_⟩
    exact h
   ·rintro j kk vv t b σ G' hx ⟨c4,c5,c6,D,rfl,sG',hF',hL',hD,hDl⟩ ht hb
    have hj:j<(zaT i).length:=by
     have:=(List.getElem?_eq_some_iff.mp hx).1
     unfold dV at this
     rwa [List.length_map] at this
    have hxx:(zaT i)[j]? =some (zaT i)[j]:=List.getElem?_eq_getElem hj
    have htk:(zaT i).take (j+1)=(zaT i).take j++[(zaT i)[j]]:=by rw[List.take_succ,hxx];rfl
    have hmem:(zaT i)[j]∈zaT i:=List.getElem_mem hj
    unfold dV at hx
    rw[List.getElem?_map,hxx] at hx
    generalize (zaT i)[j]=sw at hx htk hmem
    obtain⟨sh,w⟩:=sw
    cases hx
    have k1:=fk _ hmem
    replace k1:sh.length<=20:=k1
    rw[zg3] at hb
    have st:=zac (o:=.tup [.ref b,.int w]) ht
    refine⟨t,_,rfl,SqT.of zab,rfl,_,_,rfl,_,_,rfl,rfl, ?_⟩
    refine⟨_,rfl,b,sh,rfl,st _ _ hb,k1,fun l zs G3 s3 hl R=>⟨l,rfl,⟨_,SqL.of hl⟩, ?_⟩⟩
    have S3:=st.trans s3
    have hgl:=zg2 sh sh.length
    have hzl:zs.length=(za9 sh).length:=Paired.length R
    refine zbW (K:=K) (a:=l) (xs:=zs.map V.ref) (fun q σ G'=>∃(c6:Option V) (D':ShD),σ=[some (.int n),some (.ref Fd),some (.int (0+(i:Int))),some (.ref L),some (.ref b),some (.int w),c6]/\Same H G'/\G' Fd=some (.frz ob (.dT (dV (zaT i))))/\G' L=some (.dT (dV D'))/\G' l=some (.lst (zs.map V.ref))/\RowsAt G' zs (za9 sh)/\D'=((za9 sh).take q).foldl (addS w) D/\D'.length<=D.length+q) ?_ ?_ ?_ ?_
    ·exact⟨_,D,rfl,(sG'.trans S3),S3 _ _ hF',S3 _ _ hL',hl,R,rfl,Nat.le_refl _⟩
    ·rintro q σ G4 _ ⟨c6,D',rfl,_,_,_,h,_⟩
     exact SqL.of h
    ·rintro q x σ G4 hx ⟨c6,D',rfl,s4,hF4,hL4,hl4,R4,hD',hD'l⟩
     have hq:q<zs.length:=by
      have:=(List.getElem?_eq_some_iff.mp hx).1
      rwa [zcy] at this
     rw[List.getElem?_map] at hx
     obtain⟨z,hz,rfl⟩:=Option.map_eq_some_iff.mp hx
     obtain⟨g,hg,hzg⟩:=R4.get hz
     have htg:(za9 sh).take (q+1)=(za9 sh).take q++[g]:=by rw[List.take_succ,hg];rfl
     have hzg':G4 z=some (.tup ((keyI g).map kV)):=by rw[zg3];exact hzg
     refine⟨_,rfl,L,rfl,.inr ⟨_,.inl hL4⟩,_,rfl,_,DGet.t hL4 hzg', ?_⟩
     rw[zmU]
     refine⟨_,rfl,_,_,rfl,rfl, ?_⟩
     have hlen:(dV D').length<sizeLine:=by
      unfold dV
      rw[List.length_map]
      exact Nat.lt_of_le_of_lt (by unfold za9 at hzl;(first|lia|omega):D'.length<=20000) (by decide)
     refine⟨_,rfl,_,rfl,L,_,rfl,DPut.t hL4 hzg' hlen, ?_⟩
     rw[zmV]
     have hlF:Fd≠L:=hLF
     have hlL:l≠L:=fun z=>by rw[z,hL4] at hl4;cases hl4
     refine⟨_,addS w D' g,rfl,zau s4 hL0,by rw[zah hlF];exact hF4,zab,by rw[zah hlL];exact hl4,R4.sameT (zkm hL4), ?_, ?_⟩
     ·rw [htg,List.foldl_append,<-hD']
      rfl
     ·have:=zkl D' g (getS D' g+w)
      unfold addS
      (first|lia|omega)
    ·rintro σ G4 ⟨c6,D',rfl,s4,hF4,hL4,hl4,R4,hD',hD'l⟩
     rw[zcy] at hD' hD'l
     refine⟨_,_,_,D',rfl,s4,hF4,hL4, ?_, ?_⟩
     ·rw [htk,List.foldl_append,<-hD,hD',hzl,List.take_length]
      rfl
     ·unfold za9 at hzl
      (first|lia|omega)
   ·rintro σ G' ⟨c4,c5,c6,D,rfl,sG',hF',hL',hD,hDl⟩
    refine⟨_,rfl, ?_⟩
    refine⟨L,_,_,_,_,_,rfl,sG',hL0, ?_⟩
    rw[hL',hD]
    unfold dV
    rw[List.length_map,List.take_length]
    rfl
  ·rintro σ G ⟨Fd,c2,c3,c4,c5,c6,rfl,sG,hFd,hG⟩
   exact⟨_,rfl,k Fd G sG hFd hG⟩
end
noncomputable abbrev zet:Stmt:=top 28
section
variable {P:Program}{w:World}{K:PySem.W.Frag}{mg:Str->Option Value}{base:Heap}
theorem zjk:FnScope ["many"] ["many"] (zaf zet):=⟨rfl,rfl,rfl,by decide+kernel,rfl,by decide+kernel,by decide+kernel⟩
theorem zjl {f:Addr}{fd:FuncData}(F:Fun K "shapes" "shapes" zet f fd)(T:Top mg)(Cfillings_of:Cal P w K mg base 2 "fillings_of" ["many"] zes):FnOk P w K mg base CX0 3 f fd ["many"] zda:=by
 refine F.ok zjk (fun vs H Q E h=> ?_) (fun cdv A outer s H vs Q E hr h=> ?_)
 ·obtain ⟨n,rfl,_⟩:=h
  rfl
 ·obtain ⟨n,rfl,hn,k⟩:=h
  refine⟨_,(zag (zas (zao zar (by rfl) T.n_tuple boot_tuple (zaa (zaq (zef rfl) (by rfl) T.n_sorted boot_sorted (zaa (zan Cfillings_of (hr.mono (by decide)) rfl (zaa (pv 0) zad)) zad)) zad)))), ?_⟩
  refine⟨_,rfl,n,rfl,hn,fun d G sG _ hd=> ?_⟩
  have kk:(dV (zaT n)).map (·.1)=((zaT n).map (·.1)).map (fun ns=>ns.map Sum.inl):=by
   unfold dV
   rw[List.map_map,List.map_map]
   rfl
  refine⟨d,dV (zaT n),(zaT n).map (·.1),rfl,hd,kk,fun h2 ns hns=> ?_,fun q ys ks kp kst KR hq=> ?_⟩
  ·have hs:=((zcE n).2 ns).mp hns
   intro e
   subst e
   have h0:=hs.sum
   have:n=0:=by simpa using h0.symm
   subst this
   rw[(zdz 0).length_eq] at h2
   exact absurd h2 (by decide)
  have e:ks=shZy n n:=List.Perm.eq_of_pairwise (le:=fun a b=>HT.lexLt b a=false) (fun a b _ _ e1 e2=>Srt.lex_tot a b e2 e1) kst (znC n n) (kp.trans (zdz n))
  subst e
  have sq:=zac (o:=.lst (ys.map V.ref)) hq
  refine⟨q,_,rfl,.inl ⟨SqL.of zab,fun t ht=> ?_⟩⟩
  have st:=zac (o:=.tup (ys.map V.ref)) ht
  exact k t ys _ ((sG.trans sq).trans st) zab (Paired.mapP KR fun _ _ h=>st _ _ (sq _ _ h))
end
end K88
namespace L2
open PySem PySem.Spec PyProof.Rows
noncomputable def pOf (H:Hp):V->V->Bool:=fun x y=>match x with
 | .ref z=>(match H z with|some (.tup xs)=> !inV y xs|_=>true)
 |_=>true
noncomputable def RBeg (H0:Hp)(xy:V×V)(v:V)(H:Hp):Prop:=∃(z z':Addr) (r:List Int) (n:Int),xy=(.ref z,.int n)/\H0 z=some (.tup (r.map V.int))/\v=.ref z'/\H z'=some (.tup ((r++[n]).map V.int))
theorem Paired.split {α β:Type}{F:α->β->Prop}:∀{l1 l2:List α} {vs:List β},Paired F (l1++l2) vs->∃v1 v2,vs=v1++v2/\Paired F l1 v1/\Paired F l2 v2
 |[],_,vs,h=>⟨[],vs,rfl,.nil,h⟩
 |_::_,_,_,.cons r t=>by
  obtain⟨v1,v2,rfl,h1,h2⟩:=Paired.split t
  exact⟨_::v1,v2,rfl,.cons r h1,h2⟩
theorem zg6 {m:Nat}{H0:Hp}{z:Addr}{r:List Int}(hz:H0 z=some (.tup (r.map V.int))):(zaN 0 m).filter (pOf H0 (.ref z))=(zb7 m r).map V.int:=by
 rw[zbw,List.filter_map]
 congr 1
 unfold zb7
 apply List.filter_congr
 intro x _
 show pOf H0 (.ref z) (.int x)=_
 unfold pOf
 simp only[hz]
 rw[zgH]
 simp
theorem zg7 {H0 H:Hp}{z:Addr}{r:List Int}(hz:H0 z=some (.tup (r.map V.int))):∀{xs:List Int} {vs:List V},Paired (fun xy v=>RBeg H0 xy v H) ((xs.map V.int).map fun y=>(V.ref z,y)) vs->∃zs:List Addr,vs=zs.map V.ref/\RowsAt H zs (xs.map fun x=>r++[x])
 |[],_,.nil=>⟨[],rfl,.nil⟩
 |x::xs,_,.cons p t=>by
  obtain⟨z1,z',r',n,e1,h1,rfl,h2⟩:=p
  obtain⟨zs,rfl,R⟩:=zg7 hz t
  injection e1 with e1 e2
  cases e1
  cases e2
  rw[hz] at h1
  have e3:=zd9 (HO.tup.inj (Option.some.inj h1))
  subst e3
  exact⟨z'::zs,rfl,.cons h2 R⟩
theorem zfn {H0 H:Hp}{m:Nat}:∀{zs:List Addr} {rows:List (List Int)} {vs:List V},RowsAt H0 zs rows->Paired (fun xy v=>RBeg H0 xy v H) (zaL (zs.map V.ref) (fun _=>zaN 0 m) (pOf H0)) vs->∃zs':List Addr,vs=zs'.map V.ref/\RowsAt H zs' (zce m rows)
 |_,_,_,.nil,h=>by
  cases h
  exact⟨[],rfl,.nil⟩
 |_,_,_,.cons (l₁:=zs) (l₂:=rows) r t,h=>by
  have e:∀z:Addr,zaL ((z::zs).map V.ref) (fun _=>zaN 0 m) (pOf H0)=(((zaN 0 m).filter (pOf H0 (.ref z))).map fun y=>(V.ref z,y))++zaL (zs.map V.ref) (fun _=>zaN 0 m) (pOf H0):=fun z=>by simp[zaL]
  rw[e,zg6 r] at h
  obtain⟨v1,v2,rfl,h1,h2⟩:=Paired.split h
  obtain⟨z1,rfl,R1⟩:=zg7 r h1
  obtain⟨z2,rfl,R2⟩:=zfn t h2
  refine⟨z1++z2,by rw[List.map_append], ?_⟩
  have e2:∀b,zce m (b::rows)=((zb7 m b).map fun x=>b++[x])++zce m rows:=fun b=>by simp[zce]
  rw[e2]
  exact Paired.append R1 R2
theorem zfo {H0:Hp}{m:Nat}:∀{zs:List Addr} {rows:List (List Int)},RowsAt H0 zs rows->(zaL (zs.map V.ref) (fun _=>zaN 0 m) (pOf H0)).length=(zce m rows).length
 |_,_,.nil=>rfl
 |_,_,.cons (l₁:=zs) (l₂:=rows) r t=>by
  have e:∀z:Addr,zaL ((z::zs).map V.ref) (fun _=>zaN 0 m) (pOf H0)=(((zaN 0 m).filter (pOf H0 (.ref z))).map fun y=>(V.ref z,y))++zaL (zs.map V.ref) (fun _=>zaN 0 m) (pOf H0):=fun z=>by simp[zaL]
  have e2:∀b,zce m (b::rows)=((zb7 m b).map fun x=>b++[x])++zce m rows:=fun b=>by simp[zce]
  rw[e,zg6 r,e2,List.length_append,List.length_append,zfo t]
  simp
noncomputable def zg8:Sp:=fun vs H Q _=>∃m:Nat,vs=[.int m]/\m<=6/\∀p zs H',Same H H'->H' p=some (.tup (zs.map V.ref))->RowsAt H' zs (allA m)->Q (.ref p) H'
theorem zeu {X:Cx}(K:PySem.W.Frag)(hK:X.K=K):OpR X (compareOp .NotIn) (rIn K true):=hK▸zeH
end L2
namespace K88
open PySem PySem.Spec PyProof.Rows L2
noncomputable abbrev zbi:Stmt:=top 20
section
variable {P:Program}{w:World}{K:PySem.W.Frag}{mg:Str->Option Value}{base:Heap}
theorem sc_all_orders:FnScope ["many", "begun", "place"] ["many"] (zaf zbi):=⟨rfl,rfl,rfl,by decide+kernel,rfl,by decide+kernel,by decide+kernel⟩
theorem zev {f:Addr}{fd:FuncData}(F:Fun K "all_orders" "all_orders" zbi f fd)(T:Top mg):FnOk P w K mg base CX0 1 f fd ["many"] zg8:=by
 refine F.ok sc_all_orders (fun vs H Q E h=> ?_) (fun cdv A outer s H vs Q E hr h=> ?_)
 ·obtain ⟨m,rfl,_⟩:=h
  rfl
 ·obtain ⟨m,rfl,hm,k⟩:=h
  refine⟨_,(zae (zam (i:=1) sc_all_orders.nd rfl (Or.inl rfl) (zaU (zaa (zdf zad) zad)))
   (zae (zaI PassesOwn.never rfl (za6 rfl T.n_range (zaa (pv 0) zad)) (zal (i:=2) sc_all_orders.nd rfl (Or.inl rfl))
    (zag (ziz (i:=1) rfl sc_all_orders.nd rfl rfl (N':=["begin", "number", "many"]) (n:=2) (ix:=[0]) rfl (CompScope.of (sc:=zaf zbi) (N:=["many", "begun", "place"]) (by decide+kernel) rfl rfl) (za1 (pv 1))
     (fun _ _ _ _ _=>⟨(zal (i:=0) (show (["begin", "number", "many"]:List Str).Nodup by decide+kernel) rfl (Or.inl rfl)),zaK,(za6 rfl T.n_range (zaa (pv 2) zad)),(zal (i:=1) (show (["begin", "number", "many"]:List Str).Nodup by decide+kernel) rfl (Or.inl rfl)),
      (zd1 (zax (zeu K rfl) (pv 1) (pv 0) (by rfl))),(zaw zd3 (pv 0) (zdf (zaa (pv 1) zad)))⟩))))
   (zag (zas (zao zar (by rfl) T.n_tuple boot_tuple (zaa (pv 1) zad)))))), ?_⟩
  refine⟨Nat.zero_le _,fun t0 ht0=>⟨by show 1<=sizeLine;decide,fun p0 hp0=> ?_⟩⟩
  have s0:=(zac (o:=.tup []) ht0).trans (zac (o:=.lst [.ref t0]) hp0)
  refine⟨_,rfl,_,rfl,by (first|lia|omega),by (first|lia|omega), ?_⟩
  refine za7 (n:=m) (fun i σ H2=>∃(p:Addr) (zs:List Addr) (c2:Option V),σ=[some (.int m),some (.ref p),c2]/\Same H H2/\H2 p=some (.lst (zs.map V.ref))/\RowsAt H2 zs (zdC m [[]] i)) ?_ ?_ ?_
  ·exact⟨p0,[t0],none,rfl,s0,zab,.cons (zac hp0 _ _ zab) .nil⟩
  ·rintro i σ H2 hi ⟨p,zs,c2,rfl,sm,hp2,R⟩
   have hlen:=zgG hm (by (first|lia|omega):i+1<=7)
   have hlen0:=zgG hm (by (first|lia|omega):i<=7)
   refine⟨_,rfl,p,rfl,⟨_,SqL.of hp2⟩, ?_⟩
   refine zgF (zaY (xs:=zs.map V.ref)) (fun _=>zaN 0 m) (pOf H2) (RBeg H2) ?_ (fun xy v G G' st hR=> ?_) (fun G s'=>SqL.of (s' _ _ hp2)) (fun x hx G s' Rr q'=> ?_) (fun x hx y hy G s' Q' q'=> ?_) (fun x hx y hy hpp G s' Q' q'=> ?_) fun acc vs G hacc s' hvs pr=> ?_
   ·rw [zfo R]
    exact zaR (Nat.le_trans hlen (by decide))
   ·obtain ⟨z,z',r,n,e1,h1,e2,h2⟩:=hR
    exact⟨z,z',r,n,e1,h1,e2,st _ _ h2⟩
   ·refine ⟨_,rfl,_,rfl,by (first|lia|omega),by (first|lia|omega), ?_⟩
    exact q' _ _ _ (Same.refl G) (zeN (lo:=0) (n:=m)) fun _ _ _=>trivial
   ·obtain ⟨z,hz,rfl⟩:=List.mem_map.mp hx
    obtain⟨j,hj⟩:=List.getElem?_of_mem hz
    obtain⟨r,hr1,hr2⟩:=R.get hj
    obtain⟨n,rfl,n0,n1⟩:=zdK hy
    refine⟨_,rfl,_,rfl,z,_,rfl,.inr (SqT.of (s' _ _ hr2)),rfl,ziB _,_,rfl, ?_⟩
    have e:pOf H2 (.ref z) (.int n)= !inV (.int n) (r.map V.int):=by unfold pOf;simp only[hr2]
    rw[e] at q'
    exact q'
   ·obtain ⟨z,hz,rfl⟩:=List.mem_map.mp hx
    obtain⟨j,hj⟩:=List.getElem?_of_mem hz
    obtain⟨r,hr1,hr2⟩:=R.get hj
    obtain⟨n,rfl,n0,n1⟩:=zdK hy
    have hb:=(zcz m i).1 r (List.mem_of_getElem? hr1)
    refine⟨_,rfl,_,rfl,by show 1<=sizeLine;decide,fun t ht=>⟨z,t,_,_,rfl,rfl,zac ht _ _ (s' _ _ hr2),zab, ?_,fun z' G' s'' hz'=> ?_⟩⟩
    ·rw [zai,hb.len]
     exact Nat.le_trans (by show i+1<=1000;(first|lia|omega)) (by decide)
    ·refine q' _ _ ((zac ht).trans s'') ⟨z,z',r,n,rfl,hr2,rfl, ?_⟩
     rw[hz',List.map_append]
     rfl
   ·obtain ⟨zs',rfl,R'⟩:=zfn R pr
    exact⟨acc,zs',_,rfl,sm.trans s',hvs,R'⟩
  ·rintro σ H2 ⟨p,zs,c2,rfl,sm,hp2,R⟩
   refine⟨_,rfl,p,_,rfl,.inl ⟨SqL.of hp2,fun t ht=> ?_⟩⟩
   exact k t zs _ (sm.trans (zac ht)) zab (R.same (zac ht))
end
end K88
namespace L2
open PySem PySem.Spec PyProof.Rows
structure TabZ (n:Nat) (R:List (List Int)):Prop where
 ne:∀r∈R,r≠[]
 ris:∀r∈R,risL r=true
 prs:prsL R=true
 perm:R.flatten.Perm (num0 n)
structure LsZ (H:Hp) (zs:List Addr) (R:List (List Int)):Prop where
 nd:zs.Nodup
 len:zs.length=R.length
 at_:∀(i:Nat) (z:Addr),zs[i]? =some z->∃r,R[i]? =some r/\H z=some (.lst (r.map V.int))
noncomputable abbrev Sm (x:Int)(n:Nat):Prop:=Builtin.Int.intBits x<=n
theorem Sm.of {x:Int}{n:Nat}(h:x.natAbs<2^n):Sm x n:=intBits_le_iff.mpr h
theorem Sm.lt {x:Int}{n:Nat}(h:Sm x n):x.natAbs<2^n:=intBits_le_iff.mp h
theorem Sm.mono {x:Int}{m n:Nat}(h:Sm x m)(k:m<=n):Sm x n:=Nat.le_trans h k
theorem zkq {X:Cx}:OpR X (binaryOp .FloorDiv) (rI (fun _ j=>0<j/\Sm j 8000) fun i j=>.int (i/j)):=opI fun i j _ _ _ _ _ hc q=>by
 have e:i/j=i.fdiv j:=(Int.fdiv_eq_ediv_of_nonneg _ (Int.le_of_lt hc.1)).symm
 rw[e] at q
 have h1:=hc.1
 refine floordiv_int (by (first|lia|omega)) q (.inl (PyProof.noPylong_of_log2 ?_))
 have h0:j.natAbs≠0:=by (first|lia|omega)
 rw[Nat.log2_lt h0]
 exact (hc.2.mono (by decide)).lt
structure ShB (p:Int×Int) (n:Nat):Prop where
 pos:0<p.2
 s1:Sm p.1 n
 s2:Sm p.2 n
noncomputable def fcZ:Nat->Int
 |0=>1
 |n+1=>fcZ n*((n:Int)+1)
theorem zew:∀n,0<fcZ n
 |0=>by decide
 |n+1=>Int.mul_pos (zew n) (by (first|lia|omega))
theorem zmZ {m n:Nat}(h:m<=n):fcZ m<=fcZ n:=by
  induction n with
  | zero => have:m=0:=by (first|lia|omega)
            rw[this];exact Int.le_refl _
  | succ n ih=>
    by_cases e:m=n+1
    · rw[e];exact Int.le_refl _
    · refine Int.le_trans (ih (by (first|lia|omega))) ?_
      show fcZ n<=fcZ n*((n:Int)+1)
      have:=zew n
      have h2:=Int.mul_le_mul_of_nonneg_left (show (1:Int)<=(n:Int)+1 by (first|lia|omega)) (Int.le_of_lt this)
      (first|lia|omega)
noncomputable def spS (F:List Int->Int->List Int->Int):List Int->List Int->Int
 |_,[]=>0
 |pre,x::xs=>F pre x xs+spS F (pre++[x]) xs
theorem zbR {F G:List Int->Int->List Int->Int}:∀{xs pre:List Int},(∀as x bs,as++x::bs=pre++xs->F as x bs=G as x bs)->spS F pre xs=spS G pre xs
 |[],_,_=>rfl
 |x::xs,pre,h=>by
  show F pre x xs+spS F (pre++[x]) xs=G pre x xs+spS G (pre++[x]) xs
  rw[h pre x xs rfl,zbR (xs:=xs) (pre:=pre++[x]) fun as y bs e=>h as y bs (by rw[e,List.append_assoc];rfl)]
theorem zex {F G:List Int->Int->List Int->Int}(a b:Int):∀(xs pre:List Int),spS (fun as x bs=>a*F as x bs+b*G as x bs) pre xs=a*spS F pre xs+b*spS G pre xs
 |[],_=>by simp[spS]
 |x::xs,pre=>by
  show (a*F pre x xs+b*G pre x xs)+spS (fun as x bs=>a*F as x bs+b*G as x bs) (pre++[x]) xs=a*(F pre x xs+spS F (pre++[x]) xs)+b*(G pre x xs+spS G (pre++[x]) xs)
  rw[zex a b xs]
  grind
theorem zey {F:List Int->Int->List Int->Int}(p:Int):∀(xs pre:List Int),spS F (p::pre) xs=spS (fun as x bs=>F (p::as) x bs) pre xs
 |[],_=>rfl
 |x::xs,pre=>by
  show F (p::pre) x xs+spS F ((p::pre)++[x]) xs=F (p::pre) x xs+spS (fun as x bs=>F (p::as) x bs) (pre++[x]) xs
  rw[<-zey p xs]
  rfl
noncomputable def prD (z:Int):List Int->Int
 |[]=>1
 |y::ys=>(z-y)*prD z ys
noncomputable def vdD:List Int->Int
 |[]=>1
 |y::ys=>prD y ys*vdD ys
theorem zcm (z:Int):∀(a b:List Int),prD z (a++b)=prD z a*prD z b
 |[],b=>by simp[prD]
 |x::a,b=>by
  show (z-x)*prD z (a++b)=(z-x)*prD z a*prD z b
  rw[zcm z a b]
  grind
noncomputable def rD (z:Int)(xs:List Int):Int:=spS (fun as x bs=>x*vdD (as++(x-1)::bs)*(prD z as*prD z bs)) [] xs
noncomputable def sD (xs:List Int):Int:=spS (fun as x bs=>x*vdD (as++(x-1)::bs)) [] xs
theorem zlU:∀(xs:List Int) (z:Int),rD z xs=((z-(xs.length:Int))*prD z xs-z*prD (z-1) xs)*vdD xs
 |[],z=>by simp[rD,spS,prD,vdD]
 | y::ys,z=>by
  have e1:rD z (y::ys)=y*(prD (y-1) ys*vdD ys)*prD z ys+spS (fun as x bs=>x*vdD (y::as++(x-1)::bs)*(prD z (y::as)*prD z bs)) [] ys:=by
   show y*vdD ([]++(y-1)::ys)*(prD z []*prD z ys)+spS _ ([]++[y]) ys=_
   rw[show ([]:List Int)++[y]=y::[] from rfl,zey]
   show y*(prD (y-1) ys*vdD ys)*(1*prD z ys)+_=_
   rw[Int.one_mul]
  have e2:spS (fun as x bs=>x*vdD (y::as++(x-1)::bs)*(prD z (y::as)*prD z bs)) [] ys=((z-y)*prD y ys-prD y ys)*rD z ys+prD z ys*rD y ys:=by
   unfold rD
   rw[<-zex]
   refine zbR fun as x bs e=> ?_
   have ez:ys=as++x::bs:=e.symm
   show x*(prD y (as++(x-1)::bs)*vdD (as++(x-1)::bs))*((z-y)*prD z as*prD z bs)=_
   rw[ez]
   generalize vdD (as++(x-1)::bs)=D
   rw[zcm,zcm,zcm]
   show x*(prD y as*((y-(x-1))*prD y bs)*D)*((z-y)*prD z as*prD z bs)=((z-y)*(prD y as*((y-x)*prD y bs))-prD y as*((y-x)*prD y bs))*(x*D*(prD z as*prD z bs))+prD z as*((z-x)*prD z bs)*(x*D*(prD y as*prD y bs))
   grind
  rw[e1,e2,zlU ys z,zlU ys y]
  show _=((z-((ys.length+1:Nat):Int))*((z-y)*prD z ys)-z*((z-1-y)*prD (z-1) ys))*(prD y ys*vdD ys)
  rw[show ((ys.length+1:Nat):Int)=(ys.length:Int)+1 from rfl]
  generalize (ys.length:Int)=r
  generalize prD (y-1) ys=A
  generalize prD z ys=B
  generalize prD y ys=C
  generalize prD (z-1) ys=E
  generalize vdD ys=V
  grind
theorem zm0:∀xs:List Int,2*sD xs=(2*xs.sum-(xs.length:Int)*((xs.length:Int)-1))*vdD xs
 |[]=>by simp[sD,spS]
 | y::ys=>by
  have e1:sD (y::ys)=y*(prD (y-1) ys*vdD ys)+spS (fun as x bs=>x*vdD (y::as++(x-1)::bs)) [] ys:=by
   show y*vdD ([]++(y-1)::ys)+spS _ ([]++[y]) ys=_
   rw[show ([]:List Int)++[y]=y::[] from rfl,zey]
   rfl
  have e2:spS (fun as x bs=>x*vdD (y::as++(x-1)::bs)) [] ys=prD y ys*sD ys+1*rD y ys:=by
   unfold rD sD
   rw[<-zex]
   refine zbR fun as x bs e=> ?_
   have ez:ys=as++x::bs:=e.symm
   show x*(prD y (as++(x-1)::bs)*vdD (as++(x-1)::bs))=_
   rw[ez]
   generalize vdD (as++(x-1)::bs)=D
   rw[zcm,zcm]
   show x*(prD y as*((y-(x-1))*prD y bs)*D)=prD y as*((y-x)*prD y bs)*(x*D)+1*(x*D*(prD y as*prD y bs))
   grind
  have h:=zm0 ys
  rw[e1,e2,zlU]
  show _=(2*(y+ys.sum)-((ys.length+1:Nat):Int)*(((ys.length+1:Nat):Int)-1))*(prD y ys*vdD ys)
  rw[show ((ys.length+1:Nat):Int)=(ys.length:Int)+1 from rfl]
  generalize (ys.length:Int)=r at h ⊢
  generalize prD (y-1) ys=A
  generalize prD y ys=C
  generalize vdD ys=V at h ⊢
  generalize sD ys=S at h ⊢
  generalize ys.sum=T at h ⊢
  grind
noncomputable def ctD (c:Int):List Int->Int
 |[]=>0
 |x::xs=>(if c<x then 1 else 0)+ctD c xs
noncomputable def proR:Nat->(Nat->Int)->Int
 |0,_=>1
 |n+1,g=>proR n g*g n
noncomputable def rwD (a:Int)(s:List Int):Int:=proR a.toNat fun c=>a-(c:Int)+ctD (c:Int) s
noncomputable def hkD:List Int->Int
 |[]=>1
 |a::s=>rwD a s*hkD s
noncomputable def LsD:List Int->List Int
 |[]=>[]
 |a::s=>(a+(s.length:Int))::LsD s
noncomputable def flD:List Int->Int
 |[]=>1
 |x::xs=>fcZ x.toNat*flD xs
theorem zgc (c:Int):∀(a b:List Int),ctD c (a++b)=ctD c a+ctD c b
 |[],b=>by simp[ctD]
 |x::a,b=>by
  show (if c<x then (1:Int) else 0)+ctD c (a++b)=(if c<x then (1:Int) else 0)+ctD c a+ctD c b
  rw[zgc c a b]
  (first|lia|omega)
theorem zgd (c:Int):∀(a:List Int),(∀x∈a,c<x)->ctD c a=(a.length:Int)
 |[],_=>rfl
 |x::a,h=>by
  show (if c<x then (1:Int) else 0)+ctD c a=((a.length+1:Nat):Int)
  rw[if_pos (h x List.mem_cons_self),zgd c a fun y hy=>h y (List.mem_cons_of_mem _ hy)]
  (first|lia|omega)
theorem zjm (c:Int):∀(a:List Int),0<=ctD c a
 |[]=>Int.le_refl _
 |x::a=>by
  show 0<=(if c<x then (1:Int) else 0)+ctD c a
  have:=zjm c a
  split<;>(first|lia|omega)
theorem zjn:∀s:List Int,(LsD s).length=s.length
 |[]=>rfl
 |_::s=>by
  show (LsD s).length+1=s.length+1
  rw[zjn s]
theorem zcn:∀(a b:List Int),LsD (a++b)=(LsD a).map (·+(b.length:Int))++LsD b
 |[],b=>rfl
 |x::a,b=>by
  show (x+((a++b).length:Int))::LsD (a++b)=(x+(a.length:Int)+(b.length:Int))::((LsD a).map (·+(b.length:Int))++LsD b)
  rw[zcn a b,List.length_append]
  congr 1
  (first|lia|omega)
theorem zjo (z k:Int):∀L:List Int,prD (z+k) (L.map (·+k))=prD z L
 |[]=>rfl
 |y::L=>by
  show (z+k-(y+k))*prD (z+k) (L.map (·+k))=(z-y)*prD z L
  rw[zjo z k L,show z+k-(y+k)=z-y by (first|lia|omega)]
theorem zg9 {a r:Int}{m:Nat}{g g':Nat->Int}(hg:∀c,c<m->g c=a-c+r)(hg':∀c,c<m->g' c=a-c+r+1)(he:∀c,m<=c->g' c=g c):
  ∀k,proR k g'*(a+r+1-(min k m:Nat))=proR k g*(a+r+1)
 |0=>by
  show 1*(a+r+1-((min 0 m:Nat):Int))=1*(a+r+1)
  rw[show min 0 m=0 by (first|lia|omega)]
  simp
 | k+1=>by
  have ih:=zg9 hg hg' he k
  show proR k g'*g' k*_=proR k g*g k*_
  by_cases c:k<m
  ·rw [show min k m=k by (first|lia|omega)] at ih
   rw[show min (k+1) m=k+1 by (first|lia|omega),hg k c,hg' k c,show ((k+1:Nat):Int)=(k:Int)+1 from rfl]
   generalize proR k g=A at*
   generalize proR k g'=B at*
   generalize (k:Int)=t at*
   grind
  ·rw [show min k m=m by (first|lia|omega)] at ih
   rw[show min (k+1) m=m by (first|lia|omega),he k (by (first|lia|omega))]
   generalize proR k g=A at*
   generalize proR k g'=B at*
   generalize g k=t at*
   grind
theorem zkX {a:Int}(ha:0<=a):∀(n:Nat) (s:List Int),s.length=n->s.Pairwise (·≥·)->(∀x∈s,0<=x/\x<=a)->rwD a s*prD (a+(s.length:Int)) (LsD s)=fcZ (a.toNat+s.length)
 | 0,s,hl,_,_=>by
  have:s=[]:=List.eq_nil_of_length_eq_zero hl
  subst this
  show proR a.toNat (fun c=>a-(c:Int)+0)*1=fcZ (a.toNat+0)
  obtain⟨n,rfl⟩:∃n:Nat,a=(n:Int):=⟨a.toNat,by (first|lia|omega)⟩
  rw[Int.toNat_natCast,Int.mul_one,Nat.add_zero]
  have:∀k,k<=n->proR k (fun c=>(n:Int)-(c:Int)+0)*fcZ (n-k)=fcZ n:=by
   intro k
   induction k with
   |zero=>intro _;rw[Nat.sub_zero];show 1*fcZ n=fcZ n;rw[Int.one_mul]
   |succ k ih=>
    intro hk
    have h:=ih (by (first|lia|omega))
    show proR k _*((n:Int)-(k:Int)+0)*fcZ (n-(k+1))=fcZ n
    rw[show n-k=(n-(k+1))+1 by (first|lia|omega)] at h
    have e:fcZ ((n-(k+1))+1)=fcZ (n-(k+1))*(((n-(k+1):Nat):Int)+1):=rfl
    rw[e,show ((n-(k+1):Nat):Int)+1=(n:Int)-(k:Int)+0 by (first|lia|omega)] at h
    rw[<-h]
    generalize proR k (fun c=>(n:Int)-(c:Int)+0)=A
    generalize fcZ (n-(k+1))=B
    generalize (n:Int)-(k:Int)+0=C
    grind
  have h:=this n (Nat.le_refl n)
  rw[Nat.sub_self] at h
  have e0:fcZ 0=1:=rfl
  rw[e0,Int.mul_one] at h
  exact h
 | n+1,s,hl,hp,hb=>by
  have hne:s≠[]:=fun e=>by rw[e] at hl;cases hl
  obtain⟨t,b,rfl⟩:∃t b,s=t++[b]:=⟨s.dropLast,s.getLast hne,(List.dropLast_concat_getLast hne).symm⟩
  have hlt:t.length=n:=by simpa using hl
  have hpt:=(List.pairwise_append.mp hp)
  have ih:=zkX ha n t hlt hpt.1 fun x hx=>hb x (List.mem_append_left _ hx)
  have hbb:=hb b (List.mem_append_right _ (List.mem_singleton.mpr rfl))
  have htb:∀x∈t,b<=x:=fun x hx=>hpt.2.2 x hx b (List.mem_singleton.mpr rfl)
  have e1:rwD a (t++[b])*(a+(t.length:Int)+1-b)=rwD a t*(a+(t.length:Int)+1):=by
   have:=zg9 (a:=a) (r:=(t.length:Int)) (m:=b.toNat) (g:=fun c=>a-(c:Int)+ctD (c:Int) t) (g':=fun c=>a-(c:Int)+ctD (c:Int) (t++[b])) (fun c hc=>by
    show a-(c:Int)+ctD (c:Int) t=a-(c:Int)+(t.length:Int)
    rw[zgd _ t fun x hx=>by have:=htb x hx;(first|lia|omega)]) (fun c hc=>by
    show a-(c:Int)+ctD (c:Int) (t++[b])=a-(c:Int)+(t.length:Int)+1
    rw[zgc,zgd _ t fun x hx=>by have:=htb x hx;(first|lia|omega)]
    show a-(c:Int)+((t.length:Int)+((if (c:Int)<b then (1:Int) else 0)+0))=_
    rw[if_pos (by (first|lia|omega))]
    (first|lia|omega)) (fun c hc=>by
    show a-(c:Int)+ctD (c:Int) (t++[b])=a-(c:Int)+ctD (c:Int) t
    rw[zgc]
    show a-(c:Int)+(ctD (c:Int) t+((if (c:Int)<b then (1:Int) else 0)+0))=_
    rw[if_neg (by (first|lia|omega))]
    (first|lia|omega)) a.toNat
   rw[show min a.toNat b.toNat=b.toNat by (first|lia|omega),show ((b.toNat:Nat):Int)=b by (first|lia|omega)] at this
   exact this
  have e2:prD (a+(((t++[b]).length:Nat):Int)) (LsD (t++[b]))=prD (a+(t.length:Int)) (LsD t)*(a+(t.length:Int)+1-b):=by
   rw[zcn,zcm]
   show prD (a+(((t++[b]).length:Nat):Int)) ((LsD t).map (·+1))*((a+(((t++[b]).length:Nat):Int)-(b+0))*1)=_
   rw[show a+(((t++[b]).length:Nat):Int)=a+(t.length:Int)+1 by rw[List.length_append];show a+((t.length+1:Nat):Int)=_;(first|lia|omega),zjo]
   rw[Int.mul_one,Int.add_zero]
  rw[e2,List.length_append]
  show _=fcZ (a.toNat+t.length+1)
  have e3:fcZ (a.toNat+t.length+1)=fcZ (a.toNat+t.length)*(((a.toNat+t.length:Nat):Int)+1):=rfl
  rw[e3,<-ih,show ((a.toNat+t.length:Nat):Int)+1=a+(t.length:Int)+1 by (first|lia|omega)]
  generalize prD (a+(t.length:Int)) (LsD t)=P
  generalize rwD a (t++[b])=R at*
  generalize rwD a t=R' at*
  generalize a+(t.length:Int)+1=u at*
  grind
structure Fal (sh:List Int):Prop where
 ge:sh.Pairwise (·≥·)
 nn:∀x∈sh,0<=x
theorem Fal.tail {a:Int}{s:List Int}(h:Fal (a::s)):Fal s:=⟨(List.pairwise_cons.mp h.ge).2,fun x hx=>h.nn x (List.mem_cons_of_mem _ hx)⟩
theorem zkr:∀{sh:List Int},Fal sh->hkD sh*vdD (LsD sh)=flD (LsD sh)
 |[],_=>rfl
 |a::s,h=>by
  have ha:=h.nn a List.mem_cons_self
  have hs:=(List.pairwise_cons.mp h.ge).1
  have e1:=zkX ha s.length s rfl h.tail.ge fun x hx=>⟨h.tail.nn x hx,hs x hx⟩
  have e2:=zkr h.tail
  show rwD a s*hkD s*(prD (a+(s.length:Int)) (LsD s)*vdD (LsD s))=fcZ (a+(s.length:Int)).toNat*flD (LsD s)
  rw[show (a+(s.length:Int)).toNat=a.toNat+s.length by (first|lia|omega),<-e1,<-e2]
  generalize prD (a+(s.length:Int)) (LsD s)=P
  generalize rwD a s=R
  generalize hkD s=U
  generalize vdD (LsD s)=V
  grind
theorem zjp:∀l,0<flD l
 |[]=>Int.one_pos
 |x::l=>Int.mul_pos (zew _) (zjp l)
theorem zha {g:Nat->Int}:∀n,(∀i,i<n->0<g i)->0<proR n g
 |0,_=>Int.one_pos
 |n+1,h=>Int.mul_pos (zha n fun i hi=>h i (by (first|lia|omega))) (h n (by (first|lia|omega)))
theorem zge:∀{sh:List Int},(∀x∈sh,0<=x)->0<hkD sh
 |[],_=>Int.one_pos
 |a::s,h=>by
  refine Int.mul_pos (zha _ fun i hi=> ?_) (zge fun x hx=>h x (List.mem_cons_of_mem _ hx))
  have:=zjm (i:Int) s
  (first|lia|omega)
theorem znE {sh:List Int}(h:Fal sh):vdD (LsD sh)≠0:=fun e=>by
 have:=zkr h
 rw[e,Int.mul_zero] at this
 have:=zjp (LsD sh)
 (first|lia|omega)
noncomputable def filZ (sh:List Int):Int:=fcZ sh.sum.toNat/hkD sh
noncomputable def crD (x:Int)(bs:List Int):Bool:=decide (0<x)&&(match bs with|[]=>true|y::_=>decide (y<x))
theorem zm1:∀(xs pre:List Int),spS (fun as x bs=>x*vdD (as++(x-1)::bs)) ((LsD pre).map (·+(xs.length:Int))) (LsD xs)=spS (fun as x bs=>(x+(bs.length:Int))*vdD (LsD (as++(x-1)::bs))) pre xs
 |[],_=>rfl
 | x::t,pre=>by
  show (x+(t.length:Int))*vdD ((LsD pre).map (·+(((x::t).length:Nat):Int))++(x+(t.length:Int)-1)::LsD t)+spS _ ((LsD pre).map (·+(((x::t).length:Nat):Int))++[x+(t.length:Int)]) (LsD t)=(x+(t.length:Int))*vdD (LsD (pre++(x-1)::t))+spS _ (pre++[x]) t
  have e1:LsD (pre++(x-1)::t)=(LsD pre).map (·+(((x::t).length:Nat):Int))++(x+(t.length:Int)-1)::LsD t:=by
   rw[zcn]
   show _++(x-1+(t.length:Int))::LsD t=_
   rw[show x-1+(t.length:Int)=x+(t.length:Int)-1 by (first|lia|omega)]
   rfl
  have e2:(LsD pre).map (·+(((x::t).length:Nat):Int))++[x+(t.length:Int)]=(LsD (pre++[x])).map (·+(t.length:Int)):=by
   rw[zcn,List.map_append,List.map_map]
   congr 1
   ·refine List.map_congr_left fun y _=> ?_
    show y+((t.length+1:Nat):Int)=y+1+(t.length:Int)
    (first|lia|omega)
   ·show _=[x+0+(t.length:Int)]
    rw[Int.add_zero]
  rw[e1,e2,zm1 t (pre++[x])]
theorem zkY (u:Int):∀(p q:List Int),vdD (p++u::u::q)=0
 |[],q=>by
  show ((u-u)*prD u q)*_=0
  rw[Int.sub_self]
  simp
 |x::p,q=>by
  show prD x (p++u::u::q)*vdD (p++u::u::q)=0
  rw[zkY u p q,Int.mul_zero]
theorem zgf:∀(a b:List Int),flD (a++b)=flD a*flD b
 |[],b=>by simp[flD]
 |x::a,b=>by
  show fcZ x.toNat*flD (a++b)=fcZ x.toNat*flD a*flD b
  rw[zgf a b,Int.mul_assoc]
theorem zjq:∀sh:List Int,2*(LsD sh).sum=2*sh.sum+(sh.length:Int)*((sh.length:Int)-1)
 |[]=>rfl
 |a::s=>by
  have h:=zjq s
  rw[show (LsD (a::s)).sum=a+(s.length:Int)+(LsD s).sum from List.sum_cons,List.sum_cons,show (((a::s).length:Nat):Int)=(s.length:Int)+1 from rfl]
  generalize (s.length:Int)=r at*
  generalize (LsD s).sum=X at*
  generalize s.sum=Y at*
  grind
theorem Fal.corner {as bs:List Int}{x:Int}(h:Fal (as++x::bs))(hc:crD x bs=true):Fal (as++(x-1)::bs):=by
 unfold crD at hc
 rw[Bool.and_eq_true,decide_eq_true_eq] at hc
 obtain⟨h1,h2,h3⟩:=List.pairwise_append.mp h.ge
 obtain⟨g1,g2⟩:=List.pairwise_cons.mp h2
 have gb:∀y∈bs,y<x:=by
  cases bs with
  |nil=>intro y hy;cases hy
  | cons b t=>
   have hb:=of_decide_eq_true hc.2
   intro y hy
   rcases List.mem_cons.mp hy with rfl|hy
   ·exact hb
   ·have:=(List.pairwise_cons.mp g2).1 y hy
    (first|lia|omega)
 refine⟨List.pairwise_append.mpr ⟨h1,List.pairwise_cons.mpr ⟨fun y hy=>by have:=gb y hy;(first|lia|omega),g2⟩,fun y hy z hz=> ?_⟩,fun y hy=> ?_⟩
 ·rcases List.mem_cons.mp hz with rfl|hz
  ·have:=h3 y hy x List.mem_cons_self
   (first|lia|omega)
  ·exact h3 y hy z (List.mem_cons_of_mem _ hz)
 ·rcases List.mem_append.mp hy with hy|hy
  ·exact h.nn y (List.mem_append_left _ hy)
  ·rcases List.mem_cons.mp hy with rfl|hy
   ·(first|lia|omega)
   ·exact h.nn y (List.mem_append_right _ (List.mem_cons_of_mem _ hy))
theorem zgg {as bs:List Int}{x:Int}(h:Fal (as++x::bs))(f C:Int)(hf:crD x bs=true->f*hkD (as++(x-1)::bs)=C):
  C*((x+(bs.length:Int))*vdD (LsD (as++(x-1)::bs)))=(if crD x bs=true then f else 0)*(hkD (as++x::bs)*vdD (LsD (as++x::bs))):=by
 have hx:=h.nn x (List.mem_append_right _ List.mem_cons_self)
 by_cases hc:crD x bs=true
 ·rw [if_pos hc,<-hf hc,zkr h]
  have e:=zkr (h.corner hc)
  have e2:flD (LsD (as++x::bs))=(x+(bs.length:Int))*flD (LsD (as++(x-1)::bs)):=by
   rw[zcn,zcn,zgf,zgf]
   show flD ((LsD as).map (·+(((x::bs).length:Nat):Int)))*(fcZ (x+(bs.length:Int)).toNat*flD (LsD bs))=(x+(bs.length:Int))*(flD ((LsD as).map (·+(((x::bs).length:Nat):Int)))*(fcZ (x-1+(bs.length:Int)).toNat*flD (LsD bs)))
   have hx1:0<x:=by
    unfold crD at hc
    rw[Bool.and_eq_true,decide_eq_true_eq] at hc
    exact hc.1
   rw[show (x+(bs.length:Int)).toNat=(x-1+(bs.length:Int)).toNat+1 by (first|lia|omega)]
   have e3:fcZ ((x-1+(bs.length:Int)).toNat+1)=fcZ (x-1+(bs.length:Int)).toNat*(((x-1+(bs.length:Int)).toNat:Int)+1):=rfl
   rw[e3,show (((x-1+(bs.length:Int)).toNat:Nat):Int)+1=x+(bs.length:Int) by (first|lia|omega)]
   generalize flD ((LsD as).map (·+(((x::bs).length:Nat):Int)))=A
   generalize fcZ (x-1+(bs.length:Int)).toNat=B
   generalize flD (LsD bs)=D
   generalize x+(bs.length:Int)=u
   grind
  rw[e2,<-e]
  generalize hkD (as++(x-1)::bs)=A
  generalize vdD (LsD (as++(x-1)::bs))=B
  generalize x+(bs.length:Int)=u
  grind
 ·rw [if_neg hc]
  have hz:(x+(bs.length:Int))*vdD (LsD (as++(x-1)::bs))=0:=by
   cases bs with
   |nil=>
    have:¬0<x:=fun h0=>hc (by unfold crD;rw[decide_eq_true h0];rfl)
    rw[show x+((([]:List Int).length:Nat):Int)=0 by show x+0=0;(first|lia|omega),Int.zero_mul]
   | cons b t=>
    obtain⟨_,h2,_⟩:=List.pairwise_append.mp h.ge
    have hbx:b<=x:=(List.pairwise_cons.mp h2).1 b List.mem_cons_self
    by_cases e:b=x
    ·subst e
     rw[zcn]
     show _*vdD (_++(b-1+((t.length+1:Nat):Int))::(b+(t.length:Int))::LsD t)=0
     rw[show b-1+((t.length+1:Nat):Int)=b+(t.length:Int) by (first|lia|omega),zkY,Int.mul_zero]
    ·exfalso
     have hb:=h.nn b (List.mem_append_right _ (List.mem_cons_of_mem _ List.mem_cons_self))
     refine hc ?_
     unfold crD
     rw[decide_eq_true (by (first|lia|omega):0<x)]
     show decide (b<x)=true
     exact decide_eq_true (by (first|lia|omega))
  rw[hz,Int.mul_zero,Int.zero_mul]
theorem zjr {F:List Int->Int->List Int->Int}(a:Int)(xs pre:List Int):spS (fun as x bs=>a*F as x bs) pre xs=a*spS F pre xs:=by
 have:=zex (F:=F) (G:=fun _ _ _=>0) a 0 xs pre
 simpa using this
theorem zks {F:List Int->Int->List Int->Int}(a:Int)(xs pre:List Int):spS (fun as x bs=>F as x bs*a) pre xs=spS F pre xs*a:=by
 rw[Int.mul_comm,<-zjr]
 exact zbR fun as x bs _=>Int.mul_comm _ _
theorem zhb:∀(n:Nat) (sh:List Int),Fal sh->sh.sum=(n:Int)->filZ sh*hkD sh=fcZ n/\(0<n->filZ sh=spS (fun as x bs=>if crD x bs=true then filZ (as++(x-1)::bs) else 0) [] sh)
 | 0, sh,hF,hs=>by
  have hz:∀x∈sh,x=0:=by
   intro x hx
   have h0:=hF.nn
   have:∀{l:List Int},(∀y∈l,0<=y)->0<=l.sum/\∀y∈l,y<=l.sum:=by
    intro l
    induction l with
    |nil=>intro _;exact⟨Int.le_refl _,fun y hy=>by cases hy⟩
    | cons a t ih=>
     intro h
     obtain⟨i1,i2⟩:=ih fun y hy=>h y (List.mem_cons_of_mem _ hy)
     have h1:=h a List.mem_cons_self
     rw[List.sum_cons]
     refine⟨by (first|lia|omega),fun y hy=> ?_⟩
     rcases List.mem_cons.mp hy with rfl|hy
     ·(first|lia|omega)
     ·have:=i2 y hy
      (first|lia|omega)
   have h1:=(this h0).2 x hx
   have h2:=h0 x hx
   (first|lia|omega)
  have hk:hkD sh=1:=by
   clear hs hF
   induction sh with
   |nil=>rfl
   |cons a t ih=>
    have ha:=hz a List.mem_cons_self
    subst ha
    show proR 0 _*hkD t=1
    rw[ih fun y hy=>hz y (List.mem_cons_of_mem _ hy)]
    rfl
  refine⟨?_,fun h=>absurd h (Nat.lt_irrefl 0)⟩
  unfold filZ
  rw[hs,hk]
  decide
 | n +1,sh,hF,hs=>by
  have key:fcZ (n+1)=spS (fun as x bs=>if crD x bs=true then filZ (as++(x-1)::bs) else 0) [] sh*hkD sh:=by
   have h1:fcZ n*sD (LsD sh)=spS (fun as x bs=>if crD x bs=true then filZ (as++(x-1)::bs) else 0) [] sh*(hkD sh*vdD (LsD sh)):=by
    have e0:sD (LsD sh)=spS (fun as x bs=>(x+(bs.length:Int))*vdD (LsD (as++(x-1)::bs))) [] sh:=zm1 sh []
    rw[e0,<-zjr,<-zks]
    refine zbR fun as x bs e=> ?_
    have e':as++x::bs=sh:=e
    have hF':Fal (as++x::bs):=e'▸hF
    have t:=zgg hF' (filZ (as++(x-1)::bs)) (fcZ n) fun hc=>by
     refine (zhb n _ (hF'.corner hc) ?_).1
     have e2:(as++x::bs).sum=((n+1:Nat):Int):=by rw[e',hs]
     rw[List.sum_append,List.sum_cons] at e2 ⊢
     (first|lia|omega)
    rw[t,e']
   have h2:=zm0 (LsD sh)
   have h3:=zjq sh
   rw[zjn,h3,hs,show 2*((n+1:Nat):Int)+(sh.length:Int)*((sh.length:Int)-1)-(sh.length:Int)*((sh.length:Int)-1)=2*((n+1:Nat):Int) by (first|lia|omega)] at h2
   have h4:sD (LsD sh)=((n:Int)+1)*vdD (LsD sh):=by
    rw[show ((n+1:Nat):Int)=(n:Int)+1 from rfl,Int.mul_assoc] at h2
    (first|lia|omega)
   rw[h4] at h1
   have hv:=znE hF
   refine Int.eq_of_mul_eq_mul_right hv ?_
   show fcZ n*((n:Int)+1)*_=_
   rw[Int.mul_assoc,h1,Int.mul_assoc]
  have hp:=zge hF.nn
  have e:filZ sh=spS (fun as x bs=>if crD x bs=true then filZ (as++(x-1)::bs) else 0) [] sh:=by
   have e1:sh.sum.toNat=n+1:=by (first|lia|omega)
   have:filZ sh=fcZ (n+1)/hkD sh:=by
    unfold filZ
    rw[e1]
   rw[this,key]
   exact Int.mul_ediv_cancel _ (by (first|lia|omega))
  exact⟨by rw[e,<-key],fun _=>e⟩
structure Shp (sh:List Int):Prop where
 ge:sh.Pairwise (·≥·)
 pos:∀x∈sh,0<x
theorem zdQ (g:Nat->Int):∀n,proR (n+1) g=g 0*proR n fun i=>g (i+1)
 |0=>by
  show 1*g 0=g 0*1
  rw[Int.one_mul,Int.mul_one]
 |n+1=>by
  show proR (n+1) g*g (n+1)=g 0*(proR n (fun i=>g (i+1))*g (n+1))
  rw[zdQ g n,Int.mul_assoc]
theorem zhc:∀sh:List Int,hkD sh=proR sh.length fun i=>rwD (sh.getD i 0) (sh.drop (i+1))
 |[]=>rfl
 |a::s=>by
  show rwD a s*hkD s=proR (s.length+1) _
  rw[zdQ,zhc s]
  rfl
theorem zkZ:∀(c:Int) (sh:List Int),ctD c sh<=(sh.length:Int)
 |_,[]=>Int.le_refl _
 |c,x::s=>by
  have:=zkZ c s
  show (if c<x then (1:Int) else 0)+ctD c s<=((s.length+1:Nat):Int)
  split<;>(first|lia|omega)
noncomputable def zlV:Sp:=fun vs H Q _=>∃n:Nat,vs=[.int 1,.int (n:Int)]/\n<=60/\Q (.int (fcZ n)) H
noncomputable def zhd:Sp:=fun vs H Q _=>∃(a:Addr) (sh:List Int),vs=[.ref a]/\H a=some (.tup (sh.map V.int))/\Fal sh/\sh.length<=60/\sh.sum<=60/\∀H',Same H H'->Q (.int (filZ sh)) H'
noncomputable def gtPN (p:Nat):V->Bool
 | .int o=>decide ((p:Int)<o)
 |_=>false
theorem zhe (p:Nat):∀l:List Int,∃ns:List Int,((l.map V.int).filter (gtPN p)).map (fun _=>V.int 1)=ns.map V.int/\ns.sum=ctD (p:Int) l
 |[]=>⟨[],rfl,rfl⟩
 | x::l=>by
  obtain⟨ns,h1,h2⟩:=zhe p l
  rw[List.map_cons,List.filter_cons]
  show ∃ns:List Int,(if decide ((p:Int)<x)=true then _ else _:List V).map _=_/\ns.sum=(if (p:Int)<x then (1:Int) else 0)+ctD (p:Int) l
  by_cases c:(p:Int)<x
  ·rw [decide_eq_true c,if_pos rfl,if_pos c]
   exact⟨1::ns,by rw[List.map_cons,h1];rfl,by rw[List.sum_cons,h2]⟩
  ·rw [decide_eq_false c,if_neg Bool.false_ne_true,if_neg c]
   exact⟨ns,h1,by rw[h2];(first|lia|omega)⟩
theorem Fal.sums {sh:List Int}(h:∀x∈sh,0<=x):0<=sh.sum/\∀x∈sh,x<=sh.sum:=by
 induction sh with
 |nil=>exact⟨Int.le_refl _,fun y hy=>by cases hy⟩
 | cons a t ih=>
  obtain⟨i1,i2⟩:=ih fun y hy=>h y (List.mem_cons_of_mem _ hy)
  have h1:=h a List.mem_cons_self
  rw[List.sum_cons]
  refine⟨by (first|lia|omega),fun y hy=> ?_⟩
  rcases List.mem_cons.mp hy with rfl|hy
  ·(first|lia|omega)
  ·have:=i2 y hy
   (first|lia|omega)
theorem zm2:fcZ 60<2^300:=by decide+kernel
theorem zm3 {sh:List Int}(h:Fal sh)(hs:sh.sum<=60):0<hkD sh/\Sm (hkD sh) 8000:=by
 have h0:=(Fal.sums h.nn).1
 obtain⟨n,hn⟩:∃n:Nat,sh.sum=(n:Int):=⟨sh.sum.toNat,by (first|lia|omega)⟩
 have h1:=(zhb n sh h hn).1
 have h2:=zge h.nn
 have h3:=zew n
 have h4:0<filZ sh:=by rw[<-h1] at h3;exact Int.pos_of_mul_pos_left h3 h2
 have h5:hkD sh<=fcZ n:=by
  rw[<-h1]
  have:1*hkD sh<=filZ sh*hkD sh:=Int.mul_le_mul_of_nonneg_right (by (first|lia|omega)) (by (first|lia|omega))
  (first|lia|omega)
 have h6:=zmZ (show n<=60 by (first|lia|omega))
 have h7:=zm2
 refine⟨h2,Sm.of (Nat.lt_of_lt_of_le (show (hkD sh).natAbs<2^300 from ?_) (Nat.pow_le_pow_right (by decide) (by decide)))⟩
 have h8:hkD sh<2^300:=by (first|lia|omega)
 have h9:((hkD sh).natAbs:Int)<((2^300:Nat):Int):=by
  rw[Int.natAbs_of_nonneg (by (first|lia|omega))]
  exact h8
 exact Int.ofNat_lt.mp h9
end L2
namespace K88
open PySem PySem.Spec PyProof.Rows L2
noncomputable abbrev zb3:Stmt:=top 29
noncomputable abbrev zdB:Stmt:=top 18
section
variable {P:Program}{w:World}{K:PySem.W.Frag}{mg:Str->Option Value}{base:Heap}
theorem sc_product:FnScope ["first", "last", "found", "number"] ["first", "last"] (zaf zdB):=⟨rfl,rfl,rfl,by decide+kernel,rfl,by decide+kernel,by decide+kernel⟩
theorem zhS {f:Addr}{fd:FuncData}(F:Fun K "product" "product" zdB f fd)(T:Top mg):FnOk P w K mg base CX0 1 f fd ["first", "last"] zlV:=by
 refine F.ok sc_product (fun vs H Q E h=> ?_) (fun cdv A outer s H vs Q E hr h=> ?_)
 ·obtain ⟨n,rfl,_⟩:=h
  rfl
 ·obtain ⟨n,rfl,hn,k⟩:=h
  refine⟨_,(zae (zam (i:=2) sc_product.nd rfl (Or.inl rfl) zaj)
   (zae (zaI PassesOwn.never rfl (zh6 rfl T.n_range (zaa (pv 0) (zaa (zaw zbb (pv 1) zaj) zad))) (zal (i:=3) sc_product.nd rfl (Or.inl rfl))
    (zag (zam (i:=2) sc_product.nd rfl (Or.inl rfl) (zaw zdF (pv 2) (pv 3)))))
   (zag (zas (pv 2))))), ?_⟩
  refine⟨_,rfl,_,rfl,_,_,rfl,rfl,_,_,rfl,⟨by (first|lia|omega),by (first|lia|omega),by (first|lia|omega),by (first|lia|omega)⟩, ?_⟩
  rw[show ((n:Int)+1-1).toNat=n by (first|lia|omega)]
  refine za7 (fun i σ G=>G=H/\∃c:Option V,σ=[some (.int 1),some (.int (n:Int)),some (.int (fcZ i)),c]) ⟨rfl,none,rfl⟩ ?_ ?_
  ·rintro i σ G hi ⟨rfl,c,rfl⟩
   refine⟨_,rfl,_,rfl,_,_,rfl,rfl,.inr ⟨by (first|lia|omega),by (first|lia|omega)⟩,rfl,some (.int (1+(i:Int))), ?_⟩
   show [some (V.int 1),some (V.int (n:Int)),some (V.int (fcZ i*(1+(i:Int)))),some (V.int (1+(i:Int)))]=_
   rw[show fcZ i*(1+(i:Int))=fcZ (i+1) by rw[Int.add_comm 1];rfl]
  ·rintro σ G ⟨rfl,c,rfl⟩
   exact⟨_,rfl,k⟩
theorem sc_fillings:FnScope ["shape", "hooks", "row", "length", "column", "below"] ["shape"] (zaf zb3):=⟨rfl,rfl,rfl,by decide+kernel,rfl,by decide+kernel,by decide+kernel⟩
set_option maxHeartbeats 4000000 in
theorem zgh {f:Addr}{fd:FuncData}(F:Fun K "fillings" "fillings" zb3 f fd)(T:Top mg)(Cproduct:Cal P w K mg base 1 "product" ["first", "last"] zlV):FnOk P w K mg base CX0 2 f fd ["shape"] zhd:=by
 refine F.ok sc_fillings (fun vs H Q E h=> ?_) (fun cdv A outer s H vs Q E hr h=> ?_)
 ·obtain ⟨a,sh,rfl,_⟩:=h
  rfl
 ·obtain ⟨a,sh,rfl,ha,hF,hl,hsum,k⟩:=h
  refine⟨_,(zae (zam (i:=1) sc_fillings.nd rfl (Or.inl rfl) zaj)
   (zae (zaI PassesOwn.never rfl (zcX rfl T.n_enumerate (zaa (pv 0) zad)) (zca (i:=2) (j:=3) rfl sc_fillings.nd rfl rfl (Or.inl rfl) (Or.inl rfl) (Or.inl rfl) (Or.inl rfl))
    (zag (zaI PassesOwn.never rfl (za6 rfl T.n_range (zaa (pv 3) zad)) (zal (i:=4) sc_fillings.nd rfl (Or.inr rfl))
     (zae (zam (i:=5) sc_fillings.nd rfl (Or.inl rfl) (zaq (zdq rfl) (by rfl) T.n_sum boot_sum (zaa (zb5 (N':=["lower", "column"]) (n:=1) (ix:=[4]) rfl (CompScope.of (sc:=zaf zb3) (N:=["shape", "hooks", "row", "length", "column", "below"]) (by decide+kernel) rfl rfl) (za2 (zbX zfM (pv 0) (zb8 (zaw zbb (pv 2) zaj)) zbJ)) (fun _ _ _ _ _=>⟨(zal (i:=0) (show (["lower", "column"]:List Str).Nodup by decide+kernel) rfl (Or.inl rfl)),(zd1 (zax zia (pv 0) (pv 1) (zaB _))),zaj⟩)) zad)))
     (zag (zam (i:=1) sc_fillings.nd rfl (Or.inl rfl) (zaw zdF (pv 1) (zaw zbb (zaw zcs (pv 3) (pv 4)) (pv 5)))))))))
   (zag (zas (zaw zkq (zan Cproduct (hr.mono (by decide)) rfl (zaa zaj (zaa (zaq (ziD rfl) (by rfl) T.n_sum boot_sum (zaa (pv 0) zad)) zad))) (pv 1)))))), ?_⟩
  have hs0:=Fal.sums hF.nn
  refine⟨_,rfl,a,rfl,⟨_,SqT.of ha⟩, ?_⟩
  refine zc1 (K:=K) (xs:=sh.map V.int) (fun r σ G=>∃(c2 c3 c4 c5:Option V),σ=[some (.ref a),some (.int (proR r fun i=>rwD (sh.getD i 0) (sh.drop (i+1)))),c2,c3,c4,c5]/\Same H G) ⟨_,_,_,_,rfl,.refl _⟩ ?_ ?_ ?_
  ·rintro r σ G _ ⟨c2,c3,c4,c5,rfl,sG⟩
   exact SqT.of (sG _ _ ha)
  ·rintro r x t σ G hxx ⟨c2,c3,c4,c5,rfl,sG⟩ ht
   have hr':r<sh.length:=by
    have:=(List.getElem?_eq_some_iff.mp hxx).1
    rwa [zai] at this
   rw[List.getElem?_map,List.getElem?_eq_getElem hr'] at hxx
   cases hxx
   have eg:sh.getD r 0=sh[r]:=by rw[List.getD_eq_getElem?_getD,List.getElem?_eq_getElem hr'];rfl
   have hx0:=hF.nn _ (List.getElem_mem hr')
   have hx1:=hs0.2 _ (List.getElem_mem hr')
   have st:=zac (o:=.tup [.int (r:Int),.int sh[r]]) ht
   have sT:=sG.trans st
   refine⟨t,_,rfl,SqT.of zab,rfl,_,_,rfl,_,_,rfl,rfl, ?_⟩
   refine⟨_,rfl,_,rfl,by (first|lia|omega),by (first|lia|omega), ?_⟩
   generalize hP:(proR r fun i=>rwD (sh.getD i 0) (sh.drop (i+1)))=Pr
   refine za7 (n:=(sh[r]).toNat) (fun p σ G'=>∃(c4 c5:Option V),σ=[some (.ref a),some (.int (Pr*proR p fun c=>sh[r]-(c:Int)+ctD (c:Int) (sh.drop (r+1)))),some (.int (r:Int)),some (.int sh[r]),c4,c5]/\Same H G') ⟨c4,c5,by rw[show proR 0 (fun c=>sh[r]-(c:Int)+ctD (c:Int) (sh.drop (r+1)))=1 from rfl,Int.mul_one];rfl,sT⟩ ?_ ?_
   ·rintro p σ G' hp ⟨c4,c5,rfl,sG'⟩
    refine⟨_,rfl,_,rfl,_,_,rfl,rfl,_,rfl,a,_,rfl,sG' _ _ ha,fun q1 G1 g1 hq1=>⟨q1,rfl,⟨_,SqT.of hq1⟩, ?_⟩⟩
    rw[show ((r:Int)+1)=((r+1:Nat):Int) by (first|lia|omega),zeV] at hq1
    have hdl:(sh.drop (r+1)).length<=60:=by rw[List.length_drop];(first|lia|omega)
    refine zdk (zbZ (xs:=(sh.drop (r+1)).map V.int)) (zaR (by rw[zai];(first|lia|omega))) (gtPN p) (fun _=>V.int 1) (fun _ s'=>SqT.of (s' _ _ hq1)) (fun x hx' G2 s2 Q' q=> ?_) (fun x hx' _ G2 s2 Q' q=>q) fun acc hacc=> ?_
    ·obtain ⟨o,_,rfl⟩:=List.mem_map.mp hx'
     refine⟨_,rfl,_,rfl,_,_,rfl,rfl,_,rfl, ?_⟩
     rw[Int.zero_add]
     exact q
    obtain⟨ns,hns,hsm⟩:=zhe p (sh.drop (r+1))
    rw[hns]
    refine⟨acc,ns,rfl,zab, ?_⟩
    rw[hsm]
    have sA:=zac (o:=.lst (ns.map V.int)) hacc
    have hb1:=zjm (p:Int) (sh.drop (r+1))
    have hb2:=zkZ (p:Int) (sh.drop (r+1))
    refine⟨_,rfl,_,rfl,_,rfl,_,_,rfl,rfl,_,rfl,_,_,rfl,rfl,_,_,rfl,rfl,.inr ⟨by (first|lia|omega),by (first|lia|omega)⟩, ?_⟩
    refine⟨some (.int (0+(p:Int))),some (.int (ctD (p:Int) (sh.drop (r+1)))), ?_,(sG'.trans g1).trans sA⟩
    show [some (V.ref a),some (V.int ((Pr*proR p fun c=>sh[r]-(c:Int)+ctD (c:Int) (sh.drop (r+1)))*(sh[r]-(0+(p:Int))+ctD (p:Int) (sh.drop (r+1))))),some (V.int (r:Int)),some (V.int sh[r]),some (V.int (0+(p:Int))),some (V.int (ctD (p:Int) (sh.drop (r+1))))]=_
    rw[Int.zero_add,Int.mul_assoc]
    rfl
   ·rintro σ G' ⟨c4,c5,rfl,sG'⟩
    have e:(proR (r+1) fun i=>rwD (sh.getD i 0) (sh.drop (i+1)))=Pr*proR (sh[r]).toNat fun c=>sh[r]-(c:Int)+ctD (c:Int) (sh.drop (r+1)):=by
     show proR r (fun i=>rwD (sh.getD i 0) (sh.drop (i+1)))*rwD (sh.getD r 0) (sh.drop (r+1))=_
     rw[hP,eg]
     rfl
    rw[e]
    exact⟨_,_,_,_,rfl,sG'⟩
  ·rintro σ G ⟨c2,c3,c4,c5,rfl,sG⟩
   rw[zai,<-zhc]
   have hm:=zm3 hF hsum
   refine⟨_,rfl,a,sh,rfl,SqT.of (sG _ _ ha),sh.sum.toNat, ?_,by (first|lia|omega), ?_⟩
   ·rw[Int.toNat_of_nonneg hs0.1]
   ·exact⟨_,rfl,_,_,rfl,rfl,hm,k G sG⟩
end
noncomputable abbrev zdb:Stmt:=top 23
section
variable {P:Program}{w:World}{K:PySem.W.Frag}{mg:Str->Option Value}{base:Heap}
theorem sc_turned:FnScope ["order", "greatest"] ["order"] (zaf zdb):=⟨rfl,rfl,rfl,by decide+kernel,rfl,by decide+kernel,by decide+kernel⟩
theorem zjs {f:Addr}{fd:FuncData}(F:Fun K "turned" "turned" zdb f fd)(T:Top mg):FnOk P w K mg base CX0 1 f fd ["order"] (spU fun ns=>ns.map (((ns.length:Int)-1)-·)):=by
 refine F.ok sc_turned (fun vs H Q E h=> ?_) (fun cdv A outer s H vs Q E hr h=> ?_)
 ·obtain ⟨a,ns,rfl,_⟩:=h
  rfl
 ·obtain ⟨a,ns,rfl,ha,hl,k⟩:=h
  refine⟨_,(zae (zam (i:=1) sc_turned.nd rfl (Or.inr rfl) (zaw zcs (zaq zat (by rfl) T.n_len PySem.boot_len (zaa (pv 0) zad)) zaj))
   (zag (zas (zao zar (by rfl) T.n_tuple boot_tuple (zaa (zb5 (N':=["number", "greatest"]) (n:=1) (ix:=[1]) rfl (CompScope.of (sc:=zaf zdb) (N:=["order", "greatest"]) (by decide+kernel) rfl rfl) (za2 (pv 0)) (fun _ _ _ _ _=>⟨(zal (i:=0) (show (["number", "greatest"]:List Str).Nodup by decide+kernel) rfl (Or.inl rfl)),zaK,(zaw zcs (pv 1) (pv 0))⟩)) zad))))), ?_⟩
  refine⟨_,rfl,a,_,rfl,.inr (SqT.of ha),_,_,rfl,rfl,_,rfl,a,rfl,⟨_,SqT.of ha⟩, ?_⟩
  refine zdk (zbZ (xs:=ns.map V.int)) (zaR (by rw[zai];exact hl)) (fun _=>true) (fun v=>match v with| .int i=>.int (((ns.map V.int).length:Int)-1-i)|v=>v) (fun H' s'=>SqT.of (s' _ _ ha)) (fun _ _ _ _ _ q=>q) (fun x hx _ H' s' Q' q=> ?_) fun acc hacc=> ?_
  ·obtain ⟨n,_,rfl⟩:=List.mem_map.mp hx
   exact⟨_,rfl,_,rfl,_,_,rfl,rfl,q⟩
  ·refine ⟨acc,_,rfl,.inl ⟨SqL.of zab,fun l hl'=> ?_⟩⟩
   refine k l _ ?_ ?_
   ·exact (zac hacc).trans (zac hl')
   ·rw[zab,zb9,zdm fun n=>rfl,zai]
end
end K88
namespace L2
open PySem PySem.Spec PyProof.Rows
noncomputable def insW (R:List (List Int))(w:List Int):List (List Int):=w.foldl (fun R x=>(putR R x).1) R
theorem zlW (R:List (List Int))(u v:List Int):insW R (u++v)=insW (insW R u) v:=List.foldl_append
noncomputable def K3 (u v:List Int):Prop:=∃p q s:Int,p<q/\q<s/\((u=[q,p,s]/\v=[q,s,p])∨(u=[p,s,q]/\v=[s,p,q]))
inductive Knu:List Int->List Int->Prop
 |refl (l:List Int):Knu l l
 |symm {l l':List Int}:Knu l l'->Knu l' l
 |trans {l l' l'':List Int}:Knu l l'->Knu l' l''->Knu l l''
 |k3 (a b:List Int) {u v:List Int}:K3 u v->Knu (a++u++b) (a++v++b)
theorem zjt:∀(w:List Int) (R:List (List Int)),Tab R->(R.flatten++w).Nodup->Tab (insW R w)/\(insW R w).flatten.Perm (R.flatten++w)
 |[],R,hT,_=>⟨hT,by rw[List.append_nil];exact .refl _⟩
 |x::w,R,hT,nd=>by
  have nd':=List.nodup_append.mp nd
  have nx:=List.nodup_cons.mp nd'.2.1
  obtain⟨t1,t2⟩:=zfU R x hT nd'.1 fun z=>nd'.2.2 x z x List.mem_cons_self rfl
  have p:((putR R x).1.flatten++w).Perm (R.flatten++x::w):=(t2.append_right w).trans List.perm_middle.symm
  obtain⟨i1,i2⟩:=zjt w (putR R x).1 t1 (p.nodup_iff.mpr nd)
  exact⟨i1,i2.trans p⟩
structure Lv (A:List (Int×Int)) (r s:List Int) (res:List (Int×Int)) (f:Int×Int->Nat):Prop where
 inc:Inc r
 len:s.length=r.length
 rb:∀p∈A,f p<r.length
 rmin:∀k,k<r.length->∃p∈A,f p=k/\p.2=r.getD k 0/\∀p'∈A,f p'=k->p.2<=p'.2
 smin:∀k,k<r.length->∃p∈A,f p=k/\p.1=s.getD k 0/\∀p'∈A,f p'=k->p.1<=p'.1
 ch:∀p∈A,∀p'∈A,p.1<p'.1->p.2<p'.2->f p<f p'
 pr:∀p∈A,f p=0∨∃p'∈A,p'.1<p.1/\p'.2<p.2/\f p'+1=f p
 rs:∀q,q∈res↔∃p∈A,∃p'∈A,f p=f p'/\p.1<p'.1/\q=(p'.1,p.2)/\∀p''∈A,f p''=f p->¬(p.1<p''.1/\p''.1<p'.1)
 srt:res.Pairwise fun p q=>p.1<q.1
 rx:∀x∈r,∃p∈A,p.2=x
theorem zju (ns:List Int):∀i,i<=ns.length->(tabI ns i).1=insW [] (ns.take i)
 |0,_=>by rw[List.take_zero];rfl
 | i+1,hi=>by
  rw[List.take_add_one,List.getElem?_eq_getElem (by (first|lia|omega))]
  show (putR (tabI ns i).1 (atO ns i)).1=insW [] (ns.take i++[ns[i]])
  rw[zlW,zju ns i (by (first|lia|omega))]
  show _=(putR (insW [] (ns.take i)) ns[i]).1
  have:atO ns i=ns[i]:=by
   unfold atO
   rw[Int.toNat_natCast,List.getD_eq_getElem?_getD,List.getElem?_eq_getElem (by (first|lia|omega))]
   rfl
  rw[this]
noncomputable def swpR (r:List Int)(y:Int):List Int×Int:=(r.set (cntL r y-1) y,r.getD (cntL r y-1) 0)
noncomputable def zba:List (List Int)->Nat->List (List Int)×Int
 |[],_=>([],0)
 |r::R,0=>(r.dropLast::R,r.getLastD 0)
 |r::R,k+1=>((swpR r (zba R k).2).1::(zba R k).1,(swpR r (zba R k).2).2)
noncomputable def full (R:List (List Int)):List (List Int):=R.filter fun r=> !r.isEmpty
theorem zlX {r:List Int}{x:Int}(hi:Inc r)(hx:x∉r)(hc:cntL r x<r.length):cntL (r.set (cntL r x) x) (r.getD (cntL r x) 0)=cntL r x+1:=by
 have hi':=ziJ hi hx hc
 have hg:=zj4 hi hx hc
 have hl:(r.set (cntL r x) x).length=r.length:=List.length_set
 have a1:=(zhM hi' (x:=r.getD (cntL r x) 0) (j:=cntL r x) (by (first|lia|omega))).mp (by rw[zeZ hc,if_pos rfl];exact hg)
 refine Nat.le_antisymm (Nat.not_lt.mp fun z=> ?_) a1
 have hle:=zfT (r.set (cntL r x) x) (r.getD (cntL r x) 0)
 have a2:=(zhM hi' (x:=r.getD (cntL r x) 0) (j:=cntL r x+1) (by (first|lia|omega))).mpr z
 rw[zeZ hc,if_neg (by (first|lia|omega))] at a2
 have:=incIff.mp hi (cntL r x) (cntL r x+1) (by (first|lia|omega)) (by (first|lia|omega))
 (first|lia|omega)
theorem zlY {r:List Int}{x:Int}(hi:Inc r)(hx:x∉r)(hc:cntL r x<r.length):swpR (r.set (cntL r x) x) (r.getD (cntL r x) 0)=(r,x):=by
 unfold swpR
 rw[zlX hi hx hc,Nat.add_sub_cancel,List.set_set,zeZ hc,if_pos rfl]
 have:r.set (cntL r x) (r.getD (cntL r x) 0)=r:=by
  rw[List.getD_eq_getElem?_getD,List.getElem?_eq_getElem hc]
  exact List.set_getElem_self hc
 rw[this]
structure TkP (R:List (List Int)) (k:Nat):Prop where
 tab:Tab (full (zba R k).1)
 put:putR (full (zba R k).1) (zba R k).2=(R,k)
 hd:∃(s:List Int) (R2:List (List Int)) (s':List Int) (R2':List (List Int)) (p:Nat),R=s::R2/\(zba R k).1=s'::R2'/\p<s.length/\(zba R k).2=s.getD p 0/\s'.length<=s.length/\(∀j,j<s'.length->s.getD j 0<=s'.getD j 0/\(p<=j->s.getD p 0<s'.getD j 0))/\(s'=[]->R2'=[])
theorem zjv {r:List Int}{R:List (List Int)}{x:Int}(c:cntL r x≠r.length):putR (r::R) x=(r.set (cntL r x) x::(putR R (r.getD (cntL r x) 0)).1,(putR R (r.getD (cntL r x) 0)).2+1):=if_neg c
noncomputable def lens (R:List (List Int)):List Nat:=R.map List.length
theorem zhf (ns:List Int)(x:Int):∀i,i<=ns.length->tabI (ns++[x]) i=tabI ns i
 |0,_=>rfl
 | i+1,hi=>by
  have e:atO (ns++[x]) i=atO ns i:=by
   unfold atO
   rw[Int.toNat_natCast,List.getD_eq_getElem?_getD,List.getD_eq_getElem?_getD,List.getElem?_append_left (by (first|lia|omega))]
  show ((putR (tabI (ns++[x]) i).1 (atO (ns++[x]) i)).1,zaF (tabI (ns++[x]) i).2 (putR (tabI (ns++[x]) i).1 (atO (ns++[x]) i)).2 i)=_
  rw[zhf ns x i (by (first|lia|omega)),e]
  rfl
theorem zkt (ns:List Int)(x:Int):atO (ns++[x]) ns.length=x:=by
 unfold atO
 rw[Int.toNat_natCast,List.getD_eq_getElem?_getD,List.getElem?_append_right (Nat.le_refl _),Nat.sub_self]
 rfl
noncomputable def zbS (Q:List (List Int))(p:Int):Nat:=Q.findIdx fun r=>decide (p∈r)
noncomputable def zlZ:List (List Int)->List Nat->List Int
 |_,[]=>[]
 |R,k::ks=>(zba R k).2::zlZ (zba R k).1 ks
theorem zhg:∀(k:Nat) (F E:List (List Int)),k<F.length->zba (F++E) k=((zba F k).1++E,(zba F k).2)
 |_,[],_,h=>by cases h
 |0,r::F,E,_=>rfl
 |k+1,r::F,E,h=>by
  show ((swpR r (zba (F++E) k).2).1::(zba (F++E) k).1,(swpR r (zba (F++E) k).2).2)=_
  rw[zhg k F E (by simpa using h)]
  rfl
theorem zjw (m:Nat):num0 (m+1)=num0 m++[(m:Int)]:=by
 unfold num0
 rw[List.range_succ,List.map_append]
 rfl
theorem zfp:∀(R:List (List Int)) (x:Int),Tab R->R.flatten.Nodup->x∉R.flatten->(putR R x).2<(putR R x).1.length/\(putR R x).2<=R.length/\∃E:List (List Int),(∀e∈E,e=[])/\zba (putR R x).1 (putR R x).2=(R++E,x)
 |[],x,_,_,_=>⟨Nat.zero_lt_one,Nat.le_refl _,[[]],fun e he=>List.mem_singleton.mp he,rfl⟩
 | r::R,x,hT,nd,hx=>by
  obtain⟨hi,hne,hA,hTR⟩:=hT
  rw[List.flatten_cons] at nd hx
  have hxr:x∉r:=fun z=>hx (List.mem_append_left _ z)
  have nd':=List.nodup_append.mp nd
  by_cases c:cntL r x=r.length
  ·have e1:putR (r::R) x=((r++[x])::R,0):=if_pos c
   rw[e1]
   refine⟨Nat.zero_lt_succ _,Nat.zero_le _,[],fun e he=>(by cases he), ?_⟩
   show ((r++[x]).dropLast::R,(r++[x]).getLastD 0)=_
   rw[List.dropLast_concat,List.append_nil]
   simp
  ·have hc:cntL r x<r.length:=by have:=zfT r x;(first|lia|omega)
   have hyF:r.getD (cntL r x) 0∉R.flatten:=fun z=>nd'.2.2 _ (memD hc) _ z rfl
   obtain⟨i1,i2,E,i3,i4⟩:=zfp R (r.getD (cntL r x) 0) hTR nd'.2.1 hyF
   rw[zjv c]
   refine⟨Nat.succ_lt_succ i1,Nat.succ_le_succ i2,E,i3, ?_⟩
   show ((swpR (r.set (cntL r x) x) (zba (putR R (r.getD (cntL r x) 0)).1 (putR R (r.getD (cntL r x) 0)).2).2).1::(zba (putR R (r.getD (cntL r x) 0)).1 (putR R (r.getD (cntL r x) 0)).2).1,(swpR (r.set (cntL r x) x) (zba (putR R (r.getD (cntL r x) 0)).1 (putR R (r.getD (cntL r x) 0)).2).2).2)=_
   rw[i4]
   show ((swpR (r.set (cntL r x) x) (r.getD (cntL r x) 0)).1::(R++E),(swpR (r.set (cntL r x) x) (r.getD (cntL r x) 0)).2)=_
   rw[zlY hi hxr hc]
   rfl
theorem zco (r:List Int)(Q:List (List Int))(p:Int):zbS (r::Q) p=if p∈r then 0 else zbS Q p+1:=by
 unfold zbS
 rw[List.findIdx_cons]
 by_cases c:p∈r
 ·rw [if_pos c]
  simp[c]
 ·rw [if_neg c]
  simp[c]
theorem zk0:∀(Q:List (List Int)) (k:Nat) (n:Int),k<=Q.length->n∉Q.flatten->zbS (zaF Q k n) n=k
 |[],k,n,hk,_=>by
  have:k=0:=by simpa using hk
  subst this
  show zbS [[n]] n=0
  rw[zco,if_pos (by simp)]
 |s::Q,0,n,_,_=>by
  show zbS ((s++[n])::Q) n=0
  rw[zco,if_pos (by simp)]
 |s::Q,k+1,n,hk,hn=>by
  show zbS (s::zaF Q k n) n=k+1
  rw[List.flatten_cons] at hn
  rw[zco,if_neg fun z=>hn (List.mem_append_left _ z),zk0 Q k n (by simpa using hk) fun z=>hn (List.mem_append_right _ z)]
theorem zk1:∀(Q:List (List Int)) (k:Nat) (n p:Int),p≠n->p∈Q.flatten->zbS (zaF Q k n) p=zbS Q p
 |[],_,_,_,_,h=>by cases h
 |s::Q,0,n,p,hp,h=>by
  show zbS ((s++[n])::Q) p=_
  rw[zco,zco]
  have:p∈s++[n]↔p∈s:=by simp[hp]
  by_cases c:p∈s
  ·rw[if_pos (this.mpr c),if_pos c]
  ·rw[if_neg fun z=>c (this.mp z),if_neg c]
 | s::Q,k+1,n,p,hp,h=>by
  show zbS (s::zaF Q k n) p=_
  rw[zco,zco]
  by_cases c:p∈s
  ·rw[if_pos c,if_pos c]
  ·rw [if_neg c,if_neg c,zk1 Q k n p hp]
   rw[List.flatten_cons] at h
   exact (List.mem_append.mp h).resolve_left c
theorem zhh:∀(Q:List (List Int)) (k:Nat) (n:Int),k<=Q.length->(zaF Q k n).flatten.Perm (n::Q.flatten)
 |[],_,_,_=>.refl _
 |s::Q,0,n,_=>by
  show ((s++[n])++Q.flatten).Perm (n::(s++Q.flatten))
  rw[List.append_assoc]
  exact List.perm_middle
 |s::Q,k+1,n,h=>by
  show (s++(zaF Q k n).flatten).Perm (n::(s++Q.flatten))
  exact (List.Perm.append_left s (zhh Q k n (by simpa using h))).trans List.perm_middle
theorem zhi:∀(Q:List (List Int)) (k:Nat) (n:Int),k<=Q.length->(zaF Q k n).length=if k=Q.length then Q.length+1 else Q.length
 |[],k,_,h=>by
  have:k=0:=by simpa using h
  subst this
  rfl
 |s::Q,0,n,_=>rfl
 |s::Q,k+1,n,h=>by
  show (zaF Q k n).length+1=_
  rw[zhi Q k n (by simpa using h),List.length_cons]
  split<;>split<;>(first|lia|omega)
theorem zhj:∀(R:List (List Int)) (x:Int),(putR R x).1.length=if (putR R x).2=R.length then R.length+1 else R.length
 |[],_=>rfl
 | r::R,x=>by
  by_cases c:cntL r x=r.length
  ·have e1:putR (r::R) x=((r++[x])::R,0):=if_pos c
   rw[e1]
   rfl
  ·rw [zjv c]
   show (putR R (r.getD (cntL r x) 0)).1.length+1=if (putR R (r.getD (cntL r x) 0)).2+1=R.length+1 then R.length+1+1 else R.length+1
   rw[zhj R]
   split<;>split<;>(first|lia|omega)
theorem zgi:∀(m:Nat) (ns:List Int),ns.length=m->ns.Nodup->(tabI ns m).1.length=(tabI ns m).2.length/\(tabI ns m).2.flatten.Perm (num0 m)/\∀E:List (List Int),zlZ ((tabI ns m).1++E) ((List.range m).reverse.map fun (j:Nat)=>zbS (tabI ns m).2 (j:Int))=ns.reverse
 |0,ns,h,_=>by
  have:ns=[]:=List.eq_nil_of_length_eq_zero h
  subst this
  exact⟨rfl,.refl _,fun _=>rfl⟩
 | m +1,ns,h,nd=>by
  rcases List.eq_nil_or_concat ns with e|⟨l,x,e⟩
  ·rw [e] at h
   cases h
  rw[List.concat_eq_append] at e
  subst e
  have hl:l.length=m:=by simpa using h
  have ndl:=List.nodup_append.mp nd
  obtain⟨i1,i2,i3⟩:=zgi m l hl ndl.1
  have hP:=zju l m (by (first|lia|omega))
  rw[List.take_of_length_le (by (first|lia|omega))] at hP
  have hI:=zjt l [] trivial (by simpa using ndl.1)
  have hT:Tab (tabI l m).1:=by rw[hP];exact hI.1
  have hperm:(tabI l m).1.flatten.Perm l:=by rw[hP];simpa using hI.2
  have ndP:(tabI l m).1.flatten.Nodup:=hperm.nodup_iff.mpr ndl.1
  have hx:x∉(tabI l m).1.flatten:=fun z=>ndl.2.2 x (hperm.mem_iff.mp z) x List.mem_cons_self rfl
  have ex:atO (l++[x]) m=x:=by
   have:=zkt l x
   rwa [hl] at this
  have et:tabI (l++[x]) (m+1)=((putR (tabI l m).1 x).1,zaF (tabI l m).2 (putR (tabI l m).1 x).2 (m:Int)):=by
   show ((putR (tabI (l++[x]) m).1 (atO (l++[x]) m)).1,zaF (tabI (l++[x]) m).2 (putR (tabI (l++[x]) m).1 (atO (l++[x]) m)).2 m)=_
   rw[zhf l x m (by (first|lia|omega)),ex]
  obtain⟨k1,k2,E',k3,k4⟩:=zfp _ x hT ndP hx
  have k2':(putR (tabI l m).1 x).2<=(tabI l m).2.length:=by (first|lia|omega)
  have mQ:(m:Int)∉(tabI l m).2.flatten:=fun z=>by
   have:=(mem_num0.mp (i2.mem_iff.mp z)).2
   (first|lia|omega)
  rw[et]
  refine⟨?_, ?_,fun E=> ?_⟩
  ·show (putR (tabI l m).1 x).1.length=(zaF (tabI l m).2 (putR (tabI l m).1 x).2 (m:Int)).length
   rw[zhj,zhi _ _ _ k2',i1]
  ·show (zaF (tabI l m).2 (putR (tabI l m).1 x).2 (m:Int)).flatten.Perm _
   rw[zjw]
   exact (zhh _ _ _ k2').trans ((List.Perm.cons _ i2).trans (List.perm_append_comm (l₁:=[(m:Int)])))
  ·rw [List.range_succ,List.reverse_append,List.map_append,List.reverse_append]
   show (zba ((putR (tabI l m).1 x).1++E) (zbS (zaF (tabI l m).2 (putR (tabI l m).1 x).2 (m:Int)) (m:Int))).2::zlZ (zba ((putR (tabI l m).1 x).1++E) (zbS (zaF (tabI l m).2 (putR (tabI l m).1 x).2 (m:Int)) (m:Int))).1 ((List.range m).reverse.map fun (j:Nat)=>zbS (zaF (tabI l m).2 (putR (tabI l m).1 x).2 (m:Int)) (j:Int))=x::l.reverse
   rw[zk0 _ _ _ k2' mQ,zhg _ _ _ k1,k4,List.append_assoc]
   have eq:((List.range m).reverse.map fun (j:Nat)=>zbS (zaF (tabI l m).2 (putR (tabI l m).1 x).2 (m:Int)) (j:Int))=(List.range m).reverse.map fun (j:Nat)=>zbS (tabI l m).2 (j:Int):=by
    refine List.map_congr_left fun j hj=>zk1 _ _ _ _ ?_ ?_
    ·have:=List.mem_range.mp (List.mem_reverse.mp hj)
     (first|lia|omega)
    ·have:=List.mem_range.mp (List.mem_reverse.mp hj)
     exact i2.mem_iff.mpr (mem_num0.mpr ⟨by (first|lia|omega),by (first|lia|omega)⟩)
   rw[eq,i3 (E'++E)]
theorem zjx {a b:List Int}(p:a.Perm b)(ha:a.Pairwise (·<=·))(hb:b.Pairwise (·<=·)):a=b:=
 p.eq_of_pairwise (fun x y _ _ h1 h2=>Int.le_antisymm h1 h2) ha hb
theorem zjy {m:Nat}{ns:List Int}(ho:Ord m ns){Ms:List Int}(hM:Paired (fun (r:List Int) M=>M∈r/\∀y∈r,y<=M) (zay ns) Ms):Ms.Perm ((wroR m ns).map hdI)/\(zay ns).length=(wroR m ns).length:=by
 have M:MetO ns m (zay ns):=by
  unfold zay
  rw[ho.len]
  exact zby ho (num0 m) (fun f hf=>zaP hf) zcb
 have rot:∀{A:List (List Int)} {Ms:List Int},(∀r∈A,∃x,IsRound ns x r)->Paired (fun (r:List Int) M=>M∈r/\∀y∈r,y<=M) A Ms->∃B,Paired RotM A B/\B.map hdI=Ms:=by
  intro A
  induction A with
  |nil=>
   intro Ms _ h
   cases h
   exact⟨[],.nil,rfl⟩
  | cons r A ih=>
   intro Ms hA h
   cases h with
   | @cons _ MX _ _ h1 h2=>
    obtain⟨B,b1,b2⟩:=ih (fun r hr=>hA r (List.mem_cons_of_mem _ hr)) h2
    have hj:r.idxOf MX<r.length:=List.idxOf_lt_length_of_mem h1.1
    have hg:r.getD (r.idxOf MX) 0=MX:=by
     rw[List.getD_eq_getElem?_getD,List.getElem?_eq_getElem hj,List.getElem_idxOf hj]
     rfl
    refine⟨(r.drop (r.idxOf MX)++r.take (r.idxOf MX))::B,.cons ⟨_,hj,rfl,fun y hy=>by rw[hg];exact h1.2 y hy⟩ b1, ?_⟩
    rw[List.map_cons,b2]
    congr 1
    obtain⟨x,hx⟩:=hA r List.mem_cons_self
    obtain⟨r1,r2⟩:=ze7 hx hj
    rw[r1.hd.1]
    rw[List.getD_eq_getElem?_getD,r2] at hg
    exact hg
 obtain⟨B,hB,e⟩:=rot (fun r hr=>by
  obtain⟨f,f0,f1,rfl⟩:=M.row r hr
  exact⟨f,zcx ho ⟨f0,f1⟩⟩) hM
 obtain⟨C,hC,sC⟩:∃C:List (List Int),C.Perm B/\C.Pairwise fun a b=>HT.lexLt b a=false:=by
  refine⟨B.mergeSort (fun a b=> !HT.lexLt b a),List.mergeSort_perm _ _, ?_⟩
  have:=List.pairwise_mergeSort (le:=fun a b=> !HT.lexLt b a) (fun a b c h1 h2=> ?_) (fun a b=> ?_) B
  ·exact this.imp fun h=>by simpa using h
  ·cases h3:HT.lexLt c a with
   |false=>rfl
   |true=>
    rcases Srt.lex_neg c b a h3 with h|h
    ·rw[h] at h2;cases h2
    ·rw[h] at h1;cases h1
  ·cases h1:HT.lexLt b a with
   |false=>rfl
   | true=>
    cases h2:HT.lexLt a b with
    |false=>rfl
    |true=>
     have:=Srt.lex_trans a b a h2 h1
     rw[Srt.lex_irr] at this
     cases this
 have hW:=zkR ho (zi1 ho rfl hB hC sC)
 subst hW
 refine⟨?_, ?_⟩
 ·rw [<-e]
  exact (hC.map hdI).symm
 ·rw[hC.length_eq,<-Paired.length hB]
theorem zk2:∀(r:List Int),r≠[]->∃M,M∈r/\∀y∈r,y<=M
 |[],h=>absurd rfl h
 |[x],_=>⟨x,List.mem_singleton.mpr rfl,fun y hy=>by rw[List.mem_singleton.mp hy];exact Int.le_refl _⟩
 |x::y::t,_=>by
  obtain⟨M,h1,h2⟩:=zk2 (y::t) (fun c=>by cases c)
  by_cases c:x<=M
  ·exact⟨M,List.mem_cons_of_mem _ h1,fun z hz=>by
    rcases List.mem_cons.mp hz with rfl|hz
    ·exact c
    ·exact h2 z hz⟩
  ·exact⟨x,List.mem_cons_self,fun z hz=>by
    rcases List.mem_cons.mp hz with rfl|hz
    ·exact Int.le_refl _
    ·have:=h2 z hz;(first|lia|omega)⟩
theorem zjz:∀{A:List (List Int)},(∀r∈A,r≠[])->∃Ms,Paired (fun (r:List Int) M=>M∈r/\∀y∈r,y<=M) A Ms
 |[],_=>⟨[],.nil⟩
 |r::A,h=>by
  obtain⟨M,hM⟩:=zk2 r (h r List.mem_cons_self)
  obtain⟨Ms,hMs⟩:=zjz (A:=A) fun r hr=>h r (List.mem_cons_of_mem _ hr)
  exact⟨M::Ms,.cons hM hMs⟩
theorem zl0 {m:Nat}{ns:List Int}(ho:Ord m ns):(zay ns).length=(wroR m ns).length:=by
 have M:MetO ns m (zay ns):=by
  unfold zay
  rw[ho.len]
  exact zby ho (num0 m) (fun f hf=>zaP hf) zcb
 obtain⟨Ms,h⟩:=zjz (A:=zay ns) fun r hr=>by
  obtain⟨f,f0,f1,rfl⟩:=M.row r hr
  obtain⟨⟨k,e,_⟩,_⟩:=zcx ho ⟨f0,f1⟩
  intro c
  rw[c] at e
  have:=congrArg List.length e
  rw[zbx] at this
  cases this
 exact (zjy ho h).2
theorem zfq {m:Nat}{ns:List Int}(ho:Ord m ns):zbF (wroR m ns).flatten=((zay ns).length:Int):=by
 rw[zi3,zi2 _ _ rfl (zkT (ze4 ho)),List.length_map,zl0 ho]
theorem zhT {m k:Nat}{b:List Int}(hb:b∈zdC m [[]] k){x:Int}(hx:x∈zb7 m b):b++[x]∈zdC m [[]] (k+1):=
 List.mem_flatMap.mpr ⟨b,hb,List.mem_map.mpr ⟨x,hx,rfl⟩⟩
theorem zdR {m:Nat}{ys:List Int}(h:Ord m ys):∀j,j<=m->ys.take j∈zdC m [[]] j
 |0,_=>by rw[List.take_zero];exact List.mem_singleton.mpr rfl
 |j+1,hj=>by
  have ln:ys.length=m:=h.len
  have hjl:j<ys.length:=by (first|lia|omega)
  have e:ys.take (j+1)=ys.take j++[ys[j]]:=by rw[List.take_succ,List.getElem?_eq_getElem hjl];rfl
  rw[e]
  refine zhT (zdR h j (by (first|lia|omega))) ?_
  unfold zb7
  refine List.mem_filter.mpr ⟨h.subset (List.getElem_mem hjl), ?_⟩
  rw[decide_eq_true_eq]
  intro z
  have nd:(ys.take (j+1)).Nodup:=List.Nodup.sublist (List.take_sublist _ _) h.nodup
  rw[e] at nd
  exact (List.nodup_append.mp nd).2.2 _ z _ (by simp) rfl
theorem zhk {m:Nat}{ys:List Int}(h:Ord m ys):ys∈allA m:=by
 have:=zdR h m (Nat.le_refl m)
 rw[List.take_of_length_le (by rw[h.len];exact Nat.le_refl m)] at this
 exact this
theorem zav {m:Nat}{o:List Int}(h:o∈allA m):Ord m o/\o.length=m:=by
 have:=(zcz m m).1 o h
 exact⟨this.ord,this.len⟩
noncomputable def upL:List (List Int)->Bool
 |a::b::t=>HT.lexLt a b&&upL (b::t)
 |_=>true
theorem zl1:∀{L:List (List Int)},upL L=true->L.Pairwise fun a b=>HT.lexLt a b=true
 |[],_=>.nil
 |[a],_=>List.pairwise_singleton _ _
 |a::b::t,h=>by
  have h':(HT.lexLt a b&&upL (b::t))=true:=h
  rw[Bool.and_eq_true] at h'
  have ih:=zl1 h'.2
  refine List.Pairwise.cons (fun y hy=> ?_) ih
  rcases List.mem_cons.mp hy with rfl|hy
  ·exact h'.1
  ·exact Srt.lex_trans _ _ _ h'.1 (List.rel_of_pairwise_cons ih hy)
theorem zjA:∀m<6,upL (allA m)=true:=by decide+kernel
theorem zjB {m:Nat}(h:m<6):(allA m).Nodup:=(zl1 (zjA m h)).imp fun {a b} e c=>by subst c;rw[Srt.lex_irr] at e;cases e
theorem zku {m:Nat}(h:m<6):(allA m).Pairwise fun a b=>HT.lexLt b a=false:=(zl1 (zjA m h)).imp fun {a b} e=>by
 cases c:HT.lexLt b a with
 |false=>rfl
 |true=>
  have:=Srt.lex_trans a b a e c
  rw[Srt.lex_irr] at this
  cases this
theorem zb4 {m:Nat}(h:m<6){f g:List Int->List Int}(hf:∀o,Ord m o->Ord m (f o)/\g (f o)=o)(hg:∀o,Ord m o->Ord m (g o)/\f (g o)=o):((allA m).map f).Perm (allA m):=by
 have nd:=zjB h
 refine (List.perm_ext_iff_of_nodup ?_ nd).mpr fun y=>⟨fun hy=> ?_,fun hy=> ?_⟩
 ·refine List.pairwise_map.mpr (List.Pairwise.imp_of_mem (fun {a b} ha hb e c=>e ?_) nd)
  rw[<-(hf a (zav ha).1).2,c,(hf b (zav hb).1).2]
 ·obtain ⟨o,ho,rfl⟩:=List.mem_map.mp hy
  exact zhk (hf o (zav ho).1).1
 ·have:=hg y (zav hy).1
  exact List.mem_map.mpr ⟨g y,zhk this.1,this.2⟩
theorem zhU {m:Nat}(h:m<6){R:List (List Int)}(p:R.Perm (allA m))(s:R.Pairwise fun a b=>HT.lexLt b a=false):R=allA m:=
 p.eq_of_pairwise (fun x y _ _ h1 h2=>Srt.lex_tot x y h2 h1) s (zku h)
theorem zm4 {m:Nat}(h:2<=(allA m).length){o:List Int}(ho:Ord m o):o≠[]:=fun c=>by
 subst c
 have:=ho.len
 have:m=0:=by simpa using this.symm
 subst this
 exact absurd h (by decide)
theorem zcF {m:Nat}{o:List Int}(ho:Ord m o):Ord m (wroR m o).flatten/\zbO m (cutH (wroR m o).flatten)=o:=
 ⟨(ze4 ho).all,by rw[ziY (zkT (ze4 ho))];exact zkf ho (ze4 ho)⟩
theorem zdc {m:Nat}{o:List Int}(ho:Ord m o):Ord m (zbO m (cutH o))/\(wroR m (zbO m (cutH o))).flatten=o:=by
 have hc2:=zeh _ o rfl ho.nodup
 have hp2:(cutH o).flatten.Perm (num0 m):=by rw[hc2.2];exact ho
 have hJo:=zke hp2
 exact⟨hJo,by rw[<-zkR hJo (zlK hp2 hc2.1)];exact hc2.2⟩
theorem zhl {m:Nat}{o:List Int}(ho:Ord m o):Ord m (invO o)/\invO (invO o)=o:=⟨ho.inv,zlr ho⟩
theorem zhm {m:Nat}{o:List Int}(ho:Ord m o):Ord m o.reverse/\o.reverse.reverse=o:=⟨(List.reverse_perm o).trans ho,List.reverse_reverse o⟩
theorem zhn {m:Nat}{o:List Int}(ho:Ord m o):Ord m (o.map (((o.length:Int)-1)-·))/\(o.map (((o.length:Int)-1)-·)).map ((((o.map (((o.length:Int)-1)-·)).length:Int)-1)-·)=o:=by
 have ln:=ho.len
 refine⟨?_, ?_⟩
 ·refine zb1 ?_ (zaD m) fun y=>⟨fun hy=> ?_,fun hy=> ?_⟩
  ·exact List.pairwise_map.mpr (ho.nodup.imp fun {a b} e c=>e (by (first|lia|omega)))
  ·obtain ⟨x,hx,rfl⟩:=List.mem_map.mp hy
   have:=ho.rng x hx
   exact mem_num0.mpr (by (first|lia|omega))
  ·have:=mem_num0.mp hy
   exact List.mem_map.mpr ⟨(o.length:Int)-1-y,ho.mem.mpr (by (first|lia|omega)),by (first|lia|omega)⟩
 ·rw [List.map_map,List.length_map]
  conv=>rhs;rw[<-List.map_id o]
  exact List.map_congr_left fun x _=>by show _-1-(_-1-x)=x;(first|lia|omega)
theorem zl2 {m:Nat}{a b:List Int}(ha:Ord m a)(hb:Ord m b)(e:tabI a m=tabI b m):a=b:=by
 obtain⟨_,_,h1⟩:=zgi m a ha.len ha.nodup
 obtain⟨_,_,h2⟩:=zgi m b hb.len hb.nodup
 have g1:=h1 []
 have g2:=h2 []
 rw[e] at g1
 exact List.reverse_inj.mp (g1.symm.trans g2)
theorem zl3 {m:Nat}(h:m<6):((allA m).map fun o=>tabI o m).Nodup:=by
 refine List.pairwise_map.mpr (List.Pairwise.imp_of_mem (fun {a b} ha hb e c=>e ?_) (zjB h))
 exact zl2 (zav ha).1 (zav hb).1 c
noncomputable def falB:List Int->Bool
 |a::b::t=>decide (b<=a)&&falB (b::t)
 |_=>true
theorem zk3:∀{sh:List Int},falB sh=true->sh.Pairwise fun a b=>b<=a
 |[],_=>.nil
 |[a],_=>List.pairwise_singleton _ _
 |a::b::t,h=>by
  have h':(decide (b<=a)&&falB (b::t))=true:=h
  rw[Bool.and_eq_true,decide_eq_true_eq] at h'
  have ih:=zk3 h'.2
  refine List.Pairwise.cons (fun y hy=> ?_) ih
  rcases List.mem_cons.mp hy with rfl|hy
  ·exact h'.1
  ·exact Int.le_trans (List.rel_of_pairwise_cons ih hy) h'.1
theorem zm5 {sh:List Int}(h:falB sh=true)(h2:∀x∈sh,0<=x):Fal sh:=⟨zk3 h,h2⟩
theorem zm6:∀m<6,(((shZy m m).map fun sh=>filZ sh*filZ sh).sum=((allA m).length:Int))/\((shZy m m).all fun sh=>falB sh&&sh.all (fun x=>decide (0<=x))&&decide (sh.length<=60)&&decide (sh.sum<=60)&&decide (0<=filZ sh)&&decide (filZ sh<1000))=true/\(shZy m m).length<=100:=by decide+kernel
end L2
namespace Srt
open PySem PyProof.Rows
noncomputable def lexG {β:Type}[DecidableEq β](lt:β->β->Bool):List β->List β->Bool
 |[],[]=>false
 |[],_::_=>true
 |_::_,[]=>false
 |x::xs,y::ys=>if x=y then lexG lt xs ys else lt x y
section
variable {β:Type}[DecidableEq β]{lt:β->β->Bool}
theorem zbT (x y:β)(xs ys:List β):lexG lt (x::xs) (y::ys)=if x=y then lexG lt xs ys else lt x y:=rfl
theorem zho:∀a:List β,lexG lt a a=false
 |[]=>rfl
 |x::a=>by rw[zbT,if_pos rfl];exact zho a
theorem zez (ht:∀a b,lt a b=false->lt b a=false->a=b):∀a b:List β,lexG lt a b=false->lexG lt b a=false->a=b
 |[],[],_,_=>rfl
 |[],_::_,h,_=>nomatch h
 |_::_,[],_,h=>nomatch h
 | x::a,y::b,h1,h2=>by
  rw[zbT] at h1 h2
  by_cases c:x=y
  ·subst c
   rw[if_pos rfl] at h1 h2
   rw[zez ht a b h1 h2]
  ·rw [if_neg c] at h1
   rw[if_neg (Ne.symm c)] at h2
   exact absurd (ht _ _ h1 h2) c
theorem zcP (hi:∀a,lt a a=false)(hr:∀a b c,lt a b=true->lt b c=true->lt a c=true):∀a b c:List β,lexG lt a b=true->lexG lt b c=true->lexG lt a c=true
 |[],[],_,h,_=>nomatch h
 |[],_::_,[],_,h=>nomatch h
 |[],_::_,_::_,_,_=>rfl
 |_::_,[],_,h,_=>nomatch h
 |_::_,_::_,[],_,h=>nomatch h
 | x::a,y::b,z::c,h1,h2=>by
  rw[zbT] at h1 h2 ⊢
  by_cases c1:x=y
  ·subst c1
   rw[if_pos rfl] at h1
   by_cases c2:x=z
   ·rw [if_pos c2] at h2 ⊢
    exact zcP hi hr a b c h1 h2
   ·rw [if_neg c2] at h2 ⊢
    exact h2
  ·rw [if_neg c1] at h1
   by_cases c2:y=z
   ·subst c2
    rw[if_neg c1]
    exact h1
   ·rw [if_neg c2] at h2
    have h3:=hr _ _ _ h1 h2
    rw[if_neg (fun e=>by subst e;rw[hi] at h3;cases h3)]
    exact h3
end
noncomputable def zgj (O:KeyOrd)(_:DecidableEq O.α):KeyOrd where
 α:=List O.α
 blt:=lexG O.blt
 irrefl:=zho
 trans:=zcP O.irrefl O.trans
 negTrans:=fun a b c h=>by
  cases h1:lexG O.blt a b with
  |true=>exact .inl rfl
  | false=>
   cases h2:lexG O.blt b a with
   |true=>exact .inr (zcP O.irrefl O.trans b a c h2 h)
   |false=>
    rw[<-zez O.total a b h1 h2]
    exact .inr h
 total:=zez O.total
structure El where
 O:KeyOrd
 dec:DecidableEq O.α
 dat:O.α->PyData
 rel:Heap->Value->O.α->Prop
 k:Nat
 rd:∀{h v a},rel h v a->∃as,Reads h v (dat a) as
 lay:∀a,PyData.canLay0 (dat a)=true
 dep:∀a,(dat a).depth<=k
 eqv:∀a b,PyData.eqv (dat a) (dat b)=true↔a=b
 lt:∀{prog:Program} {w:World} {A:Around} {E:Value->Shared->Prop} {s:Shared} {x y:Value} {a b:O.α} {Q:Value->Shared->Prop},rel s.heap x a->rel s.heap y b->A.units+k<cLine->Q (.bool (O.blt a b)) s->wpAny (model prog w) A (richCompare .Lt x y) Q E s
theorem El.eqB (e:El)(A:Around){s:Shared}{x y:Value}{a b:e.O.α}(hx:e.rel s.heap x a)(hy:e.rel s.heap y b)(hu:A.units+e.k<cLine):∃c,SeqAt.EqAt A s x y c/\(c=true↔a=b):=by
 obtain⟨as,ra⟩:=e.rd hx
 obtain⟨bs,rb⟩:=e.rd hy
 exact⟨_,SeqAt.eqAt_reads (e.dat a) (e.dat b) A s x y as bs ra rb (e.lay a) (e.lay b) (by have:=e.dep a;(first|lia|omega)),e.eqv a b⟩
noncomputable def intE:El where
 O:=intO
 dec:=inferInstanceAs (DecidableEq Int)
 dat:=PyData.int
 rel:=fun _ v i=>∃t,v=.int i t
 k:=0
 rd:=by rintro h v a ⟨t,rfl⟩;exact⟨_,.int _ t⟩
 lay:=fun _=>rfl
 dep:=fun _=>Nat.le_refl _
 eqv:=fun (a b:Int)=>show ((a==b)=true↔a=b) from beq_iff_eq
 lt:=by
  rintro prog w A E s x y a b Q ⟨t,rfl⟩ ⟨u,rfl⟩ _ q
  exact (PyProof.Rows.lt_int q:wpAny (model prog w) A (compareOp .Lt (.int a t) (.int b u)) Q E s)
section
open PySem.SeqAt
open PySem.AutoSeq1 (wpAny_loadPart')
open PySem.MeetsSeq PySem.MeetsSeq2 PySem.MeetsSeq3
theorem zfr (e:El)(l b:Addr)(items items2:Array Value)(n n2:Nat)(dd dd2:Option Addr)(sl sl2:Array (Option Value))(ns ms:List e.O.α):
  Meets (Builtin.«tuple.__lt__» ⟨[.ref l,.ref b],[]⟩)
   (fun A R s=>A.units+1+e.k<cLine/\Paired (e.rel s.heap) items.toList ns/\Paired (e.rel s.heap) items2.toList ms/\s.heap.get? l=some {cls:=.type "tuple",dict:=dd,data:=.seq items n,slots:=sl}/\s.heap.get? b=some {cls:=.type "tuple",dict:=dd2,data:=.seq items2 n2,slots:=sl2}/\
    R (.ok (.ret (.bool ((zgj e.O e.dec).blt ns ms)))) s):=
 .of_wp fun prog w A R s h=>by
  obtain⟨hp,g,d,tk,os⟩:=s;obtain⟨hu,hi,hj,hl,hb,h⟩:=h
  have f2:=AutoSeq1.sub_tuple_tuple
  have z1:items.size=ns.length:=by rw[<-hi.length];simp
  have z2:items2.size=ms.length:=by rw[<-hj.length];simp
  have:DecidableEq e.O.α:=e.dec
  wp_walk using wpAny_loadPart' hl,wpAny_loadPart' hb
  refine wpAny_forIn_list _ (fun rest b s'=>b.1=none/\s'=⟨hp,g,d,tk,os⟩/\∃(vs ws:List Value) (ns' ms':List e.O.α),rest=vs.zip ws/\
   Paired (e.rel hp) vs ns'/\Paired (e.rel hp) ws ms'/\ns'.length+items2.size=ms'.length+items.size/\R (.ok (.ret (.bool ((zgj e.O e.dec).blt ns' ms')))) ⟨hp,g,d,tk,os⟩) _ ?zturn ?zfin _ _ ?zh
  case zturn=>
   rintro⟨y,x⟩ rest b s' ⟨hb',rfl,vs,ws,ns',ms',hz,hvi,hwi,hlen,hR⟩
   cases hvi with
   |nil=>rw[List.zip_nil_left] at hz;cases hz
   | @cons v1 a v2 a2 t hvi'=>
    cases hwi with
    |nil=>rw[List.zip_nil_right] at hz;cases hz
    | @cons w1 c w2 c2 u hwi'=>
     rw[List.zip_cons_cons] at hz
     injection hz with hyx hrest
     injection hyx with hy hx
     subst hy hx
     have hR:R (.ok (.ret (.bool (if @Decidable.decide (a=c) (e.dec a c)=true then (zgj e.O e.dec).blt a2 c2 else e.O.blt a c)))) ⟨hp,g,d,tk,os⟩:=by
      have e2:(zgj e.O e.dec).blt (a::a2) (c::c2)=if @Decidable.decide (a=c) (e.dec a c)=true then (zgj e.O e.dec).blt a2 c2 else e.O.blt a c:=by
       show @lexG _ e.dec _ _ _=_
       rw[@zbT _ e.dec]
       by_cases q:a=c
       ·rw[if_pos q,if_pos (by simpa using q)];rfl
       ·rw[if_neg q,if_neg (by simpa using q)]
      rw[<-e2]
      exact hR
     simp only[List.length_cons] at hlen
     obtain⟨k,he,hiff⟩:=e.eqB A.in1 (s:=⟨hp,g,d,tk,os⟩) t u hu
     refine wpAny_bind (he prog w _ _ ?_)
     cases k with
     |true=>
      rw[if_pos (by simpa using hiff.mp rfl)] at hR
      wp_walk
      exact⟨rfl,rfl,_,_,_,_,hrest,hvi',hwi',by (first|lia|omega),hR⟩
     |false=>
      rw[if_neg (fun q=>absurd (hiff.mpr (by simpa using q)) Bool.false_ne_true)] at hR
      have hri:∀(E:Value->Shared->Prop) (Q:Value->Shared->Prop),Q (.bool (e.O.blt a c)) ⟨hp,g,d,tk,os⟩->wpAny (model prog w) A.in1 (richCompare .Lt y x) Q E ⟨hp,g,d,tk,os⟩:=fun E Q q=>e.lt t u hu q
      wp_walk using hri
      exact⟨_,rfl,by simpa using hR⟩
  case zfin=>
   rintro⟨b1,b2⟩ s' ⟨hb',rfl,vs,ws,ns',ms',hz,hvi,hwi,hlen,hR⟩
   simp only at hb'
   subst hb'
   have hv:(zgj e.O e.dec).blt ns' ms'=decide (items.size<items2.size):=by
    cases hvi with
    | nil=>
     cases hwi with
     |nil=>
      simp only[List.length_nil] at hlen
      exact (decide_eq_false (by (first|lia|omega))).symm
     |cons u hw=>
      simp only[List.length_nil,List.length_cons] at hlen
      exact (decide_eq_true (by (first|lia|omega))).symm
    | cons t hv=>
     cases hwi with
     |nil=>
      simp only[List.length_nil,List.length_cons] at hlen
      exact (decide_eq_false (by (first|lia|omega))).symm
     |cons u hw=>
      rw[List.zip_cons_cons] at hz
      cases hz
   rw[hv] at hR
   wp_walk
   exact⟨_,rfl,by simpa [Builtin.Tuple.tupleCompareSizes] using hR⟩
  case zh=>
   exact⟨rfl,rfl,items.toList,items2.toList,ns,ms,rfl,hi,hj,by (first|lia|omega),h⟩
end
theorem zdS {β:Type}{d:β->PyData}(h:∀a b,PyData.eqv (d a) (d b)=true↔a=b):∀xs ys:List β,PyData.eqvAll (xs.map d) (ys.map d)=true↔xs=ys
 |[],[]=>by simp[PyData.eqvAll]
 |[],_::_=>by simp[PyData.eqvAll]
 |_::_,[]=>by simp[PyData.eqvAll]
 |a::r,b::t=>by
  simp only[List.map_cons,PyData.eqvAll,Bool.and_eq_true,h a b,zdS h r t,List.cons.injEq]
theorem zdT {β:Type}{d:β->PyData}(h:∀a,PyData.canLay0 (d a)=true):∀xs:List β,PyData.canLayAll0 (xs.map d)=true
 |[]=>rfl
 |a::r=>by simp[PyData.canLayAll0,h a,zdT h r]
theorem zdU {β:Type}{d:β->PyData}{k:Nat}(h:∀a,(d a).depth<=k):∀xs:List β,PyData.depthAll (xs.map d)<=k
 |[]=>Nat.zero_le _
 |a::r=>by
  have:=h a
  have:=zdU h r
  simp only[List.map_cons,PyData.depthAll]
  (first|lia|omega)
theorem zcV (e:El){h:Heap}:∀{vs:List Value} {ds:List e.O.α},Paired (e.rel h) vs ds->∃as,ReadsAll h vs (ds.map e.dat) as
 |_,_,.nil=>⟨_,.nil⟩
 |_,_,.cons p q=>by
  obtain⟨as,r⟩:=e.rd p
  obtain⟨bs,rs⟩:=zcV e q
  exact⟨_,.cons r rs⟩
noncomputable def tupE (e:El):El where
 O:=zgj e.O e.dec
 dec:=@instDecidableEqList _ e.dec
 dat:=fun ds=>.tuple (ds.map e.dat)
 rel:=fun h v ds=>∃a o xs n,v=.ref a/\h.get? a=some o/\o.cls=.type "tuple" /\o.data=.seq xs n/\Paired (e.rel h) xs.toList ds
 k:=e.k+1
 rd:=by
  rintro h v ds ⟨a,o,xs,n,rfl,ho,hc,hd,hp⟩
  obtain⟨as,r⟩:=zcV e hp
  exact⟨_,.tuple ho hc hd r⟩
 lay:=fun a=>by simp only[PyData.canLay0];exact zdT e.lay a
 dep:=fun a=>by
  have:=zdU e.dep a
  simp only[PyData.depth]
  (first|lia|omega)
 eqv:=fun a b=>by simp only[PyData.eqv];exact zdS e.eqv a b
 lt:=by
  rintro prog w A E s x y a b Q ⟨l,o,xs,n,rfl,ho,hc,hd,hp⟩ ⟨l2,o2,xs2,n2,rfl,ho2,hc2,hd2,hp2⟩ hu q
  obtain⟨cls,dd,data,sl⟩:=o
  obtain⟨cls2,dd2,data2,sl2⟩:=o2
  simp only at hc hd hc2 hd2
  subst hc hd hc2 hd2
  exact richCompare_meets_room (op:=.Lt) ⟨_,ho,rfl⟩ ⟨_,ho2,rfl⟩ PySem.F.slot_tuple_lt PySem.F.entry_tuple_lt (PySem.F.args_tuple_lt_2 _ _) (zfr e l l2 xs xs2 n n2 dd dd2 sl sl2 a b)
   ⟨by (first|lia|omega),hp,hp2,ho,ho2,show Value.bool _≠Value.notImplemented/\Q (.bool _) s from ⟨(fun x=>nomatch x),q⟩⟩ (by (first|lia|omega))
theorem els_kind (e:El){prog:Program}{w:World}{A:Around}{E:Value->Shared->Prop}{s:Shared}{vs:List Value}{dss:List (List (List e.O.α))}{Q:SortKind->Shared->Prop}(hv:Paired (fun v ds=>(tupE (tupE e)).rel s.heap v ds) vs dss)(h2:2<=vs.length)(hne:∀ds∈dss,ds≠[])
  (q:Q (tuples' false) s):wpAny (model prog w) A (keyKind' vs.toArray) Q E s:=by
 have key:∃fs:List Value,PySem.W.KatTups s.heap vs fs/\fs.length=vs.length/\∀v∈fs,∃a o,v=Value.ref a/\s.heap.get? a=some o/\o.cls=.type "tuple" :=by
  clear h2 q
  induction hv with
  |nil=>exact⟨[],PySem.W.KatTups.nil,rfl,fun _ h=>by cases h⟩
  | @cons v ns vs' nss' p _ ih=>
   obtain⟨fs,f1,f2,f3⟩:=ih fun ns h=>hne ns (List.mem_cons_of_mem _ h)
   obtain⟨a,o,xs,n,rfl,ho,hc,hd,hi⟩:=p
   have:=hne ns List.mem_cons_self
   have hx:∃f b ob,xs[0]? =some f/\f=.ref b/\s.heap.get? b=some ob/\ob.cls=.type "tuple" :=by
    rw[<-Array.getElem?_toList]
    generalize xs.toList=l at hi
    cases hi with
    |nil=>exact absurd rfl this
    |cons x t=>
     obtain⟨b,ob,_,_,e1,e2,e3,_⟩:=x
     exact⟨_,b,ob,rfl,e1,e2,e3⟩
   obtain⟨f,b,ob,hx,e1,e2,e3⟩:=hx
   refine⟨f::fs,PySem.W.KatTups.cons ho hc hd hx f1,by simp[f2],fun v hv=> ?_⟩
   rcases List.mem_cons.mp hv with rfl|hv
   ·exact⟨b,ob,e1,e2,e3⟩
   ·exact f3 v hv
 obtain⟨fs,f1,f2,f3⟩:=key
 refine PySem.W.kat_kind (T:=.type "tuple") f1 (by (first|lia|omega)) (fun v hv=> ?_) (by decide) q
 obtain⟨a,o,rfl,h1,h2⟩:=f3 v hv
 exact h2▸((PySem.W.Looks.ld h1).andThen .now:PySem.W.Looks (model prog w) s.heap (typeOf (.ref a)) o.cls)
section
variable {prog:Program}{w:World}{A:Around}{E:Value->Shared->Prop}{s:Shared}
theorem zjC (e:El){Q:Bool->Shared->Prop}:∀{xs ys:List Value} {ns ms:List e.O.α} (i:Nat),Paired (e.rel s.heap) xs ns->Paired (e.rel s.heap) ys ms->A.units+e.k<cLine->Q ((tupE e).O.blt ns ms) s->PySem.W.KatLex prog w A false (decide (xs.length<ys.length)) Q (xs.zip ys) i s
 |[],[],_,_,i,.nil,.nil,_,q=>PySem.W.kat_nil q
 |[],_::_,_,_,i,.nil,.cons _ _,_,q=>PySem.W.kat_nil q
 |_::_,[],_,_,i,.cons _ _,.nil,_,q=>PySem.W.kat_nil q
 | x::xs,y::ys,a::_,b::_,i,.cons h h1,.cons g h2,hu,q=>by
  rw[List.zip_cons_cons]
  have e0:decide ((x::xs).length<(y::ys).length)=decide (xs.length<ys.length):=by simp
  rw[e0]
  obtain⟨c,hc,hiff⟩:=e.eqB A h g hu
  refine PySem.W.kat_cons (hc prog w _ _ ?_)
  replace q:Q (@lexG _ e.dec e.O.blt (a::_) (b::_)) s:=q
  rw[@zbT _ e.dec] at q
  cases c with
  |true=>
   rw[if_pos (hiff.mp rfl)] at q
   exact PySem.W.kat_yes (zjC e (i+1) h1 h2 hu q)
  |false=>
   rw[if_neg (fun z=>by rw[hiff.mpr z] at hc;exact absurd (hiff.mpr z) (by decide))] at q
   refine PySem.W.kat_no ?_
   exact PySem.W.kat_one _ _ (e.lt h g hu q)
open Classical in
noncomputable def keyO (e:El)(d0:e.O.α)(h:Heap)(v:Value):e.O.α:=if x:∃d,e.rel h v d then x.choose else d0
theorem zhp {e:El}{d0:e.O.α}{h:Heap}{v:Value}{d:e.O.α}(x:e.rel h v d):e.rel h v (keyO e d0 h v):=by
 unfold keyO
 rw[dif_pos ⟨d,x⟩]
 exact (show ∃d,e.rel h v d from ⟨d,x⟩).choose_spec
theorem cmpE (e:El)(d0:(tupE e).O.α){h:Heap}(hu:A.units+e.k<cLine)(hk:∀v d,(tupE e).rel h v d->(tupE e).rel s.heap v d):Cmp (model prog w) A E s (tuples' false) (tupE e).O (fun p=>keyO (tupE e) d0 h p.1) (fun p=>∃ds,(tupE e).rel h p.1 ds):=by
 refine⟨fun x y st Q hx hy hkd q=> ?_⟩
 obtain⟨ns,hx⟩:=hx
 obtain⟨ms,hy⟩:=hy
 have hx':=hk _ _ (zhp (d0:=d0) hx)
 have hy':=hk _ _ (zhp (d0:=d0) hy)
 revert q
 generalize keyO (tupE e) d0 h x.1=ns' at hx' ⊢
 generalize keyO (tupE e) d0 h y.1=ms' at hy' ⊢
 intro q
 obtain⟨x1,x2⟩:=x
 obtain⟨y1,y2⟩:=y
 obtain⟨a,o,xs,n,ex,ho,_,hd,hi⟩:=hx'
 obtain⟨a',o',ys,n',ey,ho',_,hd',hi'⟩:=hy'
 dsimp only at ex ey
 subst ex ey
 rw[lt'_eq]
 refine wpS_bind (wpS_get ?_)
 rw[hkd]
 refine wpS_bind (wpS_lift (wpAny_attempt (PySem.W.kat_lt ho hd ho' hd' ?_)))
 have:=zjC (prog:=prog) (w:=w) (A:=A) (s:=s) e (Q:=fun c s'=>s'=s/\wpS (model prog w) A E s (pure (some c)) Q st) 0 hi hi' hu ⟨rfl,wpS_pure q⟩
 rw[Array.length_toList,Array.length_toList] at this
 exact this
theorem sortedB {O:KeyOrd}{kf:Keyed->O.α}{okk:Keyed->Prop}{kd:SortKind}{l:Addr}{vs:List Value}{Q:Value->Shared->Prop}(hl:s.heap.IsList l vs.toArray)(hln:vs.length<=sizeLine)
  (hkk:2<=vs.length->∀(A':Around) (E':Value->Shared->Prop) (h':Heap) (Q:SortKind->Shared->Prop),(∀b o,s.heap.get? b=some o->h'.get? b=some o)->Q kd {s with heap:=h'}->wpAny (model prog w) A' (keyKind' vs.toArray) Q E' {s with heap:=h'})
  (C:∀(A':Around) (E':Value->Shared->Prop) (h':Heap),A'.units<=A.units+8->(∀b o,s.heap.get? b=some o->h'.get? b=some o)->Cmp (model prog w) A' E' {s with heap:=h'} kd O kf okk) (ok:∀p∈(pairsOf vs).toList,okk p)
  (h:∀st':SortSt,(arrOf st').Perm (pairsOf vs)->RunUp kf (arrOf st') 0 vs.length->Q (.ref (s.heap.objs.size+1)) {s with heap:=sortedAll s.heap vs ((arrOf st').map (·.2))}):
  wpAny (model prog w) A (call (.builtin "sorted") [.ref l]) Q E s:=by
 refine Calls.call_function_entry kind_sorted plain_sorted entry_sorted (args_sorted1 _) ?_
 unfold Builtin.«sorted»
 refine wpAny_bind (m:=checkCount "sorted" 1 1 _) (wpAny_pure ?_)
 refine wpAny_bind (collect_list hl ?_ hln)
 refine wpAny_bind (wpAny_newList ?_ hln)
 have e:((s.heap.push (seqObj "list" #[] 0)).update s.heap.objs.size (Obj.mapSeq (·++vs.toArray))).objs.size=s.heap.objs.size+1:=by rw[Heap.size_update,size_push']
 show wpAny _ _ _ _ _ {s with heap:=hC s.heap vs}
 rw[e]
 have hk:∀b o,s.heap.get? b=some o->(hS (hC s.heap vs) (s.heap.objs.size+1) vs).get? b=some o:=fun b o g=>hS_old (Nat.ne_of_lt (Nat.lt_succ_of_lt (Heap.lt_size g))) (zkO g)
 refine wpAny_bind (wpAny_holding (wpAny_call_entry slot_list_sort ⟨_,zj2 s.heap vs,rfl⟩ entry_list_sort (listSortA (s:={s with heap:=hC s.heap vs}) (zj2 s.heap vs) hln (fun h2 Q' q=>hkk h2 _ _ _ Q' hk q) (C _ _ _ (by show A.units+1+1<=A.units+8;(first|lia|omega)) hk) ok fun st' a1 a2=>⟨_,rfl, ?_⟩) (args_list_sort _)))
 exact wpAny_pure ⟨_,rfl,h st' a1 a2⟩
end
end Srt
namespace L2
open PySem PySem.Spec PyProof.Rows
noncomputable def PrAt (H:Hp)(z:Addr)(P:List (List Int)×List (List Int)):Prop:=∃q1 q2 ys1 ys2,H z=some (.tup [.ref q1,.ref q2])/\H q1=some (.tup (ys1.map V.ref))/\RowsAt H ys1 P.1/\H q2=some (.tup (ys2.map V.ref))/\RowsAt H ys2 P.2
theorem PrAt.same {H H':Hp}{z:Addr}{P:List (List Int)×List (List Int)}(h:PrAt H z P)(e:Same H H'):PrAt H' z P:=by
 obtain⟨q1,q2,ys1,ys2,a,b,c,d,f⟩:=h
 exact⟨q1,q2,ys1,ys2,e _ _ a,e _ _ b,c.same e,e _ _ d,f.same e⟩
end L2
namespace Srt
open PySem PyProof.Rows
theorem tup_keep {e:El}{h h':Heap}(hk:∀b o,h.get? b=some o->h'.get? b=some o)(he:∀v d,e.rel h v d->e.rel h' v d){v:Value}{d:List e.O.α}(x:(tupE e).rel h v d):(tupE e).rel h' v d:=by
 obtain⟨a,o,xs,n,e0,ho,hc,hd,hp⟩:=x
 exact⟨a,o,xs,n,e0,hk _ _ ho,hc,hd,L2.Paired.mapP hp he⟩
end Srt
namespace L2
open PySem PySem.Spec PyProof.Rows
section
variable {X:Cx}{pins:List (Addr×Obj)}{σ:St}{H:Hp}{s:Shared}
theorem Inv.relI (I:Inv X pins σ H s){z:Addr}{ns:List Int}(h:H z=some (.tup (ns.map V.int))):(Srt.tupE Srt.intE).rel s.heap (.ref z) ns:=by
 obtain⟨zz,its,r,o,h1,h2,⟨n,h3⟩,_⟩:=(show ObjOk X.prog X.w H s.heap z (.tup (ns.map V.int)) from I.hok z _ h)
 refine⟨z,o,its.toArray,n,rfl,h1,h2,h3, ?_⟩
 clear h h1 h2 h3 zz
 show Paired _ its ns
 induction ns generalizing its with
 |nil=>cases r;exact .nil
 |cons a t ih=>
  cases r with
  |cons w1 w2=>exact .cons w1 (ih _ w2)
theorem Inv.relR (I:Inv X pins σ H s){q:Addr}{ys:List Addr}{R:List (List Int)}(h:H q=some (.tup (ys.map V.ref)))(hR:RowsAt H ys R):(Srt.tupE (Srt.tupE Srt.intE)).rel s.heap (.ref q) R:=by
 obtain⟨zz,its,r,o,h1,h2,⟨n,h3⟩,_⟩:=(show ObjOk X.prog X.w H s.heap q (.tup (ys.map V.ref)) from I.hok q _ h)
 refine⟨q,o,its.toArray,n,rfl,h1,h2,h3, ?_⟩
 clear h h1 h2 h3 zz
 show Paired _ its R
 induction hR generalizing its with
 |nil=>cases r;exact .nil
 | @cons a ns _ _ p _ ih=>
  cases r with
  |@cons _ v _ _ w1 w2=>
   cases (show v=Value.ref a from w1)
   exact .cons (I.relI p) (ih _ w2)
theorem Inv.relP (I:Inv X pins σ H s){z:Addr}{P:List (List Int)×List (List Int)}(h:PrAt H z P):(Srt.tupE (Srt.tupE (Srt.tupE Srt.intE))).rel s.heap (.ref z) [P.1,P.2]:=by
 obtain⟨q1,q2,ys1,ys2,a,b,c,d,f⟩:=h
 obtain⟨zz,its,r,o,h1,h2,⟨n,h3⟩,_⟩:=(show ObjOk X.prog X.w H s.heap z (.tup [.ref q1,.ref q2]) from I.hok z _ a)
 refine⟨z,o,its.toArray,n,rfl,h1,h2,h3, ?_⟩
 show Paired _ its [P.1,P.2]
 cases r with
 |@cons _ v1 _ _ w1 r=>
 cases r with
 |@cons _ v2 _ _ w2 r=>
 cases r
 cases (show v1=Value.ref q1 from w1)
 cases (show v2=Value.ref q2 from w2)
 exact .cons (I.relR b c) (.cons (I.relR d f) .nil)
noncomputable def zjD:List V->Hp->VK->Prop:=fun xs H Q=>∃(l:Addr) (zs:List Addr) (Ps:List (List (List Int)×List (List Int))),xs=[.ref l]/\H l=some (.lst (zs.map V.ref))/\Paired (fun z P=>PrAt H z P) zs Ps/\
 ∀p (zs':List Addr),zs'.Perm zs->H p=none->Q (.ref p) (upd H p (.lst (zs'.map V.ref)))
theorem zeA (hu:X.A.units+64<cLine):zbu X (.builtin "sorted") zjD:=by
 intro pins s σ H xs us Q I rs h
 obtain⟨l,zs,Ps,rfl,hH,hR,q⟩:=h
 obtain⟨u,rfl,ru⟩:=zbI rs
 cases (show u=Value.ref l from ru)
 obtain⟨z,its,n,r,hl,e⟩:=I.lstM hH
 have hz:its.length<=sizeLine:=by
  rw[<-r.length]
  exact z
 have hv:∀{zs:List Addr} {Ps:List (List (List Int)×List (List Int))} {its:List Value},Paired (fun z P=>PrAt H z P) zs Ps->Vals (zs.map V.ref) its->its=zs.map Value.ref/\Paired (fun v ds=>(Srt.tupE (Srt.tupE (Srt.tupE Srt.intE))).rel s.heap v ds) its (Ps.map fun P=>[P.1,P.2]):=by
  intro zs
  induction zs with
  |nil=>
   intro Ps its hR hv
   cases hR
   cases hv
   exact⟨rfl,.nil⟩
  |cons a t ih=>
   intro Ps its hR hv
   cases hR with
   |@cons _ P _ _ h1 h2=>
   cases hv with
   |@cons _ v _ _ w1 w2=>
   obtain⟨i1,i2⟩:=ih h2 w2
   cases (show v=Value.ref a from w1)
   exact⟨by rw[i1];rfl,.cons (I.relP h1) i2⟩
 obtain⟨ei,hv⟩:=hv hR r
 refine Srt.sortedB (l:=l) (vs:=its) (kd:=tuples' false) (O:=(Srt.tupE (Srt.tupE (Srt.tupE Srt.intE))).O) (kf:=fun p=>Srt.keyO (Srt.tupE (Srt.tupE (Srt.tupE Srt.intE))) [] s.heap p.1) (okk:=fun p=>∃ds,(Srt.tupE (Srt.tupE (Srt.tupE Srt.intE))).rel s.heap p.1 ds) ⟨_,e,rfl,n,rfl⟩ hz (fun h2 A' E' h' Q' hk q'=> ?_) (fun A' E' h' hu' hk=>Srt.cmpE (s:={s with heap:=h'}) (Srt.tupE (Srt.tupE Srt.intE)) [] (by show A'.units+2<cLine;(first|lia|omega)) fun v d hd=> ?_) (fun p hp=> ?_) fun st' a1 a2=> ?_
 ·refine Srt.els_kind (s:={s with heap:=h'}) (Srt.tupE Srt.intE) (dss:=Ps.map fun P=>[P.1,P.2]) (Paired.mapP hv fun v d hd=> ?_) h2 (fun ds hds=>by obtain⟨P,_,rfl⟩:=List.mem_map.mp hds;exact fun c=>by cases c) q'
  exact Srt.tup_keep hk (fun _ _ x=>Srt.tup_keep hk (fun _ _ x=>Srt.tup_keep hk (fun _ _ x=>x) x) x) hd
 ·exact Srt.tup_keep hk (fun _ _ x=>Srt.tup_keep hk (fun _ _ x=>Srt.tup_keep hk (fun _ _ x=>x) x) x) hd
 ·rw [pairsOf_toList] at hp
  have:=(mem_zip_self hp).2
  obtain⟨i,hi⟩:=List.getElem?_of_mem this
  obtain⟨ns,_,h⟩:=zaO hv hi
  exact⟨ns,h⟩
 ·have hl:(arrOf st').toList.Perm (its.zip its):=by rw[<-pairsOf_toList];exact Array.perm_iff_toList_perm.mp a1
  have hsz:(arrOf st').size=its.length:=a1.size_eq.trans (pairsOf_size _)
  have hp:((arrOf st').map (·.2)).toList.Perm its:=by
   rw[Array.toList_map]
   have:=hl.map (·.2)
   rwa [List.map_snd_zip (Nat.le_refl _)] at this
  generalize hout:(arrOf st').map (·.2)=out at hp
  have hg:out.toList.Perm (zs.map Value.ref):=by rw[<-ei];exact hp
  obtain⟨zs',p1,p2⟩:∃zs':List Addr,zs'.Perm zs/\out.toList=zs'.map Value.ref:=by
   refine⟨out.toList.map fun v=>match v with| .ref b=>b|_=>0, ?_, ?_⟩
   ·have:=hg.map fun v=>match v with|Value.ref b=>b|_=>0
    rw[List.map_map] at this
    rwa [show ((fun v:Value=>match v with|Value.ref b=>b|_=>0)∘Value.ref)=(id:Addr->Addr) from rfl,List.map_id] at this
   ·rw [List.map_map]
    conv=>lhs;rw[<-List.map_id out.toList]
    refine List.map_congr_left fun v hv=> ?_
    obtain⟨b,_,rfl⟩:=List.mem_map.mp (hg.mem_iff.mp hv)
    rfl
  have hvv:Vals (zs'.map V.ref) out.toList:=by
   rw[p2]
   clear p1 p2
   induction zs' with
   |nil=>exact .nil
   |cons a t ih=>exact .cons rfl ih
  obtain⟨c,hc⟩:=sortedAll_at s.heap its out
  have hk:∀b o,s.heap.get? b=some o->(sortedAll s.heap its out).get? b=some o:=fun b o hb=>sortedAll_old hb
  have hf:H (s.heap.objs.size+1)=none:=I.hok.fresh (Nat.le_succ _)
  refine⟨.ref (s.heap.objs.size+1),_,I.laid (t':=s.toks) (o:=.lst (zs'.map V.ref)) hk (Nat.le_succ _) ?_,rfl,q _ _ p1 hf⟩
  refine⟨?_,out.toList,c,hvv,by simpa using hc⟩
  rw[List.length_map,p1.length_eq]
  have:its.length=zs.length:=by rw[ei,List.length_map]
  (first|lia|omega)
end
structure ZipM (h:Heap) (z TI TO i1 i2 a b:Addr) (i:Nat):Prop where
 z:IsZip h z TI TO .none
 ti:IsPair h TI (.ref i1) (.ref i2)
 to:∃x y,IsPair h TO x y
 one:h.IsTupleIter i1 a i
 two:h.IsListIter i2 b i
section
variable {prog:Program}{w:World}{A:Around}{E:Value->Shared->Prop}{s:Shared}{z TI TO i1 i2 a b:Addr}{i:Nat}{xs ys:Array Value}
end
theorem SqL.fpNe {X:Cx}{pins:List (Addr×Obj)}{σ:St}{H:Hp}{s:Shared}{t c:Addr}{zs:List V}(I:Inv X pins σ H s)(hq:SqL X.K H t zs)(f:FpOk X pins H c):t≠c:=by
 rintro rfl
 rcases hq with (h|⟨o,h⟩)|h
 ·rw[f.1] at h;cases h
 ·rw[f.1] at h;cases h
 ·obtain ⟨o,_,_,hl,_⟩:=h
  have e:=I.ok.mod.kin _ _ hl
  rcases f.2.2.2.1 with z|z
  ·exact I.ok.noex _ _ e z
  ·exact absurd (Nat.lt_of_lt_of_le (Heap.lt_size e) (Nat.le_trans I.ok.bsz z)) (Nat.lt_irrefl _)
section
variable {X:Cx}
end
structure ZipL2 (h:Heap) (z TI TO i1 i2 a b:Addr) (i:Nat):Prop where
 z:IsZip h z TI TO .none
 ti:IsPair h TI (.ref i1) (.ref i2)
 to:∃x y,IsPair h TO x y
 one:h.IsListIter i1 a i
 two:h.IsListIter i2 b i
theorem zk4 {h:Heap}{t j:Addr}{k:Nat}{its:Array Value}{u:Addr}(ht:h.IsList t its)(hj:h.IsListIter j u k):t≠j:=fun e=>by
 obtain⟨o,e1,e2,_⟩:=ht
 obtain⟨o',f1,f2,_⟩:=hj
 rw[e,f1] at e1;cases e1;rw[f2] at e2;injection e2 with z2;revert z2;decide
section
variable {prog:Program}{w:World}{A:Around}{E:Value->Shared->Prop}{s:Shared}{z TI TO i1 i2 a b:Addr}{i:Nat}{xs ys:Array Value}
theorem zhV {x y:Value}{Q:Option Value->Shared->Prop}(D:ZipNe z TI TO i1 i2)(S:ZipL2 s.heap z TI TO i1 i2 a b i)(ha:s.heap.IsList a xs)(hb:s.heap.IsList b ys)(haz:a≠z/\a≠TO)(hbz:b≠z/\b≠TO)(hx:xs[i]? =some x)(hy:ys[i]? =some y)
  (q:∀h',IsZip h' z TI TO (rawInt s.heap.objs.size)->IsPair h' TI (.ref i1) (.ref i2)->IsPair h' TO x y->h'.IsListIter i1 a (i+1)->h'.IsListIter i2 b (i+1)->IsPair h' s.heap.objs.size x y->
   (∀c o,c≠z->c≠TO->c≠i1->c≠i2->s.heap.get? c=some o->h'.get? c=some o)->Q (some (.ref s.heap.objs.size)) {s with heap:=h'}):
  wpAny (model prog w) A (pyNext (.ref z)) Q E s:=by
 obtain⟨hz,hti,⟨p0,p1,hto⟩,h1,h2⟩:=S
 have bi1:=zk4 hb h1
 have hT:s.TypeIs (.ref z) "zip" :=⟨_,hz,rfl⟩
 unfold pyNext
 refine wpAny_bind (wpAny_attempt (wpAny_callSpecial?_slot (name:=Str.ofString "__next__") hT F.slot_zip_next (wpAny_call_entry F.slot_zip_next hT F.entry_zip_next ?_ (F.args_zip_next_1 _))))
 show wpAny _ _ (field (.ref z) 2 >>= _) _ _ _
 refine wpAny_bind (wpAny_field hz rfl (x:=.bool false) rfl ?_);show wpAny _ _ (field (.ref z) 3 >>= _) _ _ _
 refine wpAny_bind (wpAny_field hz rfl (x:=.ref TI) rfl (wpAny_bind (wpAny_seqItems hti rfl ?_)))
 show wpAny _ _ (Builtin.SmallTypes.ownedTupleIsFree (.ref z) >>= _) _ _ _
 refine wpAny_bind ?_
 unfold Builtin.SmallTypes.ownedTupleIsFree
 refine wpAny_bind (wpAny_field hz rfl (x:=.none) rfl (wpAny_pure ?_));simp only[if_true]
 refine wpAny_bind (wpAny_rule (wpAny_bind (wpAny_field hz rfl (x:=.ref TO) rfl (wpAny_bind (wpAny_setField_rec hz (by simp) fun g1 k1 s1=> ?_)))))
 replace k1:IsZip g1 z TI TO .ellipsis:=k1
 refine wpAny_bind ?_
 simp only[List.zipIdx_cons,List.zipIdx_nil,List.forIn_cons,List.forIn_nil]
 refine wpAny_bind (wpAny_bind (wpAny_onRaise ?_));show wpAny _ _ (Builtin.SmallTypes.nextOf (.ref i1) >>= _) _ _ _
 refine wpAny_bind (wpAny_nextOf_list_item (h1.extBut s1.extBut D.cz) (show g1.IsList a xs from let ⟨o,ho,r⟩:=ha;⟨o,s1.extBut _ _ haz.1 ho,r⟩) hx fun g2 j2 s2=>wpAny_pure ?_)
 have t2:IsPair g2 TO p0 p1:=s2.extBut _ _ D.bc (s1.extBut _ _ D.bz hto)
 refine wpAny_bind (wpAny_seqItems t2 rfl (wpAny_bind (zfE t2 fun g3 t3 s3=> ?_)))
 replace t3:IsPair g3 TO x p1:=t3
 refine wpAny_bind (wpAny_letGo (wpAny_pure ?_))
 refine wpAny_bind (wpAny_bind (wpAny_onRaise ?_));show wpAny _ _ (Builtin.SmallTypes.nextOf (.ref i2) >>= _) _ _ _
 have e3:∀c o,c≠z->c≠i1->c≠TO->s.heap.get? c=some o->g3.get? c=some o:=fun c o c1 c2 c3 e=>s3.extBut _ _ c3 (s2.extBut _ _ c2 (s1.extBut _ _ c1 e))
 have h23:g3.IsListIter i2 b i:=let ⟨o,ho,r⟩:=h2;⟨o,e3 _ _ D.dz D.cd.symm D.bd.symm ho,r⟩
 have hb3:g3.IsList b ys:=let ⟨o,ho,r⟩:=hb;⟨o,e3 _ _ hbz.1 bi1 hbz.2 ho,r⟩
 refine wpAny_bind (wpAny_nextOf_list_item h23 hb3 hy fun g4 j4 s4=>wpAny_pure ?_)
 have t4:IsPair g4 TO x p1:=s4.extBut _ _ D.bd t3
 refine wpAny_bind (wpAny_seqItems t4 rfl (wpAny_bind (zfE t4 fun g5 t5 s5=> ?_)))
 replace t5:IsPair g5 TO x y:=t5
 refine wpAny_bind (wpAny_letGo (wpAny_pure (wpAny_pure ?_)))
 refine wpAny_bind (wpAny_seqItems t5 rfl (wpAny_bind (wpAny_newTuple ?_)))
 have z5:g5.objs.size=s.heap.objs.size:=by rw[s5.1,s4.1,s3.1,s2.1,s1.1]
 have e5:∀c o,c≠z->c≠TO->c≠i1->c≠i2->s.heap.get? c=some o->g5.get? c=some o:=fun c o c1 c2 c3 c4 e=>s5.extBut _ _ c2 (s4.extBut _ _ c4 (e3 c o c1 c3 c2 e))
 have k5:IsZip g5 z TI TO .ellipsis:=s5.extBut _ _ D.bz.symm (s4.extBut _ _ D.dz.symm (s3.extBut _ _ D.bz.symm (s2.extBut _ _ D.cz.symm k1)))
 have m1:g5.IsListIter i1 a (i+1):=((j2.extBut s3.extBut D.bc.symm).extBut s4.extBut D.cd).extBut s5.extBut D.bc.symm
 have m2:g5.IsListIter i2 b (i+1):=j4.extBut s5.extBut D.bd.symm
 have zlt:z<g5.objs.size:=Heap.lt_size k5
 show wpAny _ _ (Builtin.SmallTypes.ownedTupleHandOut (.ref z) (.ref g5.objs.size) >>= _) _ _ _
 refine wpAny_bind ?_
 unfold Builtin.SmallTypes.ownedTupleHandOut
 have k6:IsZip (g5.push {cls:=.type "tuple",data:=.seq #[x,y]}) z TI TO .ellipsis:=Heap.get?_push_of_some _ k5
 refine wpAny_bind (wpAny_setField_rec k6 (by simp) fun g7 k7 s7=> ?_)
 replace k7:IsZip g7 z TI TO (rawInt g5.objs.size):=k7
 refine wpAny_setField_rec k7 (by simp) fun g8 k8 s8=> ?_
 replace k8:IsZip g8 z TI TO (rawInt g5.objs.size):=k8
 have up:∀c o,c≠z->g5.get? c=some o->g8.get? c=some o:=fun c o c1 e=>s8.extBut _ _ c1 (s7.extBut _ _ c1 (Heap.get?_push_of_some _ e))
 have t8:IsPair g8 g5.objs.size x y:=s8.extBut _ _ (Nat.ne_of_gt zlt) (s7.extBut _ _ (Nat.ne_of_gt zlt) (Heap.get?_push_size _ rfl))
 rw[z5] at k8 t8
 refine wpAny_pure ⟨_,rfl,wpAny_pure ?_⟩
 show Q (some (.ref g5.objs.size)) _
 rw[z5]
 exact q g8 k8 (up _ _ D.az (e5 _ _ D.az D.ab D.ac D.ad hti)) (up _ _ D.bz t5) (let ⟨o,ho,r⟩:=m1;⟨o,up _ _ D.cz ho,r⟩) (let ⟨o,ho,r⟩:=m2;⟨o,up _ _ D.dz ho,r⟩) t8 fun c o c1 c2 c3 c4 e=>up c o c1 (e5 c o c1 c2 c3 c4 e)
theorem zjE {Q:Option Value->Shared->Prop}(hh:A.in1.handled=none)(D:ZipNe z TI TO i1 i2)(S:ZipL2 s.heap z TI TO i1 i2 a b i)(ha:s.heap.IsList a xs)(hb:s.heap.IsList b ys)(haz:a≠z/\a≠TO)(hbz:b≠z/\b≠TO)(hend:xs[i]? =none∨ys[i]? =none)
  (q:∀h',(∀c o,c≠z->c≠TO->c≠i1->c≠i2->s.heap.get? c=some o->h'.get? c=some o)->Q none {s with heap:=h'}):
  wpAny (model prog w) A (pyNext (.ref z)) Q E s:=by
 obtain⟨hz,hti,⟨p0,p1,hto⟩,h1,h2⟩:=S
 have bi1:=zk4 hb h1
 have hT:s.TypeIs (.ref z) "zip" :=⟨_,hz,rfl⟩
 unfold pyNext
 refine wpAny_bind (wpAny_attempt (wpAny_callSpecial?_slot (name:=Str.ofString "__next__") hT F.slot_zip_next (wpAny_call_entry F.slot_zip_next hT F.entry_zip_next ?_ (F.args_zip_next_1 _))))
 show wpAny _ _ (field (.ref z) 2 >>= _) _ _ _
 refine wpAny_bind (wpAny_field hz rfl (x:=.bool false) rfl ?_);show wpAny _ _ (field (.ref z) 3 >>= _) _ _ _
 refine wpAny_bind (wpAny_field hz rfl (x:=.ref TI) rfl (wpAny_bind (wpAny_seqItems hti rfl ?_)))
 show wpAny _ _ (Builtin.SmallTypes.ownedTupleIsFree (.ref z) >>= _) _ _ _
 refine wpAny_bind ?_
 unfold Builtin.SmallTypes.ownedTupleIsFree
 refine wpAny_bind (wpAny_field hz rfl (x:=.none) rfl (wpAny_pure ?_));simp only[if_true]
 refine wpAny_bind (wpAny_rule (wpAny_bind (wpAny_field hz rfl (x:=.ref TO) rfl (wpAny_bind (wpAny_setField_rec hz (by simp) fun g1 k1 s1=> ?_)))))
 replace k1:IsZip g1 z TI TO .ellipsis:=k1
 refine wpAny_bind ?_
 simp only[List.zipIdx_cons,List.zipIdx_nil,List.forIn_cons,List.forIn_nil]
 have fin:∀(g:Heap) (e:Addr),IsZip g z TI TO .ellipsis->(∀c o,c≠z->c≠TO->c≠i1->c≠i2->s.heap.get? c=some o->g.get? c=some o)->(∃o,g.get? e=some o/\o.cls=.type "StopIteration")->
   wpAny (model prog w) A.in1 (setField (.ref z) 0 .none) (fun _ s'=>wpAny (model prog w) A (do if<-isInstance (.ref e) (.type "StopIteration") then pure none else throw (Value.ref e)) Q E s') (fun e' s'=>wpAny (model prog w) A (do if<-isInstance e' (.type "StopIteration") then pure none else throw e') Q E s') {s with heap:=g}:=by
  rintro g e kz kk ⟨oe,f1,f2⟩
  have ez:e≠z:=fun y=>by subst y;rw[kz] at f1;cases f1;injection f2 with z2;revert z2;decide
  refine wpAny_setField_rec kz (by simp) fun g' _ s'=> ?_
  refine wpAny_bind (wpAny_isInstance (T:= "StopIteration") (b:=true) ⟨oe,s'.extBut _ _ ez f1,f2⟩ isSubtype_stop ?_)
  exact wpAny_pure (q g' fun c o c1 c2 c3 c4 y=>s'.extBut _ _ c1 (kk c o c1 c2 c3 c4 y))
 refine wpAny_bind (wpAny_bind (wpAny_onRaise ?_));show wpAny _ _ (Builtin.SmallTypes.nextOf (.ref i1) >>= _) _ _ _
 cases hx:xs[i]? with
 |none=>
  refine wpAny_bind (wpAny_nextOf_list_end hh (h1.extBut s1.extBut D.cz) (show g1.IsList a xs from let ⟨o,ho,r⟩:=ha;⟨o,s1.extBut _ _ haz.1 ho,r⟩) hx fun g2 e s2 he=> ?_)
  exact fin g2 e (s2 _ _ D.cz.symm k1) (fun c o c1 _ c3 _ y=>s2 _ _ c3 (s1.extBut _ _ c1 y)) he
 |some x=>
  have hy:ys[i]? =none:=by rcases hend with h|h;rw[hx] at h;cases h;exact h
  refine wpAny_bind (wpAny_nextOf_list_item (h1.extBut s1.extBut D.cz) (show g1.IsList a xs from let ⟨o,ho,r⟩:=ha;⟨o,s1.extBut _ _ haz.1 ho,r⟩) hx fun g2 j2 s2=>wpAny_pure ?_)
  have t2:IsPair g2 TO p0 p1:=s2.extBut _ _ D.bc (s1.extBut _ _ D.bz hto)
  refine wpAny_bind (wpAny_seqItems t2 rfl (wpAny_bind (zfE t2 fun g3 t3 s3=> ?_)))
  refine wpAny_bind (wpAny_letGo (wpAny_pure ?_))
  refine wpAny_bind (wpAny_bind (wpAny_onRaise ?_));show wpAny _ _ (Builtin.SmallTypes.nextOf (.ref i2) >>= _) _ _ _
  have e3:∀c o,c≠z->c≠i1->c≠TO->s.heap.get? c=some o->g3.get? c=some o:=fun c o c1 c2 c3 e=>s3.extBut _ _ c3 (s2.extBut _ _ c2 (s1.extBut _ _ c1 e))
  have h23:g3.IsListIter i2 b i:=let ⟨o,ho,r⟩:=h2;⟨o,e3 _ _ D.dz D.cd.symm D.bd.symm ho,r⟩
  have hb3:g3.IsList b ys:=let ⟨o,ho,r⟩:=hb;⟨o,e3 _ _ hbz.1 bi1 hbz.2 ho,r⟩
  refine wpAny_bind (wpAny_nextOf_list_end hh h23 hb3 hy fun g4 e s4 he=> ?_)
  exact fin g4 e (s4 _ _ D.dz.symm (s3.extBut _ _ D.bz.symm (s2.extBut _ _ D.cz.symm k1))) (fun c o c1 c2 c3 c4 y=>s4 _ _ c4 (e3 c o c1 c3 c2 y)) he
noncomputable abbrev zL1 (h:Heap)(l1:Addr):Heap:=h.push {cls:=.type "list_iterator",data:=.fields #[.ref l1,.int 0 0]}
noncomputable abbrev zL2 (h:Heap)(l1 l2:Addr):Heap:=(zL1 h l1).push {cls:=.type "list_iterator",data:=.fields #[.ref l2,.int 0 0]}
noncomputable abbrev zL3 (h:Heap)(l1 l2:Addr):Heap:=(zL2 h l1 l2).push {cls:=.type "tuple",data:=.seq #[.ref h.objs.size,.ref (zL1 h l1).objs.size]}
noncomputable abbrev zL4 (h:Heap)(l1 l2:Addr):Heap:=(zL3 h l1 l2).push {cls:=.type "tuple",data:=.seq #[.none,.none]}
noncomputable abbrev zL5 (h:Heap)(l1 l2:Addr):Heap:=(zL4 h l1 l2).push {cls:=.type "zip",data:=.fields #[.none,.bool false,.bool false,.ref (zL2 h l1 l2).objs.size,.ref (zL3 h l1 l2).objs.size]}
theorem zjF (l1 l2:Addr)(xs ys:Array Value):
  Meets (Builtin.«zip.__new__» ⟨[.type "zip",.ref l1,.ref l2],[]⟩) (fun _ R s=>s.heap.IsList l1 xs/\s.heap.IsList l2 ys/\R (.ok (.ret (.ref (zL4 s.heap l1 l2).objs.size))) {s with heap:=zL5 s.heap l1 l2}):=
 .of_wp fun prog w A R s h=>by
  obtain⟨hp,g,d,tk,os⟩:=s;obtain⟨hl1,hl2,h⟩:=h
  have hsub:=sub_zip
  have hL1:Heap.IsList (Shared.heap ⟨hp,g,d,tk,os⟩) l1 xs:=hl1
  have hL2:Heap.IsList (Shared.heap ⟨hp.push {cls:=.type "list_iterator",data:=.fields #[.ref l1,.int 0 0]},g,d,tk,os⟩) l2 ys:=Heap.IsList.push hl2 _
  wp_walk using wpAny_pyIter_list hL1,wpAny_pyIter_list hL2
  exact⟨_,rfl,h⟩
theorem zhW {l1 l2:Addr}{Q:Value->Shared->Prop}(hl1:s.heap.IsList l1 xs)(hl2:s.heap.IsList l2 ys)
  (h:∀h',ZipL2 h' (s.heap.objs.size+4) (s.heap.objs.size+2) (s.heap.objs.size+3) s.heap.objs.size (s.heap.objs.size+1) l1 l2 0->(∀c o,s.heap.get? c=some o->h'.get? c=some o)->Q (.ref (s.heap.objs.size+4)) {s with heap:=h'}):
  wpAny (model prog w) A (call (.type "zip") [.ref l1,.ref l2]) Q E s:=by
 refine callType_new F.called_zip (by decide) (F.typeCall_zip_2 _ _) (F.newCall_zip_2 _ _) (fun obj=>F.args_object_init_3 obj _ _) F.entry_zip_new (zjF l1 l2 xs ys) ⟨hl1,hl2, ?_⟩
 have z1:(zL1 s.heap l1).objs.size=s.heap.objs.size+1:=Heap.size_push ..
 have z2:(zL2 s.heap l1 l2).objs.size=s.heap.objs.size+2:=by rw[Heap.size_push,z1]
 have z3:(zL3 s.heap l1 l2).objs.size=s.heap.objs.size+3:=by rw[Heap.size_push,z2]
 have z4:(zL4 s.heap l1 l2).objs.size=s.heap.objs.size+4:=by rw[Heap.size_push,z3]
 have p1:∀{g:Heap} {c o u},g.get? c=some o->(g.push u).get? c=some o:=fun e=>Heap.get?_push_of_some _ e
 have g5:(zL5 s.heap l1 l2).get? (zL4 s.heap l1 l2).objs.size=some _:=Heap.get?_push_size _ rfl
 have g4:(zL5 s.heap l1 l2).get? (zL3 s.heap l1 l2).objs.size=some _:=p1 (Heap.get?_push_size _ rfl)
 have g3:(zL5 s.heap l1 l2).get? (zL2 s.heap l1 l2).objs.size=some _:=p1 (p1 (Heap.get?_push_size _ rfl))
 have g2:(zL5 s.heap l1 l2).get? (zL1 s.heap l1).objs.size=some _:=p1 (p1 (p1 (Heap.get?_push_size _ rfl)))
 have g1:(zL5 s.heap l1 l2).get? s.heap.objs.size=some _:=p1 (p1 (p1 (p1 (Heap.get?_push_size _ rfl))))
 show _/\_
 rw[z2,z3,z4] at g5
 rw[z1,z2] at g3
 rw[z3] at g4
 rw[z1] at g2
 rw[z4]
 exact⟨⟨_,g5,rfl⟩,h _ ⟨g5,g3,⟨_,_,g4⟩,⟨_,g1,rfl,rfl⟩,⟨_,g2,rfl,rfl⟩⟩ fun c o x=>p1 (p1 (p1 (p1 (p1 x))))⟩
end
noncomputable def Itll (K:PySem.W.Frag)(a b:Addr):It:=
 ⟨fun i H=>∃xs ys x y,SqL K H a xs/\SqL K H b ys/\xs[i]? =some x/\ys[i]? =some y,fun i H v H'=>∃t x y,H t=none/\v=.ref t/\H'=upd H t (.tup [x,y])/\∀xs ys,SqL K H a xs->SqL K H b ys->xs[i]? =some x/\ys[i]? =some y,
  fun i H=>∃xs ys,SqL K H a xs/\SqL K H b ys/\(xs[i]? =none∨ys[i]? =none)⟩
theorem zdV {z TI TO i1 i2:Addr}{h:Heap}{a b:Addr}{i:Nat}(S:ZipL2 h z TI TO i1 i2 a b i)(h1:TI≠TO)(h2:i1≠i2):ZipNe z TI TO i1 i2:=by
 obtain⟨hz,hti,⟨p0,p1,hto⟩,⟨o1,e1,c1,d1⟩,⟨o2,e2,c2,d2⟩⟩:=S
 refine⟨fun e=> ?_,fun e=> ?_,fun e=> ?_,fun e=> ?_,h1,fun e=> ?_,fun e=> ?_,fun e=> ?_,fun e=> ?_,h2⟩
 ·have q:=(show h.get? TI=_ from hti);rw[e,show h.get? z=_ from hz] at q;injection q with q;injection q with q1;injection q1 with q2;revert q2;decide
 ·have q:=(show h.get? TO=_ from hto);rw[e,show h.get? z=_ from hz] at q;injection q with q;injection q with q1;injection q1 with q2;revert q2;decide
 ·rw[e,hz] at e1;cases e1;injection c1 with q2;revert q2;decide
 ·rw[e,hz] at e2;cases e2;injection c2 with q2;revert q2;decide
 ·rw[<-e,hti] at e1;cases e1;injection c1 with q2;revert q2;decide
 ·rw[<-e,hti] at e2;cases e2;injection c2 with q2;revert q2;decide
 ·rw[<-e,hto] at e1;cases e1;injection c1 with q2;revert q2;decide
 ·rw[<-e,hto] at e2;cases e2;injection c2 with q2;revert q2;decide
theorem zhX {P:Program}{w:World}{K:PySem.W.Frag}{els:List Expr}{kx}{tp:Pos}(a b z TI TO i1 i2:Addr)(h1:TI≠TO)(h2:i1≠i2):Turn P w K (.Tuple els kx tp) (Itll K a b) [z,TI,TO,i1,i2] z (fun i h=>ZipL2 h z TI TO i1 i2 a b i) where
 mem:=by simp
 obj:=fun i h st c hc=>by
  obtain⟨hz,hti,⟨p0,p1,hto⟩,⟨o1,e1,c1,d1⟩,⟨o2,e2,c2,d2⟩⟩:=st
  simp only[List.mem_cons,List.not_mem_nil,or_false] at hc
  rcases hc with rfl|rfl|rfl|rfl|rfl
  ·exact⟨_,hz,fun v q=>by cases q⟩
  ·exact⟨_,hti,fun v q=>by cases q⟩
  ·exact⟨_,hto,fun v q=>by cases q⟩
  ·exact⟨_,e1,fun v q=>by rw[d1] at q;cases q⟩
  ·exact⟨_,e2,fun v q=>by rw[d2] at q;cases q⟩
 keep:=fun i h h' st k=>by
  obtain⟨hz,hti,⟨p0,p1,hto⟩,⟨o1,e1,r1⟩,⟨o2,e2,r2⟩⟩:=st
  exact⟨k _ (by simp) _ hz,k _ (by simp) _ hti,⟨p0,p1,k _ (by simp) _ hto⟩,⟨o1,k _ (by simp) _ e1,r1⟩,⟨o2,k _ (by simp) _ e2,r2⟩⟩
 item:=by
  intro X hP hw hK hc i pins s σ H E I hf st hg
  subst hP hw hK
  obtain⟨xs,ys,x,y,hqa,hqb,hx,hy⟩:=hg
  obtain⟨its,rv,p,_⟩:=I.list hqa
  obtain⟨jts,rw',p',_⟩:=I.list hqb
  obtain⟨u,hu,ru⟩:=rv.get hx
  obtain⟨v,hv,rvv⟩:=rw'.get hy
  have D:=zdV st h1 h2
  obtain⟨hz,hti,⟨p0,p1,hto⟩,hi1,hi2⟩:=id st
  have apart:∀{t:Addr} {zs:List V},SqT X.K H t zs->t≠z/\t≠TO:=fun hq=>⟨SqT.fpNe I hq (hf z (by simp)),SqT.fpNe I hq (hf TO (by simp))⟩
  have apart':∀{t:Addr} {zs:List V},SqL X.K H t zs->t≠z/\t≠TO:=fun hq=>⟨SqL.fpNe I hq (hf z (by simp)),SqL.fpNe I hq (hf TO (by simp))⟩
  refine zhV D st p.isList p'.isList (apart' hqa) (apart' hqb) (by simpa using hu) (by simpa using hv) fun g k1 k2 k3 k4 k5 k6 k7=> ?_
  refine⟨_,rfl,wpAny_letOwnedTupleGo_zip k1 fun g2 l1 s2=> ?_⟩
  have hne0:s.heap.objs.size≠z:=Nat.ne_of_gt (Heap.lt_size hz)
  have keep:∀c o,c∉[z,TI,TO,i1,i2]->s.heap.get? c=some o->g2.get? c=some o:=fun c o hc e=>s2.extBut _ _ (fun q=>hc (by simp[q])) (k7 c o (fun q=>hc (by simp[q])) (fun q=>hc (by simp[q])) (fun q=>hc (by simp[q])) (fun q=>hc (by simp[q])) e)
  refine⟨.ref s.heap.objs.size,_,I.turnedT (h':=g2) (t':=s.toks) (xs:=[x,y]) hf keep (.cons ru (.cons rvv .nil)) ⟨_,s2.extBut _ _ hne0 k6,rfl,⟨_,rfl⟩,rfl,rfl⟩ (by show 2<=sizeLine;decide),rfl,
   ⟨_,x,y,I.hok.fresh (Nat.le_refl _),rfl,rfl,fun as bs ha hb=>⟨by rw[I.list_inj ha hqa];exact hx,by rw[I.list_inj hb hqb];exact hy⟩⟩,⟨l1,s2.extBut _ _ D.az k2,⟨_,_,s2.extBut _ _ D.bz k3⟩,k4.extBut s2.extBut D.cz,k5.extBut s2.extBut D.dz⟩,fun c hc=> ?_⟩
  have:c<s.heap.objs.size:=by
   obtain⟨o1,e1,_⟩:=hi1
   obtain⟨o2,e2,_⟩:=hi2
   simp only[List.mem_cons,List.not_mem_nil,or_false] at hc
   rcases hc with rfl|rfl|rfl|rfl|rfl
   ·exact Heap.lt_size hz
   ·exact Heap.lt_size hti
   ·exact Heap.lt_size hto
   ·exact Heap.lt_size e1
   ·exact Heap.lt_size e2
  rw[zah (Nat.ne_of_lt this)]
  exact (hf c hc).1
 done:=by
  intro X hP hw hK hc i pins s σ H E I hf st hg
  subst hP hw hK
  obtain⟨xs,ys,hqa,hqb,hx⟩:=hg
  obtain⟨its,rv,p,_⟩:=I.list hqa
  obtain⟨jts,rw',p',_⟩:=I.list hqb
  have D:=zdV st h1 h2
  have apart:∀{t:Addr} {zs:List V},SqT X.K H t zs->t≠z/\t≠TO:=fun hq=>⟨SqT.fpNe I hq (hf z (by simp)),SqT.fpNe I hq (hf TO (by simp))⟩
  have apart':∀{t:Addr} {zs:List V},SqL X.K H t zs->t≠z/\t≠TO:=fun hq=>⟨SqL.fpNe I hq (hf z (by simp)),SqL.fpNe I hq (hf TO (by simp))⟩
  refine zjE (I.ok.hd hc) D st p.isList p'.isList (apart' hqa) (apart' hqb) (hx.elim (fun q=>.inl (by simpa using rv.none_of q)) fun q=>.inr (by simpa using rw'.none_of q)) fun g k=>⟨rfl, ?_⟩
  exact I.turnedN (t':=s.toks) hf fun c o hc e=>k c o (fun q=>hc (by simp[q])) (fun q=>hc (by simp[q])) (fun q=>hc (by simp[q])) (fun q=>hc (by simp[q])) e
 self:=fun _ _ _ _ _ st h=>wpAny_pyIter_zip st.z h
section
variable {X:Cx}
noncomputable def zm7 (K:PySem.W.Frag)(ta:TA):TI:=fun σ H R=>ta σ H fun vs H1=>∃a b,vs=[.ref a,.ref b]/\(∃xs,SqL K H1 a xs)/\(∃ys,SqL K H1 b ys)/\R (Itll K a b) H1
theorem zkv {els:List Expr}{kx}{tp:Pos}{l l':Expr}{ta:TA}{p pos:Pos}(hg:Gl X "zip")(hm:X.mg "zip" =none)(ha:PA X [l,l'] ta)(hs:starEach [l,l'] X.env=[(false,eval l X.env),(false,eval l' X.env)]:=by rfl)(hs2:starEach [l'] X.env=[(false,eval l' X.env)]:=by rfl):
  PI X (.Tuple els kx tp) (.Call (.Name "zip" p) [l,l'] [] pos) (zm7 X.K ta):=by
 intro pins s σ H R I h
 refine Call_ (zdd I hg hm boot_zip (PyProof.Rows.callWith_type1 (thn (ha pos pins s σ H _ I h) fun us s1 zq=> ?_) (by rw[hs,hs2]) (by rw[hs2];rfl)))
 obtain⟨vs,H1,I1,r1,q1⟩:=zq
 obtain⟨a,b,rfl,⟨xs,hqa⟩,⟨ys,hqb⟩,q⟩:=q1
 obtain⟨u,v,rfl,ru,rv⟩:=znj r1
 cases (show u=Value.ref a from ru)
 cases (show v=Value.ref b from rv)
 obtain⟨its,_,p1,_⟩:=I1.list hqa
 obtain⟨jts,_,p2,_⟩:=I1.list hqb
 refine zhW (show s1.heap.IsList a its.toArray from p1.isList) (show s1.heap.IsList b jts.toArray from p2.isList) fun h' S hk=>wpAny_pyIter_zip S.z ?_
 have I2:Inv X pins σ H1 {s1 with heap:=h'}:=I1.kept (t':=s1.toks) hk
 refine⟨_,_,_,_,H1,rfl,I2,zhX a b _ _ _ _ _ (Nat.ne_of_lt (Nat.lt_succ_self _)) (Nat.ne_of_lt (Nat.lt_succ_self _)),S,fun c hc=> ?_,q⟩
 have:s1.heap.objs.size<=c:=by
  simp only[List.mem_cons,List.not_mem_nil,or_false] at hc
  rcases hc with rfl|rfl|rfl|rfl|rfl<;>first|exact Nat.le_refl _|exact Nat.le_add_right _ _|exact Nat.le_succ _|exact Nat.le_succ_of_le (Nat.le_add_right _ _)
 exact I1.fpOk this (I1.hok.fresh this)
end
theorem zkw {K:PySem.W.Frag}{a b:Addr}{xs ys:List V}{tt:TT}{te:TE}{ix:List Nat}{σ:L2.St}{H1:Hp}{Q:VK}(Fx:∀{H},Same H1 H->SqL K H a xs)(Fy:∀{H},Same H1 H->SqL K H b ys)(small:(xs.zip ys).length<sizeLine)(p:V×V->Bool)(f:V×V->V)
  (ht:∀xy∈xs.zip ys,∀H,Same H1 H->∀Q':Bool->Hp->Prop,Q' (p xy) H->tt (some xy.1::some xy.2::ix.map fun i=>σ.getD i none) H Q')
  (he:∀xy∈xs.zip ys,p xy=true->∀H,Same H1 H->∀Q':VK,Q' (f xy) H->te (some xy.1::some xy.2::ix.map fun i=>σ.getD i none) H Q')
  (fin:∀acc H',H1 acc=none->Same H1 H'->H' acc=some (.lst (((xs.zip ys).filter p).map f))->Q (.ref acc) H'):
  LcW (Itll K a b) H1 (gTup K 2 (zfy (zbG 0) (zfy (zbG 1) gNil))) tt te 2 ix σ Q:=by
 intro acc ha
 refine⟨fun i m H=>m=(xs.zip ys).length-i/\i<=(xs.zip ys).length/\Same H1 H/\H acc=some (.lst ((((xs.zip ys).take i).filter p).map f)),⟨(xs.zip ys).length,by simp,Nat.zero_le _,zac ha,zab⟩, ?_⟩
 rintro i m H ⟨rfl,hi,sm,hacc⟩
 by_cases hlt:i<(xs.zip ys).length
 ·have hl2:i<xs.length/\i<ys.length:=by rw[List.length_zip] at hlt;(first|lia|omega)
  refine .inr ⟨⟨xs,ys,xs[i],ys[i],Fx sm,Fy sm,List.getElem?_eq_getElem hl2.1,List.getElem?_eq_getElem hl2.2⟩,fun v H' y=> ?_⟩
  obtain⟨t,x,y,hn,rfl,rfl,hv⟩:=y
  obtain⟨e1,e2⟩:=hv xs ys (Fx sm) (Fy sm)
  have ez:(xs.zip ys)[i]? =some (x,y):=by rw[List.getElem?_zip_eq_some];exact⟨e1,e2⟩
  have hmem:(x,y)∈xs.zip ys:=List.mem_of_getElem? ez
  have htk:(xs.zip ys).take (i+1)=(xs.zip ys).take i++[(x,y)]:=by rw[List.take_succ,ez];rfl
  refine⟨t,_,rfl,SqT.of zab,rfl,x,_,rfl,y,_,rfl,rfl,⟨rfl,fun j v e=> ?_⟩, ?_⟩
  ·match j,e with
   |0,e=>cases e
   |1,e=>cases e
   |j+2,e=>exact e
  ·have sm2:=sm.trans (zac (o:=.tup [x,y]) hn)
   have hacc2:=zac (o:=.tup [x,y]) hn _ _ hacc
   refine ht (x,y) hmem _ sm2 _ ?_
   cases hp:p (x,y) with
   |false=>
    rw[if_neg Bool.false_ne_true]
    refine⟨(xs.zip ys).length-(i+1),by (first|lia|omega),rfl,hlt,sm2, ?_⟩
    rw[htk,List.filter_append]
    simpa [hp] using hacc2
   | true=>
    rw[if_pos rfl]
    refine he (x,y) hmem hp _ sm2 _ ⟨_,hacc2,Nat.lt_of_le_of_lt ?_ small,(xs.zip ys).length-(i+1),by (first|lia|omega),rfl,hlt,zau sm2 ha, ?_⟩
    ·rw [List.length_map]
     refine Nat.le_trans (List.length_filter_le _ _) ?_
     rw[List.length_take]
     (first|lia|omega)
    ·rw [zab,htk,List.filter_append,List.map_append]
     simp[hp]
 ·have e:i=(xs.zip ys).length:=by (first|lia|omega)
  subst e
  rw[List.take_length] at hacc
  refine .inl ⟨⟨xs,ys,Fx sm,Fy sm, ?_⟩,fin acc H ha sm hacc⟩
  rw[List.length_zip]
  rcases Nat.le_total xs.length ys.length with h|h
  ·exact .inl (List.getElem?_eq_none (by (first|lia|omega)))
  ·exact .inr (List.getElem?_eq_none (by (first|lia|omega)))
end L2
namespace K88
open PySem PySem.Spec PyProof.Rows L2
noncomputable abbrev zbo:Stmt:=top 39
section
variable {P:Program}{w:World}{K:PySem.W.Frag}{mg:Str->Option Value}{base:Heap}
theorem sc_law:FnScope ["_law_script", "_law_hand_here", "_law_many", "_law_orders", "_law_rows", "_law_highs", "_law_pairs", "_law_order_here"] ["_law_script"] (zaf zbo):=⟨rfl,rfl,rfl,by decide+kernel,rfl,by decide+kernel,by decide+kernel⟩
set_option maxHeartbeats 4000000 in
noncomputable def lawT {f:Addr}{cdv:Value}{A:Around}{outer:List Env}{s:Shared}{H:Hp}{E:XK}(hr:Room 6 (A.deeper (envOfC "law" (zaf zbo) s.heap.objs.size f cdv)))(hu:(A.deeper (envOfC "law" (zaf zbo) s.heap.objs.size f cdv)).units+64<cLine)(T:Top mg)(TY:TopY mg)(C_law_hand:Cal P w K mg base 1 "_law_hand" ["_law_script"] (zgr K))(C_law_pick:Cal P w K mg base 1 "_law_pick" ["_law_hand_here", "_law_many"] zdn)(C_law_size:Cal P w K mg base 2 "_law_size" ["_law_hand_here", "_law_most"] zgs)(C_law_order:Cal P w K mg base 3 "_law_order" ["_law_hand_here", "_law_many"] zd4)(Call_orders:Cal P w K mg base 1 "all_orders" ["many"] zg8)(Cwritten:Cal P w K mg base 3 "written" ["order"] zkh)(Cunwritten:Cal P w K mg base 2 "unwritten" ["order"] zki)(Cundone:Cal P w K mg base 1 "undone" ["order"] zc2)(Cmirrored:Cal P w K mg base 1 "mirrored" ["order"] (spU fun ns=>ns.reverse))(Cturned:Cal P w K mg base 1 "turned" ["order"] (spU fun ns=>ns.map (((ns.length:Int)-1)-·)))(Ccount:Cal P w K mg base 5 "count" ["kind", "order"] zc9)(Ctables:Cal P w K mg base 2 "tables" ["order"] zgT)(Cfillings:Cal P w K mg base 2 "fillings" ["shape"] zhd)(Cshapes:Cal P w K mg base 3 "shapes" ["many"] zda):{t:TS//PSs (cxOf CX0 P w K mg base ["_law_script", "_law_hand_here", "_law_many", "_law_orders", "_law_rows", "_law_highs", "_law_pairs", "_law_order_here"] "law" (zaf zbo) f cdv A outer s H E).nox (za8 zbo) t}:=⟨_,
   (zae (zam (i:=1) sc_law.nd rfl (Or.inl rfl) (zan C_law_hand (hr.mono (by decide)) rfl (zaa (pv 0) zad)))
   (zae (zam (i:=2) sc_law.nd rfl (Or.inl rfl) (zan C_law_pick (hr.mono (by decide)) rfl (zaa (pv 1) (zaa zaj zad))))
   (zae (zam (i:=3) sc_law.nd rfl (Or.inl rfl) (zan Call_orders (hr.mono (by decide)) rfl (zaa (pv 2) zad)))
   (zae (zaI PassesOwn.never rfl (za1 (zaU (zaa (zb5 (N':=["_law_order_here"]) (n:=1) (ix:=[]) rfl (CompScope.of (sc:=zaf zbo) (N:=["_law_script", "_law_hand_here", "_law_many", "_law_orders", "_law_rows", "_law_highs", "_law_pairs", "_law_order_here"]) (by decide+kernel) rfl rfl) (za2 (pv 3)) (fun _ _ _ _ _=>⟨(zal (i:=0) (show (["_law_order_here"]:List Str).Nodup by decide+kernel) rfl (Or.inl rfl)),zaK,(zan Cwritten (hr.mono (by decide)) rfl (zaa (pv 0) zad))⟩)) (zaa (zb5 (N':=["_law_order_here"]) (n:=1) (ix:=[]) rfl (CompScope.of (sc:=zaf zbo) (N:=["_law_script", "_law_hand_here", "_law_many", "_law_orders", "_law_rows", "_law_highs", "_law_pairs", "_law_order_here"]) (by decide+kernel) rfl rfl) (za2 (pv 3)) (fun _ _ _ _ _=>⟨(zal (i:=0) (show (["_law_order_here"]:List Str).Nodup by decide+kernel) rfl (Or.inl rfl)),zaK,(zan Cunwritten (hr.mono (by decide)) rfl (zaa (pv 0) zad))⟩)) zad)))) (zal (i:=4) sc_law.nd rfl (Or.inl rfl))
    (zag (zbp (zax (zdJ hu) (zaq zbB (by rfl) T.n_sorted boot_sorted (zaa (pv 4) zad)) (zao (zbA K rfl) (by rfl) T.n_list boot_list (zaa (pv 3) zad)) (zaB _))
     (zag (zas zdW))
     zaH)))
   (zae (zaI PassesOwn.never rfl (za1 (zaU (zaa (zb5 (N':=["_law_order_here"]) (n:=1) (ix:=[]) rfl (CompScope.of (sc:=zaf zbo) (N:=["_law_script", "_law_hand_here", "_law_many", "_law_orders", "_law_rows", "_law_highs", "_law_pairs", "_law_order_here"]) (by decide+kernel) rfl rfl) (za2 (pv 3)) (fun _ _ _ _ _=>⟨(zal (i:=0) (show (["_law_order_here"]:List Str).Nodup by decide+kernel) rfl (Or.inl rfl)),zaK,(zan Cundone (hr.mono (by decide)) rfl (zaa (pv 0) zad))⟩)) (zaa (zb5 (N':=["_law_order_here"]) (n:=1) (ix:=[]) rfl (CompScope.of (sc:=zaf zbo) (N:=["_law_script", "_law_hand_here", "_law_many", "_law_orders", "_law_rows", "_law_highs", "_law_pairs", "_law_order_here"]) (by decide+kernel) rfl rfl) (za2 (pv 3)) (fun _ _ _ _ _=>⟨(zal (i:=0) (show (["_law_order_here"]:List Str).Nodup by decide+kernel) rfl (Or.inl rfl)),zaK,(zan Cmirrored (hr.mono (by decide)) rfl (zaa (pv 0) zad))⟩)) zad)))) (zal (i:=4) sc_law.nd rfl (Or.inl rfl))
    (zag (zbp (zax (zdJ hu) (zaq zbB (by rfl) T.n_sorted boot_sorted (zaa (pv 4) zad)) (zao (zbA K rfl) (by rfl) T.n_list boot_list (zaa (pv 3) zad)) (zaB _))
     (zag (zas zdW))
     zaH)))
   (zae (zbp (zax (zdJ hu) (zaq zbB (by rfl) T.n_sorted boot_sorted (zaa (zb5 (N':=["_law_order_here"]) (n:=1) (ix:=[]) rfl (CompScope.of (sc:=zaf zbo) (N:=["_law_script", "_law_hand_here", "_law_many", "_law_orders", "_law_rows", "_law_highs", "_law_pairs", "_law_order_here"]) (by decide+kernel) rfl rfl) (za2 (pv 3)) (fun _ _ _ _ _=>⟨(zal (i:=0) (show (["_law_order_here"]:List Str).Nodup by decide+kernel) rfl (Or.inl rfl)),zaK,(zan Cturned (hr.mono (by decide)) rfl (zaa (pv 0) zad))⟩)) zad)) (zao (zbA K rfl) (by rfl) T.n_list boot_list (zaa (pv 3) zad)) (zaB _))
    (zag (zas zdW))
    zaH)
   (zae (zbp (zh3 (zaq (zgV rfl) (by rfl) TY.n_any boot_any (zaa (zb5 (N':=["_law_order_here"]) (n:=1) (ix:=[]) rfl (CompScope.of (sc:=zaf zbo) (N:=["_law_script", "_law_hand_here", "_law_many", "_law_orders", "_law_rows", "_law_highs", "_law_pairs", "_law_order_here"]) (by decide+kernel) rfl rfl) (za2 (pv 3)) (fun _ _ _ _ _=>⟨(zal (i:=0) (show (["_law_order_here"]:List Str).Nodup by decide+kernel) rfl (Or.inl rfl)),zaK,(zde zlb (zan Ccount (hr.mono (by decide)) rfl (zaa zgl (zaa (zan Cwritten (hr.mono (by decide)) rfl (zaa (pv 0) zad)) zad))) (zan Ccount (hr.mono (by decide)) rfl (zaa zgl (zaa (pv 0) zad))) (zaB _))⟩)) zad)))
    (zag (zas zdW))
    zaH)
   (zae (zjO (i:=5) rfl sc_law.nd rfl rfl (N':=["_law_order_here"]) (n:=1) (ix:=[]) rfl (CompScope.of (sc:=zaf zbo) (N:=["_law_script", "_law_hand_here", "_law_many", "_law_orders", "_law_rows", "_law_highs", "_law_pairs", "_law_order_here"]) (by decide+kernel) rfl rfl) (za2 (pv 3)) (fun _ _ _ _ _=>⟨(zal (i:=0) (show (["_law_order_here"]:List Str).Nodup by decide+kernel) rfl (Or.inl rfl)),zaK,(zan Ccount (hr.mono (by decide)) rfl (zaa zgl (zaa (pv 0) zad)))⟩))
   (zae (zbp (zax (zdJ hu) (zaq zcU (by rfl) T.n_sorted boot_sorted (zaa (pv 5) zad)) (zaq zcU (by rfl) T.n_sorted boot_sorted (zaa (zb5 (N':=["_law_order_here"]) (n:=1) (ix:=[]) rfl (CompScope.of (sc:=zaf zbo) (N:=["_law_script", "_law_hand_here", "_law_many", "_law_orders", "_law_rows", "_law_highs", "_law_pairs", "_law_order_here"]) (by decide+kernel) rfl rfl) (za2 (pv 3)) (fun _ _ _ _ _=>⟨(zal (i:=0) (show (["_law_order_here"]:List Str).Nodup by decide+kernel) rfl (Or.inl rfl)),zaK,(zan Ccount (hr.mono (by decide)) rfl (zaa zgl (zaa (pv 0) zad)))⟩)) zad)) (zaB _))
    (zag (zas zdW))
    zaH)
   (zae (zam (i:=6) sc_law.nd rfl (Or.inl rfl) (zaq (zeA hu) (by rfl) T.n_sorted boot_sorted (zaa (zb5 (N':=["_law_order_here"]) (n:=1) (ix:=[]) rfl (CompScope.of (sc:=zaf zbo) (N:=["_law_script", "_law_hand_here", "_law_many", "_law_orders", "_law_rows", "_law_highs", "_law_pairs", "_law_order_here"]) (by decide+kernel) rfl rfl) (za2 (pv 3)) (fun _ _ _ _ _=>⟨(zal (i:=0) (show (["_law_order_here"]:List Str).Nodup by decide+kernel) rfl (Or.inl rfl)),zaK,(zan Ctables (hr.mono (by decide)) rfl (zaa (pv 0) zad))⟩)) zad)))
   (zae (zbp (zh3 (zaq (zgV rfl) (by rfl) TY.n_any boot_any (zaa (zb5 (N':=["_law_one", "_law_other"]) (n:=2) (ix:=[]) rfl (CompScope.of (sc:=zaf zbo) (N:=["_law_script", "_law_hand_here", "_law_many", "_law_orders", "_law_rows", "_law_highs", "_law_pairs", "_law_order_here"]) (by decide+kernel) rfl rfl) (zkv rfl T.n_zip (zaa (pv 6) (zaa (zbX zfC (pv 6) (zb8 zaj) zbJ) zad))) (fun _ _ _ _ _=>⟨(zjR K (i:=0) (j:=1) rfl rfl (show (["_law_one", "_law_other"]:List Str).Nodup by decide+kernel) rfl rfl (Or.inl rfl) (Or.inl rfl) (Or.inr rfl) (Or.inr rfl)),zaK,(zde (zit hu) (pv 0) (pv 1) (zaB _))⟩)) zad)))
    (zag (zas zdW))
    zaH)
   (zae (zbp (zax zlb (zaq zat (by rfl) T.n_len PySem.boot_len (zaa (pv 6) zad)) (zaq (zdq rfl) (by rfl) T.n_sum boot_sum (zaa (zb5 (N':=["_law_shape"]) (n:=1) (ix:=[]) rfl (CompScope.of (sc:=zaf zbo) (N:=["_law_script", "_law_hand_here", "_law_many", "_law_orders", "_law_rows", "_law_highs", "_law_pairs", "_law_order_here"]) (by decide+kernel) rfl rfl) (za2 (zan Cshapes (hr.mono (by decide)) rfl (zaa (pv 2) zad))) (fun _ _ _ _ _=>⟨(zal (i:=0) (show (["_law_shape"]:List Str).Nodup by decide+kernel) rfl (Or.inl rfl)),zaK,(zaw zkC (zan Cfillings (hr.mono (by decide)) rfl (zaa (pv 0) zad)) zaj)⟩)) zad)) (zaB _))
    (zag (zas zdW))
    zaH)
   (zae (zam (i:=7) sc_law.nd rfl (Or.inl rfl) (zan C_law_order (hr.mono (by decide)) rfl (zaa (pv 1) (zaa (zan C_law_size (hr.mono (by decide)) rfl (zaa (pv 1) (zaa zaj zad))) zad))))
   (zag (zas (zme (zde (zit hu) (zan Cwritten (hr.mono (by decide)) rfl (zaa (zan Cunwritten (hr.mono (by decide)) rfl (zaa (pv 7) zad)) zad)) (pv 7) (zaB _)) (zmd (zde (zit hu) (zan Cunwritten (hr.mono (by decide)) rfl (zaa (zan Cwritten (hr.mono (by decide)) rfl (zaa (pv 7) zad)) zad)) (pv 7) (zaB _)))))))))))))))))))⟩
end
end K88
namespace L2
open PySem PySem.Spec PyProof.Rows
theorem zfs:∀{ns ms:List Int},ns.map V.int=ms.map V.int->ns=ms
 |[],[],_=>rfl
 |[],_::_,h=>by cases h
 |_::_,[],h=>by cases h
 |a::l,b::r,h=>by
  rw[List.map_cons,List.map_cons] at h
  injection h with h1 h2
  injection h1 with h1
  rw[h1,zfs h2]
theorem zft {H:Hp}:∀{zs:List Addr} {R:List (List Int)},RowsAt H zs R->∀{z:Addr},z∈zs->∃r,r∈R/\H z=some (.tup (r.map V.int))
 |_,_,.nil,_,h=>by cases h
 | _,_,.cons a t,z,h=>by
  rcases List.mem_cons.mp h with rfl|h
  ·exact⟨_,List.mem_cons_self,a⟩
  ·obtain ⟨r,h1,h2⟩:=zft t h
   exact⟨r,List.mem_cons_of_mem _ h1,h2⟩
theorem zfu {m:Nat}(h:m<=6):(allA m).length<=720:=by
 have:=(zcz m m).2
 unfold allA
 rw[this]
 exact zeU m (by (first|lia|omega)) m (by (first|lia|omega))
theorem za0 {K:PySem.W.Frag}{a:Addr}{zs:List Addr}{R:List (List Int)}{te:TE}{ix:List Nat}{σ:L2.St}{H1:Hp}{Q:VK}(hH:H1 a=some (.tup (zs.map V.ref)))(hR:RowsAt H1 zs R)(small:zs.length<=1000)
  (Rel:Hp->V->List Int->Prop) (hRel:∀H H' v r,SameT H H'->Rel H v r->Rel H' v r)
  (he:∀z r,r∈R->∀H,Same H1 H->H z=some (.tup (r.map V.int))->∀QT:VK,(∀v H',Same H H'->Rel H' v r->QT v H')->te (some (.ref z)::ix.map fun i=>σ.getD i none) H QT)
  (fin:∀acc ys H',H1 acc=none->Same H1 H'->H' acc=some (.lst ys)->Paired (fun v r=>Rel H' v r) ys R->Q (.ref acc) H'):
  LcW (Itt K a) H1 (zbG 0) zcI te 1 ix σ Q:=by
 refine zim (zbZ (xs:=zs.map V.ref)) (zaR (by rw[List.length_map];(first|lia|omega))) (fun x v H=>∀z r,x=.ref z->H1 z=some (.tup (r.map V.int))->Rel H v r) (by intro x v H H' s h z r e e';exact hRel _ _ _ _ s (h z r e e')) (fun H s=>SqT.of (s _ _ hH)) (fun x hx H s QT q=> ?_) fun acc ys H' h0 s' hacc pr=> ?_
 ·obtain ⟨z,hz,rfl⟩:=List.mem_map.mp hx
  obtain⟨r,hr1,hr2⟩:=zft hR hz
  refine he z r hr1 H s (s _ _ hr2) QT fun v H' s' h=>q v H' s' fun z' r' e e'=> ?_
  cases e
  rw[hr2] at e'
  have:r=r':=by
   injection e' with e'
   injection e' with e'
   exact zfs e'
  subst this
  exact h
 ·refine fin acc ys H' h0 s' hacc ?_
  clear hacc fin he small hH
  induction hR generalizing ys with
  |nil=>
   cases pr
   exact .nil
  |cons h _ ih=>
   cases pr with
   |cons p q=>exact .cons (p _ _ rfl h) (ih _ q)
theorem zjG {H H':Hp}(s:SameT H H'){zs:List Addr}{R:List (List Int)}(h:RowsAt H zs R):RowsAt H' zs R:=Paired.mapP h fun _ _ e=>s _ _ e
theorem PrAt.sT {H H':Hp}{z:Addr}{P:List (List Int)×List (List Int)}(h:PrAt H z P)(e:SameT H H'):PrAt H' z P:=by
 obtain⟨q1,q2,ys1,ys2,a,b,c,d,f⟩:=h
 exact⟨q1,q2,ys1,ys2,e _ _ a,e _ _ b,zjG e c,e _ _ d,zjG e f⟩
theorem zbt {H:Hp}{f:List Int->List Int}:∀{ys:List V} {R:List (List Int)},Paired (fun v r=>∃q,v=V.ref q/\H q=some (.tup ((f r).map V.int))) ys R->∃qs:List Addr,ys=qs.map V.ref/\RowsAt H qs (R.map f)
 |_,_,.nil=>⟨[],rfl,.nil⟩
 |_,_,.cons ⟨q,e,h⟩ t=>by
  obtain⟨qs,e2,h2⟩:=zbt t
  exact⟨q::qs,by rw[e,e2];rfl,.cons h h2⟩
theorem zhq {H:Hp}{f:List Int->List (List Int)×List (List Int)}:∀{ys:List V} {R:List (List Int)},Paired (fun v r=>∃q,v=V.ref q/\PrAt H q (f r)) ys R->∃qs:List Addr,ys=qs.map V.ref/\Paired (fun z P=>PrAt H z P) qs (R.map f)
 |_,_,.nil=>⟨[],rfl,.nil⟩
 |_,_,.cons ⟨q,e,h⟩ t=>by
  obtain⟨qs,e2,h2⟩:=zhq t
  exact⟨q::qs,by rw[e,e2];rfl,.cons h h2⟩
theorem zbU {f:List Int->V}:∀{ys:List V} {R:List (List Int)},Paired (fun v r=>v=f r) ys R->ys=R.map f
 |_,_,.nil=>rfl
 |_,_,.cons e t=>by rw[e,zbU t];rfl
theorem zcW (rows:List (List Int)):SeqAt.shaped (.list (rows.map fun r=>PyData.tuple (r.map PyData.int)))=true:=by
 have:=zfJ rows
 simpa [SeqAt.shaped,PyData.canLay0,PyData.depth] using this
theorem zkx {H:Hp}{a b:Addr}{zs ws:List Addr}{R:List (List Int)}{Q:VK}(ha:H a=some (.lst (zs.map V.ref)))(hb:H b=some (.lst (ws.map V.ref)))(hR:RowsAt H zs R)(hS:RowsAt H ws R)(h:Q (.bl false) H):rNeD (.ref a) (.ref b) H Q:=by
 refine⟨_,_,.lst ha hR.data,.lst hb hS.data,zcW R,zcW R, ?_⟩
 have e:PyData.eqv (.list (R.map fun r=>PyData.tuple (r.map PyData.int))) (.list (R.map fun r=>PyData.tuple (r.map PyData.int)))=true:=by
  simp only[PyData.eqv]
  exact zgC R
 rw[e]
 exact h
theorem zcG {m:Nat}(hm:m<6){R:List (List Int)}{K:PySem.W.Frag}{G:Hp}{r o:Addr}{ys zs:List Addr}(hr:G r=some (.lst (ys.map V.ref)))(hR:RowsAt G ys R)(p:R.Perm (allA m))(ho:G o=some (.tup (zs.map V.ref)))(hO:RowsAt G zs (allA m)){Q:Bool->Hp->Prop}
  (q:∀G',Same G G'->Q false G'):ze1 [.ref r] G fun x H1=>∃v,some (some (V.ref o))=some (some v)/\∃p ys,[v]=[V.ref p]/\(SqL K H1 p ys∨SqT K H1 p ys)/\∀l,H1 l=none->rNeD x (.ref l) (upd H1 l (.lst ys)) fun y H2=>∃k,y=.bl k/\Q k H2:=by
 refine⟨r,ys,R,rfl,hr,hR,fun h2 x hx=>zm4 (by rw[<-p.length_eq];exact h2) (zav (p.mem_iff.mp hx)).1,fun z zs' rows' hp hs hz hn=> ?_⟩
 have e:=zhU hm (hp.trans p) hs
 subst e
 have s1:=zac (o:=.lst (zs'.map V.ref)) hn
 refine⟨_,rfl,o,zs.map V.ref,rfl,.inr (SqT.of (s1 _ _ ho)),fun l hl=> ?_⟩
 have s2:=zac (o:=.lst (zs.map V.ref)) hl
 exact zkx (s2 _ _ zab) zab ((hz.same s1).same s2) ((hO.same s1).same s2) ⟨_,rfl,q _ (s1.trans s2)⟩
theorem zl4 {H:Hp}{zs zs':List Addr}{Ps:List (List (List Int)×List (List Int))}(h:Paired (fun z P=>PrAt H z P) zs Ps)(p:zs'.Perm zs):∃Ps',Paired (fun z P=>PrAt H z P) zs' Ps'/\Ps'.Perm Ps:=by
 have p2:=p.symm
 clear p
 induction p2 generalizing Ps with
 |nil=>cases h;exact⟨[],.nil,.refl _⟩
 | cons x _ ih=>
  cases h with
  |cons a t=>
   obtain⟨Ps',h1,h2⟩:=ih t
   exact⟨_::Ps',.cons a h1,h2.cons _⟩
 | swap x y l=>
  cases h with
  |cons a t=>
   cases t with
   |cons b t=>exact⟨_,.cons b (.cons a t),.swap _ _ _⟩
 |trans _ _ i1 i2=>
  obtain⟨Q1,h1,h2⟩:=i1 h
  obtain⟨Q2,h3,h4⟩:=i2 h1
  exact⟨Q2,h3,h4.trans h2⟩
theorem zky (xs:List V):cutV xs (some 1) none=xs.drop 1:=by
 cases xs with
 |nil=>rfl
 |cons a t=>
  unfold cutV HT.sIx
  simp
theorem zm8 {H:Hp}{zs:List Addr}{Ps:List (List (List Int)×List (List Int))}(h:Paired (fun z P=>PrAt H z P) zs Ps)(nd:Ps.Nodup){xy:V×V}(hx:xy∈(zs.map V.ref).zip ((zs.map V.ref).drop 1)):
  ∃u v P1 P2,xy.1=.ref u/\xy.2=.ref v/\PrAt H u P1/\PrAt H v P2/\P1≠P2:=by
 induction h with
 |nil=>cases hx
 | @cons z P zs Ps a t ih=>
  cases t with
  |nil=>cases hx
  |@cons z2 P2 zs2 Ps2 b t=>
   have nd':=List.nodup_cons.mp nd
   have hx:xy∈(V.ref z,V.ref z2)::((V.ref z2::zs2.map V.ref).zip (zs2.map V.ref)):=hx
   rcases List.mem_cons.mp hx with rfl|hx
   ·exact⟨z,z2,P,P2,rfl,rfl,a,b,fun e=>nd'.1 (by rw[e];exact List.mem_cons_self)⟩
   ·exact ih nd'.2 hx
noncomputable def prQ (P:List (List Int)×List (List Int)):PyData:=.tuple [.tuple (P.1.map fun r=>.tuple (r.map .int)),.tuple (P.2.map fun r=>.tuple (r.map .int))]
theorem PrAt.isD {H:Hp}{z:Addr}{P:List (List Int)×List (List Int)}(h:PrAt H z P):Is H (.ref z) (prQ P):=by
 obtain⟨q1,q2,ys1,ys2,a,b,c,d,f⟩:=h
 exact .tup a (.cons (.tup b c.data) (.cons (.tup d f.data) .nil))
theorem zfv (P:List (List Int)×List (List Int)):SeqAt.shaped (prQ P)=true:=by
 have h1:=(Srt.tupE (Srt.tupE (Srt.tupE Srt.intE))).lay [P.1,P.2]
 have h2:=(Srt.tupE (Srt.tupE (Srt.tupE Srt.intE))).dep [P.1,P.2]
 have h3:(prQ P).depth<=64:=Nat.le_trans h2 (by decide)
 unfold SeqAt.shaped
 rw[Bool.and_eq_true]
 exact⟨h1,decide_eq_true h3⟩
theorem zm9 {P Q:List (List Int)×List (List Int)}(h:P≠Q):PyData.eqv (prQ P) (prQ Q)=false:=by
 have:=(Srt.tupE (Srt.tupE (Srt.tupE Srt.intE))).eqv [P.1,P.2] [Q.1,Q.2]
 cases c:PyData.eqv (prQ P) (prQ Q) with
 |false=>rfl
 |true=>
  have e:=this.mp c
  obtain⟨a,b⟩:=P
  obtain⟨a',b'⟩:=Q
  have e:([a,b]:List (List (List Int)))=[a',b']:=e
  injection e with e1 e2
  injection e2 with e2
  subst e1
  subst e2
  exact absurd rfl h
noncomputable def zl5 (K:PySem.W.Frag):Sp:=fun vs H Q _=>∃(a:Addr) (ns:List Int),vs=[.ref a]/\SqL K H a (ns.map V.int)/\ns.length<=63/\∀H',Q (.bl true) H'
end L2
namespace K88
open PySem PySem.Spec PyProof.Rows L2
noncomputable def zkz (K:PySem.W.Frag):Sp:=zl5 K
section
variable {P:Program}{w:World}{K:PySem.W.Frag}{mg:Str->Option Value}{base:Heap}
set_option maxHeartbeats 4000000 in
theorem zna {f:Addr}{fd:FuncData}(F:Fun K "law" "law" zbo f fd)(T:Top mg)(TY:TopY mg)(C_law_hand:Cal P w K mg base 1 "_law_hand" ["_law_script"] (zgr K))(C_law_pick:Cal P w K mg base 1 "_law_pick" ["_law_hand_here", "_law_many"] zdn)(C_law_size:Cal P w K mg base 2 "_law_size" ["_law_hand_here", "_law_most"] zgs)(C_law_order:Cal P w K mg base 3 "_law_order" ["_law_hand_here", "_law_many"] zd4)(Call_orders:Cal P w K mg base 1 "all_orders" ["many"] zg8)(Cwritten:Cal P w K mg base 3 "written" ["order"] zkh)(Cunwritten:Cal P w K mg base 2 "unwritten" ["order"] zki)(Cundone:Cal P w K mg base 1 "undone" ["order"] zc2)(Cmirrored:Cal P w K mg base 1 "mirrored" ["order"] (spU fun ns=>ns.reverse))(Cturned:Cal P w K mg base 1 "turned" ["order"] (spU fun ns=>ns.map (((ns.length:Int)-1)-·)))(Ccount:Cal P w K mg base 5 "count" ["kind", "order"] zc9)(Ctables:Cal P w K mg base 2 "tables" ["order"] zgT)(Cfillings:Cal P w K mg base 2 "fillings" ["shape"] zhd)(Cshapes:Cal P w K mg base 3 "shapes" ["many"] zda):FnOk P w K mg base CX0 7 f fd ["_law_script"] (zkz K):=by
 refine F.ok sc_law (fun vs H Q E h=> ?_) (fun cdv A outer s H vs Q E hr h=> ?_)
 ·obtain ⟨a,ns,rfl,_⟩:=h
  rfl
 ·obtain ⟨a,ns,rfl,hS,hl,k⟩:=h
  have hu:_:=hr.units
  have hT:=(lawT (P:=P) (w:=w) (base:=base) (E:=E) (outer:=outer) (s:=s) (H:=H) (f:=f) (cdv:=cdv) (A:=A) hr hu T TY C_law_hand C_law_pick C_law_size C_law_order Call_orders Cwritten Cunwritten Cundone Cmirrored Cturned Ccount Ctables Cfillings Cshapes).2
  refine⟨(lawT (P:=P) (w:=w) (base:=base) (E:=E) (outer:=outer) (s:=s) (H:=H) (f:=f) (cdv:=cdv) (A:=A) hr hu T TY C_law_hand C_law_pick C_law_size C_law_order Call_orders Cwritten Cunwritten Cundone Cmirrored Cturned Ccount Ctables Cfillings Cshapes).1,by assumption, ?_⟩
  clear hT
  refine⟨_,rfl,a,ns,rfl,hS,hl,fun p q H1 s1 hh1 hp0 hq0=> ?_⟩
  refine⟨_,rfl,p,q,6,rfl,by decide,by decide,hh1,fun m1 H2 m0 m1' hh2 k2=> ?_⟩
  obtain⟨m,rfl⟩:∃n:Nat,m1=(n:Int):=⟨m1.toNat,by (first|lia|omega)⟩
  have hm:m<6:=by (first|lia|omega)
  refine⟨_,rfl,m,rfl,by (first|lia|omega),fun o zs H3 s3 ho hR=> ?_⟩
  have hh3:=hh2.same s3
  have hzl:zs.length<=1000:=by
   have e1:=Paired.length hR
   have e2:=zfu (m:=m) (by (first|lia|omega))
   (first|lia|omega)
  clear hh1 hp0 hq0 s1 hS hh2 k2 s3
  refine⟨_,rfl,o,rfl,⟨_,SqT.of ho⟩, ?_⟩
  refine za0 ho hR hzl (fun H v r=>∃q,v=V.ref q/\H q=some (.tup ((wroR m r).flatten.map V.int))) (fun _ _ _ _ s ⟨q,e,h⟩=>⟨q,e,s _ _ h⟩) (fun z r hr G sG hz QT q=> ?_) fun a1 ys1 H4 ha1 s4 hA1 P1=> ?_
  ·exact⟨_,rfl,z,r,m,rfl,hz,(zav hr).1,by (first|lia|omega),fun p' H' s' hp'=>q _ _ s' ⟨p',rfl,hp'⟩⟩
  refine⟨_,rfl,o,rfl,⟨_,SqT.of (s4 _ _ ho)⟩, ?_⟩
  refine za0 (s4 _ _ ho) (hR.same s4) hzl (fun H v r=>∃q,v=V.ref q/\H q=some (.tup ((zbO m (cutH r)).map V.int))) (fun _ _ _ _ s ⟨q,e,h⟩=>⟨q,e,s _ _ h⟩) (fun z r hr G sG hz QT q=> ?_) fun a2 ys2 H5 ha2 s5 hA2 P2=> ?_
  ·exact⟨_,rfl,z,r,m,rfl,hz,(zav hr).1,by (first|lia|omega),fun p' H' s' hp'=>q _ _ s' ⟨p',rfl,hp'⟩⟩
  obtain⟨q1,rfl,R1⟩:=zbt P1
  obtain⟨q2,rfl,R2⟩:=zbt P2
  refine⟨by show 2<=sizeLine;decide,fun l hl=>⟨l,rfl,⟨_,SqL.of zab⟩, ?_⟩⟩
  have s6:=zac (o:=.lst [.ref a1,.ref a2]) hl
  have hl6:=@zab H5 l (.lst [.ref a1,.ref a2])
  have hA1:=s6 _ _ (s5 _ _ hA1)
  have hA2:=s6 _ _ hA2
  have R1:=(R1.same s5).same s6
  have R2:=R2.same s6
  have s36:=(s4.trans s5).trans s6
  have ho:=s36 _ _ ho
  have hR:=hR.same s36
  have hh3:=hh3.same s36
  generalize upd H5 l (.lst [.ref a1,.ref a2])=G1 at hA1 hA2 R1 R2 hl6 ho hR hh3 ⊢
  clear s36 P1 P2 s4 s5 s6 hl ha1 ha2
  refine zbW (xs:=[.ref a1,.ref a2]) (fun i σ G=>∃c4:Option V,σ=[some (.ref a),some (.ref p),some (.int (m:Int)),some (.ref o),c4,none,none,none]/\Same G1 G) ⟨_,rfl,Same.refl _⟩ (fun i σ G _ ⟨_,_,sG⟩=>SqL.of (sG _ _ hl6)) ?_ ?_
  ·rintro i x σ G hx ⟨c4,rfl,sG⟩
   have e4:=sG _ _ ho
   have e5:=hR.same sG
   match i,hx with
   |0,hx=>
    cases hx
    exact⟨_,rfl,zcG hm (sG _ _ hA1) (R1.same sG) (zb4 hm (fun _ h=>zcF h) (fun _ h=>zdc h)) e4 e5 fun G' s'=>iteF ⟨_,rfl,sG.trans s'⟩⟩
   |1,hx=>
    cases hx
    exact⟨_,rfl,zcG hm (sG _ _ hA2) (R2.same sG) (zb4 hm (fun _ h=>zdc h) (fun _ h=>zcF h)) e4 e5 fun G' s'=>iteF ⟨_,rfl,sG.trans s'⟩⟩
  rintro σ G ⟨c4,rfl,sG⟩
  have ho:=sG _ _ ho
  have hR:=hR.same sG
  have hh3:=hh3.same sG
  clear sG hA1 hA2 R1 R2 hl6
  refine⟨_,rfl,o,rfl,⟨_,SqT.of ho⟩, ?_⟩
  refine za0 ho hR hzl (fun H v r=>∃q,v=V.ref q/\H q=some (.tup ((invO r).map V.int))) (fun _ _ _ _ s ⟨q,e,h⟩=>⟨q,e,s _ _ h⟩) (fun z r hr G sG hz QT q=> ?_) fun a1 ys1 H4 ha1 s4 hA1 P1=> ?_
  ·exact⟨_,rfl,z,r,m,rfl,hz,(zav hr).1,by (first|lia|omega),fun p' H' s' hp'=>q _ _ s' ⟨p',rfl,hp'⟩⟩
  refine⟨_,rfl,o,rfl,⟨_,SqT.of (s4 _ _ ho)⟩, ?_⟩
  refine za0 (s4 _ _ ho) (hR.same s4) hzl (fun H v r=>∃q,v=V.ref q/\H q=some (.tup (r.reverse.map V.int))) (fun _ _ _ _ s ⟨q,e,h⟩=>⟨q,e,s _ _ h⟩) (fun z r hr G sG hz QT q=> ?_) fun a2 ys2 H5 ha2 s5 hA2 P2=> ?_
  ·have:=(zav hr).2
   exact⟨_,rfl,z,r,rfl,hz,by (first|lia|omega),fun p' H' s' hp'=>q _ _ s' ⟨p',rfl,hp'⟩⟩
  obtain⟨q1,rfl,R1⟩:=zbt P1
  obtain⟨q2,rfl,R2⟩:=zbt P2
  refine⟨by show 2<=sizeLine;decide,fun l hl=>⟨l,rfl,⟨_,SqL.of zab⟩, ?_⟩⟩
  have s6:=zac (o:=.lst [.ref a1,.ref a2]) hl
  have hl6:=@zab H5 l (.lst [.ref a1,.ref a2])
  have hA1:=s6 _ _ (s5 _ _ hA1)
  have hA2:=s6 _ _ hA2
  have R1:=(R1.same s5).same s6
  have R2:=R2.same s6
  have s36:=(s4.trans s5).trans s6
  have ho:=s36 _ _ ho
  have hR:=hR.same s36
  have hh3:=hh3.same s36
  generalize upd H5 l (.lst [.ref a1,.ref a2])=G1 at hA1 hA2 R1 R2 hl6 ho hR hh3 ⊢
  clear s36 P1 P2 s4 s5 s6 hl ha1 ha2
  refine zbW (xs:=[.ref a1,.ref a2]) (fun i σ G=>∃c4:Option V,σ=[some (.ref a),some (.ref p),some (.int (m:Int)),some (.ref o),c4,none,none,none]/\Same G1 G) ⟨_,rfl,Same.refl _⟩ (fun i σ G _ ⟨_,_,sG⟩=>SqL.of (sG _ _ hl6)) ?_ ?_
  ·rintro i x σ G hx ⟨c4,rfl,sG⟩
   have e4:=sG _ _ ho
   have e5:=hR.same sG
   match i,hx with
   |0,hx=>
    cases hx
    exact⟨_,rfl,zcG hm (sG _ _ hA1) (R1.same sG) (zb4 hm (fun _ h=>zhl h) (fun _ h=>zhl h)) e4 e5 fun G' s'=>iteF ⟨_,rfl,sG.trans s'⟩⟩
   |1,hx=>
    cases hx
    exact⟨_,rfl,zcG hm (sG _ _ hA2) (R2.same sG) (zb4 hm (fun _ h=>zhm h) (fun _ h=>zhm h)) e4 e5 fun G' s'=>iteF ⟨_,rfl,sG.trans s'⟩⟩
  rintro σ G ⟨c4',rfl,sG⟩
  have ho:=sG _ _ ho
  have hR:=hR.same sG
  have hh3:=hh3.same sG
  clear sG hA1 hA2 R1 R2 hl6
  refine⟨_,rfl,o,rfl,⟨_,SqT.of ho⟩, ?_⟩
  refine za0 ho hR hzl (fun H v r=>∃q,v=V.ref q/\H q=some (.tup ((r.map (((r.length:Int)-1)-·)).map V.int))) (fun _ _ _ _ s ⟨q,e,h⟩=>⟨q,e,s _ _ h⟩) (fun z r hr G sG hz QT q=> ?_) fun a1 ys1 H4 ha1 s4 hA1 P1=> ?_
  ·have:=(zav hr).2
   exact⟨_,rfl,z,r,rfl,hz,by (first|lia|omega),fun p' H' s' hp'=>q _ _ s' ⟨p',rfl,hp'⟩⟩
  obtain⟨q1,rfl,R1⟩:=zbt P1
  refine zcG hm hA1 R1 (zb4 hm (fun _ h=>zhn h) (fun _ h=>zhn h)) (s4 _ _ ho) (hR.same s4) fun G5 s5=>iteF ?_
  have s45:=s4.trans s5
  have ho:=s45 _ _ ho
  have hR:=hR.same s45
  have hh3:=hh3.same s45
  clear s4 s5 s45 hA1 P1 R1 ha1
  refine⟨_,rfl,o,rfl,⟨_,SqT.of ho⟩, ?_⟩
  refine za0 ho hR hzl (fun H v r=>v=.bl false) (fun _ _ _ _ s h=>h) (fun z r hr G sG hz QT q=> ?_) fun a1 ys1 H4 ha1 s4 hA1 P1=> ?_
  ·have hr':=(zav hr).1
   refine⟨_,rfl,z,r,m,rfl,hz,hr',by (first|lia|omega),fun w1 G2 s2 hw=>⟨_,w1,_,m,rfl,hw,(zcF hr').1,by (first|lia|omega),.inr ⟨rfl,fun G3 s3=> ?_⟩⟩⟩
   refine⟨_,rfl,_,z,r,m,rfl,(s2.trans s3) _ _ hz,hr',by (first|lia|omega),.inl ⟨rfl,fun G4 s4=>⟨rfl,q _ _ ((s2.trans s3).trans s4) ?_⟩⟩⟩
   show V.bl (!decide (V.int (zbF (wroR m r).flatten)=V.int ((zay r).length:Int)))=V.bl false
   rw[zfq hr',decide_eq_true rfl]
   rfl
  rw[zbU P1] at hA1
  refine⟨a1,(allA m).map fun _=>false,rfl,by rw[hA1,List.map_map];rfl,⟨_,rfl, ?_⟩⟩
  rw[show ((allA m).map fun _=>false).any id=false by simp]
  refine iteF ?_
  have ho:=s4 _ _ ho
  have hR:=hR.same s4
  have hh3:=hh3.same s4
  clear hA1 P1 ha1 s4
  refine⟨_,rfl,o,rfl,⟨_,SqT.of ho⟩, ?_⟩
  refine za0 ho hR hzl (fun H v r=>v=.int (zbF r)) (fun _ _ _ _ s h=>h) (fun z r hr G sG hz QT q=> ?_) fun a1 ys1 H4 ha1 s4 hA1 P1=> ?_
  ·exact⟨_,rfl,_,z,r,m,rfl,hz,(zav hr).1,by (first|lia|omega),.inr ⟨rfl,fun G3 s3=>q _ _ s3 rfl⟩⟩
  rw[zbU P1] at hA1
  have hA1:H4 a1=some (.lst (((allA m).map zbF).map V.int)):=by rw[hA1,List.map_map];rfl
  have ho:=s4 _ _ ho
  have hR:=hR.same s4
  have hh3:=hh3.same s4
  clear P1 ha1 s4
  refine⟨_,rfl,a1,_,rfl,hA1,fun b1 n1 hp1 hs1 hb1=> ?_⟩
  have s1:=zac (o:=.lst (n1.map V.int)) hb1
  have ho:=s1 _ _ ho
  have hR:=hR.same s1
  have hh3:=hh3.same s1
  have hB1:=@zab H4 b1 (.lst (n1.map V.int))
  generalize upd H4 b1 (.lst (n1.map V.int))=H5 at ho hR hh3 hB1 ⊢
  clear s1 hb1 hA1
  refine⟨_,rfl,o,rfl,⟨_,SqT.of ho⟩, ?_⟩
  refine za0 ho hR hzl (fun H v r=>v=.int ((zay r).length:Int)) (fun _ _ _ _ s h=>h) (fun z r hr G sG hz QT q=> ?_) fun a2 ys2 H6 ha2 s6 hA2 P2=> ?_
  ·exact⟨_,rfl,_,z,r,m,rfl,hz,(zav hr).1,by (first|lia|omega),.inl ⟨rfl,fun G3 s3=>q _ _ s3 rfl⟩⟩
  rw[zbU P2] at hA2
  have hA2:H6 a2=some (.lst (((allA m).map fun r=>((zay r).length:Int)).map V.int)):=by rw[hA2,List.map_map];rfl
  refine⟨a2,_,rfl,hA2,fun b2 n2 hp2 hs2 hb2=> ?_⟩
  have s7:=zac (o:=.lst (n2.map V.int)) hb2
  have en:n1=n2:=by
   refine zjx (hp1.trans (.trans ?_ hp2.symm)) hs1 hs2
   have e:((allA m).map fun r=>((zay r).length:Int))=((allA m).map fun r=>(wroR m r).flatten).map zbF:=by
    rw[List.map_map]
    exact List.map_congr_left fun r hr=>(zfq (zav hr).1).symm
   rw[e]
   exact ((zb4 hm (fun _ h=>zcF h) (fun _ h=>zdc h)).map zbF).symm
  refine neLL (s7 _ _ (s6 _ _ hB1)) zab en ⟨_,rfl,iteF ?_⟩
  have s67:=s6.trans s7
  have ho:=s67 _ _ ho
  have hR:=hR.same s67
  have hh3:=hh3.same s67
  generalize upd H6 b2 (.lst (n2.map V.int))=H7 at ho hR hh3 ⊢
  clear s6 s7 s67 hA2 P2 hp1 hs1 hp2 hs2 en hB1 hb2 ha2
  refine⟨_,rfl,o,rfl,⟨_,SqT.of ho⟩, ?_⟩
  refine za0 ho hR hzl (fun H v r=>∃q,v=V.ref q/\PrAt H q (tabI r m)) (fun _ _ _ _ s ⟨q,e,h⟩=>⟨q,e,h.sT s⟩) (fun z r hr G sG hz QT q=> ?_) fun a1 ys1 H8 ha1 s8 hA1 P1=> ?_
  ·exact⟨_,rfl,z,r,m,rfl,hz,(zav hr).1,by (first|lia|omega),fun t q1 q2 ys1 ys2 H' s' e1 e2 e3 e4 e5=>q _ _ s' ⟨t,rfl,q1,q2,ys1,ys2,e1,e2,e3,e4,e5⟩⟩
  obtain⟨qs,rfl,R1⟩:=zhq P1
  have hql:qs.length=(allA m).length:=by rw[Paired.length R1,List.length_map]
  refine⟨a1,qs,_,rfl,hA1,R1,fun b1 zs' hperm hb1=> ?_⟩
  have s9:=zac (o:=.lst (zs'.map V.ref)) hb1
  have s89:=s8.trans s9
  have ho:=s89 _ _ ho
  have hR:=hR.same s89
  have hh3:=hh3.same s89
  have hB1:=@zab H8 b1 (.lst (zs'.map V.ref))
  obtain⟨Ps',R2,hPp⟩:=zl4 (Paired.mapP R1 fun _ _ h=>h.same s9) hperm
  generalize upd H8 b1 (.lst (zs'.map V.ref))=H9 at ho hR hh3 hB1 R2 ⊢
  have hnd:Ps'.Nodup:=hPp.nodup_iff.mpr (zl3 hm)
  have hzl':zs'.length=(allA m).length:=by rw[hperm.length_eq,hql]
  have h720:=zfu (m:=m) (by (first|lia|omega))
  clear s8 s9 s89 hA1 R1 P1 hb1 ha1 hPp hql hperm
  refine⟨_,rfl,_,rfl,1,rfl,b1,_,rfl,SqL.of hB1,fun c1 hc1=> ?_⟩
  have sc:=zac (o:=.lst (cutV (zs'.map V.ref) (some 1) none)) hc1
  have hC1:=@zab H9 c1 (.lst (cutV (zs'.map V.ref) (some 1) none))
  have hBc:=sc _ _ hB1
  have R3:=Paired.mapP R2 fun _ _ h=>PrAt.same h sc
  have ho:=sc _ _ ho
  have hR:=hR.same sc
  have hh3:=hh3.same sc
  generalize upd H9 c1 (.lst (cutV (zs'.map V.ref) (some 1) none))=H10 at ho hR hh3 hC1 hBc R3 ⊢
  clear hB1 R2 sc hc1
  refine⟨b1,c1,rfl,⟨_,SqL.of hBc⟩,⟨_,SqL.of hC1⟩, ?_⟩
  rw[zky] at hC1
  refine zkw (fun s'=>SqL.of (s' _ _ hBc)) (fun s'=>SqL.of (s' _ _ hC1)) (zaR (by rw[List.length_zip,List.length_map];(first|lia|omega))) (fun _=>true) (fun _=>V.bl false) (fun _ _ _ _ _ q=>q) (fun xy hxy _ H' s' Q' q=> ?_) fun d1 H11 hd1 s11 hD1=> ?_
  ·obtain ⟨u,v,P1,P2,e1,e2,h1,h2,hne⟩:=zm8 R3 hnd hxy
   refine⟨_,rfl,_,rfl, ?_⟩
   rw[e1,e2]
   refine⟨_,_,(h1.same s').isD,(h2.same s').isD,zfv P1,zfv P2, ?_⟩
   rw[zm9 hne]
   exact q
  refine⟨d1,((zs'.map V.ref).zip ((zs'.map V.ref).drop 1)).map fun _=>false,rfl,by rw[hD1,List.map_map,zb9];rfl,⟨_,rfl, ?_⟩⟩
  rw[show (((zs'.map V.ref).zip ((zs'.map V.ref).drop 1)).map fun _=>false).any id=false by simp]
  refine iteF ?_
  have hB:=s11 _ _ hBc
  have hh3:=hh3.same s11
  clear hD1 hd1 hC1 hBc R3 s11 ho hR
  obtain⟨fs1,fs2,fs3⟩:=zm6 m hm
  refine⟨_,rfl,b1,_,rfl,.inl (SqL.of hB), ?_⟩
  refine⟨_,rfl,m,rfl,by (first|lia|omega),fun t ts H12 s12 ht hRt=> ?_⟩
  refine⟨t,rfl,⟨_,SqT.of ht⟩, ?_⟩
  refine za0 ht hRt (by have:=Paired.length hRt;(first|lia|omega)) (fun H v r=>v=.int (filZ r*filZ r)) (fun _ _ _ _ s h=>h) (fun z r hr G sG hz QT q=> ?_) fun a1 ys1 H13 ha1 s13 hA1 P1=> ?_
  ·have fr:=List.all_eq_true.mp fs2 r hr
   simp only[Bool.and_eq_true,decide_eq_true_eq,List.all_eq_true] at fr
   obtain⟨⟨⟨⟨⟨f1,f2⟩,f3⟩,f4⟩,f5⟩,f6⟩:=fr
   refine⟨_,rfl,z,r,rfl,hz,zm5 f1 f2,f3,f4,fun H' s'=>⟨_,_,rfl,rfl,⟨by decide,by decide,by (first|lia|omega)⟩,q _ _ s' ?_⟩⟩
   show V.int (filZ r^2)=_
   rw[Int.pow_succ,Int.pow_succ,Int.pow_zero,Int.one_mul]
  rw[zbU P1] at hA1
  refine⟨a1,(shZy m m).map fun sh=>filZ sh*filZ sh,rfl,by rw[hA1,List.map_map];rfl,⟨rfl,_,rfl, ?_⟩⟩
  rw[fs1,List.length_map,hzl']
  rw[decide_eq_true rfl]
  refine iteF ?_
  have hh3:=(hh3.same s12).same s13
  clear hA1 P1 ha1 s13 s12 hRt ht fs1 fs2 fs3 hB
  refine⟨_,rfl,_,rfl,p,q,60,rfl,by decide,by decide,hh3,fun m2 G4 m20 m21 hh4 k4=> ?_⟩
  obtain⟨n,rfl⟩:∃n:Nat,m2=(n:Int):=⟨m2.toNat,by (first|lia|omega)⟩
  refine⟨p,q,n,rfl,by (first|lia|omega),hh4,fun o2 ys G5 hyo hx hh5 k5=> ?_⟩
  have hn:n<=60:=by (first|lia|omega)
  have hyo:Ord n ys:=hyo
  obtain⟨w1,w2⟩:=zcF hyo
  obtain⟨u1,u2⟩:=zdc hyo
  refine⟨_,rfl,o2,ys,n,rfl,hx,hyo,hn,fun x1 G6 s6 h1=> ?_⟩
  refine⟨x1,_,n,rfl,h1,u1,hn,fun x2 G7 s7 h2=> ?_⟩
  rw[u2] at h2
  refine⟨_,rfl,eqTT h2 ((s6.trans s7) _ _ hx) rfl ?_⟩
  refine⟨_,rfl,iteT ?_⟩
  refine⟨_,rfl,o2,ys,n,rfl,(s6.trans s7) _ _ hx,hyo,hn,fun x3 G8 s8 h3=> ?_⟩
  refine⟨x3,_,n,rfl,h3,w1,hn,fun x4 G9 s9 h4=> ?_⟩
  rw[w2] at h4
  refine⟨_,rfl,eqTT h4 (((s6.trans s7).trans (s8.trans s9)) _ _ hx) rfl ?_⟩
  exact k _
end
end K88
namespace L2
open PySem PySem.Spec PyProof.Rows
section
variable {K:PySem.W.Frag}{x qual:Str}{st:Stmt}{f:Addr}{fd:FuncData}
theorem Fun.b1 {p0:Str}(F:Fun K x qual st f fd)(h:∀(kV doc pm:Value) (an:Option Addr) (cdv ct:Value) (a0:Value),bindArgs (PySem.W.fnOf x qual (zbv st) (za8 st) (zaf st) .none kV doc pm an cdv ct) ⟨[a0],[]⟩=pure (([p0]:List Str).zip [a0])):Binds K fd [p0] []:=
 F.binds fun kV doc pm an cdv ct us hl=>match us,hl with|[a0],_=>h kV doc pm an cdv ct a0
theorem Fun.b2 {p0 p1:Str}(F:Fun K x qual st f fd)(h:∀(kV doc pm:Value) (an:Option Addr) (cdv ct:Value) (a0 a1:Value),bindArgs (PySem.W.fnOf x qual (zbv st) (za8 st) (zaf st) .none kV doc pm an cdv ct) ⟨[a0,a1],[]⟩=pure (([p0,p1]:List Str).zip [a0,a1])):Binds K fd [p0,p1] []:=
 F.binds fun kV doc pm an cdv ct us hl=>match us,hl with|[a0,a1],_=>h kV doc pm an cdv ct a0 a1
end
end L2
namespace K88
open PySem PySem.Spec PyProof.Rows L2
set_option maxHeartbeats 8000000 in
theorem all_mk {l:PySem.W.OpenLaw}{w:World}{K:PySem.W.Frag}{h:Heap}{mg:Str->Option Value}{fa C_COUNTERS g_rounds_in g_stays_in g_rises_in g_highs_in g_crossed_in g_longest_in:Addr}(X:K.In h)(G:h.Ns mainGlobals mg)(hfa:mg "law" =some (.ref fa))(TK:TopK K)(TYK:TopYK K)(a_COUNTERS:PySem.W.nsIn K mainGlobals "COUNTERS" =some (some (.ref C_COUNTERS)))(GD_COUNTERS:GDict K w.params C_COUNTERS [("rounds",g_rounds_in),("stays",g_stays_in),("rises",g_rises_in),("highs",g_highs_in),("crossed",g_crossed_in),("longest",g_longest_in)])(n_rounds_in:PySem.W.nsIn K mainGlobals "rounds_in" =some (some (.ref g_rounds_in)))(n_stays_in:PySem.W.nsIn K mainGlobals "stays_in" =some (some (.ref g_stays_in)))(n_rises_in:PySem.W.nsIn K mainGlobals "rises_in" =some (some (.ref g_rises_in)))(n_highs_in:PySem.W.nsIn K mainGlobals "highs_in" =some (some (.ref g_highs_in)))(n_crossed_in:PySem.W.nsIn K mainGlobals "crossed_in" =some (some (.ref g_crossed_in)))(n_longest_in:PySem.W.nsIn K mainGlobals "longest_in" =some (some (.ref g_longest_in)))
  (d__law_hand:Def K "_law_hand" zbC) (d__law_pick:Def K "_law_pick" zch) (d__law_size:Def K "_law_size" zci) (d__law_any:Def K "_law_any" zcL) (d__law_order:Def K "_law_order" zbh) (d_all_orders:Def K "all_orders" zbi) (d_round_from:Def K "round_from" zbQ) (d_rounds_met:Def K "rounds_met" zbP) (d_written:Def K "written" zcD) (d_joined:Def K "joined" zer) (d_cut_at_highs:Def K "cut_at_highs" zbm) (d_unwritten:Def K "unwritten" zcl) (d_undone:Def K "undone" zen) (d_mirrored:Def K "mirrored" zcM) (d_turned:Def K "turned" zdb) (d_rounds_of:Def K "rounds_of" zcj) (d_rounds_in:Def K "rounds_in" zck) (d_highs_in:Def K "highs_in" zcN) (d_count:Def K "count" zf9) (d_put_in:Def K "put_in" zc8) (d_as_table:Def K "as_table" zb2) (d_tables:Def K "tables" zem) (d_product:Def K "product" zdB) (d_fillings:Def K "fillings" zb3) (d_shapes_grown:Def K "shapes_grown" zbn) (d_fillings_of:Def K "fillings_of" zbE) (d_shapes:Def K "shapes" zet) (d_law:Def K "law" zbo):
  ∃fd:FuncData,(∀(s:Shared) (v:Value),BindsTo s fd ⟨[v],[]⟩ [("_law_script",v)])/\∀base:Heap,K.In base->base.Ns mainGlobals mg->FnOk l.prog w K mg base CX0 7 fa fd ["_law_script"] (zkz K):=by
 have T:Top mg:=TK.top X G
 have TY:TopY mg:=TYK.top X G
 obtain⟨f__law_hand,e__law_hand,F__law_hand,m__law_hand⟩:=d__law_hand.fn X G
 obtain⟨f__law_pick,e__law_pick,F__law_pick,m__law_pick⟩:=d__law_pick.fn X G
 obtain⟨f__law_size,e__law_size,F__law_size,m__law_size⟩:=d__law_size.fn X G
 obtain⟨f__law_any,e__law_any,F__law_any,m__law_any⟩:=d__law_any.fn X G
 obtain⟨f__law_order,e__law_order,F__law_order,m__law_order⟩:=d__law_order.fn X G
 obtain⟨f_all_orders,e_all_orders,F_all_orders,m_all_orders⟩:=d_all_orders.fn X G
 obtain⟨f_round_from,e_round_from,F_round_from,m_round_from⟩:=d_round_from.fn X G
 obtain⟨f_rounds_met,e_rounds_met,F_rounds_met,m_rounds_met⟩:=d_rounds_met.fn X G
 obtain⟨f_written,e_written,F_written,m_written⟩:=d_written.fn X G
 obtain⟨f_joined,e_joined,F_joined,m_joined⟩:=d_joined.fn X G
 obtain⟨f_cut_at_highs,e_cut_at_highs,F_cut_at_highs,m_cut_at_highs⟩:=d_cut_at_highs.fn X G
 obtain⟨f_unwritten,e_unwritten,F_unwritten,m_unwritten⟩:=d_unwritten.fn X G
 obtain⟨f_undone,e_undone,F_undone,m_undone⟩:=d_undone.fn X G
 obtain⟨f_mirrored,e_mirrored,F_mirrored,m_mirrored⟩:=d_mirrored.fn X G
 obtain⟨f_turned,e_turned,F_turned,m_turned⟩:=d_turned.fn X G
 obtain⟨f_rounds_of,e_rounds_of,F_rounds_of,m_rounds_of⟩:=d_rounds_of.fn X G
 obtain⟨f_rounds_in,e_rounds_in,F_rounds_in,m_rounds_in⟩:=d_rounds_in.fn X G
 obtain⟨f_highs_in,e_highs_in,F_highs_in,m_highs_in⟩:=d_highs_in.fn X G
 obtain⟨f_count,e_count,F_count,m_count⟩:=d_count.fn X G
 obtain⟨f_put_in,e_put_in,F_put_in,m_put_in⟩:=d_put_in.fn X G
 obtain⟨f_as_table,e_as_table,F_as_table,m_as_table⟩:=d_as_table.fn X G
 obtain⟨f_tables,e_tables,F_tables,m_tables⟩:=d_tables.fn X G
 obtain⟨f_product,e_product,F_product,m_product⟩:=d_product.fn X G
 obtain⟨f_fillings,e_fillings,F_fillings,m_fillings⟩:=d_fillings.fn X G
 obtain⟨f_shapes_grown,e_shapes_grown,F_shapes_grown,m_shapes_grown⟩:=d_shapes_grown.fn X G
 obtain⟨f_fillings_of,e_fillings_of,F_fillings_of,m_fillings_of⟩:=d_fillings_of.fn X G
 obtain⟨f_shapes,e_shapes,F_shapes,m_shapes⟩:=d_shapes.fn X G
 obtain⟨f_law,e_law,F_law,m_law⟩:=d_law.fn X G
 have b__law_hand:Binds K _ ["_law_script"] []:=F__law_hand.b1 fun _ _ _ _ _ _ _=>rfl
 have b__law_pick:Binds K _ ["_law_hand_here", "_law_many"] []:=F__law_pick.b2 fun _ _ _ _ _ _ _ _=>rfl
 have b__law_size:Binds K _ ["_law_hand_here", "_law_most"] []:=F__law_size.b2 fun _ _ _ _ _ _ _ _=>rfl
 have b__law_any:Binds K _ ["_law_hand_here", "_law_many"] []:=F__law_any.b2 fun _ _ _ _ _ _ _ _=>rfl
 have b__law_order:Binds K _ ["_law_hand_here", "_law_many"] []:=F__law_order.b2 fun _ _ _ _ _ _ _ _=>rfl
 have b_all_orders:Binds K _ ["many"] []:=F_all_orders.b1 fun _ _ _ _ _ _ _=>rfl
 have b_round_from:Binds K _ ["order", "first"] []:=F_round_from.b2 fun _ _ _ _ _ _ _ _=>rfl
 have b_rounds_met:Binds K _ ["order", "firsts"] []:=F_rounds_met.b2 fun _ _ _ _ _ _ _ _=>rfl
 have b_written:Binds K _ ["order"] []:=F_written.b1 fun _ _ _ _ _ _ _=>rfl
 have b_joined:Binds K _ ["rounds", "many"] []:=F_joined.b2 fun _ _ _ _ _ _ _ _=>rfl
 have b_cut_at_highs:Binds K _ ["order"] []:=F_cut_at_highs.b1 fun _ _ _ _ _ _ _=>rfl
 have b_unwritten:Binds K _ ["order"] []:=F_unwritten.b1 fun _ _ _ _ _ _ _=>rfl
 have b_undone:Binds K _ ["order"] []:=F_undone.b1 fun _ _ _ _ _ _ _=>rfl
 have b_mirrored:Binds K _ ["order"] []:=F_mirrored.b1 fun _ _ _ _ _ _ _=>rfl
 have b_turned:Binds K _ ["order"] []:=F_turned.b1 fun _ _ _ _ _ _ _=>rfl
 have b_rounds_of:Binds K _ ["order"] []:=F_rounds_of.b1 fun _ _ _ _ _ _ _=>rfl
 have b_rounds_in:Binds K _ ["order"] []:=F_rounds_in.b1 fun _ _ _ _ _ _ _=>rfl
 have b_highs_in:Binds K _ ["order"] []:=F_highs_in.b1 fun _ _ _ _ _ _ _=>rfl
 have b_count:Binds K _ ["kind", "order"] []:=F_count.b2 fun _ _ _ _ _ _ _ _=>rfl
 have b_put_in:Binds K _ ["rows", "number"] []:=F_put_in.b2 fun _ _ _ _ _ _ _ _=>rfl
 have b_as_table:Binds K _ ["rows"] []:=F_as_table.b1 fun _ _ _ _ _ _ _=>rfl
 have b_tables:Binds K _ ["order"] []:=F_tables.b1 fun _ _ _ _ _ _ _=>rfl
 have b_product:Binds K _ ["first", "last"] []:=F_product.b2 fun _ _ _ _ _ _ _ _=>rfl
 have b_fillings:Binds K _ ["shape"] []:=F_fillings.b1 fun _ _ _ _ _ _ _=>rfl
 have b_shapes_grown:Binds K _ ["shape"] []:=F_shapes_grown.b1 fun _ _ _ _ _ _ _=>rfl
 have b_fillings_of:Binds K _ ["many"] []:=F_fillings_of.b1 fun _ _ _ _ _ _ _=>rfl
 have b_shapes:Binds K _ ["many"] []:=F_shapes.b1 fun _ _ _ _ _ _ _=>rfl
 have e:fa=f_law:=by
  have q:=hfa.symm.trans m_law
  cases q
  rfl
 subst e
 obtain⟨oc,od,kV,doc,pm,an,cdv,ct,osl,rfl,lk,hcd⟩:=F_law.ex
 refine⟨PySem.W.fnOf "law" "law" (zbv zbo) (za8 zbo) (zaf zbo) .none kV doc pm an cdv ct,fun s v=>.of_eq rfl,fun base _ _=> ?_⟩
 have C_law_hand:Cal l.prog w K mg base 1 "_law_hand" ["_law_script"] (zgr K):=⟨f__law_hand,e__law_hand,ze9 F__law_hand,m__law_hand,F__law_hand.kp,b__law_hand⟩
 have C_law_pick:Cal l.prog w K mg base 1 "_law_pick" ["_law_hand_here", "_law_many"] (zdn):=⟨f__law_pick,e__law_pick,zfa F__law_pick,m__law_pick,F__law_pick.kp,b__law_pick⟩
 have C_law_size:Cal l.prog w K mg base 2 "_law_size" ["_law_hand_here", "_law_most"] (zgs):=⟨f__law_size,e__law_size,zfc F__law_size C_law_pick,m__law_size,F__law_size.kp,b__law_size⟩
 have C_law_any:Cal l.prog w K mg base 2 "_law_any" ["_law_hand_here", "_law_many"] (zll):=⟨f__law_any,e__law_any,zf2 F__law_any T C_law_pick,m__law_any,F__law_any.kp,b__law_any⟩
 have C_law_order:Cal l.prog w K mg base 3 "_law_order" ["_law_hand_here", "_law_many"] (zd4):=⟨f__law_order,e__law_order,zel F__law_order T C_law_pick C_law_any,m__law_order,F__law_order.kp,b__law_order⟩
 have Call_orders:Cal l.prog w K mg base 1 "all_orders" ["many"] (zg8):=⟨f_all_orders,e_all_orders,zev F_all_orders T,m_all_orders,F_all_orders.kp,b_all_orders⟩
 have Cround_from:Cal l.prog w K mg base 1 "round_from" ["order", "first"] (zcd):=⟨f_round_from,e_round_from,zeo F_round_from T,m_round_from,F_round_from.kp,b_round_from⟩
 have Crounds_met:Cal l.prog w K mg base 2 "rounds_met" ["order", "firsts"] (zbz):=⟨f_rounds_met,e_rounds_met,zep F_rounds_met T Cround_from,m_rounds_met,F_rounds_met.kp,b_rounds_met⟩
 have Cwritten:Cal l.prog w K mg base 3 "written" ["order"] (zkh):=⟨f_written,e_written,zhR F_written T Crounds_met,m_written,F_written.kp,b_written⟩
 have Cjoined:Cal l.prog w K mg base 1 "joined" ["rounds", "many"] (zeq):=⟨f_joined,e_joined,zja F_joined T,m_joined,F_joined.kp,b_joined⟩
 have Ccut_at_highs:Cal l.prog w K mg base 1 "cut_at_highs" ["order"] (zlO):=⟨f_cut_at_highs,e_cut_at_highs,zdx F_cut_at_highs,m_cut_at_highs,F_cut_at_highs.kp,b_cut_at_highs⟩
 have Cunwritten:Cal l.prog w K mg base 2 "unwritten" ["order"] (zki):=⟨f_unwritten,e_unwritten,zfi F_unwritten T Cjoined Ccut_at_highs,m_unwritten,F_unwritten.kp,b_unwritten⟩
 have Cundone:Cal l.prog w K mg base 1 "undone" ["order"] (zc2):=⟨f_undone,e_undone,zi8 F_undone T,m_undone,F_undone.kp,b_undone⟩
 have Cmirrored:Cal l.prog w K mg base 1 "mirrored" ["order"] (spU fun ns=>ns.reverse):=⟨f_mirrored,e_mirrored,zf6 F_mirrored T,m_mirrored,F_mirrored.kp,b_mirrored⟩
 have Cturned:Cal l.prog w K mg base 1 "turned" ["order"] (spU fun ns=>ns.map (((ns.length:Int)-1)-·)):=⟨f_turned,e_turned,zjs F_turned T,m_turned,F_turned.kp,b_turned⟩
 have Crounds_of:Cal l.prog w K mg base 3 "rounds_of" ["order"] (zd7):=⟨f_rounds_of,e_rounds_of,zfe F_rounds_of T Crounds_met,m_rounds_of,F_rounds_of.kp,b_rounds_of⟩
 have Crounds_in:Cal l.prog w K mg base 4 "rounds_in" ["order"] (zhQ fun ns=>((zay ns).length:Int)):=⟨f_rounds_in,e_rounds_in,zfg F_rounds_in T Crounds_of,m_rounds_in,F_rounds_in.kp,b_rounds_in⟩
 have Chighs_in:Cal l.prog w K mg base 1 "highs_in" ["order"] (zhQ zbF):=⟨f_highs_in,e_highs_in,zf7 F_highs_in,m_highs_in,F_highs_in.kp,b_highs_in⟩
 have Ccount:Cal l.prog w K mg base 5 "count" ["kind", "order"] (zc9):=⟨f_count,e_count,zkk F_count (PySem.W.mg_of X G a_COUNTERS) GD_COUNTERS (CalF.of Crounds_in (PySem.W.mg_of X G n_rounds_in) (by decide)) (CalF.of Chighs_in (PySem.W.mg_of X G n_highs_in) (by decide)),m_count,F_count.kp,b_count⟩
 have Cput_in:Cal l.prog w K mg base 1 "put_in" ["rows", "number"] (zfX):=⟨f_put_in,e_put_in,zi5 F_put_in T,m_put_in,F_put_in.kp,b_put_in⟩
 have Cas_table:Cal l.prog w K mg base 1 "as_table" ["rows"] (zlE):=⟨f_as_table,e_as_table,zf4 F_as_table T,m_as_table,F_as_table.kp,b_as_table⟩
 have Ctables:Cal l.prog w K mg base 2 "tables" ["order"] (zgT):=⟨f_tables,e_tables,zi7 F_tables T Cput_in Cas_table,m_tables,F_tables.kp,b_tables⟩
 have Cproduct:Cal l.prog w K mg base 1 "product" ["first", "last"] (zlV):=⟨f_product,e_product,zhS F_product T,m_product,F_product.kp,b_product⟩
 have Cfillings:Cal l.prog w K mg base 2 "fillings" ["shape"] (zhd):=⟨f_fillings,e_fillings,zgh F_fillings T Cproduct,m_fillings,F_fillings.kp,b_fillings⟩
 have Cshapes_grown:Cal l.prog w K mg base 1 "shapes_grown" ["shape"] (zgb):=⟨f_shapes_grown,e_shapes_grown,zdA F_shapes_grown T,m_shapes_grown,F_shapes_grown.kp,b_shapes_grown⟩
 have Cfillings_of:Cal l.prog w K mg base 2 "fillings_of" ["many"] (zes):=⟨f_fillings_of,e_fillings_of,zdE F_fillings_of T Cshapes_grown,m_fillings_of,F_fillings_of.kp,b_fillings_of⟩
 have Cshapes:Cal l.prog w K mg base 3 "shapes" ["many"] (zda):=⟨f_shapes,e_shapes,zjl F_shapes T Cfillings_of,m_shapes,F_shapes.kp,b_shapes⟩
 exact zna F_law T TY C_law_hand C_law_pick C_law_size C_law_order Call_orders Cwritten Cunwritten Cundone Cmirrored Cturned Ccount Ctables Cfillings Cshapes
theorem walk {l:PySem.W.OpenLaw}{q:Program}{loose:List Str}{XP:(Str->Option Value)->Heap->Prop}{YP:World->Heap->Prop}{d:DefRec}{K:Params->PySem.W.Frag}(hn:l.most=some 63)(hdf:d.params.defaults=[])
  (hY:∀(w:World) (h:Heap),YP w h->(K w.params).In h)
  (F:∀(w:World) (mg:Str->Option Value) (fa:Addr) (h:Heap),(K w.params).In h->h.Ns mainGlobals mg->mg d.name=some (.ref fa)->
   ∃fd:FuncData,(∀(s:Shared) (u:Value),BindsTo s fd ⟨[u],[]⟩ [("_law_script",u)])/\∀base:Heap,(K w.params).In base->base.Ns mainGlobals mg->FnOk l.prog w (K w.params) mg base CX0 7 fa fd ["_law_script"] (zkz (K w.params))):
  PySem.W.WalkO q loose XP YP l.row.toRowW d [] (fun f vs=>PySem.call f vs):=
 L2.zli (n:=63) (k:=7) (x:= "_law_script") (CX:=fun _=>CX0) (sp:=fun w=>zkz (K w.params)) hn (by decide) hdf ⟨rfl,by decide,by decide,rfl⟩ hY F (fun _ _ a ns hl _ hS=>⟨a,ns,rfl,hS,hl,fun _=>rfl⟩) fun _ _ _ _ _ z=>z
end K88
end
namespace PySem.W.Fast
theorem tw16076792505874960789:True:=trivial
theorem tw4185412271081053641:True:=trivial
theorem tw6123610994554228649:True:=trivial
theorem tw3247108447307615467:True:=trivial
theorem tw5116148034958193137:True:=trivial
theorem tw16831949159296796098:True:=trivial
theorem tw4257254260290186116:True:=trivial
theorem tw3512585036630601005:True:=trivial
theorem tw11649660091789997110:True:=trivial
theorem tw7417203409240156176:True:=trivial
theorem tw1783545850345404175:True:=trivial
theorem tw8266003961841642712:True:=trivial
theorem tw3613253845280924799:True:=trivial
theorem tw6967517943613820182:True:=trivial
theorem tw10772471047476537614:True:=trivial
theorem tw6456960439801608261:True:=trivial
theorem tw4101045777609591540:True:=trivial
theorem tw4789951018538322968:True:=trivial
theorem tw17860407756948614169:True:=trivial
theorem tw3773733396107347479:True:=trivial
theorem tw8625853726009192255:True:=trivial
theorem tw3297558122951898226:True:=trivial
theorem tw6717844039181172707:True:=trivial
theorem tw6529141376532342013:True:=trivial
theorem tw11605585248451473598:True:=trivial
theorem tw11669455636034609079:True:=trivial
theorem tw3313864021487599997:True:=trivial
theorem tw9947610503596585933:True:=trivial
theorem tw4336731666206257450:True:=trivial
theorem tw13302798919960964854:True:=trivial
theorem tw6393975747721255745:True:=trivial
theorem tw11745644508205867846:True:=trivial
theorem tw12197350105076541992:True:=trivial
theorem tw5280499729402299730:True:=trivial
theorem tw11815051686684294939:True:=trivial
theorem tw4592759657298543587:True:=trivial
theorem tw9160240493368296493:True:=trivial
theorem tw9156537208007201154:True:=trivial
theorem tw1674698017111854501:True:=trivial
theorem tw13238756360327870397:True:=trivial
theorem tw15007040628909029327:True:=trivial
theorem tw12155808744092523069:True:=trivial
theorem tw14429377978046963411:True:=trivial
theorem tw12657757588947798647:True:=trivial
theorem tw18268495953798231632:True:=trivial
theorem tw3413163605161810625:True:=trivial
theorem tw2516618448504877981:True:=trivial
theorem tw15039475882716590955:True:=trivial
theorem tw13662443321869224359:True:=trivial
theorem tw3319697421854818113:True:=trivial
theorem tw14354804765486350935:True:=trivial
theorem tw17935419284666060989:True:=trivial
theorem tw6345157523064368202:True:=trivial
theorem tw7009230889241593027:True:=trivial
theorem tw12064665602467988026:True:=trivial
theorem tw7890864874759065931:True:=trivial
theorem tw16177580606516198181:True:=trivial
theorem tw14598131139766931107:True:=trivial
theorem tw10424230030016669839:True:=trivial
theorem tw1805287226277702208:True:=trivial
theorem tw10497859209954222654:True:=trivial
theorem tw15481852706195551755:True:=trivial
theorem tw14836001544040383756:True:=trivial
theorem tw7704351507187402826:True:=trivial
theorem tw4716378744560285752:True:=trivial
theorem tw11450083470675835307:True:=trivial
theorem tw2621582927191634547:True:=trivial
theorem tw8025655904994803227:True:=trivial
theorem tw3536930401895867854:True:=trivial
theorem tw13802713602957450598:True:=trivial
theorem tw10775627610013768467:True:=trivial
theorem tw2677884119974468011:True:=trivial
theorem tw5093890527330952235:True:=trivial
theorem tw17518865351205532099:True:=trivial
theorem tw13525807349807704971:True:=trivial
theorem tw6273413606576761524:True:=trivial
theorem tw15704365747642838842:True:=trivial
theorem tw5183888455584833196:True:=trivial
theorem tw6345725647720288710:True:=trivial
theorem tw795119337710296990:True:=trivial
theorem tw2813599148969968490:True:=trivial
theorem tw10404740012379700976:True:=trivial
theorem tw16899932922268394161:True:=trivial
theorem tw78163617314967846:True:=trivial
theorem tw16372440280744911651:True:=trivial
theorem tw2126420370842986154:True:=trivial
theorem tw17158283648280212884:True:=trivial
theorem tw13777872237061188564:True:=trivial
theorem tw11062687428465904418:True:=trivial
theorem tw7661202192558416312:True:=trivial
theorem tw17790543100644114682:True:=trivial
theorem tw17896427068454531958:True:=trivial
theorem tw8861146168596389655:True:=trivial
theorem tw13249344672446272703:True:=trivial
theorem tw16132118245042401907:True:=trivial
theorem tw6353681948562899469:True:=trivial
theorem tw3510558329386555573:True:=trivial
theorem tw1570492721201566425:True:=trivial
theorem tw10367077741280940080:True:=trivial
theorem tw12671494056258192693:True:=trivial
theorem tw1863652890877773724:True:=trivial
theorem tw14668484653044348753:True:=trivial
theorem tw14843332088594263785:True:=trivial
theorem tw18326785294224725015:True:=trivial
theorem tw6044112551382153064:True:=trivial
theorem tw13685100690866807149:True:=trivial
theorem tw1846860348953343571:True:=trivial
theorem tw3910047080180792078:True:=trivial
theorem tw17612562048400245141:True:=trivial
theorem tw14000893999422051259:True:=trivial
theorem tw18009924888892499353:True:=trivial
theorem tw16344594107547159804:True:=trivial
theorem tw4875884564086267466:True:=trivial
theorem tw4266941845606165114:True:=trivial
theorem tw7314027359493355602:True:=trivial
theorem tw5652381123126410504:True:=trivial
theorem tw16235697808734016484:True:=trivial
theorem tw11920594185191357498:True:=trivial
theorem tw18336618751389055529:True:=trivial
theorem tw3686747357828986111:True:=trivial
theorem tw3388875196937169809:True:=trivial
theorem tw665844356706423662:True:=trivial
theorem tw4977715482565750712:True:=trivial
theorem tw9656780942459008186:True:=trivial
theorem tw10825152394703620649:True:=trivial
theorem tw14751631089851065143:True:=trivial
theorem tw2761718965067707522:True:=trivial
theorem tw5927649593080921498:True:=trivial
theorem tw3516371860962751302:True:=trivial
theorem tw4215016396546726117:True:=trivial
theorem tw16439600759129918467:True:=trivial
theorem tw10920766097282034675:True:=trivial
theorem tw9587716652606069712:True:=trivial
theorem tw6754187926608343950:True:=trivial
theorem tw18148079412023355454:True:=trivial
theorem tw15907340650251092315:True:=trivial
theorem tw1773856988060494724:True:=trivial
theorem tw12182337216676493626:True:=trivial
theorem tw16177593821984330621:True:=trivial
theorem tw14345961005457981565:True:=trivial
theorem tw10315761342435505353:True:=trivial
theorem tw16755104892976647114:True:=trivial
theorem tw14966691806460507405:True:=trivial
theorem tw18117579559205084348:True:=trivial
theorem tw9602242329156444162:True:=trivial
theorem tw13171427332969876624:True:=trivial
theorem tw7228051891772482360:True:=trivial
theorem tw15370792303413736302:True:=trivial
theorem tw12491326857917992112:True:=trivial
theorem tw14811269190763975234:True:=trivial
theorem tw2766251058906225314:True:=trivial
theorem tw11845767649351556163:True:=trivial
theorem tw17536183250516769116:True:=trivial
theorem tw13749568580664507187:True:=trivial
theorem tw8472521620205973318:True:=trivial
theorem tw2903780155080263384:True:=trivial
theorem tw10123007141678732772:True:=trivial
theorem tw14031963992505335950:True:=trivial
theorem tw14818143730219918683:True:=trivial
theorem tw12483908432826584430:True:=trivial
theorem tw1914822044425992930:True:=trivial
theorem tw12984773296901069786:True:=trivial
theorem tw8381597752657373034:True:=trivial
theorem tw18272999623076648948:True:=trivial
theorem tw1219296383854653875:True:=trivial
theorem tw5742453750752357368:True:=trivial
theorem tw17537751298312298761:True:=trivial
theorem tw5766508545539133266:True:=trivial
theorem tw18180081583006399673:True:=trivial
theorem tw14092976295929902850:True:=trivial
theorem tw14960717523643250581:True:=trivial
theorem tw15244312147075271150:True:=trivial
theorem tw6837135646236381704:True:=trivial
theorem tw9655549589429645861:True:=trivial
theorem tw161410581308943879:True:=trivial
theorem tw6946175933894187539:True:=trivial
theorem tw18441580993895927412:True:=trivial
theorem tw13594041116282628422:True:=trivial
theorem tw7460981562506732391:True:=trivial
theorem tw16379377984052164711:True:=trivial
theorem tw17860119306948669804:True:=trivial
theorem tw15781547416233873782:True:=trivial
theorem tw5063083277169517741:True:=trivial
theorem tw9662464944724598014:True:=trivial
theorem tw811451410514949385:True:=trivial
theorem tw13128565402129392798:True:=trivial
theorem tw7491875703499432864:True:=trivial
end PySem.W.Fast
open PySem PySem.W PyProof.Rows
set_option maxRecDepth 100000 in
set_option maxHeartbeats 0 in
theorem PySem.Challenge.cw_shuffletold_k88_whole_rounds_and_highs_e_holds : PySem.Challenge.rw_shuffletold_k88_whole_rounds_and_highs_e.Holds := by
 w_on;o_law;k_head;(case hw=>w_witness2)
 k_fill
 refine K88.walk (l:=PySem.Challenge.rw_shuffletold_k88_whole_rounds_and_highs_e) rfl rfl (fun w h Y=>PySem.W.kIn_of Y) ?F
 case F=>
  intro w mg fa h KX G hmg
  refine' K88.all_mk KX G hmg ⟨?_, ?_, ?_, ?_, ?_, ?_, ?_, ?_, ?_, ?_, ?_, ?_, ?_, ?_, ?_⟩ ⟨?_⟩ ?dA0 (L2.GDict.of ?dL0 ?dE0 ?dN0) ?nF0 ?nF1 ?nF2 ?nF3 ?nF4 ?nF5 (L2.Def.of ?a0 ?l0 ?c0 ?k0) (L2.Def.of ?a1 ?l1 ?c1 ?k1) (L2.Def.of ?a2 ?l2 ?c2 ?k2) (L2.Def.of ?a3 ?l3 ?c3 ?k3) (L2.Def.of ?a4 ?l4 ?c4 ?k4) (L2.Def.of ?a5 ?l5 ?c5 ?k5) (L2.Def.of ?a6 ?l6 ?c6 ?k6) (L2.Def.of ?a7 ?l7 ?c7 ?k7) (L2.Def.of ?a8 ?l8 ?c8 ?k8) (L2.Def.of ?a9 ?l9 ?c9 ?k9) (L2.Def.of ?a10 ?l10 ?c10 ?k10) (L2.Def.of ?a11 ?l11 ?c11 ?k11) (L2.Def.of ?a12 ?l12 ?c12 ?k12) (L2.Def.of ?a13 ?l13 ?c13 ?k13) (L2.Def.of ?a14 ?l14 ?c14 ?k14) (L2.Def.of ?a15 ?l15 ?c15 ?k15) (L2.Def.of ?a16 ?l16 ?c16 ?k16) (L2.Def.of ?a17 ?l17 ?c17 ?k17) (L2.Def.of ?a18 ?l18 ?c18 ?k18) (L2.Def.of ?a19 ?l19 ?c19 ?k19) (L2.Def.of ?a20 ?l20 ?c20 ?k20) (L2.Def.of ?a21 ?l21 ?c21 ?k21) (L2.Def.of ?a22 ?l22 ?c22 ?k22) (L2.Def.of ?a23 ?l23 ?c23 ?k23) (L2.Def.of ?a24 ?l24 ?c24 ?k24) (L2.Def.of ?a25 ?l25 ?c25 ?k25) (L2.Def.of ?a26 ?l26 ?c26 ?k26) (L2.Def.of ?a27 ?l27 ?c27 ?k27)
  (case dA0=>k_is);(case dL0=>k_is);(case dE0=>exact (.cons (.cons (.cons (.cons (.cons (.cons .nil)))))));(case dN0=>decide+kernel)
  (case nF0=>k_is)
  (case nF1=>k_is)
  (case nF2=>k_is)
  (case nF3=>k_is)
  (case nF4=>k_is)
  (case nF5=>k_is)
  (case a0=>k_is);(case l0=>k_is);(case c0=>k_is);(case k0=>k_is)
  (case a1=>k_is);(case l1=>k_is);(case c1=>k_is);(case k1=>k_is)
  (case a2=>k_is);(case l2=>k_is);(case c2=>k_is);(case k2=>k_is)
  (case a3=>k_is);(case l3=>k_is);(case c3=>k_is);(case k3=>k_is)
  (case a4=>k_is);(case l4=>k_is);(case c4=>k_is);(case k4=>k_is)
  (case a5=>k_is);(case l5=>k_is);(case c5=>k_is);(case k5=>k_is)
  (case a6=>k_is);(case l6=>k_is);(case c6=>k_is);(case k6=>k_is)
  (case a7=>k_is);(case l7=>k_is);(case c7=>k_is);(case k7=>k_is)
  (case a8=>k_is);(case l8=>k_is);(case c8=>k_is);(case k8=>k_is)
  (case a9=>k_is);(case l9=>k_is);(case c9=>k_is);(case k9=>k_is)
  (case a10=>k_is);(case l10=>k_is);(case c10=>k_is);(case k10=>k_is)
  (case a11=>k_is);(case l11=>k_is);(case c11=>k_is);(case k11=>k_is)
  (case a12=>k_is);(case l12=>k_is);(case c12=>k_is);(case k12=>k_is)
  (case a13=>k_is);(case l13=>k_is);(case c13=>k_is);(case k13=>k_is)
  (case a14=>k_is);(case l14=>k_is);(case c14=>k_is);(case k14=>k_is)
  (case a15=>k_is);(case l15=>k_is);(case c15=>k_is);(case k15=>k_is)
  (case a16=>k_is);(case l16=>k_is);(case c16=>k_is);(case k16=>k_is)
  (case a17=>k_is);(case l17=>k_is);(case c17=>k_is);(case k17=>k_is)
  (case a18=>k_is);(case l18=>k_is);(case c18=>k_is);(case k18=>k_is)
  (case a19=>k_is);(case l19=>k_is);(case c19=>k_is);(case k19=>k_is)
  (case a20=>k_is);(case l20=>k_is);(case c20=>k_is);(case k20=>k_is)
  (case a21=>k_is);(case l21=>k_is);(case c21=>k_is);(case k21=>k_is)
  (case a22=>k_is);(case l22=>k_is);(case c22=>k_is);(case k22=>k_is)
  (case a23=>k_is);(case l23=>k_is);(case c23=>k_is);(case k23=>k_is)
  (case a24=>k_is);(case l24=>k_is);(case c24=>k_is);(case k24=>k_is)
  (case a25=>k_is);(case l25=>k_is);(case c25=>k_is);(case k25=>k_is)
  (case a26=>k_is);(case l26=>k_is);(case c26=>k_is);(case k26=>k_is)
  (case a27=>k_is);(case l27=>k_is);(case c27=>k_is);(case k27=>k_is)
  all_goals k_is
