import PyProof.Rows.All
import Wide.All
import OpenK.AllK
import Wide.FinOn
import Lean
import PyProof.EqAt
import PyProof.EqKinds
import PyProof.TupleCall
import PySem.Challenge.RW_shuffletold_k63_whole_no_share_above_its
set_option Elab.async false
set_option linter.all false
set_option maxRecDepth 100000
set_option genSizeOfSpec false
noncomputable section
namespace L2
open PySem PySem.Spec PyProof.Rows
noncomputable abbrev Key:=Sum Int Str
noncomputable def zgM:Key->Value->Bool
 | .inl k,v=>Value.isInt k v
 | .inr x,v=>Value.isStrOf x v
noncomputable def keyH (w:World):Key->Int
 | .inl k=>hashInt k
 | .inr x=>hashStr w x
theorem zaG:∀{k:Key} {v:Value},zgM k v=true->(∃i t,k=Sum.inl i/\v=Value.int i t)∨(∃x t,k=Sum.inr x/\v=Value.str x t)
 | .inl i,v,h=>by
  obtain⟨t,e⟩:=Value.isInt_shape (k:=i) (v:=v) h
  exact .inl ⟨i,t,rfl,e⟩
 | .inr x,v,h=>by
  obtain⟨t,e⟩:=Value.isStrOf_shape (x:=x) (v:=v) h
  exact .inr ⟨x,t,rfl,e⟩
theorem zhh (i:Int)(t:Tok):zgM (.inl i) (.int i t)=true:=by simp[zgM,Value.isInt]
theorem zhi (x:Str)(t:Tok):zgM (.inr x) (.str x t)=true:=by simp[zgM,Value.isStrOf]
theorem zkU (a b:Int):decide ((Sum.inl a:Key)=Sum.inl b)=(a==b):=by
 by_cases e:a=b
 ·subst e;simp
 ·have h:¬(Sum.inl a:Key)=Sum.inl b:=fun q=>e (Sum.inl.inj q)
  rw[decide_eq_false h]
  exact (beq_eq_false_iff_ne.mpr e).symm
theorem zkV (a b:Str):decide ((Sum.inr a:Key)=Sum.inr b)=decide (a=b):=by
 by_cases e:a=b
 ·subst e;simp
 ·have h:¬(Sum.inr a:Key)=Sum.inr b:=fun q=>e (Sum.inr.inj q)
  rw[decide_eq_false h,decide_eq_false e]
theorem zkW (a:Int)(b:Str):decide ((Sum.inl a:Key)=Sum.inr b)=false:=decide_eq_false (fun q=>nomatch q)
theorem zkX (a:Str)(b:Int):decide ((Sum.inr a:Key)=Sum.inl b)=false:=decide_eq_false (fun q=>nomatch q)
noncomputable def zaD (prog:Program)(w:World):PySem.KeyKind prog w Key where
 is:=zgM
 hash:=keyH w
 inj:=fun v a b ha hb=>by
  rcases zaG ha with⟨i,t,rfl,rfl⟩|⟨x,t,rfl,rfl⟩
  ·rcases zaG hb with⟨j,u,rfl,e⟩|⟨y,u,rfl,e⟩
   ·injection e with e1 _;rw[e1]
   ·exact nomatch e
  ·rcases zaG hb with⟨j,u,rfl,e⟩|⟨y,u,rfl,e⟩
   ·exact nomatch e
   ·injection e with e1 _;rw[e1]
 byValue:=fun k v h=>by
  rcases zaG h with⟨i,t,rfl,rfl⟩|⟨x,t,rfl,rfl⟩<;>rfl
 pyHash:=fun hv h=>by
  rcases zaG hv with⟨i,t,rfl,rfl⟩|⟨x,t,rfl,rfl⟩
  ·exact wpAny_pyHash_int h
  ·exact wpAny_pyHash_str h
 eqBool:=fun hu hv h=>by
  rcases zaG hu with⟨i,t,rfl,rfl⟩|⟨x,t,rfl,rfl⟩
  ·rcases zaG hv with⟨j,u,rfl,rfl⟩|⟨y,u,rfl,rfl⟩
   ·rw[zkU] at h;exact wpAny_eqBool_int h
   ·rw[zkW] at h;exact SeqAt.EqAt.int_str i t y u _ _ _ _ h
  ·rcases zaG hv with⟨j,u,rfl,rfl⟩|⟨y,u,rfl,rfl⟩
   ·rw[zkX] at h;exact SeqAt.EqAt.str_int x t j u _ _ _ _ h
   ·rw[zkV] at h;exact wpAny_eqBool_str h
 «strs»:=fun k x t v h=>by
  rcases zaG h with⟨i,u,rfl,e⟩|⟨y,u,rfl,e⟩
  ·exact nomatch e
  ·injection e with e1 _
   subst e1
   cases v<;>rfl
theorem zfx (prog:Program)(w:World)(i:Int)(t:Tok):(zaD prog w).is (.inl i) (.int i t)=true:=zhh i t
theorem zfy (prog:Program)(w:World)(x:Str)(t:Tok):(zaD prog w).is (.inr x) (.str x t)=true:=zhi x t
inductive V where
 |non|bl (b:Bool)|int (i:Int)|str (x:Str)|byt (b:Array UInt8)|flt (b:UInt64)|ref (a:Addr)|ty (n:String)
 deriving DecidableEq
noncomputable def RelV:V->Value->Prop
 | .non,u=>u=Value.none
 | .bl b,u=>u=Value.bool b
 | .int i,u=>∃t,u=Value.int i t
 | .str x,u=>∃t,u=Value.str x t
 | .byt b,u=>∃t,u=Value.bytes b t
 | .flt b,u=>∃t,u=Value.float b t
 | .ref a,u=>u=Value.ref a
 | .ty n,u=>u=Value.type n
noncomputable abbrev Vals:List V->List Value->Prop:=Paired RelV
theorem Vals.length {xs:List V}{us:List Value}(r:Vals xs us):xs.length=us.length:=Paired.length r
theorem Vals.get:∀{xs:List V} {us:List Value} {i:Nat} {x:V},Vals xs us->xs[i]? =some x->∃u,us[i]? =some u/\RelV x u
 |_,_,_,_,.nil,e=>by simp at e
 |_,_,0,_,.cons r _,e=>by simp at e;subst e;exact⟨_,rfl,r⟩
 |_,_,i+1,x,.cons _ t,e=>by
  obtain⟨u,h1,h2⟩:=Vals.get (i:=i) (x:=x) t (by simpa using e)
  exact⟨u,by simpa using h1,h2⟩
theorem Vals.set {x:V}{u:Value}(r:RelV x u):∀{xs:List V} {us:List Value} (i:Nat),Vals xs us->Vals (xs.set i x) (us.set i u)
 |_,_,_,.nil=>.nil
 |_,_,0,.cons _ t=>.cons r t
 |_,_,i+1,.cons q t=>.cons q (Vals.set r i t)
theorem Vals.append:∀{xs ys:List V} {us ws:List Value},Vals xs us->Vals ys ws->Vals (xs++ys) (us++ws)
 |_,_,_,_,.nil,s=>s
 |_,_,_,_,.cons r t,s=>.cons r (Vals.append t s)
theorem Vals.take:∀{xs:List V} {us:List Value} (n:Nat),Vals xs us->Vals (xs.take n) (us.take n)
 |_,_,0,_=>.nil
 |_,_,_+1,.nil=>.nil
 |_,_,n+1,.cons r t=>.cons r (Vals.take n t)
theorem Vals.drop:∀{xs:List V} {us:List Value} (n:Nat),Vals xs us->Vals (xs.drop n) (us.drop n)
 |_,_,0,r=>r
 |_,_,_+1,.nil=>.nil
 |_,_,n+1,.cons _ t=>Vals.drop n t
noncomputable def RelO:Option V->Option Value->Prop
 |some v,some u=>RelV v u
 |none,none=>True
 |_,_=>False
noncomputable def KV {κ:Type}:List (κ×V)->List (κ×Value)->Prop:=Paired fun (p:κ×V) (q:κ×Value)=>p.1=q.1/\RelV p.2 q.2
noncomputable def kV:Key->V
 | .inl i=>.int i
 | .inr x=>.str x
inductive HO where
  |lst (xs:List V)
  |tup (xs:List V)
  |dK (kvs:List (Key×V))|dT (kvs:List (List Key×V))
  |set (S:Int->Bool) (n:Nat)
  |ins (C dx:Addr) (fs:List (Str×V))
  |own (x:Addr)
  |xd (fs:List (Str×V))
  |met (f x:Addr)
  |rng (lo hi:Int)
  |frz (o:Obj) (u:HO)
  |tbl (ps:Array Value)
  |ext (φ:Heap->Prop)
noncomputable abbrev Hp:=Addr->Option HO
noncomputable def upd (H:Hp)(a:Addr)(o:HO):Hp:=fun b=>if b=a then some o else H b
theorem zad {H:Hp}{a:Addr}{o:HO}:upd H a o a=some o:=by unfold upd;rw[if_pos rfl]
theorem zaq {H:Hp}{a b:Addr}{o:HO}(h:b≠a):upd H a o b=H b:=by unfold upd;rw[if_neg h]
theorem zjW {H:Hp}{a:Addr}{o u:HO}:upd (upd H a o) a u=upd H a u:=by
 funext b;unfold upd;split<;>rfl
theorem zjX {H:Hp}{a b:Addr}{o u:HO}(h:H a=some o)(h':H b=some u)(d:o≠u):a≠b:=by
 intro e;subst e;rw[h] at h';exact d (Option.some.inj h')
theorem zaO {H:Hp}{a b:Addr}{o:HO}(h:H a=some o)(h':H b=none):a≠b:=by
 intro e;subst e;rw[h] at h';cases h'
noncomputable def PTup (h:Heap)(a:Addr)(items:Array Value):Prop:=∃o,h.get? a=some o/\o.cls=.type "tuple" /\(∃n,o.data=.seq items n)/\o.dict=none/\o.slots=#[]
theorem PTup.tup {h:Heap}{a:Addr}{items:Array Value}(p:PTup h a items):IsTup h a items:=by
 obtain⟨o,e,c,d,_⟩:=p
 exact⟨o,e,c,d⟩
theorem PTup.new {h:Heap}{items:Array Value}{n:Nat}:PTup (h.push {cls:=.type "tuple",data:=.seq items n}) h.objs.size items:=⟨_,Heap.get?_push_size _ rfl,rfl,⟨_,rfl⟩,rfl,rfl⟩
section
variable (P:Program)(w:World)
noncomputable def ObjOk (H:Hp)(h:Heap)(a:Addr):HO->Prop
 | .lst xs=>xs.length<=sizeLine/\∃(its:List Value) (n:Nat),Vals xs its/\h.get? a=some {cls:=.type "list",data:=.seq its.toArray n}
 | .tup xs=>xs.length<=sizeLine/\∃its:List Value,Vals xs its/\PTup h a its.toArray
 | .dK kvs=>kvs.length<=sizeLine/\(a==sysModules)=false/\∃vs,KV kvs vs/\h.DictOf (zaD P w) a vs
 | .dT kvs=>kvs.length<=sizeLine/\(a==sysModules)=false/\∃xs:List (List Key×Addr×Value),
   Paired (fun (p:List Key×V) (q:List Key×Addr×Value)=>p.1=q.1/\H q.2.1=some (.tup (p.1.map kV))/\RelV p.2 q.2.2) kvs xs/\
   ∃o es ep,h.get? a=some o/\o.ExactDict/\o.data=.dict es ep/\es.toList=xs.map (entryOfKey (tupleKind (zaD P w)))/\(xs.map (·.1)).Nodup
 | .set S n=>h.SetOf (intKind P w) a S n
 | .ins C dx fs=>H dx=some (.own a)/\fs.length<=1000/\dx≠a/\h.get? a=some (PySem.W.instObj C dx)/\
   ∃mA,h.Ns1 dx mA/\(∀f,RelO (fs.lookup f) (mA f))/\PySem.Within mA (fs.map (·.1))
 | .own _=>∃o,h.get? a=some o
 | .xd fs=>∃mA,h.Ns1 a mA/\∀f,RelO (fs.lookup f) (mA f)
 | .rng lo hi=>∃t u v,h.get? a=some {cls:=.type "range",data:=.fields #[.int lo t,.int hi u,.int 1 v]}
 | .frz o u=>h.get? a=some o/\ObjOk H h a u
 | .tbl ps=>h.get? a=some {cls:=.none,data:=.fields ps}
 | .met f x=>h.get? a=some (PySem.W.methodObj (.ref f) (.ref x))
 | .ext φ=>φ h/\(∃o,h.get? a=some o)/\∀h1 h2:Heap,φ h1->(∀o,h1.get? a=some o->h2.get? a=some o)->φ h2
noncomputable def HOk (H:Hp)(h:Heap):Prop:=∀a o,H a=some o->ObjOk P w H h a o
end
section
variable {P:Program}{w:World}{H H':Hp}{h h':Heap}{a:Addr}{o:HO}
theorem ObjOk.lt (x:ObjOk P w H h a o):a<h.objs.size:=by
 cases o with
 |lst xs=>obtain⟨_,_,_,_,e⟩:=x;exact Heap.lt_size e
 |tup xs=>obtain⟨_,_,_,p⟩:=x;exact p.tup.lt
 |dK kvs=>obtain⟨_,_,_,_,o,_,_,e,_⟩:=x;exact Heap.lt_size e
 |dT kvs=>obtain⟨_,_,_,_,o,_,_,e,_⟩:=x;exact Heap.lt_size e
 |set S n=>obtain⟨o,_,_,_,e,_⟩:=x;exact Heap.lt_size e
 |ins C dx fs=>obtain⟨_,_,_,e,_⟩:=x;exact Heap.lt_size e
 |own y=>obtain⟨_,e⟩:=x;exact Heap.lt_size e
 |xd fs=>obtain⟨_,⟨_,_,_,e,_⟩,_⟩:=x;exact Heap.lt_size e
 |rng lo hi=>obtain⟨_,_,_,e⟩:=x;exact Heap.lt_size e
 |frz ob u=>obtain⟨e,_⟩:=x;exact Heap.lt_size e
 |tbl ps=>exact Heap.lt_size (show h.get? a=some _ from x)
 |met f y=>exact Heap.lt_size (show h.get? a=some _ from x)
 |ext φ=>obtain⟨_,⟨_,e⟩,_⟩:=x;exact Heap.lt_size e
theorem Paired.mapP {α β:Type}{F G:α->β->Prop}:∀{l₁:List α} {l₂:List β},Paired F l₁ l₂->(∀a b,F a b->G a b)->Paired G l₁ l₂
 |_,_,.nil,_=>.nil
 |_,_,.cons r t,f=>.cons (f _ _ r) (Paired.mapP t f)
theorem ObjOk.stay (x:ObjOk P w H h a o)(k:∀b u,(b=a∨H b=some (.own a))->h.get? b=some u->h'.get? b=some u)
  (ho:∀b,H b=some (.own a)->H' b=some (.own a)) (ht:∀b xs,H b=some (.tup xs)->H' b=some (.tup xs)):ObjOk P w H' h' a o:=by
 induction o with
 |lst xs=>obtain⟨z,its,n,r,e⟩:=x;exact⟨z,its,n,r,k _ _ (.inl rfl) e⟩
 |tup xs=>obtain⟨z,its,r,ob,e,c⟩:=x;exact⟨z,its,r,ob,k _ _ (.inl rfl) e,c⟩
 |dK kvs=>obtain⟨z,y,vs,r,ob,es,ep,e,c⟩:=x;exact⟨z,y,vs,r,ob,es,ep,k _ _ (.inl rfl) e,c⟩
 |dT kvs=>
  obtain⟨z,y,xs,r,ob,es,ep,e,c⟩:=x
  exact⟨z,y,xs,Paired.mapP r fun p q z=>⟨z.1,ht _ _ z.2.1,z.2.2⟩,ob,es,ep,k _ _ (.inl rfl) e,c⟩
 |set S n=>obtain⟨ob,es,ep,t,e,c⟩:=x;exact⟨ob,es,ep,t,k _ _ (.inl rfl) e,c⟩
 |ins C dx fs=>
  obtain⟨d,z,ne,e,mA,⟨od,es,ep,e2,c⟩,r⟩:=x
  exact⟨ho _ d,z,ne,k _ _ (.inl rfl) e,mA,⟨od,es,ep,k _ _ (.inr d) e2,c⟩,r⟩
 |own y=>obtain⟨ob,e⟩:=x;exact⟨ob,k _ _ (.inl rfl) e⟩
 |xd fs=>obtain⟨mA,⟨od,es,ep,e,c⟩,r⟩:=x;exact⟨mA,⟨od,es,ep,k _ _ (.inl rfl) e,c⟩,r⟩
 |rng lo hi=>obtain⟨t,u,v,e⟩:=x;exact⟨t,u,v,k _ _ (.inl rfl) e⟩
 |frz ob u ih=>obtain⟨e,q⟩:=x;exact⟨k _ _ (.inl rfl) e,ih q⟩
 |tbl ps=>
  have e:h.get? a=some {cls:=.none,data:=.fields ps}:=x
  show h'.get? a=some {cls:=.none,data:=.fields ps}
  exact k a _ (.inl rfl) e
 |met f y=>
  have e:h.get? a=some (PySem.W.methodObj (.ref f) (.ref y)):=x
  show h'.get? a=some (PySem.W.methodObj (.ref f) (.ref y))
  exact k a _ (.inl rfl) e
 |ext φ=>obtain⟨p,⟨o,e⟩,st⟩:=x;exact⟨st _ _ p fun o q=>k _ _ (.inl rfl) q,⟨o,k _ _ (.inl rfl) e⟩,st⟩
theorem HOk.lt (x:HOk P w H h)(e:H a=some o):a<h.objs.size:=(x a o e).lt
theorem HOk.fresh (x:HOk P w H h)(e:h.objs.size<=a):H a=none:=by
 cases q:H a with
 |none=>rfl
 |some u=>exact absurd (Nat.lt_of_lt_of_le (x.lt q) e) (Nat.lt_irrefl _)
theorem HOk.kept (x:HOk P w H h)(k:∀b u,h.get? b=some u->h'.get? b=some u):HOk P w H h':=fun a o e=>
 (x a o e).stay (fun b u _ q=>k b u q) (fun _ q=>q) fun _ _ q=>q
theorem HOk.laid (x:HOk P w H h)(k:∀b u,h.get? b=some u->h'.get? b=some u)(hp:h.objs.size<=a)(new:ObjOk P w (upd H a o) h' a o):HOk P w (upd H a o) h':=fun b u e=>by
 have hn:=x.fresh hp
 by_cases hb:b=a
 ·subst hb;rw[zad] at e;cases e;exact new
 ·rw [zaq hb] at e
  exact (x b u e).stay (fun c v _ q=>k c v q) (fun c q=>by rw[zaq (zaO q hn)];exact q) fun c xs q=>by rw[zaq (zaO q hn)];exact q
end
noncomputable def Rd (H:Hp)(a:Addr)(u:HO):Prop:=H a=some u∨∃o,H a=some (.frz o u)
theorem Rd.ok {P:Program}{w:World}{H:Hp}{h:Heap}{a:Addr}{u:HO}(r:Rd H a u)(x:HOk P w H h):ObjOk P w H h a u:=by
 rcases r with r|⟨o,r⟩
 ·exact x a u r
 ·obtain ⟨_,q⟩:=x a _ r
  exact q
noncomputable def Mut:Option HO->Prop
 |some (.lst _)=>True
 |some (.dK _)=>True
 |some (.dT _)=>True
 |some (.set _ _)=>True
 |some (.ins _ _ _)=>True
 |some (.ext _)=>True
 |_=>False
section
variable {P:Program}{w:World}{H:Hp}{h h':Heap}{x e:Addr}{o':HO}
theorem HOk.write (ok:HOk P w H h)(mu:Mut (H x))(he:e=x∨H e=some (.own x))(k:∀b u,b≠e->h.get? b=some u->h'.get? b=some u)(heo:∃u,h'.get? e=some u)
  (new:ObjOk P w (upd H x o') h' x o'):HOk P w (upd H x o') h':=fun b u q=>by
 have nown:∀c y,H c=some (.own y)->c≠x:=fun c y r z=>by subst z;rw[r] at mu;exact mu
 have ntup:∀c xs,H c=some (.tup xs)->c≠x:=fun c xs r z=>by subst z;rw[r] at mu;exact mu
 by_cases hb:b=x
 ·subst hb;rw[zad] at q;cases q;exact new
 ·rw [zaq hb] at q
  by_cases hbe:b=e
  ·have q':H b=some (.own x):=by
    rcases he with z|z
    ·exact absurd (hbe.trans z) hb
    ·rw[hbe];exact z
   rw[q] at q';cases q'
   obtain⟨v,hv⟩:=heo
   exact⟨v,by rw[hbe];exact hv⟩
  ·refine (ok b u q).stay (fun c v hc r=>k c v ?_ r) (fun c r=>by rw[zaq (nown c b r)];exact r) fun c xs r=>by rw[zaq (ntup c xs r)];exact r
   rcases hc with rfl|hc
   ·exact hbe
   ·rintro rfl
    rcases he with z|z
    ·exact nown c b hc z
    ·rw[hc] at z;cases z;exact hb rfl
end
structure Un (fs ex:List Addr) (H H':Hp) (h h':Heap):Prop where
 keep:∀b o,h.get? b=some o->H b=none->b∉fs->b∉ex->h'.get? b=some o
 slot:∀b o,h.get? b=some o->H b=none->b∈fs->b∉ex->∃sl,h'.get? b=some {o with slots:=sl}
 free:∀b o,h.get? b=some o->H b=none->b∉ex->H' b=none
 there:∀b o,h.get? b=some o->b∉ex->∃o',h'.get? b=some o'
 tups:∀b xs,H b=some (.tup xs)->H' b=some (.tup xs)
 frzs:∀b o u,H b=some (.frz o u)->H' b=some (.frz o u)
 tbls:∀b ps,H b=some (.tbl ps)->∃more,H' b=some (.tbl (ps++more))
section
variable {fs fs' ex ex':List Addr}{H H1 H2:Hp}{h h1 h2 h':Heap}{a x e:Addr}{o:HO}
theorem Un.any (u:Un fs ex H H1 h h1){b:Addr}{ob:Obj}(q:h.get? b=some ob)(n:H b=none)(hx:b∉ex):∃sl,h1.get? b=some {ob with slots:=sl}:=by
 by_cases hb:b∈fs
 ·exact u.slot b ob q n hb hx
 ·exact⟨ob.slots,u.keep b ob q n hb hx⟩
theorem Un.kept (k:∀b u,h.get? b=some u->h'.get? b=some u):Un fs ex H H h h':=
 ⟨fun b ob q _ _ _=>k b ob q,fun b ob q _ _ _=>⟨ob.slots,k b ob q⟩,fun _ _ _ n _=>n,fun b ob q _=>⟨ob,k b ob q⟩,fun _ _ q=>q,fun _ _ _ q=>q,fun _ ps q=>⟨#[],by rw[q];simp⟩⟩
theorem Un.refl:Un fs ex H H h h:=Un.kept fun _ _ q=>q
theorem Un.laid (k:∀b u,h.get? b=some u->h'.get? b=some u)(hp:h.objs.size<=a)(hn:H a=none):Un fs ex H (upd H a o) h h' where
 keep:=fun b u q _ _ _=>k b u q
 slot:=fun b u q _ _ _=>⟨u.slots,k b u q⟩
 free:=fun b u q n _=>by rw[zaq (Nat.ne_of_lt (Nat.lt_of_lt_of_le (Heap.lt_size q) hp))];exact n
 there:=fun b u q _=>⟨u,k b u q⟩
 tups:=fun b xs q=>by rw[zaq (zaO q hn)];exact q
 frzs:=fun b u xs q=>by rw[zaq (zaO q hn)];exact q
 tbls:=fun b ps q=>⟨#[],by rw[zaq (zaO q hn),q];simp⟩
theorem Un.write (mu:Mut (H x))(he:e=x∨H e=some (.own x))(k:∀b u,b≠e->h.get? b=some u->h'.get? b=some u)(heo:∃u,h'.get? e=some u):Un fs ex H (upd H x o) h h':=by
 have hx:∀b,H b=none->b≠x:=fun b n z=>by subst z;rw[n] at mu;exact mu
 have hb:∀b,H b=none->b≠e:=fun b n z=>by
  subst z
  rcases he with r|r
  ·exact hx b n r
  ·rw[n] at r;cases r
 have hm:∀b u,H b=some u->¬Mut (some u)->b≠x:=fun b u q nm z=>by subst z;rw[q] at mu;exact nm mu
 refine⟨fun b u q n _ _=>k b u (hb b n) q,fun b u q n _ _=>⟨u.slots,k b u (hb b n) q⟩,fun b u q n _=>by rw[zaq (hx b n)];exact n,fun b u q _=> ?_,
  fun b xs q=>by rw[zaq (hm b _ q fun z=>z)];exact q,fun b u xs q=>by rw[zaq (hm b _ q fun z=>z)];exact q,fun b ps q=>⟨#[],by rw[zaq (hm b _ q fun z=>z),q];simp⟩⟩
 by_cases hbe:b=e
 ·subst hbe;exact heo
 ·exact⟨u,k b u hbe q⟩
end
noncomputable def trk (h:Heap)(H:Hp):List Addr:=(List.range h.objs.size).filter fun a=>(H a).isSome
noncomputable def hidT (h:Heap)(H:Hp):Heap:=PySem.W.hideAll h (trk h H)
theorem zhj (h:Heap)(H:Hp):(hidT h H).objs.size=h.objs.size:=PySem.W.hideAll_size _ _
theorem ziF {h:Heap}{H:Hp}{b:Addr}{o:Obj}(e:h.get? b=some o)(n:H b=none):(hidT h H).get? b=some o:=
 PySem.W.hideAll_get _ e fun hm=>by
  have q:(H b).isSome=true:=(List.mem_filter.mp hm).2
  rw[n] at q;simp at q
theorem zjY {h:Heap}{H:Hp}{b:Addr}{o:Obj}(e:(hidT h H).get? b=some o):h.get? b=some o/\H b=none:=by
 have e':h.get? b=some o:=PySem.W.of_hideAll (trk h H) e
 refine⟨e', ?_⟩
 cases q:H b with
 |none=>rfl
 |some x=>
  have hm:b∈trk h H:=List.mem_filter.mpr ⟨List.mem_range.mpr (Heap.lt_size e'),by simp[q]⟩
  have z:(hidT h H).get? b=none:=PySem.W.hideAll_none (trk h H) hm
  rw[z] at e;cases e
noncomputable def zjZ (g h:Heap)(L:Addr):List (Addr×Obj):=(List.range h.objs.size).filterMap fun a=>if a=L∨(g.get? a).isSome=true then none else (h.get? a).map fun o=>(a,o)
noncomputable def rest (g h:Heap)(L d:Addr):List (Addr×Obj):=(zjZ g h L).filter fun p=>decide (p.1≠d)
structure Mod (K:PySem.W.Frag) (mg:Str->Option Value) (base:Heap):Prop where
 kin:K.In base
 glob:base.Ns mainGlobals mg
 blt:∃mb,base.Ns builtinsNs mb/\∀x:Str,x≠ "__name__" ->mb x=bootBuiltins x
 nolimit:base.NoLimit
structure Cx where
 prog:Program
 w:World
 K:PySem.W.Frag
 mg:Str->Option Value
 base:Heap
 A:Around
 N:List Str
 s₀:Shared
 H₀:Hp
 env:Env
 outer:List Env
 stack:List Env
 ex:List Addr
 fn:Str->Bool
 calm:Bool
 pn:List (Addr×Obj)
 xe:Value->Shared->Prop
noncomputable def frs (l:List Env):List Addr:=l.filterMap (·.frame)
noncomputable abbrev Cx.fs (X:Cx):List Addr:=frs X.outer
noncomputable def Vis (sc:Scope)(x:Str):Prop:=sc.names.lookup x=some .local∨sc.names.lookup x=some .cell∨sc.names.lookup x=some .free
noncomputable def Loc (sc:Scope)(x:Str):Prop:=sc.names.lookup x=some .local∨sc.names.lookup x=some .cell
noncomputable def Look (env:Env)(h:Heap)(m:Str->Option Value)(x:Str)(u:Value):Prop:=
 (env.kindOf x=some .local/\m x=some u)∨((env.kindOf x=some .cell∨env.kindOf x=some .free)/\∃c,env.cells.lookup x=some c/\h.IsCell c (some u))
structure Cx.Ok (X:Cx):Prop where
 mod:Mod X.K X.mg X.base
 kind:X.env.scope.kind=.function
 glob:X.env.globals=mainGlobals
 blt:X.env.builtins=builtinsNs
 above:X.s₀.heap.objs.size<=X.env.locals
 inj:∀x y c,X.env.cells.lookup x=some c->X.env.cells.lookup y=some c->x=y
 has:∀x,(X.env.kindOf x=some .cell∨X.env.kindOf x=some .free)->∃c,X.env.cells.lookup x=some c
 cab:∀x c,X.fn x=true->X.env.cells.lookup x=some c->X.s₀.heap.objs.size<=c
 hd:X.calm=true->X.A.handled=none
 frames:X.A.frames=some X.stack
 stk:X.stack=X.outer∨(X.stack=X.env::X.outer/\X.env.frame=some X.env.locals)
 exf:∀b∈X.ex,b≠X.env.locals/\∀x c,X.env.cells.lookup x=some c->c≠b
 bs:∀b o,X.base.get? b=some o->X.s₀.heap.get? b=some o/\X.H₀ b=none
 bsz:X.base.objs.size<=X.s₀.heap.objs.size
 noex:∀b o,X.base.get? b=some o->b∉X.ex
 exfs:∀b∈X.ex,b∉X.fs
 funs:X.s₀.heap.FunFrames X.base X.outer
 frf:∀b∈X.fs,X.H₀ b=none
structure Inv (X:Cx) (pins:List (Addr×Obj)) (σ:List (Option V)) (H:Hp) (s:Shared):Prop where
 ok:X.Ok
 os:s.os=X.s₀.os
 bare:AllBare s.gens
 base:Un X.fs X.ex X.H₀ H X.s₀.heap s.heap
 loc:∃m,s.heap.Ns X.env.locals m/\∀(i:Nat) (x:Str) (v:V),X.N[i]? =some x->σ[i]? =some (some v)->Vis X.env.scope x->∃u,RelV v u/\Look X.env s.heap m x u
 cell:∀x c,X.env.cells.lookup x=some c->∃v,s.heap.IsCell c v
 free:H X.env.locals=none
 freeC:∀x c,X.env.cells.lookup x=some c->H c=none
 pin:∀p∈X.pn++pins,s.heap.get? p.1=some p.2/\H p.1=none/\p.1≠X.env.locals/\p.1∉X.fs/\∀v,p.2.data≠.cell v
 hok:HOk X.prog X.w H s.heap
 len:σ.length=X.N.length
section
variable {X:Cx}{pins:List (Addr×Obj)}{σ:List (Option V)}{H H':Hp}{s:Shared}{h':Heap}
theorem Cx.Ok.nofr (ok:X.Ok){b:Addr}{o:Obj}(e:X.base.get? b=some o):b∉X.fs:=fun hb=>by
 have:=(ok.funs.mem hb).1
 rw[e] at this;cases this
theorem Inv.bs (I:Inv X pins σ H s):∀b o,X.base.get? b=some o->s.heap.get? b=some o/\H b=none:=fun b o e=>
 ⟨I.base.keep b o (I.ok.bs b o e).1 (I.ok.bs b o e).2 (I.ok.nofr e) (I.ok.noex b o e),I.base.free b o (I.ok.bs b o e).1 (I.ok.bs b o e).2 (I.ok.noex b o e)⟩
theorem Inv.bk (I:Inv X pins σ H s):∀b o,X.base.get? b=some o->s.heap.get? b=some o:=fun b o e=>(I.bs b o e).1
theorem Inv.mod (I:Inv X pins σ H s):Mod X.K X.mg X.base:=I.ok.mod
theorem Inv.kIn (I:Inv X pins σ H s):X.K.In s.heap:=I.ok.mod.kin.keeps I.bk
theorem Inv.lt (I:Inv X pins σ H s):X.env.locals<s.heap.objs.size:=let ⟨_,hn,_⟩:=I.loc;hn.lt
theorem Inv.sz (I:Inv X pins σ H s):X.s₀.heap.objs.size<=s.heap.objs.size:=Nat.le_trans I.ok.above (Nat.le_of_lt I.lt)
theorem Inv.nofs (I:Inv X pins σ H s){a:Addr}(h:s.heap.objs.size<=a):a∉X.fs:=fun hb=>by
 obtain⟨_,o,ho,_⟩:=I.ok.funs.mem hb
 exact absurd (Nat.lt_of_lt_of_le (Heap.lt_size ho) (Nat.le_trans I.sz h)) (Nat.lt_irrefl _)
theorem Inv.cne (I:Inv X pins σ H s):∀x c,X.env.cells.lookup x=some c->c≠X.env.locals:=fun x c e z=>by
 obtain⟨v,o,ho,hd⟩:=I.cell x c e
 obtain⟨m,⟨o',es,ep,ho',hd',_⟩,_⟩:=I.loc
 rw[z,ho'] at ho;cases ho;rw[hd'] at hd;cases hd
theorem Inv.funs (I:Inv X pins σ H s):s.heap.FunFrames X.base X.outer:=by
 have all:∀(l:List Env),(∀b∈frs l,b∈X.fs)->X.s₀.heap.FunFrames X.base l->s.heap.FunFrames X.base l:=by
  intro l
  induction l with
  |nil=>intro _ _;trivial
  |cons env r ih=>
   intro hs hl
   obtain⟨hk,⟨L,o,hf,hn,ho,hd⟩,hr⟩:=hl
   have hL:L∈X.fs:=hs L (by unfold frs;rw[List.filterMap_cons,hf];exact List.mem_cons_self)
   obtain⟨sl,e⟩:=I.base.slot L o ho (I.ok.frf L hL) hL fun z=>I.ok.exfs L z hL
   exact⟨hk,⟨L,_,hf,hn,e,hd⟩,ih (fun b hb=>hs b (by unfold frs;rw[List.filterMap_cons,hf];exact List.mem_cons_of_mem _ hb)) hr⟩
 exact all X.outer (fun _ hb=>hb) I.ok.funs
theorem Inv.stack (I:Inv X pins σ H s):s.heap.FunFrames X.base X.stack:=by
 rcases I.ok.stk with e|⟨e,hf⟩
 ·rw[e];exact I.funs
 ·rw [e]
  obtain⟨m,hn,_⟩:=I.loc
  refine .cons (by rw[I.ok.kind];decide) hf hn ?_ I.funs
  exact Heap.get?_none_of_le (Nat.le_trans I.ok.bsz I.ok.above)
theorem Inv.stkSub (I:Inv X pins σ H s):∀b∈frs X.stack,b∈X.env.locals::X.fs:=fun b hb=>by
 rcases I.ok.stk with e|⟨e,hf⟩
 ·rw[e] at hb;exact List.mem_cons_of_mem _ hb
 ·rw [e] at hb
  unfold frs at hb
  rw[List.filterMap_cons,hf] at hb
  exact hb
theorem Inv.stkFree (I:Inv X pins σ H s):∀b∈frs X.stack,H b=none:=fun b hb=>by
 rcases List.mem_cons.mp (I.stkSub b hb) with e|hb
 ·rw[e];exact I.free
 ·obtain ⟨_,o,ho,_⟩:=I.ok.funs.mem hb
  exact I.base.free b o ho (I.ok.frf b hb) fun z=>I.ok.exfs b z hb
theorem Inv.step {g':Array GenState}{t':Nat}{d':Drawn}{ch:List Addr}(I:Inv X pins σ H s)
  (hch:∀b∈ch,(b∈X.ex∨X.s₀.heap.objs.size<=b)/\b≠X.env.locals/\(∀x c,X.env.cells.lookup x=some c->c≠b)/\∀p∈X.pn++pins,p.1≠b)
  (keep:∀b o,b≠X.env.locals->b∉X.fs->b∉ch->s.heap.get? b=some o->H b=none->h'.get? b=some o)
  (slot:∀b o,b≠X.env.locals->b∈X.fs->b∉ch->s.heap.get? b=some o->H b=none->∃sl,h'.get? b=some {o with slots:=sl}) (free:∀b o,b∉ch->s.heap.get? b=some o->H b=none->H' b=none)
  (there:∀b o,b∉ch->s.heap.get? b=some o->∃o',h'.get? b=some o')
  (tups:∀b xs,H b=some (.tup xs)->H' b=some (.tup xs)) (frzs:∀b o u,H b=some (.frz o u)->H' b=some (.frz o u)) (tbls:∀b ps,H b=some (.tbl ps)->∃more,H' b=some (.tbl (ps++more)))
  (ns:∀m,s.heap.Ns X.env.locals m->h'.Ns X.env.locals m) (hok:HOk X.prog X.w H' h') (hg:AllBare g'):
  Inv X pins σ H' {s with heap:=h',gens:=g',drawn:=d',toks:=t'}:=by
 have neL:∀b o,X.s₀.heap.get? b=some o->b≠X.env.locals:=fun b o e=>Nat.ne_of_lt (Nat.lt_of_lt_of_le (Heap.lt_size e) I.ok.above)
 have neC:∀b o,X.s₀.heap.get? b=some o->b∉X.ex->b∉ch:=fun b o e hx hb=>by
  rcases (hch b hb).1 with z|z
  ·exact hx z
  ·exact absurd (Nat.lt_of_lt_of_le (Heap.lt_size e) z) (Nat.lt_irrefl _)
 have cellK:∀x c,X.env.cells.lookup x=some c->∀v,s.heap.IsCell c v->h'.IsCell c v:=fun x c e v ⟨o,ho,hd⟩=>by
  have nch:c∉ch:=fun z=>(hch c z).2.2.1 x c e rfl
  by_cases hc:c∈X.fs
  ·obtain ⟨sl,q⟩:=slot c o (I.cne x c e) hc nch ho (I.freeC x c e)
   exact⟨_,q,hd⟩
  ·exact⟨o,keep c o (I.cne x c e) hc nch ho (I.freeC x c e),hd⟩
 refine⟨I.ok,I.os,hg,⟨fun b o e n hb hx=> ?_,fun b o e n hb hx=> ?_,fun b o e n hx=> ?_,fun b o e hx=> ?_,fun b xs e=>tups b xs (I.base.tups b xs e),fun b o xs e=>frzs b o xs (I.base.frzs b o xs e),fun b ps e=> ?_⟩, ?_,fun x c e=> ?_, ?_,fun x c e=> ?_,fun p hp=> ?_,hok,I.len⟩
 ·exact keep b o (neL b o e) hb (neC b o e hx) (I.base.keep b o e n hb hx) (I.base.free b o e n hx)
 ·obtain ⟨sl,e1⟩:=I.base.slot b o e n hb hx
  obtain⟨sl',e2⟩:=slot b _ (neL b o e) hb (neC b o e hx) e1 (I.base.free b o e n hx)
  exact⟨sl',e2⟩
 ·obtain ⟨o',e1⟩:=I.base.there b o e hx
  exact free b o' (neC b o e hx) e1 (I.base.free b o e n hx)
 ·obtain ⟨o',e1⟩:=I.base.there b o e hx
  exact there b o' (neC b o e hx) e1
 ·obtain ⟨m1,e1⟩:=I.base.tbls b ps e
  obtain⟨m2,e2⟩:=tbls b _ e1
  exact⟨m1++m2,by rw[e2,Array.append_assoc]⟩
 ·obtain ⟨m,hn,hl⟩:=I.loc
  refine⟨m,ns m hn,fun i x v e1 e2 e3=> ?_⟩
  obtain⟨u,r,l⟩:=hl i x v e1 e2 e3
  refine⟨u,r, ?_⟩
  rcases l with l|⟨k,c,e,z⟩
  ·exact .inl l
  ·exact .inr ⟨k,c,e,cellK x c e _ z⟩
 ·obtain ⟨v,z⟩:=I.cell x c e
  exact⟨v,cellK x c e v z⟩
 ·obtain ⟨m,⟨o,_,_,ho,_⟩,_⟩:=I.loc
  exact free _ o (fun z=>(hch _ z).2.1 rfl) ho I.free
 ·obtain ⟨v,o,ho,hd⟩:=I.cell x c e
  exact free c o (fun z=>(hch c z).2.2.1 x c e rfl) ho (I.freeC x c e)
 ·obtain ⟨e,n,ne,nf,d⟩:=I.pin p hp
  have nch:p.1∉ch:=fun z=>(hch p.1 z).2.2.2 p hp rfl
  exact⟨keep p.1 p.2 ne nf nch e n,free p.1 p.2 nch e n,ne,nf,d⟩
theorem Inv.un {t':Nat}(I:Inv X pins σ H s)(u:Un X.fs [] H H' s.heap h')(hok:HOk X.prog X.w H' h'):Inv X pins σ H' {s with heap:=h',toks:=t'}:=by
 obtain⟨m,⟨o,es,ep,ho,r⟩,_⟩:=id I.loc
 obtain⟨sl,hL⟩:=u.any ho I.free (by simp)
 exact I.step (g':=s.gens) (d':=s.drawn) (ch:=[]) (fun _ z=>nomatch z) (fun b o _ hb _ e n=>u.keep b o e n hb (by simp)) (fun b o _ hb _ e n=>u.slot b o e n hb (by simp)) (fun b o _ e n=>u.free b o e n (by simp)) (fun b o _ e=>u.there b o e (by simp)) u.tups u.frzs u.tbls (fun m' hm=>by
  obtain⟨o',es',ep',ho',r'⟩:=hm
  rw[ho] at ho';cases ho'
  exact⟨_,es',ep',hL,r'⟩) hok I.bare
theorem Inv.call {g':Array GenState}{t':Nat}{d':Drawn}{ch:List Addr}(I:Inv X pins σ H s)(u:Un (frs X.stack) ch H H' s.heap h')(hok:HOk X.prog X.w H' h')(hg:AllBare g')
  (hch:∀b∈ch,(b∈X.ex∨X.s₀.heap.objs.size<=b)/\b≠X.env.locals/\(∀x c,X.env.cells.lookup x=some c->c≠b)/\∀p∈X.pn++pins,p.1≠b):
  Inv X pins σ H' {s with heap:=h',gens:=g',drawn:=d',toks:=t'}:=by
 obtain⟨m,⟨o,es,ep,ho,r⟩,_⟩:=id I.loc
 obtain⟨sl,hL⟩:=u.any ho I.free fun z=>(hch _ z).2.1 rfl
 exact I.step (ch:=ch) hch (fun b o hL hb hc e n=>u.keep b o e n (fun z=>(List.mem_cons.mp (I.stkSub b z)).elim hL hb) hc) (fun b o _ _ hc e n=>u.any e n hc) (fun b o hc e n=>u.free b o e n hc) (fun b o hc e=>u.there b o e hc) u.tups u.frzs u.tbls (fun m' hm=>by
  obtain⟨o',es',ep',ho',r'⟩:=hm
  rw[ho] at ho';cases ho'
  exact⟨_,es',ep',hL,r'⟩) hok hg
theorem Inv.turned {t':Nat}{it:Addr}(I:Inv X pins σ H s)(k:∀b o,b≠it->s.heap.get? b=some o->h'.get? b=some o)(hn:H it=none)(hL:it≠X.env.locals)
  (h1:it∈X.ex∨X.s₀.heap.objs.size<=it) (h2:∀x c,X.env.cells.lookup x=some c->c≠it) (h3:∀p∈X.pn++pins,p.1≠it):Inv X pins σ H {s with heap:=h',toks:=t'}:=by
 have nit:∀b u,H b=some u->b≠it:=fun b u e z=>by rw[z,hn] at e;cases e
 refine I.step (g':=s.gens) (d':=s.drawn) (ch:=[it]) (fun b hb=> ?_) (fun b o _ _ hc e _=>k b o (fun z=>hc (by simp[z])) e) (fun b o _ _ hc e _=>⟨o.slots,k b o (fun z=>hc (by simp[z])) e⟩) (fun _ _ _ _ n=>n)
  (fun b o hc e=>⟨o,k b o (fun z=>hc (by simp[z])) e⟩) (fun _ _ e=>e) (fun _ _ _ e=>e) (fun b ps e=>⟨#[],by rw[e];simp⟩) (fun m hm=> ?_) (fun b u e=> ?_) I.bare
 ·have e:b=it:=by simpa using hb
  subst e
  exact⟨h1,hL,h2,h3⟩
 ·obtain ⟨o,es,ep,ho,r⟩:=hm
  exact⟨o,es,ep,k _ o (Ne.symm hL) ho,r⟩
 ·refine (I.hok b u e).stay (fun c v hc q=>k c v ?_ q) (fun _ q=>q) fun _ _ q=>q
  rcases hc with z|z
  ·rw[z];exact nit b u e
  ·exact nit c _ z
theorem Inv.tok (I:Inv X pins σ H s)(t:Nat):Inv X pins σ H {s with toks:=t}:=I.un (h':=s.heap) (t':=t) Un.refl I.hok
theorem Inv.kept {t':Nat}(I:Inv X pins σ H s)(k:∀b u,s.heap.get? b=some u->h'.get? b=some u):Inv X pins σ H {s with heap:=h',toks:=t'}:=I.un (Un.kept k) (I.hok.kept k)
theorem Inv.laid {a:Addr}{o:HO}{t':Nat}(I:Inv X pins σ H s)(k:∀b u,s.heap.get? b=some u->h'.get? b=some u)(hp:s.heap.objs.size<=a)(new:ObjOk X.prog X.w (upd H a o) h' a o):
  Inv X pins σ (upd H a o) {s with heap:=h',toks:=t'}:=I.un (Un.laid k hp (I.hok.fresh hp)) (I.hok.laid k hp new)
theorem Inv.write {x e:Addr}{o:HO}{t':Nat}(I:Inv X pins σ H s)(mu:Mut (H x))(he:e=x∨H e=some (.own x))(k:∀b u,b≠e->s.heap.get? b=some u->h'.get? b=some u)(heo:∃u,h'.get? e=some u)
  (new:ObjOk X.prog X.w (upd H x o) h' x o):Inv X pins σ (upd H x o) {s with heap:=h',toks:=t'}:=I.un (Un.write mu he k heo) (I.hok.write mu he k heo new)
theorem Inv.weak {σ':List (Option V)}(I:Inv X pins σ H s)(hl:σ'.length=σ.length)(w:∀(i:Nat) v,σ'[i]? =some (some v)->σ[i]? =some (some v)):Inv X pins σ' H s:=
 ⟨I.ok,I.os,I.bare,I.base,let ⟨m,hn,hl'⟩:=I.loc;⟨m,hn,fun i x v e1 e2 e3=>hl' i x v e1 (w i v e2) e3⟩,I.cell,I.free,I.freeC,I.pin,I.hok,hl.trans I.len⟩
theorem Inv.pins_of {pins':List (Addr×Obj)}(I:Inv X pins σ H s)(h:∀p∈pins',s.heap.get? p.1=some p.2/\H p.1=none/\p.1≠X.env.locals/\p.1∉X.fs/\∀v,p.2.data≠.cell v):Inv X pins' σ H s:=
 ⟨I.ok,I.os,I.bare,I.base,I.loc,I.cell,I.free,I.freeC,fun p hp=>(List.mem_append.mp hp).elim (fun z=>I.pin p (List.mem_append_left _ z)) (h p),I.hok,I.len⟩
theorem zf9 {N:List Str}(hN:N.Nodup){i j:Nat}{x:Str}(a:N[i]? =some x)(b:N[j]? =some x):i=j:=by
 obtain⟨h1,e1⟩:=List.getElem?_eq_some_iff.mp a
 obtain⟨h2,e2⟩:=List.getElem?_eq_some_iff.mp b
 exact (List.getElem_inj hN).mp (e1.trans e2.symm)
theorem zhk {M:Model}{A:Around}{E:Value->Shared->Prop}{i:Nat}{x:Str}{v:V}{u:Value}{Q:Unit->Shared->Prop}(I:Inv X pins σ H s)(hN:X.N.Nodup)(hi:X.N[i]? =some x)(hx:Loc X.env.scope x)(r:RelV v u)
  (h:∀s',Inv X pins (σ.set i (some v)) H s'->(∃a,Heap.SameBut a s.heap s'.heap/\(a=X.env.locals∨X.env.cells.lookup x=some a))->Q () s') (hf:X.fn x=true∨X.env.scope.names.lookup x=some .local:=by first|exact .inl rfl|exact .inr rfl|assumption):wpAny M A (storeName X.env x u) Q E s:=by
 obtain⟨m,hn,hl⟩:=id I.loc
 have hcls:(X.env.scope.kind==.class||(X.env.scope.kind==.module&&X.env.locals != X.env.globals))=false:=by rw[I.ok.kind];rfl
 have hiσ:i<σ.length:=by rw[I.len];exact (List.getElem?_eq_some_iff.mp hi).1
 have cne:=I.cne
 have tracked:∀{a:Addr} {h':Heap},(∃o,s.heap.get? a=some o/\H a=none)->Heap.SameBut a s.heap h'->HOk X.prog X.w H h':=fun {a h'} ha hs b ob e=>by
  obtain⟨_,_,hfree⟩:=ha
  refine (I.hok b ob e).stay (fun c w' hc q=>(hs.2 c ?_).trans q) (fun _ q=>q) fun _ _ q=>q
  rintro rfl
  rcases hc with rfl|hc
  ·rw[hfree] at e;cases e
  ·rw[hfree] at hc;cases hc
 rcases hx with hk|hk
 ·refine wpAny_storeName_local hk hn (fun h' hn' hs=> ?_) hcls
  obtain⟨oL,_,_,hoL,_⟩:=id hn
  refine h _ ⟨I.ok,I.os,I.bare,⟨fun b o e n hb hx=> ?_,fun b o e n hb hx=> ?_,I.base.free,fun b o e hx=> ?_,I.base.tups,I.base.frzs,I.base.tbls⟩,⟨_,hn',fun j y v' e1 e2 e3=> ?_⟩,fun y c e=> ?_,I.free,I.freeC,fun p hp=> ?_,tracked ⟨oL,hoL,I.free⟩ hs,by simpa using I.len⟩ ⟨_,hs,.inl rfl⟩
  ·exact (hs.2 b (Nat.ne_of_lt (Nat.lt_of_lt_of_le (Heap.lt_size e) I.ok.above))).trans (I.base.keep b o e n hb hx)
  ·obtain ⟨sl,e1⟩:=I.base.slot b o e n hb hx
   exact⟨sl,(hs.2 b (Nat.ne_of_lt (Nat.lt_of_lt_of_le (Heap.lt_size e) I.ok.above))).trans e1⟩
  ·obtain ⟨o',e1⟩:=I.base.there b o e hx
   exact⟨o',(hs.2 b (Nat.ne_of_lt (Nat.lt_of_lt_of_le (Heap.lt_size e) I.ok.above))).trans e1⟩
  ·by_cases hj:j=i
   ·subst hj
    rw[hi] at e1;cases e1
    rw[List.getElem?_set_self hiσ] at e2
    cases e2
    exact⟨u,r,.inl ⟨hk,by simp⟩⟩
   ·rw [List.getElem?_set_ne (Ne.symm hj)] at e2
    obtain⟨u',r',q⟩:=hl j y v' e1 e2 e3
    refine⟨u',r', ?_⟩
    rcases q with⟨k,e⟩|⟨k,c,e,z⟩
    ·refine .inl ⟨k, ?_⟩
     have:y≠x:=fun e=>hj (zf9 hN e1 (e▸hi))
     simp[this,e]
    ·exact .inr ⟨k,c,e,z.sameBut hs (cne y c e)⟩
  ·obtain ⟨w',z⟩:=I.cell y c e
   exact⟨w',z.sameBut hs (cne y c e)⟩
  ·obtain ⟨e,n,ne,nf,d⟩:=I.pin p hp
   exact⟨(hs.2 p.1 ne).trans e,n,ne,nf,d⟩
 ·have hfn:X.fn x=true:=by
   rcases hf with z|z
   ·exact z
   ·rw[z] at hk;cases hk
  obtain⟨c,hc⟩:=I.ok.has x (.inl hk)
  obtain⟨w',z⟩:=I.cell x c hc
  refine wpAny_storeName_cell I.ok.kind hk hc z (fun h' hc' hs=> ?_)
  obtain⟨oc,hoc,hocd⟩:=id z
  refine h {s with heap:=h'} ⟨I.ok,I.os,I.bare,⟨fun b o e n hb hx=> ?_,fun b o e n hb hx=> ?_,I.base.free,fun b o e hx=> ?_,I.base.tups,I.base.frzs,I.base.tbls⟩,⟨m,hn.sameBut hs (Ne.symm (cne x c hc)),fun j y v' e1 e2 e3=> ?_⟩,fun y c' e=> ?_,I.free,I.freeC,fun p hp=> ?_,tracked ⟨oc,hoc,I.freeC x c hc⟩ hs,by simpa using I.len⟩ ⟨c,hs,.inr hc⟩
  ·exact (hs.2 b (Nat.ne_of_lt (Nat.lt_of_lt_of_le (Heap.lt_size e) (I.ok.cab x c hfn hc)))).trans (I.base.keep b o e n hb hx)
  ·obtain ⟨sl,e1⟩:=I.base.slot b o e n hb hx
   exact⟨sl,(hs.2 b (Nat.ne_of_lt (Nat.lt_of_lt_of_le (Heap.lt_size e) (I.ok.cab x c hfn hc)))).trans e1⟩
  ·obtain ⟨o',e1⟩:=I.base.there b o e hx
   exact⟨o',(hs.2 b (Nat.ne_of_lt (Nat.lt_of_lt_of_le (Heap.lt_size e) (I.ok.cab x c hfn hc)))).trans e1⟩
  ·by_cases hj:j=i
   ·subst hj
    rw[hi] at e1;cases e1
    rw[List.getElem?_set_self hiσ] at e2
    cases e2
    exact⟨u,r,.inr ⟨.inl hk,c,hc,hc'⟩⟩
   ·rw [List.getElem?_set_ne (Ne.symm hj)] at e2
    obtain⟨u',r',q⟩:=hl j y v' e1 e2 e3
    refine⟨u',r', ?_⟩
    rcases q with q|⟨k,c',e,z'⟩
    ·exact .inl q
    ·refine .inr ⟨k,c',e,z'.sameBut hs ?_⟩
     rintro rfl
     exact hj (zf9 hN e1 (I.ok.inj _ _ _ e hc▸hi))
  ·by_cases hcc:c'=c
   ·subst hcc;exact⟨_,hc'⟩
   ·obtain ⟨w2,z2⟩:=I.cell y c' e
    exact⟨w2,z2.sameBut hs hcc⟩
  ·obtain ⟨e,n,ne,nf,d⟩:=I.pin p hp
   refine⟨(hs.2 p.1 ?_).trans e,n,ne,nf,d⟩
   intro q
   rw[q,hoc] at e
   have q':oc=p.2:=Option.some.inj e
   exact d w' (by rw[<-q'];exact hocd)
theorem zc6 {M:Model}{A:Around}{E:Value->Shared->Prop}{i:Nat}{x:Str}{v:V}{u:Value}{Q:Unit->Shared->Prop}(I:Inv X pins σ H s)(hN:X.N.Nodup)(hi:X.N[i]? =some x)(hx:Loc X.env.scope x)(r:RelV v u)
  (h:∀s',Inv X pins (σ.set i (some v)) H s'->Q () s') (hf:X.fn x=true∨X.env.scope.names.lookup x=some .local:=by first|exact .inl rfl|exact .inr rfl|assumption):wpAny M A (storeName X.env x u) Q E s:=
 zhk I hN hi hx r (fun s' I' _=>h s' I') hf
theorem Inv.call' {s':Shared}{ch:List Addr}(I:Inv X pins σ H s)(ho:s'.os=s.os)(u:Un (frs X.stack) ch H H' s.heap s'.heap)(hok:HOk X.prog X.w H' s'.heap)(hg:AllBare s'.gens)
  (hch:∀b∈ch,(b∈X.ex∨X.s₀.heap.objs.size<=b)/\b≠X.env.locals/\(∀x c,X.env.cells.lookup x=some c->c≠b)/\∀p∈X.pn++pins,p.1≠b):Inv X pins σ H' s':=by
 obtain⟨h',g',d',t',o'⟩:=s'
 have e:o'=s.os:=ho
 subst e
 exact I.call (g':=g') (t':=t') (d':=d') u hok hg hch
end
noncomputable abbrev XK:=Value->Option Addr->Hp->Prop
noncomputable abbrev St:=List (Option V)
noncomputable abbrev VK:=V->Hp->Prop
noncomputable abbrev TE:=St->Hp->VK->Prop
noncomputable abbrev TT:=St->Hp->(Bool->Hp->Prop)->Prop
noncomputable abbrev TA:=St->Hp->(List V->Hp->Prop)->Prop
structure Ends where
 nx:St->Hp->Prop
 rt:VK
 bk:St->Hp->Prop:=fun _ _=>False
 ct:St->Hp->Prop:=fun _ _=>False
noncomputable abbrev TS:=Ends->St->Hp->Prop
noncomputable def EP (X:Cx)(pins:List (Addr×Obj))(σ:St)(Q:VK)(u:Value)(s':Shared):Prop:=∃v H',Inv X pins σ H' s'/\RelV v u/\Q v H'
noncomputable def TP (X:Cx)(pins:List (Addr×Obj))(σ:St)(Q:Bool->Hp->Prop)(b:Bool)(s':Shared):Prop:=∃H',Inv X pins σ H' s'/\Q b H'
noncomputable def AP (X:Cx)(pins:List (Addr×Obj))(σ:St)(Q:List V->Hp->Prop)(us:List Value)(s':Shared):Prop:=∃vs H',Inv X pins σ H' s'/\Vals vs us/\Q vs H'
noncomputable def SP (X:Cx)(pins:List (Addr×Obj))(D:Ends)(f:Flow)(s':Shared):Prop:=
 match f with
 | .next=>∃σ' H',Inv X pins σ' H' s'/\D.nx σ' H'
 | .brk=>∃σ' H',Inv X pins σ' H' s'/\D.bk σ' H'
 | .cont=>∃σ' H',Inv X pins σ' H' s'/\D.ct σ' H'
 | .ret u=>∃v σ' H',Inv X pins σ' H' s'/\RelV v u/\D.rt v H'
noncomputable def PE (X:Cx)(e:Expr)(t:TE):Prop:=
 ∀(pins:List (Addr×Obj)) (s:Shared) (σ:St) (H:Hp) (Q:VK),Inv X pins σ H s->t σ H Q->wpAny (model X.prog X.w) X.A (eval e X.env) (EP X pins σ Q) X.xe s
noncomputable def PT (X:Cx)(e:Expr)(t:TT):Prop:=
 ∀(pins:List (Addr×Obj)) (s:Shared) (σ:St) (H:Hp) (Q:Bool->Hp->Prop),Inv X pins σ H s->t σ H Q->wpAny (model X.prog X.w) X.A (isTrue e X.env (eval e X.env)) (TP X pins σ Q) X.xe s
noncomputable def PW (X:Cx)(e:Expr)(t:TT):Prop:=
 ∀(whole:Sem Value) (pins:List (Addr×Obj)) (s:Shared) (σ:St) (H:Hp) (Q:Bool->Hp->Prop),Inv X pins σ H s->t σ H Q->wpAny (model X.prog X.w) X.A (isTrue e X.env whole) (TP X pins σ Q) X.xe s
theorem PW.pt {X:Cx}{e:Expr}{t:TT}(h:PW X e t):PT X e t:=h _
noncomputable def PA (X:Cx)(es:List Expr)(t:TA):Prop:=
 ∀(pos:Pos) (pins:List (Addr×Obj)) (s:Shared) (σ:St) (H:Hp) (Q:List V->Hp->Prop),Inv X pins σ H s->t σ H Q->wpAny (model X.prog X.w) X.A (spliced (backTo pos (starEach es X.env))) (AP X pins σ Q) X.xe s
noncomputable def PS (X:Cx)(st:Stmt)(t:TS):Prop:=
 ∀(pins:List (Addr×Obj)) (s:Shared) (σ:St) (H:Hp) (D:Ends),Inv X pins σ H s->t D σ H->wpAny (model X.prog X.w) X.A (exec st X.env) (SP X pins D) X.xe s
noncomputable def PSs (X:Cx)(st:List Stmt)(t:TS):Prop:=
 ∀(pins:List (Addr×Obj)) (s:Shared) (σ:St) (H:Hp) (D:Ends),Inv X pins σ H s->t D σ H->wpAny (model X.prog X.w) X.A (execs st X.env) (SP X pins D) X.xe s
theorem thn {α:Type}{t:Sem α}{Q Q':α->Shared->Prop}{M:Model}{A:Around}{E:Value->Shared->Prop}{s:Shared}(h:wpAny M A t Q E s)(hQ:∀a s,Q a s->Q' a s):wpAny M A t Q' E s:=wpAny_mono h hQ fun _ _ x=>x
section
variable {X:Cx}
noncomputable def tVar (i:Nat):TE:=fun σ H Q=>∃v,σ[i]? =some (some v)/\Q v H
noncomputable def tC (v:V):TE:=fun _ H Q=>Q v H
theorem zkY {i:Nat}{x:Str}{pos:Pos}(hN:X.N[i]? =some x)(hv:Vis X.env.scope x)(hd:(x==("__debug__" :Str))=false:=by decide)(hcd:(x==("__classdict__" :Str))=false:=by decide):PE X (.Name x pos) (tVar i):=by
 intro pins s σ H Q I h
 obtain⟨v,e,h⟩:=h
 obtain⟨m,hn,hl⟩:=I.loc
 obtain⟨u,r,l⟩:=hl i x v hN e hv
 have fin:EP X pins σ Q u s:=⟨v,H,I,r,h⟩
 rcases l with⟨hk,hm⟩|⟨hk,c,hc,hcell⟩
 ·exact wpAny_Name (wpAny_loadName_local I.ok.kind hk hn hm fin) hd
 ·rcases hk with hk|hk
  ·exact wpAny_Name (wpAny_loadName_cell I.ok.kind hk hc hcell fin) hd
  ·exact wpAny_Name (wpAny_loadName_free I.ok.kind hk hc hcell fin hcd) hd
theorem zab {i j pos}:PE X (.Constant (.int i) j pos) (tC (.int i)):=fun _ _ _ H _ I h=>wpAny_Constant_int ⟨.int i,H,I.tok _,⟨_,rfl⟩,h⟩
theorem zcb {b j pos}:PE X (.Constant (.bool b) j pos) (tC (.bl b)):=fun _ _ _ H _ I h=>Constant_bool ⟨.bl b,H,I,rfl,h⟩
theorem zaE {x j pos}:PE X (.Constant (.str x) j pos) (tC (.str x)):=fun _ _ _ H _ I h=>Calls.Constant_str ⟨.str x,H,I.tok _,⟨_,rfl⟩,h⟩
noncomputable def Gl (X:Cx)(x:Str):Prop:=X.env.kindOf x=some .globalImplicit
theorem zhl {E:Value->Shared->Prop}{pins:List (Addr×Obj)}{s:Shared}{σ:St}{H:Hp}{x:Str}{u:Value}{pos:Pos}{Q:Value->Shared->Prop}(I:Inv X pins σ H s)(hg:Gl X x)(hm:X.mg x=some u)(h:Q u s)
  (hd:(x==("__debug__" :Str))=false:=by decide):wpAny (model X.prog X.w) X.A (eval (.Name x pos) X.env) Q E s:=
 Calls.Name_function_global I.ok.kind hg (Calls.loadGlobal_global (by rw[I.ok.glob];exact I.mod.glob.keeps I.bk) hm h) hd
theorem zda {E:Value->Shared->Prop}{pins:List (Addr×Obj)}{s:Shared}{σ:St}{H:Hp}{x:Str}{u:Value}{pos:Pos}{Q:Value->Shared->Prop}(I:Inv X pins σ H s)(hg:Gl X x)(hm:X.mg x=none)(hv:bootBuiltins x=some u)(h:Q u s)
  (hn:x≠ "__name__" :=by decide) (hd:(x==("__debug__" :Str))=false:=by decide):wpAny (model X.prog X.w) X.A (eval (.Name x pos) X.env) Q E s:=by
 obtain⟨mb,h1,h2⟩:=I.mod.blt
 exact Calls.Name_function_global I.ok.kind hg (Calls.loadGlobal_builtin (by rw[I.ok.glob];exact I.mod.glob.keeps I.bk) hm (by rw[I.ok.blt];exact h1.keeps I.bk) ((h2 x hn).trans hv) h) hd
theorem zbp {x:Str}{v:V}{u:Value}{pos:Pos}(hg:Gl X x)(hm:X.mg x=some u)(r:RelV v u)(hd:(x==("__debug__" :Str))=false:=by decide):PE X (.Name x pos) (tC v):=
 fun _ _ _ H _ I h=>zhl I hg hm ⟨v,H,I,r,h⟩ hd
theorem zdb {x:Str}{v:V}{u:Value}{pos:Pos}(hg:Gl X x)(hm:X.mg x=none)(hv:bootBuiltins x=some u)(r:RelV v u)(hn:x≠ "__name__" :=by decide)(hd:(x==("__debug__" :Str))=false:=by decide):PE X (.Name x pos) (tC v):=
 fun _ _ _ H _ I h=>zda I hg hm hv ⟨v,H,I,r,h⟩ hn hd
variable {a b:Expr}{ta tb:TE}{pos:Pos}
noncomputable def tB (t:TE):TT:=fun σ H Q=>t σ H fun x H1=>∃c,x=.bl c/\Q c H1
theorem zbA {e:Expr}{t:TE}(h:PE X e t)(he:∀whole,isTrue e X.env whole=(do let v<-whole;standAt e.pos;holding [v] (truthy v)):=by intro _;rfl):PT X e (tB t):=by
 intro pins s σ H Q I hw
 refine isTrue_plain (thn (h pins s σ H _ I hw) fun v s1 zq=> ?_) (he _)
 obtain⟨x,H1,I1,r1,q1⟩:=zq
 obtain⟨d,rfl,q⟩:=q1
 cases r1
 exact wpAny_truthy_bool ⟨H1,I1,q⟩
variable {tA tB':TT}{rest:List Expr}
noncomputable def tOr (t u:TT):TT:=fun σ H Q=>t σ H fun c H1=>if c=true then Q true H1 else u σ H1 Q
noncomputable def tNot (t:TT):TT:=fun σ H Q=>t σ H fun c H1=>Q (!c) H1
theorem zcj (ha:PT X a tA):PW X (.BoolOp .Or [a] pos) tA:=by
 intro wh pins s σ H Q I h
 refine isTrue_or (thn (ha pins s σ H Q I h) fun c s1 e=> ?_)
 cases c with
 |false=>exact isTrue_or_nil e
 |true=>exact e
theorem zea (ha:PT X a tA)(hb:PW X (.BoolOp .Or (b::rest) pos) tB'):PW X (.BoolOp .Or (a::b::rest) pos) (tOr tA tB'):=by
 intro wh pins s σ H Q I h
 refine isTrue_or (thn (ha pins s σ H _ I h) fun c s1 zq=> ?_)
 obtain⟨H1,I1,q1⟩:=zq
 cases c with
 |true=>exact⟨H1,I1,q1⟩
 |false=>exact hb wh pins s1 σ H1 Q I1 q1
theorem zbQ (ha:PT X a tA):PT X (.UnaryOp .Not a pos) (tNot tA):=by
 intro pins s σ H Q I h
 exact isTrue_not (ha pins s σ H (fun c H1=>Q (!c) H1) I h)
noncomputable def zlU (ta tb:TE):TE:=fun σ H Q=>ta σ H fun x H1=>∃c,x=.bl c/\if c=true then tb σ H1 Q else Q (.bl false) H1
noncomputable def zlV (ta:TE):TE:=fun σ H Q=>ta σ H fun x H1=>∃c,x=.bl c/\Q (.bl (!c)) H1
theorem zga {op}{t:TE}(h:PE X a t):PE X (.BoolOp op [a] pos) t:=fun pins s σ H Q I hw=>BoolOp_one (h pins s σ H Q I hw)
theorem zgb (ha:PE X a ta)(hb:PE X (.BoolOp .And (b::rest) pos) tb):PE X (.BoolOp .And (a::b::rest) pos) (zlU ta tb):=by
 intro pins s σ H Q I h
 refine BoolOp_and (thn (ha pins s σ H _ I h) fun v s1 zq=> ?_)
 obtain⟨x,H1,I1,r1,q1⟩:=zq
 obtain⟨c,rfl,q1⟩:=q1
 cases r1
 refine wpAny_truthy_bool ?_
 cases c with
 |true=>exact hb pins s1 σ H1 Q I1 q1
 |false=>exact⟨.bl false,H1,I1,rfl,q1⟩
theorem zeL (ha:PE X a ta):PE X (.UnaryOp .Not a pos) (zlV ta):=by
 intro pins s σ H Q I h
 refine UnaryOp_ (thn (ha pins s σ H _ I h) fun v s1 zq=> ?_)
 obtain⟨x,H1,I1,r1,q1⟩:=zq
 obtain⟨c,rfl,q1⟩:=q1
 cases r1
 exact not_of (wpAny_truthy_bool ⟨.bl (!c),H1,I1,rfl,q1⟩)
noncomputable def tIf (t:TT)(ta tb:TE):TE:=fun σ H Q=>t σ H fun c H1=>if c=true then ta σ H1 Q else tb σ H1 Q
theorem zbE {c:Expr}(hc:PT X c tA)(ha:PE X a ta)(hb:PE X b tb):PE X (.IfExp c a b pos) (tIf tA ta tb):=by
 intro pins s σ H Q I h
 refine wpAny_IfExp (thn (hc pins s σ H _ I h) fun d s1 zq=> ?_)
 obtain⟨H1,I1,q1⟩:=zq
 cases d with
 |true=>exact ha pins s1 σ H1 Q I1 q1
 |false=>exact hb pins s1 σ H1 Q I1 q1
end
noncomputable def SqL (K:PySem.W.Frag)(H:Hp)(a:Addr)(xs:List V):Prop:=
 Rd H a (.lst xs)∨
  ∃(o:Obj) (its:Array Value) (n:Nat),K.lookup a=some o/\o.cls=.type "list" /\o.dict=none/\o.data=.seq its n/\its.size<=sizeLine/\Vals xs its.toList
noncomputable def SqT (K:PySem.W.Frag)(H:Hp)(a:Addr)(xs:List V):Prop:=
 Rd H a (.tup xs)∨
  ∃(o:Obj) (its:Array Value) (n:Nat),K.lookup a=some o/\o.cls=.type "tuple" /\o.data=.seq its n/\its.size<=sizeLine/\Vals xs its.toList
noncomputable def absV:Value->Option V
 | .none=>some .non
 | .bool b=>some (.bl b)
 | .int i _=>some (.int i)
 | .str x _=>some (.str x)
 | .bytes b _=>some (.byt b)
 | .float b _=>some (.flt b)
 | .ref a=>some (.ref a)
 | .type n=>some (.ty n)
 |_=>none
theorem RelV.abs {x:V}{u:Value}(r:RelV x u):absV u=some x:=by
 cases x with
 |non=>cases r;rfl
 |bl _=>cases r;rfl
 |int _=>obtain⟨t,rfl⟩:=r;rfl
 |str _=>obtain⟨t,rfl⟩:=r;rfl
 |byt _=>obtain⟨t,rfl⟩:=r;rfl
 |flt _=>obtain⟨t,rfl⟩:=r;rfl
 |ref _=>cases r;rfl
 |ty _=>cases r;rfl
theorem RelV.inj {x y:V}{u:Value}(r:RelV x u)(q:RelV y u):x=y:=Option.some.inj (r.abs.symm.trans q.abs)
theorem Vals.inj:∀{xs ys:List V} {us:List Value},Vals xs us->Vals ys us->xs=ys
 |_,_,_,.nil,.nil=>rfl
 |_,_,_,.cons r t,.cons r' t'=>by rw[r.inj r',Vals.inj t t']
section
variable {X:Cx}{pins:List (Addr×Obj)}{σ:St}{H:Hp}{s:Shared}{a:Addr}{xs ys:List V}
theorem SqL.of {K:PySem.W.Frag}(h:H a=some (.lst xs)):SqL K H a xs:=.inl (.inl h)
theorem SqT.of {K:PySem.W.Frag}(h:H a=some (.tup xs)):SqT K H a xs:=.inl (.inl h)
theorem Inv.list (I:Inv X pins σ H s)(h:SqL X.K H a xs):∃its:List Value,Vals xs its/\PlainL s.heap a its.toArray/\xs.length<=sizeLine:=by
 rcases h with h|⟨o,its,n,hk,hc,hd,hs,hz,r⟩
 ·obtain ⟨z,its,n,r,e⟩:=h.ok I.hok
  exact⟨its,r,⟨_,n,e,rfl,rfl,rfl⟩,z⟩
 ·refine ⟨its.toList,r,⟨o,n,I.kIn a o hk,hc,hd,by simpa using hs⟩, ?_⟩
  have e:=r.length
  simp only[Array.length_toList] at e
  (first|lia|omega)
theorem Inv.tuple (I:Inv X pins σ H s)(h:SqT X.K H a xs):∃its:List Value,Vals xs its/\IsTup s.heap a its.toArray/\xs.length<=sizeLine:=by
 rcases h with h|⟨o,its,n,hk,hc,hs,hz,r⟩
 ·obtain ⟨z,its,r,p⟩:=h.ok I.hok
  exact⟨its,r,p.tup,z⟩
 ·refine ⟨its.toList,r,⟨o,I.kIn a o hk,hc,n,by simpa using hs⟩, ?_⟩
  have e:=r.length
  simp only[Array.length_toList] at e
  (first|lia|omega)
theorem Inv.list_inj (I:Inv X pins σ H s)(h:SqL X.K H a xs)(h':SqL X.K H a ys):xs=ys:=by
 obtain⟨its,r,⟨o,n,e,_,_,d⟩,_⟩:=I.list h
 obtain⟨its',r',⟨o',n',e',_,_,d'⟩,_⟩:=I.list h'
 rw[e] at e';cases e'
 rw[d] at d'
 injection d' with d1 _
 have:its=its':=by simpa using congrArg Array.toList d1
 subst this
 exact r.inj r'
theorem Inv.tuple_inj (I:Inv X pins σ H s)(h:SqT X.K H a xs)(h':SqT X.K H a ys):xs=ys:=by
 obtain⟨its,r,⟨o,e,_,n,d⟩,_⟩:=I.tuple h
 obtain⟨its',r',⟨o',e',_,n',d'⟩,_⟩:=I.tuple h'
 rw[e] at e';cases e'
 rw[d] at d'
 injection d' with d1 _
 have:its=its':=by simpa using congrArg Array.toList d1
 subst this
 exact r.inj r'
end
noncomputable abbrev Cx.wish (X:Cx)(E:Value->Shared->Prop):Cx:={X with xe:=E}
noncomputable abbrev Cx.nox (X:Cx):Cx:=X.wish fun _ _=>False
theorem Cx.Ok.wish {X:Cx}(ok:X.Ok)(E:Value->Shared->Prop):(X.wish E).Ok:=
 ⟨ok.mod,ok.kind,ok.glob,ok.blt,ok.above,ok.inj,ok.has,ok.cab,ok.hd,ok.frames,ok.stk,ok.exf,ok.bs,ok.bsz,ok.noex,ok.exfs,ok.funs,ok.frf⟩
theorem Cx.Ok.unwish {X:Cx}{E:Value->Shared->Prop}(ok:(X.wish E).Ok):X.Ok:=
 ⟨ok.mod,ok.kind,ok.glob,ok.blt,ok.above,ok.inj,ok.has,ok.cab,ok.hd,ok.frames,ok.stk,ok.exf,ok.bs,ok.bsz,ok.noex,ok.exfs,ok.funs,ok.frf⟩
section
variable {X:Cx}{pins:List (Addr×Obj)}{σ:St}{H:Hp}{s:Shared}{E:Value->Shared->Prop}
theorem Inv.wish (I:Inv X pins σ H s)(E:Value->Shared->Prop):Inv (X.wish E) pins σ H s:=⟨I.ok.wish E,I.os,I.bare,I.base,I.loc,I.cell,I.free,I.freeC,I.pin,I.hok,I.len⟩
theorem Inv.unwish (I:Inv (X.wish E) pins σ H s):Inv X pins σ H s:=⟨I.ok.unwish,I.os,I.bare,I.base,I.loc,I.cell,I.free,I.freeC,I.pin,I.hok,I.len⟩
theorem SP.unwish {D:Ends}{f:Flow}{s':Shared}(h:SP (X.wish E) pins D f s'):SP X pins D f s':=by
 cases f with
 |next=>obtain⟨σ',H',I,q⟩:=h;exact⟨σ',H',I.unwish,q⟩
 |brk=>obtain⟨σ',H',I,q⟩:=h;exact⟨σ',H',I.unwish,q⟩
 |cont=>obtain⟨σ',H',I,q⟩:=h;exact⟨σ',H',I.unwish,q⟩
 |ret u=>obtain⟨v,σ',H',I,r,q⟩:=h;exact⟨v,σ',H',I.unwish,r,q⟩
theorem PSs.nox {st:List Stmt}{t:TS}(h:PSs X.nox st t):PSs X st t:=fun pins s σ H D I hw=>
 wpAny_mono (h pins s σ H D (I.wish _) hw) (fun _ _ q=>q.unwish) fun _ _ z=>False.elim z
end
section
variable {X:Cx}{st:Stmt}{rest:List Stmt}{t u:TS}{e:Expr}{te:TE}{pos:Pos}
noncomputable def zlW:TS:=fun D σ H=>D.nx σ H
noncomputable def tSeq (t u:TS):TS:=fun D σ H=>t {D with nx:=u D} σ H
theorem zay:PSs X [] zlW:=fun _ _ σ H _ I h=>wpAny_execs_nil ⟨σ,H,I,h⟩
theorem zaf (h1:PS X st t)(h2:PSs X rest u):PSs X (st::rest) (tSeq t u):=by
 intro pins s σ H D I h
 refine wpAny_execs_cons (thn (h1 pins s σ H {D with nx:=u D} I h) fun f s1 q=> ?_)
 cases f with
 |next=>
  obtain⟨σ',H',I',q⟩:=q
  exact h2 pins s1 σ' H' D I' q
 |ret v=>exact q
 |brk=>exact q
 |cont=>exact q
theorem zah (h1:PS X st t):PSs X [st] t:=by
 intro pins s σ H D I h
 refine wpAny_execs_cons (thn (h1 pins s σ H D I h) fun f s1 q=> ?_)
 cases f with
 |next=>exact wpAny_execs_nil q
 |ret v=>exact q
 |brk=>exact q
 |cont=>exact q
theorem Inv.quiet {pins:List (Addr×Obj)}{σ:St}{H:Hp}{s:Shared}(I:Inv X pins σ H s):interactive X.env=false:=by simp[interactive,I.ok.kind]
noncomputable def zlX (te:TE):TS:=fun D σ H=>te σ H fun _ H1=>D.nx σ H1
theorem zcA (he:PE X e te)(hs:swapsWith e none pos.line X.env=pure false:=by rfl):PS X (.Expr e pos) (zlX te):=by
 intro pins s σ H D I h
 exact wpAny_Expr_any (thn (he pins s σ H _ I h) fun v s1 ⟨x,H1,I1,r1,q1⟩=>⟨σ,H1,I1,q1⟩) I.quiet hs
noncomputable def tRet (te:TE):TS:=fun D σ H=>te σ H D.rt
theorem zal (he:PE X e te):PS X (.Return (some e) pos) (tRet te):=by
 intro pins s σ H D I h
 exact wpAny_Return_some (thn (he pins s σ H _ I h) fun v s1 ⟨x,H1,I1,r1,q1⟩=>⟨x,σ,H1,I1,r1,q1⟩)
noncomputable def tIfS (c:TT)(t u:TS):TS:=fun D σ H=>c σ H fun b H1=>if b=true then t D σ H1 else u D σ H1
theorem zaY {c:Expr}{a b:List Stmt}{tc:TT}(hc:PT X c tc)(ha:PSs X a t)(hb:PSs X b u):PS X (.If c a b pos) (tIfS tc t u):=by
 intro pins s σ H D I h
 refine wpAny_If (thn (hc pins s σ H _ I h) fun d s1 zq=> ?_)
 obtain⟨H1,I1,q1⟩:=zq
 cases d with
 |true=>exact ha pins s1 σ H1 D I1 q1
 |false=>exact hb pins s1 σ H1 D I1 q1
noncomputable def zkZ:TS:=fun _ _ _=>False
theorem zeM {sts:List Stmt}:PSs X sts zkZ:=fun _ _ _ _ _ _ h=>h.elim
end
noncomputable abbrev TG:=V->St->Hp->(St->Hp->Prop)->Prop
noncomputable abbrev TGs:=List V->St->Hp->(St->Hp->Prop)->Prop
noncomputable def PG (X:Cx)(target:Expr)(t:TG):Prop:=
 ∀(pins:List (Addr×Obj)) (s:Shared) (σ:St) (H:Hp) (v:V) (u:Value) (Q:St->Hp->Prop),Inv X pins σ H s->RelV v u->t v σ H Q->
  wpAny (model X.prog X.w) X.A (assign target X.env u) (fun _ s'=>∃σ' H',Inv X pins σ' H' s'/\Q σ' H') X.xe s
noncomputable def PGs (X:Cx)(ts:List Expr)(t:TGs):Prop:=
 ∀(pins:List (Addr×Obj)) (s:Shared) (σ:St) (H:Hp) (vs:List V) (us:List Value) (Q:St->Hp->Prop),Inv X pins σ H s->Vals vs us->t vs σ H Q->
  wpAny (model X.prog X.w) X.A (assignInOrder ((assignEach ts X.env).map (·.2)) us) (fun _ s'=>∃σ' H',Inv X pins σ' H' s'/\Q σ' H') X.xe s
noncomputable abbrev TSet:=V->V->V->Hp->(Hp->Prop)->Prop
noncomputable def PSet (X:Cx)(t:TSet):Prop:=
 ∀(pins:List (Addr×Obj)) (s:Shared) (σ:St) (H:Hp) (o i v:V) (ov iv u:Value) (Q:Hp->Prop),Inv X pins σ H s->RelV o ov->RelV i iv->RelV v u->t o i v H Q->
  wpAny (model X.prog X.w) X.A (setItem ov iv u) (fun _ s'=>∃H',Inv X pins σ H' s'/\Q H') X.xe s
noncomputable abbrev TIp:=V->V->Hp->VK->Prop
noncomputable def PIp (X:Cx)(op:Operator)(t:TIp):Prop:=
 ∀(pins:List (Addr×Obj)) (s:Shared) (σ:St) (H:Hp) (x y:V) (v u:Value) (Q:VK),Inv X pins σ H s->RelV x v->RelV y u->t x y H Q->
  wpAny (model X.prog X.w) X.A (inplaceOp op v u) (EP X pins σ Q) X.xe s
section
variable {X:Cx}{pos:Pos}
noncomputable def zck (i:Nat):TG:=fun v σ H Q=>Q (σ.set i (some v)) H
theorem zat {i:Nat}{x:Str}(hN:X.N.Nodup)(hi:X.N[i]? =some x)(hx:Loc X.env.scope x)(hf:X.fn x=true∨X.env.scope.names.lookup x=some .local:=by first|exact .inl rfl|exact .inr rfl|assumption):PG X (.Name x pos) (zck i):=by
 intro pins s σ H v u Q I r h
 exact wpAny_assign_Name (zc6 I hN hi hx r (fun s' I'=>⟨_,H,I',h⟩) hf)
noncomputable def gNil:TGs:=fun vs σ H Q=>vs=[]/\Q σ H
noncomputable def zj0 (t:TG)(u:TGs):TGs:=fun vs σ H Q=>∃v r,vs=v::r/\t v σ H fun σ' H'=>u r σ' H' Q
theorem zj1:PGs X [] gNil:=by
 intro pins s σ H vs us Q I r h
 obtain⟨e,h⟩:=h
 subst e
 cases r
 exact assignInOrder_nil ⟨σ,H,I,h⟩
theorem zgc {e:Expr}{es:List Expr}{t:TG}{u:TGs}(h1:PG X e t)(h2:PGs X es u)
  (hs:(assignEach (e::es) X.env).map (·.2)=assign e X.env::(assignEach es X.env).map (·.2):=by rfl):PGs X (e::es) (zj0 t u):=by
 intro pins s σ H vs us Q I r h
 obtain⟨v,vr,e1,h⟩:=h
 subst e1
 cases r with
 |cons r rr=>
  rw[hs]
  refine assignInOrder_cons (thn (h1 pins s σ H _ _ _ I r h) fun _ s1 zq=> ?_)
  obtain⟨σ1,H1,I1,q1⟩:=zq
  exact h2 pins s1 σ1 H1 _ _ Q I1 rr q1
noncomputable def gTup (K:PySem.W.Frag)(n:Nat)(t:TGs):TG:=fun v σ H Q=>∃a xs,v=.ref a/\SqT K H a xs/\xs.length=n/\t xs σ H Q
theorem zk0 {es:List Expr}{k:Nat}{t:TGs}{n:Nat}(hc:X.calm=true)(h:PGs X es t)
  (hn:(assignEach es X.env).length=n:=by rfl) (hst:(assignEach es X.env).findIdx? (·.1)=none:=by rfl):PG X (.Tuple es k pos) (gTup X.K n t):=by
 intro pins s σ H v u Q I r hw
 obtain⟨a,xs,e1,hq,hl,hw⟩:=hw
 subst e1
 cases r
 obtain⟨its,rv,ht,hz⟩:=I.tuple hq
 refine assign_Tuple_tuple (I.ok.hd hc) ht (by simp[hn,<-hl,rv.length]) hst fun h' hx=> ?_
 have I1:Inv X pins σ H {s with heap:=h'}:=I.kept (t':=s.toks) fun b o e=>hx b o (Nat.ne_of_lt (Heap.lt_size e)) e
 exact h pins _ σ H xs _ Q I1 (by simpa using rv) hw
noncomputable def gSub (to ti:TE)(t:TSet):TG:=fun v σ H Q=>to σ H fun o H1=>ti σ H1 fun i H2=>t o i v H2 fun H3=>Q σ H3
theorem zjB {o i:Expr}{to ti:TE}{t:TSet}(ho:PE X o to)(hi:PE X i ti)(hs:PSet X t)
  (ha:∀v,assign (.Subscript o i pos) X.env v=(do
   let ov<-holding [v] (eval o X.env)
   let iv<-holding [v,ov] (eval i X.env)
   standAt pos
   holding [v,ov,iv] (setItem ov iv v)
   release [v,ov,iv] []):=by intro _;rfl):PG X (.Subscript o i pos) (gSub to ti t):=by
 intro pins s σ H v u Q I r h
 rw[ha]
 refine wpAny_bind (wpAny_holding (thn (ho pins s σ H _ I h) fun ov s1 zq=> ?_))
 obtain⟨x,H1,I1,r1,q1⟩:=zq
 refine wpAny_bind (wpAny_holding (thn (hi pins s1 σ H1 _ I1 q1) fun iv s2 zq=> ?_))
 obtain⟨y,H2,I2,r2,q2⟩:=zq
 refine wpAny_bind (wpAny_standAt (wpAny_bind (wpAny_holding (thn (hs pins s2 σ H2 x y v ov iv u _ I2 r1 r2 r q2) fun _ s3 zq=> ?_))))
 obtain⟨H3,I3,q3⟩:=zq
 exact wpAny_release ⟨σ,H3,I3,q3⟩
noncomputable def tAsg (te:TE)(g:TG):TS:=fun D σ H=>te σ H fun x H1=>g x σ H1 D.nx
theorem zjC {tg e:Expr}{te:TE}{g:TG}(he:PE X e te)(hg:PG X tg g)(hs:swapsWithSole [tg] e pos.line X.env=pure false:=by rfl)(hw:swappedStores [tg] e X.env=pure none:=by rfl)
  (h1:(assignEach [tg] X.env).map (·.2)=[assign tg X.env]:=by rfl):PS X (.Assign [tg] e pos) (tAsg te g):=by
 intro pins s σ H D I h
 refine wpAny_Assign_stores (thn (he pins s σ H _ I h) fun v s1 zq=> ?_) hs hw
 obtain⟨x,H1,I1,r1,q1⟩:=zq
 rw[h1]
 exact thn (hg pins s1 σ H1 x v _ I1 r1 q1) fun _ s2 q=>q
theorem zap {i:Nat}{x:Str}{e:Expr}{te:TE}{pos':Pos}(hN:X.N.Nodup)(hi:X.N[i]? =some x)(hx:Loc X.env.scope x)(he:PE X e te)(hs:swapsWith e (some (.Name x pos')) pos.line X.env=pure false:=by rfl)(hf:X.fn x=true∨X.env.scope.names.lookup x=some .local:=by first|exact .inl rfl|exact .inr rfl|assumption):
  PS X (.Assign [.Name x pos'] e pos) (tAsg te (zck i)):=by
 intro pins s σ H D I h
 refine wpAny_Assign_Name (thn (he pins s σ H _ I h) fun v s1 zq=> ?_) hs
 obtain⟨y,H1,I1,r1,q1⟩:=zq
 exact zc6 I1 hN hi hx r1 (fun s2 I2=>⟨_,H1,I2,q1⟩) hf
noncomputable def tPar (i j:Nat)(ta:TA):TS:=fun D σ H=>ta σ H fun vs H1=>∃v w,vs=[v,w]/\D.nx ((σ.set i (some v)).set j (some w)) H1
theorem zeN {i j:Nat}{x y:Str}{a b:Expr}{ta:TA}{px py pt:Pos}{kt k2 pt2}(hc:X.calm=true)(hN:X.N.Nodup)(hi:X.N[i]? =some x)(hj:X.N[j]? =some y)(hij:i≠j)
  (hx:X.env.scope.names.lookup x=some .local) (hy:X.env.scope.names.lookup y=some .local) (ha:PA X [a,b] ta)
  (hw:swappedStores [.Tuple [.Name x px,.Name y py] kt pt] (.Tuple [a,b] k2 pt2) X.env=pure (some [x,y]))
  (hs:swapsWithSole [.Tuple [.Name x px,.Name y py] kt pt] (.Tuple [a,b] k2 pt2) pos.line X.env=pure false:=by rfl):
  PS X (.Assign [.Tuple [.Name x px,.Name y py] kt pt] (.Tuple [a,b] k2 pt2) pos) (tPar i j ta):=by
 intro pins s σ H D I h
 rw[exec_Assign_arm]
 refine wpAny_bind (wpAny_standAt ?_)
 rw[hs]
 refine wpAny_bind (wpAny_pure ?_)
 rw[if_neg (by decide)]
 refine wpAny_bind (Tuple_ (thn (ha _ pins s σ H _ I h) fun us s1 zq=> ?_))
 obtain⟨vs,H1,I1,r1,q1⟩:=zq
 obtain⟨v,w,e1,q1⟩:=q1
 subst e1
 obtain⟨u1,u2,rfl,rv,rw'⟩:∃u1 u2,us=[u1,u2]/\RelV v u1/\RelV w u2:=by
  cases r1 with
  | cons p q=>
   cases q with
   |cons p' q'=>
    cases q'
    exact⟨_,_,rfl,p,p'⟩
 refine wpAny_newObj_type ?_ (by show 2<=sizeLine;decide)
 have I2:Inv X pins σ H1 {s1 with heap:=s1.heap.push {cls:=.type "tuple",data:=.seq [u1,u2].toArray}}:=I1.kept (t':=s1.toks) fun b o e=>Heap.get?_push_of_some _ e
 rw[hw]
 refine wpAny_bind (wpAny_pure ?_)
 show wpAny (model X.prog X.w) X.A (do rule "assign.swapped-stores";let items<-unpackItems (.ref s1.heap.objs.size) 2 none;assignInOrder [fun v=>bindName X.env y v,fun v=>bindName X.env x v] items.reverse;pure Flow.next) _ _ _
 refine wpAny_bind (wpAny_rule (wpAny_bind (unpackItems_tuple (items:=#[u1,u2]) (I.ok.hd hc) (IsTup.new s1.heap _) fun h' hx'=> ?_)))
 have I3:=I2.kept (h':=h') (t':=s1.toks) fun b o e=>hx' b o (Nat.ne_of_lt (Heap.lt_size e)) e
 show wpAny _ _ (assignInOrder [fun v=>bindName X.env y v,fun v=>bindName X.env x v] [u2,u1] >>= fun _=>pure Flow.next) _ _ _
 refine wpAny_bind (assignInOrder_cons (wpAny_bindName (zc6 I3 hN hj (.inl hy) rw' (fun s2 I4=> ?_) (.inr hy))))
 refine assignInOrder_cons (wpAny_bindName (zc6 I4 hN hi (.inl hx) rv (fun s3 I5=>assignInOrder_nil (wpAny_pure ?_)) (.inr hx)))
 rw[List.set_comm _ _ (Ne.symm hij)] at I5
 exact⟨_,H1,I5,q1⟩
noncomputable def zlY (to ti te:TE)(tget:V->V->Hp->VK->Prop)(tip:TIp)(tset:TSet):TS:=fun D σ H=>to σ H fun o H1=>ti σ H1 fun i H2=>tget o i H2 fun x H3=>te σ H3 fun y H4=>tip x y H4 fun z H5=>tset o i z H5 fun H6=>D.nx σ H6
noncomputable def PGet (X:Cx)(t:V->V->Hp->VK->Prop):Prop:=
 ∀(pins:List (Addr×Obj)) (s:Shared) (σ:St) (H:Hp) (o i:V) (ov iv:Value) (Q:VK),Inv X pins σ H s->RelV o ov->RelV i iv->t o i H Q->
  wpAny (model X.prog X.w) X.A (getItem ov iv) (EP X pins σ Q) X.xe s
theorem zj2 {o i e:Expr}{to ti te:TE}{tget:V->V->Hp->VK->Prop}{tip:TIp}{tset:TSet}{op:Operator}{tpos:Pos}(ho:PE X o to)(hi:PE X i ti)(hg:PGet X tget)(he:PE X e te)(hp:PIp X op tip)(hs:PSet X tset)
  (ha:∀ov iv new,augStore i ov iv new=(do holding [new,ov,iv] (setItem ov iv new);release [new,ov,iv] [];pure .next):=by intros;rfl):PS X (.AugAssign (.Subscript o i tpos) op e pos) (zlY to ti te tget tip tset):=by
 intro pins s σ H D I h
 refine wpAny_AugAssign_SubscriptAny (thn (ho pins s σ H _ I h) fun ov s1 zq=> ?_) ha
 obtain⟨x1,H1,I1,r1,q1⟩:=zq
 refine thn (hi pins s1 σ H1 _ I1 q1) fun iv s2 zq=> ?_
 obtain⟨x2,H2,I2,r2,q2⟩:=zq
 refine thn (hg pins s2 σ H2 x1 x2 ov iv _ I2 r1 r2 q2) fun old s3 zq=> ?_
 obtain⟨x3,H3,I3,r3,q3⟩:=zq
 refine thn (he pins s3 σ H3 _ I3 q3) fun v s4 zq=> ?_
 obtain⟨x4,H4,I4,r4,q4⟩:=zq
 refine thn (hp pins s4 σ H4 x3 x4 old v _ I4 r3 r4 q4) fun new s5 zq=> ?_
 obtain⟨x5,H5,I5,r5,q5⟩:=zq
 exact thn (hs pins s5 σ H5 x1 x2 x5 ov iv new _ I5 r1 r2 r5 q5) fun _ s6 ⟨H6,I6,q6⟩=>⟨σ,H6,I6,q6⟩
noncomputable def ipI (f:Int->Int->Int):TIp:=fun x y H Q=>∃i j,x=.int i/\y=.int j/\Q (.int (f i j)) H
theorem zk1:PIp X .Add (ipI fun i j=>i+j):=by
 intro pins s σ H x y v u Q I r1 r2 h
 obtain⟨i,j,e1,e2,q⟩:=h
 subst e1;subst e2
 obtain⟨t,rfl⟩:=r1
 obtain⟨t',rfl⟩:=r2
 exact iadd_int ⟨.int _,H,I.tok _,⟨_,rfl⟩,q⟩
noncomputable def zk2 (c:TT)(tb:TS):TS:=fun D σ H=>∃W:Nat->St->Hp->Prop,(∃m,W m σ H)/\∀m σ H,W m σ H->
 c σ H fun b H1=>if b=true then ∃N:St->Hp->Prop,(∀σ' H',N σ' H'->∃m',m'<m/\W m' σ' H')/\tb {D with nx:=N,ct:=N,bk:=D.nx} σ H1 else D.nx σ H1
theorem zeb {c:Expr}{body:List Stmt}{tc:TT}{tb:TS}(hp:PassesOwn (model X.prog X.w) X.A X.env X.xe)(hc:PT X c tc)(hb:PSs X body tb):PS X (.While c body [] pos) (zk2 tc tb):=by
 intro pins s σ H D I h
 obtain⟨W,⟨m0,w0⟩,turn⟩:=h
 refine wpAny_While (codeAny_whileLoop (fun n s'=>∃σ' H',Inv X pins σ' H' s'/\W n σ' H') ?_ m0 ⟨σ,H,I,w0⟩)
 rintro n s1 ⟨σ1,H1,I1,w1⟩
 refine wpAny_passesOwn hp (thn (hc pins s1 σ1 H1 _ I1 (turn n σ1 H1 w1)) fun b s2 zq=> ?_)
 obtain⟨H2,I2,q2⟩:=zq
 cases b with
 | true=>
  obtain⟨N,hN,q2⟩:=q2
  rw[if_pos rfl]
  refine wpAny_passesOwn hp (thn (hb pins s2 σ1 H2 _ I2 q2) fun f s3 q3=> ?_)
  cases f with
  |next=>
   obtain⟨σ3,H3,I3,n3⟩:=q3
   obtain⟨m',hm,w3⟩:=hN σ3 H3 n3
   exact⟨m',hm,σ3,H3,I3,w3⟩
  |cont=>
   obtain⟨σ3,H3,I3,n3⟩:=q3
   obtain⟨m',hm,w3⟩:=hN σ3 H3 n3
   exact⟨m',hm,σ3,H3,I3,w3⟩
  |brk=>exact q3
  |ret v=>exact q3
 |false=>
  rw[if_neg Bool.false_ne_true]
  exact wpAny_execs_nil ⟨σ1,H2,I2,q2⟩
end
structure It where
 go:Nat->Hp->Prop
 yld:Nat->Hp->V->Hp->Prop
 stop:Nat->Hp->Prop
noncomputable def FpOk (X:Cx)(pins:List (Addr×Obj))(H:Hp)(b:Addr):Prop:=
 H b=none/\b≠X.env.locals/\b∉X.fs/\(b∈X.ex∨X.s₀.heap.objs.size<=b)/\(∀x c,X.env.cells.lookup x=some c->c≠b)/\∀p∈X.pn++pins,p.1≠b
theorem Inv.fpOk {X:Cx}{pins:List (Addr×Obj)}{σ:St}{H H':Hp}{s:Shared}{b:Addr}(I:Inv X pins σ H s)(hb:s.heap.objs.size<=b)(hn:H' b=none):FpOk X pins H' b:=by
 refine⟨hn,Nat.ne_of_gt (Nat.lt_of_lt_of_le I.lt hb),I.nofs hb,.inr (Nat.le_trans I.sz hb),fun x c e z=> ?_,fun p hp z=> ?_⟩
 ·obtain ⟨v,q⟩:=I.cell x c e
  exact absurd (Nat.lt_of_lt_of_le q.lt (by rw[z];exact hb)) (Nat.lt_irrefl _)
 ·exact absurd (Nat.lt_of_lt_of_le (Heap.lt_size (I.pin p hp).1) (by rw[z];exact hb)) (Nat.lt_irrefl _)
structure Turn (P:Program) (w:World) (K:PySem.W.Frag) (tg:Expr) (J:It) (fp:List Addr) (it:Addr) (tn:Nat->Heap->Prop):Prop where
 mem:it∈fp
 obj:∀i h,tn i h->∀b∈fp,∃o,h.get? b=some o/\∀v,o.data≠.cell v
 keep:∀i h h',tn i h->(∀b∈fp,∀o,h.get? b=some o->h'.get? b=some o)->tn i h'
 item:∀(X:Cx),X.prog=P->X.w=w->X.K=K->X.calm=true->∀(i:Nat) (pins:List (Addr×Obj)) (s:Shared) (σ:St) (H:Hp) (E:Value->Shared->Prop),Inv X pins σ H s->(∀b∈fp,FpOk X pins H b)->tn i s.heap->J.go i H->
  wpAny (model P w) X.A (pyNext (.ref it)) (fun r s1=>∃u,r=some u/\
   wpAny (model P w) X.A (letOwnedTupleGo tg (.ref it) u) (fun _ s2=>∃x H',Inv X pins σ H' s2/\RelV x u/\J.yld i H x H'/\tn (i+1) s2.heap/\∀b∈fp,H' b=none) E s1) E s
 done:∀(X:Cx),X.prog=P->X.w=w->X.K=K->X.calm=true->∀(i:Nat) (pins:List (Addr×Obj)) (s:Shared) (σ:St) (H:Hp) (E:Value->Shared->Prop),Inv X pins σ H s->(∀b∈fp,FpOk X pins H b)->tn i s.heap->J.stop i H->
  wpAny (model P w) X.A (pyNext (.ref it)) (fun r s1=>r=none/\Inv X pins σ H s1) E s
 self:∀(A:Around) (i:Nat) (s:Shared) (Q:Value->Shared->Prop) (E:Value->Shared->Prop),tn i s.heap->Q (.ref it) s->wpAny (model P w) A (pyIter (.ref it)) Q E s
noncomputable abbrev TI:=St->Hp->(It->Hp->Prop)->Prop
noncomputable def PIE (X:Cx)(pins:List (Addr×Obj))(σ:St)(tg:Expr)(R:It->Hp->Prop)(itv:Value)(s2:Shared):Prop:=
 ∃(it:Addr) (fp:List Addr) (tn:Nat->Heap->Prop) (J:It) (H':Hp),itv=.ref it/\Inv X pins σ H' s2/\Turn X.prog X.w X.K tg J fp it tn/\tn 0 s2.heap/\(∀b∈fp,FpOk X pins H' b)/\R J H'
noncomputable def PI (X:Cx)(tg iter:Expr)(wi:TI):Prop:=
 ∀(pins:List (Addr×Obj)) (s:Shared) (σ:St) (H:Hp) (R:It->Hp->Prop),Inv X pins σ H s->wi σ H R->
  wpAny (model X.prog X.w) X.A (eval iter X.env) (fun v s1=>wpAny (model X.prog X.w) X.A (pyIter v) (PIE X pins σ tg R) X.xe s1) X.xe s
theorem ziG {M:Model}{A:Around}{E:Value->Shared->Prop}{s:Shared}{tg:Expr}{it:Addr}{u:Value}{o:Obj}{n:String}{vs:Array Value}{Q:Unit->Shared->Prop}(ho:s.heap.get? it=some o)(hc:o.cls=.type n)(hd:o.data=.fields vs)
    (hn:["enumerate", "zip", "dict_itemiterator", "dict_reverseitemiterator", "odict_iterator", "itertools.zip_longest", "itertools.pairwise"].contains n=false) (hQ:Q () s):wpAny M A (letOwnedTupleGo tg (.ref it) u) Q E s:=by
  unfold letOwnedTupleGo
  cases tg <;>first
    |exact wpAny_pure hQ
    |(cases u<;>first
        |exact wpAny_pure hQ
        | (refine wpAny_bind (wpAny_load ho ?_)
           rw[hc,hd]
           show wpAny M A (if (["enumerate", "zip", "dict_itemiterator", "dict_reverseitemiterator", "odict_iterator", "itertools.zip_longest", "itertools.pairwise"].contains n&&vs[0]? ==some (rawInt _))=true then _ else _) Q E s
           rw[if_neg (by intro h;rw[hn,Bool.false_and] at h;cases h)]
           exact wpAny_pure hQ))
noncomputable def Itl (K:PySem.W.Frag)(a:Addr):It:=
 ⟨fun i H=>∃xs x,SqL K H a xs/\xs[i]? =some x,fun i H x H'=>H'=H/\∀xs,SqL K H a xs->xs[i]? =some x,fun i H=>∃xs,SqL K H a xs/\xs.length<=i⟩
noncomputable def Itt (K:PySem.W.Frag)(a:Addr):It:=
 ⟨fun i H=>∃xs x,SqT K H a xs/\xs[i]? =some x,fun i H x H'=>H'=H/\∀xs,SqT K H a xs->xs[i]? =some x,fun i H=>∃xs,SqT K H a xs/\xs.length<=i⟩
noncomputable def Itr (lo:Int)(n:Nat):It:=⟨fun i _=>i<n,fun i H x H'=>H'=H/\x=.int (lo+i),fun i _=>n<=i⟩
theorem zhm {P:Program}{w:World}{K:PySem.W.Frag}{tg:Expr}(a it:Addr):Turn P w K tg (Itl K a) [it] it (fun i h=>h.IsListIter it a i) where
 mem:=by simp
 obj:=fun i h st b hb=>by
  have e:b=it:=by simpa using hb
  subst e
  obtain⟨o,e,c,d⟩:=st
  exact⟨o,e,fun v z=>by rw[d] at z;cases z⟩
 keep:=fun i h h' st k=>st.at fun o e=>k it (by simp) o e
 item:=by
  intro X hP hw hK hc i pins s σ H E I hf st hg
  subst hP hw hK
  obtain⟨xs,x,hq,hx⟩:=hg
  obtain⟨its,rv,p,hz⟩:=I.list hq
  obtain⟨u,hu,ru⟩:=rv.get hx
  obtain⟨f0,f1,f2,f3,f4,f5⟩:=hf it (by simp)
  refine wpAny_pyNext_list_item st p.isList (x:=u) (by simpa using hu) fun h' st' sb=> ?_
  have I1:Inv X pins σ H {s with heap:=h'}:=I.turned (t':=s.toks) (fun b o hb e=>(sb.2 b hb).trans e) f0 f1 f3 f4 f5
  obtain⟨o,e,c,d⟩:=id st'
  exact⟨u,rfl,ziG (s:={s with heap:=h'}) e c d (by decide) ⟨x,H,I1,ru,⟨rfl,fun ys hy=>by rw[I.list_inj hy hq];exact hx⟩,st',fun b hb=>(hf b hb).1⟩⟩
 done:=by
  intro X hP hw hK hc i pins s σ H E I hf st hg
  subst hP hw hK
  obtain⟨xs,hq,hx⟩:=hg
  obtain⟨its,rv,p,hz⟩:=I.list hq
  obtain⟨f0,f1,f2,f3,f4,f5⟩:=hf it (by simp)
  have hl:=rv.length
  exact wpAny_pyNext_list_end (I.ok.hd hc) st p.isList (by simp;(first|lia|omega)) fun h' eb=>⟨rfl,I.turned (t':=s.toks) (fun b o hb e=>eb b o hb e) f0 f1 f3 f4 f5⟩
 self:=fun _ _ _ _ _ st h=>wpAny_pyIter_listiter st h
theorem zgN {P:Program}{w:World}{K:PySem.W.Frag}{tg:Expr}(a it:Addr):Turn P w K tg (Itt K a) [it] it (fun i h=>h.IsTupleIter it a i) where
 mem:=by simp
 obj:=fun i h st b hb=>by
  have e:b=it:=by simpa using hb
  subst e
  obtain⟨o,e,c,d⟩:=st
  exact⟨o,e,fun v z=>by rw[d] at z;cases z⟩
 keep:=fun i h h' st k=>st.at fun o e=>k it (by simp) o e
 item:=by
  intro X hP hw hK hc i pins s σ H E I hf st hg
  subst hP hw hK
  obtain⟨xs,x,hq,hx⟩:=hg
  obtain⟨its,rv,p,hz⟩:=I.tuple hq
  obtain⟨u,hu,ru⟩:=rv.get hx
  obtain⟨f0,f1,f2,f3,f4,f5⟩:=hf it (by simp)
  refine wpAny_pyNext_tuple_item st (show s.heap.IsTuple a its.toArray from p) (x:=u) (by simpa using hu) fun h' st' sb=> ?_
  have I1:Inv X pins σ H {s with heap:=h'}:=I.turned (t':=s.toks) (fun b o hb e=>(sb.2 b hb).trans e) f0 f1 f3 f4 f5
  obtain⟨o,e,c,d⟩:=id st'
  exact⟨u,rfl,ziG (s:={s with heap:=h'}) e c d (by decide) ⟨x,H,I1,ru,⟨rfl,fun ys hy=>by rw[I.tuple_inj hy hq];exact hx⟩,st',fun b hb=>(hf b hb).1⟩⟩
 done:=by
  intro X hP hw hK hc i pins s σ H E I hf st hg
  subst hP hw hK
  obtain⟨xs,hq,hx⟩:=hg
  obtain⟨its,rv,p,hz⟩:=I.tuple hq
  obtain⟨f0,f1,f2,f3,f4,f5⟩:=hf it (by simp)
  have hl:=rv.length
  exact wpAny_pyNext_tuple_end (I.ok.hd hc) st (show s.heap.IsTuple a its.toArray from p) (by simp;(first|lia|omega)) fun h' eb=>⟨rfl,I.turned (t':=s.toks) (fun b o hb e=>eb b o hb e) f0 f1 f3 f4 f5⟩
 self:=fun _ _ _ _ _ st h=>wpAny_pyIter_tupleiter st h
theorem zdY {P:Program}{w:World}{K:PySem.W.Frag}{tg:Expr}(it:Addr)(lo:Int)(n:Nat):Turn P w K tg (Itr lo n) [it] it (fun i h=>IsRangeIter h it (lo+(i:Nat)*1) ((n:Int)-(i:Nat)) 1) where
 mem:=by simp
 obj:=fun i h st b hb=>by
  have e:b=it:=by simpa using hb
  subst e
  exact⟨_,st,fun v z=>by
   have z':Data.fields _=Data.cell v:=z
   cases z'⟩
 keep:=fun i h h' st k=>k it (by simp) _ st
 item:=by
  intro X hP hw hK hc i pins s σ H E I hf st hg
  subst hP hw hK
  obtain⟨f0,f1,f2,f3,f4,f5⟩:=hf it (by simp)
  have W:=Walks.range (prog:=X.prog) (w:=X.w) (I.ok.hd hc) it lo 1 n
  refine W.item i s _ _ hg st fun v h' tk hv st' kk=> ?_
  obtain⟨t,rfl⟩:=hv
  have I1:Inv X pins σ H {s with heap:=h',toks:=tk}:=I.turned (fun b o hb e=>kk b o (by simpa using hb) e) f0 f1 f3 f4 f5
  refine⟨_,rfl,ziG (s:={s with heap:=h',toks:=tk}) (n:= "range_iterator") st' rfl rfl (by decide) ⟨.int (lo+i),H,I1,⟨t, ?_⟩,⟨rfl,rfl⟩,st',fun b hb=>(hf b hb).1⟩⟩
  rw[Int.mul_one]
 done:=by
  intro X hP hw hK hc i pins s σ H E I hf st hg
  subst hP hw hK
  obtain⟨f0,f1,f2,f3,f4,f5⟩:=hf it (by simp)
  exact wpAny_pyNext_range_end (I.ok.hd hc) st (by have:n<=i:=hg;(first|lia|omega)) fun h' eb=>⟨rfl,I.turned (t':=s.toks) (fun b o hb e=>eb b o hb e) f0 f1 f3 f4 f5⟩
 self:=fun _ _ _ _ _ st h=>wpAny_pyIter_rangeiter st h
section
variable {X:Cx}{tg:Expr}
noncomputable def zlZ (K:PySem.W.Frag)(tl:TE):TI:=fun σ H R=>tl σ H fun x H1=>∃a,x=.ref a/\(∃xs,SqL K H1 a xs)/\R (Itl K a) H1
noncomputable def iTup (K:PySem.W.Frag)(tl:TE):TI:=fun σ H R=>tl σ H fun x H1=>∃a,x=.ref a/\(∃xs,SqT K H1 a xs)/\R (Itt K a) H1
theorem zcB {l:Expr}{tl:TE}(hl:PE X l tl):PI X tg l (zlZ X.K tl):=by
 intro pins s σ H R I h
 refine thn (hl pins s σ H _ I h) fun v s1 zq=> ?_
 obtain⟨x,H1,I1,r1,q1⟩:=zq
 obtain⟨a,e,⟨xs,hq⟩,q⟩:=q1
 subst e
 cases r1
 obtain⟨its,rv,p,hz⟩:=I1.list hq
 refine wpAny_pyIter_list p.isList ?_
 refine⟨s1.heap.objs.size,[s1.heap.objs.size],_,_,H1,rfl,I1.kept (t':=s1.toks) fun b o e=>Heap.get?_push_of_some _ e,zhm a _,⟨_,Heap.get?_push_size _ rfl,rfl,rfl⟩,fun b hb=> ?_,q⟩
 have e:b=s1.heap.objs.size:=by simpa using hb
 subst e
 exact I1.fpOk (Nat.le_refl _) (I1.hok.fresh (Nat.le_refl _))
theorem zhn {l:Expr}{tl:TE}(hl:PE X l tl):PI X tg l (iTup X.K tl):=by
 intro pins s σ H R I h
 refine thn (hl pins s σ H _ I h) fun v s1 zq=> ?_
 obtain⟨x,H1,I1,r1,q1⟩:=zq
 obtain⟨a,e,⟨xs,hq⟩,q⟩:=q1
 subst e
 cases r1
 obtain⟨its,rv,p,hz⟩:=I1.tuple hq
 refine wpAny_pyIter_tuple (show s1.heap.IsTuple a its.toArray from p) ?_
 refine⟨s1.heap.objs.size,[s1.heap.objs.size],_,_,H1,rfl,I1.kept (t':=s1.toks) fun b o e=>Heap.get?_push_of_some _ e,zgN a _,⟨_,Heap.get?_push_size _ rfl,rfl,rfl⟩,fun b hb=> ?_,q⟩
 have e:b=s1.heap.objs.size:=by simpa using hb
 subst e
 exact I1.fpOk (Nat.le_refl _) (I1.hok.fresh (Nat.le_refl _))
theorem zgd {pins:List (Addr×Obj)}{σ:St}{H:Hp}{s:Shared}{R:It->Hp->Prop}{E:Value->Shared->Prop}{lo hi:Int}{t u v:Tok}{tk:Nat}(I:Inv X pins σ H s)(h1:-(2^62)<=lo)(h2:lo<2^62)(h3:-(2^62)<=hi)(h4:hi<2^62)
  (q:R (Itr lo (hi-lo).toNat) H):wpAny (model X.prog X.w) X.A (pyIter (.ref s.heap.objs.size)) (PIE X pins σ tg R) E {s with heap:=s.heap.push {cls:=.type "range",data:=.fields #[.int lo t,.int hi u,.int 1 v]},toks:=tk}:=by
 refine wpAny_pyIter_range (IsRange.new ..) (small_one h1 h2 h3 h4) ?_
 have I1:Inv X pins σ H {s with heap:=s.heap.push {cls:=.type "range",data:=.fields #[.int lo t,.int hi u,.int 1 v]},toks:=tk}:=I.kept fun b o e=>Heap.get?_push_of_some _ e
 refine⟨(s.heap.push {cls:=.type "range",data:=.fields #[.int lo t,.int hi u,.int 1 v]}).objs.size,[(s.heap.push {cls:=.type "range",data:=.fields #[.int lo t,.int hi u,.int 1 v]}).objs.size],_,_,H,rfl,
  I1.kept (t':=tk) fun b o e=>Heap.get?_push_of_some _ e,zdY _ lo (hi-lo).toNat, ?_,fun b hb=> ?_,q⟩
 ·have e1:lo+((0:Nat):Int)*1=lo:=by simp
  have e2:(((hi-lo).toNat:Nat):Int)-((0:Nat):Int)=Builtin.Range.rangeSize lo hi 1:=by rw[rangeSize_one];split<;>(first|lia|omega)
  show IsRangeIter _ _ (lo+((0:Nat):Int)*1) ((((hi-lo).toNat:Nat):Int)-((0:Nat):Int)) 1
  rw[e1,e2]
  exact Heap.get?_push_size _ rfl
 ·have e:b=(s.heap.push {cls:=.type "range",data:=.fields #[.int lo t,.int hi u,.int 1 v]}).objs.size:=by simpa using hb
  subst e
  exact I1.fpOk (Nat.le_refl _) (I1.hok.fresh (Nat.le_refl _))
noncomputable def zl0 (ta:TA):TI:=fun σ H R=>ta σ H fun vs H1=>∃j:Int,vs=[.int j]/\-(2^62)<=j/\j<2^62/\R (Itr 0 j.toNat) H1
noncomputable def zl1 (ta:TA):TI:=fun σ H R=>ta σ H fun vs H1=>∃i j:Int,vs=[.int i,.int j]/\(-(2^62)<=i/\i<2^62/\-(2^62)<=j/\j<2^62)/\R (Itr i (j-i).toNat) H1
theorem zaB {a:Expr}{ta:TA}{p pos:Pos}(hg:Gl X "range")(hm:X.mg "range" =none)(ha:PA X [a] ta)(hs:starEach [a] X.env=[(false,eval a X.env)]:=by rfl):PI X tg (.Call (.Name "range" p) [a] [] pos) (zl0 ta):=by
 intro pins s σ H R I h
 refine Call_ (zda I hg hm boot_range (PyProof.Rows.callWith_type1 (thn (ha pos pins s σ H _ I h) fun us s1 zq=> ?_) hs rfl))
 obtain⟨vs,H1,I1,r1,q1⟩:=zq
 obtain⟨j,e,q1,q2,q⟩:=q1
 subst e
 cases r1 with
 |cons r rr=>
  cases rr
  obtain⟨t,rfl⟩:=r
  exact call_range_1 (zgd I1 (by (first|lia|omega)) (by (first|lia|omega)) q1 q2 (by simpa using q))
theorem zdc {a b:Expr}{ta:TA}{p pos:Pos}(hg:Gl X "range")(hm:X.mg "range" =none)(ha:PA X [a,b] ta)(hs:starEach [a,b] X.env=[(false,eval a X.env),(false,eval b X.env)]:=by rfl)(hs2:starEach [b] X.env=[(false,eval b X.env)]:=by rfl):
  PI X tg (.Call (.Name "range" p) [a,b] [] pos) (zl1 ta):=by
 intro pins s σ H R I h
 refine Call_ (zda I hg hm boot_range (PyProof.Rows.callWith_type1 (thn (ha pos pins s σ H _ I h) fun us s1 zq=> ?_) (by rw[hs,hs2]) (by rw[hs2];rfl)))
 obtain⟨vs,H1,I1,r1,q1⟩:=zq
 obtain⟨i,j,e,⟨q1,q2,q3,q4⟩,q⟩:=q1
 subst e
 cases r1 with
 | cons r rr=>
  cases rr with
  |cons r' rr=>
   cases rr
   obtain⟨t,rfl⟩:=r
   obtain⟨t',rfl⟩:=r'
   exact call_range_2 (zgd I1 q1 q2 q3 q4 q)
noncomputable def tFor (wi:TI)(g:TG)(tb:TS):TS:=fun D σ H=>wi σ H fun J H1=>∃W:Nat->Nat->St->Hp->Prop,(∃m,W 0 m σ H1)/\∀i m σ H,W i m σ H->
 (J.stop i H/\D.nx σ H)∨(J.go i H/\∃N:St->Hp->Prop,(∀σ' H',N σ' H'->∃m',m'<m/\W (i+1) m' σ' H')/\∀x H',J.yld i H x H'->g x σ H' fun σ2 H2=>tb {D with nx:=N,ct:=N,bk:=D.nx} σ2 H2)
noncomputable def zeO (fp:List Addr)(h:Heap):List (Addr×Obj):=fp.filterMap fun b=>(h.get? b).map fun o=>(b,o)
theorem zb4 {fp:List Addr}{h:Heap}{b:Addr}{o:Obj}(hb:b∈fp)(e:h.get? b=some o):(b,o)∈zeO fp h:=List.mem_filterMap.mpr ⟨b,hb,by rw[e];rfl⟩
theorem zho {fp:List Addr}{h:Heap}{p:Addr×Obj}(hp:p∈zeO fp h):p.1∈fp/\h.get? p.1=some p.2:=by
 obtain⟨b,hb,e⟩:=List.mem_filterMap.mp hp
 cases q:h.get? b with
 |none=>rw[q] at e;cases e
 |some o=>
  rw[q] at e
  have e':(b,o)=p:=Option.some.inj e
  subst e'
  exact⟨hb,q⟩
theorem Inv.pinned {pins:List (Addr×Obj)}{σ:St}{H:Hp}{s:Shared}{fp:List Addr}(I:Inv X pins σ H s)(hf:∀b∈fp,FpOk X pins H b)(ho:∀b∈fp,∃o,s.heap.get? b=some o/\∀v,o.data≠.cell v):Inv X (pins++zeO fp s.heap) σ H s:=
 I.pins_of fun p hp=>(List.mem_append.mp hp).elim (fun z=>I.pin p (List.mem_append_right _ z)) fun z=>by
  obtain⟨hb,e⟩:=zho z
  obtain⟨f0,f1,f2,_⟩:=hf p.1 hb
  obtain⟨o,e',d⟩:=ho p.1 hb
  rw[e] at e';cases e'
  exact⟨e,f0,f1,f2,d⟩
theorem Inv.unpinned {pins pl:List (Addr×Obj)}{σ:St}{H:Hp}{s:Shared}(I:Inv X (pins++pl) σ H s):Inv X pins σ H s:=I.pins_of fun p hp=>I.pin p (List.mem_append_right _ (List.mem_append_left _ hp))
theorem zaR {iter:Expr}{body:List Stmt}{wi:TI}{g:TG}{tb:TS}{pos:Pos}(hp:PassesOwn (model X.prog X.w) X.A X.env X.xe)(hc:X.calm=true)(hi:PI X tg iter wi)(hg:PG X tg g)(hb:PSs X body tb)
  (hs:∀x,foldedSetIterable iter X.env x=pure x:=by intro _;rfl):PS X (.For tg iter body [] pos) (tFor wi g tb):=by
 intro pins s σ H D I h
 refine wpAny_For (thn (hi pins s σ H _ I h) fun v s1 h1=>thn h1 fun itv s2 h2=> ?_) hs
 obtain⟨it,fp,tn,J,H2,e,I2,T,st2,f2,W,⟨m0,w0⟩,turn⟩:=h2
 subst e
 have stat:∀{H':Hp},(∀b∈fp,H' b=none)->∀b∈fp,FpOk X pins H' b:=fun hn b hb=>⟨hn b hb,(f2 b hb).2⟩
 refine codeAny_forLoop_any (fun n s'=>∃i σ' H',Inv X pins σ' H' s'/\tn i s'.heap/\(∀b∈fp,H' b=none)/\W i n σ' H') ?_ m0 ⟨0,σ,H2,I2,st2,fun b hb=>(f2 b hb).1,w0⟩
 rintro n s3 ⟨i,σ3,H3,I3,st3,fr3,w3⟩
 rcases turn i n σ3 H3 w3 with⟨stop,qn⟩|⟨go,N,hN,step⟩
 ·refine wpAny_passesOwn hp (thn (T.done X rfl rfl rfl hc i pins s3 σ3 H3 X.xe I3 (stat fr3) st3 stop) fun r s4 zq=> ?_)
  obtain⟨hr,I4⟩:=zq
  subst hr
  exact wpAny_execs_nil ⟨σ3,H3,I4,qn⟩
 ·refine wpAny_passesOwn hp (thn (T.item X rfl rfl rfl hc i pins s3 σ3 H3 X.xe I3 (stat fr3) st3 go) fun r s4 zq=> ?_)
  obtain⟨u,hr,h4⟩:=zq
  subst hr
  refine wpAny_passesOwn hp (thn h4 fun _ s5 zq=> ?_)
  obtain⟨x,H5,I5,r5,y5,st5,fr5⟩:=zq
  have I5':=I5.pinned (stat fr5) (T.obj _ _ st5)
  refine wpAny_passesOwn hp (thn (hg _ s5 σ3 H5 x u _ I5' r5 (step x H5 y5)) fun _ s6 zq=> ?_)
  obtain⟨σ6,H6,I6,q6⟩:=zq
  refine wpAny_passesOwn hp (thn (hb _ s6 σ6 H6 _ I6 q6) fun f s7 q7=> ?_)
  have again:∀{σ7:St} {H7:Hp},Inv X (pins++zeO fp s5.heap) σ7 H7 s7->N σ7 H7->∃m,m<n/\∃i σ' H',Inv X pins σ' H' s7/\tn i s7.heap/\(∀b∈fp,H' b=none)/\W i m σ' H':=fun {σ7 H7} I7 n7=>by
   obtain⟨m',hm,w7⟩:=hN σ7 H7 n7
   refine⟨m',hm,i+1,σ7,H7,I7.unpinned,T.keep _ _ _ st5 fun b hb o e=>(I7.pin (b,o) (List.mem_append_right _ (List.mem_append_right _ (zb4 hb e)))).1,fun b hb=> ?_,w7⟩
   obtain⟨o,e,d⟩:=T.obj _ _ st5 b hb
   exact (I7.pin (b,o) (List.mem_append_right _ (List.mem_append_right _ (zb4 hb e)))).2.1
  cases f with
  |next=>obtain⟨σ7,H7,I7,n7⟩:=q7;exact again I7 n7
  |cont=>obtain⟨σ7,H7,I7,n7⟩:=q7;exact again I7 n7
  |brk=>obtain⟨σ7,H7,I7,q7⟩:=q7;exact⟨σ7,H7,I7.unpinned,q7⟩
  |ret v=>obtain⟨x7,σ7,H7,I7,r7,q7⟩:=q7;exact⟨x7,σ7,H7,I7.unpinned,r7,q7⟩
end
theorem zec {K:PySem.W.Frag}{a:Addr}{xs:List V}{g:TG}{tb:TS}{D:Ends}{σ:St}{H:Hp}(Pv:Nat->St->Hp->Prop)(h0:Pv 0 σ H)(hl:∀i σ H,i<=xs.length->Pv i σ H->SqL K H a xs)
  (hs:∀i x σ H,xs[i]? =some x->Pv i σ H->g x σ H fun σ2 H2=>tb {D with nx:=Pv (i+1),ct:=Pv (i+1),bk:=D.nx} σ2 H2) (hd:∀σ H,Pv xs.length σ H->D.nx σ H):
  ∃W:Nat->Nat->St->Hp->Prop,(∃m,W 0 m σ H)/\∀i m σ H,W i m σ H->
   ((Itl K a).stop i H/\D.nx σ H)∨((Itl K a).go i H/\∃N:St->Hp->Prop,(∀σ' H',N σ' H'->∃m',m'<m/\W (i+1) m' σ' H')/\∀x H',(Itl K a).yld i H x H'->g x σ H' fun σ2 H2=>tb {D with nx:=N,ct:=N,bk:=D.nx} σ2 H2):=by
 refine⟨fun i m σ H=>m=xs.length-i/\i<=xs.length/\Pv i σ H,⟨xs.length,by simp,Nat.zero_le _,h0⟩, ?_⟩
 rintro i m σ H ⟨rfl,hi,p⟩
 have q:=hl i σ H hi p
 by_cases hlt:i<xs.length
 ·refine .inr ⟨⟨xs,xs[i],q,by simp[hlt]⟩,Pv (i+1),fun σ' H' p'=>⟨xs.length-(i+1),by (first|lia|omega),rfl,hlt,p'⟩,fun x H' y=> ?_⟩
  obtain⟨e,y⟩:=y
  subst e
  exact hs i x σ _ (y xs q) p
 ·have e:i=xs.length:=by (first|lia|omega)
  subst e
  exact .inl ⟨⟨xs,q,Nat.le_refl _⟩,hd σ H p⟩
theorem zj3 {K:PySem.W.Frag}{a:Addr}{xs:List V}{g:TG}{tb:TS}{D:Ends}{σ:St}{H:Hp}(Pv:Nat->St->Hp->Prop)(h0:Pv 0 σ H)(hl:∀i σ H,i<=xs.length->Pv i σ H->SqT K H a xs)
  (hs:∀i x σ H,xs[i]? =some x->Pv i σ H->g x σ H fun σ2 H2=>tb {D with nx:=Pv (i+1),ct:=Pv (i+1),bk:=D.nx} σ2 H2) (hd:∀σ H,Pv xs.length σ H->D.nx σ H):
  ∃W:Nat->Nat->St->Hp->Prop,(∃m,W 0 m σ H)/\∀i m σ H,W i m σ H->
   ((Itt K a).stop i H/\D.nx σ H)∨((Itt K a).go i H/\∃N:St->Hp->Prop,(∀σ' H',N σ' H'->∃m',m'<m/\W (i+1) m' σ' H')/\∀x H',(Itt K a).yld i H x H'->g x σ H' fun σ2 H2=>tb {D with nx:=N,ct:=N,bk:=D.nx} σ2 H2):=by
 refine⟨fun i m σ H=>m=xs.length-i/\i<=xs.length/\Pv i σ H,⟨xs.length,by simp,Nat.zero_le _,h0⟩, ?_⟩
 rintro i m σ H ⟨rfl,hi,p⟩
 have q:=hl i σ H hi p
 by_cases hlt:i<xs.length
 ·refine .inr ⟨⟨xs,xs[i],q,by simp[hlt]⟩,Pv (i+1),fun σ' H' p'=>⟨xs.length-(i+1),by (first|lia|omega),rfl,hlt,p'⟩,fun x H' y=> ?_⟩
  obtain⟨e,y⟩:=y
  subst e
  exact hs i x σ _ (y xs q) p
 ·have e:i=xs.length:=by (first|lia|omega)
  subst e
  exact .inl ⟨⟨xs,q,Nat.le_refl _⟩,hd σ H p⟩
theorem zaI {lo:Int}{n:Nat}{g:TG}{tb:TS}{D:Ends}{σ:St}{H:Hp}(Pv:Nat->St->Hp->Prop)(h0:Pv 0 σ H)
  (hs:∀i σ H,i<n->Pv i σ H->g (.int (lo+i)) σ H fun σ2 H2=>tb {D with nx:=Pv (i+1),ct:=Pv (i+1),bk:=D.nx} σ2 H2) (hd:∀σ H,Pv n σ H->D.nx σ H):
  ∃W:Nat->Nat->St->Hp->Prop,(∃m,W 0 m σ H)/\∀i m σ H,W i m σ H->
   ((Itr lo n).stop i H/\D.nx σ H)∨((Itr lo n).go i H/\∃N:St->Hp->Prop,(∀σ' H',N σ' H'->∃m',m'<m/\W (i+1) m' σ' H')/\∀x H',(Itr lo n).yld i H x H'->g x σ H' fun σ2 H2=>tb {D with nx:=N,ct:=N,bk:=D.nx} σ2 H2):=by
 refine⟨fun i m σ H=>m=n-i/\i<=n/\Pv i σ H,⟨n,by simp,Nat.zero_le _,h0⟩, ?_⟩
 rintro i m σ H ⟨rfl,hi,p⟩
 by_cases hlt:i<n
 ·refine .inr ⟨hlt,Pv (i+1),fun σ' H' p'=>⟨n-(i+1),by (first|lia|omega),rfl,hlt,p'⟩,fun x H' y=> ?_⟩
  obtain⟨e,y⟩:=y
  subst e y
  exact hs i σ _ hlt p
 ·have e:i=n:=by (first|lia|omega)
  subst e
  exact .inl ⟨Nat.le_refl _,hd σ H p⟩
noncomputable abbrev R2:=V->V->Hp->VK->Prop
noncomputable def OpR (X:Cx)(f:Value->Value->Sem Value)(r:R2):Prop:=
 ∀(pins:List (Addr×Obj)) (s:Shared) (σ:St) (H:Hp) (x y:V) (v u:Value) (Q:VK),Inv X pins σ H s->RelV x v->RelV y u->r x y H Q->
  wpAny (model X.prog X.w) X.A (f v u) (EP X pins σ Q) X.xe s
noncomputable def UnR (X:Cx)(f:Value->Sem Value)(r:V->Hp->VK->Prop):Prop:=
 ∀(pins:List (Addr×Obj)) (s:Shared) (σ:St) (H:Hp) (x:V) (v:Value) (Q:VK),Inv X pins σ H s->RelV x v->r x H Q->
  wpAny (model X.prog X.w) X.A (f v) (EP X pins σ Q) X.xe s
noncomputable def zbF (X:Cx)(f:Value)(r:List V->Hp->VK->Prop):Prop:=
 ∀(pins:List (Addr×Obj)) (s:Shared) (σ:St) (H:Hp) (xs:List V) (us:List Value) (Q:VK),Inv X pins σ H s->Vals xs us->r xs H Q->
  wpAny (model X.prog X.w) X.A (call f us) (EP X pins σ Q) X.xe s
noncomputable def TruR (X:Cx)(r:V->Hp->(Bool->Hp->Prop)->Prop):Prop:=
 ∀(pins:List (Addr×Obj)) (s:Shared) (σ:St) (H:Hp) (x:V) (v:Value) (Q:Bool->Hp->Prop),Inv X pins σ H s->RelV x v->r x H Q->
  wpAny (model X.prog X.w) X.A (truthy v) (TP X pins σ Q) X.xe s
noncomputable def tOp (r:R2)(ta tb:TE):TE:=fun σ H Q=>ta σ H fun x H1=>tb σ H1 fun y H2=>r x y H2 Q
noncomputable def tUn (r:V->Hp->VK->Prop)(ta:TE):TE:=fun σ H Q=>ta σ H fun x H1=>r x H1 Q
noncomputable def rI (C:Int->Int->Prop)(g:Int->Int->V):R2:=fun x y H Q=>∃i j,x=.int i/\y=.int j/\C i j/\Q (g i j) H
noncomputable def rI0 (g:Int->Int->V):R2:=fun x y H Q=>∃i j,x=.int i/\y=.int j/\Q (g i j) H
noncomputable def rU (g:Int->V):V->Hp->VK->Prop:=fun x H Q=>∃i,x=.int i/\Q (g i) H
section
variable {X:Cx}{a b c:Expr}{ta tb tc:TE}{pos:Pos}
theorem binT (ha:PE X a ta)(hb:PE X b tb){pins:List (Addr×Obj)}{s:Shared}{σ:St}{H:Hp}{R:V->V->Hp->Prop}(I:Inv X pins σ H s)
  (h:ta σ H fun x H1=>tb σ H1 fun y H2=>R x y H2) {Q:Value->Shared->Prop} {f:Value->Value->Sem Value}
  (hf:∀v u s2 x y H2,Inv X pins σ H2 s2->RelV x v->RelV y u->R x y H2->wpAny (model X.prog X.w) X.A (f v u) Q X.xe s2):
  wpAny (model X.prog X.w) X.A (eval a X.env) (fun v s₁=>wpAny (model X.prog X.w) X.A (eval b X.env) (fun u s₂=>wpAny (model X.prog X.w) X.A (f v u) Q X.xe s₂) X.xe s₁) X.xe s:=by
 refine thn (ha pins s σ H _ I h) fun v s1 zq=> ?_
 obtain⟨x,H1,I1,r1,q1⟩:=zq
 refine thn (hb pins s1 σ H1 _ I1 q1) fun u s2 zq=> ?_
 obtain⟨y,H2,I2,r2,q2⟩:=zq
 exact hf v u s2 x y H2 I2 r1 r2 q2
theorem zaj {op:Operator}{r:R2}(ho:OpR X (binaryOp op) r)(ha:PE X a ta)(hb:PE X b tb):PE X (.BinOp a op b pos) (tOp r ta tb):=by
 intro pins s σ H Q I h
 exact wpAny_BinOp (binT ha hb I h fun v u s2 x y H2 I2 rx ry q=>ho pins s2 σ H2 x y v u Q I2 rx ry q)
theorem zl2 {op:UnaryOp}{r:V->Hp->VK->Prop}(ho:UnR X (unaryOp op) r)(ha:PE X a ta):PE X (.UnaryOp op a pos) (tUn r ta):=by
 intro pins s σ H Q I h
 exact UnaryOp_ (thn (ha pins s σ H _ I h) fun v s1 ⟨x,H1,I1,r1,q1⟩=>ho pins s1 σ H1 x v Q I1 r1 q1)
theorem opI {f:Value->Value->Sem Value}{C:Int->Int->Prop}{g:Int->Int->Int}
  (rule:∀(i j:Int) (t u:Tok) (s:Shared) (Q:Value->Shared->Prop) (E:Value->Shared->Prop),C i j->Q (.int (g i j) s.toks) {s with toks:=s.toks+1}->wpAny (model X.prog X.w) X.A (f (.int i t) (.int j u)) Q E s):
  OpR X f (rI C fun i j=>.int (g i j)):=by
 intro pins s σ H x y v u Q I rx ry h
 obtain⟨i,j,rfl,rfl,hc,q⟩:=h
 obtain⟨t,rfl⟩:=rx
 obtain⟨t',rfl⟩:=ry
 exact rule i j t t' s _ _ hc ⟨.int (g i j),H,I.tok _,⟨_,rfl⟩,q⟩
theorem opI0 {f:Value->Value->Sem Value}{g:Int->Int->Int}
  (rule:∀(i j:Int) (t u:Tok) (s:Shared) (Q:Value->Shared->Prop) (E:Value->Shared->Prop),Q (.int (g i j) s.toks) {s with toks:=s.toks+1}->wpAny (model X.prog X.w) X.A (f (.int i t) (.int j u)) Q E s):
  OpR X f (rI0 fun i j=>.int (g i j)):=by
 intro pins s σ H x y v u Q I rx ry h
 obtain⟨i,j,rfl,rfl,q⟩:=h
 obtain⟨t,rfl⟩:=rx
 obtain⟨t',rfl⟩:=ry
 exact rule i j t t' s _ _ ⟨.int (g i j),H,I.tok _,⟨_,rfl⟩,q⟩
theorem opB0 {f:Value->Value->Sem Value}{g:Int->Int->Bool}
  (rule:∀(i j:Int) (t u:Tok) (s:Shared) (Q:Value->Shared->Prop) (E:Value->Shared->Prop),Q (.bool (g i j)) s->wpAny (model X.prog X.w) X.A (f (.int i t) (.int j u)) Q E s):
  OpR X f (rI0 fun i j=>.bl (g i j)):=by
 intro pins s σ H x y v u Q I rx ry h
 obtain⟨i,j,rfl,rfl,q⟩:=h
 obtain⟨t,rfl⟩:=rx
 obtain⟨t',rfl⟩:=ry
 exact rule i j t t' s _ _ ⟨.bl (g i j),H,I,rfl,q⟩
noncomputable def CDiv (i j:Int):Prop:=0<j/\j<1073741824
noncomputable def CPow (i j:Int):Prop:=0<=j/\j<=1000000/\i.natAbs<2^64
noncomputable def CMul (i j:Int):Prop:=(-(2^64)<i/\i<2^64)∨(-(2^64)<j/\j<2^64)
theorem CMul.ok {i j:Int}(h:CMul i j):IntMulOk i j:=by
 rcases h with⟨h1,h2⟩|⟨h1,h2⟩
 ·exact .of_left (intBits_le_64 h1 h2)
 ·exact .of_right (intBits_le_64 h1 h2)
theorem zax:OpR X (binaryOp .Add) (rI0 fun i j=>.int (i+j)):=opI0 fun _ _ _ _ _ _ _ q=>add_int q
theorem zaP:OpR X (binaryOp .Sub) (rI0 fun i j=>.int (i-j)):=opI0 fun _ _ _ _ _ _ _ q=>sub_int q
theorem zaM:OpR X (binaryOp .Mult) (rI CMul fun i j=>.int (i*j)):=opI fun _ _ _ _ _ _ _ hc q=>mul_int q hc.ok
theorem zbT:OpR X (binaryOp .FloorDiv) (rI CDiv fun i j=>.int (i/j)):=opI fun i j _ _ _ _ _ hc q=>by
 have h1:(0:Int)<j:=hc.1
 have h2:j<1073741824:=hc.2
 exact floordiv_int (by (first|lia|omega)) (by rw[Int.fdiv_eq_ediv_of_nonneg i (by (first|lia|omega))];exact q) (.inl (PyProof.noPylong_small (by (first|lia|omega))))
theorem zcl:OpR X (binaryOp .Mod) (rI (fun _ j=>0<j) fun i j=>.int (i%j)):=opI fun i j _ _ _ _ _ hc q=>by
 have h1:(0:Int)<j:=hc
 exact mod_int' (by (first|lia|omega)) (by rw[Int.fmod_eq_emod_of_nonneg i (by (first|lia|omega))];exact q)
theorem zjD:OpR X (binaryOp .Pow) (rI CPow fun i j=>.int (i^j.toNat)):=opI fun _ _ _ _ _ _ _ hc q=>pow_int_small hc.1 hc.2.1 hc.2.2 q
theorem unI {f:Value->Sem Value}{g:Int->Int}
  (rule:∀(i:Int) (t:Tok) (s:Shared) (Q:Value->Shared->Prop) (E:Value->Shared->Prop),Q (.int (g i) s.toks) {s with toks:=s.toks+1}->wpAny (model X.prog X.w) X.A (f (.int i t)) Q E s):
  UnR X f (rU fun i=>.int (g i)):=by
 intro pins s σ H x v Q I rx h
 obtain⟨i,rfl,q⟩:=h
 obtain⟨t,rfl⟩:=rx
 exact rule i t s _ _ ⟨.int (g i),H,I.tok _,⟨_,rfl⟩,q⟩
theorem zk3:UnR X (unaryOp .USub) (rU fun i=>.int (-i)):=unI fun _ _ _ _ _ q=>neg_int q
end
noncomputable def scal:V->V->Bool
 | .non,.non=>true| .non,.int _=>true| .int _,.non=>true| .non,.bl _=>true| .bl _,.non=>true| .non,.str _=>true| .str _,.non=>true
 | .int _,.int _=>true| .bl _,.bl _=>true| .str _,.str _=>true| .byt _,.byt _=>true
 | .int _,.str _=>true| .str _,.int _=>true| .bl _,.str _=>true| .str _,.bl _=>true
 |_,_=>false
noncomputable def rEq:R2:=fun x y H Q=>scal x y=true/\Q (.bl (decide (x=y))) H
noncomputable def rNe:R2:=fun x y H Q=>scal x y=true/\Q (.bl (!decide (x=y))) H
theorem zhp {i j:Int}:decide (V.int i=V.int j)=(i==j):=by
 rw[Bool.eq_iff_iff]
 simp
theorem zjE {i j:Bool}:decide (V.bl i=V.bl j)=(i==j):=by
 rw[Bool.eq_iff_iff]
 simp
theorem zhq {i j:Str}:decide (V.str i=V.str j)=(i==j):=by
 rw[Bool.eq_iff_iff]
 simp
theorem zhr {i j:Array UInt8}:decide (V.byt i=V.byt j)=(i.toList==j.toList):=by
 rw[Bool.eq_iff_iff]
 cases i
 cases j
 simp
section
variable {X:Cx}{a b c:Expr}{ta tb tc:TE}{pos:Pos}
theorem zaC {pins:List (Addr×Obj)}{σ:St}{H:Hp}{s:Shared}{Q:VK}{k k':Bool}(I:Inv X pins σ H s)(q:Q (.bl k) H)(e:k=k'):EP X pins σ Q (.bool k') s:=by
 subst e
 exact⟨.bl k,H,I,rfl,q⟩
theorem zcT:OpR X (compareOp .Eq) rEq:=by
 intro pins s σ H x y v u Q I rx ry h
 obtain⟨hs,q⟩:=h
 cases x with
 |non=>
  cases rx
  cases y with
  |non=>cases ry;exact PySem.EqNone.eq_none_none (zaC I q (by simp))
  |bl j=>cases ry;exact PySem.EqNone.eq_none_bool (zaC I q (by simp))
  |int j=>obtain⟨t',rfl⟩:=ry;exact PySem.EqNone.eq_none_int (zaC I q (by simp))
  |str j=>obtain⟨t',rfl⟩:=ry;exact PySem.EqNone.eq_none_str (zaC I q (by simp))
  |_=>exact absurd (show false=true from hs) Bool.false_ne_true
 |bl i=>
  cases rx
  cases y with
  |non=>cases ry;exact PySem.EqNone.eq_bool_none (zaC I q (by simp))
  |bl j=>cases ry;exact eq_bool (zaC I q zjE)
  |str j=>obtain⟨t',rfl⟩:=ry;exact PySem.EqMixed.eq_bool_str (zaC I q (by simp))
  |_=>exact absurd (show false=true from hs) Bool.false_ne_true
 |int i=>
  obtain⟨t,rfl⟩:=rx
  cases y with
  |non=>cases ry;exact PySem.EqNone.eq_int_none (zaC I q (by simp))
  |int j=>obtain⟨t',rfl⟩:=ry;exact eq_int (zaC I q zhp)
  |str j=>obtain⟨t',rfl⟩:=ry;exact PySem.EqMixed.eq_int_str (zaC I q (by simp))
  |_=>exact absurd (show false=true from hs) Bool.false_ne_true
 |str i=>
  obtain⟨t,rfl⟩:=rx
  cases y with
  |non=>cases ry;exact PySem.EqNone.eq_str_none (zaC I q (by simp))
  |bl j=>cases ry;exact PySem.EqMixed.eq_str_bool (zaC I q (by simp))
  |int j=>obtain⟨t',rfl⟩:=ry;exact PySem.EqMixed.eq_str_int (zaC I q (by simp))
  |str j=>obtain⟨t',rfl⟩:=ry;exact eq_str (zaC I q zhq)
  |_=>exact absurd (show false=true from hs) Bool.false_ne_true
 |byt i=>
  obtain⟨t,rfl⟩:=rx
  cases y with
  |byt j=>obtain⟨t',rfl⟩:=ry;exact PySem.W.eq_bytes (zaC I q zhr)
  |_=>exact absurd (show false=true from hs) Bool.false_ne_true
 |_=>cases y<;>exact absurd (show false=true from hs) Bool.false_ne_true
theorem zhs:OpR X (compareOp .NotEq) rNe:=by
 intro pins s σ H x y v u Q I rx ry h
 obtain⟨hs,q⟩:=h
 cases x with
 |non=>
  cases rx
  cases y with
  |non=>cases ry;exact PySem.EqNone.ne_none_none (zaC I q (by simp))
  |bl j=>cases ry;exact PySem.EqNone.ne_none_bool (zaC I q (by simp))
  |int j=>obtain⟨t',rfl⟩:=ry;exact PySem.EqNone.ne_none_int (zaC I q (by simp))
  |str j=>obtain⟨t',rfl⟩:=ry;exact PySem.EqNone.ne_none_str (zaC I q (by simp))
  |_=>exact absurd (show false=true from hs) Bool.false_ne_true
 |bl i=>
  cases rx
  cases y with
  |non=>cases ry;exact PySem.EqNone.ne_bool_none (zaC I q (by simp))
  |bl j=>cases ry;exact ne_bool (zaC I q (congrArg not zjE))
  |str j=>obtain⟨t',rfl⟩:=ry;exact PySem.EqMixed.ne_bool_str (zaC I q (by simp))
  |_=>exact absurd (show false=true from hs) Bool.false_ne_true
 |int i=>
  obtain⟨t,rfl⟩:=rx
  cases y with
  |non=>cases ry;exact PySem.EqNone.ne_int_none (zaC I q (by simp))
  |int j=>obtain⟨t',rfl⟩:=ry;exact ne_int (zaC I q (congrArg not zhp))
  |str j=>obtain⟨t',rfl⟩:=ry;exact PySem.EqMixed.ne_int_str (zaC I q (by simp))
  |_=>exact absurd (show false=true from hs) Bool.false_ne_true
 |str i=>
  obtain⟨t,rfl⟩:=rx
  cases y with
  |non=>cases ry;exact PySem.EqNone.ne_str_none (zaC I q (by simp))
  |bl j=>cases ry;exact PySem.EqMixed.ne_str_bool (zaC I q (by simp))
  |int j=>obtain⟨t',rfl⟩:=ry;exact PySem.EqMixed.ne_str_int (zaC I q (by simp))
  |str j=>obtain⟨t',rfl⟩:=ry;exact ne_str (zaC I q (congrArg not zhq))
  |_=>exact absurd (show false=true from hs) Bool.false_ne_true
 |byt i=>
  obtain⟨t,rfl⟩:=rx
  cases y with
  |byt j=>obtain⟨t',rfl⟩:=ry;exact PySem.W.ne_bytes (zaC I q (congrArg not zhr))
  |_=>exact absurd (show false=true from hs) Bool.false_ne_true
 |_=>cases y<;>exact absurd (show false=true from hs) Bool.false_ne_true
theorem zed:OpR X (compareOp .Lt) (rI0 fun i j=>.bl (decide (i<j))):=opB0 fun _ _ _ _ _ _ _ q=>lt_int q
theorem ziH:OpR X (compareOp .LtE) (rI0 fun i j=>.bl (decide (i<=j))):=opB0 fun _ _ _ _ _ _ _ q=>le_int q
theorem zee:OpR X (compareOp .Gt) (rI0 fun i j=>.bl (decide (j<i))):=opB0 fun _ _ _ _ _ _ _ q=>gt_int q
theorem zk4:OpR X (compareOp .GtE) (rI0 fun i j=>.bl (decide (j<=i))):=opB0 fun _ _ _ _ _ _ _ q=>ge_int q
theorem zau (b:Expr){op:CmpOp}(h:op≠.In:=by decide)(h2:op≠.NotIn:=by decide):behindInMarks op b=false:=by
 have e1:(op==CmpOp.In)=false:=by cases op<;>first|rfl|exact absurd rfl h
 have e2:(op==CmpOp.NotIn)=false:=by cases op<;>first|rfl|exact absurd rfl h2
 cases b<;>simp[behindInMarks,e1,e2]
theorem zbG {op:CmpOp}{r:R2}(ho:OpR X (compareOp op) r)(ha:PE X a ta)(hb:PE X b tb)(hm:behindInMarks op b=false):PE X (.Compare a [op] [b] pos) (tOp r ta tb):=by
 intro pins s σ H Q I h
 exact wpAny_Compare1 (binT ha hb I h fun v u s2 x y H2 I2 rx ry q=>ho pins s2 σ H2 x y v u Q I2 rx ry q) hm
noncomputable def zk5 (t:TE):TT:=fun σ H Q=>t σ H fun x H'=>∃k,x=.bl k/\Q k H'
theorem zar {op:CmpOp}{r:R2}(ho:OpR X (compareOp op) r)(ha:PE X a ta)(hb:PE X b tb)(hm:behindInMarks op b=false):PT X (.Compare a [op] [b] pos) (zk5 (tOp r ta tb)):=by
 intro pins s σ H Q I h
 refine wpAny_isTrue_Compare1 (thn (ha pins s σ H _ I h) fun v s1 ⟨x,H1,I1,r1,q1⟩=>thn (hb pins s1 σ H1 _ I1 q1) fun u s2 ⟨y,H2,I2,r2,q2⟩=>
  thn (ho pins s2 σ H2 x y v u _ I2 r1 r2 q2) fun c s3 ⟨z,H3,I3,r3,k,e,q3⟩=> ?_) hm
 subst e
 cases r3
 exact wpAny_truthy_bool ⟨H3,I3,q3⟩
noncomputable def zk6 (r r':R2)(ta tb tc:TE):TE:=fun σ H Q=>ta σ H fun x H1=>tb σ H1 fun y H2=>r x y H2 fun z H3=>∃k,z=.bl k/\
 (if k=true then tc σ H3 fun w' H4=>r' y w' H4 Q else Q (.bl false) H3)
theorem zge {op op':CmpOp}{r r':R2}(ho:OpR X (compareOp op) r)(ho':OpR X (compareOp op') r')(ha:PE X a ta)(hb:PE X b tb)(hc:PE X c tc)
  (hm:lastMarks [op,op'] [b,c]=false:=by with_unfolding_all rfl):PT X (.Compare a [op,op'] [b,c] pos) (zk5 (zk6 r r' ta tb tc)):=by
 intro pins s σ H Q I h
 refine isTrue_chain (thn (ha pins s σ H _ I h) fun v s1 ⟨x,H1,I1,r1,q1⟩=>test_link (thn (hb pins s1 σ H1 _ I1 q1) fun u s2 ⟨y,H2,I2,r2,q2⟩=>
  thn (ho pins s2 σ H2 x y v u _ I2 r1 r2 q2) fun d s3 ⟨z,H3,I3,r3,k,e,q3⟩=> ?_)) hm
 subst e
 cases r3
 refine wpAny_truthy_bool ?_
 cases k with
 |false=>
  obtain⟨k',e',q'⟩:=q3
  cases e'
  exact ite_ff ⟨H3,I3,q'⟩
 |true=>
  refine ite_tt (test_last (thn (hc pins s3 σ H3 _ I3 q3) fun w' s4 ⟨z',H4,I4,r4,q4⟩=>thn (ho' pins s4 σ H4 y z' u w' _ I4 r2 r4 q4) fun d' s5 ⟨z2,H5,I5,r5,k2,e2,q5⟩=> ?_))
  subst e2
  cases r5
  exact wpAny_truthy_bool ⟨H5,I5,q5⟩
noncomputable def TruV (K:PySem.W.Frag)(x:V)(H:Hp)(k:Bool):Prop:=
 match x with
 | .non=>k=false
 | .bl b=>k=b
 | .int i=>k=(i != 0)
 | .str y=>y.length<=sizeLine/\k=((y.length:Int) != 0)
 | .byt y=>y.size<=sizeLine/\k=((y.size:Int) != 0)
 | .ref p=>(∃xs,SqL K H p xs/\k= !xs.isEmpty)∨(∃xs,SqT K H p xs/\k= !xs.isEmpty)∨∃kvs,H p=some (.dK kvs)/\k= !kvs.isEmpty
 |_=>False
theorem zgO {κ:Type}{kvs:List (κ×V)}{vs:List (κ×Value)}(r:KV kvs vs):(!vs.isEmpty)= !kvs.isEmpty:=by
 cases r<;>rfl
theorem zdZ {xs:List V}{its:List Value}(r:Vals xs its):(!its.toArray.isEmpty)= !xs.isEmpty:=by
 cases r<;>simp
theorem zd0:(sizeLine:Nat)<2^63:=by rw[sizeLine_eq];decide
theorem zk7:TruR X (fun x H Q=>∃k,TruV X.K x H k/\Q k H):=by
 intro pins s σ H x v Q I rx h
 obtain⟨k,e,q⟩:=h
 have hl:=zd0
 have hs:sizeLine=16777216:=sizeLine_eq
 cases x with
 |non=>
  cases rx
  have e':k=false:=e
  subst e'
  exact truthy_none ⟨H,I,q⟩
 |bl b=>
  cases rx
  have e':k=b:=e
  subst e'
  exact wpAny_truthy_bool ⟨H,I,q⟩
 |int i=>
  obtain⟨t,rfl⟩:=rx
  have e':k=(i != 0):=e
  subst e'
  exact PySem.P.truthy_int ⟨H,I,q⟩
 |str y=>
  obtain⟨t,rfl⟩:=rx
  obtain⟨hy,e'⟩:y.length<=sizeLine/\k=((y.length:Int) != 0):=e
  subst e'
  exact PySem.P.truthy_str (by (first|lia|omega)) ⟨H,I.tok _,q⟩
 |byt y=>
  obtain⟨t,rfl⟩:=rx
  obtain⟨hy,e'⟩:y.size<=sizeLine/\k=((y.size:Int) != 0):=e
  subst e'
  exact PySem.W.truthy_bytes (by (first|lia|omega)) ⟨H,I.tok _,q⟩
 | ref p=>
  cases rx
  have e':(∃xs,SqL X.K H p xs/\k= !xs.isEmpty)∨(∃xs,SqT X.K H p xs/\k= !xs.isEmpty)∨∃kvs,H p=some (.dK kvs)/\k= !kvs.isEmpty:=e
  rcases e' with⟨xs,hx,e'⟩|⟨xs,hx,e'⟩|⟨kvs,hx,e'⟩
  ·subst e'
   obtain⟨its,r,pl,hz⟩:=I.list hx
   have hlen:=r.length
   exact wpAny_truthy_list pl.isList (by simp only[List.size_toArray];(first|lia|omega)) ⟨H,I.tok _,by rw[zdZ r];exact q⟩
  ·subst e'
   obtain⟨its,r,pl,hz⟩:=I.tuple hx
   have hlen:=r.length
   exact truthy_tuple pl (by simp only[List.size_toArray];(first|lia|omega)) ⟨H,I.tok _,by rw[zdZ r];exact q⟩
  ·subst e'
   obtain⟨hz,hS,vs,r,m⟩:kvs.length<=sizeLine/\(p==sysModules)=false/\∃vs,KV kvs vs/\s.heap.DictOf (zaD X.prog X.w) p vs:=I.hok p _ hx
   have hlen:kvs.length=vs.length:=Paired.length r
   exact wpAny_truthy_dict hS m (by (first|lia|omega)) ⟨H,I.tok _,by rw[zgO r];exact q⟩
 |_=>exact (show False from e).elim
theorem zef (ha:PE X a ta)(he:∀whole,isTrue a X.env whole=(do let v<-whole;standAt a.pos;holding [v] (truthy v))):
  PT X a (fun σ H Q=>ta σ H fun x H'=>∃k,TruV X.K x H' k/\Q k H'):=by
 intro pins s σ H Q I h
 exact isTrue_plain (thn (ha pins s σ H _ I h) fun v s1 ⟨x,H1,I1,r1,q1⟩=>zk7 pins s1 σ H1 x v Q I1 r1 q1) (he _)
theorem zcC {x:V}{us:List Value}(r:Vals [x] us):∃u,us=[u]/\RelV x u:=by
 cases r with
 |cons r1 r2=>cases r2;exact⟨_,rfl,r1⟩
theorem zht {x y:V}{us:List Value}(r:Vals [x,y] us):∃u w',us=[u,w']/\RelV x u/\RelV y w':=by
 cases r with
 |cons r1 r2=>
  cases r2 with
  |cons r3 r4=>cases r4;exact⟨_,_,rfl,r1,r3⟩
theorem zgf:zbF X (.builtin "abs") (fun xs H Q=>∃i,xs=[.int i]/\Q (.int (if i<0 then-i else i)) H):=by
 intro pins s σ H xs us Q I r h
 obtain⟨i,rfl,q⟩:=h
 obtain⟨u,rfl,t,rfl⟩:=zcC r
 exact call_abs_int fun u tk=>⟨.int (if i<0 then-i else i),H,I.tok _,⟨_,rfl⟩,q⟩
theorem zbB (hc:X.calm=true):zbF X (.builtin "max") (fun xs H Q=>∃i j,xs=[.int i,.int j]/\Q (.int (if j>i then j else i)) H):=by
 intro pins s σ H xs us Q I r h
 obtain⟨i,j,rfl,q⟩:=h
 obtain⟨u,w',rfl,⟨t,rfl⟩,⟨t',rfl⟩⟩:=zht r
 refine max_two_ints (I.ok.hd hc) fun h' tk k=>⟨_,H,I.kept k, ?_,q⟩
 by_cases hj:j>i
 ·rw[if_pos hj,if_pos hj];exact⟨_,rfl⟩
 ·rw[if_neg hj,if_neg hj];exact⟨_,rfl⟩
theorem zhu (hc:X.calm=true):zbF X (.builtin "min") (fun xs H Q=>∃i j,xs=[.int i,.int j]/\Q (.int (if j<i then j else i)) H):=by
 intro pins s σ H xs us Q I r h
 obtain⟨i,j,rfl,q⟩:=h
 obtain⟨u,w',rfl,⟨t,rfl⟩,⟨t',rfl⟩⟩:=zht r
 refine min_two_ints (I.ok.hd hc) fun h' tk k=>⟨_,H,I.kept k, ?_,q⟩
 by_cases hj:j<i
 ·rw[if_pos hj,if_pos hj];exact⟨_,rfl⟩
 ·rw[if_neg hj,if_neg hj];exact⟨_,rfl⟩
theorem zeP:zbF X (.type "int") (fun xs H Q=>(∃i,xs=[.int i]/\Q (.int i) H)∨∃k,xs=[.bl k]/\Q (.int (if k then 1 else 0)) H):=by
 intro pins s σ H xs us Q I r h
 rcases h with⟨i,rfl,q⟩|⟨k,rfl,q⟩
 ·obtain ⟨u,rfl,t,rfl⟩:=zcC r
  exact call_int_int ⟨.int i,H,I,⟨_,rfl⟩,q⟩
 ·obtain ⟨u,rfl,r1⟩:=zcC r
  cases r1
  exact call_int_bool ⟨.int (if k then 1 else 0),H,I.tok _,⟨_,rfl⟩,q⟩
end
structure ObjM (h:Heap) (x dx C:Addr) (mA:Str->Option Value):Prop where
 obj:h.get? x=some (PySem.W.instObj C dx)
 ns:h.Ns1 dx mA
 ne:dx≠x
theorem zhv {h:Heap}{dx:Addr}{mA:Str->Option Value}(n:h.Ns1 dx mA):∃od,h.get? dx=some od/\∀name,PySem.W.lookIn name od=some (mA name):=by
 obtain⟨o,es,ep,ho,hd,hk,_,hm⟩:=n
 refine⟨o,ho,fun name=> ?_⟩
 have e:=hm name
 unfold nsFind findBy at e
 rw[<-Array.find?_toList] at e
 unfold PySem.W.lookIn
 rw[hd]
 dsimp only
 split
 ·rename_i y q
  rw[q] at e
  exact congrArg some e
 ·rename_i q
  rw[q] at e
  have a:es.toList.any (·.refKey)=false:=by
   rw[List.any_eq_false]
   intro y hy
   obtain⟨z,t,hkey⟩:=hk y (Array.mem_toList_iff.mp hy)
   simp[DictEntry.refKey,hkey]
  have a':¬es.toList.any (·.refKey)=true:=by rw[a];exact Bool.false_ne_true
  rw[if_neg a']
  exact congrArg some e
theorem ObjM.look {h:Heap}{x dx C:Addr}{mA:Str->Option Value}(I:ObjM h x dx C mA):∃od,PySem.W.InstAt h x (PySem.W.instObj C dx) C (some od)/\∀name,PySem.W.lookIn name od=some (mA name):=
 let ⟨od,ho,hl⟩:=zhv I.ns
 ⟨od,⟨I.obj,rfl,rfl,ho⟩,hl⟩
section
variable {prog:Program}{w:World}{A:Around}{E:Value->Shared->Prop}{s:Shared}{K:PySem.W.Frag}{x dx C f:Addr}{mA:Str->Option Value}{name:Str}{v:Value}
end
section
variable {P:Program}{w:World}{H H':Hp}{h h':Heap}{a C dx:Addr}{fs fs':List (Str×V)}
theorem zj4 (hok:HOk P w H h)(e:H a=some (.ins C dx fs)):∃mA,ObjM h a dx C mA/\(∀f,RelO (fs.lookup f) (mA f))/\PySem.Within mA (fs.map (·.1))/\fs.length<=1000/\H dx=some (.own a):=by
 obtain⟨d,z,ne,ob,mA,n,r,q⟩:=(show ObjOk P w H h a (.ins C dx fs) from hok a _ e)
 exact⟨mA,⟨ob,n,ne⟩,r,q,z,d⟩
end
structure Cls (K:PySem.W.Frag) (C:Addr):Prop where
 pg:PySem.W.plainGet K C Str.empty=true
 hd:PySem.W.hasDictIn K C=true
 po:PySem.W.plainOver K C=true
 sa:PySem.W.findIn K (.ref C) "__setattr__" =some (some (.builtin "object.__setattr__"))
theorem Cls.get {K:PySem.W.Frag}{C:Addr}(c:Cls K C)(f:Str):PySem.W.plainGet K C f=true:=c.pg
structure Con (K:PySem.W.Frag) (C:Addr) (f:Str) (v:V) (u:Value):Prop where
 at_:PySem.W.findIn K (.ref C) f=some (some u)
 rel:RelV v u
 get:PySem.W.specialIn K u "__get__" =some none
 cp:PySem.W.copiedNames.contains f=false
structure Meth (K:PySem.W.Frag) (C:Addr) (m:Str) (f:Addr):Prop where
 at_:PySem.W.findIn K (.ref C) m=some (some (.ref f))
 fn:PySem.W.isFn K (.ref f)=true
 kp:PySem.W.keepIn K (.ref f)=true
section
variable {X:Cx}{pins:List (Addr×Obj)}{σ:St}{H:Hp}{s:Shared}{a C dx:Addr}{fs:List (Str×V)}{f:Str}{v:V}{A:Around}{E:Value->Shared->Prop}
end
section
variable {X:Cx}{o e value:Expr}{f:Str}{pos pos' tpos:Pos}{ta tv:TE}
end
section
variable {X:Cx}{pins:List (Addr×Obj)}{σ:St}{H:Hp}{s:Shared}{A:Around}{E:Value->Shared->Prop}{Q:Value->Shared->Prop}{c:Value}{b:Bool}
inductive TyOf (K:PySem.W.Frag) (H:Hp):V->Value->Prop where
 |non:TyOf K H .non (.type "NoneType")
 |bl (x:Bool):TyOf K H (.bl x) (.type "bool")
 |int (i:Int):TyOf K H (.int i) (.type "int")
 |str (x:Str):TyOf K H (.str x) (.type "str")
 |flt (x:UInt64):TyOf K H (.flt x) (.type "float")
 |lst {a:Addr} {xs:List V} (e:H a=some (.lst xs)):TyOf K H (.ref a) (.type "list")
 |frz {a:Addr} {o:Obj} {xs:List V} (e:H a=some (.frz o (.lst xs))):TyOf K H (.ref a) (.type "list")
 |tup {a:Addr} {xs:List V} (e:H a=some (.tup xs)):TyOf K H (.ref a) (.type "tuple")
 |dK {a:Addr} {kvs:List (Key×V)} (e:H a=some (.dK kvs)):TyOf K H (.ref a) (.type "dict")
 |dT {a:Addr} {kvs:List (List Key×V)} (e:H a=some (.dT kvs)):TyOf K H (.ref a) (.type "dict")
 | ins {a C dx:Addr} {fs:List (Str×V)} (e:H a=some (.ins C dx fs)) (cl:Cls K C) (ha:PySem.W.findIn K (.ref C) "__class__" =some (some (.builtin "object.__class__")))
   (hn:PySem.W.specialIn K (.builtin "object.__class__") "__get__" =some (some (.builtin "getset_descriptor.__get__"))) (htk:PySem.W.takesIn K (.builtin "object.__class__")=some true)
   (hm:PySem.W.mroIn K C (.type "object")=some true):TyOf K H (.ref a) (.ref C)
theorem zhw {x:V}{u t:Value}(I:Inv X pins σ H s)(rx:RelV x u)(ty:TyOf X.K H x t)(e:PySem.W.kitOne X.K t c=some b)(h:∀tk,Q (.bool b) {s with toks:=tk}):
  wpAny (model X.prog X.w) A (call (.builtin "isinstance") [u,c]) Q E s:=by
 cases ty with
 |non=>cases (show u=Value.none from rx);exact PySem.W.kia_one PySem.W.kitx_none I.kIn True.intro e (fun z=>nomatch z) h
 |bl y=>cases (show u=Value.bool y from rx);exact PySem.W.kia_one PySem.W.kitx_bool I.kIn True.intro e (fun z=>nomatch z) h
 |int i=>obtain⟨t,q⟩:=(show ∃t,u=Value.int i t from rx);cases q;exact PySem.W.kia_one PySem.W.kitx_int I.kIn True.intro e (fun z=>nomatch z) h
 |str y=>obtain⟨t,q⟩:=(show ∃t,u=Value.str y t from rx);cases q;exact PySem.W.kia_one PySem.W.kitx_str I.kIn True.intro e (fun z=>nomatch z) h
 |flt y=>obtain⟨t,q⟩:=(show ∃t,u=Value.float y t from rx);cases q;exact PySem.W.kia_one PySem.W.kitx_float I.kIn True.intro e (fun z=>nomatch z) h
 |@lst a xs ea=>
  cases (show u=Value.ref a from rx)
  obtain⟨_,_,n,_,h1⟩:=(show ObjOk X.prog X.w H s.heap a (.lst xs) from I.hok a _ ea)
  exact PySem.W.kia_one PySem.W.kitx_list I.kIn ⟨_,h1,rfl⟩ e (fun z=>nomatch z) h
 |@frz a ob xs ea=>
  cases (show u=Value.ref a from rx)
  obtain⟨_,_,_,n,_,h1⟩:=(show ObjOk X.prog X.w H s.heap a (.frz ob (.lst xs)) from I.hok a _ ea)
  exact PySem.W.kia_one PySem.W.kitx_list I.kIn ⟨_,h1,rfl⟩ e (fun z=>nomatch z) h
 |@tup a xs ea=>
  cases (show u=Value.ref a from rx)
  obtain⟨_,_,_,p⟩:=(show ObjOk X.prog X.w H s.heap a (.tup xs) from I.hok a _ ea)
  obtain⟨o,h1,h2,_⟩:=p
  exact PySem.W.kia_one PySem.W.kitx_tuple I.kIn ⟨o,h1,h2⟩ e (fun z=>nomatch z) h
 |@dK a kvs ea=>
  cases (show u=Value.ref a from rx)
  obtain⟨_,_,vs,_,p⟩:=(show ObjOk X.prog X.w H s.heap a (.dK kvs) from I.hok a _ ea)
  obtain⟨o,es,ep,h1,h2,_⟩:=p
  exact PySem.W.kia_one PySem.W.kitx_dict I.kIn ⟨o,h1,h2.1⟩ e (fun z=>nomatch z) h
 |@dT a kvs ea=>
  cases (show u=Value.ref a from rx)
  obtain⟨_,_,xs,_,o,es,ep,h1,h2,_⟩:=(show ObjOk X.prog X.w H s.heap a (.dT kvs) from I.hok a _ ea)
  exact PySem.W.kia_one PySem.W.kitx_dict I.kIn ⟨o,h1,h2.1⟩ e (fun z=>nomatch z) h
 |@ins a C dx fs ea cl ha hn htk hm=>
  cases (show u=Value.ref a from rx)
  obtain⟨mA,O,_⟩:=zj4 I.hok ea
  obtain⟨od,J,_⟩:=O.look
  exact PySem.W.kia_one (PySem.W.kitx_own (cl.get _) cl.hd ha hn htk hm) I.kIn J e (fun z=>nomatch z) h
end
structure Room (k:Nat) (A:Around):Prop where
 hd:A.handled=none
 dp:A.depth+3*k+5<recursionLimit
 un:A.units+16*k+200<cLine
 gd:A.guards=some []
theorem Room.mono {j k:Nat}{A:Around}(r:Room k A)(h:j<=k):Room j A:=⟨r.hd,by have:=r.dp;(first|lia|omega),by have:=r.un;(first|lia|omega),r.gd⟩
theorem Room.deeper {k:Nat}{A:Around}(r:Room (k+1) A)(env:Env):Room k (A.deeper env):=
 ⟨r.hd,by have:=r.dp;show A.depth+1+3*k+5<_;(first|lia|omega),by have:=r.un;show A.units+3+16*k+200<_;(first|lia|omega),r.gd⟩
theorem Room.depth {k:Nat}{A:Around}(r:Room k A):A.depth<recursionLimit:=by have:=r.dp;(first|lia|omega)
theorem Room.units {k:Nat}{A:Around}(r:Room k A):A.units+64<cLine:=by have:=r.un;(first|lia|omega)
noncomputable def tNil:TA:=fun _ H Q=>Q [] H
noncomputable def zl3 (ta:TE)(tr:TA):TA:=fun σ H Q=>ta σ H fun x H1=>tr σ H1 fun xs H2=>Q (x::xs) H2
section
variable {X:Cx}{e:Expr}{es:List Expr}{te:TE}{t:TA}{pos:Pos}
theorem zac:PA X [] tNil:=fun _ _ _ _ H Q I h=>Calls.spliced_nil ⟨[],H,I,.nil,h⟩
theorem zaa (ha:PE X e te)(hr:PA X es t)(hs:starEach (e::es) X.env=(false,eval e X.env)::starEach es X.env:=by rfl):PA X (e::es) (zl3 te t):=by
 intro pos pins s σ H Q I h
 rw[hs]
 show wpAny _ _ (spliced ((false,eval e X.env)::backTo pos (starEach es X.env))) _ _ s
 refine Calls.spliced_cons (thn (ha pins s σ H _ I h) fun u s1 zq=> ?_)
 obtain⟨x,H1,I1,r1,q1⟩:=zq
 exact thn (hr pos pins s1 σ H1 _ I1 q1) fun us s2 ⟨xs,H2,I2,r2,q2⟩=>⟨x::xs,H2,I2,.cons r1 r2,q2⟩
noncomputable def tTup (t:TA):TE:=fun σ H Q=>t σ H fun xs H1=>xs.length<=sizeLine/\∀p,H1 p=none->Q (.ref p) (upd H1 p (.tup xs))
noncomputable def tLst (t:TA):TE:=fun σ H Q=>t σ H fun xs H1=>xs.length<=sizeLine/\∀p,H1 p=none->Q (.ref p) (upd H1 p (.lst xs))
theorem zaz {x1}(h:PA X es t):PE X (.Tuple es x1 pos) (tTup t):=by
 intro pins s σ H Q I hq
 refine wpAny_Tuple_spliced (thn (h pos pins s σ H _ I hq) fun us s1 ⟨xs,H1,I1,r,z,q⟩=>⟨by rw[<-r.length];exact z, ?_⟩)
 have hf:H1 s1.heap.objs.size=none:=I1.hok.fresh (Nat.le_refl _)
 refine⟨.ref s1.heap.objs.size,upd H1 s1.heap.objs.size (.tup xs),I1.laid (t':=s1.toks) (fun b u e=>Heap.get?_push_of_some _ e) (Nat.le_refl _) ?_,rfl,q _ hf⟩
 exact⟨z,us,r,PTup.new⟩
theorem zbC (h:PA X es t):PE X (.List es pos) (tLst t):=by
 intro pins s σ H Q I hq
 refine wpAny_List_spliced (thn (h pos pins s σ H _ I hq) fun us s1 ⟨xs,H1,I1,r,z,q⟩=>⟨by rw[<-r.length];exact z, ?_⟩)
 have hf:H1 s1.heap.objs.size=none:=I1.hok.fresh (Nat.le_refl _)
 refine⟨.ref s1.heap.objs.size,upd H1 s1.heap.objs.size (.lst xs),I1.laid (t':=s1.toks) (fun b u e=>Heap.get?_push_of_some _ e) (Nat.le_refl _) ?_,rfl,q _ hf⟩
 exact⟨z,us,0,r,Heap.get?_push_size _ rfl⟩
end
noncomputable abbrev Sp:=List V->Hp->VK->XK->Prop
noncomputable abbrev CXT:=List Env->Hp->Shared->XK->Value->Shared->Prop
structure Env0 (P:Program) (w:World) (K:PySem.W.Frag) (mg:Str->Option Value) (base:Heap) (A:Around) (outer:List Env) (s:Shared) (H:Hp):Prop where
 frames:A.frames=some outer
 mod:Mod K mg base
 bs:∀b o,base.get? b=some o->s.heap.get? b=some o/\H b=none
 bsz:base.objs.size<=s.heap.objs.size
 funs:s.heap.FunFrames base outer
 frf:∀b∈frs outer,H b=none
 hok:HOk P w H s.heap
 bare:AllBare s.gens
noncomputable def CE (outer:List Env)(P:Program)(w:World)(H:Hp)(s:Shared)(Q:VK)(u:Value)(s':Shared):Prop:=
 ∃v H',s'.os=s.os/\AllBare s'.gens/\Un (frs outer) [] H H' s.heap s'.heap/\HOk P w H' s'.heap/\RelV v u/\Q v H'
noncomputable def CR (CX:CXT)(outer:List Env)(P:Program)(w:World)(H:Hp)(s:Shared)(Q:VK)(E:XK)(r:Result)(s':Shared):Prop:=
 match r with
 | .ok (.ret u)=>CE outer P w H s Q u s'
 | .ok _=>False
 | .error e=>CX outer H s E e s'
structure FnOk (P:Program) (w:World) (K:PySem.W.Frag) (mg:Str->Option Value) (base:Heap) (CX:CXT) (k:Nat) (f:Addr) (fd:FuncData) (ps:List Str) (sp:Sp):Prop where
 len:∀vs H Q E,sp vs H Q E->vs.length=ps.length
 run:∀(A:Around) (outer:List Env) (s:Shared) (H:Hp) (args:Args) (us:List Value) (vs:List V) (Q:VK) (E:XK),Room k A->Env0 P w K mg base A outer s H->BindsTo s fd args (ps.zip us)->Vals vs us->sp vs H Q E->
  codeAny (model P w) A (.call (.ref f) args) (CR CX outer P w H s Q E) s
theorem FnOk.mono {P:Program}{w:World}{K:PySem.W.Frag}{mg:Str->Option Value}{base:Heap}{CX:CXT}{j k:Nat}{f:Addr}{fd:FuncData}{ps:List Str}{sp:Sp}(F:FnOk P w K mg base CX j f fd ps sp)(h:j<=k):
  FnOk P w K mg base CX k f fd ps sp:=⟨F.len,fun A outer s H args us vs Q E hr=>F.run A outer s H args us vs Q E (hr.mono h)⟩
section
variable {X:Cx}{pins:List (Addr×Obj)}{σ:St}{H:Hp}{s s':Shared}
theorem Inv.env0 (I:Inv X pins σ H s):Env0 X.prog X.w X.K X.mg X.base X.A X.stack s H:=
 ⟨I.ok.frames,I.ok.mod,I.bs,Nat.le_trans I.ok.bsz I.sz,I.stack,I.stkFree,I.hok,I.bare⟩
theorem Inv.after {Q:VK}{u:Value}(I:Inv X pins σ H s)(h:CE X.stack X.prog X.w H s Q u s'):EP X pins σ Q u s':=by
 obtain⟨v,H',os,bare,un,hok,r,q⟩:=h
 obtain⟨hh,g,d,t,os'⟩:=s'
 obtain rfl:os'=s.os:=os
 exact⟨v,H',I.call (h':=hh) (g':=g) (d':=d) (t':=t) (ch:=[]) un hok bare (fun b z=>absurd z (by simp)),r,q⟩
end
noncomputable def zl4 (sp:Sp)(dvs:List V)(E:XK)(t:TA):TE:=fun σ H Q=>t σ H fun vs H1=>sp (vs++dvs) H1 Q E
noncomputable def Binds (K:PySem.W.Frag)(fd:FuncData)(ps:List Str)(ds:List Value):Prop:=
 ∀(s:Shared) (us:List Value),K.In s.heap->(us++ds).length=ps.length->BindsTo s fd ⟨us,[]⟩ (ps.zip (us++ds))
theorem Binds.all {K:PySem.W.Frag}{fd:FuncData}{ps:List Str}(h:∀us:List Value,us.length=ps.length->bindArgs fd ⟨us,[]⟩=pure (ps.zip us)):Binds K fd ps []:=fun s us _ hl=>by
 rw[List.append_nil] at hl ⊢
 exact .of_eq (h us hl)
noncomputable def zhx (CX:CXT)(X:Cx)(E:XK):Prop:=∀(pins:List (Addr×Obj)) (σ:St) (H:Hp) (s:Shared) (e:Value) (s':Shared),Inv X pins σ H s->CX X.stack H s E e s'->X.xe e s'
section
variable {X:Cx}{CX:CXT}{k:Nat}{f C:Addr}{fd:FuncData}{ps:List Str}{sp:Sp}{dvs:List V}{ds:List Value}{E:XK}{x m:Str}{p pos apos:Pos}{e o:Expr}{es:List Expr}{ta:TE}{t:TA}
theorem zjF {pins:List (Addr×Obj)}{σ:St}{H:Hp}{s:Shared}{Q:VK}{us:List Value}{vs:List V}(F:FnOk X.prog X.w X.K X.mg X.base CX k f fd ps sp)(hr:Room k X.A)(hb:Binds X.K fd ps ds)(hd:Vals dvs ds)(hx:zhx CX X E)
  (I:Inv X pins σ H s) (r:Vals vs us) (h:sp (vs++dvs) H Q E):wpAny (model X.prog X.w) X.A (call (.ref f) us) (EP X pins σ Q) X.xe s:=by
 have r2:Vals (vs++dvs) (us++ds):=r.append hd
 have hl:(us++ds).length=ps.length:=by rw[<-r2.length];exact F.len _ _ _ _ h
 refine wpAny_call (codeAny_mono (F.run X.A X.stack s H ⟨us,[]⟩ (us++ds) (vs++dvs) Q E hr I.env0 (hb s us I.kIn hl) r2 h) fun r s' hq=> ?_)
 cases r with
 |error e=>exact hx pins σ H s e s' I hq
 |ok fl=>
  cases fl with
  |ret u=>exact I.after hq
  |next=>exact False.elim hq
  |brk=>exact False.elim hq
  |cont=>exact False.elim hq
theorem zj5 (F:FnOk X.prog X.w X.K X.mg X.base CX k f fd ps sp)(hr:Room k X.A)(hg:Gl X x)(hm:X.mg x=some (.ref f))(hk:PySem.W.keepIn X.K (.ref f)=true)(hb:Binds X.K fd ps ds)(hd:Vals dvs ds)(hx:zhx CX X E)
  (ha:PA X (e::es) t) (hdb:(x==("__debug__" :Str))=false:=by decide) (he:starEach (e::es) X.env=(false,eval e X.env)::starEach es X.env:=by rfl) (hpl:(backTo pos (starEach es X.env)).any (·.1)=false:=by rfl):
  PE X (.Call (.Name x p) (e::es) [] pos) (zl4 sp dvs E t):=by
 intro pins s σ H Q I h
 refine wpAny_Call_Name_kw (zhl I hg hm ?_ hdb)
 refine PySem.W.callWith_K (h₀:=X.base) I.ok.mod.kin hk (thn (ha pos pins s σ H _ I h) fun us s1 ⟨vs,H1,I1,r,q⟩=>⟨I1.kIn, ?_⟩) he hpl
 exact zjF F hr hb hd hx I1 r q
structure Mk (K:PySem.W.Frag) (C f:Addr):Prop where
 makes:PySem.W.makesIn K C=true
 init:PySem.W.findIn K (.ref C) "__init__" =some (some (.ref f))
 fn:PySem.W.isFn K (.ref f)=true
 kp:PySem.W.keepIn K (.ref C)=true
end
section
variable {X:Cx}{CX:CXT}{k:Nat}{f C:Addr}{fd:FuncData}{ps ks:List Str}{sp:Sp}{E:XK}{x m:Str}{p pos apos kpos:Pos}{e o:Expr}{es:List Expr}{kws:List Keyword}{te ta:TE}{t tk:TA}{nm:Option Str}
structure KBinds (K:PySem.W.Frag) (fd:FuncData) (ps ks:List Str) (g:List Value->List Value->List Value) (gV:List V->List V->List V):Prop where
 to:∀(s:Shared) (us ws:List Value),K.In s.heap->(g us ws).length=ps.length->BindsTo s fd ⟨us,ks.zip ws⟩ (ps.zip (g us ws))
 rel:∀{vs:List V} {us:List Value} {zs:List V} {ws:List Value},Vals vs us->Vals zs ws->Vals (gV vs zs) (g us ws)
variable {g:List Value->List Value->List Value}{gV:List V->List V->List V}
end
structure FnScope (N P:List Str) (sc:Scope):Prop where
 kind:sc.kind=.function
 co:sc.isCoroutine=false
 gen:sc.isGenerator=false
 nd:N.Nodup
 pre:N.take P.length=P
 par:∀x∈P,sc.names.lookup x=some .local∨sc.names.lookup x=some .cell
 nofree:∀y∈sc.names,y.2≠.free
theorem zeQ {kindOf:Str->Option NameKind}{x:Str}:∀{binds:List (Str×Value)} {m:Str->Option Value},(∀v,(x,v)∉binds)->bindL kindOf binds m x=m x
 |[],_,_=>rfl
 | (n,v)::r,m,h=>by
  unfold bindL
  rw[zeQ fun w hw=>h w (List.mem_cons_of_mem _ hw)]
  split
  ·have:x≠n:=by rintro rfl;exact h v List.mem_cons_self
   simp[this]
  ·rfl
theorem zeR {kindOf:Str->Option NameKind}{x:Str}:∀{binds:List (Str×Value)} {m:Str->Option Value},(∀v,(x,v)∉binds)->bindC kindOf binds m x=m x
 |[],_,_=>rfl
 | (n,v)::r,m,h=>by
  unfold bindC
  rw[zeR fun w hw=>h w (List.mem_cons_of_mem _ hw)]
  split
  ·rfl
  ·have:x≠n:=by rintro rfl;exact h v List.mem_cons_self
   simp[this]
theorem zeS {kindOf:Str->Option NameKind}{x:Str}{v:Value}:∀{P:List Str} {vs:List Value} {i:Nat} {m:Str->Option Value},P.Nodup->P[i]? =some x->vs[i]? =some v->kindOf x=some .local->
  bindL kindOf (P.zip vs) m x=some v
 |[],_,_,_,_,h,_,_=>by simp at h
 |_::_,[],_,_,_,_,h,_=>by simp at h
 |p::P,w::vs,0,m,nd,h1,h2,hk=>by
  simp at h1 h2;subst h1;subst h2
  show bindL kindOf ((p,w)::P.zip vs) m p=_
  unfold bindL
  rw[zeQ fun v hv=>(List.nodup_cons.mp nd).1 (List.of_mem_zip hv).1,if_pos hk]
  simp
 |p::P,w::vs,i+1,m,nd,h1,h2,hk=>by
  show bindL kindOf ((p,w)::P.zip vs) m x=_
  unfold bindL
  exact zeS (i:=i) (List.nodup_cons.mp nd).2 (by simpa using h1) (by simpa using h2) hk
theorem zeT {kindOf:Str->Option NameKind}{x:Str}{v:Value}:∀{P:List Str} {vs:List Value} {i:Nat} {m:Str->Option Value},P.Nodup->P[i]? =some x->vs[i]? =some v->kindOf x≠some .local->
  bindC kindOf (P.zip vs) m x=some v
 |[],_,_,_,_,h,_,_=>by simp at h
 |_::_,[],_,_,_,_,h,_=>by simp at h
 |p::P,w::vs,0,m,nd,h1,h2,hk=>by
  simp at h1 h2;subst h1;subst h2
  show bindC kindOf ((p,w)::P.zip vs) m p=_
  unfold bindC
  rw[zeR fun v hv=>(List.nodup_cons.mp nd).1 (List.of_mem_zip hv).1,if_neg hk]
  simp
 |p::P,w::vs,i+1,m,nd,h1,h2,hk=>by
  show bindC kindOf ((p,w)::P.zip vs) m x=_
  unfold bindC
  exact zeT (i:=i) (List.nodup_cons.mp nd).2 (by simpa using h1) (by simpa using h2) hk
noncomputable def zeU (N:List Str)(vs:List V):St:=vs.map some++List.replicate (N.length-vs.length) none
noncomputable def cxOf (CX:CXT)(P:Program)(w:World)(K:PySem.W.Frag)(mg:Str->Option Value)(base:Heap)(N:List Str)(qual:Str)(scope:Scope)(f:Addr)(cd:Value)(A:Around)(outer:List Env)(s:Shared)(H:Hp)(E:XK):Cx where
 prog:=P
 w:=w
 K:=K
 mg:=mg
 base:=base
 A:=A.deeper (envOfC qual scope s.heap.objs.size f cd)
 N:=N
 s₀:=s
 H₀:=H
 env:=envOfC qual scope s.heap.objs.size f cd
 outer:=outer
 stack:=envOfC qual scope s.heap.objs.size f cd::outer
 ex:=[]
 calm:=true
 fn:=fun _=>true
 pn:=[]
 xe:=fun e s'=>wpAny (model P w) (A.deeper (envOfC qual scope s.heap.objs.size f cd)) (leaving (envOfC qual scope s.heap.objs.size f cd) e) (fun _ s''=>CX outer H s E e s'') (fun e' s''=>CX outer H s E e' s'') s'
theorem zgg {sc:Scope}{n:Nat}{x:Str}(h:sc.names.lookup x=some .cell):∃c,(cellsFrom n sc.names []).lookup x=some c:=by
 have q:=PySem.W.cellsFrom_some sc.names n [] (.inl h)
 exact Option.isSome_iff_exists.mp q
theorem zhy {CX:CXT}{P:Program}{w:World}{K:PySem.W.Frag}{mg:Str->Option Value}{base:Heap}{N ps:List Str}{qual:Str}{scope:Scope}{f:Addr}{cd:Value}{A:Around}{outer:List Env}{s s1:Shared}{H:Hp}{E:XK}{us:List Value}{vs:List V}
  (S:FnScope N ps scope) (hd:A.handled=none) (e0:Env0 P w K mg base A outer s H) (hl:vs.length=ps.length) (r:Vals vs us)
  (x:InCallC s s.heap.objs.size (bindL (envOfC qual scope s.heap.objs.size f cd).kindOf (ps.zip us) fun _=>none) (cellsFrom (s.heap.objs.size+1) scope.names []) (bindC (envOfC qual scope s.heap.objs.size f cd).kindOf (ps.zip us) fun _=>none) s1):
  Inv (cxOf CX P w K mg base N qual scope f cd A outer s H E) [] (zeU N vs) H s1:=by
 have hpl:ps.length<=N.length:=by have:=congrArg List.length S.pre;rw[List.length_take] at this;(first|lia|omega)
 obtain⟨h1,tk,rfl,hk⟩:=x.done
 have noA:∀b:Addr,b∉(cxOf CX P w K mg base N qual scope f cd A outer s H E).ex:=fun b z=>absurd (show b∈([]:List Addr) from z) (by simp)
 refine⟨⟨e0.mod,S.kind,rfl,rfl,Nat.le_refl _,fun y z c h1 h2=> ?_,fun y hy=> ?_,fun y c _ h=> ?_,fun _=>hd,Around.frames_deeper e0.frames,.inr ⟨rfl,rfl⟩,fun b z=>absurd z (noA b),e0.bs,e0.bsz,fun b _ _=>noA b,fun b z=>absurd z (noA b),e0.funs,e0.frf⟩,
  rfl,e0.bare,Un.kept hk,⟨_,x.toInCall.ns,fun i y v h1 h2 h3=> ?_⟩,fun y c h=>⟨_,x.cell y c h⟩,e0.hok.fresh (Nat.le_refl _),fun y c h=> ?_,fun p hp=>absurd (show p∈([]:List (Addr×Obj)) from hp) (by simp),e0.hok.kept hk, ?_⟩
 ·exact name_of_addr x.apart (PySem.mem_of_lookup h1) (PySem.mem_of_lookup h2)
 ·have hy:scope.names.lookup y=some .cell∨scope.names.lookup y=some .free:=hy
  rcases hy with hy|hy
  ·exact zgg hy
  ·exact absurd rfl (S.nofree _ (PySem.mem_of_lookup hy))
 ·exact Nat.le_of_lt (x.above y c (PySem.mem_of_lookup h))
 ·have hi:i<vs.length:=by
   unfold zeU at h2
   by_cases hi:i<vs.length
   ·exact hi
   ·rw [List.getElem?_append_right (by simpa using hi)] at h2
    rw[List.getElem?_replicate] at h2
    split at h2<;>cases h2
  have ha:vs[i]? =some v:=by
   unfold zeU at h2
   rw[List.getElem?_append_left (by simpa using hi),List.getElem?_map] at h2
   cases e:vs[i]? with
   |none=>rw[e] at h2;cases h2
   |some a=>rw[e] at h2;cases h2;rfl
  obtain⟨u,hu,rv⟩:=r.get ha
  have hp:ps[i]? =some y:=by
   rw[<-S.pre,List.getElem?_take_of_lt (by (first|lia|omega))];exact h1
  have ndP:ps.Nodup:=by rw[<-S.pre];exact S.nd.sublist (List.take_sublist _ _)
  refine⟨u,rv, ?_⟩
  rcases S.par y (List.mem_of_getElem? hp) with k|k
  ·exact .inl ⟨k,zeS ndP hp hu k⟩
  ·obtain ⟨c,e⟩:=zgg (n:=s.heap.objs.size+1) k
   refine .inr ⟨.inl k,c,e, ?_⟩
   have q:=x.cell y c e
   rw[zeT ndP hp hu (by show scope.names.lookup y≠_;rw[k];decide)] at q
   exact q
 ·exact e0.hok.fresh (Nat.le_of_lt (x.above y c (PySem.mem_of_lookup h)))
 ·unfold zeU
  show _=N.length
  rw[List.length_append,List.length_map,List.length_replicate]
  (first|lia|omega)
theorem zl5 {CX:CXT}{P:Program}{w:World}{K:PySem.W.Frag}{mg:Str->Option Value}{base:Heap}{k:Nat}{f:Addr}{name qual:Str}{params:Arguments}{body:List Stmt}{scope:Scope}{dV kV doc pm cdv ct oc:Value}{an od:Option Addr}
  {osl:Array (Option Value)} {N ps:List Str} {sp:Sp} (lk:K.lookup f=some ⟨oc,od,.func (PySem.W.fnOf name qual params body scope dV kV doc pm an cdv ct),osl⟩) (hcd:PySem.W.codeIn K cdv qual=true) (S:FnScope N ps scope)
  (len:∀vs H Q E,sp vs H Q E->vs.length=ps.length)
  (hbody:∀(A:Around) (outer:List Env) (s:Shared) (H:Hp) (vs:List V) (Q:VK) (E:XK),Room k (A.deeper (envOfC qual scope s.heap.objs.size f cdv))->sp vs H Q E->
   ∃t,PSs (cxOf CX P w K mg base N qual scope f cdv A outer s H E) body t/\t {nx:=fun _ H'=>Q .non H',rt:=Q} (zeU N vs) H):
  FnOk P w K mg base CX (k+1) f (PySem.W.fnOf name qual params body scope dV kV doc pm an cdv ct) ps sp:=by
 refine⟨len,fun A outer s H args us vs Q E hr e0 hb r hsp=> ?_⟩
 have hl:=len _ _ _ _ hsp
 have KX:K.In s.heap:=e0.mod.kin.keeps fun b o e=>(e0.bs b o e).1
 have lim:s.heap.NoLimit:=e0.mod.nolimit.keeps fun b o e=>(e0.bs b o e).1
 have hkind:∀y∈ps.zip us,scope.names.lookup y.1=some .local∨(scope.names.lookup y.1=some .cell/\((cellsFrom (s.heap.objs.size+1) scope.names []).lookup y.1).isSome=true):=fun ⟨n,v⟩ hy=>by
  rcases S.par n (List.of_mem_zip hy).1 with q|q
  ·exact .inl q
  ·exact .inr ⟨q,PySem.W.cellsFrom_some _ _ _ (.inl q)⟩
 refine codeAny_call_function hr.depth (KX _ _ lk) rfl S.co S.gen rfl (PySem.W.codeRec_of KX hcd) (hb _ _ _ _ ?_)
 refine wpAny_newFunctionEnv_cells S.kind hkind fun env he s1 x=> ?_
 subst he
 refine⟨lim.keeps x.toInCall.keep,codeAny_func ?_⟩
 obtain⟨t,ht,hq⟩:=hbody A outer s H vs Q E (hr.deeper _) hsp
 have I:Inv (cxOf CX P w K mg base N qual scope f cdv A outer s H E) [] (zeU N vs) H s1:=zhy S hr.hd e0 hl r x
 refine wpAny_mono (ht [] s1 (zeU N vs) H _ I hq) (fun fl s' hs=> ?_) fun e s' hs=>hs
 have fin:∀{σ':St} {H':Hp} {v:V} {u:Value},Inv (cxOf CX P w K mg base N qual scope f cdv A outer s H E) [] σ' H' s'->RelV v u->Q v H'->CE outer P w H s Q u s':=
  fun {σ' H' v u} J rv q=>⟨v,H',J.os,J.bare,J.base,J.hok,rv,q⟩
 cases fl with
 |ret u=>
  obtain⟨v,σ',H',J,rv,q⟩:=hs
  exact fin J rv q
 |next=>
  obtain⟨σ',H',J,q⟩:=hs
  exact fin (v:=V.non) (u:=Value.none) J rfl q
 |brk=>
  obtain⟨_,_,_,q⟩:=hs
  exact False.elim q
 |cont=>
  obtain⟨_,_,_,q⟩:=hs
  exact False.elim q
section
variable {X:Cx}{x:Str}{p pos:Pos}{e:Expr}{es:List Expr}{t:TA}{id T:String}{r:List V->Hp->VK->Prop}
noncomputable def tCB (r:List V->Hp->VK->Prop)(t:TA):TE:=fun σ H Q=>t σ H fun vs H1=>r vs H1 Q
theorem zao (hc:zbF X (.builtin id) r)(hg:Gl X x)(hm:X.mg x=none)(hv:bootBuiltins x=some (.builtin id))(ha:PA X (e::es) t)(hn:x≠ "__name__" :=by decide)(hdb:(x==("__debug__" :Str))=false:=by decide)
  (he:starEach (e::es) X.env=(false,eval e X.env)::starEach es X.env:=by rfl) (hpl:(backTo pos (starEach es X.env)).any (·.1)=false:=by rfl):PE X (.Call (.Name x p) (e::es) [] pos) (tCB r t):=by
 intro pins s σ H Q I h
 refine wpAny_Call_Name_kw (zda I hg hm hv ?_ hn hdb)
 exact PyProof.Rows.callWith_builtin1 (thn (ha pos pins s σ H _ I h) fun us s1 ⟨vs,H1,I1,r1,q1⟩=>hc pins s1 σ H1 vs us Q I1 r1 q1) he hpl
theorem zaN (hc:zbF X (.type T) r)(hg:Gl X x)(hm:X.mg x=none)(hv:bootBuiltins x=some (.type T))(ha:PA X (e::es) t)(hn:x≠ "__name__" :=by decide)(hdb:(x==("__debug__" :Str))=false:=by decide)
  (he:starEach (e::es) X.env=(false,eval e X.env)::starEach es X.env:=by rfl) (hpl:(backTo pos (starEach es X.env)).any (·.1)=false:=by rfl):PE X (.Call (.Name x p) (e::es) [] pos) (tCB r t):=by
 intro pins s σ H Q I h
 refine wpAny_Call_Name_kw (zda I hg hm hv ?_ hn hdb)
 exact PyProof.Rows.callWith_type1 (thn (ha pos pins s σ H _ I h) fun us s1 ⟨vs,H1,I1,r1,q1⟩=>hc pins s1 σ H1 vs us Q I1 r1 q1) he hpl
end
end L2
namespace HT
open PySem PyProof.Rows
section
open PySem.SeqAt
open PySem.AutoSeq1 (wpAny_loadPart')
open PySem.MeetsSeq PySem.MeetsSeq2 PySem.MeetsSeq3
end
section
variable {prog:Program}{w:World}{A:Around}{E:Value->Shared->Prop}{s:Shared}
theorem cat_tup {t b:Addr}{vs ws:List Value}{Q:Value->Shared->Prop}(ht:IsTup s.heap t vs.toArray)(hb:IsTup s.heap b ws.toArray)(hv:vs≠[])
  (h1:ws=[]->Q (.ref t) s) (h2:ws≠[]->Q (.ref s.heap.objs.size) {s with heap:=s.heap.push {cls:=.type "tuple",data:=.seq (vs++ws).toArray}})
  (hsz:vs.length+ws.length<=sizeLine):wpAny (model prog w) A (binaryOp .Add (.ref t) (.ref b)) Q E s:=by
 obtain⟨⟨cls,dd,data,sl⟩,ho,hc,n,hd⟩:=id ht
 obtain⟨⟨cls2,dd2,data2,sl2⟩,ho2,hc2,n2,hd2⟩:=id hb
 simp only at hc hd hc2 hd2
 subst hc hd hc2 hd2
 have e:vs.toArray++ws.toArray=(vs++ws).toArray:=by simp
 by_cases hw:ws=[]
 ·exact concat_meets ⟨_,ho,rfl⟩ ⟨_,ho2,rfl⟩ noFill_tuple_add seq_tuple_add PySem.F.slot_tuple_add PySem.F.entry_tuple_add (PySem.F.args_tuple_add_2 _ _)
   (tuple_addW1 t b vs.toArray ws.toArray n n2 dd dd2 sl sl2 (by simpa using hv) (by simp[hw])) ⟨ho,ho2,h1 hw⟩
 ·refine concat_meets ⟨_,ho,rfl⟩ ⟨_,ho2,rfl⟩ noFill_tuple_add seq_tuple_add PySem.F.slot_tuple_add PySem.F.entry_tuple_add (PySem.F.args_tuple_add_2 _ _)
   (tuple_addW2 t b vs.toArray ws.toArray n n2 dd dd2 sl sl2 (by simpa using hv) (by simpa using hw) (by rw[List.size_toArray,List.size_toArray];exact hsz)) ⟨ho,ho2, ?_⟩
  rw[e]
  exact h2 hw
noncomputable def sIx (n d:Nat):Option Int->Nat
 |none=>d
 |some v=>if v<0 then (v+(n:Int)).toNat else min v.toNat n
theorem sIx_none (n d:Nat):sIx n d none=d:=rfl
theorem sIx_nat (n d k:Nat):sIx n d (some (k:Int))=min k n:=by
 show (if (k:Int)<0 then ((k:Int)+(n:Int)).toNat else min (k:Int).toNat n)=min k n
 rw[if_neg (by (first|lia|omega)),Int.toNat_natCast]
theorem zk8 (n d:Nat)(hd:d<=n)(o:Option Int):sIx n d o<=n:=by
 cases o with
 |none=>exact hd
 |some v=>
  show (if v<0 then (v+(n:Int)).toNat else min v.toNat n)<=n
  by_cases hv:v<0
  ·rw[if_pos hv];(first|lia|omega)
  ·rw[if_neg hv];exact Nat.min_le_right _ _
theorem zhz (v:Int)(n d:Nat):(if v<0 then max (v+(n:Int)) 0 else min v (n:Int))=((sIx n d (some v):Nat):Int):=by
 show (if v<0 then max (v+(n:Int)) 0 else min v (n:Int))=(((if v<0 then (v+(n:Int)).toNat else min v.toNat n):Nat):Int)
 by_cases hv:v<0
 ·simp only[if_pos hv];(first|lia|omega)
 ·simp only[if_neg hv];(first|lia|omega)
theorem zgP (lo hi:Option Int)(n:Nat):Builtin.Slice.sliceAdjust lo hi 1 (n:Int)=(((sIx n 0 lo:Nat):Int),((sIx n n hi:Nat):Int)):=by
 have h1:¬((1:Int)<0):=by (first|lia|omega)
 unfold Builtin.Slice.sliceAdjust
 simp only[h1,if_false]
 refine Prod.ext ?_ ?_
 ·cases lo with
  |none=>rfl
  |some v=>exact zhz v n 0
 ·cases hi with
  |none=>rfl
  |some v=>exact zhz v n n
theorem zgQ (i j:Nat):Builtin.Slice.slicePlaces (i:Int) (j:Int) 1=j-i:=by
 unfold Builtin.Slice.slicePlaces
 have h1:(1:Int)>0:=by (first|lia|omega)
 simp only[h1,if_true,Int.ediv_one]
 split<;>(first|lia|omega)
theorem zd1 {v:Value}{o:Option Int}{Q:Option Int->Shared->Prop}(p:IsPart v o)(h:Q o s):wpAny (model prog w) A (Builtin.Slice.slicePartIndex v) Q E s:=by
 cases p with
 |none=>exact slicePart_none h
 |int i t=>exact slicePart_int h
theorem sliceApplied_gen {sl:Addr}{vl vu:Value}{lo hi:Option Int}{n:Nat}{Q:Int×Int×Nat->Shared->Prop}(hs:s.heap.IsSliceOf sl vl vu .none)(pl:IsPart vl lo)(pu:IsPart vu hi)
  (h:Q (((sIx n 0 lo:Nat):Int),1,sIx n n hi-sIx n 0 lo) s):wpAny (model prog w) A (Builtin.Slice.sliceApplied (.ref sl) (pure (n:Int))) Q E s:=by
 obtain⟨os,hos,hcs,hds⟩:=id hs
 unfold Builtin.Slice.sliceApplied Builtin.Slice.sliceFields
 refine wpAny_bind (wpAny_bind (wpAny_field hos hds (x:=vl) rfl (wpAny_bind (wpAny_field hos hds (x:=vu) rfl (wpAny_bind (wpAny_field hos hds (x:=.none) rfl (wpAny_pure ?_)))))))
 refine wpAny_bind (slicePart_none ?_)
 show wpAny _ _ (if ((1:Int)==0)=true then _ else _) _ _ s
 rw[if_neg (by decide)]
 refine wpAny_bind (zd1 pl (wpAny_bind (zd1 pu (wpAny_bind (wpAny_pure ?_)))))
 show wpAny _ _ (match Builtin.Slice.sliceAdjust lo hi 1 (n:Int) with|(lo,hi)=>pure (lo,(1:Int),Builtin.Slice.slicePlaces lo hi 1)) _ _ s
 rw[zgP lo hi n]
 show wpAny _ _ (pure (((sIx n 0 lo:Nat):Int),(1:Int),Builtin.Slice.slicePlaces ((sIx n 0 lo:Nat):Int) ((sIx n n hi:Nat):Int) 1)) _ _ s
 rw[zgQ]
 exact wpAny_pure h
theorem ziI (xs:Array Value)(i k:Nat):((List.range k).filterMap fun (m:Nat)=>xs[((i:Int)+(m:Int)*1).toNat]?).toArray=((xs.toList.drop i).take k).toArray:=by
 have e:(fun (m:Nat)=>xs[((i:Int)+(m:Int)*1).toNat]?)=fun m=>xs[i+m]? :=by
  funext m
  have:((i:Int)+(m:Int)*1).toNat=i+m:=by (first|lia|omega)
  rw[this]
 rw[e]
 have:=pick_run xs i k
 rw[List.filterMap_map] at this
 have e2:((fun x=>xs[x]?)∘fun x=>i+x)=fun m=>xs[i+m]? :=rfl
 rw[e2] at this
 rw[this]
theorem getItem_tuple_cut {t sl:Addr}{items:Array Value}{vl vu:Value}{lo hi:Option Int}{Q:Value->Shared->Prop}(ht:IsTup s.heap t items)(hs:s.heap.IsSliceOf sl vl vu .none)(pl:IsPart vl lo)(pu:IsPart vu hi)
  (hw:¬(sIx items.size 0 lo=0/\sIx items.size items.size hi=items.size))
  (h:Q (.ref s.heap.objs.size) {s with heap:=s.heap.push {cls:=.type "tuple",data:=.seq ((items.toList.drop (sIx items.size 0 lo)).take (sIx items.size items.size hi-sIx items.size 0 lo)).toArray}})
  (hsz:items.size<=sizeLine):wpAny (model prog w) A (getItem (.ref t) (.ref sl)) Q E s:=by
 have htake:sizeOk (.seq ((items.toList.drop (sIx items.size 0 lo)).take (sIx items.size items.size hi-sIx items.size 0 lo)).toArray):=by
  show ((items.toList.drop (sIx items.size 0 lo)).take (sIx items.size items.size hi-sIx items.size 0 lo)).toArray.size<=sizeLine
  rw[List.size_toArray,List.length_take,List.length_drop,Array.length_toList]
  (first|lia|omega)
 have hj:sIx items.size items.size hi<=items.size:=zk8 _ _ (Nat.le_refl _) hi
 obtain⟨os,hos,hcs,hds⟩:=id hs
 have hTs:s.TypeIs (.ref sl) "slice" :=⟨os,hos,hcs⟩
 unfold getItem
 try with_reducible refine wpAny_holding ?_
 first|refine wpAny_bind (wpAny_pure ?_)|skip
 refine wpAny_bind (wpAny_sequenceKey ht.typeIs (by decide) ?_)
 refine wpAny_bind (wpAny_callSpecial?_slot (name:=Str.ofString "__getitem__") ht.typeIs PyProof.Rows.slot_tuple_getitem
  (wpAny_call_entry PyProof.Rows.slot_tuple_getitem ht.typeIs entry_tuple_getitem ?_ (args_tuple_getitem _ _)))
 show wpAny _ _ (Builtin.Tuple.tupleItemsOf (.ref t) >>= _) _ _ s
 refine wpAny_bind (tupleItemsOf_ ht ?_)
 refine wpAny_bind (wpAny_typeOf hTs ?_)
 rw[if_pos (by decide)]
 refine wpAny_bind (sliceApplied_gen hs pl pu ?_)
 have hno:¬((((sIx items.size 0 lo:Nat):Int)==0&&(1:Int)==1&&(sIx items.size items.size hi-sIx items.size 0 lo)==items.size)=true):=by
  intro q
  rw[Bool.and_eq_true,Bool.and_eq_true] at q
  have q1:((sIx items.size 0 lo:Nat):Int)=0:=eq_of_beq q.1.1
  have q2:sIx items.size items.size hi-sIx items.size 0 lo=items.size:=eq_of_beq q.2
  exact hw ⟨by (first|lia|omega),by (first|lia|omega)⟩
 show wpAny _ _ (if (((sIx items.size 0 lo:Nat):Int)==0&&(1:Int)==1&&(sIx items.size items.size hi-sIx items.size 0 lo)==items.size)=true then _ else _) _ _ s
 rw[if_neg hno,ziI]
 first
  |exact wpAny_bind (m:=Builtin.Tuple.tupleExact _) (wpAny_newObj_type (wpAny_pure ⟨_,rfl,wpAny_pure h⟩) htake)
  |exact wpAny_bind (m:=Builtin.Tuple.tupleExact _) (wpAny_newObj_type (wpAny_bind (wpAny_pure (wpAny_pure ⟨_,rfl,wpAny_pure h⟩))) htake)
  |exact wpAny_bind (wpAny_bind (m:=Builtin.Tuple.tupleExact _) (wpAny_newObj_type (wpAny_pure (wpAny_pure ⟨_,rfl,wpAny_pure h⟩)) htake))
  |exact wpAny_bind (wpAny_bind (m:=Builtin.Tuple.tupleExact _) (wpAny_newObj_type (wpAny_pure ⟨_,rfl,wpAny_pure h⟩) htake))
end
end HT
namespace L2
open PySem PySem.Spec PyProof.Rows
noncomputable abbrev TO:=St->Hp->(Option Int->Hp->Prop)->Prop
noncomputable def PO (X:Cx)(e:Option Expr)(t:TO):Prop:=
 ∀(pins:List (Addr×Obj)) (s:Shared) (σ:St) (H:Hp) (Q:Option Int->Hp->Prop),Inv X pins σ H s->t σ H Q->
  wpAny (model X.prog X.w) X.A (evalPart e X.env) (fun u s'=>∃o H',Inv X pins σ H' s'/\IsPart u o/\Q o H') X.xe s
noncomputable def zj6:TO:=fun _ H Q=>Q none H
noncomputable def zl6 (t:TE):TO:=fun σ H Q=>t σ H fun x H1=>∃i,x=.int i/\Q (some i) H1
theorem zb5 {ns:List Int}:∀{us:List Value},Vals (ns.map V.int) us->IntsAre us ns:=by
 induction ns with
 |nil=>intro us r;rw[List.map_nil] at r;cases r;exact .nil
 | cons n ns ih=>
  intro us r
  rw[List.map_cons] at r
  cases r with
  |cons r1 r2=>
   obtain⟨t,e⟩:=r1
   subst e
   exact .cons n t (ih r2)
section
variable {X:Cx}{e:Expr}{te:TE}{lo hi:Option Expr}{tl th:TO}{pos p2:Pos}
theorem zdd:PO X none zj6:=by
 intro pins s σ H Q I h
 rw[evalPart_none]
 exact wpAny_pure ⟨none,H,I,.none,h⟩
theorem zbd (h:PE X e te):PO X (some e) (zl6 te):=by
 intro pins s σ H Q I hw
 rw[evalPart_some]
 refine thn (h pins s σ H _ I hw) fun u s1 zq=> ?_
 obtain⟨x,H1,I1,r1,q1⟩:=zq
 obtain⟨i,rfl,q⟩:=q1
 obtain⟨t,rfl⟩:=r1
 exact⟨some i,H1,I1,.int i t,q⟩
noncomputable def SlR (X:Cx)(r:V->Option Int->Option Int->Hp->VK->Prop):Prop:=
 ∀(pins:List (Addr×Obj)) (s:Shared) (σ:St) (H:Hp) (x:V) (v vl vu:Value) (lo hi:Option Int) (sl:Addr) (Q:VK),Inv X pins σ H s->RelV x v->s.heap.IsSliceOf sl vl vu .none->IsPart vl lo->IsPart vu hi->r x lo hi H Q->
  ∃T id,typeLookup (.type T) "__getitem__" =pure (some (.builtin id))/\s.TypeIs v T/\wpAny (model X.prog X.w) X.A (getItem v (.ref sl)) (EP X pins σ Q) X.xe s
noncomputable def tSl (r:V->Option Int->Option Int->Hp->VK->Prop)(te:TE)(tl th:TO):TE:=fun σ H Q=>te σ H fun x H1=>tl σ H1 fun l H2=>th σ H2 fun u H3=>r x l u H3 Q
theorem zbm {r:V->Option Int->Option Int->Hp->VK->Prop}(hr:SlR X r)(he:PE X e te)(hl:PO X lo tl)(hu:PO X hi th):PE X (.Subscript e (.Slice lo hi none p2) pos) (tSl r te tl th):=by
 intro pins s σ H Q I h
 refine Subscript_ (thn (he pins s σ H _ I h) fun v s1 zq=> ?_)
 obtain⟨x,H1,I1,r1,q1⟩:=zq
 refine wpAny_Slice (thn (hl pins s1 σ H1 _ I1 q1) fun vl s2 ⟨l,H2,I2,pl,q2⟩=>thn (hu pins s2 σ H2 _ I2 q2) fun vu s3 ⟨u,H3,I3,pu,q3⟩=> ?_)
 rw[evalPart_none]
 refine wpAny_pure ?_
 have I4:Inv X pins σ H3 {s3 with heap:=s3.heap.push {cls:=.type "slice",data:=.fields #[vl,vu,.none]}}:=I3.kept (t':=s3.toks) fun b ob q=>Heap.get?_push_of_some _ q
 obtain⟨T,id,hT,ht,hg⟩:=hr pins {s3 with heap:=s3.heap.push {cls:=.type "slice",data:=.fields #[vl,vu,.none]}} σ H3 x v vl vu l u s3.heap.objs.size Q I4 r1 (Heap.IsSliceOf.new ..) pl pu q3
 show wpAny (model X.prog X.w) X.A (subscriptTail e (.Slice lo hi none p2) v (.ref s3.heap.objs.size)) (EP X pins σ Q) X.xe {s3 with heap:=s3.heap.push {cls:=.type "slice",data:=.fields #[vl,vu,.none]}}
 exact tail_any (ops:=[.ref s3.heap.objs.size,v]) ht hT hg (by with_unfolding_all rfl)
noncomputable def cutV (xs:List V)(lo hi:Option Int):List V:=(xs.drop (HT.sIx xs.length 0 lo)).take (HT.sIx xs.length xs.length hi-HT.sIx xs.length 0 lo)
theorem zfz (xs:List V)(lo hi:Option Int):(cutV xs lo hi).length<=xs.length:=by
 unfold cutV
 rw[List.length_take,List.length_drop]
 (first|lia|omega)
noncomputable def rSlT (K:PySem.W.Frag):V->Option Int->Option Int->Hp->VK->Prop:=fun x lo hi H Q=>∃a xs,x=.ref a/\SqT K H a xs/\
 ¬(HT.sIx xs.length 0 lo=0/\HT.sIx xs.length xs.length hi=xs.length)/\∀p,H p=none->Q (.ref p) (upd H p (.tup (cutV xs lo hi)))
theorem zjG:SlR X (rSlT X.K):=by
 intro pins s σ H x v vl vu lo hi sl Q I rx hs pl pu h
 obtain⟨a,xs,rfl,hx,hw,q⟩:=h
 cases rx
 obtain⟨its,r,ht,hz⟩:=I.tuple hx
 have hlen:its.toArray.size=xs.length:=by rw[List.size_toArray];exact r.length.symm
 refine⟨"tuple",_,PyProof.Rows.slot_tuple_getitem.lookup,ht.typeIs, ?_⟩
 refine HT.getItem_tuple_cut ht hs pl pu (by rw[hlen];exact hw) ?_ (by rw[hlen];exact hz)
 rw[hlen]
 refine⟨.ref s.heap.objs.size,_,I.laid (t':=s.toks) (o:=.tup (cutV xs lo hi)) (fun b ob q=>Heap.get?_push_of_some _ q) (Nat.le_refl _) ?_,rfl,q _ (I.hok.fresh (Nat.le_refl _))⟩
 exact⟨Nat.le_trans (zfz xs lo hi) hz,_,(r.drop (HT.sIx xs.length 0 lo)).take (HT.sIx xs.length xs.length hi-HT.sIx xs.length 0 lo),PTup.new⟩
noncomputable def zl7 (K:PySem.W.Frag):R2:=fun x y H Q=>∃a b xs ys,x=.ref a/\y=.ref b/\SqT K H a xs/\SqT K H b ys/\xs≠[]/\xs.length+ys.length<=sizeLine/\
 (ys=[]->Q (.ref a) H)/\(ys≠[]->∀p,H p=none->Q (.ref p) (upd H p (.tup (xs++ys))))
theorem Vals.nil_iff {xs:List V}{us:List Value}(r:Vals xs us):us=[]↔xs=[]:=by
 cases r with
 |nil=>simp
 |cons _ _=>simp
theorem zj7:OpR X (binaryOp .Add) (zl7 X.K):=by
 intro pins s σ H x y v u Q I rx ry h
 obtain⟨a,b,xs,ys,rfl,rfl,ha,hb,hx,hz,q1,q2⟩:=h
 cases rx
 cases ry
 obtain⟨its,r1,p1,_⟩:=I.tuple ha
 obtain⟨its2,r2,p2,_⟩:=I.tuple hb
 refine HT.cat_tup p1 p2 (fun z=>hx (r1.nil_iff.mp z)) (fun z=>⟨.ref a,H,I,rfl,q1 (r2.nil_iff.mp z)⟩) (fun z=> ?_) (by rw[<-r1.length,<-r2.length];exact hz)
 refine⟨.ref s.heap.objs.size,_,I.laid (t':=s.toks) (o:=.tup (xs++ys)) (fun b ob q=>Heap.get?_push_of_some _ q) (Nat.le_refl _) ?_,rfl,q2 (fun w=>z (r2.nil_iff.mpr w)) _ (I.hok.fresh (Nat.le_refl _))⟩
 exact⟨by rw[List.length_append];exact hz,_,r1.append r2,PTup.new⟩
end
noncomputable def ixN (n:Nat)(i:Int):Option Nat:=if 0<=i then (if i<n then some i.toNat else none) else if-(n:Int)<=i then some (i+n).toNat else none
noncomputable def atI {α:Type}(xs:List α)(i:Int):Option α:=(ixN xs.length i).bind fun j=>xs[j]?
theorem zhA {n:Nat}{i:Int}{j:Nat}(h:ixN n i=some j):seqIndex? i n=some j/\j<n/\-(n:Int)<=i/\i<n:=by
 unfold ixN at h
 by_cases h0:0<=i
 ·rw [if_pos h0] at h
  by_cases h1:i<n
  ·rw [if_pos h1] at h
   have e:i.toNat=j:=Option.some.inj h
   exact⟨by rw[seqIndex_of h0 h1,e],by (first|lia|omega),by (first|lia|omega),h1⟩
  ·rw[if_neg h1] at h;cases h
 ·rw [if_neg h0] at h
  by_cases h1:-(n:Int)<=i
  ·rw [if_pos h1] at h
   have e:(i+n).toNat=j:=Option.some.inj h
   exact⟨by rw[seqIndex_neg (by (first|lia|omega)) h1,e],by (first|lia|omega),h1,by (first|lia|omega)⟩
  ·rw[if_neg h1] at h;cases h
theorem zhB {α:Type}{xs:List α}{i:Int}{v:α}(h:atI xs i=some v):∃j,seqIndex? i xs.length=some j/\xs[j]? =some v/\j<xs.length/\-(xs.length:Int)<=i/\i<xs.length:=by
 unfold atI at h
 cases e:ixN xs.length i with
 |none=>rw[e] at h;cases h
 |some j=>
  rw[e] at h
  obtain⟨h1,h2,h3,h4⟩:=zhA e
  exact⟨j,h1,h,h2,h3,h4⟩
theorem zai {α:Type}{xs:List α}{j:Nat}{v:α}(h:xs[j]? =some v):atI xs (j:Int)=some v:=by
 have hj:j<xs.length:=(List.getElem?_eq_some_iff.mp h).1
 have e:ixN xs.length (j:Int)=some j:=by
  unfold ixN
  rw[if_pos (by (first|lia|omega)),if_pos (by (first|lia|omega))];simp
 unfold atI;rw[e];exact h
noncomputable def zj8 (b:Expr):Prop:=∀o i,subscripted b false o i=operate [o,i] (getItem o i)
noncomputable def IxR (X:Cx)(r:R2):Prop:=
 ∀(value slice:Expr) (pins:List (Addr×Obj)) (s:Shared) (σ:St) (H:Hp) (x y:V) (v u:Value) (Q:VK),Inv X pins σ H s->RelV x v->RelV y u->r x y H Q->
  subscripted slice false v u=operate [v,u] (getItem v u)->wpAny (model X.prog X.w) X.A (subscriptTail value slice v u) (EP X pins σ Q) X.xe s
noncomputable def MtR (X:Cx)(id:String)(r:V->List V->Hp->VK->Prop):Prop:=
 ∀(pins:List (Addr×Obj)) (s:Shared) (σ:St) (H:Hp) (x:V) (xs:List V) (v:Value) (us:List Value) (Q:VK),Inv X pins σ H s->RelV x v->Vals xs us->r x xs H Q->
  wpAny (model X.prog X.w) X.A (call (.builtin id) (v::us)) (EP X pins σ Q) X.xe s
section
variable {X:Cx}{a b:Expr}{ta tb:TE}{pos:Pos}
theorem zan {r:R2}(hr:IxR X r)(ha:PE X a ta)(hb:PE X b tb)(hs:zj8 b):PE X (.Subscript a b pos) (tOp r ta tb):=by
 intro pins s σ H Q I h
 exact Subscript_ (binT ha hb I h fun v u s2 x y H2 I2 rx ry q=>hr a b pins s2 σ H2 x y v u Q I2 rx ry q (hs _ _))
noncomputable def rIxL (K:PySem.W.Frag):R2:=fun x y H Q=>∃p xs i v,x=.ref p/\y=.int i/\SqL K H p xs/\atI xs i=some v/\Q v H
noncomputable def rIxT (K:PySem.W.Frag):R2:=fun x y H Q=>∃p xs i v,x=.ref p/\y=.int i/\SqT K H p xs/\atI xs i=some v/\Q v H
theorem zbq:IxR X (rIxL X.K):=by
 intro value slice pins s σ H x y v u Q I rx ry h hs
 obtain⟨p,xs,i,z,rfl,rfl,hq,he,q⟩:=h
 cases rx
 obtain⟨t,rfl⟩:=ry
 obtain⟨its,r,pl,hz⟩:=I.list hq
 obtain⟨j,h1,h2,h3,h4,h5⟩:=zhB he
 obtain⟨w,ew,rw'⟩:=r.get h2
 have hl:=r.length
 have hn:=zd0
 have fin:EP X pins σ Q w s:=⟨z,H,I,rw',q⟩
 by_cases h0:0<=i
 ·have hj:i.toNat=j:=by
   rw[seqIndex_of h0 h5] at h1
   exact Option.some.inj h1
  exact item_listR pl.isList h0 (by (first|lia|omega)) (by rw[hj];simpa using ew) fin hs
 ·have hj:(i+(its.toArray.size:Int)).toNat=j:=by
   rw[seqIndex_neg (by (first|lia|omega)) h4] at h1
   rw[List.size_toArray,<-hl]
   exact Option.some.inj h1
  exact subscriptTail_builtinR (x:=w) pl.isList.typeIs slot_list_getitem.lookup
   (wpAny_getItem_list_neg (Q:=fun r s'=>r=w/\EP X pins σ Q r s') pl.isList (by (first|lia|omega)) (by rw[List.size_toArray]<;>(first|lia|omega)) (by (first|lia|omega)) (by rw[hj];simpa using ew) ⟨rfl,fin⟩) hs
theorem zam:IxR X (rIxT X.K):=by
 intro value slice pins s σ H x y v u Q I rx ry h hs
 obtain⟨p,xs,i,z,rfl,rfl,hq,he,q⟩:=h
 cases rx
 obtain⟨t,rfl⟩:=ry
 obtain⟨its,r,pl,hz⟩:=I.tuple hq
 obtain⟨j,h1,h2,h3,h4,h5⟩:=zhB he
 obtain⟨w,ew,rw'⟩:=r.get h2
 have hl:=r.length
 have hn:=zd0
 have fin:EP X pins σ Q w s:=⟨z,H,I,rw',q⟩
 exact subscriptTail_builtinR (x:=w) pl.typeIs slot_tuple_getitem.lookup
  (getItem_tuple (j:=j) (Q:=fun r s'=>r=w/\EP X pins σ Q r s') pl (by (first|lia|omega)) (by (first|lia|omega)) (by rw[List.size_toArray,<-hl];exact h1) (by simpa using ew) ⟨rfl,fin⟩) hs
theorem zgR (its:List Value)(n j:Nat)(u:Value):Obj.mapSeq (·.setIfInBounds j u) {cls:=.type "list",data:=.seq its.toArray n}={cls:=.type "list",data:=.seq (its.set j u).toArray n}:=by
 simp[Obj.mapSeq]
theorem Inv.lst {pins:List (Addr×Obj)}{σ:St}{H:Hp}{s:Shared}{p:Addr}{xs:List V}(I:Inv X pins σ H s)(h:H p=some (.lst xs)):
  ∃(its:List Value) (n:Nat),Vals xs its/\s.heap.get? p=some {cls:=.type "list",data:=.seq its.toArray n}/\xs.length<=sizeLine:=by
 obtain⟨z,its,n,r,e⟩:=I.hok p _ h
 exact⟨its,n,r,e,z⟩
theorem Inv.lstUpd {pins:List (Addr×Obj)}{σ:St}{H:Hp}{s:Shared}{p:Addr}{xs ys:List V}{its its':List Value}{n n':Nat}{f:Obj->Obj}(I:Inv X pins σ H s)(h:H p=some (.lst xs))
  (ho:s.heap.get? p=some {cls:=.type "list",data:=.seq its.toArray n}) (hf:f {cls:=.type "list",data:=.seq its.toArray n}={cls:=.type "list",data:=.seq its'.toArray n'}) (r:Vals ys its') (hz:ys.length<=sizeLine) (t:Nat):
  Inv X pins σ (upd H p (.lst ys)) {s with heap:=s.heap.update p f,toks:=t}:=by
 have e:(s.heap.update p f).get? p=some {cls:=.type "list",data:=.seq its'.toArray n'}:=by
  rw[Heap.get?_update_self f ho (by rw[hf]<;>rfl),hf]
 refine I.write (x:=p) (e:=p) (by rw[h];trivial) (.inl rfl) (fun b u hb q=>(Heap.get?_update_other _ _ (Ne.symm hb)).trans q) ⟨_,e⟩ ?_
 exact⟨hz,its',n',r,e⟩
noncomputable def zl8:V->V->V->Hp->(Hp->Prop)->Prop:=fun o i v H Q=>∃p xs k j,o=.ref p/\i=.int k/\H p=some (.lst xs)/\ixN xs.length k=some j/\Q (upd H p (.lst (xs.set j v)))
theorem zeg:PSet X zl8:=by
 intro pins s σ H o i v ov iv u Q I ro ri rv h
 obtain⟨p,xs,k,j,rfl,rfl,hp,hj,q⟩:=h
 cases ro
 obtain⟨t,rfl⟩:=ri
 obtain⟨its,n,r,ho,hz⟩:=I.lst hp
 obtain⟨h1,h2,h3,h4⟩:=zhA hj
 have hl:=r.length
 have hn:=zd0
 have I':Inv X pins σ (upd H p (.lst (xs.set j v))) {s with heap:=s.heap.update p (Obj.mapSeq (·.setIfInBounds j u))}:=
  I.lstUpd hp ho (zgR its n j u) (r.set rv j) (by rw[List.length_set];exact hz) s.toks
 by_cases h0:0<=k
 ·have hk:k.toNat=j:=by
   rw[seqIndex_of h0 h4] at h1
   exact Option.some.inj h1
  exact PySem.W.ki_setAt ho h0 (by (first|lia|omega)) (by rw[List.size_toArray,<-hl];exact h4) (by rw[hk];exact⟨_,I',q⟩)
 ·have hk:(k+(its.toArray.size:Int)).toNat=j:=by
   rw[seqIndex_neg (by (first|lia|omega)) h3] at h1
   rw[List.size_toArray,<-hl]
   exact Option.some.inj h1
  exact PySem.W.ki_setBack ho (by (first|lia|omega)) (by rw[List.size_toArray,<-hl];exact h3) (by (first|lia|omega)) (by rw[hk];exact⟨_,I',q⟩)
theorem zaw:zbF X (.builtin "len") (fun xs H Q=>∃p ys,xs=[.ref p]/\(SqL X.K H p ys∨SqT X.K H p ys)/\Q (.int ys.length) H):=by
 intro pins s σ H xs us Q I r h
 obtain⟨p,ys,rfl,hq,q⟩:=h
 obtain⟨u,rfl,rx⟩:=zcC r
 cases rx
 have hn:=zd0
 rcases hq with hq|hq
 ·obtain ⟨its,r',pl,hz⟩:=I.list hq
  have hlen:=r'.length
  exact Calls.call_len_list pl.isList (by simp only[List.size_toArray]<;>(first|lia|omega)) ⟨.int ys.length,H,I.tok _,⟨s.toks+1,by rw[List.size_toArray,hlen]⟩,q⟩
 ·obtain ⟨its,r',pl,hz⟩:=I.tuple hq
  have hlen:=r'.length
  exact len_tuple pl (by simp only[List.size_toArray]<;>(first|lia|omega)) ⟨.int ys.length,H,I.tok _,⟨s.toks+1,by rw[List.size_toArray,hlen]⟩,q⟩
theorem zaL:zbF X (.type "tuple") (fun xs H Q=>∃p ys,xs=[.ref p]/\((SqL X.K H p ys/\∀l,H l=none->Q (.ref l) (upd H l (.tup ys)))∨(SqT X.K H p ys/\Q (.ref p) H))):=by
 intro pins s σ H xs us Q I r h
 obtain⟨p,ys,rfl,h⟩:=h
 obtain⟨u,rfl,rx⟩:=zcC r
 cases rx
 rcases h with⟨hq,q⟩|⟨hq,q⟩
 ·obtain ⟨its,r',pl,hz⟩:=I.list hq
  have hlen:=r'.length
  refine call_tuple_list pl.isList (fun h' kp=> ?_) (by simp only[List.size_toArray]<;>(first|lia|omega))
  have I1:Inv X pins σ H {s with heap:=h'}:=I.kept (t':=s.toks) kp
  have I2:Inv X pins σ (upd H h'.objs.size (.tup ys)) {s with heap:=h'.push {cls:=.type "tuple",data:=.seq its.toArray}}:=
   I1.laid (t':=s.toks) (fun b o e=>Heap.get?_push_of_some _ e) (Nat.le_refl _) (show ObjOk X.prog X.w _ _ _ (.tup ys) from ⟨hz,its,r',PTup.new⟩)
  exact⟨.ref h'.objs.size,_,I2,rfl,q _ (I1.hok.fresh (Nat.le_refl _))⟩
 ·obtain ⟨its,r',pl,hz⟩:=I.tuple hq
  exact call_tuple_same pl ⟨.ref p,H,I,rfl,q⟩
noncomputable def tyV (K:PySem.W.Frag)(T:String)(x:V)(H:Hp):Prop:=match x with
 | .str _=>T= "str"
 | .int _=>T= "int"
 | .ref p=>(T= "list" /\∃xs,SqL K H p xs)∨(T= "tuple" /\∃o,K.lookup p=some o/\o.cls=.type "tuple" /\o.dict=none)∨
   (T= "dict" /\((∃kvs,H p=some (.dK kvs))∨∃kvs,H p=some (.dT kvs)))∨(T= "set" /\∃S n,H p=some (.set S n))
 |_=>False
theorem zjH {pins:List (Addr×Obj)}{σ:St}{H:Hp}{s:Shared}{T:String}{x:V}{v:Value}(I:Inv X pins σ H s)(r:RelV x v)(ty:tyV X.K T x H):
  s.TypeIs v T/\∀a,v=.ref a->∃ob,s.heap.get? a=some ob/\ob.dict=none:=by
 cases x with
 |str z=>
  obtain⟨t,rfl⟩:=r
  cases (show T= "str" from ty)
  exact⟨typeIs_str s z t,fun _ e=>nomatch e⟩
 |int i=>
  obtain⟨t,rfl⟩:=r
  cases (show T= "int" from ty)
  exact⟨typeIs_int s i t,fun _ e=>nomatch e⟩
 | ref p=>
  cases r
  rcases ty with⟨rfl,xs,hq⟩|⟨rfl,o,hk,hc,hd⟩|⟨rfl,hk⟩|⟨rfl,S,n,hk⟩
  ·obtain ⟨its,_,pl,_⟩:=I.list hq
   refine⟨pl.isList.typeIs,fun a e=> ?_⟩
   cases e
   obtain⟨o,n,e,c,hd,_⟩:=pl
   exact⟨o,e,hd⟩
  ·refine ⟨⟨o,I.kIn p o hk,hc⟩,fun a e=> ?_⟩
   cases e
   exact⟨o,I.kIn _ o hk,hd⟩
  ·have z:∃o,s.heap.get? p=some o/\o.ExactDict:=by
    rcases hk with⟨kvs,hk⟩|⟨kvs,hk⟩
    ·obtain ⟨_,_,_,_,o,_,_,e,ex,_⟩:=I.hok p _ hk
     exact⟨o,e,ex⟩
    ·obtain ⟨_,_,_,_,o,_,_,e,ex,_⟩:=I.hok p _ hk
     exact⟨o,e,ex⟩
   obtain⟨o,e,ex⟩:=z
   refine⟨⟨o,e,ex.1⟩,fun a e2=> ?_⟩
   cases e2
   exact⟨o,e,ex.2.1⟩
  ·obtain ⟨o,_,_,_,e,ex,_⟩:=I.hok p _ hk
   refine⟨⟨o,e,ex.1⟩,fun a e2=> ?_⟩
   cases e2
   exact⟨o,e,ex.2.1⟩
 |_=>exact False.elim ty
noncomputable def tBM0 (K:PySem.W.Frag)(T:String)(r:V->List V->Hp->VK->Prop)(to:TE):TE:=fun σ H Q=>to σ H fun x H1=>tyV K T x H1/\r x [] H1 Q
noncomputable def tBM (K:PySem.W.Frag)(T:String)(r:V->List V->Hp->VK->Prop)(to:TE)(t:TA):TE:=fun σ H Q=>to σ H fun x H1=>tyV K T x H1/\t σ H1 fun xs H2=>r x xs H2 Q
variable {o e:Expr}{es:List Expr}{to:TE}{t:TA}{name:Str}{apos cpos:Pos}{T id:String}{r:V->List V->Hp->VK->Prop}
theorem zjI (pa:PlainAttrs T)(slot:Slot T name id)(hty:typeOf (.builtin id)=pure (.type "method_descriptor"))(hm:MtR X id r)(ho:PE X o to)
  (hbase:attributeBase o name X.env (eval o X.env)=eval o X.env:=by rfl) (hline:(apos.endLine==cpos.line)=true:=by rfl):PE X (.Call (.Attribute o name apos) [] [] cpos) (tBM0 X.K T r to):=by
 intro pins s σ H Q I h
 refine wpAny_Call_method0_late hbase hline (thn (ho pins s σ H _ I h) fun v s1 zq=> ?_)
 obtain⟨x,H1,I1,r1,ty,q1⟩:=zq
 obtain⟨h1,h2⟩:=zjH I1 r1 ty
 exact⟨T,id,pa,slot,hty,h1,h2,Calls.callWith_builtin rfl (PySem.evalArgs_none (hm pins s1 σ H1 x [] v [] Q I1 r1 .nil q1))⟩
theorem zgS (pa:PlainAttrs T)(slot:Slot T name id)(hty:typeOf (.builtin id)=pure (.type "method_descriptor"))(hm:MtR X id r)(ho:PE X o to)(ha:PA X (e::es) t)
  (hbase:attributeBase o name X.env (eval o X.env)=eval o X.env:=by rfl)
  (hfew:((backTo cpos (starEach (e::es) X.env)).all (fun x=> !x.1)&&(backToKw cpos (keywordEach [] X.env)).all (fun x=>x.1.isSome)
   &&decide ((e::es).length+([]:List Keyword).length+(if ([]:List Keyword).isEmpty then 0 else 1)<30))=true:=by rfl)
  (hline:(apos.endLine==cpos.line)=true:=by rfl) (hs:starEach (e::es) X.env=(false,eval e X.env)::starEach es X.env:=by rfl) (hplain:(backTo cpos (starEach es X.env)).any (·.1)=false:=by rfl):
  PE X (.Call (.Attribute o name apos) (e::es) [] cpos) (tBM X.K T r to t):=by
 intro pins s σ H Q I h
 refine wpAny_Call_method_late hbase hfew hline rfl (thn (ho pins s σ H _ I h) fun v s1 zq=> ?_)
 obtain⟨x,H1,I1,r1,ty,q1⟩:=zq
 obtain⟨h1,h2⟩:=zjH I1 r1 ty
 refine⟨T,id,pa,slot,hty,h1,h2, ?_⟩
 have hA:=ha cpos pins s1 σ H1 _ I1 q1
 rw[hs] at hA ⊢
 refine Calls.callWith_builtin (by show (false||(backTo cpos (starEach es X.env)).any (·.1))=false;rw[hplain]<;>rfl) (Calls.evalArgs_plain ?_)
 exact thn hA fun us s2 ⟨vs,H2,I2,r2,q2⟩=>hm pins s2 σ H2 x vs v us Q I2 r1 r2 q2
end
noncomputable def MtM (X:Cx)(id:String)(r:V->List V->Hp->VK->Prop):Prop:=
 ∀(pins:List (Addr×Obj)) (s:Shared) (σ:St) (H:Hp) (x:V) (xs:List V) (v:Value) (us:List Value) (Q:VK),Inv X pins σ H s->RelV x v->Vals xs us->r x xs H Q->
  wpAny (model X.prog X.w) X.A (call (.builtin id) (v::us)) (EP X pins σ Q) X.xe s
theorem Vals.one:∀{x:V} {us:List Value},Vals [x] us->∃u,us=[u]/\RelV x u
 |_,_,.cons r .nil=>⟨_,rfl,r⟩
theorem Vals.rep {xs:List V}{us:List Value}(h:Vals xs us):∀k:Nat,Vals (List.replicate k xs).flatten (List.replicate k us).flatten
 |0=>.nil
 |k+1=>by
  rw[List.replicate_succ,List.replicate_succ,List.flatten_cons,List.flatten_cons]
  exact Vals.append h (Vals.rep h k)
theorem zeV (its:List Value):∀(k:Nat) (acc:List Value),
  List.foldl (fun x1 x2=>x1++x2) acc.toArray (List.replicate k its.toArray)=(acc++(List.replicate k its).flatten).toArray
 |0,acc=>by simp
 | k+1,acc=>by
  have e:acc.toArray++its.toArray=(acc++its).toArray:=by simp
  have e2:(acc++its)++(List.replicate k its).flatten=acc++(List.replicate (k+1) its).flatten:=by
   rw[List.replicate_succ,List.flatten_cons,List.append_assoc]
  rw[<-e2,<-zeV its k (acc++its),<-e,List.replicate_succ,List.foldl_cons]
section
variable {X:Cx}{pins:List (Addr×Obj)}{σ:St}{H:Hp}{s:Shared}{l b:Addr}{xs ys zs:List V}
theorem Inv.lset {its its':List Value}{n:Nat}{f:Array Value->Array Value}{t':Nat}(I:Inv X pins σ H s)(hH:H l=some (.lst xs))
  (e:s.heap.get? l=some {cls:=.type "list",data:=.seq its.toArray n}) (hf:f its.toArray=its'.toArray) (hv:Vals ys its') (hz:ys.length<=sizeLine):
  Inv X pins σ (upd H l (.lst ys)) {s with heap:=s.heap.update l (Obj.mapSeq f),toks:=t'}:=by
 have q:=PySem.IsL.update e f
 rw[hf] at q
 refine I.write (x:=l) (e:=l) (by rw[hH];exact trivial) (.inl rfl) (fun b' u hb hu=>(Heap.get?_update_other s.heap (Obj.mapSeq f) (Ne.symm hb)).trans hu) ⟨_,q⟩ ?_
 exact⟨hz,its',_,hv,q⟩
theorem Inv.lnew {its:List Value}{t':Nat}(I:Inv X pins σ H s)(hv:Vals ys its)(hz:ys.length<=sizeLine):
  Inv X pins σ (upd H s.heap.objs.size (.lst ys)) {s with heap:=s.heap.push {cls:=.type "list",data:=.seq its.toArray},toks:=t'}:=
 I.laid (fun _ _ q=>Heap.get?_push_of_some _ q) (Nat.le_refl _) ⟨hz,its,0,hv,Heap.get?_push_size _ rfl⟩
theorem Inv.fresh (I:Inv X pins σ H s):H s.heap.objs.size=none:=I.hok.fresh (Nat.le_refl _)
theorem Inv.lstM (I:Inv X pins σ H s)(hH:H l=some (.lst xs)):xs.length<=sizeLine/\∃(its:List Value) (n:Nat),Vals xs its/\xs.length=its.length/\s.heap.get? l=some {cls:=.type "list",data:=.seq its.toArray n}:=by
 obtain⟨z,its,n,r,e⟩:=I.hok l _ hH
 exact⟨z,its,n,r,r.length,e⟩
theorem zgh {n:Nat}(h:n<=sizeLine):Builtin.List.listTooLong n=false:=by
 unfold Builtin.List.listTooLong
 exact decide_eq_false (by (first|lia|omega))
end
section
variable {X:Cx}
noncomputable def zj9:V->List V->Hp->VK->Prop:=fun x vs H Q=>∃l xs y,x=.ref l/\vs=[y]/\H l=some (.lst xs)/\xs.length<sizeLine/\Q .non (upd H l (.lst (xs++[y])))
theorem zbU:MtM X "list.append" zj9:=by
 intro pins s σ H x vs v us Q I rx rv h
 obtain⟨l,xs,y,rfl,rfl,hH,hz,q⟩:=h
 cases rx
 obtain⟨u,rfl,ru⟩:=rv.one
 obtain⟨z,its,n,r,hl,e⟩:=I.lstM hH
 refine call_meets F.slot_list_append ⟨_,e,rfl⟩ F.entry_list_append (F.args_list_append_2 _ _) (PySem.list_append l its.toArray n u (by rw[List.size_toArray];(first|lia|omega))) ⟨e, ?_⟩
 refine⟨.non,_,I.lset (its':=its++[u]) hH e (by simp) (r.append (.cons ru .nil)) ?_,rfl,q⟩
 rw[List.length_append,List.length_singleton]
 (first|lia|omega)
noncomputable def zka:V->List V->Hp->VK->Prop:=fun x vs H Q=>∃l b xs zs,x=.ref l/\vs=[.ref b]/\H l=some (.lst xs)/\H b=some (.lst zs)/\xs.length+zs.length<=sizeLine/\Q .non (upd H l (.lst (xs++zs)))
theorem zeW:MtM X "list.extend" zka:=by
 intro pins s σ H x vs v us Q I rx rv h
 obtain⟨l,b,xs,zs,rfl,rfl,hH,hB,hz,q⟩:=h
 cases rx
 obtain⟨u,rfl,ru⟩:=rv.one
 cases ru
 obtain⟨z,its,n,r,hl,e⟩:=I.lstM hH
 obtain⟨z2,its2,n2,r2,hl2,e2⟩:=I.lstM hB
 have hsz:its.toArray.size+its2.toArray.size<=sizeLine:=by rw[List.size_toArray,List.size_toArray];(first|lia|omega)
 have hlong:¬(!its.toArray.isEmpty&&Builtin.List.listTooLong (its.toArray.size+its2.toArray.size))=true:=by
  rw[zgh hsz,Bool.and_false]
  exact Bool.false_ne_true
 refine call_meets F.slot_list_extend ⟨_,e,rfl⟩ F.entry_list_extend (F.args_list_extend_2 _ _)
  (AutoSeq1.list_extend_list_list_0 l its.toArray n b its2.toArray n2 hlong (by rw[List.size_toArray];(first|lia|omega)) (by (first|lia|omega))) ⟨e,e2, ?_⟩
 refine⟨.non,_,I.lset (its':=its++its2) hH e (by simp) (r.append r2) ?_,rfl,q⟩
 rw[List.length_append]
 (first|lia|omega)
noncomputable def rCat:R2:=fun x y H Q=>∃l b xs zs,x=.ref l/\y=.ref b/\H l=some (.lst xs)/\H b=some (.lst zs)/\xs.length+zs.length<=sizeLine/\∀p,H p=none->Q (.ref p) (upd H p (.lst (xs++zs)))
theorem zjJ:OpR X (binaryOp .Add) rCat:=by
 intro pins s σ H x y v u Q I rx ry h
 obtain⟨l,b,xs,zs,rfl,rfl,hH,hB,hz,q⟩:=h
 cases rx
 cases ry
 obtain⟨z,its,n,r,hl,e⟩:=I.lstM hH
 obtain⟨z2,its2,n2,r2,hl2,e2⟩:=I.lstM hB
 refine PySem.P.add_list e e2 ?_ (by rw[List.size_toArray,List.size_toArray];(first|lia|omega))
 have ea:its.toArray++its2.toArray=(its++its2).toArray:=by simp
 rw[ea]
 exact⟨.ref _,_,I.lnew (t':=s.toks) (r.append r2) (by rw[List.length_append];(first|lia|omega)),rfl,q _ I.fresh⟩
noncomputable def rRep:R2:=fun x y H Q=>∃l k xs,x=.ref l/\y=.int k/\H l=some (.lst xs)/\-(2^63)<=k/\k<2^63/\xs.length*k.toNat<=sizeLine/\
 ∀p,H p=none->Q (.ref p) (upd H p (.lst (List.replicate k.toNat xs).flatten))
theorem zkb {α:Type}(xs:List α)(k:Nat):(List.replicate k xs).flatten.length=k*xs.length:=by
 induction k with
 |zero=>simp
 |succ k ih=>rw[List.replicate_succ,List.flatten_cons,List.length_append,ih,Nat.succ_mul,Nat.add_comm]
theorem zk9:OpR X (binaryOp .Mult) rRep:=by
 intro pins s σ H x y v u Q I rx ry h
 obtain⟨l,k,xs,rfl,rfl,hH,h1,h2,hz,q⟩:=h
 cases rx
 obtain⟨t,rfl⟩:=ry
 obtain⟨z,its,n,r,hl,e⟩:=I.lstM hH
 have hlen:its.toArray.size*k.toNat<=sizeLine:=by rw[List.size_toArray,<-hl];exact hz
 have hcap:¬its.toArray.size*k.toNat>(2^63-1)/8:=by
  have:(sizeLine:Nat)<=(2^63-1)/8:=by decide
  (first|lia|omega)
 have hfit:¬(!Builtin.List.listFitsIndex k)=true:=by
  rw[fitsIndex_both h1 h2]
  exact Bool.false_ne_true
 have hlong:¬Builtin.List.listTooLong (its.toArray.size*k.toNat)=true:=by
  rw[zgh hlen]
  exact Bool.false_ne_true
 have hnew:List.foldl (fun x1 x2=>x1++x2) #[] (List.replicate (if its.toArray.isEmpty=true then 0 else k.toNat) its.toArray)=(List.replicate k.toNat its).flatten.toArray:=by
  have f0:∀m:Nat,List.foldl (fun x1 x2=>x1++x2) #[] (List.replicate m its.toArray)=(List.replicate m its).flatten.toArray:=fun m=>by
   have:=zeV its m []
   rw[List.nil_append] at this
   exact this
  rw[f0]
  cases its with
  |nil=>simp
  |cons a r'=>rw[if_neg (by simp)]
 refine wpAny_binaryOp_repeat_ref (T:= "list") (U:= "int") (by decide) ⟨_,e,rfl⟩ (fun s'=>typeIs_int s' k t) noFill_list_mul F.fills_int_mul F.slot_int_rmul repeat_list F.slot_int_index.lookup
  (call_meets F.slot_int_rmul (typeIs_int s k t) F.entry_int_rmul (F.args_int_rmul_2 _ _) (int___rmul___int_list k t l its.toArray n)
   ⟨e,rfl,⟨_,e,rfl⟩,call_meets F.slot_list_mul ⟨_,e,rfl⟩ F.entry_list_mul (F.args_list_mul_2 _ _) (AutoListH.list___mul___list_int_3 l its.toArray n k t hfit hcap hlong) ⟨e, ?_⟩⟩)
 rw[hnew]
 exact⟨.ref _,_,I.lnew (t':=s.toks) (r.rep k.toNat) (by rw[zkb,Nat.mul_comm];exact hz),rfl,q _ I.fresh⟩
end
section
variable {prog:Program}{w:World}{A:Around}{E:Value->Shared->Prop}{s:Shared}
end
section
variable {X:Cx}
end
end L2
namespace Att
open PySem PySem.W PySem.Calls PyProof.Rows
theorem zde {P:Params}{h:Heap}:∀(ns:List Int) (vs:List Value),WellAll P h vs (ns.map WData.int)->IntsAre vs ns:=by
 intro ns
 induction ns with
 |nil=>
  intro vs w
  rw[List.map_nil] at w
  cases w
  exact .nil
 | cons n ns ih=>
  intro vs w
  rw[List.map_cons] at w
  cases w with
  |cons a b=>
   cases a
   exact .cons _ _ (ih _ b)
theorem zhC {l:OpenLaw}{n:Nat}(hn:l.most=some n){P:Params}{h:Heap}{args:List WData}{vals:List Value}
  (hpre:l.row.toRowW.claim.pre args=true) (hwl:WellAll P h vals args):
  ∃a vs ns,vals=[Value.ref a]/\args=[WData.list (ns.map WData.int)]/\h.get? a=some {cls:=.type "list",data:=.seq vs.toArray}/\IntsAre vs ns/\ns.length<=n:=by
 have hsh:WShape.hasAll [] args [.list .int]=true:=(pre_splitW hpre).1
 have hc:l.pre.holds [] {args:=args}=true:=(pre_splitW hpre).2
 obtain⟨d,r,rfl,h1,h2⟩:=hasAllW_cons hsh
 obtain rfl:=hasAllW_nil h2
 obtain⟨xs,rfl,h3⟩:=hasW_list h1
 obtain⟨ns,rfl⟩:=items_int h3
 have hlen:ns.length<=n:=by
  unfold OpenLaw.pre at hc
  have h4:(WTm.not (.lt (.lit (.int (n:Int))) (.len (.arg 0)))).holds [] {args:=[.list (ns.map .int)]}=true:=by
   have h4:=(holds_andW hc).1
   rw[hn] at h4
   exact h4
  have h5:=condW_of h4 (w_not (w_lt w_lit (w_len_list (w_arg rfl))))
  rw[List.length_map] at h5
  refine Nat.le_of_not_lt fun q=> ?_
  have q':(n:Int)<((ns.length:Nat):Int):=by (first|lia|omega)
  first
   |(rw[decide_eq_true q'] at h5;exact absurd h5 (by decide))
   |(simp at h5;(first|lia|omega))
 cases hwl with
 |cons w1 w2=>
  cases w2
  cases w1 with
  |list ho hall=>exact⟨_,_,ns,rfl,rfl,ho,zde ns _ hall,hlen⟩
theorem zhD (l:OpenLaw)(args:List WData):l.row.toRowW.claim.post args (.bool true) args=true:=
 postW_of (r:=l.row.toRowW) (X:=(true==true))
  (show WShape.has [] (.bool true) .bool=true by first|rfl|decide|simp[WShape.has,WShape.arms,WShape.armsAll])
  (show (WTm.eq .res (.lit (.bool true))).value [] {args:=args,res:=some (.bool true),after:=args}=some (.bool (true==true)) from w_eq_bool (w_res rfl) w_lit) rfl
theorem attach_call {l:OpenLaw}{n:Nat}{q:Program}{loose:List Str}{XP:(Str->Option Value)->Heap->Prop}{YP:World->Heap->Prop}{d:DefRec}
  (hn:l.most=some n) (hdf:d.params.defaults=[])
  (call:∀(w:World) (s₀ s₁:Shared) (mg mb:Str->Option Value) (fa:Addr) (o:Obj) (pm cd doc:Value) (a:Addr) (vs:List Value) (ns:List Int),
   Ground q loose [] XP w s₀ mg mb s₁.heap->YP w s₁.heap->
   s₁.heap.get? fa=some o->o.data=.func (docDef d.name d.params d.body d.scope pm cd doc)->s₁.heap.CodeRec cd d.name->mg d.name=some (.ref fa)->
   s₁.heap.get? a=some {cls:=.type "list",data:=.seq vs.toArray}->IntsAre vs ns->ns.length<=n->s₁.gens=#[]->
   codeAny (model l.prog w) callerA (.call (.ref fa) ⟨[.ref a],[]⟩) (fun r s'=>r=.ok (.ret (.bool true))/\OldK s₁.heap s'.heap/\s'.os=s₁.os/\AllBare s'.gens) s₁):
  WalkO q loose XP YP l.row.toRowW d [] (fun f vs=>PySem.call f vs):=by
 intro w s₀ s₁ mg mb G Y fa o pm cd doc dV kV ho hd hcd hD hmg hg args vals as hpre hlay hrd hwl hlo
 obtain rfl:dV=.none:=Dflts.none hD hdf
 obtain rfl:kV=.none:=Dflts.noKw hD
 obtain⟨a,vs,ns,rfl,rfl,hobj,hints,hlen⟩:=zhC hn hpre hwl
 refine enter_call (codeAny_mono (call w s₀ s₁ mg mb fa o pm cd doc a vs ns G Y ho (fd_plain hd) hcd hmg hobj hints hlen hg) fun r s' hq=> ?_)
 obtain⟨rfl,h2,h3,h4⟩:=hq
 exact⟨.inl ⟨.bool true,.bool true,[],rfl,fun _=>rfl,.bool true,zhD l _,fun _=>⟨List.Pairwise.nil,fun _ hm=>(nomatch hm)⟩⟩,h2,h3,h4⟩
section
variable {prog:Program}{w:World}{A:Around}{E:Value->Shared->Prop}{s:Shared}{K:Frag}
end
end Att
namespace L2
open PySem PySem.Spec PyProof.Rows
theorem zeX:∀{vs:List Value} {ns:List Int},IntsAre vs ns->Vals (ns.map V.int) vs
 |_,_,.nil=>.nil
 |_,_,.cons n t h=>.cons ⟨t,rfl⟩ (zeX h)
noncomputable def Only (H:Hp):Prop:=∀b,H b=none∨∃o xs,H b=some (.frz o (.lst xs))
theorem ziJ {P:Program}{w:World}{K:PySem.W.Frag}{mg mb:Str->Option Value}{CX:CXT}{k:Nat}{fa a:Addr}{fd:FuncData}{x:Str}{sp:Sp}{s₁:Shared}{vs:List Value}{ns:List Int}
  (KX:K.In s₁.heap) (hns:s₁.heap.Ns mainGlobals mg) (hb:s₁.heap.Ns builtinsNs mb) (hbb:∀x:Str,x≠ "__name__" ->mb x=bootBuiltins x) (hlim:s₁.heap.NoLimit) (hg:s₁.gens=#[])
  (ha:s₁.heap.get? a=some {cls:=.type "list",data:=.seq vs.toArray}) (hi:IntsAre vs ns) (hl:ns.length<=sizeLine) (hr:Room k callerA)
  (F:∀base:Heap,K.In base->base.Ns mainGlobals mg->FnOk P w K mg base CX k fa fd [x] sp) (hbind:∀(s:Shared) (u:Value),BindsTo s fd ⟨[u],[]⟩ [(x,u)])
  (hsp:∀H:Hp,Only H->SqL K H a (ns.map V.int)->sp [.ref a] H (fun v _=>v=.bl true) fun _ _ _=>False)
  (hCX:∀H e s',CX [] H s₁ (fun _ _ _=>False) e s'->False):
  codeAny (model P w) callerA (.call (.ref fa) ⟨[.ref a],[]⟩) (fun r s'=>r=.ok (.ret (.bool true))/\OldK s₁.heap s'.heap/\s'.os=s₁.os/\AllBare s'.gens) s₁:=by
 have rv:=zeX hi
 have lenV:=hi.length
 have core:∀H:Hp,Only H->SqL K H a (ns.map V.int)->HOk P w H s₁.heap->(∀b,H b≠none->b=a)->(H a≠none->K.lookup a=none)->
   codeAny (model P w) callerA (.call (.ref fa) ⟨[.ref a],[]⟩) (fun r s'=>r=.ok (.ret (.bool true))/\OldK s₁.heap s'.heap/\s'.os=s₁.os/\AllBare s'.gens) s₁:=by
  intro H hO hS hok hA hK
  have base_of:∀{b:Addr} {o:Obj},s₁.heap.get? b=some o->H b=none->(hidT s₁.heap H).get? b=some o:=fun e n=>ziF e n
  have noA:∀{b:Addr} {o:Obj} {es:Array DictEntry} {ep:Nat},s₁.heap.get? b=some o->o.data=.dict es ep->H b=none:=fun {b o es ep} e d=>by
   cases q:H b with
   |none=>rfl
   |some u=>
    have e':b=a:=hA b (by rw[q];simp)
    subst e'
    rw[ha] at e;cases e
    have d':Data.seq vs.toArray _=Data.dict es ep:=d
    cases d'
  have nsK:∀{b:Addr} {m:Str->Option Value},s₁.heap.Ns b m->(hidT s₁.heap H).Ns b m:=fun {b m} ⟨o,es,ep,e,d,r⟩=>⟨o,es,ep,base_of e (noA e d),d,r⟩
  have hKb:K.In (hidT s₁.heap H):=fun b o e=>base_of (KX b o e) (by
   cases q:H b with
   |none=>rfl
   |some u=>
    have e':b=a:=hA b (by rw[q];simp)
    subst e'
    rw[hK (by rw[q];simp)] at e;cases e)
  have hM:Mod K mg (hidT s₁.heap H):=⟨hKb,nsK hns,⟨mb,nsK hb,hbb⟩,let ⟨mc,h1,h2⟩:=hlim;⟨mc,nsK h1,h2⟩⟩
  have e0:Env0 P w K mg (hidT s₁.heap H) callerA [] s₁ H:=⟨rfl,hM,fun b o e=>zjY e,Nat.le_of_eq (zhj _ _),trivial,fun b hb=>absurd (show b∈([]:List Addr) from hb) (by simp),hok,.of_eq hg⟩
  refine codeAny_mono ((F _ hKb (nsK hns)).run callerA [] s₁ H ⟨[.ref a],[]⟩ [.ref a] [.ref a] _ _ hr e0 (hbind s₁ (.ref a)) (.cons rfl .nil) (hsp H hO hS)) fun r s' h=> ?_
  cases r with
  |error e=>exact (hCX H e s' h).elim
  | ok fl=>
   cases fl with
   |next=>exact False.elim h
   |brk=>exact False.elim h
   |cont=>exact False.elim h
   | ret u=>
    obtain⟨v,H',os,bare,un,hok',r',q⟩:=h
    have q':v=.bl true:=q
    subst q'
    obtain rfl:u=Value.bool true:=r'
    refine⟨rfl,OldK.of_keep fun b o e=> ?_,os,bare⟩
    cases q:H b with
    |none=>exact un.keep b o e q (by intro z;exact absurd (show b∈([]:List Addr) from z) (by simp)) (by simp)
    | some u=>
     rcases hO b with z|⟨ob,xs,z⟩
     ·rw[q] at z;cases z
     ·have z2:=un.frzs b ob _ z
      obtain⟨e1,_⟩:=hok b _ z
      obtain⟨e2,_⟩:=hok' b _ z2
      rw[e] at e1;cases e1
      exact e2
 cases hk:K.lookup a with
 |some o=>
  have e:=KX a o hk
  rw[ha] at e
  cases e
  refine core (fun _=>none) (fun _=>.inl rfl) (.inr ⟨_,vs.toArray,_,hk,rfl,rfl,rfl,by rw[List.size_toArray,lenV];exact hl,by simpa using rv⟩) (fun b u z=>by have z':(none:Option HO)=some u:=z;cases z') (fun b z=>absurd rfl z) fun z=>absurd rfl z
 | none=>
  refine core (fun b=>if b=a then some (.frz {cls:=.type "list",data:=.seq vs.toArray} (.lst (ns.map V.int))) else none) (fun b=> ?_) (.inl (.inr ⟨{cls:=.type "list",data:=.seq vs.toArray},if_pos rfl⟩)) (fun b u z=> ?_) (fun b z=> ?_) fun _=>hk
  ·by_cases hb:b=a
   ·exact .inr ⟨_,_,if_pos hb⟩
   ·exact .inl (if_neg hb)
  ·by_cases hb:b=a
   ·have z':=(if_pos hb).symm.trans z
    cases z'
    subst hb
    exact⟨ha,by rw[List.length_map];exact hl,vs,_,rv,ha⟩
   ·have z':=(if_neg hb).symm.trans z
    cases z'
  ·by_cases hb:b=a
   ·exact hb
   ·exact absurd (if_neg hb) z
theorem zkc {l:PySem.W.OpenLaw}{n k:Nat}{q:Program}{loose:List Str}{XP:(Str->Option Value)->Heap->Prop}{YP:World->Heap->Prop}{d:DefRec}{K:Params->PySem.W.Frag}{CX:World->CXT}{sp:World->Sp}{x:Str}
  (hn:l.most=some n) (hn2:n<=sizeLine) (hdf:d.params.defaults=[]) (hr:Room k callerA)
  (hY:∀(w:World) (h:Heap),YP w h->(K w.params).In h)
  (F:∀(w:World) (mg:Str->Option Value) (fa:Addr) (h:Heap),(K w.params).In h->h.Ns mainGlobals mg->mg d.name=some (.ref fa)->
   ∃fd:FuncData,(∀(s:Shared) (u:Value),BindsTo s fd ⟨[u],[]⟩ [(x,u)])/\
    ∀base:Heap,(K w.params).In base->base.Ns mainGlobals mg->FnOk l.prog w (K w.params) mg base (CX w) k fa fd [x] (sp w))
  (hsp:∀(w:World) (H:Hp) (a:Addr) (ns:List Int),ns.length<=n->Only H->SqL (K w.params) H a (ns.map V.int)->sp w [.ref a] H (fun v _=>v=.bl true) fun _ _ _=>False)
  (hCX:∀(w:World) (H:Hp) (s:Shared) (e:Value) (s':Shared),CX w [] H s (fun _ _ _=>False) e s'->False):
  PySem.W.WalkO q loose XP YP l.row.toRowW d [] (fun f vs=>PySem.call f vs):=by
 refine Att.attach_call hn hdf fun w s₀ s₁ mg mb fa o pm cd doc a vs ns G Y ho hd hcd hmg hobj hints hlen hg=> ?_
 have KX:=hY w _ Y
 obtain⟨fd,hb,hF⟩:=F w mg fa _ KX G.T.g hmg
 exact ziJ KX G.T.g G.T.b G.T.builtins G.T.nolimit hg hobj hints (Nat.le_trans hlen hn2) hr hF hb (fun H hO hS=>hsp w H a ns hlen hO hS) fun H e s'=>hCX w H s₁ e s'
noncomputable def za6 (s:Stmt):Arguments:=match s with
 | .FunctionDef _ a _ _ _ _ _ _ _ _=>a
 |_=>{posonlyargs:=[],args:=[],vararg:=none,kwonlyargs:=[],kw_defaults:=[],kwarg:=none,defaults:=[]}
noncomputable def zaS (s:Stmt):List Stmt:=match s with
 | .FunctionDef _ _ b _ _ _ _ _ _ _=>b
 |_=>[]
noncomputable def zag (s:Stmt):Scope:=match s with
 | .FunctionDef _ _ _ _ _ _ sc _ _ _=>sc
 |_=>{kind:=.function,names:=[],isGenerator:=false,isCoroutine:=false}
noncomputable abbrev CX0:CXT:=fun _ _ _ _ _ _=>False
noncomputable abbrev E0:XK:=fun _ _ _=>False
theorem zla {X:Cx}:zhx CX0 X E0:=fun _ _ _ _ _ _ _ h=>h.elim
structure Fun (K:PySem.W.Frag) (x qual:Str) (st:Stmt) (f:Addr) (fd:FuncData):Prop where
 ex:∃(oc:Value) (od:Option Addr) (kV doc pm:Value) (an:Option Addr) (cdv ct:Value) (osl:Array (Option Value)),
  fd=PySem.W.fnOf x qual (za6 st) (zaS st) (zag st) .none kV doc pm an cdv ct/\K.lookup f=some ⟨oc,od,.func fd,osl⟩/\PySem.W.codeIn K cdv qual=true
 kp:PySem.W.keepIn K (.ref f)=true
section
variable {P:Program}{w:World}{K:PySem.W.Frag}{mg:Str->Option Value}{base:Heap}
theorem Fun.ok {x qual:Str}{st:Stmt}{f:Addr}{fd:FuncData}{N ps:List Str}{k:Nat}{sp:Sp}(F:Fun K x qual st f fd)(S:FnScope N ps (zag st))(len:∀vs H Q E,sp vs H Q E->vs.length=ps.length)
  (hbody:∀(cdv:Value) (A:Around) (outer:List Env) (s:Shared) (H:Hp) (vs:List V) (Q:VK) (E:XK),Room k (A.deeper (envOfC qual (zag st) s.heap.objs.size f cdv))->sp vs H Q E->
   ∃t,PSs (cxOf CX0 P w K mg base N qual (zag st) f cdv A outer s H E).nox (zaS st) t/\t {nx:=fun _ H'=>Q .non H',rt:=Q} (zeU N vs) H):FnOk P w K mg base CX0 (k+1) f fd ps sp:=by
 obtain⟨oc,od,kV,doc,pm,an,cdv,ct,osl,rfl,lk,hcd⟩:=F.ex
 refine zl5 lk hcd S len fun A outer s H vs Q E hr hsp=> ?_
 obtain⟨t,h,q⟩:=hbody cdv A outer s H vs Q E hr hsp
 exact⟨t,h.nox,q⟩
theorem Fun.binds {x qual:Str}{st:Stmt}{f:Addr}{fd:FuncData}{ps:List Str}(F:Fun K x qual st f fd)
  (h:∀(kV doc pm:Value) (an:Option Addr) (cdv ct:Value) (us:List Value),us.length=ps.length->bindArgs (PySem.W.fnOf x qual (za6 st) (zaS st) (zag st) .none kV doc pm an cdv ct) ⟨us,[]⟩=pure (ps.zip us)):Binds K fd ps []:=by
 obtain⟨oc,od,kV,doc,pm,an,cdv,ct,osl,rfl,lk,hcd⟩:=F.ex
 exact .all (h kV doc pm an cdv ct)
theorem zlb {x qual:Str}{st:Stmt}{f:Addr}{oc:Value}{od an:Option Addr}{osl:Array (Option Value)}{kV doc pm cdv ct:Value}(l:K.lookup f=some ⟨oc,od,.func (PySem.W.fnOf x qual (za6 st) (zaS st) (zag st) .none kV doc pm an cdv ct),osl⟩)
  (c:PySem.W.codeIn K cdv qual=true) (k:PySem.W.keepIn K (.ref f)=true):Fun K x qual st f (PySem.W.fnOf x qual (za6 st) (zaS st) (zag st) .none kV doc pm an cdv ct):=⟨⟨oc,od,kV,doc,pm,an,cdv,ct,osl,rfl,l,c⟩,k⟩
end
theorem zlc {A:Around}{k:Nat}(hr:Room k A):A.units+1<cLine:=Nat.lt_of_le_of_lt (Nat.add_le_add_left (by decide:1<=64) _) hr.units
section
variable {X:Cx}
theorem pv (i:Nat){x:Str}{pos:Pos}(hN:X.N[i]? =some x:=by rfl)(hv:Vis X.env.scope x:=by first|exact Or.inl rfl|exact Or.inr (Or.inl rfl)|exact Or.inr (Or.inr rfl))(hd:(x==("__debug__" :Str))=false:=by decide)
  (hcd:(x==("__classdict__" :Str))=false:=by decide):PE X (.Name x pos) (tVar i):=zkY hN hv hd hcd
end
theorem iteF {A B:Prop}(h:B):if false=true then A else B:=by
 rw[if_neg Bool.false_ne_true]
 exact h
theorem iteT {A B:Prop}(h:A):if true=true then A else B:=by
 rw[if_pos rfl]
 exact h
theorem ite2 {c A B:Prop}[Decidable c](h1:c->A)(h2:¬c->B):if c then A else B:=by
 by_cases h:c
 ·rw [if_pos h]
  exact h1 h
 ·rw [if_neg h]
  exact h2 h
theorem zl9 {c A B:Prop}[Decidable c](hc:c)(h:B):if (!decide c)=true then A else B:=by
 rw[decide_eq_true hc]
 exact iteF h
noncomputable def Same (H H':Hp):Prop:=∀b o,H b=some o->H' b=some o
theorem Same.refl (H:Hp):Same H H:=fun _ _ h=>h
theorem Same.trans {H H1 H2:Hp}(a:Same H H1)(b:Same H1 H2):Same H H2:=fun c o h=>b c o (a c o h)
theorem Same.free {H H':Hp}(e:Same H H'){l:Addr}(h:H' l=Option.none):H l=Option.none:=by
 cases q:H l with
 |none=>rfl
 |some o=>
  rw[e l o q] at h
  cases h
theorem Same.seq {K:PySem.W.Frag}{H H':Hp}{a:Addr}{xs:List V}(e:Same H H')(h:SqL K H a xs):SqL K H' a xs:=by
 rcases h with (h|⟨o,h⟩)|h
 ·exact .inl (.inl (e _ _ h))
 ·exact .inl (.inr ⟨o,e _ _ h⟩)
 ·exact .inr h
theorem zd2 {env:Env}{scope:Scope}(h:∀y∈scope.names,y.2=.free->∃c,env.cells.lookup y.1=some c):
  ∃cl,closureFor scope env=pure cl/\(∀x c,cl.lookup x=some c->env.cells.lookup x=some c)/\∀y∈scope.names,y.2=.free->cl.lookup y.1=env.cells.lookup y.1:=by
 have go:∀(names:List (Str×NameKind)) (acc:List (Str×Addr)),(∀y∈names,y.2=.free->∃c,env.cells.lookup y.1=some c)->
   (∀x c,acc.lookup x=some c->env.cells.lookup x=some c)->
   ∃cl,(forIn names acc (fun (y:Str×NameKind) (cs:List (Str×Addr))=>if (y.2==.free)=true then (do let c<-cellOf env y.1;pure (ForInStep.yield ((y.1,c)::cs))) else pure (ForInStep.yield cs)):Sem (List (Str×Addr)))=pure cl/\
    (∀x c,cl.lookup x=some c->env.cells.lookup x=some c)/\(∀x c,acc.lookup x=some c->cl.lookup x=some c)/\∀y∈names,y.2=.free->cl.lookup y.1=env.cells.lookup y.1:=by
  intro names
  induction names with
  |nil=>intro acc _ ha;exact⟨acc,rfl,ha,fun _ _ h=>h,fun y hy=>nomatch hy⟩
  | cons y r ih=>
   intro acc hn ha
   obtain⟨n,k⟩:=y
   by_cases hk:k=.free
   ·subst hk
    obtain⟨c,hc⟩:=hn (n,.free) List.mem_cons_self rfl
    have ha':∀x d,(((n,c)::acc:List (Str×Addr))).lookup x=some d->env.cells.lookup x=some d:=fun x d e=>by
     rw[List.lookup_cons] at e
     cases hx:x==n with
     |true=>
      rw[hx] at e
      have e1:x=n:=eq_of_beq hx
      subst e1
      cases e
      exact hc
     |false=>rw[hx] at e;exact ha x d e
    obtain⟨cl,e,h1,h2,h3⟩:=ih ((n,c)::acc) (fun y hy=>hn y (List.mem_cons_of_mem _ hy)) ha'
    refine⟨cl, ?_,h1,fun x d e=> ?_,fun y hy hf=> ?_⟩
    ·rw [List.forIn_cons]
     have ec:cellOf env n=pure c:=by unfold cellOf;rw[hc]
     simp only[beq_self_eq_true,if_true]
     rw[ec]
     exact e
    ·have e':=ha x d e
     by_cases hx:x=n
     ·subst hx
      rw[hc] at e';cases e'
      exact h2 x c (by rw[List.lookup_cons];simp)
     ·exact h2 x d (by rw[List.lookup_cons,beq_eq_false_iff_ne.mpr hx];exact e)
    ·rcases List.mem_cons.mp hy with rfl|hy
     ·show cl.lookup n=env.cells.lookup n
      rw[hc]
      exact h2 n c (by rw[List.lookup_cons];simp)
     ·exact h3 y hy hf
   ·obtain ⟨cl,e,h1,h2,h3⟩:=ih acc (fun y hy=>hn y (List.mem_cons_of_mem _ hy)) ha
    refine⟨cl, ?_,h1,h2,fun y hy hf=> ?_⟩
    ·rw [List.forIn_cons]
     have:(k==NameKind.free)=false:=by simpa using hk
     simp only[this,Bool.false_eq_true,if_false]
     exact e
    ·rcases List.mem_cons.mp hy with rfl|hy
     ·exact absurd hf hk
     ·exact h3 y hy hf
 obtain⟨cl,e,h1,_,h3⟩:=go scope.names [] h (fun x c e=>by simp at e)
 refine⟨cl, ?_,h1,h3⟩
 unfold closureFor
 exact (congrArg (fun m=>m >>= fun r=>pure r) e).trans rfl
noncomputable def zcm (n:Nat)(ix:List Nat)(σ:St):St:=List.replicate n none++ix.map fun i=>σ.getD i none
noncomputable def Cx.comp (X:Cx)(s₂:Shared)(H₂:Hp)(N':List Str)(scope:Scope)(cl:List (Str×Addr))(C:Addr)(fp:List Addr):Cx:=
 {X with N:=N',s₀:=s₂,H₀:=H₂,env:=compEnvC scope cl C X.env,outer:=X.stack,stack:=X.stack,ex:=fp,fn:=fun _=>false,pn:=[],xe:=fun _ _=>False}
structure CompScope (X:Cx) (scope:Scope) (N':List Str) (n:Nat) (ix:List Nat):Prop where
 kind:scope.kind=.function
 nocell:∀y∈scope.names,y.2≠.cell
 names:∀y∈scope.names,y.2=.local->scope.names.lookup y.1=some .local
 free:∀y∈scope.names,y.2=.free->X.env.scope.names.lookup y.1=some .cell∨X.env.scope.names.lookup y.1=some .free
 nodup:∀y:Str,(y,NameKind.free)∈scope.names->scope.names.lookup y=some .local->False
 len:N'.length=n+ix.length
 at_:∀(j i:Nat),ix[j]? =some i->∃x,N'[n+j]? =some x/\X.N[i]? =some x/\(x,NameKind.free)∈scope.names
theorem za2 {env:Env}{scope:Scope}(x:Str):(relabel scope env).names.lookup x=(scope.names.lookup x).map fun k=>if (k==.free&&env.scope.kind==.function&&env.kindOf x==some .cell) then .cell else k:=by
 show (scope.names.map fun (n,k)=>if (k==NameKind.free&&env.scope.kind==.function&&env.kindOf n==some .cell) then (n,NameKind.cell) else (n,k)).lookup x=_
 generalize scope.names=l
 induction l with
 |nil=>rfl
 | cons y r ih=>
  obtain⟨n,k⟩:=y
  rw[List.map_cons,List.lookup_cons]
  cases hx:x==n with
  | true=>
   have e:x=n:=eq_of_beq hx
   subst e
   by_cases hc:(k==NameKind.free&&env.scope.kind==.function&&env.kindOf x==some .cell)=true
   ·rw [if_pos hc,List.lookup_cons]
    simp only[beq_self_eq_true]
    show some NameKind.cell=some (ite _ _ _)
    rw[if_pos hc]
   ·rw [if_neg hc,List.lookup_cons]
    simp only[beq_self_eq_true]
    show some k=some (ite _ _ _)
    rw[if_neg hc]
  |false=>
   by_cases hc:(k==NameKind.free&&env.scope.kind==.function&&env.kindOf n==some .cell)=true
   ·rw[if_pos hc,List.lookup_cons,hx];exact ih
   ·rw[if_neg hc,List.lookup_cons,hx];exact ih
section
variable {X:Cx}{pins:List (Addr×Obj)}{σ:St}{H:Hp}{s:Shared}
theorem zeY {env:Env}{scope:Scope}{x:Str}(h:scope.names.lookup x=some .free):(relabel scope env).names.lookup x=some .cell∨(relabel scope env).names.lookup x=some .free:=by
 rw[za2,h]
 by_cases hc:(NameKind.free==NameKind.free&&env.scope.kind==.function&&env.kindOf x==some .cell)=true
 ·exact .inl (by show some (ite _ _ _)=_;rw[if_pos hc])
 ·exact .inr (by show some (ite _ _ _)=_;rw[if_neg hc])
theorem zgT {env:Env}{scope:Scope}{x:Str}(hn:∀y∈scope.names,y.2≠.cell)(h:(relabel scope env).names.lookup x=some .cell∨(relabel scope env).names.lookup x=some .free):scope.names.lookup x=some .free:=by
 rw[za2] at h
 cases e:scope.names.lookup x with
 |none=>rw[e] at h;rcases h with h|h<;>cases h
 | some k=>
  rw[e] at h
  have hk:=hn _ (PySem.mem_of_lookup e)
  by_cases hf:k=.free
  ·rw[hf]
  ·have hb:(k==NameKind.free)=false:=by simpa using hf
   have hr:Option.map (fun k=>if (k==NameKind.free&&env.scope.kind==.function&&env.kindOf x==some .cell)=true then NameKind.cell else k) (some k)=some k:=by
    show some (ite _ _ _)=_
    rw[if_neg (by rw[hb];simp)]
   rw[hr] at h
   rcases h with h|h
   ·cases h;exact absurd rfl hk
   ·exact h
theorem ziK {scope:Scope}{N':List Str}{n:Nat}{ix:List Nat}{cl:List (Str×Addr)}{fp:List Addr}{h₁:Heap}{acc C:Addr}{na:Nat}{m:Str->Option Value}{tk:Nat}
  (I:Inv X pins σ H s) (S:CompScope X scope N' n ix) (hcl1:∀x c,cl.lookup x=some c->X.env.cells.lookup x=some c) (hcl2:∀y∈scope.names,y.2=.free->cl.lookup y.1=X.env.cells.lookup y.1)
  (hf:∀b∈fp,FpOk X pins H b) (hlt:∀b∈fp,b<s.heap.objs.size) (ha:s.heap.objs.size<=acc) (hC:s.heap.objs.size<=C) (hne:C≠acc)
  (k:∀b u,s.heap.get? b=some u->h₁.get? b=some u) (hacc:h₁.get? acc=some {cls:=.type "list",data:=.seq ([]:List Value).toArray na}) (hns:h₁.Ns C m):
  Inv (X.comp s H N' scope cl C fp) [] (zcm n ix σ) (upd H acc (.lst [])) {s with heap:=h₁,toks:=tk}:=by
 have fr:∀b:Addr,s.heap.objs.size<=b->H b=none:=fun b hb=>I.hok.fresh hb
 have cellLt:∀x c,cl.lookup x=some c->c<s.heap.objs.size:=fun x c e=>by
  obtain⟨v,q⟩:=I.cell x c (hcl1 x c e)
  exact q.lt
 refine⟨⟨I.ok.mod,S.kind,I.ok.glob,I.ok.blt,hC,fun x y c e1 e2=>I.ok.inj x y c (hcl1 x c e1) (hcl1 y c e2),fun x hx=> ?_,fun x c e _=>absurd e Bool.false_ne_true,I.ok.hd,I.ok.frames,.inl rfl,fun b hb=>⟨Nat.ne_of_lt (Nat.lt_of_lt_of_le (hlt b hb) hC),fun x c e=>(hf b hb).2.2.2.2.1 x c (hcl1 x c e)⟩,
   I.bs,Nat.le_trans I.ok.bsz I.sz,fun b o e hb=> ?_,fun b hb hs=> ?_,I.stack,I.stkFree⟩,
  rfl,I.bare,Un.laid k ha (fr acc ha),⟨m,hns,fun i x v e1 e2 e3=> ?_⟩,fun x c e=> ?_, ?_,fun x c e=> ?_,fun p hp=>absurd (show p∈([]:List (Addr×Obj)) from hp) (by simp),I.hok.laid k ha ⟨Nat.zero_le _,[],na,.nil,hacc⟩, ?_⟩
 ·have hx':scope.names.lookup x=some .free:=zgT (env:=X.env) S.nocell hx
  have hm:=PySem.mem_of_lookup hx'
  obtain⟨c,e⟩:=I.ok.has x (S.free _ hm rfl)
  exact⟨c,(hcl2 _ hm rfl).trans e⟩
 ·rcases (hf b hb).2.2.2.1 with z|z
  ·exact I.ok.noex b o e z
  ·exact absurd (Nat.lt_of_lt_of_le (Heap.lt_size e) (Nat.le_trans I.ok.bsz z)) (Nat.lt_irrefl _)
 ·rcases List.mem_cons.mp (I.stkSub b hs) with z|z
  ·exact (hf b hb).2.1 z
  ·exact (hf b hb).2.2.1 z
 ·-- a name of the frame,seen through its cell
  have hi:n<=i:=by
   by_cases hi:n<=i
   ·exact hi
   ·unfold zcm at e2
    rw[List.getElem?_append_left (by simp;(first|lia|omega)),List.getElem?_replicate] at e2
    split at e2<;>cases e2
  obtain⟨j,rfl⟩:∃j,i=n+j:=⟨i-n,by (first|lia|omega)⟩
  unfold zcm at e2
  rw[List.getElem?_append_right (by simp),List.length_replicate,Nat.add_sub_cancel_left,List.getElem?_map] at e2
  cases ej:ix[j]? with
  |none=>rw[ej] at e2;cases e2
  | some q=>
   rw[ej] at e2
   have e2':σ.getD q none=some v:=Option.some.inj e2
   have e2'':σ[q]? =some (some v):=by
    rw[List.getD_eq_getElem?_getD] at e2'
    cases eq:σ[q]? with
    |none=>rw[eq] at e2';cases e2'
    |some z=>rw[eq] at e2';exact congrArg some e2'
   obtain⟨y,h1,h2,h3⟩:=S.at_ j q ej
   have ey:y=x:=Option.some.inj (h1.symm.trans e1)
   subst ey
   have hk:=S.free _ h3 rfl
   obtain⟨mX,_,hl⟩:=I.loc
   obtain⟨u,r,l⟩:=hl q y v h2 e2'' (.inr hk)
   refine⟨u,r,.inr ?_⟩
   have hkc:X.env.kindOf y=some .cell∨X.env.kindOf y=some .free:=hk
   have l':∃c,X.env.cells.lookup y=some c/\s.heap.IsCell c (some u):=by
    rcases l with⟨z,_⟩|⟨_,c,ec,hc⟩
    ·rcases hkc with q|q<;>(rw[q] at z;cases z)
    ·exact⟨c,ec,hc⟩
   obtain⟨c,ec,o,ho,hd⟩:=l'
   have e3':Vis (relabel scope X.env) y:=e3
   refine⟨?_,c,(hcl2 _ h3 rfl).trans ec,o,k _ _ ho,hd⟩
   have nl:scope.names.lookup y≠some .local:=fun z=> ?_
   ·cases el:scope.names.lookup y with
    |none=>
     have:(relabel scope X.env).names.lookup y=none:=by rw[za2,el];rfl
     rcases e3' with z|z|z<;>(rw[this] at z;cases z)
    | some kk=>
     have hmem:=PySem.mem_of_lookup el
     have ncell:=S.nocell _ hmem
     have hr:(relabel scope X.env).names.lookup y=some (if (kk==NameKind.free&&X.env.scope.kind==.function&&X.env.kindOf y==some .cell)=true then .cell else kk):=by rw[za2,el];rfl
     by_cases hkf:kk=.free
     ·subst hkf
      exact zeY (env:=X.env) el
     ·have hb:(kk==NameKind.free)=false:=by simpa using hkf
      have hr':(relabel scope X.env).names.lookup y=some kk:=by rw[hr,hb];rfl
      rcases e3' with z|z|z
      ·rw[hr'] at z;cases z;exact absurd el nl
      ·rw[hr'] at z;cases z;exact absurd rfl ncell
      ·rw[hr'] at z;cases z;exact absurd rfl hkf
   ·exact S.nodup _ h3 z
 ·obtain ⟨v,o,ho,hd⟩:=I.cell x c (hcl1 x c e)
  exact⟨v,o,k _ _ ho,hd⟩
 ·show upd H acc (.lst []) C=none
  rw[zaq hne];exact fr C hC
 ·show upd H acc (.lst []) c=none
  have:=cellLt x c e
  rw[zaq (Nat.ne_of_lt (Nat.lt_of_lt_of_le this ha))]
  exact I.freeC x c (hcl1 x c e)
 ·show (zcm n ix σ).length=N'.length
  unfold zcm
  rw[List.length_append,List.length_replicate,List.length_map,S.len]
end
noncomputable def Wk (σ σ':St):Prop:=σ.length=σ'.length/\∀(i:Nat) v,σ[i]? =some (some v)->σ'[i]? =some (some v)
noncomputable def PTs (Y:Cx)(ifs:List Expr)(t:TT):Prop:=
 ∀(pins:List (Addr×Obj)) (s:Shared) (σ:St) (H:Hp) (Q:Bool->Hp->Prop),Inv Y pins σ H s->t σ H Q->
  wpAny (model Y.prog Y.w) Y.A (forIn ifs true fun c r=>if r=true then do let ok<-isTrue c Y.env (eval c Y.env);pure (ForInStep.yield ok) else pure (ForInStep.yield r)) (TP Y pins σ Q) Y.xe s
noncomputable def zbV:TT:=fun _ H Q=>Q true H
theorem zbW {Y:Cx}:PTs Y [] zbV:=fun _ _ _ H _ I h=>wpAny_tests_nil ⟨H,I,h⟩
theorem zdf {Y:Cx}{c:Expr}{t:TT}(h:PT Y c t):PTs Y [c] t:=fun pins s σ H Q I q=>wpAny_tests_one (h pins s σ H Q I q)
theorem zeZ {prog:Program}{w:World}{A:Around}{R:Result->Shared->Prop}{s:Shared}{elt target iter:Expr}{ifs:List Expr}{scope:Scope}{pos:Pos}{it acc:Value}{env:Env}(I:Nat->Shared->Prop)
  (turn:∀n s,I n s->wpAny (model prog w) A (pyNext it) (fun r s₁=>match r with
   |none=>R (.ok .next) s₁
   | some v=>wpAny (model prog w) A (letOwnedTupleGo target it v) (fun _ s₂=>wpAny (model prog w) A (assign target env v) (fun _ s₃=>
     wpAny (model prog w) A (forIn ifs true fun c r=>if r=true then do let ok<-isTrue c env (eval c env);pure (ForInStep.yield ok) else pure (ForInStep.yield r)) (fun ok s₄=>
      if ok=true then wpAny (model prog w) A (eval elt env) (fun x s₅=>
       wpAny (model prog w) A (call (.builtin "list.append") [acc,x]) (fun _ s₆=>∃m,m<n/\I m s₆) (fun _ _=>False) s₅) (fun _ _=>False) s₄
      else ∃m,m<n/\I m s₄) (fun _ _=>False) s₃) (fun _ _=>False) s₂) (fun _ _=>False) s₁) (fun _ _=>False) s)
  (n:Nat) (h:I n s):
  codeAny (model prog w) A (.compLoop (.ListComp elt [⟨target,iter,ifs,0⟩] scope pos) 0 it acc env) R s:=by
 refine codeAny_loop rfl I (fun n s hI=> ?_) n h
 show wpAny _ A ((compTurn (.ListComp elt [⟨target,iter,ifs,0⟩] scope pos) 0 it acc env).onRaise (fun x=>do noteFrame x env;theTreesLotGoes x)) _ _ s
 refine wpAny_noted (wpAny_noRaise ?_)
 rw[compTurn_list]
 refine wpAny_bind (wpAny_standAt (wpAny_bind (thn (turn n s hI) fun r s₁ h₁=> ?_)))
 cases r with
 |none=>exact wpAny_pure h₁
 |some v=>
  refine wpAny_bind (thn h₁ fun _ s₂ h₂=>wpAny_bind (thn h₂ fun _ s₃ h₃=>wpAny_bind (thn h₃ fun ok s₄ h₄=> ?_)))
  cases ok with
  |false=>exact wpAny_pure ⟨rfl,h₄⟩
  |true=>exact wpAny_bind (wpAny_bind (thn h₄ fun x s₅ h₅=>wpAny_bind (thn h₅ fun _ s₆ h₆=>wpAny_pure (wpAny_pure ⟨rfl,h₆⟩))))
noncomputable def LcW (J:It)(H1:Hp)(g:TG)(tt:TT)(te:TE)(n:Nat)(ix:List Nat)(σ:St)(Q:VK):Prop:=∀acc,H1 acc=none->
 ∃ W:Nat->Nat->Hp->Prop,(∃m,W 0 m (upd H1 acc (.lst [])))/\∀i m H,W i m H->
  (J.stop i H/\Q (.ref acc) H)∨(J.go i H/\∀x H',J.yld i H x H'->g x (zcm n ix σ) H' fun σ2 H2=>Wk (zcm n ix σ) σ2/\tt σ2 H2 fun b H3=>
   if b=true then te σ2 H3 fun v H4=>∃ys,H4 acc=some (.lst ys)/\ys.length<sizeLine/\∃m',m'<m/\W (i+1) m' (upd H4 acc (.lst (ys++[v])))
   else ∃m',m'<m/\W (i+1) m' H3)
noncomputable def tLc (wi:TI)(g:TG)(tt:TT)(te:TE)(n:Nat)(ix:List Nat):TE:=fun σ H Q=>wi σ H fun J H1=>LcW J H1 g tt te n ix σ Q
section
variable {X:Cx}{elt tg iter:Expr}{ifs:List Expr}{scope:Scope}{pos:Pos}{wi:TI}{g:TG}{tt:TT}{te:TE}{N':List Str}{n:Nat}{ix:List Nat}
theorem zhE {pins:List (Addr×Obj)}{σ:St}{H2:Hp}{s2:Shared}{cl:List (Str×Addr)}{it:Addr}{fp:List Addr}{tn:Nat->Heap->Prop}{J:It}{Q:VK}{R:Value->Addr->Result->Shared->Prop}
  (hc:X.calm=true) (S:CompScope X scope N' n ix)
  (hY:∀s₂ H₂ cl C fp,PG (X.comp s₂ H₂ N' scope cl C fp) tg g/\PTs (X.comp s₂ H₂ N' scope cl C fp) ifs tt/\PE (X.comp s₂ H₂ N' scope cl C fp) elt te)
  (I2:Inv X pins σ H2 s2) (hcl1:∀x c,cl.lookup x=some c->X.env.cells.lookup x=some c) (hcl2:∀y∈scope.names,y.2=.free->cl.lookup y.1=X.env.cells.lookup y.1)
  (T:Turn X.prog X.w X.K tg J fp it tn) (st2:tn 0 s2.heap) (f2:∀b∈fp,FpOk X pins H2 b)
  (hW:LcW J H2 g tt te n ix σ Q)
  (hR:∀acc C s' H' m,s'.heap.Ns C m->Inv X pins σ H' s'->H' C=none->C≠X.env.locals->(C∈X.ex∨X.s₀.heap.objs.size<=C)->(∀x c,X.env.cells.lookup x=some c->c≠C)->(∀p∈X.pn++pins,p.1≠C)->C∉X.fs->Q (.ref acc) H'->R (.ref acc) C (.ok .next) s'):
  wpAny (model X.prog X.w) X.A (newList []) (fun acc s₃=>wpAny (model X.prog X.w) X.A (newFunctionEnv scope X.env.globals cl [] X.env.qual none .none (some X.env)) (fun cenv s₄=>
   codeAny (model X.prog X.w) X.A (.compStart (.ListComp elt [⟨tg,iter,ifs,0⟩] scope pos) 0 (.ref it) acc {cenv with scope:=relabel scope X.env}) (R acc cenv.locals) s₄) X.xe s₃) X.xe s2:=by
 refine wpAny_newObj_type (wpAny_newFunctionEnv S.nocell (by intro y hy;simp at hy) (fun h₁ hns₁ hsb₁=> ?_) S.kind)
 dsimp only at hns₁ hsb₁ ⊢
 generalize hH2:s2.heap.push {cls:=.type "list",dict:=none,data:=.seq ([]:List Value).toArray}=G at hns₁ hsb₁ ⊢
 have hC:G.objs.size=s2.heap.objs.size+1:=by rw[<-hH2,Heap.size_push]
 have hlt:∀b∈fp,b<s2.heap.objs.size:=fun b hb=>by
  obtain⟨o,e,_⟩:=T.obj _ _ st2 b hb
  exact Heap.lt_size e
 have old:∀b o,s2.heap.get? b=some o->h₁.get? b=some o:=fun b o e=>hsb₁.extBut b o (by rw[hC];exact Nat.ne_of_lt (Nat.lt_succ_of_lt (Heap.lt_size e))) (Heap.get?_push_of_some _ (hH2▸Heap.get?_push_of_some _ e))
 have hacc:h₁.get? s2.heap.objs.size=some {cls:=.type "list",dict:=none,data:=.seq ([]:List Value).toArray}:=hsb₁.extBut _ _ (by rw[hC];exact Nat.ne_of_lt (Nat.lt_succ_self _)) (Heap.get?_push_of_some _ (hH2▸Heap.get?_push_size _ rfl))
 obtain⟨W,⟨m0,w0⟩,turn⟩:=hW s2.heap.objs.size (I2.hok.fresh (Nat.le_refl _))
 obtain⟨hYg,hYt,hYe⟩:=hY s2 H2 cl G.objs.size fp
 have fpY:∀{H':Hp},(∀b∈fp,H' b=none)->∀b∈fp,FpOk (X.comp s2 H2 N' scope cl G.objs.size fp) [] H' b:=fun {H'} hn b hb=>by
  obtain⟨_,q1,q2,q3,q4,q5⟩:=f2 b hb
  refine⟨hn b hb, ?_,fun z=> ?_,.inl hb,fun x c e=>q4 x c (hcl1 x c e),fun p hp=>absurd (show p∈([]:List (Addr×Obj)) from hp) (by simp)⟩
  ·show b≠G.objs.size
   rw[hC]
   exact Nat.ne_of_lt (Nat.lt_succ_of_lt (hlt b hb))
  ·rcases List.mem_cons.mp (I2.stkSub b z) with y|y
   ·exact q1 y
   ·exact q2 y
 have loop:∀s₃:Shared,s₃={s2 with heap:=h₁,toks:=s2.toks+([]:List (Str×Value)).length}->
   codeAny (model X.prog X.w) X.A (.compLoop (.ListComp elt [⟨tg,iter,ifs,0⟩] scope pos) 0 (.ref it) (.ref s2.heap.objs.size) (compEnvC scope cl G.objs.size X.env)) (R (.ref s2.heap.objs.size) G.objs.size) s₃:=by
  rintro s₃ rfl
  have I4:=ziK (tk:=s2.toks+([]:List (Str×Value)).length) I2 S hcl1 hcl2 f2 hlt (Nat.le_refl _) (by rw[hC];exact Nat.le_succ _) (by rw[hC];exact Nat.ne_of_gt (Nat.lt_succ_self _)) old hacc hns₁
  refine zeZ (fun n' s'=>∃i H',Inv (X.comp s2 H2 N' scope cl G.objs.size fp) [] (zcm n ix σ) H' s'/\tn i s'.heap/\(∀b∈fp,H' b=none)/\W i n' H') ?_ m0
   ⟨0,_,I4,T.keep _ _ _ st2 fun b hb o e=>old b o e,fun b hb=> ?_,w0⟩
  ·rintro n' s3 ⟨i,H3,I3,st3,fr3,w3⟩
   rcases turn i n' H3 w3 with⟨stop,q⟩|⟨go,step⟩
   ·refine thn (T.done (X.comp s2 H2 N' scope cl G.objs.size fp) rfl rfl rfl hc i [] s3 _ H3 _ I3 (fpY fr3) st3 stop) fun r s4 zq=> ?_
    obtain⟨hr,I5⟩:=zq
    subst hr
    obtain⟨mC,hnC,_⟩:=I5.loc
    have IX:Inv X pins σ H3 s4:=I2.call' I5.os I5.base I5.hok I5.bare fun b hb=>by
     obtain⟨_,q1,q2,q3,q4,q5⟩:=f2 b hb
     exact⟨q3,q1,q4,q5⟩
    refine hR _ _ s4 H3 mC hnC IX I5.free ?_ (.inr ?_) (fun x c e z=> ?_) (fun p hp z=> ?_) (I2.nofs (by rw[hC];exact Nat.le_succ _)) q
    ·rw [hC]
     exact Nat.ne_of_gt (Nat.lt_succ_of_lt I2.lt)
    ·rw [hC]
     exact Nat.le_succ_of_le I2.sz
    ·obtain ⟨v,q⟩:=I2.cell x c e
     rw[hC] at z
     exact absurd z (Nat.ne_of_lt (Nat.lt_succ_of_lt q.lt))
    ·rw [hC] at z
     exact absurd z (Nat.ne_of_lt (Nat.lt_succ_of_lt (Heap.lt_size (I2.pin p hp).1)))
   ·refine thn (T.item (X.comp s2 H2 N' scope cl G.objs.size fp) rfl rfl rfl hc i [] s3 _ H3 _ I3 (fpY fr3) st3 go) fun r s4 zq=> ?_
    obtain⟨u,hr,h4⟩:=zq
    subst hr
    refine thn h4 fun _ s5 zq=> ?_
    obtain⟨x,H5,I5,r5,y5,st5,fr5⟩:=zq
    have I5':=I5.pinned (fpY fr5) (T.obj _ _ st5)
    refine thn (hYg _ s5 _ H5 x u _ I5' r5 (step x H5 y5)) fun _ s6 zq=> ?_
    obtain⟨σ6,H6,I6,wk,q6⟩:=zq
    have back:∀{H':Hp} {s':Shared},Inv (X.comp s2 H2 N' scope cl G.objs.size fp) ([]++zeO fp s5.heap) σ6 H' s'->
      Inv (X.comp s2 H2 N' scope cl G.objs.size fp) [] (zcm n ix σ) H' s'/\tn (i+1) s'.heap/\∀b∈fp,H' b=none:=fun {H' s'} I7=>by
     refine⟨I7.unpinned.weak wk.1 wk.2,T.keep _ _ _ st5 fun b hb o e=>(I7.pin (b,o) (List.mem_append_right _ (List.mem_append_right _ (zb4 hb e)))).1,fun b hb=> ?_⟩
     obtain⟨o,e,d⟩:=T.obj _ _ st5 b hb
     exact (I7.pin (b,o) (List.mem_append_right _ (List.mem_append_right _ (zb4 hb e)))).2.1
    refine thn (hYt _ s6 σ6 H6 _ I6 q6) fun ok s7 zq=> ?_
    obtain⟨H7,I7,q7⟩:=zq
    cases ok with
    |false=>
     rw[if_neg Bool.false_ne_true] at q7 ⊢
     obtain⟨m',hm,w7⟩:=q7
     obtain⟨b1,b2,b3⟩:=back I7
     exact⟨m',hm,i+1,H7,b1,b2,b3,w7⟩
    |true=>
     rw[if_pos rfl] at q7 ⊢
     refine thn (hYe _ s7 σ6 H7 _ I7 q7) fun xv s8 zq=> ?_
     obtain⟨v8,H8,I8,r8,ys,ha,hz,m',hm,w8⟩:=zq
     refine thn (zbU _ s8 σ6 H8 (.ref s2.heap.objs.size) [v8] (.ref s2.heap.objs.size) [xv] (fun _ H'=>H'=upd H8 s2.heap.objs.size (.lst (ys++[v8]))) I8 rfl (.cons r8 .nil) ⟨_,ys,v8,rfl,rfl,ha,hz,rfl⟩) fun _ s9 zq=> ?_
     obtain⟨_,H9,I9,_,e9⟩:=zq
     subst e9
     obtain⟨b1,b2,b3⟩:=back I9
     exact⟨m',hm,i+1,_,b1,b2,b3,w8⟩
  ·rw [zaq (Nat.ne_of_lt (hlt b hb))]
   exact (f2 b hb).1
 exact codeAny_compStart_list (loop _ rfl) (T.self _ 0 _ _ _ (T.keep _ _ _ st2 fun b hb o e=>old b o e) (loop _ rfl))
theorem zcU (hc:X.calm=true)(S:CompScope X scope N' n ix)(hi:PI X tg iter wi)
  (hY:∀s₂ H₂ cl C fp,PG (X.comp s₂ H₂ N' scope cl C fp) tg g/\PTs (X.comp s₂ H₂ N' scope cl C fp) ifs tt/\PE (X.comp s₂ H₂ N' scope cl C fp) elt te)
  (hs:∀x,foldedSetIterable iter X.env x=pure x:=by intro _;rfl):PE X (.ListComp elt [⟨tg,iter,ifs,0⟩] scope pos) (tLc wi g tt te n ix):=by
 intro pins s σ H Q I h
 obtain⟨cl,hcl,hcl1,hcl2⟩:=zd2 (env:=X.env) (scope:=scope) fun y hy hf=>I.ok.has _ (S.free y hy hf)
 rw[eval_ListComp]
 refine wpAny_comprehension_free (use:=none) rfl hs hcl S.kind S.names (thn (hi pins s σ H _ I h) fun v s1 h1=>thn h1 fun itv s2 h2=> ?_)
 obtain⟨it,fp,tn,J,H2,rfl,I2,T,st2,f2,hW⟩:=h2
 refine zhE (R:=fun acc C=>compPost (model X.prog X.w) X.A X.xe none (EP X pins σ Q) acc C) hc S hY I2 hcl1 hcl2 T st2 f2 hW ?_
 intro acc C s' H' m hn IX hf hL h1 h2 h3 h4 q
 exact⟨m,hn,fun h' sb=>⟨.ref acc,H',IX.turned (t':=s'.toks) (fun b o hb e=>sb.extBut b o hb e) hf hL h1 h2 h3,rfl,q⟩⟩
theorem ziL {x:Str}{i:Nat}{pos' spos:Pos}(hsw:swapsWith (.ListComp elt [⟨tg,iter,ifs,0⟩] scope pos) (some (.Name x pos')) spos.line X.env=pure true)(hN:X.N.Nodup)(hi':X.N[i]? =some x)(hx:X.env.scope.names.lookup x=some .local)
  (hc:X.calm=true) (S:CompScope X scope N' n ix) (hi:PI X tg iter wi)
  (hY:∀s₂ H₂ cl C fp,PG (X.comp s₂ H₂ N' scope cl C fp) tg g/\PTs (X.comp s₂ H₂ N' scope cl C fp) ifs tt/\PE (X.comp s₂ H₂ N' scope cl C fp) elt te)
  (hs:∀x,foldedSetIterable iter X.env x=pure x:=by intro _;rfl):PS X (.Assign [.Name x pos'] (.ListComp elt [⟨tg,iter,ifs,0⟩] scope pos) spos) (tAsg (tLc wi g tt te n ix) (zck i)):=by
 intro pins s σ H D I h
 obtain⟨cl,hcl,hcl1,hcl2⟩:=zd2 (env:=X.env) (scope:=scope) fun y hy hf=>I.ok.has _ (S.free y hy hf)
 rw[exec_Assign_Name_used _ _ _ _ hsw]
 refine wpAny_bind (wpAny_standAt (wpAny_bind ?_))
 show wpAny _ _ (do let _<-comprehension (.ListComp elt [⟨tg,iter,ifs,0⟩] scope pos) scope X.env _ (newList []) false (eval iter X.env) (some (assign (.Name x pos') X.env))) _ _ s
 refine wpAny_bind (thn (wpAny_comprehension_free (use:=some (assign (.Name x pos') X.env)) (Q:=fun _ s'=>SP X pins D .next s') rfl hs hcl S.kind S.names (thn (hi pins s σ H _ I h) fun v s1 h1=>thn h1 fun itv s2 h2=> ?_)) fun _ s' hq=>wpAny_pure (wpAny_pure hq))
 obtain⟨it,fp,tn,J,H2,rfl,I2,T,st2,f2,hW⟩:=h2
 refine zhE (Q:=fun x H1=>zck i x σ H1 D.nx) (R:=fun acc C=>compPost (model X.prog X.w) X.A X.xe (some (assign (.Name x pos') X.env)) (fun _ s'=>SP X pins D .next s') acc C) hc S hY I2 hcl1 hcl2 T st2 f2 hW ?_
 intro acc C s' H' m hn IX hf hL h1 h2 h3 h4 q
 show wpAny _ _ (assign (.Name x pos') X.env (.ref acc)) _ _ _
 obtain⟨oC,esC,epC,hoC,hdC,rC⟩:=id hn
 have IP:Inv X (pins++[(C,oC)]) σ H' s':=IX.pins_of fun p hp=>by
  rcases List.mem_append.mp hp with z|z
  ·exact IX.pin p (List.mem_append_right _ z)
  ·have e:p=(C,oC):=by simpa using z
   subst e
   exact⟨hoC,hf,hL,h4,fun v z=>by rw[hdC] at z;cases z⟩
 refine thn (zat hN hi' (.inl hx) (.inr hx) _ s' σ H' (.ref acc) (.ref acc) D.nx IP rfl q) fun _ s'' zq=> ?_
 obtain⟨σ',H'',I'',q''⟩:=zq
 obtain⟨e1,e2,_⟩:=I''.pin (C,oC) (List.mem_append_right _ (List.mem_append_right _ (by simp)))
 refine⟨m,⟨oC,esC,epC,e1,hdC,rC⟩,fun h' sb=>⟨σ',H'', ?_,q''⟩⟩
 exact I''.unpinned.turned (t':=s''.toks) (fun b o hb e=>sb.extBut b o hb e) e2 hL h1 h2 h3
end
theorem PE.mono {X:Cx}{e:Expr}{t t':TE}(h:PE X e t)(m:∀σ H Q,t' σ H Q->t σ H Q):PE X e t':=fun pins s σ H Q I q=>h pins s σ H Q I (m σ H Q q)
theorem zae {H:Hp}{a:Addr}{o:HO}(h:H a=none):Same H (upd H a o):=fun b u e=>by
 rw[zaq (zaO e h)];exact e
theorem zav {H H':Hp}{a:Addr}{o:HO}(s:Same H H')(h:H a=none):Same H (upd H' a o):=fun b u e=>by
 rw[zaq (zaO e h)];exact s b u e
noncomputable def SameT (H H':Hp):Prop:=∀b xs,H b=some (.tup xs)->H' b=some (.tup xs)
theorem Same.t {H H':Hp}(h:Same H H'):SameT H H':=fun b xs e=>h b _ e
theorem SameT.trans {H H1 H2:Hp}(a:SameT H H1)(b:SameT H1 H2):SameT H H2:=fun c o h=>b c o (a c o h)
theorem zbX {H:Hp}{a:Addr}{xs ys:List V}(h:H a=some (.lst xs)):SameT H (upd H a (.lst ys)):=fun b zs e=>by
 rw[zaq (zjX e h (by intro z;cases z))];exact e
structure Yields (J:It) (Ok:Hp->Prop) (xs:List V):Prop where
 go:∀i H,Ok H->i<xs.length->J.go i H
 yld:∀i H x H',Ok H->i<xs.length->J.yld i H x H'->H'=H/\xs[i]? =some x
 stop:∀H,Ok H->J.stop xs.length H
theorem zcc {K:PySem.W.Frag}{a:Addr}{xs:List V}:Yields (Itl K a) (fun H=>SqL K H a xs) xs:=
 ⟨fun i H q h=>⟨xs,xs[i],q,by simp[h]⟩,fun i H x H' q _ y=>⟨y.1,y.2 xs q⟩,fun H q=>⟨xs,q,Nat.le_refl _⟩⟩
theorem zd3 {K:PySem.W.Frag}{a:Addr}{xs:List V}:Yields (Itt K a) (fun H=>SqT K H a xs) xs:=
 ⟨fun i H q h=>⟨xs,xs[i],q,by simp[h]⟩,fun i H x H' q _ y=>⟨y.1,y.2 xs q⟩,fun H q=>⟨xs,q,Nat.le_refl _⟩⟩
noncomputable def za9 (lo:Int)(n:Nat):List V:=(List.range n).map fun (i:Nat)=>V.int (lo+(i:Int))
theorem zaJ (lo:Int)(n:Nat):(za9 lo n).length=n:=by simp[za9]
theorem zgU {lo:Int}{n i:Nat}(h:i<n):(za9 lo n)[i]? =some (V.int (lo+(i:Int))):=by
 simp[za9,h]
theorem zaQ {lo:Int}{n:Nat}:Yields (Itr lo n) (fun _=>True) (za9 lo n):=by
 refine⟨fun i H _ h=> ?_,fun i H x H' _ h y=> ?_,fun H _=> ?_⟩
 ·rw[zaJ] at h;exact h
 ·obtain ⟨y1,y2⟩:=y
  rw[zaJ] at h
  exact⟨y1,by rw[zgU h,y2]⟩
 ·rw[zaJ];exact Nat.le_refl _
section
variable {J:It}{Ok:Hp->Prop}{xs:List V}{tt:TT}{te:TE}{ix:List Nat}{σ:St}{H1:Hp}{Q:VK}
theorem zeh (Y:Yields J Ok xs)(small:xs.length<sizeLine)(p:V->Bool)(f:V->V)(hok:∀H,Same H1 H->Ok H)
  (ht:∀x∈xs,∀H,Same H1 H->∀Q':Bool->Hp->Prop,Q' (p x) H->tt (some x::ix.map fun i=>σ.getD i none) H Q')
  (he:∀x∈xs,p x=true->∀H,Same H1 H->∀Q':VK,Q' (f x) H->te (some x::ix.map fun i=>σ.getD i none) H Q')
  (fin:∀acc,H1 acc=none->Q (.ref acc) (upd H1 acc (.lst ((xs.filter p).map f)))):
  LcW J H1 (zck 0) tt te 1 ix σ Q:=by
 intro acc ha
 refine⟨fun i m H=>m=xs.length-i/\i<=xs.length/\H=upd H1 acc (.lst (((xs.take i).filter p).map f)),⟨xs.length,by simp,Nat.zero_le _,rfl⟩, ?_⟩
 rintro i m H ⟨rfl,hi,rfl⟩
 have sm:Same H1 (upd H1 acc (.lst (((xs.take i).filter p).map f))):=zae ha
 have o:=hok _ sm
 by_cases hlt:i<xs.length
 ·refine .inr ⟨Y.go i _ o hlt,fun x H' y=> ?_⟩
  obtain⟨rfl,hx⟩:=Y.yld i _ x H' o hlt y
  have hmem:x∈xs:=List.mem_of_getElem? hx
  have htk:xs.take (i+1)=xs.take i++[x]:=by
   rw[List.take_succ,hx];rfl
  refine⟨⟨rfl,fun j v e=> ?_⟩, ?_⟩
  ·cases j with
   |zero=>cases e
   |succ j=>exact e
  ·refine ht x hmem _ sm _ ?_
   cases hp:p x with
   |false=>
    rw[if_neg Bool.false_ne_true]
    refine⟨xs.length-(i+1),by (first|lia|omega),rfl,hlt, ?_⟩
    rw[htk,List.filter_append]
    simp[hp]
   | true=>
    rw[if_pos rfl]
    refine he x hmem hp _ sm _ ?_
    refine⟨_,zad, ?_,xs.length-(i+1),by (first|lia|omega),rfl,hlt, ?_⟩
    ·rw [List.length_map]
     refine Nat.lt_of_le_of_lt (List.length_filter_le _ _) ?_
     rw[List.length_take];(first|lia|omega)
    ·rw [zjW,htk,List.filter_append,List.map_append]
     simp[hp]
 ·have e:i=xs.length:=by (first|lia|omega)
  subst e
  refine .inl ⟨Y.stop _ o, ?_⟩
  rw[List.take_length]
  exact fin acc ha
theorem zei (Y:Yields J Ok xs)(small:xs.length<sizeLine)(R:V->V->Hp->Prop)(hR:∀x v H H',SameT H H'->R x v H->R x v H')(hok:∀H,Same H1 H->Ok H)
  (he:∀x∈xs,∀H,Same H1 H->∀Q':VK,(∀v H',Same H H'->R x v H'->Q' v H')->te (some x::ix.map fun i=>σ.getD i none) H Q')
  (fin:∀acc ys H',H1 acc=none->Same H1 H'->H' acc=some (.lst ys)->Paired (fun x v=>R x v H') xs ys->Q (.ref acc) H'):
  LcW J H1 (zck 0) zbV te 1 ix σ Q:=by
 intro acc ha
 refine⟨fun i m H=>m=xs.length-i/\i<=xs.length/\Same H1 H/\∃ys,H acc=some (.lst ys)/\Paired (fun x v=>R x v H) (xs.take i) ys,⟨xs.length,by simp,Nat.zero_le _,zae ha,[],zad,.nil⟩, ?_⟩
 rintro i m H ⟨rfl,hi,sm,ys,hacc,pr⟩
 have o:=hok _ sm
 have hlen:ys.length=i:=by rw[<-Paired.length pr,List.length_take];(first|lia|omega)
 by_cases hlt:i<xs.length
 ·refine .inr ⟨Y.go i _ o hlt,fun x H' y=> ?_⟩
  obtain⟨rfl,hx⟩:=Y.yld i _ x H' o hlt y
  have hmem:x∈xs:=List.mem_of_getElem? hx
  have htk:xs.take (i+1)=xs.take i++[x]:=by
   rw[List.take_succ,hx];rfl
  refine⟨⟨rfl,fun j v e=> ?_⟩, ?_⟩
  ·cases j with
   |zero=>cases e
   |succ j=>exact e
  ·unfold zbV
   dsimp only
   rw[if_pos rfl]
   refine he x hmem _ sm _ fun v H4 s4 r4=> ?_
   have h4:H4 acc=some (.lst ys):=s4 _ _ hacc
   refine⟨ys,h4,by (first|lia|omega),xs.length-(i+1),by (first|lia|omega),rfl,hlt,zav (sm.trans s4) ha,ys++[v],zad, ?_⟩
   rw[htk]
   have st:SameT H4 (upd H4 acc (.lst (ys++[v]))):=zbX h4
   exact Paired.snoc (Paired.mapP pr fun x' v' r'=>hR _ _ _ _ (s4.t.trans st) r') (hR _ _ _ _ st r4)
 ·have e:i=xs.length:=by (first|lia|omega)
  subst e
  refine .inl ⟨Y.stop _ o, ?_⟩
  rw[List.take_length] at pr
  exact fin acc ys H ha sm hacc pr
end
section
variable {prog:Program}{w:World}{A:Around}{E:Value->Shared->Prop}{s:Shared}
theorem zgV {it t:Addr}{i:Nat}{its:Array Value}{x:Value}{Q:Value->Shared->Prop}(hi:s.heap.IsTupleIter it t i)(ht:s.heap.IsTuple t its)(hx:its[i]? =some x)
  (q:∀h',h'.IsTupleIter it t (i+1)->Heap.SameBut it s.heap h'->Q x {s with heap:=h'}):wpAny (model prog w) A (Builtin.SmallTypes.nextOf (.ref it)) Q E s:=by
 obtain⟨o,e1,e2,e3⟩:=id hi
 obtain⟨u,f1,f2,nu,f3⟩:=ht
 unfold Builtin.SmallTypes.nextOf
 refine wpAny_bind (wpAny_callSpecial?_slot (name:=Str.ofString "__next__") hi.typeIs F.slot_tuple_iterator_next (wpAny_call_entry F.slot_tuple_iterator_next hi.typeIs F.entry_tuple_iterator_next ?_ (F.args_tuple_iterator_next_1 _)))
 show wpAny _ _ (field (.ref it) 0 >>= _) _ _ s
 refine wpAny_bind (wpAny_field e1 e3 (x:=.ref t) rfl ?_)
 show wpAny _ _ (if (Value.ref t==Value.none)=true then _ else _) _ _ s
 rw[if_neg (show ¬((Value.ref t==Value.none)=true) from Bool.false_ne_true)]
 show wpAny _ _ (field (.ref it) 1 >>= _) _ _ s
 refine wpAny_bind (wpAny_field e1 e3 (x:=.int i 0) rfl ?_)
 show wpAny _ _ (seqItems? (.ref t) >>= _) _ _ s
 refine wpAny_bind (wpAny_seqItems f1 f3 ?_)
 simp only[Int.toNat_natCast,hx]
 refine wpAny_bind (wpAny_setField e1 e3 (by simp) (wpAny_pure ⟨x,rfl,wpAny_pure (q _ ⟨_,Heap.get?_update_self _ e1 (Obj.isFreed_of_fields (Obj.data_mapFields e3 _)),(Obj.cls_mapFields ..).trans e2, ?_⟩ (Heap.SameBut.update ..))⟩))
 rw[Obj.data_mapFields e3]
 simp[rawInt]
theorem zhF {it t:Addr}{i:Nat}{its:Array Value}{Q:Value->Shared->Prop}(hh:A.handled=none)(hi:s.heap.IsTupleIter it t i)(ht:s.heap.IsTuple t its)(hx:its[i]? =none)
  (q:∀h' e,Heap.ExtBut it s.heap h'->(∃o,h'.get? e=some o/\o.cls=.type "StopIteration")->E (.ref e) {s with heap:=h'}):wpAny (model prog w) A (Builtin.SmallTypes.nextOf (.ref it)) Q E s:=by
 obtain⟨o,e1,e2,e3⟩:=id hi
 obtain⟨u,f1,f2,nu,f3⟩:=ht
 unfold Builtin.SmallTypes.nextOf
 refine wpAny_bind (wpAny_callSpecial?_slot (name:=Str.ofString "__next__") hi.typeIs F.slot_tuple_iterator_next (wpAny_call_entry F.slot_tuple_iterator_next hi.typeIs F.entry_tuple_iterator_next ?_ (F.args_tuple_iterator_next_1 _)))
 show wpAny _ _ (field (.ref it) 0 >>= _) _ _ s
 refine wpAny_bind (wpAny_field e1 e3 (x:=.ref t) rfl ?_)
 show wpAny _ _ (if (Value.ref t==Value.none)=true then _ else _) _ _ s
 rw[if_neg (show ¬((Value.ref t==Value.none)=true) from Bool.false_ne_true)]
 show wpAny _ _ (field (.ref it) 1 >>= _) _ _ s
 refine wpAny_bind (wpAny_field e1 e3 (x:=.int i 0) rfl ?_)
 show wpAny _ _ (seqItems? (.ref t) >>= _) _ _ s
 refine wpAny_bind (wpAny_seqItems f1 f3 ?_)
 simp only[Int.toNat_natCast,hx]
 refine wpAny_bind (wpAny_rule (wpAny_bind (wpAny_setField e1 e3 (by simp) ?_)))
 show wpAny _ _ (newExc (.type "StopIteration") [] >>= _) _ _ _
 refine wpAny_bind ?_
 simp only[newExc,newTuple]
 refine wpAny_bind (wpAny_newObj_type ?_ (by size_fits))
 refine wpAny_bind (m:=firstArgMember _ _) (wpAny_of_eq (a:=Value.none) (by first|rfl|(simp only[firstArgMember];rfl)) ?_)
 refine wpAny_newObj_type ?_ (by size_fits)
 simp only[raiseNew]
 refine wpAny_bind (wpAny_handled ?_)
 first|rw[show A.in1.handled=none from hh]|rw[hh]
 refine wpAny_bind (wpAny_pure (wpAny_throw ?_))
 exact q _ _ (((Heap.SameBut.update ..).extBut.push _).push _) ⟨_,Heap.get?_push_size _ rfl,rfl⟩
end
theorem zjK {prog:Program}{w:World}{A:Around}(hh:A.handled=none)(it t:Addr)(hne:t≠it)(its:Array Value):
  Draws prog w A it [it,t] its.size (fun i v=>its[i]? =some v) (fun i h=>h.IsTupleIter it t i/\h.IsTuple t its) where
 live:=fun _ _ st=>let ⟨o,ho,_⟩:=st.1;⟨o,ho⟩
 frame:=fun _ _ _ st hk=>⟨let ⟨o,ho,r⟩:=st.1;⟨o,hk it (by simp) o ho,r⟩,let ⟨o,ho,r⟩:=st.2;⟨o,hk t (by simp) o ho,r⟩⟩
 item:=fun i s Q E hi st hQ=>zgV st.1 st.2 (x:=its[i]) (by simp[hi]) fun h' a b=>hQ _ h' s.toks (by simp[hi]) ⟨a,st.2.extBut b.extBut hne⟩ b
 done:=fun s Q E st hE=>zhF hh st.1 st.2 (by simp) hE
theorem zhG (l:Addr)(items:Array Value)(n:Nat)(dct:Option Addr)(sl:Array (Option Value)):
  Meets (Builtin.«enumerate.__new__» ⟨[.type "enumerate",.ref l],[]⟩) (fun _ R s=>s.heap.get? l=some {cls:=.type "tuple",dict:=dct,data:=.seq items n,slots:=sl}/\
   R (.ok (.ret (.ref (s.heap.push {cls:=.type "tuple_iterator",data:=.fields #[.ref l,.int 0 0]}).objs.size)))
    {s with heap:=(s.heap.push {cls:=.type "tuple_iterator",data:=.fields #[.ref l,.int 0 0]}).push {cls:=.type "enumerate",data:=.fields #[.none,.bool false,.ref s.heap.objs.size,rawInt 0,.none,.none]}}):=
 .of_wp fun prog w A R s h=>by
  obtain⟨hp,g,d,tk,os⟩:=s;obtain⟨hl,h⟩:=h
  have hsub:=sub_enumerate
  have hL:Heap.IsTuple (Shared.heap ⟨hp,g,d,tk,os⟩) l items:=⟨_,hl,rfl,n,rfl⟩
  wp_walk using AutoSeq1.wpAny_loadPart' hl
  refine wpAny_stack_any fun st=>wpAny_pure ?_
  split
  ·rename_i c _ _ _ _ _
   cases (c==Value.type "enumerate")<;>(wp_walk using AutoSeq1.wpAny_loadPart' hl,wpAny_pyIter_tuple hL;exact⟨_,rfl,h⟩)
  ·wp_walk using AutoSeq1.wpAny_loadPart' hl,wpAny_pyIter_tuple hL
   exact⟨_,rfl,h⟩
theorem zgW {prog:Program}{w:World}{A:Around}{E:Value->Shared->Prop}{s:Shared}{l:Addr}{items:Array Value}{Q:Value->Shared->Prop}(hL:s.heap.IsTuple l items)
  (h:∀h',IsEnum h' (s.heap.objs.size+1) s.heap.objs.size 0 .none->h'.IsTupleIter s.heap.objs.size l 0->h'.objs.size=s.heap.objs.size+2->
   (∀b o,s.heap.get? b=some o->h'.get? b=some o)->Q (.ref (s.heap.objs.size+1)) {s with heap:=h'}):
  wpAny (model prog w) A (call (.type "enumerate") [.ref l]) Q E s:=by
 obtain⟨⟨c,dct,dt,sl⟩,hl,hc,n,hd⟩:=hL
 replace hc:c=.type "tuple" :=hc
 replace hd:dt=.seq items n:=hd
 subst hc hd
 refine callType_new F.called_enumerate (by decide) (F.typeCall_enumerate_1 _) (F.newCall_enumerate_1 _) (fun obj=>F.args_object_init_2 obj _) F.entry_enumerate_new (zhG l items n dct sl) ⟨hl, ?_⟩
 have hz:(s.heap.push {cls:=.type "tuple_iterator",data:=.fields #[.ref l,.int 0 0]}).objs.size=s.heap.objs.size+1:=Heap.size_push ..
 show _/\_
 rw[hz]
 have he:=Heap.get?_push_size (s.heap.push {cls:=.type "tuple_iterator",data:=.fields #[.ref l,.int 0 0]}) (o:={cls:=.type "enumerate",data:=.fields #[.none,.bool false,.ref s.heap.objs.size,rawInt 0,.none,.none]}) rfl
 rw[hz] at he
 exact⟨⟨_,he,rfl⟩,h _ he ⟨_,Heap.get?_push_of_some _ (Heap.get?_push_size _ rfl),rfl,rfl⟩ (by rw[Heap.size_push,hz]) fun b o x=>Heap.get?_push_of_some _ (Heap.get?_push_of_some _ x)⟩
section
variable {X:Cx}{pins:List (Addr×Obj)}{σ:St}{H:Hp}{s:Shared}{h':Heap}
theorem Inv.turnedN {t':Nat}{fp:List Addr}(I:Inv X pins σ H s)(hf:∀b∈fp,FpOk X pins H b)(k:∀b o,b∉fp->s.heap.get? b=some o->h'.get? b=some o):Inv X pins σ H {s with heap:=h',toks:=t'}:=by
 have nit:∀b u,H b=some u->b∉fp:=fun b u e z=>by rw[(hf b z).1] at e;cases e
 refine I.step (g':=s.gens) (d':=s.drawn) (ch:=fp) (fun b hb=> ?_) (fun b o _ _ hc e _=>k b o hc e) (fun b o _ _ hc e _=>⟨o.slots,k b o hc e⟩) (fun _ _ _ _ n=>n)
  (fun b o hc e=>⟨o,k b o hc e⟩) (fun _ _ e=>e) (fun _ _ _ e=>e) (fun b ps e=>⟨#[],by rw[e];simp⟩) (fun m hm=> ?_) (fun b u e=> ?_) I.bare
 ·obtain ⟨_,q1,q2,q3,q4,q5⟩:=hf b hb
  exact⟨q3,q1,q4,q5⟩
 ·obtain ⟨o,es,ep,ho,r⟩:=hm
  exact⟨o,es,ep,k _ o (fun z=>(hf _ z).2.1 rfl) ho,r⟩
 ·refine (I.hok b u e).stay (fun c v hc q=>k c v ?_ q) (fun _ q=>q) fun _ _ q=>q
  rcases hc with z|z
  ·rw[z];exact nit b u e
  ·exact nit c _ z
theorem Inv.trackT {a:Addr}{xs:List V}{its:List Value}(I:Inv X pins σ H s)(hn:H a=none)(hs:X.s₀.heap.objs.size<=a)(hL:a≠X.env.locals)(hc:∀x c,X.env.cells.lookup x=some c->c≠a)(hp:∀p∈X.pn++pins,p.1≠a)
  (rv:Vals xs its) (ht:PTup s.heap a its.toArray) (hz:xs.length<=sizeLine):Inv X pins σ (upd H a (.tup xs)) s:=by
 have ne:∀{b u},H b=some u->b≠a:=fun e=>zaO e hn
 refine⟨I.ok,I.os,I.bare,⟨I.base.keep,I.base.slot,fun b o e n hx=> ?_,I.base.there,fun b ys e=> ?_,fun b o u e=> ?_,fun b ps e=> ?_⟩,I.loc,I.cell, ?_,fun x c e=> ?_,fun p hp'=> ?_,fun b u e=> ?_,I.len⟩
 ·rw [zaq (Nat.ne_of_lt (Nat.lt_of_lt_of_le (Heap.lt_size e) hs))]
  exact I.base.free b o e n hx
 ·have q:=I.base.tups b ys e
  rw[zaq (ne q)];exact q
 ·have q:=I.base.frzs b o u e
  rw[zaq (ne q)];exact q
 ·obtain ⟨m,q⟩:=I.base.tbls b ps e
  exact⟨m,by rw[zaq (ne q)];exact q⟩
 ·rw[zaq (Ne.symm hL)];exact I.free
 ·rw[zaq (hc x c e)];exact I.freeC x c e
 ·obtain ⟨q1,q2,q3⟩:=I.pin p hp'
  exact⟨q1,by rw[zaq (hp p hp')];exact q2,q3⟩
 ·by_cases hb:b=a
  ·subst hb
   rw[zad] at e;cases e
   exact⟨hz,its,rv,ht⟩
  ·rw [zaq hb] at e
   exact (I.hok b u e).stay (fun _ _ _ q=>q) (fun c q=>by rw[zaq (ne q)];exact q) fun c ys q=>by rw[zaq (ne q)];exact q
theorem Inv.turnedT {t':Nat}{fp:List Addr}{xs:List V}{its:List Value}(I:Inv X pins σ H s)(hf:∀b∈fp,FpOk X pins H b)(k:∀b o,b∉fp->s.heap.get? b=some o->h'.get? b=some o)
  (rv:Vals xs its) (ht:PTup h' s.heap.objs.size its.toArray) (hz:xs.length<=sizeLine):Inv X pins σ (upd H s.heap.objs.size (.tup xs)) {s with heap:=h',toks:=t'}:=by
 refine (I.turnedN (t':=t') hf k).trackT (I.hok.fresh (Nat.le_refl _)) I.sz (Nat.ne_of_gt I.lt) (fun x c e=> ?_) (fun p hp=> ?_) rv ht hz
 ·obtain ⟨v,q⟩:=I.cell x c e
  exact Nat.ne_of_lt q.lt
 ·exact Nat.ne_of_lt (Heap.lt_size (I.pin p hp).1)
end
noncomputable def Ite (K:PySem.W.Frag)(a:Addr):It:=
 ⟨fun i H=>∃xs x,SqT K H a xs/\xs[i]? =some x,fun i H v H'=>∃t x,H t=none/\v=.ref t/\H'=upd H t (.tup [.int i,x])/\∀xs,SqT K H a xs->xs[i]? =some x,fun i H=>∃xs,SqT K H a xs/\xs.length=i⟩
theorem zgX {P:Program}{w:World}{K:PySem.W.Frag}{els:List Expr}{kx}{tp:Pos}(a e it:Addr)(hne:e≠it):Turn P w K (.Tuple els kx tp) (Ite K a) [e,it] e (fun i h=>(∃old,IsEnum h e it i old)/\h.IsTupleIter it a i) where
 mem:=by simp
 obj:=fun i h st b hb=>by
  obtain⟨⟨old,he⟩,o,ho,hc,hd⟩:=st
  rcases List.mem_cons.mp hb with rfl|hb
  ·exact⟨_,he,fun v z=>by cases z⟩
  ·rw [List.mem_singleton.mp hb]
   exact⟨o,ho,fun v z=>by rw[hd] at z;cases z⟩
 keep:=fun i h h' st k=>by
  obtain⟨⟨old,he⟩,o,ho,r⟩:=st
  exact⟨⟨old,k e (by simp) _ he⟩,o,k it (by simp) _ ho,r⟩
 item:=by
  intro X hP hw hK hc i pins s σ H E I hf st hg
  subst hP hw hK
  obtain⟨xs,x,hq,hx⟩:=hg
  obtain⟨its,rv,p,hz⟩:=I.tuple hq
  obtain⟨u,hu,ru⟩:=rv.get hx
  obtain⟨⟨old,he⟩,hi⟩:=st
  obtain⟨o,ho,hcl,hd⟩:=id hi
  have hT:s.heap.IsTuple a its.toArray:=p
  have hai:a≠it:=fun z=>by
   obtain⟨o',e1,e2,_⟩:=p
   rw[z,ho] at e1;cases e1;rw[hcl] at e2;injection e2 with z2;revert z2;decide
  have hae:e≠a:=fun z=>by
   obtain⟨o',e1,e2,_⟩:=p
   rw[<-z,he] at e1;cases e1;injection e2 with z2;revert z2;decide
  have hlt:i<its.toArray.size:=by
   have:=(List.getElem?_eq_some_iff.mp hu).1
   simpa using this
  have hh:X.A.in1.handled=none:=I.ok.hd hc
  refine wpAny_pyNext_enum_itemD (zjK hh it a hai its.toArray) he ⟨hi,hT⟩ hlt hne (by simp[hne,hae]) fun x' h1 tk hP1 ho1 hs1 hT1 hz1 hk1=> ?_
  have ex:x'=u:=by
   have q:its[i]? =some x':=by simpa using hP1
   rw[hu] at q;exact (Option.some.inj q).symm
  subst ex
  refine⟨_,rfl,wpAny_letOwnedTupleGo_enum ho1 fun h2 he2 hs2=> ?_⟩
  have hne0:s.heap.objs.size≠e:=Nat.ne_of_gt (Heap.lt_size he)
  have keep:∀b o,b∉[e,it]->s.heap.get? b=some o->h2.get? b=some o:=fun b o hb e0=>(hs2.2 b fun z=>hb (by simp[z])).trans (hk1 b o (fun z=>hb (by simp[z])) (fun z=>hb (by simp[z])) e0)
  refine⟨.ref s.heap.objs.size,_,I.turnedT (h':=h2) (t':=tk+1) (xs:=[.int i,x]) hf keep (.cons ⟨tk,rfl⟩ (.cons ru .nil)) ⟨_,(hs2.2 _ hne0).trans hT1,rfl,⟨_,rfl⟩,rfl,rfl⟩ (by show 2<=sizeLine;decide),rfl,⟨_,x,I.hok.fresh (Nat.le_refl _),rfl,rfl,fun ys hy=>by rw[I.tuple_inj hy hq];exact hx⟩,⟨⟨_,by simpa using he2⟩, ?_⟩,fun b hb=> ?_⟩
  ·obtain ⟨⟨o1,e1,r1⟩,_⟩:=hs1
   exact⟨o1,(hs2.2 it (Ne.symm hne)).trans e1,r1⟩
  ·rcases List.mem_cons.mp hb with rfl|hb'
   ·rw[zaq (Nat.ne_of_lt (Heap.lt_size he))];exact (hf _ hb).1
   ·have e9:=List.mem_singleton.mp hb'
    subst e9
    rw[zaq (Nat.ne_of_lt (Heap.lt_size ho))];exact (hf _ hb).1
 done:=by
  intro X hP hw hK hc i pins s σ H E I hf st hg
  subst hP hw hK
  obtain⟨xs,hq,hx⟩:=hg
  obtain⟨its,rv,p,hz⟩:=I.tuple hq
  obtain⟨⟨old,he⟩,hi⟩:=st
  obtain⟨o,ho,hcl,hd⟩:=id hi
  have hT:s.heap.IsTuple a its.toArray:=p
  have hai:a≠it:=fun z=>by
   obtain⟨o',e1,e2,_⟩:=p
   rw[z,ho] at e1;cases e1;rw[hcl] at e2;injection e2 with z2;revert z2;decide
  have hh:X.A.in1.handled=none:=I.ok.hd hc
  have hl:its.toArray.size=i:=by rw[List.size_toArray,<-rv.length,hx]
  refine wpAny_pyNext_enum_endD (zjK hh it a hai its.toArray) he (by rw[hl];exact⟨hi,hT⟩) fun h1 hk=>⟨rfl, ?_⟩
  exact I.turnedN (t':=s.toks) hf fun b o hb e0=>hk b o (fun z=>hb (by simp[z])) e0
 self:=fun _ _ _ _ _ st h=>by
  obtain⟨⟨old,he⟩,_⟩:=st
  exact wpAny_pyIter_enum he h
section
variable {X:Cx}
noncomputable def zma (K:PySem.W.Frag)(ta:TA):TI:=fun σ H R=>ta σ H fun vs H1=>∃a,vs=[.ref a]/\(∃xs,SqT K H1 a xs)/\R (Ite K a) H1
theorem ziM {els:List Expr}{kx}{tp:Pos}{l:Expr}{ta:TA}{p pos:Pos}(hg:Gl X "enumerate")(hm:X.mg "enumerate" =none)(ha:PA X [l] ta)(hs:starEach [l] X.env=[(false,eval l X.env)]:=by rfl):
  PI X (.Tuple els kx tp) (.Call (.Name "enumerate" p) [l] [] pos) (zma X.K ta):=by
 intro pins s σ H R I h
 refine Call_ (zda I hg hm boot_enumerate (PyProof.Rows.callWith_type1 (thn (ha pos pins s σ H _ I h) fun us s1 zq=> ?_) hs rfl))
 obtain⟨vs,H1,I1,r1,q1⟩:=zq
 obtain⟨a,rfl,⟨xs,hq⟩,q⟩:=q1
 obtain⟨u,rfl,ru⟩:=zcC r1
 cases (show u=Value.ref a from ru)
 obtain⟨its,rv,p',hz⟩:=I1.tuple hq
 refine zgW (show s1.heap.IsTuple a its.toArray from p') fun h' he hi hsz hk=>wpAny_pyIter_enum he ?_
 have I2:Inv X pins σ H1 {s1 with heap:=h'}:=I1.kept (t':=s1.toks) hk
 refine⟨s1.heap.objs.size+1,[s1.heap.objs.size+1,s1.heap.objs.size],_,_,H1,rfl,I2,zgX a _ _ (Nat.ne_of_gt (Nat.lt_succ_self _)),⟨⟨_,he⟩,hi⟩,fun b hb=> ?_,q⟩
 rcases List.mem_cons.mp hb with rfl|hb
 ·exact I1.fpOk (Nat.le_succ _) (I1.hok.fresh (Nat.le_succ _))
 ·rw [List.mem_singleton.mp hb]
  exact I1.fpOk (Nat.le_refl _) (I1.hok.fresh (Nat.le_refl _))
end
structure ZipT (h:Heap) (z TI TO i1 i2 a b:Addr) (i:Nat):Prop where
 z:IsZip h z TI TO .none
 ti:IsPair h TI (.ref i1) (.ref i2)
 to:∃x y,IsPair h TO x y
 one:h.IsTupleIter i1 a i
 two:h.IsTupleIter i2 b i
structure ZipNe (z TI TO i1 i2:Addr):Prop where
 az:TI≠z
 bz:TO≠z
 cz:i1≠z
 dz:i2≠z
 ab:TI≠TO
 ac:TI≠i1
 ad:TI≠i2
 bc:TO≠i1
 bd:TO≠i2
 cd:i1≠i2
section
variable {prog:Program}{w:World}{A:Around}{E:Value->Shared->Prop}{s:Shared}{z TI TO i1 i2 a b:Addr}{i:Nat}{xs ys:Array Value}
end
section
variable {X:Cx}
end
section
variable {X:Cx}{e:Expr}{te:TE}{p2 pos:Pos}
end
section
variable {X:Cx}
end
theorem zdL (f:Nat->Bool):∀(bs:List Bool),(∀i,i<bs.length->f i=bs.getD i false)->(List.range bs.length).all f=bs.all id:=by
 intro bs h
 rw[Bool.eq_iff_iff,List.all_eq_true,List.all_eq_true]
 constructor
 ·intro q b hb
  obtain⟨i,hi,e⟩:=List.getElem_of_mem hb
  have:=q i (List.mem_range.mpr hi)
  rw[h i hi,List.getD_eq_getElem?_getD,List.getElem?_eq_getElem hi,e] at this
  exact this
 ·intro q i hi
  have hi':=List.mem_range.mp hi
  rw[h i hi',List.getD_eq_getElem?_getD,List.getElem?_eq_getElem hi']
  exact q _ (List.getElem_mem hi')
section
variable {X:Cx}
noncomputable def rIsi (K:PySem.W.Frag):List V->Hp->VK->Prop:=fun xs H Q=>∃x T t b,xs=[x,.ty T]/\TyOf K H x t/\PySem.W.kitOne K t (.type T)=some b/\Q (.bl b) H
theorem zcn:zbF X (.builtin "isinstance") (rIsi X.K):=by
 intro pins s σ H xs us Q I rs h
 obtain⟨x,T,t,b,rfl,ty,e,q⟩:=h
 obtain⟨u,c,rfl,ru,rc⟩:=zht rs
 cases (show c=Value.type T from rc)
 exact zhw I ru ty e fun tk=>⟨.bl b,H,I.tok tk,rfl,q⟩
noncomputable def rAll:List V->Hp->VK->Prop:=fun xs H Q=>∃(a:Addr) (bs:List Bool),xs=[.ref a]/\H a=some (.lst (bs.map V.bl))/\Q (.bl (bs.all id)) H
theorem ziN (hc:X.calm=true):zbF X (.builtin "all") rAll:=by
 intro pins s σ H xs us Q I rs h
 obtain⟨a,bs,rfl,ha,q⟩:=h
 obtain⟨u,rfl,ru⟩:=zcC rs
 cases (show u=Value.ref a from ru)
 obtain⟨hz,its,n,rv,ho⟩:=(show ObjOk X.prog X.w H s.heap a (.lst (bs.map V.bl)) from I.hok a _ ha)
 have hl:s.heap.IsList a its.toArray:=⟨_,ho,rfl,n,rfl⟩
 have hh:X.A.in1.handled=none:=I.ok.hd hc
 have hlen:its.length=bs.length:=by rw[<-rv.length,List.length_map]
 have hne:a≠s.heap.objs.size:=Nat.ne_of_lt (Heap.lt_size ho)
 have hit:∀(i:Nat) v,its.toArray[i]? =some v->v=Value.bool (bs.getD i false):=fun i v e=>by
  have e':its[i]? =some v:=by simpa using e
  have hi:i<bs.length:=by rw[<-hlen];exact (List.getElem?_eq_some_iff.mp e').1
  obtain⟨u,hu,ru⟩:=rv.get (i:=i) (x:=V.bl bs[i]) (by rw[List.getElem?_map,List.getElem?_eq_getElem hi];rfl)
  rw[e'] at hu;cases hu
  cases (show v=Value.bool bs[i] from ru)
  rw[List.getD_eq_getElem?_getD,List.getElem?_eq_getElem hi]
  rfl
 refine call_all_walk (wpAny_pyIter_list hl ⟨s.heap.objs.size,_,_,_,_,_,fun i=>bs.getD i false,rfl,Walks.list hh _ a hne its.toArray,⟨⟨_,Heap.get?_push_size _ rfl,rfl,rfl⟩,hl.push _⟩, ?_,fun h' tk hk=> ?_⟩)
 ·intro i v s' Q' E' hP hQ
  rw[hit i v hP]
  exact wpAny_truthy_bool hQ
 ·refine ⟨.bl (bs.all id),H,I.kept (t':=tk) fun b o e=>hk b o ?_ (Heap.get?_push_of_some _ e), ?_,q⟩
  ·exact fun hm=>absurd (List.mem_singleton.mp hm) (Nat.ne_of_lt (Heap.lt_size e))
  ·show Value.bool _=Value.bool _
   have hs:its.toArray.size=bs.length:=by simpa using hlen
   rw[hs,zdL _ bs fun i _=>rfl]
end
mutual
inductive Is (H:Hp):V->PyData->Prop
 |non:Is H .non .none
 |bl (b:Bool):Is H (.bl b) (.bool b)
 |int (i:Int):Is H (.int i) (.int i)
 |str (x:Str):Is H (.str x) (.str x)
 |tup {a:Addr} {vs:List V} {ds:List PyData}:H a=some (.tup vs)->IsAll H vs ds->Is H (.ref a) (.tuple ds)
 |lst {a:Addr} {vs:List V} {ds:List PyData}:H a=some (.lst vs)->IsAll H vs ds->Is H (.ref a) (.list ds)
inductive IsAll (H:Hp):List V->List PyData->Prop
 |nil:IsAll H [] []
 |cons {v:V} {vs:List V} {d:PyData} {ds:List PyData}:Is H v d->IsAll H vs ds->IsAll H (v::vs) (d::ds)
end
theorem IsAll.ints {H:Hp}:∀ns:List Int,IsAll H (ns.map V.int) (ns.map PyData.int)
 |[]=>.nil
 |n::r=>.cons (.int n) (IsAll.ints r)
theorem Is.ints {H:Hp}{a:Addr}{ns:List Int}(h:H a=some (.tup (ns.map V.int))):Is H (.ref a) (.tuple (ns.map PyData.int)):=.tup h (IsAll.ints ns)
section
variable {X:Cx}{pins:List (Addr×Obj)}{σ:St}{H:Hp}{s:Shared}
mutual
theorem Inv.reads (I:Inv X pins σ H s):∀{v:V} {d:PyData} {u:Value},Is H v d->RelV v u->∃as,Reads s.heap u d as
 |_,_,_,.non,r=>by cases (show _=Value.none from r);exact⟨_,.none⟩
 |_,_,_,.bl b,r=>by cases (show _=Value.bool b from r);exact⟨_,.bool b⟩
 |_,_,_,.int i,r=>by obtain⟨t,rfl⟩:=r;exact⟨_,.int i t⟩
 |_,_,_,.str x,r=>by obtain⟨t,rfl⟩:=r;exact⟨_,.str x t⟩
 |_,_,_,.tup (a:=a) (vs:=vs) h al,r=>by
  cases (show _=Value.ref a from r)
  obtain⟨_,its,rv,o,ho,hc,⟨n,hd⟩,_⟩:=(show ObjOk X.prog X.w H s.heap a (.tup vs) from I.hok a _ h)
  obtain⟨as,q⟩:=Inv.readsAll I al rv
  exact⟨as,.tuple ho hc hd (by simpa using q)⟩
 |_,_,_,.lst (a:=a) (vs:=vs) h al,r=>by
  cases (show _=Value.ref a from r)
  obtain⟨_,its,n,rv,ho⟩:=(show ObjOk X.prog X.w H s.heap a (.lst vs) from I.hok a _ h)
  obtain⟨as,q⟩:=Inv.readsAll I al rv
  exact⟨_,.list ho rfl rfl (by simpa using q)⟩
theorem Inv.readsAll (I:Inv X pins σ H s):∀{vs:List V} {ds:List PyData} {us:List Value},IsAll H vs ds->Vals vs us->∃as,ReadsAll s.heap us ds as
 |_,_,_,.nil,.nil=>⟨_,.nil⟩
 |_,_,_,.cons h al,.cons r rs=>by
  obtain⟨as,q⟩:=Inv.reads I h r
  obtain⟨bs,q'⟩:=Inv.readsAll I al rs
  exact⟨_,.cons q q'⟩
end
noncomputable def rEqD:R2:=fun x y H Q=>∃d e,Is H x d/\Is H y e/\SeqAt.shaped d=true/\SeqAt.shaped e=true/\Q (.bl (PyData.eqv d e)) H
theorem zld (hu:X.A.units+64<cLine):OpR X (compareOp .Eq) rEqD:=by
 intro pins s σ H x y v u Q I rx ry h
 obtain⟨d,e,hd,he,sd,se,q⟩:=h
 obtain⟨as,ra⟩:=I.reads hd rx
 obtain⟨bs,rb⟩:=I.reads he ry
 exact eq_dataH ra rb sd se hu ⟨.bl _,H,I,rfl,q⟩
end
theorem zgi:∀ns:List Int,PyData.canLayAll0 (ns.map PyData.int)=true
 |[]=>rfl
 |_::r=>by simp[PyData.canLayAll0,PyData.canLay0,zgi r]
theorem ze0:∀ns:List Int,PyData.depthAll (ns.map PyData.int)=0
 |[]=>rfl
 |_::r=>by simp[PyData.depthAll,PyData.depth,ze0 r]
theorem zcP (ns:List Int):SeqAt.shaped (.tuple (ns.map PyData.int))=true:=by
 simp[SeqAt.shaped,PyData.canLay0,PyData.depth,zgi,ze0]
theorem zgj:∀ns ms:List Int,PyData.eqvAll (ns.map PyData.int) (ms.map PyData.int)=decide (ns=ms)
 |[],[]=>by simp[PyData.eqvAll]
 |[],_::_=>by simp[PyData.eqvAll]
 |_::_,[]=>by simp[PyData.eqvAll]
 |a::r,b::t=>by
  simp only[List.map_cons,PyData.eqvAll,PyData.eqv,zgj r t]
  by_cases h:a=b<;>by_cases h':r=t<;>simp[h,h']
noncomputable def zhH (sc:Scope)(N:List Str)(scope:Scope)(N':List Str)(n:Nat)(ix:List Nat):Bool:=
 scope.kind==.function&&scope.names.all (fun y=>y.2 != .cell)&&scope.names.all (fun y=>y.2 != .local||scope.names.lookup y.1==some .local)&&
 scope.names.all (fun y=>y.2 != .free||(sc.names.lookup y.1==some .cell||sc.names.lookup y.1==some .free))&&scope.names.all (fun y=>y.2 != .free||scope.names.lookup y.1 != some .local)&&
 N'.length==n+ix.length&&(List.range ix.length).all fun j=>match ix[j]?,N'[n+j]? with
  |some i,some x=>N[i]? ==some x&&scope.names.contains (x,.free)
  |_,_=>false
theorem CompScope.of {X:Cx}{sc:Scope}{N:List Str}{scope:Scope}{N':List Str}{n:Nat}{ix:List Nat}(h:zhH sc N scope N' n ix=true)(hs:X.env.scope=sc)(hN:X.N=N):CompScope X scope N' n ix:=by
 unfold zhH at h
 simp only[Bool.and_eq_true,List.all_eq_true] at h
 obtain⟨⟨⟨⟨⟨⟨h1,h2⟩,h3⟩,h4⟩,h5⟩,h6⟩,h7⟩:=h
 subst hs hN
 refine⟨eq_of_beq h1,fun y hy=>by simpa using h2 y hy,fun y hy hl=> ?_,fun y hy hf=> ?_,fun y hy hl=> ?_,eq_of_beq h6,fun j i e=> ?_⟩
 ·have:=h3 y hy
  rw[hl] at this
  simpa using this
 ·have:=h4 y hy
  rw[hf] at this
  simpa using this
 ·have:=h5 _ hy
  rw[hl] at this
  simp at this
 ·have hj:j<ix.length:=(List.getElem?_eq_some_iff.mp e).1
  have:=h7 j (List.mem_range.mpr hj)
  rw[e] at this
  cases hx:N'[n+j]? with
  |none=>rw[hx] at this;simp at this
  |some x=>
   rw[hx] at this
   simp only[Bool.and_eq_true] at this
   exact⟨x,rfl,eq_of_beq this.1,by simpa using this.2⟩
structure Cal (P:Program) (w:World) (K:PySem.W.Frag) (mg:Str->Option Value) (base:Heap) (k:Nat) (x:Str) (ps:List Str) (sp:Sp):Prop where
 ex:∃f fd,FnOk P w K mg base CX0 k f fd ps sp/\mg x=some (.ref f)/\PySem.W.keepIn K (.ref f)=true/\Binds K fd ps []
section
variable {X:Cx}{k:Nat}{ps:List Str}{sp:Sp}{x:Str}{p pos:Pos}{e:Expr}{es:List Expr}{t:TA}
theorem zak (C:Cal X.prog X.w X.K X.mg X.base k x ps sp)(hr:Room k X.A)(hg:Gl X x)(ha:PA X (e::es) t)(hdb:(x==("__debug__" :Str))=false:=by decide)(he:starEach (e::es) X.env=(false,eval e X.env)::starEach es X.env:=by rfl)
  (hpl:(backTo pos (starEach es X.env)).any (·.1)=false:=by rfl):PE X (.Call (.Name x p) (e::es) [] pos) (fun σ H Q=>t σ H fun vs H1=>sp vs H1 Q E0):=by
 obtain⟨f,fd,F,hm,hk,hb⟩:=C.ex
 exact (zj5 F hr hg hm hk hb .nil zla ha hdb he hpl).mono fun σ H Q q=>by
  have e:(fun (vs:List V) (H1:Hp)=>sp (vs++[]) H1 Q E0)=fun vs H1=>sp vs H1 Q E0:=by funext vs H1;rw[List.append_nil]
  show t σ H fun vs H1=>sp (vs++[]) H1 Q E0
  rw[e]
  exact q
end
structure Top (mg:Str->Option Value):Prop where
 n_len:mg "len" =none
 n_tuple:mg "tuple" =none
 n_list:mg "list" =none
 n_range:mg "range" =none
 n_int:mg "int" =none
 n_bool:mg "bool" =none
 n_isinstance:mg "isinstance" =none
 n_all:mg "all" =none
 n_zip:mg "zip" =none
 n_enumerate:mg "enumerate" =none
 n_min:mg "min" =none
 n_sum:mg "sum" =none
 n_max:mg "max" =none
 n_abs:mg "abs" =none
 n_sorted:mg "sorted" =none
section
variable {X:Cx}
noncomputable def zmb:R2:=fun x y H Q=>∃a b xs ys,x=.ref a/\y=.ref b/\H a=some (.tup xs)/\H b=some (.tup ys)/\xs.length+ys.length<=sizeLine/\∀p H',Same H H'->H' p=some (.tup (xs++ys))->Q (.ref p) H'
theorem zdg:OpR X (binaryOp .Add) zmb:=by
 intro pins s σ H x y v u Q I rx ry h
 obtain⟨a,b,xs,ys,rfl,rfl,ha,hb,hz,q⟩:=h
 have ha':SqT X.K H a xs:=SqT.of ha
 have hb':SqT X.K H b ys:=SqT.of hb
 by_cases hx:xs=[]
 ·subst hx
  cases rx
  cases ry
  obtain⟨its,r1,p1,_⟩:=I.tuple ha'
  obtain⟨its2,r2,p2,_⟩:=I.tuple hb'
  cases r1
  obtain⟨⟨cls,dd,data,sl⟩,ho,hc,n,hd⟩:=id p1
  obtain⟨⟨cls2,dd2,data2,sl2⟩,ho2,hc2,n2,hd2⟩:=id p2
  simp only at hc hd hc2 hd2
  subst hc hd hc2 hd2
  exact concat_meets ⟨_,ho,rfl⟩ ⟨_,ho2,rfl⟩ noFill_tuple_add seq_tuple_add PySem.F.slot_tuple_add PySem.F.entry_tuple_add (PySem.F.args_tuple_add_2 _ _)
   (tuple_addW0 a b #[] its2.toArray n n2 dd dd2 sl sl2 rfl) ⟨ho,ho2,⟨.ref b,H,I,rfl,q b H (Same.refl H) hb⟩⟩
 ·refine zj7 pins s σ H _ _ v u Q I rx ry ⟨a,b,xs,ys,rfl,rfl,ha',hb',hx,hz,fun hy=> ?_,fun _ p hp=> ?_⟩
  ·subst hy
   exact q a H (Same.refl H) (by rw[List.append_nil];exact ha)
  ·exact q p _ (zae hp) zad
end
theorem zaW {n:Nat}(h:n<=1000):n<sizeLine:=Nat.lt_of_le_of_lt h (by decide)
theorem zas (ns:List Int):(ns.map V.int).length=ns.length:=List.length_map ..
theorem zfA {f:V->V}{g:Int->Int}(h:∀n,f (.int n)=.int (g n))(ns:List Int):(ns.map V.int).map f=(ns.map g).map V.int:=by
 rw[List.map_map,List.map_map]
 apply List.map_congr_left
 intro n _
 exact h n
theorem zfB {α:Type}(l:List α):l.filter (fun _=>true)=l:=by simp
noncomputable def Keep (p q:Addr)(H H':Hp):Prop:=∀b o,H b=some o->b≠p->b≠q->H' b=some o
noncomputable def num0 (n:Nat):List Int:=(List.range n).map fun (i:Nat)=>(i:Int)
theorem zbe (n:Nat):za9 0 n=(num0 n).map V.int:=by
 unfold za9 num0
 rw[List.map_map]
 apply List.map_congr_left
 intro i _
 show V.int (0+(i:Int))=V.int (i:Int)
 rw[Int.zero_add]
theorem zgk {n:Nat}{x:Int}(h:x∈num0 n):0<=x/\x<n:=by
 unfold num0 at h
 obtain⟨i,hi,rfl⟩:=List.mem_map.mp h
 have:=List.mem_range.mp hi
 (first|lia|omega)
theorem zgl {K:PySem.W.Frag}{a b:String}{r:Bool}(h:(if (Value.type a==Value.type b)=true then some true else if PySem.W.kitMeta b=true then (fastBuiltinMro a).map (·.contains (Value.type b)) else none)=some r):PySem.W.kitOne K (.type a) (.type b)=some r:=h
theorem zfC {X:Cx}{i j:Nat}{x y:Str}{px py pt:Pos}{kt:Nat}(hc:X.calm=true)(hN:X.N.Nodup)(hi:X.N[i]? =some x)(hj:X.N[j]? =some y)(hx:Loc X.env.scope x)(hy:Loc X.env.scope y)(fx:X.fn x=true∨X.env.scope.names.lookup x=some .local)(fy:X.fn y=true∨X.env.scope.names.lookup y=some .local):
  PG X (.Tuple [.Name x px,.Name y py] kt pt) (gTup X.K 2 (zj0 (zck i) (zj0 (zck j) gNil))):=zk0 hc (zgc (zat hN hi hx fx) (zgc (zat hN hj hy fy) zj1))
theorem zfD {X:Cx}(K:PySem.W.Frag)(hK:X.K=K):IxR X (rIxT K):=hK▸zam
theorem ziO {X:Cx}(K:PySem.W.Frag)(hK:X.K=K):IxR X (rIxL K):=hK▸zbq
theorem zbr {ys:List Int}{i:Int}(h0:0<=i)(h1:i<ys.length):atI (ys.map V.int) i=some (.int (ys.getD i.toNat 0)):=by
 have hlt:i.toNat<ys.length:=by (first|lia|omega)
 have e:((i.toNat:Nat):Int)=i:=by (first|lia|omega)
 have:=zai (xs:=ys.map V.int) (j:=i.toNat) (v:=.int (ys.getD i.toNat 0)) (by rw[List.getElem?_map,List.getD_eq_getElem?_getD,List.getElem?_eq_getElem hlt];rfl)
 rwa [e] at this
theorem zaZ {n:Nat}{x:V}(h:x∈za9 0 n):∃k:Int,x=.int k/\0<=k/\k<n:=by
 rw[zbe] at h
 obtain⟨k,hk,rfl⟩:=List.mem_map.mp h
 exact⟨k,rfl,zgk hk⟩
theorem zhI {n:Nat}{te:TE}{ix:List Nat}{σ:L2.St}{H1:Hp}{Q:VK}(g:Int->Int)(small:n<=1000)(he:∀k:Int,0<=k->k<n->∀H,Same H1 H->∀Q':VK,Q' (.int (g k)) H->te (some (.int k)::ix.map fun i=>σ.getD i none) H Q')
  (fin:∀acc,H1 acc=none->Q (.ref acc) (upd H1 acc (.lst (((num0 n).map g).map V.int)))):LcW (Itr 0 n) H1 (zck 0) zbV te 1 ix σ Q:=by
 refine zeh (zaQ (lo:=0) (n:=n)) (zaW (by rw[zaJ];exact small)) (fun _=>true) (fun v=>match v with| .int k=>.int (g k)|v=>v) (fun _ _=>trivial) (fun _ _ _ _ _ q=>q) (fun x hx _ H' s' Q' q=> ?_) fun acc hacc=> ?_
 ·obtain ⟨k,rfl,h0,h1⟩:=zaZ hx
  exact he k h0 h1 H' s' Q' q
 ·rw [zfB,zbe,zfA (g:=g) fun n=>rfl]
  exact fin acc hacc
structure Def (K:PySem.W.Frag) (x:Str) (st:Stmt):Prop where
 ex:∃(f:Addr) (oc:Value) (od an:Option Addr) (kV doc pm cdv ct:Value) (osl:Array (Option Value)),PySem.W.nsIn K mainGlobals x=some (some (.ref f))/\
  K.lookup f=some ⟨oc,od,.func (PySem.W.fnOf x x (za6 st) (zaS st) (zag st) .none kV doc pm an cdv ct),osl⟩/\PySem.W.codeIn K cdv x=true/\PySem.W.keepIn K (.ref f)=true
section
variable {K:PySem.W.Frag}{h:Heap}{mg:Str->Option Value}{x:Str}{st:Stmt}
theorem Def.of {f:Addr}{oc:Value}{od an:Option Addr}{kV doc pm cdv ct:Value}{osl:Array (Option Value)}(a:PySem.W.nsIn K mainGlobals x=some (some (.ref f)))
  (l:K.lookup f=some ⟨oc,od,.func (PySem.W.fnOf x x (za6 st) (zaS st) (zag st) .none kV doc pm an cdv ct),osl⟩) (c:PySem.W.codeIn K cdv x=true) (k:PySem.W.keepIn K (.ref f)=true):Def K x st:=
 ⟨f,oc,od,an,kV,doc,pm,cdv,ct,osl,a,l,c,k⟩
theorem Def.fn (D:Def K x st)(X:K.In h)(G:h.Ns mainGlobals mg):∃f fd,Fun K x x st f fd/\mg x=some (.ref f):=by
 obtain⟨f,oc,od,an,kV,doc,pm,cdv,ct,osl,a,l,c,k⟩:=D.ex
 exact⟨f,_,zlb (st:=st) l c k,PySem.W.mg_of X G a⟩
end
structure TopK (K:PySem.W.Frag):Prop where
 k_len:PySem.W.nsIn K mainGlobals "len" =some none
 k_tuple:PySem.W.nsIn K mainGlobals "tuple" =some none
 k_list:PySem.W.nsIn K mainGlobals "list" =some none
 k_range:PySem.W.nsIn K mainGlobals "range" =some none
 k_int:PySem.W.nsIn K mainGlobals "int" =some none
 k_bool:PySem.W.nsIn K mainGlobals "bool" =some none
 k_isinstance:PySem.W.nsIn K mainGlobals "isinstance" =some none
 k_all:PySem.W.nsIn K mainGlobals "all" =some none
 k_zip:PySem.W.nsIn K mainGlobals "zip" =some none
 k_enumerate:PySem.W.nsIn K mainGlobals "enumerate" =some none
 k_min:PySem.W.nsIn K mainGlobals "min" =some none
 k_sum:PySem.W.nsIn K mainGlobals "sum" =some none
 k_max:PySem.W.nsIn K mainGlobals "max" =some none
 k_abs:PySem.W.nsIn K mainGlobals "abs" =some none
 k_sorted:PySem.W.nsIn K mainGlobals "sorted" =some none
theorem TopK.top {K:PySem.W.Frag}{h:Heap}{mg:Str->Option Value}(T:TopK K)(X:K.In h)(G:h.Ns mainGlobals mg):Top mg:=
  ⟨PySem.W.mg_none_of X G T.k_len,PySem.W.mg_none_of X G T.k_tuple,PySem.W.mg_none_of X G T.k_list,PySem.W.mg_none_of X G T.k_range,PySem.W.mg_none_of X G T.k_int,PySem.W.mg_none_of X G T.k_bool,PySem.W.mg_none_of X G T.k_isinstance,
   PySem.W.mg_none_of X G T.k_all,PySem.W.mg_none_of X G T.k_zip,PySem.W.mg_none_of X G T.k_enumerate,PySem.W.mg_none_of X G T.k_min,PySem.W.mg_none_of X G T.k_sum,PySem.W.mg_none_of X G T.k_max,PySem.W.mg_none_of X G T.k_abs,PySem.W.mg_none_of X G T.k_sorted⟩
open Sem (wp)
open AutoSeq1 (wpAny_loadPart')
section
variable {prog:Program}{w:World}{A:Around}{E:Value->Shared->Prop}{s:Shared}
end
section
variable {X:Cx}
end
open Sem (wp)
open AutoSeq1 (wpAny_loadPart')
section
variable {prog:Program}{w:World}{A:Around}{E:Value->Shared->Prop}{s:Shared}
end
section
variable {X:Cx}{pos:Pos}
end
section
variable {prog:Program}{w:World}{A:Around}{E:Value->Shared->Prop}{s:Shared}
theorem zfE {Q:List Value->Shared->Prop}{r:Addr}{a b c:Int}{t u v:Tok}{n:Nat}(hh:A.handled=none)(hr:IsRange s.heap r a b c t u v)(hsmall:Builtin.Range.small a b c=true)
  (hn:Builtin.Range.rangeSize a b c=n) (hlen:n<=2^24)
  (hQ:∀h' tk acc',(∀b o,s.heap.get? b=some o->h'.get? b=some o)->ItemsOf (fun i v=>∃t,v=.int (a+i*c) t) acc' n->Q acc'.toList {s with heap:=h',toks:=tk}):
  wpAny (model prog w) A (collect (.ref r)) Q E s:=by
 unfold collect
 refine wpAny_bind (wpAny_runValue (codeAny_builtin F.entry_proto_collect ?_))
 rw[Around.under_plainId F.plain_proto_collect _]
 show wpAny _ A.in1 (newList [] >>= fun l=>again (.builtin "list.__iadd__" ⟨[l,.ref r],[]⟩)) _ _ s
 refine wpAny_bind (wpAny_newObj_type ?_)
 refine wpAny_pure ⟨plainId_quiet F.plain_list_iadd _,codeAny_builtin F.entry_list_iadd ?_⟩
 rw[Around.under_plainId F.plain_list_iadd _]
 show wpAny _ A.in1 (Builtin.List.listExtendWith (.ref s.heap.objs.size) (.ref r) (.ref s.heap.objs.size)) _ _ _
 have hS:(s.heap.push {cls:=.type "list",data:=.seq ([]:List Value).toArray}).get? s.heap.objs.size=some {cls:=.type "list",data:=.seq #[] 0}:=Heap.get?_push_size _ rfl
 have fin':∀s':Shared,(∃h' tk acc' c',s'={s with heap:=h',toks:=tk}/\(∀b o,s.heap.get? b=some o->h'.get? b=some o)/\h'.get? s.heap.objs.size=some {cls:=.type "list",dict:=none,data:=.seq acc' c',slots:=#[]}/\
   ItemsOf (fun i v=>∃t,v=.int (a+i*c) t) acc' n)->wpAny (model prog w) A (match Value.ref s.heap.objs.size with
   | Value.ref a=>do
    match (<-load a).data with
     |Data.seq xs _=>pure xs.toList
     |_=>unsupported "internal:collect"
   |_=>unsupported "internal:collect") Q E s':=by
  rintro _ ⟨h',tk,acc',c',rfl,hk,hS',hacc⟩
  show wpAny _ A (load s.heap.objs.size >>= _) _ _ _
  refine wpAny_bind (wpAny_load hS' ?_)
  exact wpAny_pure (hQ h' tk acc' hk hacc)
 refine wpAny_mono (wpAny_extend_range (A:=A) (R:=fun r s'=>r=.ok (.ret (.ref s.heap.objs.size))/\∃h' tk acc' c',s'={s with heap:=h',toks:=tk}/\(∀b o,s.heap.get? b=some o->h'.get? b=some o)/\h'.get? s.heap.objs.size=some {cls:=.type "list",dict:=none,data:=.seq acc' c',slots:=#[]}/\
   ItemsOf (fun i v=>∃t,v=.int (a+i*c) t) acc' n)
  (s:={s with heap:=s.heap.push {cls:=.type "list",data:=.seq ([]:List Value).toArray}}) hh (Heap.get?_push_of_some _ hr) hsmall hn hlen s.heap.objs.size _ 0 hS
  fun h' tk acc' c' hk hS' hacc=>⟨rfl,h',tk,acc',c',rfl,fun b o e=>hk b o (Nat.ne_of_lt (Heap.lt_size e)) (Heap.get?_push_of_some _ e),hS',hacc⟩) (fun fin s' h=> ?_) (fun e s' h=> ?_)
 ·cases fin with
  |done f=>
   obtain⟨e,h⟩:=h
   cases e
   exact fin' s' h
  |again c'=>exact⟨h.1,codeAny_mono h.2 fun r s'' hr=>by obtain⟨rfl,hr⟩:=hr;exact fin' s'' hr⟩
 ·exact absurd h.1 (by simp)
end
theorem zdh (r:Addr)(a b c:Int)(t u v:Tok)(n:Nat)(hsmall:Builtin.Range.small a b c=true)(hn:Builtin.Range.rangeSize a b c=n)(hlen:n<=2^24)(hlen2:n<=sizeLine):
  Meets (Builtin.«tuple.__new__» ⟨[.type "tuple",.ref r],[]⟩)
   (fun A R s=>A.handled=none/\IsRange s.heap r a b c t u v/\∀(h':Heap) (tk:Nat) (acc:Array Value),(∀b o,s.heap.get? b=some o->h'.get? b=some o)->ItemsOf (fun i v=>∃t,v=.int (a+i*c) t) acc n->
    R (.ok (.ret (.ref h'.objs.size))) {s with heap:=h'.push {cls:=.type "tuple",data:=.seq acc},toks:=tk}):=
 .of_wp fun prog w A R s h=>by
  obtain⟨hh,hr,h⟩:=h
  have hsub:=sub_tuple_self
  have hinit:=init_tuple_lookup
  have hmh:=madeHere_tuple
  have hT:s.TypeIs (.ref r) "range" :=⟨_,hr,rfl⟩
  have hh1:A.in1.handled=none:=hh
  wp_walk using wpAny_typeOf hT,zfE hh1 hr hsmall hn hlen
  intro h' tk acc hk hacc
  show wpAny _ _ (Builtin.Tuple.tupleExact acc.toList.toArray >>= fun v=>ret v) _ _ _
  unfold Builtin.Tuple.tupleExact
  refine wpAny_bind (wpAny_newObj_type ?_ (show acc.toList.toArray.size<=sizeLine by simp only[Array.toArray_toList];rw[hacc.1];exact hlen2))
  refine wpAny_pure ⟨_,rfl, ?_⟩
  have e:acc.toList.toArray=acc:=by simp
  rw[e]
  exact h h' tk acc hk hacc
section
variable {X:Cx}
theorem zfF:∀(n:Nat) (l:List Value) (k:Int),l.length=n->(∀(i:Nat) v,l[i]? =some v->∃t,v=Value.int (k+(i:Int)) t)->Vals ((List.range n).map fun (i:Nat)=>V.int (k+(i:Int))) l:=by
 intro n
 induction n with
 |zero=>intro l k hl _;cases l with
  |nil=>exact .nil
  |cons _ _=>cases hl
 | succ n ih=>
  intro l k hl hv
  cases l with
  |nil=>cases hl
  | cons x r=>
   rw[List.range_succ_eq_map,List.map_cons,List.map_map]
   refine .cons ?_ ?_
   ·obtain ⟨t,e⟩:=hv 0 x rfl
    exact⟨t,e⟩
   ·have:=ih r (k+1) (by simpa using hl) (fun i v e=>by
     obtain⟨t,e'⟩:=hv (i+1) v (by simpa using e)
     exact⟨t,by rw[e'];congr 1;push_cast;(first|lia|omega)⟩)
    have e:((fun (i:Nat)=>V.int (k+(i:Int)))∘Nat.succ)=fun (i:Nat)=>V.int (k+1+(i:Int)):=by
     funext i
     show V.int (k+((i+1:Nat):Int))=_
     congr 1;push_cast;(first|lia|omega)
    rw[e]
    exact this
end
noncomputable def atO (ns:List Int)(x:Int):Int:=ns.getD x.toNat 0
section
variable {m:Nat}{ns ms ks:List Int}{x:Int}
end
theorem ziP {K:PySem.W.Frag}{a:Addr}{xs:List V}{g:TG}{tb:TS}{D:Ends}{σ:L2.St}{H:Hp}(Pv:Nat->L2.St->Hp->Prop)(h0:Pv 0 σ H)(hl:∀i σ H,i<=xs.length->Pv i σ H->SqT K H a xs)
  (hs:∀i x t σ H,xs[i]? =some x->Pv i σ H->H t=none->g (.ref t) σ (upd H t (.tup [.int i,x])) fun σ2 H2=>tb {D with nx:=Pv (i+1),ct:=Pv (i+1),bk:=D.nx} σ2 H2) (hd:∀σ H,Pv xs.length σ H->D.nx σ H):
  ∃W:Nat->Nat->L2.St->Hp->Prop,(∃m,W 0 m σ H)/\∀i m σ H,W i m σ H->
   ((Ite K a).stop i H/\D.nx σ H)∨((Ite K a).go i H/\∃N:L2.St->Hp->Prop,(∀σ' H',N σ' H'->∃m',m'<m/\W (i+1) m' σ' H')/\∀x H',(Ite K a).yld i H x H'->g x σ H' fun σ2 H2=>tb {D with nx:=N,ct:=N,bk:=D.nx} σ2 H2):=by
 refine⟨fun i m σ H=>m=xs.length-i/\i<=xs.length/\Pv i σ H,⟨xs.length,by simp,Nat.zero_le _,h0⟩, ?_⟩
 rintro i m σ H ⟨rfl,hi,p⟩
 have q:=hl i σ H hi p
 by_cases hlt:i<xs.length
 ·refine .inr ⟨⟨xs,xs[i],q,by simp[hlt]⟩,Pv (i+1),fun σ' H' p'=>⟨xs.length-(i+1),by (first|lia|omega),rfl,hlt,p'⟩,fun x H' y=> ?_⟩
  obtain⟨t,x',ht,rfl,rfl,y⟩:=y
  exact hs i x' t σ _ (y xs q) p ht
 ·have e:i=xs.length:=by (first|lia|omega)
  subst e
  exact .inl ⟨⟨xs,q,rfl⟩,hd σ H p⟩
noncomputable def itO (ns:List Int)(x:Int):Nat->Int
 |0=>x
 |k+1=>atO ns (itO ns x k)
noncomputable def orbO (ns:List Int)(x:Int)(k:Nat):List Int:=(List.range k).map (itO ns x)
structure IsRound (ns:List Int) (x:Int) (row:List Int):Prop where
 ex:∃k,row=orbO ns x (k+1)/\itO ns x (k+1)=x
 nd:row.Nodup
section
variable {m:Nat}{ns:List Int}{x y:Int}
open Classical in
noncomputable def rowO (ns:List Int)(x:Int):List Int:=if h:∃row,IsRound ns x row then choose h else []
structure MetO (ns:List Int) (m:Nat) (rows:List (List Int)):Prop where
 nd:rows.flatten.Nodup
 rng:∀y∈rows.flatten,0<=y/\y<m
 clo:∀y∈rows.flatten,atO ns y∈rows.flatten
 row:∀r∈rows,∃f:Int,0<=f/\f<m/\r=rowO ns f
end
section
variable {X:Cx}
end
section
variable {prog:Program}{w:World}{A:Around}{E:Value->Shared->Prop}{s:Shared}
theorem zbf {t sl:Addr}{items:Array Value}{vl vu:Value}{lo hi:Option Int}{Q:Value->Shared->Prop}(ht:IsTup s.heap t items)(hs:s.heap.IsSliceOf sl vl vu .none)(pl:IsPart vl lo)(pu:IsPart vu hi)
  (hw:HT.sIx items.size 0 lo=0/\HT.sIx items.size items.size hi=items.size) (h:Q (.ref t) s):wpAny (model prog w) A (getItem (.ref t) (.ref sl)) Q E s:=by
 obtain⟨os,hos,hcs,hds⟩:=id hs
 have hTs:s.TypeIs (.ref sl) "slice" :=⟨os,hos,hcs⟩
 unfold getItem
 try with_reducible refine wpAny_holding ?_
 first|refine wpAny_bind (wpAny_pure ?_)|skip
 refine wpAny_bind (wpAny_sequenceKey ht.typeIs (by decide) ?_)
 refine wpAny_bind (wpAny_callSpecial?_slot (name:=Str.ofString "__getitem__") ht.typeIs PyProof.Rows.slot_tuple_getitem
  (wpAny_call_entry PyProof.Rows.slot_tuple_getitem ht.typeIs entry_tuple_getitem ?_ (args_tuple_getitem _ _)))
 show wpAny _ _ (Builtin.Tuple.tupleItemsOf (.ref t) >>= _) _ _ s
 refine wpAny_bind (tupleItemsOf_ ht ?_)
 refine wpAny_bind (wpAny_typeOf hTs ?_)
 rw[if_pos (by decide)]
 refine wpAny_bind (HT.sliceApplied_gen hs pl pu ?_)
 show wpAny _ _ (if (((HT.sIx items.size 0 lo:Nat):Int)==0&&(1:Int)==1&&(HT.sIx items.size items.size hi-HT.sIx items.size 0 lo)==items.size)=true then _ else _) _ _ s
 rw[if_pos (by rw[hw.1,hw.2];simp)]
 unfold Builtin.Tuple.tupleIsExact
 refine wpAny_bind (wpAny_bind (wpAny_typeOf ht.typeIs (wpAny_pure ?_)))
 rw[if_pos (by decide)]
 refine wpAny_bind (wpAny_rule ?_)
 exact wpAny_pure ⟨_,rfl,wpAny_pure h⟩
end
section
variable {X:Cx}{e:Expr}{te:TE}{p2 pos:Pos}
end
noncomputable abbrev RowsAt (H:Hp)(zs:List Addr)(rows:List (List Int)):Prop:=Paired (fun (z:Addr) (r:List Int)=>H z=some (.tup (r.map V.int))) zs rows
theorem RowsAt.sameT {H H':Hp}{zs:List Addr}{rows:List (List Int)}(h:RowsAt H zs rows)(s:SameT H H'):RowsAt H' zs rows:=Paired.mapP h fun _ _ q=>s _ _ q
theorem RowsAt.same {H H':Hp}{zs:List Addr}{rows:List (List Int)}(h:RowsAt H zs rows)(s:Same H H'):RowsAt H' zs rows:=h.sameT s.t
structure Bits (bs:List Bool) (m:Nat) (S:List Int):Prop where
 len:bs.length=m
 bit:∀i,i<m->bs[i]? =some (decide ((i:Int)∈S))
theorem zbH (zs:List Addr):(zs.map V.ref).length=zs.length:=List.length_map ..
inductive Ents (P:Params):List DictEntry->List (Str×Addr)->Prop
 |nil:Ents P [] []
 |cons {x:Str} {t:Tok} {f:Addr} {es:List DictEntry} {kvs:List (Str×Addr)}:Ents P es kvs->Ents P (⟨PyData.keyHash P x,.str x t,.ref f⟩::es) ((x,f)::kvs)
structure GDict (K:PySem.W.Frag) (P:Params) (C:Addr) (kvs:List (Str×Addr)):Prop where
 ex:∃es n,K.lookup C=some {cls:=.type "dict",data:=.dict es n}/\Ents P es.toList kvs
 nd:(kvs.map (·.1)).Nodup
theorem Ents.keys {prog:Program}{w:World}:∀{es:List DictEntry} {kvs:List (Str×Addr)},Ents w.params es kvs->∀e∈es,∃k,(PySem.strKind prog w).is k e.key=true/\e.hash=(PySem.strKind prog w).hash k
 |_,_,.nil,_,h=>by cases h
 |_,_,.cons (x:=x) t,e,h=>by
  rcases List.mem_cons.mp h with rfl|h
  ·exact⟨x,by simp[PySem.strKind,Value.isStrOf],rfl⟩
  ·exact Ents.keys t e h
theorem Ents.pairs {prog:Program}{w:World}:∀{es:List DictEntry} {kvs:List (Str×Addr)},Ents w.params es kvs->Pairs (PySem.strKind prog w) es (kvs.map fun kv=>(kv.1,Value.ref kv.2))
 |_,_,.nil=>.nil
 |_,_,.cons t=>.cons (by simp[PySem.strKind,Value.isStrOf]) rfl (Ents.pairs t)
theorem zcQ:∀(kvs:List (Str×Addr)) (x:Str),valueAt (kvs.map fun kv=>(kv.1,Value.ref kv.2)) x=(kvs.lookup x).map Value.ref
 |[],_=>rfl
 | (y,f)::t,x=>by
  have ih:=zcQ t x
  unfold valueAt at ih ⊢
  rw[List.map_cons,List.find?_cons,List.lookup_cons]
  by_cases h:y=x
  ·subst h
   simp
  ·have h2:(x==y)=false:=beq_eq_false_iff_ne.mpr fun z=>h z.symm
   simp only[decide_eq_false h,h2]
   exact ih
section
variable {X:Cx}
noncomputable def rGd (K:PySem.W.Frag)(P:Params):R2:=fun x y H Q=>∃C kvs z f,x=.ref C/\y=.str z/\GDict K P C kvs/\kvs.lookup z=some f/\Q (.ref f) H
theorem zgY:IxR X (rGd X.K X.w.params):=by
 intro value slice pins s σ H x y v u Q I rx ry h hs
 obtain⟨C,kvs,z,f,rfl,rfl,⟨⟨es,n,hk,en⟩,nd⟩,hl,q⟩:=h
 cases rx
 obtain⟨t,rfl⟩:=ry
 have hg:=I.kIn C _ hk
 have hD:s.heap.DictOf (PySem.strKind X.prog X.w) C (kvs.map fun kv=>(kv.1,Value.ref kv.2)):=
  ⟨_,es,n,hg,⟨rfl,rfl,rfl⟩,rfl,fun e he=>en.keys e (by simpa using he),en.pairs,by rw[List.map_map];exact nd⟩
 have fin:EP X pins σ Q (.ref f) {s with toks:=s.toks+1}:=⟨.ref f,H,I.tok _,rfl,q⟩
 exact subscriptTail_builtinR (x:=.ref f) hD.typeIs PySem.F.slot_dict_getitem.lookup
  (wpAny_getItem_of (k:=z) (knd:=PySem.strKind X.prog X.w) (Q:=fun r s'=>r=.ref f/\EP X pins σ Q r s') (by simp[PySem.strKind,Value.isStrOf]) hD.mapOf (by rw[zcQ,hl];rfl) ⟨rfl,fin⟩) hs
end
structure CalF (P:Program) (w:World) (K:PySem.W.Frag) (mg:Str->Option Value) (base:Heap) (k:Nat) (f:Addr) (ps:List Str) (sp:Sp):Prop where
 ex:∃fd,FnOk P w K mg base CX0 k f fd ps sp/\PySem.W.keepIn K (.ref f)=true/\Binds K fd ps []
section
variable {X:Cx}{k:Nat}{x:Str}{p pos:Pos}{e:Expr}{es:List Expr}{t:TA}{tf:TE}
noncomputable def zle (P:Program)(w:World)(K:PySem.W.Frag)(mg:Str->Option Value)(base:Heap)(k:Nat)(tf:TE)(t:TA):TE:=fun σ H Q=>tf σ H fun v H1=>∃f ps sp,v=.ref f/\CalF P w K mg base k f ps sp/\t σ H1 fun vs H2=>sp vs H2 Q E0
theorem zb6 (hf:PE X (.Name x p) tf)(hr:Room k X.A)(ha:PA X (e::es) t)(he:starEach (e::es) X.env=(false,eval e X.env)::starEach es X.env:=by rfl)
  (hpl:(backTo pos (starEach es X.env)).any (·.1)=false:=by rfl):PE X (.Call (.Name x p) (e::es) [] pos) (zle X.prog X.w X.K X.mg X.base k tf t):=by
 intro pins s σ H Q I h
 refine wpAny_Call_Name_kw (thn (hf pins s σ H _ I h) fun v s1 zq=> ?_)
 obtain⟨y,H1,I1,r1,f,ps,sp,ey,⟨fd,F,hk,hb⟩,q1⟩:=zq
 subst ey
 cases (show v=Value.ref f from r1)
 refine PySem.W.callWith_K (h₀:=X.base) I1.ok.mod.kin hk (thn (ha pos pins s1 σ H1 _ I1 q1) fun us s2 ⟨vs,H2,I2,r2,q2⟩=>⟨I2.kIn, ?_⟩) he hpl
 exact zjF F hr hb .nil zla I2 r2 (by rw[List.append_nil];exact q2)
noncomputable def zmc:List V->Hp->VK->Prop:=fun xs H Q=>∃(l:Addr) (ns:List Int),xs=[.ref l]/\H l=some (.lst (ns.map V.int))/\Q (.int ns.sum) H
theorem zhJ (hc:X.calm=true):zbF X (.builtin "sum") zmc:=by
 intro pins s σ H xs us Q I rs h
 obtain⟨l,ns,rfl,hH,q⟩:=h
 obtain⟨u,rfl,ru⟩:=zcC rs
 cases (show u=Value.ref l from ru)
 obtain⟨z,its,n,r,hl,e⟩:=I.lstM hH
 have hI:=zb5 r
 obtain⟨xs,hxs⟩:=hI.allInts.items
 have hnum:(numsOf its.toArray.toList)=ns:=hI.numsOf
 refine sum_intListG (xs:=xs) (I.ok.hd hc) (by rw[<-hxs];exact⟨_,e,rfl,n,rfl⟩) fun h' tk t' hk=> ?_
 have hs:preSum (numAt xs) xs.size=ns.sum:=by
  rw[preSum_eq,List.take_of_length_le (by simp)]
  rw[<-nums_intItems,<-hxs,hnum]
 rw[hs]
 exact⟨.int ns.sum,H,I.kept (t':=tk) hk,⟨_,rfl⟩,q⟩
end
section
variable {prog:Program}{w:World}{A:Around}{R:Result->Shared->Prop}{s:Shared}{elt tg iter tg2 iter2:Expr}{ifs ifs2:List Expr}{scope:Scope}{pos:Pos}{it acc:Value}{env:Env}
end
section
variable {X:Cx}{elt tg iter tg2 iter2:Expr}{ifs ifs2:List Expr}{scope:Scope}{pos:Pos}{wi wi2:TI}{g g2:TG}{tt tt2:TT}{te:TE}{N':List Str}{n:Nat}{ix:List Nat}
end
section
variable {X:Cx}
noncomputable def rSlA:V->Option Int->Option Int->Hp->VK->Prop:=fun x lo hi H Q=>∃a xs,x=.ref a/\H a=some (.tup xs)/\∀p H',Same H H'->H' p=some (.tup (cutV xs lo hi))->Q (.ref p) H'
theorem zcd:SlR X rSlA:=by
 intro pins s σ H x v vl vu lo hi sl Q I rx hs pl pu h
 obtain⟨a,xs,rfl,ha,q⟩:=h
 by_cases hw:HT.sIx xs.length 0 lo=0/\HT.sIx xs.length xs.length hi=xs.length
 ·cases rx
  obtain⟨its,r,ht,hz⟩:=I.tuple (SqT.of (K:=X.K) ha)
  have hl:its.toArray.size=xs.length:=by rw[List.size_toArray];exact r.length.symm
  refine⟨"tuple",_,PyProof.Rows.slot_tuple_getitem.lookup,ht.typeIs, ?_⟩
  refine zbf ht hs pl pu (by rw[hl];exact hw) ⟨.ref a,H,I,rfl,q a H (Same.refl H) ?_⟩
  unfold cutV
  rw[hw.1,hw.2,List.drop_zero,Nat.sub_zero,List.take_length]
  exact ha
 ·exact zjG pins s σ H _ v vl vu lo hi sl Q I rx hs pl pu ⟨a,xs,rfl,SqT.of ha,hw,fun p hp=>q p _ (zae hp) zad⟩
end
section
variable {X:Cx}{elt tg iter tg2 iter2:Expr}{ifs ifs2:List Expr}{scope:Scope}{pos:Pos}{wi wi2:TI}{g g2:TG}{tt tt2:TT}{te:TE}{N':List Str}{n:Nat}{ix:List Nat}
end
noncomputable def zmd (m:Nat)(b:List Int):List Int:=(num0 m).filter fun x=>decide (x∉b)
structure Beg (m k:Nat) (b:List Int):Prop where
 len:b.length=k
 nd:b.Nodup
 rng:∀y∈b,0<=y/\y<m
 free:(zmd m b).length+k=m
theorem ze1 (n:Nat):num0 (n+1)=num0 n++[(n:Int)]:=by simp[num0,List.range_succ]
theorem RowsAt.get {H:Hp}:∀{zs:List Addr} {rows:List (List Int)},RowsAt H zs rows->∀{i:Nat} {z:Addr},zs[i]? =some z->∃r,rows[i]? =some r/\H z=some (.tup (r.map V.int))
 |_,_,.nil,_,_,h=>by simp at h
 |_,_,.cons r _,0,_,h=>by simp at h;subst h;exact⟨_,rfl,r⟩
 |_,_,.cons _ t,i+1,_,h=>RowsAt.get t (i:=i) (by simpa using h)
section
variable {X:Cx}
noncomputable def zme:List V->Hp->VK->Prop:=fun xs H Q=>∃(l:Addr) (ns:List Int),xs=[.ref l]/\H l=some (.lst (ns.map V.int))/\ns≠[]/\∀M,M∈ns->(∀a∈ns,a<=M)->Q (.int M) H
noncomputable def zmf:List V->Hp->VK->Prop:=fun xs H Q=>∃(l:Addr) (ns:List Int),xs=[.ref l]/\H l=some (.tup (ns.map V.int))/\ns≠[]/\∀M,M∈ns->(∀a∈ns,a<=M)->Q (.int M) H
theorem zdi {xs:Array (Int×Tok)}{ns:List Int}(hnum:xs.toList.map (·.1)=ns)(hsz:0<xs.size):
  numAt xs (argBest (fun i j=>decide (numAt xs i>numAt xs j)) (xs.size-1))∈ns/\∀a∈ns,a<=numAt xs (argBest (fun i j=>decide (numAt xs i>numAt xs j)) (xs.size-1)):=by
 obtain⟨h1,h2⟩:=argBest_gt (numAt xs) (xs.size-1)
 subst hnum
 refine⟨?_,fun a ha=> ?_⟩
 ·rw[numAt_eq];exact getD_mem (by rw[List.length_map,Array.length_toList];(first|lia|omega))
 ·obtain ⟨j,hj,rfl⟩:=mem_getD ha
  rw[List.length_map,Array.length_toList] at hj
  rw[<-numAt_eq];exact h2 j (by (first|lia|omega))
theorem zco (hc:X.calm=true):zbF X (.builtin "max") zme:=by
 intro pins s σ H xs us Q I rs h
 obtain⟨l,ns,rfl,hH,hne,q⟩:=h
 obtain⟨u,rfl,ru⟩:=zcC rs
 cases (show u=Value.ref l from ru)
 obtain⟨z,its,n,r,hl,e⟩:=I.lstM hH
 have hI:=zb5 r
 obtain⟨xs,hxs⟩:=hI.allInts.items
 have hnum:xs.toList.map (·.1)=ns:=by rw[<-nums_intItems,<-hxs];exact hI.numsOf
 have hsz:0<xs.size:=by
  have:ns.length=xs.size:=by rw[<-hnum,List.length_map,Array.length_toList]
  have:=List.length_pos_iff.mpr hne
  (first|lia|omega)
 obtain⟨b1,b2⟩:=zdi hnum hsz
 refine max_intList (xs:=xs) (I.ok.hd hc) (by rw[<-hxs];exact⟨_,e,rfl,n,rfl⟩) hsz fun v h' tk hv hk=> ?_
 obtain⟨t,rfl⟩:=intItems_at hv
 exact⟨.int _,H,I.kept (t':=tk) hk,⟨_,rfl⟩,q _ b1 b2⟩
theorem zhK (hc:X.calm=true):zbF X (.builtin "max") zmf:=by
 intro pins s σ H xs us Q I rs h
 obtain⟨l,ns,rfl,hH,hne,q⟩:=h
 obtain⟨u,rfl,ru⟩:=zcC rs
 cases (show u=Value.ref l from ru)
 obtain⟨its,r,ht,hz⟩:=I.tuple (SqT.of (K:=X.K) hH)
 have hI:=zb5 r
 obtain⟨xs,hxs⟩:=hI.allInts.items
 have hnum:xs.toList.map (·.1)=ns:=by rw[<-nums_intItems,<-hxs];exact hI.numsOf
 have hsz:0<xs.size:=by
  have:ns.length=xs.size:=by rw[<-hnum,List.length_map,Array.length_toList]
  have:=List.length_pos_iff.mpr hne
  (first|lia|omega)
 obtain⟨b1,b2⟩:=zdi hnum hsz
 have hT:s.heap.IsTuple l (intItems xs):=by rw[<-hxs];exact ht
 have hlt:l<s.heap.objs.size:=by obtain⟨_,e,_⟩:=hT;exact Heap.lt_size e
 have hT2:(s.heap.push {cls:=.type "tuple_iterator",data:=.fields #[.ref l,.int 0 0]}).IsTuple l (intItems xs):=by
  obtain⟨o,e,r⟩:=hT
  exact⟨o,Heap.get?_push_of_some _ e,r⟩
 have hh:X.A.handled=none:=I.ok.hd hc
 refine call_max_walk (wpAny_pyIter_tuple hT ?_)
 refine⟨_,_,_,_,_,_,_,rfl,Walks.tuple (A:=X.A.in1) hh s.heap.objs.size l (Nat.ne_of_lt hlt) (intItems xs),⟨⟨_,Heap.get?_push_size _ rfl,rfl,rfl⟩,hT2⟩,fun b hb=> ?_,by simpa [intItems] using hsz,CmpOf.ints_gt (numAt xs) (fun _ _=>intItems_at),fun v h' tk hP hk=> ?_⟩
 ·show b<(s.heap.push _).objs.size
  rw[Heap.size_push]
  rcases List.mem_cons.mp hb with rfl|hb
  ·exact Nat.lt_succ_self _
  ·rw [List.mem_singleton.mp hb]
   exact Nat.lt_succ_of_lt hlt
 ·have hv:(intItems xs)[argBest (fun i j=>decide (numAt xs i>numAt xs j)) (xs.size-1)]? =some v:=by simpa [intItems] using hP
  obtain⟨t,rfl⟩:=intItems_at hv
  refine⟨.int _,H,I.kept (t':=tk) (fun b o e=>hk b o (fun hm=> ?_) (Heap.get?_push_of_some _ e)),⟨_,rfl⟩,q _ b1 b2⟩
  rw[List.mem_singleton.mp hm] at e
  exact absurd (Heap.lt_size e) (Nat.lt_irrefl _)
end
structure Heaps (ns:List Int) (L:List Int) (es:List Int):Prop where
 inc:L.Pairwise (·<·)
 len:es.length=ns.length
 up:∀(j:Nat) a,L[j]? =some a->∃k:Nat,ns[k]? =some a/\es[k]? =some ((j:Int)+1)
 dn:∀(k:Nat) e,es[k]? =some e->∃(j:Nat) (a b:Int),e=(j:Int)+1/\L[j]? =some a/\ns[k]? =some b/\a<=b
structure CompScopeZ (X:Cx) (scope:Scope) (N':List Str) (n:Nat) (ix:List Nat) (z:Str):Prop where
 kind:scope.kind=.function
 onecell:∀y∈scope.names,y.2=.cell->y.1=z
 nz:∀y:Str,(y,NameKind.free)∈scope.names->y≠z
 cf:∀(a:Addr) (cl:List (Str×Addr)),cellsFrom a scope.names cl=(z,a)::cl
 pc:∀h:Heap,pushCells h scope.names=h.push {cls:=.type "cell",data:=.cell none}
 names:∀y∈scope.names,y.2=.local->scope.names.lookup y.1=some .local
 free:∀y∈scope.names,y.2=.free->X.env.scope.names.lookup y.1=some .cell∨X.env.scope.names.lookup y.1=some .free
 nodup:∀y:Str,(y,NameKind.free)∈scope.names->scope.names.lookup y=some .local->False
 len:N'.length=n+ix.length
 at_:∀(j i:Nat),ix[j]? =some i->∃x,N'[n+j]? =some x/\X.N[i]? =some x/\(x,NameKind.free)∈scope.names
section
variable {X:Cx}{pins:List (Addr×Obj)}{σ:St}{H:Hp}{s:Shared}
end
section
variable {X:Cx}{elt tg iter:Expr}{ifs:List Expr}{scope:Scope}{pos:Pos}{wi:TI}{g:TG}{tt:TT}{te:TE}{N':List Str}{n:Nat}{ix:List Nat}
end
mutual
inductive IsK (K:PySem.W.Frag) (H:Hp):V->PyData->Prop
 |non:IsK K H .non .none
 |bl (b:Bool):IsK K H (.bl b) (.bool b)
 |int (i:Int):IsK K H (.int i) (.int i)
 |str (x:Str):IsK K H (.str x) (.str x)
 |tup {a:Addr} {vs:List V} {ds:List PyData}:SqT K H a vs->IsAllK K H vs ds->IsK K H (.ref a) (.tuple ds)
 |lst {a:Addr} {vs:List V} {ds:List PyData}:H a=some (.lst vs)->IsAllK K H vs ds->IsK K H (.ref a) (.list ds)
inductive IsAllK (K:PySem.W.Frag) (H:Hp):List V->List PyData->Prop
 |nil:IsAllK K H [] []
 |cons {v:V} {vs:List V} {d:PyData} {ds:List PyData}:IsK K H v d->IsAllK K H vs ds->IsAllK K H (v::vs) (d::ds)
end
section
variable {X:Cx}{pins:List (Addr×Obj)}{σ:St}{H:Hp}{s:Shared}
mutual
theorem Inv.readsK (I:Inv X pins σ H s):∀{v:V} {d:PyData} {u:Value},IsK X.K H v d->RelV v u->∃as,Reads s.heap u d as
 |_,_,_,.non,r=>by cases (show _=Value.none from r);exact⟨_,.none⟩
 |_,_,_,.bl b,r=>by cases (show _=Value.bool b from r);exact⟨_,.bool b⟩
 |_,_,_,.int i,r=>by obtain⟨t,rfl⟩:=r;exact⟨_,.int i t⟩
 |_,_,_,.str x,r=>by obtain⟨t,rfl⟩:=r;exact⟨_,.str x t⟩
 |_,_,_,.tup (a:=a) (vs:=vs) h al,r=>by
  cases (show _=Value.ref a from r)
  obtain⟨its,rv,⟨o,ho,hc,n,hd⟩,_⟩:=I.tuple h
  obtain⟨as,q⟩:=Inv.readsAllK I al rv
  exact⟨as,.tuple ho hc hd (by simpa using q)⟩
 |_,_,_,.lst (a:=a) (vs:=vs) h al,r=>by
  cases (show _=Value.ref a from r)
  obtain⟨_,its,n,rv,ho⟩:=(show ObjOk X.prog X.w H s.heap a (.lst vs) from I.hok a _ h)
  obtain⟨as,q⟩:=Inv.readsAllK I al rv
  exact⟨_,.list ho rfl rfl (by simpa using q)⟩
theorem Inv.readsAllK (I:Inv X pins σ H s):∀{vs:List V} {ds:List PyData} {us:List Value},IsAllK X.K H vs ds->Vals vs us->∃as,ReadsAll s.heap us ds as
 |_,_,_,.nil,.nil=>⟨_,.nil⟩
 |_,_,_,.cons h al,.cons r rs=>by
  obtain⟨as,q⟩:=Inv.readsK I h r
  obtain⟨bs,q'⟩:=Inv.readsAllK I al rs
  exact⟨_,.cons q q'⟩
end
noncomputable def rEqK (K:PySem.W.Frag):R2:=fun x y H Q=>∃d e,IsK K H x d/\IsK K H y e/\SeqAt.shaped d=true/\SeqAt.shaped e=true/\Q (.bl (PyData.eqv d e)) H
theorem zlf (hu:X.A.units+64<cLine):OpR X (compareOp .Eq) (rEqK X.K):=by
 intro pins s σ H x y v u Q I rx ry h
 obtain⟨d,e,hd,he,sd,se,q⟩:=h
 obtain⟨as,ra⟩:=I.readsK hd rx
 obtain⟨bs,rb⟩:=I.readsK he ry
 exact eq_dataH ra rb sd se hu ⟨.bl _,H,I,rfl,q⟩
end
noncomputable def zmg (K:PySem.W.Frag):List V->Hp->VK->Prop:=fun xs H Q=>∃x T t b,xs=[x,.ty T]/\(TyOf K H x t∨∃a ys,x=.ref a/\SqT K H a ys/\t=.type "tuple")/\PySem.W.kitOne K t (.type T)=some b/\Q (.bl b) H
theorem zhL {X:Cx}:zbF X (.builtin "isinstance") (zmg X.K):=by
 intro pins s σ H xs us Q I rs h
 obtain⟨x,T,t,b,rfl,ty,hk,q⟩:=h
 rcases ty with ty|⟨a,ys,rfl,hq,rfl⟩
 ·exact zcn pins s σ H _ us Q I rs ⟨x,T,t,b,rfl,ty,hk,q⟩
 ·obtain ⟨u,u',rfl,ru,ru'⟩:=zht rs
  cases (show u=Value.ref a from ru)
  cases (show u'=Value.type T from ru')
  obtain⟨its,_,⟨o,h1,h2,_⟩,_⟩:=I.tuple hq
  exact PySem.W.kia_one PySem.W.kitx_tuple I.kIn ⟨o,h1,h2⟩ hk (fun z=>nomatch z) fun tk=>⟨.bl b,H,I.tok _,rfl,q⟩
theorem Same.seqT {K:PySem.W.Frag}{H H':Hp}{a:Addr}{xs:List V}(e:Same H H')(h:SqT K H a xs):SqT K H' a xs:=by
 rcases h with (h|⟨o,h⟩)|h
 ·exact .inl (.inl (e _ _ h))
 ·exact .inl (.inr ⟨o,e _ _ h⟩)
 ·exact .inr h
noncomputable abbrev RowsK (K:PySem.W.Frag)(H:Hp)(zs:List Addr)(rows:List (List Int)):Prop:=Paired (fun (z:Addr) (r:List Int)=>SqT K H z (r.map V.int)) zs rows
theorem RowsK.same {K:PySem.W.Frag}{H H':Hp}{zs:List Addr}{rows:List (List Int)}(h:RowsK K H zs rows)(s:Same H H'):RowsK K H' zs rows:=Paired.mapP h fun _ _ q=>s.seqT q
noncomputable def atZ (ns:List Int)(k:Int):Int:=if k<0 then 0 else ns.getD k.toNat 0
theorem zlg {ns:List Int}{k:Int}(h:0<=k):ns.getD k.toNat 0=atZ ns k:=by
 unfold atZ
 rw[if_neg (by (first|lia|omega))]
theorem zjL {ns:List Int}{k:Int}(h:k<0):atZ ns k=0:=by
 unfold atZ
 rw[if_pos h]
theorem zlh {ns:List Int}{k:Int}(h:(ns.length:Int)<=k):atZ ns k=0:=by
 unfold atZ
 rw[if_neg (by (first|lia|omega)),List.getD_eq_getElem?_getD,List.getElem?_eq_none (by (first|lia|omega))]
 rfl
noncomputable def zdj (K:PySem.W.Frag):Sp:=fun vs H Q _=>∃(a:Addr) (ns:List Int) (k:Int),vs=[.ref a,.int k]/\SqT K H a (ns.map V.int)/\Q (.int (atZ ns k)) H
noncomputable def zbY (m:Nat)(ns:List Int):List Int:=(num0 (m+1)).map fun k=>atZ ns (k-1)+((m:Int)-1)*atZ ns k
noncomputable def zcp (m:Nat)(ns:List Int):List Int:=(num0 (m+1)).map fun k=>atZ ns (k-1)+((m:Int)-1-k)*atZ ns k+(k+1)*atZ ns (k+1)
noncomputable def zcq (m:Nat)(ns:List Int):List Int:=(num0 m).map fun k=>(k+1)*atZ ns k+((m:Int)-k)*atZ ns (k-1)
noncomputable def zcV (K:PySem.W.Frag)(B:Nat)(g:Nat->List Int->List Int):Sp:=fun vs H Q _=>∃(m:Nat) (a:Addr) (ns:List Int),vs=[.int m,.ref a]/\1<=m/\m<=B/\SqT K H a (ns.map V.int)/\ns.length<=1000/\∀p H',Same H H'->H' p=some (.tup ((g m ns).map V.int))->Q (.ref p) H'
theorem zbc {i j:Int}(h0:-100<=i)(h1:i<=1000):CMul i j:=.inl ⟨Int.lt_of_lt_of_le (by decide) h0,Int.lt_of_le_of_lt h1 (by decide)⟩
section
variable {X:Cx}
noncomputable def rSlK (K:PySem.W.Frag):V->Option Int->Option Int->Hp->VK->Prop:=fun x lo hi H Q=>∃a xs,x=.ref a/\SqT K H a xs/\∀p H',Same H H'->SqT K H' p (cutV xs lo hi)->Q (.ref p) H'
theorem zkd:SlR X (rSlK X.K):=by
 intro pins s σ H x v vl vu lo hi sl Q I rx hs pl pu h
 obtain⟨a,xs,rfl,ha,q⟩:=h
 by_cases hw:HT.sIx xs.length 0 lo=0/\HT.sIx xs.length xs.length hi=xs.length
 ·cases rx
  obtain⟨its,r,ht,hz⟩:=I.tuple ha
  have hl:its.toArray.size=xs.length:=by rw[List.size_toArray];exact r.length.symm
  refine⟨"tuple",_,PyProof.Rows.slot_tuple_getitem.lookup,ht.typeIs, ?_⟩
  refine zbf ht hs pl pu (by rw[hl];exact hw) ⟨.ref a,H,I,rfl,q a H (Same.refl H) ?_⟩
  unfold cutV
  rw[hw.1,hw.2,List.drop_zero,Nat.sub_zero,List.take_length]
  exact ha
 ·exact zjG pins s σ H _ v vl vu lo hi sl Q I rx hs pl pu ⟨a,xs,rfl,ha,hw,fun p hp=>q p _ (zae hp) (SqT.of zad)⟩
theorem ziQ (K:PySem.W.Frag)(hK:X.K=K):SlR X (rSlK K):=hK▸zkd
noncomputable def zli (K:PySem.W.Frag):List V->Hp->VK->Prop:=fun xs H Q=>∃(l:Addr) (ns:List Int),xs=[.ref l]/\SqT K H l (ns.map V.int)/\Q (.int ns.sum) H
theorem ze2 (hc:X.calm=true):zbF X (.builtin "sum") (zli X.K):=by
 intro pins s σ H xs us Q I rs h
 obtain⟨l,ns,rfl,hH,q⟩:=h
 obtain⟨u,rfl,ru⟩:=zcC rs
 cases (show u=Value.ref l from ru)
 obtain⟨its,r,ht,hz⟩:=I.tuple hH
 have hI:=zb5 r
 obtain⟨xs,hxs⟩:=hI.allInts.items
 have hnum:(numsOf its.toArray.toList)=ns:=hI.numsOf
 refine PySem.W.ktm_sumG (xs:=xs) (I.ok.hd hc) (by rw[<-hxs];exact ht) fun h' tk t' hk=> ?_
 have hs:preSum (numAt xs) xs.size=ns.sum:=by
  rw[preSum_eq,List.take_of_length_le (by simp)]
  rw[<-nums_intItems,<-hxs,hnum]
 rw[hs]
 exact⟨.int ns.sum,H,I.kept (t':=tk) hk,⟨_,rfl⟩,q⟩
theorem zgZ (K:PySem.W.Frag)(hK:X.K=K)(hc:X.calm=true):zbF X (.builtin "sum") (zli K):=hK▸ze2 hc
end
noncomputable def win (ns:List Int)(lo:Int)(n:Nat):Int:=((List.range n).map fun (i:Nat)=>atZ ns (lo+(i:Int))).sum
theorem zej (ns:List Int)(lo:Int)(n:Nat):win ns lo (n+1)=win ns lo n+atZ ns (lo+(n:Int)):=by
 unfold win
 rw[List.range_succ,List.map_append,List.sum_append]
 simp
theorem zhM (ns:List Int)(lo:Nat):∀n:Nat,((ns.drop lo).take n).sum=win ns (lo:Int) n
 |0=>by simp[win]
 |n+1=>by
  rw[List.take_succ,List.sum_append,zhM ns lo n,zej,List.getElem?_drop]
  congr 1
  unfold atZ
  rw[if_neg (by (first|lia|omega)),show ((lo:Int)+(n:Int)).toNat=lo+n by (first|lia|omega),List.getD_eq_getElem?_getD]
  cases ns[lo+n]? <;>simp
theorem zhN (ns:List Int)(lo:Int):∀n:Nat,win ns lo n=win ns (max lo 0) (n-(-lo).toNat)
 |0=>by simp[win]
 | n+1=>by
  rw[zej,zhN ns lo n]
  by_cases h:lo+(n:Int)<0
  ·rw [zjL h,show n+1-(-lo).toNat=0 by (first|lia|omega),show n-(-lo).toNat=0 by (first|lia|omega)]
   simp
  ·rw [show n+1-(-lo).toNat=(n-(-lo).toNat)+1 by (first|lia|omega),zej]
   congr 2
   (first|lia|omega)
theorem zke (ns:List Int)(lo hi:Nat):(ns.drop (min lo ns.length)).take (min hi ns.length-min lo ns.length)=(ns.drop lo).take (hi-lo):=by
 by_cases h:lo<=ns.length
 ·rw [Nat.min_eq_left h]
  by_cases h2:hi<=ns.length
  ·rw[Nat.min_eq_left h2]
  ·rw[Nat.min_eq_right (by (first|lia|omega)),List.take_of_length_le (by rw[List.length_drop];exact Nat.le_refl _),List.take_of_length_le (by rw[List.length_drop];(first|lia|omega))]
 ·rw[show min lo ns.length=ns.length by (first|lia|omega),List.drop_length,List.drop_of_length_le (by (first|lia|omega)),List.take_nil,List.take_nil]
theorem zhO (ns:List Int)(lo hi:Nat):cutV (ns.map V.int) (some (lo:Int)) (some (hi:Int))=((ns.drop lo).take (hi-lo)).map V.int:=by
 unfold cutV
 rw[HT.sIx_nat,HT.sIx_nat,zas,<-List.map_drop,<-List.map_take,zke]
theorem zd4 {g:Int->Int}:∀{l:List Int} {ys:List V},Paired (fun x v=>∀k,x=V.int k->v=V.int (g k)) (l.map V.int) ys->ys=(l.map g).map V.int
 |[],_,.nil=>rfl
 |a::l,_,.cons h t=>by
  rw[List.map_cons,List.map_cons,<-zd4 t,h a rfl]
theorem zkf {n:Nat}{te:TE}{ix:List Nat}{σ:L2.St}{H1:Hp}{Q:VK}(g:Int->Int)(small:n<=1000)(he:∀k:Int,0<=k->k<n->∀H,Same H1 H->∀Q':VK,(∀H',Same H H'->Q' (.int (g k)) H')->te (some (.int k)::ix.map fun i=>σ.getD i none) H Q')
  (fin:∀acc H',H1 acc=none->Same H1 H'->H' acc=some (.lst (((num0 n).map g).map V.int))->Q (.ref acc) H'):LcW (Itr 0 n) H1 (zck 0) zbV te 1 ix σ Q:=by
 refine zei (zaQ (lo:=0) (n:=n)) (zaW (by rw[zaJ];exact small)) (fun x v _=>∀k,x=V.int k->v=V.int (g k)) (fun _ _ _ _ _ h=>h) (fun _ _=>trivial) (fun x hx H' s' Q' q=> ?_) fun acc ys H' hacc sm hys pr=> ?_
 ·obtain ⟨k,rfl,k0,k1⟩:=zaZ hx
  exact he k k0 k1 H' s' Q' fun H2 s2=>q _ H2 s2 fun k' e=>by cases e;rfl
 ·rw [zbe] at pr
  rw[zd4 pr] at hys
  exact fin acc H' hacc sm hys
noncomputable def zbD (m:Nat)(ns:List Int):List Int:=(num0 (m*(m-1)/2+1)).map fun k=>win ns (k-(m:Int)+1) m
noncomputable def zbR:List Str:=["rounds", "stays", "rises", "highs", "crossed"]
theorem zbZ {kind:Str}(h:kind∈zbR):kind= "rounds" ∨kind= "stays" ∨kind= "rises" ∨kind= "highs" ∨kind= "crossed" :=by
 unfold zbR at h
 simpa using h
noncomputable def zfG (kind:Str)(m:Nat)(ns:List Int):List Int:=
 if kind= "crossed" then zbD m ns else if kind= "rises" then zcq m ns else if kind= "stays" then zcp m ns else zbY m ns
noncomputable def bOf (kind:Str):Nat:=if kind= "crossed" then 24 else 60
noncomputable def zhP (K:PySem.W.Frag):Sp:=fun vs H Q _=>∃(kind:Str) (m:Nat) (a:Addr) (ns:List Int),vs=[.str kind,.int m,.ref a]/\kind∈zbR/\1<=m/\m<=bOf kind/\SqT K H a (ns.map V.int)/\ns.length<=1000/\∀p H',Same H H'->H' p=some (.tup ((zfG kind m ns).map V.int))->Q (.ref p) H'
noncomputable def rowZ (kind:Str):Nat->List Int
 |0=>[1]
 |n+1=>zfG kind (n+1) (rowZ kind n)
noncomputable def zek (kind:Str)(n:Nat):List (List Int):=(List.range (n+1)).map (rowZ kind)
theorem zcr (n:Nat):(num0 n).length=n:=by simp[num0]
theorem zjM (kind:Str):bOf kind<=60:=by
 unfold bOf
 split<;>(first|lia|omega)
theorem zhQ {kind:Str}{m:Nat}(ns:List Int)(hm:m<=bOf kind):(zfG kind m ns).length<=277:=by
 unfold zfG
 unfold bOf at hm
 split
 ·rename_i h
  rw[if_pos h] at hm
  unfold zbD
  rw[List.length_map,zcr]
  have:m*(m-1)<=24*23:=Nat.mul_le_mul hm (by (first|lia|omega))
  (first|lia|omega)
 ·rename_i h
  rw[if_neg h] at hm
  split
  ·unfold zcq;rw[List.length_map,zcr];(first|lia|omega)
  ·split
   ·unfold zcp;rw[List.length_map,zcr];(first|lia|omega)
   ·unfold zbY;rw[List.length_map,zcr];(first|lia|omega)
theorem ziR {kind:Str}{n:Nat}(hn:n<=bOf kind):(rowZ kind n).length<=277:=by
 cases n with
 |zero=>show 1<=277;(first|lia|omega)
 |succ n=>exact zhQ _ hn
theorem zg0 (kind:Str)(n:Nat):zek kind (n+1)=zek kind n++[rowZ kind (n+1)]:=by
 unfold zek
 rw[List.range_succ,List.map_append]
 rfl
theorem zhR (kind:Str)(n:Nat):(zek kind n).length=n+1:=by simp[zek]
noncomputable def zfH (K:PySem.W.Frag):Sp:=fun vs H Q _=>∃(kind:Str) (m:Nat),vs=[.str kind,.int m]/\kind∈zbR/\m<=bOf kind/\∀p zs H',Same H H'->H' p=some (.tup (zs.map V.ref))->RowsK K H' zs (zek kind m)->Q (.ref p) H'
theorem zgm {K:PySem.W.Frag}{H:Hp}{a l:Addr}{xs ys:List V}{o:HO}(h:SqT K H a xs)(hl:H l=some (.lst ys)):SqT K (upd H l o) a xs:=by
 have hne:∀u,H a=some u->(∀ys,u≠.lst ys)->a≠l:=fun u e hu hal=>by
  subst hal
  rw[hl] at e
  cases e
  exact hu _ rfl
 rcases h with (h|⟨o',h⟩)|h
 ·exact .inl (.inl (by rw[zaq (hne _ h (fun _ q=>nomatch q))];exact h))
 ·exact .inl (.inr ⟨o',by rw[zaq (hne _ h (fun _ q=>nomatch q))];exact h⟩)
 ·exact .inr h
theorem RowsK.updL {K:PySem.W.Frag}{H:Hp}{zs:List Addr}{rows:List (List Int)}{l:Addr}{ys:List V}{o:HO}(h:RowsK K H zs rows)(hl:H l=some (.lst ys)):RowsK K (upd H l o) zs rows:=Paired.mapP h fun _ _ q=>zgm q hl
theorem RowsK.get {K:PySem.W.Frag}{H:Hp}:∀{zs:List Addr} {rows:List (List Int)},RowsK K H zs rows->∀{i:Nat} {r:List Int},rows[i]? =some r->∃z,zs[i]? =some z/\SqT K H z (r.map V.int)
 |_,_,.nil,_,_,e=>nomatch e
 |_,_,.cons h t,0,_,e=>by cases e;exact⟨_,rfl,h⟩
 |_,_,.cons h t,i+1,_,e=>RowsK.get t e
end L2
namespace L2
theorem ziS {α:Type}{xs:List α}(h:0<xs.length):atI xs (-1)=xs[xs.length-1]? :=by
 unfold atI ixN
 rw[if_neg (by decide),if_pos (by (first|lia|omega))]
 show xs[((-1:Int)+xs.length).toNat]? =_
 rw[show ((-1:Int)+xs.length).toNat=xs.length-1 by (first|lia|omega)]
end L2
namespace L2
open PySem PySem.Spec PyProof.Rows
theorem zhS (ns:List Int)(lo:Nat):cutV (ns.map V.int) (some (lo:Int)) none=(ns.drop lo).map V.int:=by
 unfold cutV
 rw[HT.sIx_nat,HT.sIx_none,zas,<-List.map_drop,<-List.map_take]
 congr 1
 by_cases h:lo<=ns.length
 ·rw[Nat.min_eq_left h,List.take_of_length_le (by rw[List.length_drop];exact Nat.le_refl _)]
 ·rw[show min lo ns.length=ns.length by (first|lia|omega),List.drop_length,List.drop_of_length_le (by (first|lia|omega)),List.take_nil]
theorem GDict.of {K:PySem.W.Frag}{P:Params}{C:Addr}{kvs:List (Str×Addr)}{es:Array DictEntry}{n:Nat}(l:K.lookup C=some {cls:=.type "dict",data:=.dict es n})(en:Ents P es.toList kvs)(nd:(kvs.map (·.1)).Nodup):GDict K P C kvs:=⟨⟨es,n,l,en⟩,nd⟩
theorem CalF.of {P:Program}{w:World}{K:PySem.W.Frag}{mg:Str->Option Value}{base:Heap}{k k':Nat}{x:Str}{f:Addr}{ps:List Str}{sp:Sp}(C:Cal P w K mg base k x ps sp)(h:mg x=some (.ref f))(hk:k<=k'):CalF P w K mg base k' f ps sp:=by
 obtain⟨f',fd,F,hm,kp,hb⟩:=C.ex
 rw[h] at hm
 cases hm
 exact⟨fd,F.mono hk,kp,hb⟩
theorem sqT_ofK {K:PySem.W.Frag}{a:Addr}{xs:List V}{its:Array Value}{n:Nat}(l:K.lookup a=some {cls:=.type "tuple",data:=.seq its n})(hz:its.size<=sizeLine)(r:Vals xs its.toList):∀H,SqT K H a xs:=fun _=>.inr ⟨_,its,n,l,rfl,rfl,hz,r⟩
theorem zhT {X:Cx}:OpR X (binaryOp .Pow) (rI (fun i j=>0<=j/\(Builtin.Int.intBits i:Int)*j<=2^27) fun i j=>.int (i^j.toNat)):=opI fun _ _ _ _ _ _ _ hc q=>pow_int hc.1 hc.2 q
structure TopX (mg:Str->Option Value):Prop where
 n_str:mg "str" =none
 n_repr:mg "repr" =none
 n_divmod:mg "divmod" =none
structure TopXK (K:PySem.W.Frag):Prop where
 k_str:PySem.W.nsIn K mainGlobals "str" =some none
 k_repr:PySem.W.nsIn K mainGlobals "repr" =some none
 k_divmod:PySem.W.nsIn K mainGlobals "divmod" =some none
noncomputable def Pot2 (H:Hp)(p:Addr):Prop:=∃own mixed:Int,H p=some (.lst [.int own,.int mixed])/\0<=own/\0<=mixed/\mixed<18446744073709551557
theorem Pot2.same {p:Addr}{H H':Hp}(h:Pot2 H p)(s:Same H H'):Pot2 H' p:=by
 obtain⟨o,m,h1,h2⟩:=h
 exact⟨o,m,s _ _ h1,h2⟩
theorem Pot2.ne_new {p l:Addr}{H:Hp}(h:Pot2 H p)(hl:H l=none):l≠p:=by
 obtain⟨o,m,h1,h2⟩:=h
 intro e
 rw[e,h1] at hl
 cases hl
noncomputable def zgn (K:PySem.W.Frag):Sp:=fun vs H Q _=>∃(a:Addr) (ns:List Int) (k:Int),vs=[.ref a,.int k]/\SqL K H a (ns.map V.int)/\0<=k/\k<=1000/\∀p H',Same H H'->Pot2 H' p->H p=none->Q (.ref p) H'
noncomputable def zdk:Sp:=fun vs H Q _=>∃(p:Addr) (m:Int),vs=[.ref p,.int m]/\0<m/\m<1073741824/\Pot2 H p/\∀d H',0<=d->d<m->Pot2 H' p->Keep p p H H'->Q (.int d) H'
noncomputable def ziT:Sp:=fun vs H Q _=>∃(p l:Addr) (xs:List V),vs=[.ref p,.ref l]/\H l=some (.lst xs)/\l≠p/\0<xs.length/\xs.length<=1000/\Pot2 H p/\∀x∈xs,∀H',Pot2 H' p->Keep p p H H'->Q x H'
theorem zhU:Builtin.Int.intBits (((10:Int)^(60:Int).toNat)^(15:Int).toNat)<=3616:=by
 have h10:Builtin.Int.intBits (10:Int)<=4:=intBits_le_iff.mpr (by decide)
 have h1:Builtin.Int.intBits ((10:Int)^(60:Int).toNat)<=241:=intBits_pow_le h10 60
 exact intBits_pow_le h1 15
theorem ziU:(Builtin.Int.intBits ((10:Int)^(60:Int).toNat):Int)*15<=2^27:=by
 have h10:Builtin.Int.intBits (10:Int)<=4:=intBits_le_iff.mpr (by decide)
 have h1:Builtin.Int.intBits ((10:Int)^(60:Int).toNat)<=241:=intBits_pow_le h10 60
 (first|lia|omega)
theorem zc7:(0:Int)<((10:Int)^(60:Int).toNat)^(15:Int).toNat:=Int.pow_pos (Int.pow_pos (by decide))
theorem zhV {F r k e:Int}(hF:Builtin.Int.intBits F<=3616)(r0:0<=r)(r1:r<F)(k0:0<=k)(k1:k<=1000)(e0:0<=e)(e1:e<=1):(Builtin.Int.intBits (2*r+e+7919*k+13):Int)*3<=2^27:=by
 have h1:=intBits_le_iff.mp hF
 have h3:2^3616*2+7920000<=2^3700:=by decide+kernel
 have h2:Builtin.Int.intBits (2*r+e+7919*k+13)<=3700:=by
  refine intBits_le_iff.mpr ?_
  generalize (2:Nat)^3616=N at*
  generalize (2:Nat)^3700=M at*
  (first|lia|omega)
 (first|lia|omega)
theorem ziV {J:It}{Ok:Hp->Prop}{xs:List V}{tt:TT}{te:TE}{ix:List Nat}{σ:L2.St}{H1:Hp}{Q:VK}(Y:Yields J Ok xs)(small:xs.length<sizeLine)(p:V->Bool)(R:V->V->Hp->Prop)(hR:∀x v H H',SameT H H'->R x v H->R x v H')(hok:∀H,Same H1 H->Ok H)
  (ht:∀x∈xs,∀H,Same H1 H->∀Q':Bool->Hp->Prop,Q' (p x) H->tt (some x::ix.map fun i=>σ.getD i none) H Q')
  (he:∀x∈xs,p x=true->∀H,Same H1 H->∀Q':VK,(∀v H',Same H H'->R x v H'->Q' v H')->te (some x::ix.map fun i=>σ.getD i none) H Q')
  (fin:∀acc ys H',H1 acc=none->Same H1 H'->H' acc=some (.lst ys)->Paired (fun x v=>R x v H') (xs.filter p) ys->Q (.ref acc) H'):
  LcW J H1 (zck 0) tt te 1 ix σ Q:=by
 intro acc ha
 refine⟨fun i m H=>m=xs.length-i/\i<=xs.length/\Same H1 H/\∃ys,H acc=some (.lst ys)/\Paired (fun x v=>R x v H) ((xs.take i).filter p) ys,⟨xs.length,by simp,Nat.zero_le _,zae ha,[],zad,.nil⟩, ?_⟩
 rintro i m H ⟨rfl,hi,sm,ys,hacc,pr⟩
 have o:=hok _ sm
 have hlen:ys.length<=i:=by
  rw[<-Paired.length pr]
  exact Nat.le_trans (List.length_filter_le _ _) (by rw[List.length_take];(first|lia|omega))
 by_cases hlt:i<xs.length
 ·refine .inr ⟨Y.go i _ o hlt,fun x H' y=> ?_⟩
  obtain⟨rfl,hx⟩:=Y.yld i _ x H' o hlt y
  have hmem:x∈xs:=List.mem_of_getElem? hx
  have htk:xs.take (i+1)=xs.take i++[x]:=by
   rw[List.take_succ,hx];rfl
  refine⟨⟨rfl,fun j v e=> ?_⟩, ?_⟩
  ·cases j with
   |zero=>cases e
   |succ j=>exact e
  ·refine ht x hmem _ sm _ ?_
   cases hp:p x with
   |false=>
    rw[if_neg Bool.false_ne_true]
    refine⟨xs.length-(i+1),by (first|lia|omega),rfl,hlt,sm,ys,hacc, ?_⟩
    rw[htk,List.filter_append]
    simpa [hp] using pr
   |true=>
    rw[if_pos rfl]
    refine he x hmem hp _ sm _ fun v H4 s4 r4=> ?_
    have h4:H4 acc=some (.lst ys):=s4 _ _ hacc
    refine⟨ys,h4,by (first|lia|omega),xs.length-(i+1),by (first|lia|omega),rfl,hlt,zav (sm.trans s4) ha,ys++[v],zad, ?_⟩
    have st:SameT H4 (upd H4 acc (.lst (ys++[v]))):=zbX h4
    rw[htk,List.filter_append,show [x].filter p=[x] by simp[hp]]
    exact Paired.snoc (Paired.mapP pr fun x' v' r'=>hR _ _ _ _ (s4.t.trans st) r') (hR _ _ _ _ st r4)
 ·have e:i=xs.length:=by (first|lia|omega)
  subst e
  refine .inl ⟨Y.stop _ o, ?_⟩
  rw[List.take_length] at pr
  exact fin acc ys H ha sm hacc pr
noncomputable def numF (lo:Int)(n:Nat):List Int:=(List.range n).map fun (i:Nat)=>lo+(i:Int)
theorem zdl (lo:Int)(n:Nat):za9 lo n=(numF lo n).map V.int:=by
 unfold za9 numF
 rw[List.map_map]
 rfl
noncomputable def zg1 (m:Nat)(k:Int):List (Int×Int):=(numF (k+1) ((m:Int)-(k+1)).toNat).map fun j=>(k,j)
noncomputable def prsZ (m i:Nat):List (Int×Int):=(num0 i).flatMap (zg1 m)
noncomputable def rowP (kj:Int×Int):List Int:=[kj.1,kj.2]
noncomputable def zlj (n:Nat):List (List Int):=(num0 n).map fun k=>[k]
noncomputable def zb0 (kind:Str)(m:Nat):List (List Int):=if kind= "crossed" then (prsZ m m).map rowP else if kind= "rises" then zlj (m-1) else zlj m
theorem ze3 (m i:Nat):prsZ m (i+1)=prsZ m i++zg1 m i:=by
 unfold prsZ
 rw[ze1,List.flatMap_append]
 simp
theorem ze4 {m:Nat}{k:Int}(h:0<=k):(zg1 m k).length<=m:=by
 unfold zg1 numF
 simp
 (first|lia|omega)
theorem zgo (m:Nat):∀i:Nat,(prsZ m i).length<=i*m
 |0=>by simp[prsZ,num0]
 |i+1=>by
  rw[ze3,List.length_append]
  have:=zgo m i
  have:=ze4 (m:=m) (k:=(i:Int)) (by (first|lia|omega))
  rw[Nat.succ_mul]
  (first|lia|omega)
noncomputable def RTab (g:Int->List Int)(x v:V)(H:Hp):Prop:=∃(k:Int) (z:Addr),x=.int k/\v=.ref z/\H z=some (.tup ((g k).map V.int))
theorem zc8 {H:Hp}{g:Int->List Int}:∀{ks:List Int} {vs:List V},Paired (fun x v=>RTab g x v H) (ks.map V.int) vs->∃zs:List Addr,vs=zs.map V.ref/\RowsAt H zs (ks.map g)
 |[],_,.nil=>⟨[],rfl,.nil⟩
 |k::ks,_,.cons p t=>by
  obtain⟨k',z,e1,rfl,h⟩:=p
  cases e1
  obtain⟨zs,rfl,R⟩:=zc8 t
  exact⟨z::zs,rfl,.cons h R⟩
noncomputable def zcD:Sp:=fun vs H Q _=>∃(kind:Str) (m:Nat),vs=[.str kind,.int m]/\kind∈zbR/\m<=60/\∀p zs H',Same H H'->H' p=some (.lst (zs.map V.ref))->RowsAt H' zs (zb0 kind m)->Q (.ref p) H'
theorem zg2 (m:Nat):(num0 m).filter (fun k=>decide (k+1<(m:Int)))=num0 (m-1):=by
 cases m with
 |zero=>rfl
 |succ m=>
  rw[ze1,List.filter_append]
  rw[List.filter_eq_self.mpr fun k hk=>by have:=(zgk hk);simp;(first|lia|omega)]
  simp
theorem Paired.append {α β:Type}{F:α->β->Prop}:∀{l1 l2:List α} {v1 v2:List β},Paired F l1 v1->Paired F l2 v2->Paired F (l1++l2) (v1++v2)
 |_,_,_,_,.nil,h=>h
 |_,_,_,_,.cons r t,h=>.cons r (Paired.append t h)
noncomputable abbrev Sm (x:Int)(n:Nat):Prop:=Builtin.Int.intBits x<=n
theorem Sm.of {x:Int}{n:Nat}(h:x.natAbs<2^n):Sm x n:=intBits_le_iff.mpr h
theorem Sm.lt {x:Int}{n:Nat}(h:Sm x n):x.natAbs<2^n:=intBits_le_iff.mp h
theorem Sm.mono {x:Int}{m n:Nat}(h:Sm x m)(k:m<=n):Sm x n:=Nat.le_trans h k
theorem Sm.mul {x y:Int}{m n:Nat}(h:Sm x m)(k:Sm y n):Sm (x*y) (m+n):=by
 refine Sm.of ?_
 rw[Int.natAbs_mul,Nat.pow_add]
 have h1:=h.lt
 have h2:=k.lt
 exact Nat.lt_of_le_of_lt (Nat.mul_le_mul_right _ (Nat.le_of_lt h1)) (Nat.mul_lt_mul_of_pos_left h2 (Nat.two_pow_pos _))
theorem Sm.sub {x y:Int}{n:Nat}(h:Sm x n)(k:Sm y n):Sm (x-y) (n+1):=by
 refine Sm.of ?_
 have h1:=h.lt
 have h2:=k.lt
 rw[Nat.pow_succ]
 generalize (2:Nat)^n=N at*
 (first|lia|omega)
theorem Sm.le {x y:Int}{n:Nat}(h:Sm y n)(k:x.natAbs<=y.natAbs):Sm x n:=Sm.of (Nat.lt_of_le_of_lt k h.lt)
theorem zaA {X:Cx}:OpR X (binaryOp .Mult) (rI (fun i j=>Sm i 8000/\Sm j 8000) fun i j=>.int (i*j)):=opI fun _ _ _ _ _ _ _ hc q=>mul_int q (IntMulOk.of_le hc.1 hc.2 (by decide))
theorem zcs {X:Cx}:OpR X (binaryOp .FloorDiv) (rI (fun _ j=>0<j/\Sm j 8000) fun i j=>.int (i/j)):=opI fun i j _ _ _ _ _ hc q=>by
 have e:i/j=i.fdiv j:=(Int.fdiv_eq_ediv_of_nonneg _ (Int.le_of_lt hc.1)).symm
 rw[e] at q
 have h1:=hc.1
 refine floordiv_int (by (first|lia|omega)) q (.inl (PyProof.noPylong_of_log2 ?_))
 have h0:j.natAbs≠0:=by (first|lia|omega)
 rw[Nat.log2_lt h0]
 exact (hc.2.mono (by decide)).lt
noncomputable def gcdZ (a b:Int):Int:=(Int.gcd a b:Int)
noncomputable def lowZ (a b:Int):Int×Int:=(a/gcdZ a b,b/gcdZ a b)
theorem zaT {a b:Int}(h:0<b):0<gcdZ a b:=by
 unfold gcdZ
 have:=Int.gcd_pos_of_ne_zero_right (a:=a) (b:=b) (by (first|lia|omega))
 (first|lia|omega)
theorem zhW {a b:Int}(h:0<b):gcdZ a b<=b:=Int.le_of_dvd h (Int.gcd_dvd_right ..)
theorem ze5 {a b:Int}(h:0<b):gcdZ b (a%b)=gcdZ a b:=by
 unfold gcdZ
 have e:a%b=a+b*(-(a/b)):=by
  have:=Int.mul_ediv_add_emod a b
  have e2:b*(-(a/b))=-(b*(a/b)):=Int.mul_neg ..
  (first|lia|omega)
 rw[e,Int.gcd_add_mul_left_right,Int.gcd_comm]
theorem ze6 {a:Int}(h:0<=a):gcdZ a 0=a:=by
 unfold gcdZ
 rw[Int.gcd_zero_right]
 (first|lia|omega)
theorem zdm (a b:Int):gcdZ a b=gcdZ b a:=by
 unfold gcdZ
 rw[Int.gcd_comm]
theorem ziW (a b:Int):gcdZ (if a<0 then-a else a) b=gcdZ a b:=by
 unfold gcdZ Int.gcd
 congr 2
 split<;>(first|lia|omega)
theorem low1 {a b:Int}:(lowZ a b).1*gcdZ a b=a:=Int.ediv_mul_cancel (Int.gcd_dvd_left ..)
theorem low2 {a b:Int}:(lowZ a b).2*gcdZ a b=b:=Int.ediv_mul_cancel (Int.gcd_dvd_right ..)
theorem zce {a b:Int}(h:0<b):0<(lowZ a b).2:=by
 have h1:=zaT (a:=a) h
 have h2:=low2 (a:=a) (b:=b)
 refine Int.pos_of_mul_pos_left ?_ h1
 rw[h2];exact h
theorem ze7 {a b:Int}(h:0<b):(lowZ a b).1*b=a*(lowZ a b).2:=by
 have h1:=low1 (a:=a) (b:=b)
 have h2:=low2 (a:=a) (b:=b)
 generalize (lowZ a b).1=x at*
 generalize (lowZ a b).2=y at*
 generalize gcdZ a b=g at*
 subst h1 h2
 rw[Int.mul_assoc,Int.mul_comm g y]
theorem zct {a b c:Int}(hb:0<b)(hc:0<c):lowZ (a*c) (b*c)=lowZ a b:=by
 unfold lowZ gcdZ
 rw[Int.gcd_mul_right]
 have e:(((a.gcd b*c.natAbs:Nat)):Int)=(a.gcd b:Int)*c:=by
  rw[Int.natCast_mul]
  congr 1
  (first|lia|omega)
 rw[e,Int.mul_ediv_mul_of_pos_left _ _ hc,Int.mul_ediv_mul_of_pos_left _ _ hc]
theorem zgp {a b c d:Int}(hb:0<b)(hd:0<d)(h:a*d=c*b):lowZ a b=lowZ c d:=by
 rw[<-zct hb hd,<-zct hd hb,h,Int.mul_comm b d]
theorem zkg {a b:Int}(hb:0<b):lowZ (lowZ a b).1 (lowZ a b).2=lowZ a b:=zgp (zce hb) hb (ze7 hb)
theorem ziX {a b:Int}(h:0<b):(lowZ a b).1.natAbs<=a.natAbs:=by
 have h1:=low1 (a:=a) (b:=b)
 have h2:=zaT (a:=a) h
 generalize (lowZ a b).1=x at*
 generalize gcdZ a b=g at*
 subst h1
 rw[Int.natAbs_mul]
 exact Nat.le_mul_of_pos_right _ (by (first|lia|omega))
theorem ziY {a b:Int}(h:0<b):(lowZ a b).2.natAbs<=b.natAbs:=by
 have h1:=low2 (a:=a) (b:=b)
 have h2:=zaT (a:=a) h
 generalize (lowZ a b).2=x at*
 generalize gcdZ a b=g at*
 subst h1
 rw[Int.natAbs_mul]
 exact Nat.le_mul_of_pos_right _ (by (first|lia|omega))
theorem zlk {a b c d:Int}(hb:0<b)(hd:0<d):(lowZ a b).1*(lowZ c d).2<(lowZ c d).1*(lowZ a b).2↔a*d<c*b:=by
 have h1:=low1 (a:=a) (b:=b)
 have h2:=low2 (a:=a) (b:=b)
 have h3:=low1 (a:=c) (b:=d)
 have h4:=low2 (a:=c) (b:=d)
 have g1:=zaT (a:=a) hb
 have g2:=zaT (a:=c) hd
 generalize (lowZ a b).1=x at*
 generalize (lowZ a b).2=y at*
 generalize (lowZ c d).1=z at*
 generalize (lowZ c d).2=u at*
 generalize gcdZ a b=g at*
 generalize gcdZ c d=k at*
 subst h1 h2 h3 h4
 have e1:x*g*(u*k)=(x*u)*(g*k):=by rw[Int.mul_assoc,Int.mul_assoc,Int.mul_left_comm g u k]
 have e2:z*k*(y*g)=(z*y)*(g*k):=by rw[Int.mul_assoc,Int.mul_assoc,Int.mul_left_comm k y g,Int.mul_comm k g]
 rw[e1,e2]
 exact (Int.mul_lt_mul_right (Int.mul_pos g1 g2)).symm
noncomputable abbrev Shr (H:Hp)(z:Addr)(p:Int×Int):Prop:=H z=some (.tup [.int p.1,.int p.2])
structure ShB (p:Int×Int) (n:Nat):Prop where
 pos:0<p.2
 s1:Sm p.1 n
 s2:Sm p.2 n
theorem ShB.mono {p:Int×Int}{m n:Nat}(h:ShB p m)(k:m<=n):ShB p n:=⟨h.pos,h.s1.mono k,h.s2.mono k⟩
theorem ShB.low {a b:Int}{n:Nat}(h:0<b)(ha:Sm a n)(hb:Sm b n):ShB (lowZ a b) n:=⟨zce h,ha.le (ziX h),hb.le (ziY h)⟩
noncomputable def plZ (p q:Int×Int):Int×Int:=lowZ (p.1*q.2+q.1*p.2) (p.2*q.2)
noncomputable def leZ (p q:Int×Int):Int×Int:=lowZ (p.1*q.2-q.1*p.2) (p.2*q.2)
noncomputable def tmZ (p q:Int×Int):Int×Int:=lowZ (p.1*q.1) (p.2*q.2)
noncomputable def ptZ (p q:Int×Int):Int×Int:=lowZ (p.1*q.2) (p.2*q.1)
noncomputable def ltZ (p q:Int×Int):Bool:=decide (p.1*q.2<q.1*p.2)
noncomputable def minZ (p q:Int×Int):Int×Int:=if ltZ q p then q else p
theorem zjN {a b c d:Int}(hb:0<b)(hd:0<d):ltZ (lowZ a b) (lowZ c d)=decide (a*d<c*b):=by
 unfold ltZ
 exact decide_eq_decide.mpr (zlk hb hd)
noncomputable def zkh:Sp:=fun vs H Q _=>∃a b:Int,vs=[.int a,.int b]/\0<b/\Q (.int (gcdZ a b)) H
noncomputable def zbS:Sp:=fun vs H Q _=>∃a b:Int,vs=[.int a,.int b]/\0<b/\Sm b 8000/\∀z H',Same H H'->Shr H' z (lowZ a b)->Q (.ref z) H'
noncomputable def spSh (g:Int×Int->Int×Int->Int×Int):Sp:=fun vs H Q _=>∃(x y:Addr) (p q:Int×Int),vs=[.ref x,.ref y]/\Shr H x p/\Shr H y q/\ShB p 3900/\ShB q 3900/\∀z H',Same H H'->Shr H' z (g p q)->Q (.ref z) H'
noncomputable def spPt:Sp:=fun vs H Q _=>∃(x y:Addr) (p q:Int×Int),vs=[.ref x,.ref y]/\Shr H x p/\Shr H y q/\ShB p 3900/\ShB q 3900/\0<q.1/\∀z H',Same H H'->Shr H' z (ptZ p q)->Q (.ref z) H'
noncomputable def fcZ:Nat->Int
 |0=>1
 |n+1=>fcZ n*((n:Int)+1)
theorem zaK:∀n,0<fcZ n
 |0=>by decide
 |n+1=>Int.mul_pos (zaK n) (by (first|lia|omega))
theorem zll {m n:Nat}(h:m<=n):fcZ m<=fcZ n:=by
  induction n with
  | zero => have:m=0:=by (first|lia|omega)
            rw[this];exact Int.le_refl _
  | succ n ih=>
    by_cases e:m=n+1
    · rw[e];exact Int.le_refl _
    · refine Int.le_trans (ih (by (first|lia|omega))) ?_
      show fcZ n<=fcZ n*((n:Int)+1)
      have:=zaK n
      have h2:=Int.mul_le_mul_of_nonneg_left (show (1:Int)<=(n:Int)+1 by (first|lia|omega)) (Int.le_of_lt this)
      (first|lia|omega)
theorem zbg {n:Nat}(h:n<=70):Sm (fcZ n) 340:=by
 have h1:Sm (fcZ 70) 340:=Sm.of (by decide+kernel)
 refine h1.le ?_
 have:=zll h
 have:=zaK n
 (first|lia|omega)
noncomputable def spPr:Sp:=fun vs H Q _=>∃n:Nat,vs=[.int 1,.int n]/\n<=300/\Q (.int (fcZ n)) H
noncomputable def zki:V->List V->Hp->VK->Prop:=fun x vs H Q=>∃i,x=.int i/\vs=[]/\Q (.int (Builtin.Int.intBits i)) H
theorem ze8 {X:Cx}:MtR X "int.bit_length" zki:=by
 intro pins s σ H x vs v us Q I rx rv h
 obtain⟨i,rfl,rfl,q⟩:=h
 obtain⟨t,rfl⟩:=rx
 cases rv
 exact call_gives PySem.F.slot_int_bit_length (typeIs_int s i t) PySem.F.entry_int_bit_length (PySem.F.args_int_bit_length_1 _) (AutoIntG2.int_bit_length_int_0 i t) ⟨.int _,H,I.tok _,⟨_,rfl⟩,q⟩
theorem sm1:Sm 1 3900:=Sm.of (by decide+kernel)
theorem low_one {c:Int}:lowZ c 1=(c,1):=by
 unfold lowZ gcdZ
 rw[show (c.gcd 1:Nat)=1 from by rw[Int.gcd_one]]
 simp
noncomputable def figZ (x:Int):Int:=(Builtin.Int.intBits x:Int)
theorem ze9 {a b c d:Int}(hb:0<b)(hd:0<d):tmZ (lowZ a b) (lowZ c d)=lowZ (a*c) (b*d):=by
 unfold tmZ
 have h1:=low1 (a:=a) (b:=b)
 have h2:=low2 (a:=a) (b:=b)
 have h3:=low1 (a:=c) (b:=d)
 have h4:=low2 (a:=c) (b:=d)
 have g1:=zaT (a:=a) hb
 have g2:=zaT (a:=c) hd
 have p1:=zce (a:=a) hb
 have p2:=zce (a:=c) hd
 generalize (lowZ a b).1=x at*
 generalize (lowZ a b).2=y at*
 generalize (lowZ c d).1=z at*
 generalize (lowZ c d).2=u at*
 generalize gcdZ a b=g at*
 generalize gcdZ c d=k at*
 subst h1 h2 h3 h4
 rw[<-zct (Int.mul_pos p1 p2) (Int.mul_pos g1 g2)]
 congr 1
 ·rw[Int.mul_assoc,Int.mul_assoc,Int.mul_left_comm g z k]
 ·rw[Int.mul_assoc,Int.mul_assoc,Int.mul_left_comm g u k]
theorem zlm {a b c d:Int}(hb:0<b)(hd:0<d)(hc:0<c):ptZ (lowZ a b) (lowZ c d)=lowZ (a*d) (b*c):=by
 unfold ptZ
 have h1:=low1 (a:=a) (b:=b)
 have h2:=low2 (a:=a) (b:=b)
 have h3:=low1 (a:=c) (b:=d)
 have h4:=low2 (a:=c) (b:=d)
 have g1:=zaT (a:=a) hb
 have g2:=zaT (a:=c) hd
 have p1:=zce (a:=a) hb
 have p2:=zce (a:=c) hd
 have p3:0<(lowZ c d).1:=by
  refine Int.pos_of_mul_pos_left ?_ g2
  rw[h3];exact hc
 generalize (lowZ a b).1=x at*
 generalize (lowZ a b).2=y at*
 generalize (lowZ c d).1=z at*
 generalize (lowZ c d).2=u at*
 generalize gcdZ a b=g at*
 generalize gcdZ c d=k at*
 subst h1 h2 h3 h4
 rw[<-zct (Int.mul_pos p1 p3) (Int.mul_pos g1 g2)]
 congr 1
 ·rw[Int.mul_assoc,Int.mul_assoc,Int.mul_left_comm g u k]
 ·rw[Int.mul_assoc,Int.mul_assoc,Int.mul_left_comm g z k]
theorem zdn {c d:Int}(hd:0<d)(hc:0<c):0<(lowZ c d).1:=by
 have g2:=zaT (a:=c) hd
 refine Int.pos_of_mul_pos_left ?_ g2
 rw[low1];exact hc
theorem ziZ {b:Int}(hb:0<b):lowZ b b=(1,1):=by
 rw[zgp hb (by decide:(0:Int)<1) (show b*1=1*b by (first|lia|omega)),low_one]
noncomputable def capZ (a b:Int):Int×Int:=if b<a then (1,1) else lowZ a b
theorem zel {a b:Int}(hb:0<b):minZ (1,1) (lowZ a b)=capZ a b:=by
 unfold minZ capZ
 rw[show ((1,1):Int×Int)=lowZ 1 1 from low_one.symm,zjN hb (by decide),Int.mul_one,Int.one_mul]
 by_cases h:a<b
 ·rw[if_pos (decide_eq_true h),if_neg (by (first|lia|omega))]
 ·rw [if_neg (fun z=>h (of_decide_eq_true z))]
  by_cases h2:b<a
  ·rw[if_pos h2]
  ·rw[if_neg h2,show a=b by (first|lia|omega),ziZ hb,low_one]
noncomputable def sZ (N:Int):Nat->Int
 |0=>1
 |i+1=>sZ N i*(N-(i:Int))/((i:Int)+1)
theorem zkj {N:Int}(h:0<=N):∀i:Nat,0<=sZ N i/\(N<(i:Int)->sZ N i=0)
 |0=>⟨(by decide:(0:Int)<=1),fun z=>absurd z (by (first|lia|omega))⟩
 | i+1=>by
  obtain⟨h1,h2⟩:=zkj h i
  show 0<=sZ N i*(N-(i:Int))/((i:Int)+1)/\(_->sZ N i*(N-(i:Int))/((i:Int)+1)=0)
  by_cases c:N<(i:Int)
  ·rw [h2 c,Int.zero_mul,Int.zero_ediv]
   exact⟨Int.le_refl _,fun _=>rfl⟩
  ·refine ⟨Int.ediv_nonneg (Int.mul_nonneg h1 (by (first|lia|omega))) (by (first|lia|omega)),fun z=> ?_⟩
   rw[show N-(i:Int)=0 by (first|lia|omega),Int.mul_zero,Int.zero_ediv]
theorem sm_N {N:Int}(h0:0<=N)(h1:N<=10^30):Sm N 100:=Sm.of (by
 have:(10:Int)^30<2^100:=by decide+kernel
 (first|lia|omega))
theorem zfa {N:Int}{i:Nat}(h0:0<=N)(h1:N<=10^30)(hi:i<=60):Sm (N-(i:Int)) 100:=Sm.of (by
 have:(10:Int)^30+60<2^100:=by decide+kernel
 (first|lia|omega))
theorem zhX {N:Int}(h0:0<=N)(h1:N<=10^30):∀i:Nat,i<=60->Sm (sZ N i) (100*i+1)
 |0,_=>Sm.of (show (1:Int).natAbs<2^1 by decide)
 | i+1,h=>by
  obtain⟨a1,a2⟩:=zkj h0 i
  have ih:=zhX h0 h1 i (by (first|lia|omega))
  have hm:=(ih.mul (zfa h0 h1 (i:=i) (by (first|lia|omega)))).mono (show 100*i+1+100<=100*(i+1)+1 by (first|lia|omega))
  refine Sm.le hm ?_
  show (sZ N i*(N-(i:Int))/((i:Int)+1)).natAbs<=_
  by_cases c:N<(i:Int)
  ·rw [a2 c,Int.zero_mul,Int.zero_ediv]
   exact Nat.le_refl _
  ·have p:0<=sZ N i*(N-(i:Int)):=Int.mul_nonneg a1 (by (first|lia|omega))
   have q:=Int.ediv_le_self ((i:Int)+1) p
   have r:=Int.ediv_nonneg p (show (0:Int)<=(i:Int)+1 by (first|lia|omega))
   (first|lia|omega)
noncomputable def mxZ (N:Int):Int:=if N-1>0 then N-1 else 0
noncomputable def mnZ (kind:Str)(N:Int):Int×Int:=if kind= "rises" then lowZ (mxZ N) 2 else lowZ (N*(N-1)) 4
noncomputable def sdZ (kind:Str)(N:Int):Int×Int:=if kind= "rises" then lowZ ((if decide (1<N)=true then 1 else 0)*(N+1)) 12 else lowZ (N*(N-1)*(2*N+5)) 72
theorem tw_even (N:Int):N*(N-1)/2*2=N*(N-1):=by
 refine Int.ediv_mul_cancel ?_
 have h:=Int.emod_two_eq N
 rcases h with h|h
 ·exact Int.dvd_mul_of_dvd_left (Int.dvd_of_emod_eq_zero h)
 ·exact Int.dvd_mul_of_dvd_right (Int.dvd_of_emod_eq_zero (by (first|lia|omega)))
theorem zi0 (N:Int):N*(N-1)/2*(N-2)/3*3=N*(N-1)/2*(N-2):=by
 refine Int.ediv_mul_cancel ?_
 have e:=tw_even N
 generalize N*(N-1)/2=t at*
 have h:N%3=0∨N%3=1∨N%3=2:=by (first|lia|omega)
 have two:∀x:Int,(3:Int) ∣ x*2->3 ∣ x:=fun x hx=>by (first|lia|omega)
 rcases h with h|h|h
 ·refine Int.dvd_mul_of_dvd_left (two t ?_)
  rw[e]
  exact Int.dvd_mul_of_dvd_left (Int.dvd_of_emod_eq_zero h)
 ·refine Int.dvd_mul_of_dvd_left (two t ?_)
  rw[e]
  exact Int.dvd_mul_of_dvd_right (Int.dvd_of_emod_eq_zero (by (first|lia|omega)))
 ·exact Int.dvd_mul_of_dvd_right (Int.dvd_of_emod_eq_zero (by (first|lia|omega)))
theorem zln (N:Int):lowZ (N*(N-1)/2) 2=lowZ (N*(N-1)) 4:=by
 refine zgp (by decide) (by decide) ?_
 have e:=tw_even N
 (first|lia|omega)
theorem zi1 (N:Int):lowZ (3*(N*(N-1)/2)+2*(N*(N-1)/2*(N-2)/3)) 12=lowZ (N*(N-1)*(2*N+5)) 72:=by
 refine zgp (by decide) (by decide) ?_
 have e:=tw_even N
 have e3:=zi0 N
 generalize N*(N-1)/2=t at*
 rw[<-e]
 generalize t*(N-2)/3=u at*
 have x1:t*(N-2)=t*N-t*2:=Int.mul_sub ..
 have x2:t*2*(2*N+5)=4*(t*N)+10*t:=by
  rw[Int.mul_add,Int.mul_comm 2 N,<-Int.mul_assoc,Int.mul_right_comm t 2 N]
  (first|lia|omega)
 rw[x2]
 (first|lia|omega)
theorem zlo (N:Int)(h0:0<=N):lowZ (if (0:Int)>N-1 then 0 else N-1) 2=lowZ (mxZ N) 2:=by
 unfold mxZ
 congr 1
 split<;>split<;>(first|lia|omega)
theorem zi2 (N:Int)(h0:0<=N):lowZ (3*(if (0:Int)>N-1 then 0 else N-1)-2*(if (0:Int)>N-2 then 0 else N-2)) 12=lowZ ((if decide (1<N)=true then 1 else 0)*(N+1)) 12:=by
 congr 1
 by_cases h:1<N
 ·rw [if_pos (decide_eq_true h),if_neg (by (first|lia|omega)),if_neg (by (first|lia|omega))]
  (first|lia|omega)
 ·rw [show decide (1<N)=false from decide_eq_false h]
  by_cases e:N=0
  ·subst e;decide
  ·rw[show N=1 by (first|lia|omega)];decide
theorem zg3 {kind:Str}{N:Int}(h0:0<=N)(h1:N<=10^30):ShB (mnZ kind N) 600:=by
 have a:=sm_N h0 h1
 have b:=zfa (i:=1) h0 h1 (by decide)
 unfold mnZ
 split
 ·refine ShB.low (by decide) ?_ (Sm.of (by decide+kernel))
  unfold mxZ
  split
  ·exact b.mono (by decide)
  ·exact Sm.of (by decide+kernel)
 ·exact ShB.low (by decide) ((a.mul b).mono (by decide)) (Sm.of (by decide+kernel))
theorem zmh {N:Int}(h0:0<=N)(h1:N<=10^30):Sm (2*N+5) 110:=Sm.of (by
 have:2*(10:Int)^30+5<2^110:=by decide+kernel
 (first|lia|omega))
theorem zmi {N:Int}(h0:0<=N)(h1:N<=10^30):Sm (N+1) 110:=Sm.of (by
 have:(10:Int)^30+1<2^110:=by decide+kernel
 (first|lia|omega))
theorem zlp (b:Bool):Sm (if b=true then 1 else 0) 10:=by cases b<;>exact Sm.of (by decide)
theorem zg4 {kind:Str}{N:Int}(h0:0<=N)(h1:N<=10^30):ShB (sdZ kind N) 600:=by
 have a:=sm_N h0 h1
 have b:=zfa (i:=1) h0 h1 (by decide)
 unfold sdZ
 split
 ·exact ShB.low (by decide) (((zlp _).mul (zmi h0 h1)).mono (by decide)) (Sm.of (by decide+kernel))
 ·exact ShB.low (by decide) (((a.mul b).mul (zmh h0 h1)).mono (by decide)) (Sm.of (by decide+kernel))
theorem zlq {kind:Str}{N:Int}:lowZ (sdZ kind N).1 (sdZ kind N).2=sdZ kind N:=by
 unfold sdZ
 split<;>exact zkg (by decide)
noncomputable def farZ (kind:Str)(N k:Int):Int:=k*(mnZ kind N).2-(mnZ kind N).1
noncomputable def ovZ (kind:Str)(N:Int):Int:=(sdZ kind N).1*(mnZ kind N).2*(mnZ kind N).2
noncomputable def unZ (kind:Str)(N k:Int):Int:=(sdZ kind N).2*farZ kind N k*farZ kind N k
noncomputable def sbZ (kind:Str)(N k:Int):Int×Int:=if farZ kind N k<=0 then (1,1) else lowZ (ovZ kind N) (unZ kind N k)
theorem zgq {kind:Str}{N k:Int}(h0:0<=N)(h1:N<=10^30)(k0:0<=k)(k1:k<=60):Sm (farZ kind N k) 700:=by
 have b:=zg3 (kind:=kind) h0 h1
 have hk:Sm k 6:=Sm.of (by (first|lia|omega))
 unfold farZ
 exact (Sm.sub ((hk.mul b.s2).mono (show 6+600<=606 by decide)) (b.s1.mono (by decide))).mono (by decide)
theorem zgr {kind:Str}{N k:Int}(h0:0<=N)(h1:N<=10^30)(hf:0<farZ kind N k):0<unZ kind N k:=Int.mul_pos (Int.mul_pos (zg4 h0 h1).pos hf) hf
theorem zfb {kind:Str}{N k:Int}:leZ (k,1) (mnZ kind N)=lowZ (farZ kind N k) (mnZ kind N).2:=by
 unfold leZ farZ
 dsimp only
 rw[Int.mul_one,Int.one_mul]
theorem zfc {a b:Int}(hb:0<b):ltZ (0,1) (lowZ a b)=decide (0<a):=by
 rw[show ((0,1):Int×Int)=lowZ 0 1 from low_one.symm,zjN (by decide) hb,Int.zero_mul,Int.mul_one]
theorem zgs {kind:Str}{N k:Int}(h0:0<=N)(h1:N<=10^30)(hf:0<farZ kind N k):ptZ (sdZ kind N) (tmZ (lowZ (farZ kind N k) (mnZ kind N).2) (lowZ (farZ kind N k) (mnZ kind N).2))=lowZ (ovZ kind N) (unZ kind N k):=by
 have m0:=(zg3 (kind:=kind) h0 h1).pos
 rw[ze9 m0 m0]
 have e:=zlq (kind:=kind) (N:=N)
 have s0:=(zg4 (kind:=kind) h0 h1).pos
 unfold ovZ unZ
 generalize sdZ kind N=s at*
 conv=>lhs;rw[<-e]
 rw[zlm s0 (Int.mul_pos m0 m0) (Int.mul_pos hf hf),Int.mul_assoc,Int.mul_assoc]
theorem zlr {kind:Str}{N k:Int}(h0:0<=N)(h1:N<=10^30)(k0:0<=k)(k1:k<=60):ShB (sbZ kind N k) 2500:=by
 have m:=zg3 (kind:=kind) h0 h1
 have d:=zg4 (kind:=kind) h0 h1
 have f:=zgq (kind:=kind) h0 h1 k0 k1
 unfold sbZ
 by_cases hf:farZ kind N k<=0
 ·rw [if_pos hf]
  exact⟨by decide,Sm.of (by decide+kernel),Sm.of (by decide+kernel)⟩
 ·rw [if_neg hf]
  refine ShB.low (zgr h0 h1 (by (first|lia|omega))) ?_ ?_
  ·unfold ovZ
   exact ((d.s1.mul m.s2).mul m.s2).mono (by decide)
  ·unfold unZ
   exact ((d.s2.mul f).mul f).mono (by decide)
noncomputable def bSt (N:Int)(k:Nat):Int×Int:=if (k:Int)<=N then (1,fcZ k) else (0,1)
noncomputable def bLg (N:Int)(k:Nat):Int×Int:=lowZ (sZ N k) (fcZ k)
noncomputable def bGr (N:Int)(k:Nat):Int×Int:=lowZ (figZ N^k) (fcZ k)
noncomputable def zb9 (kind:Str)(N:Int)(k:Nat):Int×Int:=if k=0 then (1,1) else if kind= "stays" then bSt N k else if kind= "longest" then capZ (sZ N k) (fcZ k) else if kind= "rounds" ∨kind= "highs" then capZ (figZ N^k) (fcZ k) else if farZ kind N k<=0 then (1,1) else capZ (ovZ kind N) (unZ kind N k)
theorem zls {N:Int}{k:Nat}:minZ (1,1) (bSt N k)=bSt N k:=by
 unfold minZ bSt ltZ
 have f:=zaK k
 by_cases h:(k:Int)<=N
 ·rw [if_pos h]
  dsimp only
  by_cases c:fcZ k=1
  ·rw[c];rfl
  ·rw[if_pos (decide_eq_true (by (first|lia|omega)))]
 ·rw [if_neg h]
  rfl
theorem zjO {kind:Str}{N:Int}{k:Nat}(h0:0<=N)(h1:N<=10^30):minZ (1,1) (sbZ kind N k)=if farZ kind N k<=0 then (1,1) else capZ (ovZ kind N) (unZ kind N k):=by
 unfold sbZ
 by_cases h:farZ kind N k<=0
 ·rw [if_pos h,if_pos h]
  rfl
 ·rw [if_neg h,if_neg h]
  exact zel (zgr h0 h1 (by (first|lia|omega)))
theorem zlt {N:Int}{k:Nat}(hk:k<=60):ShB (bSt N k) 8000:=by
 unfold bSt
 split
 ·exact⟨zaK k,sm1.mono (by decide),(zbg (by (first|lia|omega))).mono (by decide)⟩
 ·exact⟨by decide,Sm.of (by decide+kernel),Sm.of (by decide+kernel)⟩
theorem zgt {N:Int}(h0:0<=N)(h1:N<=10^30):0<=figZ N/\figZ N<=100:=by
 have:=sm_N h0 h1
 unfold figZ
 unfold Sm at this
 (first|lia|omega)
theorem zhY {N:Int}(h0:0<=N)(h1:N<=10^30):∀k:Nat,Sm (figZ N^k) (7*k+1)
 |0=>Sm.of (show (1:Int).natAbs<2^1 by decide)
 |k+1=>by
  have f:=zgt h0 h1
  rw[Int.pow_succ]
  exact ((zhY h0 h1 k).mul (show Sm (figZ N) 7 from Sm.of (by (first|lia|omega)))).mono (by (first|lia|omega))
theorem zmj {N:Int}{k:Nat}(h0:0<=N)(h1:N<=10^30)(hk:k<=60):ShB (bLg N k) 8000:=ShB.low (zaK k) ((zhX h0 h1 k hk).mono (by (first|lia|omega))) ((zbg (by (first|lia|omega))).mono (by decide))
theorem zlu {N:Int}{k:Nat}(h0:0<=N)(h1:N<=10^30)(hk:k<=60):ShB (bGr N k) 8000:=ShB.low (zaK k) ((zhY h0 h1 k).mono (by (first|lia|omega))) ((zbg (by (first|lia|omega))).mono (by decide))
noncomputable def zem:Sp:=fun vs H Q _=>∃(x y:Addr) (p q:Int×Int),vs=[.ref x,.ref y]/\Shr H x p/\Shr H y q/\ShB p 8000/\ShB q 8000/\∀H',Same H H'->Q (.bl (ltZ p q)) H'
noncomputable def zkk (g:Int×Int->Int×Int->Int×Int):Sp:=fun vs H Q _=>∃(x y:Addr) (p q:Int×Int),vs=[.ref x,.ref y]/\Shr H x p/\Shr H y q/\ShB p 8000/\ShB q 8000/\∀z H',Same H H'->Shr H' z (g p q)->Q (.ref z) H'
noncomputable def spN1 (g:Int->Int×Int):Sp:=fun vs H Q _=>∃N:Int,vs=[.int N]/\0<=N/\N<=10^30/\∀z H',Same H H'->Shr H' z (g N)->Q (.ref z) H'
noncomputable def spKN (g:Str->Int->Int×Int):Sp:=fun vs H Q _=>∃(kind:Str) (N:Int),vs=[.str kind,.int N]/\(kind= "rises" ∨kind= "crossed")/\0<=N/\N<=10^30/\∀z H',Same H H'->Shr H' z (g kind N)->Q (.ref z) H'
noncomputable def spNK (g:Int->Nat->Int×Int):Sp:=fun vs H Q _=>∃(N:Int) (k:Nat),vs=[.int N,.int k]/\0<=N/\N<=10^30/\k<=60/\∀z H',Same H H'->Shr H' z (g N k)->Q (.ref z) H'
noncomputable def zi3:Sp:=fun vs H Q _=>∃(kind:Str) (N:Int) (k:Nat),vs=[.str kind,.int N,.int k]/\(kind= "rises" ∨kind= "crossed")/\0<=N/\N<=10^30/\k<=60/\∀z H',Same H H'->Shr H' z (sbZ kind N k)->Q (.ref z) H'
noncomputable def zaF:List Str:=["rounds", "stays", "rises", "highs", "crossed", "longest"]
noncomputable def zgu:Sp:=fun vs H Q _=>∃(kind:Str) (N:Int) (k:Nat),vs=[.str kind,.int N,.int k]/\kind∈zaF/\0<=N/\N<=10^30/\k<=60/\∀z H',Same H H'->Shr H' z (zb9 kind N k)->Q (.ref z) H'
noncomputable def zfd:Sp:=fun vs H Q _=>∃(N:Int) (k:Nat),vs=[.int N,.int k]/\0<=N/\N<=10^30/\k<=60/\Q (.int (sZ N k)) H
noncomputable def zkl:Sp:=fun vs H Q _=>∃(b:Int) (k:Nat),vs=[.int b,.int k]/\0<=b/\b<=1000/\k<=60/\Q (.int (b^k)) H
noncomputable abbrev Sh:=Int×Int
section
variable {κ:Type}[DecidableEq κ]
noncomputable def valV (kvs:List (κ×V))(k:κ):Option V:=(kvs.find? fun kv=>decide (kv.1=k)).map (·.2)
noncomputable def putK (kvs:List (κ×V))(k:κ)(v:V):List (κ×V):=
 if (kvs.any fun kv=>decide (kv.1=k))=true then kvs.map (fun kv=>if kv.1=k then (kv.1,v) else kv) else kvs++[(k,v)]
theorem zen {p:κ×V}{r:List (κ×V)}{k:κ}(e:p.1=k):valV (p::r) k=some p.2:=by simp[valV,List.find?_cons,e]
theorem zeo {p:κ×V}{r:List (κ×V)}{k:κ}(e:¬p.1=k):valV (p::r) k=valV r k:=by simp[valV,List.find?_cons,e]
theorem zgv (k:κ):∀kvs:List (κ×V),(kvs.any fun kv=>decide (kv.1=k))=(valV kvs k).isSome
 |[]=>rfl
 |p::r=>by
  rw[List.any_cons]
  by_cases e:p.1=k
  ·simp only[zen e,decide_eq_true e,Bool.true_or,Option.isSome_some]
  ·rw[zeo e,decide_eq_false e,Bool.false_or];exact zgv k r
theorem zdo (kvs:List (κ×V))(k:κ)(v:V):(putK kvs k v).length<=kvs.length+1:=by
 unfold putK
 split
 ·rw[List.length_map];(first|lia|omega)
 ·rw[List.length_append,List.length_cons,List.length_nil];(first|lia|omega)
theorem RelO.isSome_eq {o:Option V}{u:Option Value}(r:RelO o u):o.isSome=u.isSome:=by
 cases o with
 |none=>cases u with
  |none=>rfl
  |some _=>exact (show False from r).elim
 |some _=>cases u with
  |none=>exact (show False from r).elim
  |some _=>rfl
theorem RelO.getD {o:Option V}{u:Option Value}{d:V}{d':Value}(r:RelO o u)(rd:RelV d d'):RelV (o.getD d) (u.getD d'):=by
 cases o with
 |none=>cases u with
  |none=>exact rd
  |some _=>exact (show False from r).elim
 |some _=>cases u with
  |none=>exact (show False from r).elim
  |some _=>exact r
theorem KV.val {kvs:List (κ×V)}{vs:List (κ×Value)}(r:KV kvs vs)(k:κ):RelO (valV kvs k) (valueAt vs k):=by
 unfold KV at r
 induction r with
 |nil=>exact True.intro
 | @cons p q ps qs h t ih=>
  obtain⟨h1,h2⟩:=h
  by_cases e:p.1=k
  ·have e':q.1=k:=h1.symm.trans e
   have b:valueAt (q::qs) k=some q.2:=by simp[valueAt,List.find?_cons,e']
   rw[zen e,b];exact h2
  ·have e':¬q.1=k:=fun z=>e (h1.trans z)
   have b:valueAt (q::qs) k=valueAt qs k:=by simp[valueAt,List.find?_cons,e']
   rw[zeo e,b];exact ih
theorem KV.any {kvs:List (κ×V)}{vs:List (κ×Value)}(r:KV kvs vs)(k:κ):(kvs.any fun kv=>decide (kv.1=k))=vs.any fun kv=>decide (kv.1=k):=by
 unfold KV at r
 induction r with
 |nil=>rfl
 |cons h t ih=>rw[List.any_cons,List.any_cons,ih,h.1]
theorem KV.repl {kvs:List (κ×V)}{vs:List (κ×Value)}(r:KV kvs vs)(k:κ){y:V}{u:Value}(ry:RelV y u):
  KV (kvs.map fun kv=>if kv.1=k then (kv.1,y) else kv) (vs.map fun kv=>if kv.1=k then (kv.1,u) else kv):=by
 unfold KV at r ⊢
 induction r with
 |nil=>exact .nil
 |@cons p q ps qs h t ih=>
  rw[List.map_cons,List.map_cons]
  refine .cons ?_ ih
  obtain⟨h1,h2⟩:=h
  by_cases e:p.1=k
  ·rw[if_pos e,if_pos (h1.symm.trans e)];exact⟨h1,ry⟩
  ·rw[if_neg e,if_neg (fun z=>e (h1.trans z))];exact⟨h1,h2⟩
theorem KV.put {kvs:List (κ×V)}{vs:List (κ×Value)}(r:KV kvs vs)(k:κ){y:V}{u:Value}(ry:RelV y u):KV (putK kvs k y) (stored vs k u):=by
 unfold putK stored
 rw[r.any k]
 by_cases e:(vs.any fun kv=>decide (kv.1=k))=true
 ·rw[if_pos e,if_pos e];exact r.repl k ry
 ·rw[if_neg e,if_neg e];exact Paired.snoc r ⟨rfl,ry⟩
theorem KV.length {kvs:List (κ×V)}{vs:List (κ×Value)}(r:KV kvs vs):kvs.length=vs.length:=Paired.length r
end
theorem zg5 {P:Program}{w:World}{k:Key}{u:Value}(r:RelV (kV k) u):(zaD P w).is k u=true:=by
 cases k with
 |inl i=>obtain⟨t,e⟩:=(show ∃t,u=Value.int i t from r);subst e;exact zfx P w i t
 |inr x=>obtain⟨t,e⟩:=(show ∃t,u=Value.str x t from r);subst e;exact zfy P w x t
theorem zfe {P:Program}{w:World}:∀{ks:List Key} {us:List Value},Vals (ks.map kV) us->ItemsAre (zaD P w) ks us
 |[],_,r=>by rw[List.map_nil] at r;cases r;exact .nil
 |k::ks,_,r=>by
  rw[List.map_cons] at r
  cases r with
  |cons h t=>exact .cons (zg5 h) (zfe t)
noncomputable abbrev KT (H:Hp):List (List Key×V)->List (List Key×Addr×Value)->Prop:=Paired fun p q=>p.1=q.1/\H q.2.1=some (.tup (p.1.map kV))/\RelV p.2 q.2.2
theorem KT.val {H:Hp}{kvs:List (List Key×V)}{xs:List (List Key×Addr×Value)}(r:KT H kvs xs)(k:List Key):RelO (valV kvs k) ((atKey xs k).map (·.2)):=by
 induction r with
 |nil=>exact True.intro
 | @cons p q ps qs h t ih=>
  obtain⟨h1,_,h2⟩:=h
  by_cases e:p.1=k
  ·have e':q.1=k:=h1.symm.trans e
   have b:atKey (q::qs) k=some q.2:=by simp[atKey,List.find?_cons,e']
   rw[zen e,b];exact h2
  ·have e':¬q.1=k:=fun z=>e (h1.trans z)
   have b:atKey (q::qs) k=atKey qs k:=by simp[atKey,List.find?_cons,e']
   rw[zeo e,b];exact ih
theorem KT.repl {H:Hp}{kvs:List (List Key×V)}{xs:List (List Key×Addr×Value)}(r:KT H kvs xs)(k:List Key){y:V}{u:Value}(ry:RelV y u):
  KT H (kvs.map fun kv=>if kv.1=k then (kv.1,y) else kv) (xs.map (putAt k u)):=by
 induction r with
 |nil=>exact .nil
 |@cons p q ps qs h t ih=>
  rw[List.map_cons,List.map_cons]
  refine .cons ?_ ih
  obtain⟨h1,h2,h3⟩:=h
  unfold putAt
  by_cases e:p.1=k
  ·rw[if_pos e,if_pos (h1.symm.trans e)];exact⟨h1,h2,ry⟩
  ·rw[if_neg e,if_neg (fun z=>e (h1.trans z))];exact⟨h1,h2,h3⟩
theorem KT.put {H:Hp}{kvs:List (List Key×V)}{xs:List (List Key×Addr×Value)}(r:KT H kvs xs)(k:List Key){b:Addr}{y:V}{u:Value}(hb:H b=some (.tup (k.map kV)))(ry:RelV y u):
  KT H (putK kvs k y) (storedH xs k b u):=by
 have e:(kvs.any fun kv=>decide (kv.1=k))=(atKey xs k).isSome:=by
  rw[zgv,(r.val k).isSome_eq,Option.isSome_map]
 unfold putK storedH
 rw[e]
 by_cases q:(atKey xs k).isSome=true
 ·rw[if_pos q,if_pos q];exact r.repl k ry
 ·rw[if_neg q,if_neg q];exact Paired.snoc r ⟨rfl,hb,ry⟩
theorem KT.keeps {H H':Hp}{kvs:List (List Key×V)}{xs:List (List Key×Addr×Value)}(r:KT H kvs xs)(ht:∀b ys,H b=some (.tup ys)->H' b=some (.tup ys)):KT H' kvs xs:=
 Paired.mapP r fun _ _ z=>⟨z.1,ht _ _ z.2.1,z.2.2⟩
section
variable {P:Program}{w:World}{H:Hp}{h:Heap}{a:Addr}
theorem zlv {u:HO}(ok:HOk P w H h)(e:Rd H a u):ObjOk P w H h a u:=e.ok ok
theorem zkm {kvs:List (Key×V)}(ok:HOk P w H h)(e:Rd H a (.dK kvs)):kvs.length<=sizeLine/\(a==sysModules)=false/\∃vs,KV kvs vs/\h.DictOf (zaD P w) a vs:=
 show ObjOk P w H h a (.dK kvs) from zlv ok e
theorem zg6 {kvs:List (Key×V)}(ok:HOk P w H h)(e:H a=some (.dK kvs)):kvs.length<=sizeLine/\(a==sysModules)=false/\∃vs,KV kvs vs/\h.DictOf (zaD P w) a vs:=zkm ok (.inl e)
theorem zgw {ks:List Key}(ok:HOk P w H h)(e:H a=some (.tup (ks.map kV))):(tupleKind (zaD P w)).is h ks a:=by
 obtain⟨_,its,r,o,h1,h2,⟨n,h3⟩,_⟩:=(show ObjOk P w H h a (.tup (ks.map kV)) from ok a _ e)
 exact⟨o,its.toArray,n,h1,h2,h3,by simpa using zfe r⟩
theorem zkn {kvs:List (List Key×V)}(ok:HOk P w H h)(e:Rd H a (.dT kvs)):kvs.length<=sizeLine/\(a==sysModules)=false/\
  ∃xs,KT H kvs xs/\h.DictOfH (tupleKind (zaD P w)) a xs:=by
 obtain⟨z,y,xs,r,o,es,ep,h1,h2,h3,h4,h5⟩:=(show ObjOk P w H h a (.dT kvs) from zlv ok e)
 refine⟨z,y,xs,r,o,es,ep,h1,h2,h3,h4,fun x hx=> ?_,h5⟩
 have all:∀{l:List (List Key×V)} {m:List (List Key×Addr×Value)},KT H l m->∀x∈m,(tupleKind (zaD P w)).is h x.1 x.2.1:=by
  intro l m q
  induction q with
  |nil=>intro x hx;exact nomatch hx
  | @cons p q ps qs hq t ih=>
   intro x hx
   rcases List.mem_cons.mp hx with e|hx
   ·subst e
    exact zgw ok (by rw[<-hq.1];exact hq.2.1)
   ·exact ih x hx
 exact all r x hx
theorem zlw {kvs:List (List Key×V)}(ok:HOk P w H h)(e:H a=some (.dT kvs)):kvs.length<=sizeLine/\(a==sysModules)=false/\
  ∃xs,KT H kvs xs/\h.DictOfH (tupleKind (zaD P w)) a xs:=zkn ok (.inl e)
end
noncomputable def DGet (H:Hp)(a:Addr)(y:V)(r:Option V):Prop:=
 (∃kvs k,Rd H a (.dK kvs)/\y=kV k/\r=valV kvs k)∨∃kvs k b,Rd H a (.dT kvs)/\y=.ref b/\H b=some (.tup (k.map kV))/\r=valV kvs k
noncomputable def DPut (H:Hp)(a:Addr)(y v:V)(H':Hp):Prop:=
 (∃kvs k,H a=some (.dK kvs)/\y=kV k/\kvs.length<sizeLine/\H'=upd H a (.dK (putK kvs k v)))∨
 ∃kvs k b,H a=some (.dT kvs)/\y=.ref b/\H b=some (.tup (k.map kV))/\kvs.length<sizeLine/\H'=upd H a (.dT (putK kvs k v))
theorem DGet.k {H:Hp}{a:Addr}{kvs:List (Key×V)}{k:Key}(e:H a=some (.dK kvs)):DGet H a (kV k) (valV kvs k):=.inl ⟨kvs,k,.inl e,rfl,rfl⟩
theorem DGet.t {H:Hp}{a b:Addr}{kvs:List (List Key×V)}{k:List Key}(e:H a=some (.dT kvs))(eb:H b=some (.tup (k.map kV))):DGet H a (.ref b) (valV kvs k):=.inr ⟨kvs,k,b,.inl e,rfl,eb,rfl⟩
theorem DPut.t {H:Hp}{a b:Addr}{kvs:List (List Key×V)}{k:List Key}{v:V}(e:H a=some (.dT kvs))(eb:H b=some (.tup (k.map kV)))(hl:kvs.length<sizeLine):
  DPut H a (.ref b) v (upd H a (.dT (putK kvs k v))):=.inr ⟨kvs,k,b,e,rfl,eb,hl,rfl⟩
section
variable {X:Cx}{pins:List (Addr×Obj)}{σ:St}{H:Hp}{s:Shared}{a:Addr}{y v:V}{u r:Value}{o:Option V}{A:Around}{E:Value->Shared->Prop}
theorem Inv.big (I:Inv X pins σ H s):sysModules<s.heap.objs.size:=by
 have h:mainGlobals<s.heap.objs.size:=(I.mod.glob.keeps I.bk).lt
 exact Nat.lt_trans (by decide) h
theorem zdp {h':Heap}{t':Nat}{ob:HO}(I:Inv X pins σ H s)(mu:Mut (H a))(hs:Heap.SameBut a s.heap h')(he:∃q,h'.get? a=some q)(new:ObjOk X.prog X.w (upd H a ob) h' a ob):
  Inv X pins σ (upd H a ob) {s with heap:=h',toks:=t'}:=
 I.write (x:=a) (e:=a) mu (.inl rfl) (fun b q hb z=>(hs.2 b hb).trans z) he new
theorem zhZ {P:Program}{w:World}{H':Hp}{h':Heap}{kvs:List (Key×V)}{vs:List (Key×Value)}(z:kvs.length<=sizeLine)(hd:(a==sysModules)=false)(rel:KV kvs vs)(dd:h'.DictOf (zaD P w) a vs):
  ObjOk P w H' h' a (.dK kvs):=⟨z,hd,vs,rel,dd⟩
theorem zh0 {H':Hp}{Q:Unit->Shared->Prop}(hu:A.units+1<cLine)(I:Inv X pins σ H s)(g:DPut H a y v H')(ry:RelV y u)(rv:RelV v r)(h:∀s',Inv X pins σ H' s'->Q () s'):
  wpAny (model X.prog X.w) A (setItem (.ref a) u r) Q E s:=by
 rcases g with⟨kvs,k,e,ey,l,eH⟩|⟨kvs,k,b,e,ey,eb,l,eH⟩
 ·subst ey eH
  obtain⟨z,hd,vs,rel,dd⟩:=zg6 I.hok e
  have hz:vs.length<=sizeLine:=by rw[<-rel.length];exact z
  have hl:(putK kvs k v).length<=sizeLine:=by have:=zdo kvs k v;(first|lia|omega)
  refine wpAny_setItem_pairs (hsz:=hz) (zg5 ry) dd fun h' dd' hs=>h _ ?_
  have he:∃q,h'.get? a=some q:=let ⟨q,_,_,hq,_⟩:=dd';⟨q,hq⟩
  exact zdp I (by rw[e];exact True.intro) hs he (zhZ hl hd (rel.put k rv) dd')
 ·subst ey eH
  cases (show u=Value.ref b from ry)
  obtain⟨z,hd,xs,rel,dd⟩:=zlw I.hok e
  have hz:xs.length<=sizeLine:=by rw[<-Paired.length rel];exact z
  have hl:(putK kvs k v).length<=sizeLine:=by have:=zdo kvs k v;(first|lia|omega)
  refine wpAny_setItem_heap (hsz:=hz) (tupleKind_room_in1 hu) (zgw I.hok eb) dd fun h' dd' hs=>h _ ?_
  obtain⟨q,es,ep,hq,h2,h3,h4,_,h5⟩:=dd'
  refine zdp I (by rw[e];exact True.intro) hs ⟨q,hq⟩ ⟨hl,hd,_,(rel.put k eb rv).keeps fun c ys ec=> ?_,q,es,ep,hq,h2,h3,h4,h5⟩
  rw[zaq (zjX ec e (fun z=>nomatch z))]
  exact ec
end
section
variable {X:Cx}{pins:List (Addr×Obj)}{σ:St}{H:Hp}{s:Shared}{a:Addr}{kvs:List (Key×V)}{k:Key}{u:Value}{A:Around}{E:Value->Shared->Prop}
end
noncomputable def zmk (td ty tv:TE):TS:=fun D σ H=>tv σ H fun v H1=>td σ H1 fun x H2=>ty σ H2 fun y H3=>∃a H4,x=.ref a/\DPut H3 a y v H4/\D.nx σ H4
section
variable {X:Cx}{o i e value:Expr}{pos pos' tpos:Pos}{td ty tv:TE}
theorem zko (hu:X.A.units+1<cLine)(ho:PE X o td)(hi:PE X i ty)(hv:PE X value tv)(hs:swapsWith value (some (.Subscript o i pos')) pos.line X.env=pure false):
  PS X (.Assign [.Subscript o i pos'] value pos) (zmk td ty tv):=by
 intro pins s σ H D I h
 refine wpAny_Assign_Subscript (thn (hv pins s σ H _ I h) fun r s1 ⟨v,H1,I1,rv,q1⟩=>thn (ho pins s1 σ H1 _ I1 q1) fun u s2 ⟨x,H2,I2,rx,q2⟩=>thn (hi pins s2 σ H2 _ I2 q2) fun iv s3 ⟨y,H3,I3,ry,a,H4,ex,g,q3⟩=> ?_) hs
 subst ex
 obtain rfl:u=Value.ref a:=rx
 exact zh0 hu I3 g ry rv fun s4 I4=>⟨σ,H4,I4,q3⟩
end
theorem zgx {P:Program}{w:World}{H:Hp}(h:Heap)(hb:sysModules<h.objs.size):ObjOk P w H (h.push {cls:=.type "dict",data:=.dict #[]}) h.objs.size (.dK []):=
 ⟨Nat.zero_le _,beq_eq_false_iff_ne.mpr (Ne.symm (Nat.ne_of_lt hb)),[],.nil,Heap.DictOf.new h⟩
theorem zgy {P:Program}{w:World}{H:Hp}(h:Heap)(hb:sysModules<h.objs.size):ObjOk P w H (h.push {cls:=.type "dict",data:=.dict #[]}) h.objs.size (.dT []):=
 ⟨Nat.zero_le _,beq_eq_false_iff_ne.mpr (Ne.symm (Nat.ne_of_lt hb)),[],.nil,_,#[],0,Heap.get?_push_size _ rfl,⟨rfl,rfl,rfl⟩,rfl,rfl,List.nodup_nil⟩
noncomputable def zlx:TE:=fun _ H Q=>∀p,H p=none->Q (.ref p) (upd H p (.dT []))
section
variable {X:Cx}{pos:Pos}
theorem zi4:PE X (.Dict [] [] pos) zlx:=fun pins s σ H Q I h=>
 wpAny_Dict_empty ⟨.ref s.heap.objs.size,_,I.laid (a:=s.heap.objs.size) (o:=.dT []) (t':=s.toks) (fun _ _ q=>Heap.get?_push_of_some _ q) (Nat.le_refl _) (zgy s.heap I.big),rfl,h _ (I.hok.fresh (Nat.le_refl _))⟩
end
structure M1 (X:Cx) (o:Expr) (m:Str) (apos:Pos) (e:Expr) (cpos:Pos):Prop where
 base:attributeBase o m X.env (eval o X.env)=eval o X.env
 few:((backTo cpos (starEach [e] X.env)).all (fun x=> !x.1)&&(backToKw cpos (keywordEach [] X.env)).all (fun x=>x.1.isSome)
  &&decide (([e]:List Expr).length+([]:List Keyword).length+(if ([]:List Keyword).isEmpty then 0 else 1)<30))=true
 line:(apos.endLine==cpos.line)=true
 trees:backTo cpos (starEach [e] X.env)=[(false,eval e X.env)]
structure M2 (X:Cx) (o:Expr) (m:Str) (apos:Pos) (e f:Expr) (cpos:Pos):Prop where
 base:attributeBase o m X.env (eval o X.env)=eval o X.env
 few:((backTo cpos (starEach [e,f] X.env)).all (fun x=> !x.1)&&(backToKw cpos (keywordEach [] X.env)).all (fun x=>x.1.isSome)
  &&decide (([e,f]:List Expr).length+([]:List Keyword).length+(if ([]:List Keyword).isEmpty then 0 else 1)<30))=true
 line:(apos.endLine==cpos.line)=true
 trees:backTo cpos (starEach [e,f] X.env)=[(false,eval e X.env),(false,eval f X.env)]
noncomputable def IsD (H:Hp)(a:Addr):Prop:=(∃kvs,Rd H a (.dK kvs))∨∃kvs,Rd H a (.dT kvs)
theorem zjP {X:Cx}{pins:List (Addr×Obj)}{σ:St}{H:Hp}{s:Shared}{a:Addr}(I:Inv X pins σ H s)(d:IsD H a):
  s.TypeIs (.ref a) "dict" /\(∀b,Value.ref a=.ref b->∃ob,s.heap.get? b=some ob/\ob.dict=none)/\(a==sysModules)=false:=by
 rcases d with⟨kvs,e⟩|⟨kvs,e⟩
 ·obtain ⟨_,hd,vs,_,dd⟩:=zkm I.hok e
  refine⟨dd.typeIs,fun b q=> ?_,hd⟩
  cases q
  obtain⟨ob,_,_,h1,h2,_⟩:=dd
  exact⟨ob,h1,h2.2.1⟩
 ·obtain ⟨_,hd,xs,_,dd⟩:=zkn I.hok e
  refine⟨dd.typeIs,fun b q=> ?_,hd⟩
  cases q
  obtain⟨ob,_,_,h1,h2,_⟩:=dd
  exact⟨ob,h1,h2.2.1⟩
section
variable {X:Cx}{pins:List (Addr×Obj)}{σ:St}{H:Hp}{s:Shared}{a:Addr}{y d:V}{u r:Value}{o:Option V}{A:Around}{E:Value->Shared->Prop}
theorem zly {Q:Value->Shared->Prop}(hu:A.units+1<cLine)(I:Inv X pins σ H s)(g:DGet H a y o)(ry:RelV y u)(rd:RelV d r)(h:∀w' s',Inv X pins σ H s'->RelV (o.getD d) w'->Q w' s'):
  wpAny (model X.prog X.w) A (call (.builtin "dict.get") [.ref a,u,r]) Q E s:=by
 rcases g with⟨kvs,k,e,ey,l⟩|⟨kvs,k,b,e,ey,eb,l⟩
 ·subst ey
  obtain⟨z,hd,vs,rel,dd⟩:=zkm I.hok e
  refine call_meetsIn PySem.F.slot_dict_get dd.typeIs PySem.F.entry_dict_get (PySem.F.args_dict_get_3 _ _ _) (meets_dict_get_default (zaD X.prog X.w) a (zg5 ry) hd r) ⟨_,dd.mapOf,h _ _ (I.tok _) ?_⟩
  rw[l]
  exact (rel.val k).getD rd
 ·subst ey
  cases (show u=Value.ref b from ry)
  obtain⟨z,hd,xs,rel,dd⟩:=zkn I.hok e
  refine call_meetsIn PySem.F.slot_dict_get dd.typeIs PySem.F.entry_dict_get (PySem.F.args_dict_get_3 _ _ _) (meetsH_dict_get_default (tupleKind (zaD X.prog X.w)) a b hd r) ⟨tupleKind_room_in1 hu,k,xs,zgw I.hok eb,dd,h _ _ (I.tok _) ?_⟩
  rw[l]
  exact (rel.val k).getD rd
end
noncomputable def zlz (td ty tx:TE):TE:=fun σ H Q=>td σ H fun x H1=>∃a,x=.ref a/\IsD H1 a/\ty σ H1 fun y H2=>tx σ H2 fun z H3=>∃o,DGet H3 a y o/\Q (o.getD z) H3
section
variable {X:Cx}{o e f:Expr}{apos cpos:Pos}{td ty tx:TE}
theorem zep (hu:X.A.units+1<cLine)(ho:PE X o td)(he:PE X e ty)(hf:PE X f tx)(m:M2 X o "get" apos e f cpos):PE X (.Call (.Attribute o "get" apos) [e,f] [] cpos) (zlz td ty tx):=by
 intro pins s σ H Q I h
 refine wpAny_Call_method m.base m.few m.line PySem.F.plainAttrs_dict PySem.F.slot_dict_get PySem.F.type_dict_get (thn (ho pins s σ H _ I h) fun u s1 zq=> ?_)
 obtain⟨x,H1,I1,rx,a,ex,d,q1⟩:=zq
 subst ex
 obtain rfl:u=Value.ref a:=rx
 obtain⟨t1,t2,_⟩:=zjP I1 d
 refine⟨t1,t2, ?_⟩
 rw[m.trees]
 refine Calls.callWith_builtin rfl (Calls.evalArgs_plain (Calls.spliced_cons (thn (he pins s1 σ H1 _ I1 q1) fun iv s2 ⟨y,H2,I2,ry,q2⟩=>
  Calls.spliced_cons (thn (hf pins s2 σ H2 _ I2 q2) fun fv s3 ⟨z,H3,I3,rz,ov,g,q3⟩=>Calls.spliced_nil ?_))))
 exact zly hu I3 g ry rz fun w' s4 I4 rw'=>⟨_,H3,I4,rw',q3⟩
end
section
variable {X:Cx}{pins:List (Addr×Obj)}{σ:St}{H:Hp}{s:Shared}{a:Addr}{kvs:List (Key×V)}{A:Around}{E:Value->Shared->Prop}
end
section
variable {X:Cx}{pins:List (Addr×Obj)}{σ:St}{H:Hp}{s:Shared}{a:Addr}{y:V}{u:Value}{A:Around}{E:Value->Shared->Prop}
end
noncomputable def kD:Key->PyData
 | .inl i=>.int i
 | .inr x=>.str x
mutual
inductive IsY (S:Addr->Prop) (H:Hp):V->PyData->Prop
 |non:IsY S H .non .none
 |bl (b:Bool):IsY S H (.bl b) (.bool b)
 |int (i:Int):IsY S H (.int i) (.int i)
 |str (x:Str):IsY S H (.str x) (.str x)
 |tup {a:Addr} {vs:List V} {ds:List PyData}:H a=some (.tup vs)->IsAllY S H vs ds->IsY S H (.ref a) (.tuple ds)
 |lst {a:Addr} {vs:List V} {ds:List PyData}:H a=some (.lst vs)->S a->IsAllY S H vs ds->IsY S H (.ref a) (.list ds)
 |d0 {a:Addr}:H a=some (.dK [])->IsY S H (.ref a) (.dict [])
 |d1 {a:Addr} {k:Key} {v:V} {d:PyData}:H a=some (.dK [(k,v)])->IsY S H v d->IsY S H (.ref a) (.dict [(kD k,d)])
inductive IsAllY (S:Addr->Prop) (H:Hp):List V->List PyData->Prop
 |nil:IsAllY S H [] []
 |cons {v:V} {vs:List V} {d:PyData} {ds:List PyData}:IsY S H v d->IsAllY S H vs ds->IsAllY S H (v::vs) (d::ds)
end
noncomputable def tyD:PyData->String
 | .none=> "NoneType" | .bool _=> "bool" | .int _=> "int" | .str _=> "str" | .list _=> "list" | .tuple _=> "tuple" | .dict _=> "dict"
noncomputable def zff:List String:=["NoneType", "bool", "int", "str", "list", "tuple", "dict"]
theorem zh1 (d:PyData):tyD d∈zff:=by cases d<;>simp[tyD,zff]
theorem IsY.ty {K:PySem.W.Frag}{S:Addr->Prop}{H:Hp}{v:V}{d:PyData}(h:IsY S H v d):TyOf K H v (.type (tyD d)):=by
 cases h with
 |non=>exact .non
 |bl b=>exact .bl b
 |int i=>exact .int i
 |str x=>exact .str x
 |tup e _=>exact .tup e
 |lst e _ _=>exact .lst e
 |d0 e=>exact .dK e
 |d1 e _=>exact .dK e
theorem kit7 {K:PySem.W.Frag}{t:String}(h:t∈zff):
  PySem.W.kitOne K (.type t) (.type "int")=some (t== "bool" ||t== "int")/\PySem.W.kitOne K (.type t) (.type "bool")=some (t== "bool")/\PySem.W.kitOne K (.type t) (.type "tuple")=some (t== "tuple"):=by
 have:t= "NoneType" ∨t= "bool" ∨t= "int" ∨t= "str" ∨t= "list" ∨t= "tuple" ∨t= "dict" :=by simpa [zff] using h
 rcases this with rfl|rfl|rfl|rfl|rfl|rfl|rfl<;>exact⟨zgl (by decide+kernel),zgl (by decide+kernel),zgl (by decide+kernel)⟩
mutual
theorem IsY.map {S S':Addr->Prop}{H H':Hp}(hS:∀a,S a->S' a)(ht:∀a xs,H a=some (.tup xs)->H' a=some (.tup xs))(hl:∀a xs,S a->H a=some (.lst xs)->H' a=some (.lst xs))(hd:∀a xs,H a=some (.dK xs)->H' a=some (.dK xs)):∀{v:V} {d:PyData},IsY S H v d->IsY S' H' v d
 |_,_,.non=>.non
 |_,_,.bl b=>.bl b
 |_,_,.int i=>.int i
 |_,_,.str x=>.str x
 |_,_,.tup e al=>.tup (ht _ _ e) (IsAllY.map hS ht hl hd al)
 |_,_,.lst e s al=>.lst (hl _ _ s e) (hS _ s) (IsAllY.map hS ht hl hd al)
 |_,_,.d0 e=>.d0 (hd _ _ e)
 |_,_,.d1 e al=>.d1 (hd _ _ e) (IsY.map hS ht hl hd al)
theorem IsAllY.map {S S':Addr->Prop}{H H':Hp}(hS:∀a,S a->S' a)(ht:∀a xs,H a=some (.tup xs)->H' a=some (.tup xs))(hl:∀a xs,S a->H a=some (.lst xs)->H' a=some (.lst xs))(hd:∀a xs,H a=some (.dK xs)->H' a=some (.dK xs)):∀{vs:List V} {ds:List PyData},IsAllY S H vs ds->IsAllY S' H' vs ds
 |_,_,.nil=>.nil
 |_,_,.cons h t=>.cons (IsY.map hS ht hl hd h) (IsAllY.map hS ht hl hd t)
end
theorem IsY.same {S:Addr->Prop}{H H':Hp}(s:Same H H'){v:V}{d:PyData}(h:IsY S H v d):IsY S H' v d:=IsY.map (fun _ z=>z) (fun a _=>s a _) (fun a _ _=>s a _) (fun a _=>s a _) h
theorem IsAllY.same {S:Addr->Prop}{H H':Hp}(s:Same H H'){v:List V}{d:List PyData}(h:IsAllY S H v d):IsAllY S H' v d:=IsAllY.map (fun _ z=>z) (fun a _=>s a _) (fun a _ _=>s a _) (fun a _=>s a _) h
theorem IsAllY.len {S:Addr->Prop}{H:Hp}:∀{v:List V} {d:List PyData},IsAllY S H v d->v.length=d.length
 |_,_,.nil=>rfl
 |_,_,.cons _ t=>by rw[List.length_cons,List.length_cons,IsAllY.len t]
theorem IsAllY.at {S:Addr->Prop}{H:Hp}:∀{v:List V} {d:List PyData} {i:Nat} {x:V},IsAllY S H v d->v[i]? =some x->∃e,d[i]? =some e/\IsY S H x e
 |_,_,_,_,.nil,h=>by simp at h
 |_,_,0,_,.cons a _,h=>by
  simp at h
  subst h
  exact⟨_,rfl,a⟩
 |_,_,i+1,_,.cons _ t,h=>by
  obtain⟨e,h1,h2⟩:=IsAllY.at (i:=i) t (by simpa using h)
  exact⟨e,by simpa using h1,h2⟩
section
variable {X:Cx}{pins:List (Addr×Obj)}{σ:St}{H:Hp}{s:Shared}
end
noncomputable def tD1 (k1:Str)(t1:TE):TE:=fun σ H Q=>∀d,H d=none->t1 σ (upd H d (.dK [])) fun v1 H1=>H1 d=some (.dK [])/\Q (.ref d) (upd H1 d (.dK [(.inr k1,v1)]))
theorem zi5 {X:Cx}{pos:Pos}{k1:Str}{a1 b1:Expr}{t1:TE}(q1:PE X a1 (tC (.str k1)))(p1:PE X b1 t1):PE X (.Dict [some a1] [b1] pos) (tD1 k1 t1):=by
 intro pins s σ H Q I h
 have hd0:H s.heap.objs.size=none:=I.hok.fresh (Nat.le_refl _)
 have h:=h _ hd0
 refine wpAny_Dict_walk (knd:=zaD X.prog X.w) rfl rfl (by simp) (by show 1<=15;decide) ?_
 have I0:Inv X pins σ (upd H s.heap.objs.size (.dK [])) {s with heap:=s.heap.push {cls:=.type "dict",data:=.dict #[]}}:=I.laid (a:=s.heap.objs.size) (o:=.dK []) (t':=s.toks) (fun _ _ q=>Heap.get?_push_of_some _ q) (Nat.le_refl _) (zgx s.heap I.big)
 refine evalPairs_cons (thn (q1 pins _ σ _ (fun x H'=>x=.str k1/\H'=upd H s.heap.objs.size (.dK [])) I0 ⟨rfl,rfl⟩) fun u1 s1 zq=> ?_)
 obtain⟨x1,H1,I1,r1,e1,e1'⟩:=zq
 subst e1 e1'
 refine wpAny_bind (thn (p1 pins s1 σ _ _ I1 h) fun w1 s2 ⟨v1,H2,I2,rv1,hd6,h⟩=>wpAny_bind (wpAny_standAt (wpAny_pure (evalPairs_nil ?_))))
 refine⟨[(.inr k1,w1)],⟨zg5 (k:=.inr k1) r1,rfl,trivial⟩, ?_,fun h' dd' hs=> ?_⟩
 ·obtain ⟨z,hd,vs,rel,dd⟩:=zg6 I2.hok hd6
  cases rel
  exact dd
 ·have em:merged [] [((Sum.inr k1:Key),w1)]=[(.inr k1,w1)]:=by
   unfold merged stored
   simp
  rw[em] at dd'
  obtain⟨z,hd,vs,rel,dd⟩:=zg6 I2.hok hd6
  have he:∃q,h'.get? s.heap.objs.size=some q:=let ⟨q,_,_,hq,_⟩:=dd';⟨q,hq⟩
  refine⟨.ref s.heap.objs.size,_,zdp I2 (by rw[hd6];exact True.intro) hs he (zhZ (by show 1<=sizeLine;decide) hd (.cons ⟨rfl,rv1⟩ .nil) dd'),rfl,h⟩
theorem zfI {X:Cx}:OpR X (compareOp .IsNot) (fun x y H Q=>∃a b,x=.bl a/\y=.bl b/\Q (.bl (!(a==b))) H):=by
 intro pins s σ H x y v u Q I rx ry h
 obtain⟨a,b,rfl,rfl,q⟩:=h
 cases (show v=Value.bool a from rx)
 cases (show u=Value.bool b from ry)
 refine wpAny_pure ⟨.bl (!(a==b)),H,I, ?_,q⟩
 show Value.bool _=Value.bool _
 cases a<;>cases b<;>rfl
theorem zi6 {α:Type}(l:List α)(k:Nat):l.take (min k l.length)=l.take k:=by
 by_cases h:k<=l.length
 ·rw[Nat.min_eq_left h]
 ·rw[Nat.min_eq_right (by (first|lia|omega)),List.take_length,List.take_of_length_le (by (first|lia|omega))]
theorem zd5 (ns:List Int)(k:Nat):cutV (ns.map V.int) none (some (k:Int))=(ns.take k).map V.int:=by
 unfold cutV
 rw[HT.sIx_none,HT.sIx_nat,List.drop_zero,Nat.sub_zero,zi6,List.map_take]
open Classical in
noncomputable def Kn (K:PySem.W.Frag)(H:Hp)(y:V):Prop:=∃t:String,TyOf K H y (.type t)/\t∈zff
theorem IsY.kn {K:PySem.W.Frag}{S:Addr->Prop}{H:Hp}{x:V}{d:PyData}(h:IsY S H x d):Kn K H x:=⟨_,h.ty,zh1 d⟩
theorem tyI {K:PySem.W.Frag}{H:Hp}{y:V}{t:String}(h:TyOf K H y (.type t)):t= "int" ↔∃n:Int,y=.int n:=by
 cases h<;>simp
noncomputable def isIv:V->Bool
 | .int _=>true
 |_=>false
noncomputable def zi7 (K:PySem.W.Frag):Sp:=fun vs H Q _=>∃x,vs=[x]/\Kn K H x/\Q (.bl (isIv x)) H
theorem isIv_iff {y:V}:isIv y=true↔∃n:Int,y=.int n:=by
 cases y<;>simp[isIv]
noncomputable def lit:Nat->Expr->Option PyData
 |0,_=>none
 |_+1,.Constant .none _ _=>some .none
 |_+1,.Constant (.bool b) _ _=>some (.bool b)
 |_+1,.Constant (.int i) _ _=>some (.int i)
 |_+1,.Constant (.str x) _ _=>some (.str x)
 |_+1,.UnaryOp .USub (.Constant (.int i) _ _) _=>some (.int (-i))
 |n+1,.Tuple es _ _=>if es.length<=100 then (es.mapM (lit n)).map PyData.tuple else none
 |n+1,.List es _=>if es.length<=100 then (es.mapM (lit n)).map PyData.list else none
 |_+1,.Dict [] [] _=>some (.dict [])
 |_+1,_=>none
theorem zi8 {J:It}{Ok:Hp->Prop}{xs:List V}{te:TE}{ix:List Nat}{σ:L2.St}{H1:Hp}{Q:VK}(Y:Yields J Ok xs)(small:xs.length<sizeLine)(bs:List Bool)(hbs:bs.length=xs.length)(hok:∀H,Same H1 H->Ok H)
  (he:∀(i:Nat) (x:V) (b:Bool) (H:Hp),xs[i]? =some x->bs[i]? =some b->Same H1 H->∀(QT:VK),(∀H',Same H H'->QT (.bl b) H')->te (some x::ix.map fun i=>σ.getD i none) H QT)
  (fin:∀acc H',H1 acc=none->Same H1 H'->H' acc=some (.lst (bs.map V.bl))->Q (.ref acc) H'):
  LcW J H1 (zck 0) zbV te 1 ix σ Q:=by
 intro acc ha
 refine⟨fun i m H=>m=xs.length-i/\i<=xs.length/\Same H1 H/\H acc=some (.lst ((bs.take i).map V.bl)),⟨xs.length,by simp,Nat.zero_le _,zae ha,zad⟩, ?_⟩
 rintro i m H ⟨rfl,hi,sm,hacc⟩
 have o:=hok _ sm
 by_cases hlt:i<xs.length
 ·refine .inr ⟨Y.go i _ o hlt,fun x H' y=> ?_⟩
  obtain⟨rfl,hx⟩:=Y.yld i _ x H' o hlt y
  refine⟨⟨rfl,fun j v e=> ?_⟩, ?_⟩
  ·cases j with
   |zero=>cases e
   |succ j=>exact e
  ·unfold zbV
   dsimp only
   rw[if_pos rfl]
   have hb:bs[i]? =some bs[i]:=List.getElem?_eq_getElem (by (first|lia|omega))
   refine he i x bs[i] H' hx hb sm _ (fun H4 s4=> ?_)
   have h4:=s4 _ _ hacc
   refine⟨_,h4,by rw[List.length_map,List.length_take];(first|lia|omega),xs.length-(i+1),by (first|lia|omega),rfl,hlt,fun b o' hb'=> ?_, ?_⟩
   ·have hba:b≠acc:=fun e=>by rw[e,ha] at hb';cases hb'
    rw[zaq hba]
    exact s4 b _ (sm b _ hb')
   ·rw [zad,List.take_succ,hb,List.map_append]
    rfl
 ·have e:i=xs.length:=by (first|lia|omega)
  subst e
  rw[<-hbs,List.take_length] at hacc
  exact .inl ⟨Y.stop _ o,fin acc H ha sm hacc⟩
noncomputable def whD:PyData->Bool
 | .int _=>true
 |_=>false
noncomputable def zdq:PyData->Bool
 | .tuple ds=>ds.all whD
 |_=>false
noncomputable def asI:PyData->Int
 | .int n=>n
 |_=>0
theorem zh2 {S:Addr->Prop}{H:Hp}:∀{vs:List V} {ds:List PyData},IsAllY S H vs ds->ds.all whD=true->vs=(ds.map asI).map V.int
 |_,_,.nil,_=>rfl
 |_,_,.cons (d:=d) h t,a=>by
  rw[List.all_cons,Bool.and_eq_true] at a
  rw[zh2 t a.2]
  cases h with
  |int i=>rfl
  |_=>cases a.1
noncomputable def Sz (n:Nat)(d:PyData):Prop:=d.bulk<=n
theorem zfg:∀ds:List PyData,ds.length<=PyData.bulkAll ds
 |[]=>Nat.zero_le _
 |d::r=>by
  have:=zfg r
  simp only[PyData.bulkAll,List.length_cons];(first|lia|omega)
theorem Sz.tup {n:Nat}{ds:List PyData}(h:Sz n (.tuple ds)):ds.length<=n/\∀d∈ds,Sz n d:=by
 have h:PyData.bulkAll ds<=n:=by simpa only[Sz,PyData.bulk] using h
 induction ds with
 |nil=>exact⟨Nat.zero_le _,fun _ h=>by cases h⟩
 | cons d r ih=>
  simp only[PyData.bulkAll] at h
  have:=ih (by simpa only[Sz,PyData.bulk] using (by (first|lia|omega):PyData.bulkAll r<=n)) (by (first|lia|omega))
  have hl:=zfg r
  refine⟨by rw[List.length_cons];(first|lia|omega),fun e he=> ?_⟩
  rcases List.mem_cons.mp he with rfl|he
  ·show e.bulk<=n
   (first|lia|omega)
  ·exact this.2 e he
noncomputable def zh3:Sp:=fun vs H Q _=>∃S x d,vs=[x]/\IsY S H x d/\Sz 1000 d/\∀H',Same H H'->Q (.bl (zdq d)) H'
theorem IsY.isT {S:Addr->Prop}{H:Hp}{x:V}{d:PyData}(h:IsY S H x d):(∃a vs ds,x=.ref a/\d=.tuple ds/\H a=some (.tup vs)/\IsAllY S H vs ds)∨(tyD d≠ "tuple" /\∀ds,d≠.tuple ds):=by
 cases h with
 |tup e al=>exact .inl ⟨_,_,_,rfl,rfl,e,al⟩
 |_=>exact .inr ⟨(by simp[tyD]),fun _=>(by intro z;cases z)⟩
structure PEw (X:Cx) (e:Expr) (t:TE):Prop where
 h:PE X e t
structure PAw (X:Cx) (e:List Expr) (t:TA):Prop where
 h:PA X e t
structure PTw (X:Cx) (e:Expr) (t:TT):Prop where
 h:PT X e t
structure PWw (X:Cx) (e:Expr) (t:TT):Prop where
 h:PW X e t
structure PSw (X:Cx) (e:Stmt) (t:TS):Prop where
 h:PS X e t
structure PSsw (X:Cx) (e:List Stmt) (t:TS):Prop where
 h:PSs X e t
end L2
namespace Wr
open PySem PySem.Spec PyProof.Rows L2
end Wr
namespace L2
open PySem PySem.Spec PyProof.Rows
structure TopY (mg:Str->Option Value):Prop where
 n_any:mg "any" =none
structure TopYK (K:PySem.W.Frag):Prop where
 k_any:PySem.W.nsIn K mainGlobals "any" =some none
noncomputable def NoS:Addr->Prop:=fun _=>False
noncomputable def shD (p:Sh):PyData:=.tuple [.int p.1,.int p.2]
theorem Shr.isY {S:Addr->Prop}{H:Hp}{z:Addr}{p:Sh}(h:Shr H z p):IsY S H (.ref z) (shD p):=.tup h (.cons (.int _) (.cons (.int _) .nil))
theorem zfJ {S:Addr->Prop}{H:Hp}{x:V}{p:Sh}(h:IsY S H x (shD p)):∃z,x=.ref z/\Shr H z p:=by
 cases h with
 | tup e al=>
  cases al with
  | cons h1 t1=>
   cases t1 with
   |cons h2 t2=>
    cases t2
    cases h1
    cases h2
    exact⟨_,rfl,e⟩
end L2
namespace L2
open PySem PySem.Spec PyProof.Rows PySem.SeqAt
open AutoSeq1 (wpAny_loadPart')
noncomputable abbrev dObj (dd:Option Addr)(es:Array DictEntry)(k:Nat)(sl:Array (Option Value)):Obj:={cls:=.type "dict",dict:=dd,data:=.dict es k,slots:=sl}
theorem zh4 (a:Addr)(es:Array DictEntry)(k:Nat)(dd:Option Addr)(sl:Array (Option Value))(x:Str)(t:Tok):
  Meets (Builtin.«dict.__eq__» ⟨[.ref a,.str x t],[]⟩) (fun _ R s=>s.heap.get? a=some (dObj dd es k sl)/\R (.ok (.ret .notImplemented)) s):=
 .of_wp fun pr w A R s q=>by
  obtain⟨h1,h2,h3,h4,h5⟩:=s
  obtain⟨ha,q⟩:=q
  have f1:=F.sub_str_dict
  wp_walk using wpAny_loadPart' ha,wpAny_load ha
  exact⟨_,rfl,q⟩
theorem zh5 (a:Addr)(es:Array DictEntry)(k:Nat)(dd:Option Addr)(sl:Array (Option Value))(x:Str)(t:Tok):
  Meets (Builtin.«dict.__ne__» ⟨[.ref a,.str x t],[]⟩) (fun _ R s=>s.heap.get? a=some (dObj dd es k sl)/\R (.ok (.ret .notImplemented)) s):=
 .of_wp fun pr w A R s q=>by
  obtain⟨h1,h2,h3,h4,h5⟩:=s
  obtain⟨ha,q⟩:=q
  have f1:=F.sub_str_dict
  wp_walk using wpAny_loadPart' ha,wpAny_load ha
  exact⟨_,rfl,q⟩
theorem zh6 (a:Addr)(es:Array DictEntry)(k:Nat)(dd:Option Addr)(sl:Array (Option Value))(x:Str)(t:Tok):
  Meets (Builtin.«str.__eq__» ⟨[.str x t,.ref a],[]⟩) (fun _ R s=>s.heap.get? a=some (dObj dd es k sl)/\R (.ok (.ret .notImplemented)) s):=
 .of_wp fun pr w A R s q=>by
  obtain⟨h1,h2,h3,h4,h5⟩:=s
  obtain⟨ha,q⟩:=q
  wp_walk using wpAny_loadPart' ha,wpAny_load ha
  exact⟨_,rfl,q⟩
theorem zh7 (a:Addr)(es:Array DictEntry)(k:Nat)(dd:Option Addr)(sl:Array (Option Value))(x:Str)(t:Tok):
  Meets (Builtin.«str.__ne__» ⟨[.str x t,.ref a],[]⟩) (fun _ R s=>s.heap.get? a=some (dObj dd es k sl)/\R (.ok (.ret .notImplemented)) s):=
 .of_wp fun pr w A R s q=>by
  obtain⟨h1,h2,h3,h4,h5⟩:=s
  obtain⟨ha,q⟩:=q
  wp_walk using wpAny_loadPart' ha,wpAny_load ha
  exact⟨_,rfl,q⟩
section
variable {A:Around}{s:Shared}
theorem zeq {a:Addr}{es:Array DictEntry}{k:Nat}{dd:Option Addr}{sl:Array (Option Value)}(x:Str)(t:Tok)(ha:s.heap.get? a=some (dObj dd es k sl))(hu:A.units<cLine):RcAt A s (.ref a) (.str x t) false:=fun pr w E Q q=>
 rc_eq_decline_or (k:=false) ⟨_,ha,rfl⟩ (typeIs_str s x t) (by decide) F.sub_str_dict F.slot_dict_eq F.slot_str_eq_refl
  (fun _ z=>call_meets F.slot_dict_eq ⟨_,ha,rfl⟩ F.entry_dict_eq (F.args_dict_eq_2 _ _) (zh4 a es k dd sl x t) ⟨ha,z⟩)
  (fun _ z=>call_meets F.slot_str_eq_refl (typeIs_str s x t) F.entry_str_eq (F.args_str_eq_2 _ _) (zh6 a es k dd sl x t) ⟨ha,z⟩)
  (fun _ z=>wpAny_of_eq (rfl:isSame (.ref a) (.str x t)=pure false) z) (.inr hu) q
theorem zdr {a:Addr}{es:Array DictEntry}{k:Nat}{dd:Option Addr}{sl:Array (Option Value)}(x:Str)(t:Tok)(ha:s.heap.get? a=some (dObj dd es k sl))(hu:A.units<cLine):EqAt A s (.ref a) (.str x t) false:=fun pr w E Q q=>by
 unfold eqBool
 refine wpAny_holding (wpAny_ite_split (fun z=>absurd (eq_of_beq z) nofun) fun _=> ?_)
 exact wpAny_bind (zeq x t ha hu pr w E _ (wpAny_truthy_bool q))
theorem zcu {a:Addr}{es:Array DictEntry}{k:Nat}{dd:Option Addr}{sl:Array (Option Value)}(x:Str)(t:Tok)(ha:s.heap.get? a=some (dObj dd es k sl))(hu:A.units<cLine):RcNeAt A s (.ref a) (.str x t) true:=fun pr w E Q q=>
 rc_ne_decline_or (k:=false) ⟨_,ha,rfl⟩ (typeIs_str s x t) (by decide) F.sub_str_dict F.slot_dict_ne F.slot_str_ne_refl
  (fun _ z=>call_meets F.slot_dict_ne ⟨_,ha,rfl⟩ F.entry_dict_ne (F.args_dict_ne_2 _ _) (zh5 a es k dd sl x t) ⟨ha,z⟩)
  (fun _ z=>call_meets F.slot_str_ne_refl (typeIs_str s x t) F.entry_str_ne (F.args_str_ne_2 _ _) (zh7 a es k dd sl x t) ⟨ha,z⟩)
  (fun _ z=>wpAny_of_eq (rfl:isSame (.ref a) (.str x t)=pure false) z) (.inr hu) q
end
noncomputable def zcE (t:Str):PyData->Bool
 | .str y=>y==t
 |_=>false
noncomputable def zfK (t:Str):PyData->Bool
 | .tuple [d]=>zcE t d
 |_=>false
section
variable {X:Cx}{pins:List (Addr×Obj)}{σ:St}{H:Hp}{s:Shared}
theorem Inv.dictAt (I:Inv X pins σ H s){a:Addr}{kvs:List (Key×V)}(h:H a=some (.dK kvs)):∃dd es k sl,s.heap.get? a=some (dObj dd es k sl):=by
 obtain⟨_,_,vs,_,o,es,ep,ho,hx,hd,_⟩:=zg6 I.hok h
 obtain⟨c,dd,da,sl⟩:=o
 have hc:c=.type "dict" :=hx.1
 have hd:da=.dict es ep:=hd
 subst hc hd
 exact⟨dd,es,ep,sl,ho⟩
theorem Inv.tupAt (I:Inv X pins σ H s){a:Addr}{xs:List V}(h:SqT X.K H a xs):∃its:List Value,Vals xs its/\s.heap.IsTuple a its.toArray:=by
 obtain⟨its,rv,⟨o,ho,hc,n,hd⟩,_⟩:=I.tuple h
 exact⟨its,rv,⟨o,ho,hc,n,hd⟩⟩
theorem Inv.lstAt (I:Inv X pins σ H s){a:Addr}{xs:List V}(h:H a=some (.lst xs)):∃its:List Value,s.heap.IsList a its.toArray:=by
 obtain⟨_,its,n,rv,ho⟩:=(show ObjOk X.prog X.w H s.heap a (.lst xs) from I.hok a _ h)
 exact⟨its,⟨_,ho,rfl,n,rfl⟩⟩
theorem Inv.eqTx (I:Inv X pins σ H s){S:Addr->Prop}{v:V}{d:PyData}{u:Value}{A:Around}(hd:IsY S H v d)(r:RelV v u)(t:Str)(tk:Tok)(hu:A.units<cLine):EqAt A s u (.str t tk) (zcE t d):=by
 cases hd with
 |non=>cases (show u=Value.none from r);exact EqAt.none_str t tk
 |bl b=>cases (show u=Value.bool b from r);exact EqAt.bool_str b t tk
 |int i=>obtain⟨q,rfl⟩:=r;exact EqAt.int_str i q t tk
 |str x=>obtain⟨q,rfl⟩:=r;exact EqAt.str_str x q t tk
 |@tup a _ _ e _=>
  cases (show u=Value.ref a from r)
  obtain⟨its,_,h⟩:=I.tupAt (SqT.of e)
  exact EqAt.tuple_str t tk h hu
 |@lst a _ _ e _ _=>
  cases (show u=Value.ref a from r)
  obtain⟨its,h⟩:=I.lstAt e
  exact EqAt.list_str t tk h hu
 |@d0 a e=>
  cases (show u=Value.ref a from r)
  obtain⟨dd,es,k,sl,h⟩:=I.dictAt e
  exact zdr t tk h hu
 |@d1 a _ _ _ e _=>
  cases (show u=Value.ref a from r)
  obtain⟨dd,es,k,sl,h⟩:=I.dictAt e
  exact zdr t tk h hu
theorem Inv.neTx (I:Inv X pins σ H s){S:Addr->Prop}{v:V}{d:PyData}{u:Value}{A:Around}(hd:IsY S H v d)(r:RelV v u)(t:Str)(tk:Tok)(hu:A.units<cLine):RcNeAt A s u (.str t tk) (!zcE t d):=by
 cases hd with
 |non=>cases (show u=Value.none from r);exact RcNeAt.none_str t tk
 |bl b=>cases (show u=Value.bool b from r);exact RcNeAt.bool_str b t tk
 |int i=>obtain⟨q,rfl⟩:=r;exact RcNeAt.int_str i q t tk
 |str x=>obtain⟨q,rfl⟩:=r;exact RcNeAt.str_str x q t tk
 |@tup a _ _ e _=>
  cases (show u=Value.ref a from r)
  obtain⟨its,_,h⟩:=I.tupAt (SqT.of e)
  exact RcNeAt.tuple_str t tk h hu
 |@lst a _ _ e _ _=>
  cases (show u=Value.ref a from r)
  obtain⟨its,h⟩:=I.lstAt e
  exact RcNeAt.list_str t tk h hu
 |@d0 a e=>
  cases (show u=Value.ref a from r)
  obtain⟨dd,es,k,sl,h⟩:=I.dictAt e
  exact zcu t tk h hu
 |@d1 a _ _ _ e _=>
  cases (show u=Value.ref a from r)
  obtain⟨dd,es,k,sl,h⟩:=I.dictAt e
  exact zcu t tk h hu
theorem zlA {ds:List PyData}{n:Nat}(t:Str)(h:n=ds.length):(((List.range (min n 1)).all fun j=>zcE t (ds.getD j .none))&&n==1)=zfK t (.tuple ds):=by
 subst h
 match ds with
 |[]=>rfl
 |[d]=>simp[zfK,List.range_succ]
 |_::_::_=>simp[zfK]
end
noncomputable def zml (K:PySem.W.Frag):R2:=fun x y H Q=>∃(S:Addr->Prop) (a b:Addr) (vs:List V) (ds:List PyData) (t:Str),x=.ref a/\y=.ref b/\H a=some (.tup vs)/\IsAllY S H vs ds/\SqT K H b [.str t]/\Q (.bl (zfK t (.tuple ds))) H
noncomputable def zmm:R2:=fun x y H Q=>∃(S:Addr->Prop) (d:PyData) (t:Str),y=.str t/\IsY S H x d/\Q (.bl (!zcE t d)) H
section
variable {X:Cx}
theorem zkp {pins:List (Addr×Obj)}{σ:St}{H:Hp}{s:Shared}(I:Inv X pins σ H s){S:Addr->Prop}{vs:List V}{ds:List PyData}{its its2:List Value}{t:Str}{A:Around}(al:IsAllY S H vs ds)(rv:Vals vs its)(r2:Vals [.str t] its2)(hu:A.units<cLine)(j:Nat)(h1:j<its.toArray.size)(h2:j<its2.toArray.size):EqAt A s its.toArray[j] its2.toArray[j] (zcE t (ds.getD j .none)):=by
 obtain⟨w,rfl,q,rfl⟩:=zcC r2
 have j0:j=0:=by simpa using h2
 subst j0
 have hl:=rv.length
 have h1':0<vs.length:=by rw[hl];simpa using h1
 obtain⟨u,hu1,ru⟩:=rv.get (i:=0) (x:=vs[0]) (List.getElem?_eq_getElem h1')
 obtain⟨d,hd,yd⟩:=al.at (i:=0) (x:=vs[0]) (List.getElem?_eq_getElem h1')
 have e1:its.toArray[0]=u:=by
  have:=List.getElem?_eq_some_iff.mp hu1
  simpa using this.2
 have e2:ds.getD 0 .none=d:=by rw[List.getD_eq_getElem?_getD,hd];rfl
 rw[e1,e2]
 exact I.eqTx yd ru t q hu
theorem zkq (hu:X.A.units+64<cLine):OpR X (compareOp .Eq) (zml X.K):=by
 intro pins s σ H x y v u Q I rx ry h
 obtain⟨S,a,b,vs,ds,t,rfl,rfl,ha,al,hb,q⟩:=h
 cases rx
 cases ry
 obtain⟨its,rv,h1⟩:=I.tupAt (SqT.of ha)
 obtain⟨its2,r2,h2⟩:=I.tupAt hb
 have n2:its2.toArray.size=1:=by have:=r2.length;simpa using this.symm
 have e:=zlA (ds:=ds) (n:=its.toArray.size) t (by have:=rv.length;have:=al.len;simp;(first|lia|omega))
 have:=RcAt.tuples (A:=X.A) h1 h2 (by (first|lia|omega)) (fun j j1 j2=>zkp I al rv r2 (by show X.A.in1.units<cLine;unfold Around.in1;simp;(first|lia|omega)) j j1 j2) X.prog X.w
 rw[n2,e] at this
 exact this _ _ ⟨.bl _,H,I,rfl,q⟩
theorem zkr (hu:X.A.units+64<cLine):OpR X (compareOp .NotEq) zmm:=by
 intro pins s σ H x y v u Q I rx ry h
 obtain⟨S,d,t,rfl,yd,q⟩:=h
 obtain⟨tk,rfl⟩:=ry
 exact I.neTx yd rx t tk (by (first|lia|omega)) X.prog X.w _ _ ⟨.bl _,H,I,rfl,q⟩
end
end L2
namespace L2
open PySem PySem.Spec PyProof.Rows
noncomputable def spE (a b:Sp):Sp:=fun vs H Q E=>a vs H Q E∨b vs H Q E
noncomputable def juD (ns:List Int):PyData->Bool
 | .tuple ds=>ds.all whD&&decide (ds.map asI=ns)
 |_=>false
noncomputable def zgz:Sp:=fun vs H Q _=>∃(S:Addr->Prop) (x:V) (d:PyData) (b:Addr) (ns:List Int),vs=[x,.ref b]/\IsY S H x d/\Sz 1000 d/\H b=some (.tup (ns.map V.int))/\∀H',Same H H'->Q (.bl (juD ns d)) H'
noncomputable def prN (a:Int):Nat->Int
 |0=>1
 |i+1=>prN a i*(a+i)
noncomputable def eaZ (kind:Str)(N k:Nat):Int×Int:=if 0<sZ N k then (1,if kind= "stays" then prN ((N:Int)-k+1) k else fcZ k) else (0,1)
noncomputable def zcv (kind:Str):Str:=if kind= "rounds" ∨kind= "highs" then "groups" else if kind= "stays" ∨kind= "longest" then "sets" else "spread"
noncomputable def paL (kind:Str)(N k:Nat):List PyData:=if kind= "rounds" ∨kind= "highs" then [.str "groups",.int (figZ N)] else if kind= "stays" ∨kind= "longest" then [.str "sets",.int (sZ N k),shD (eaZ kind N k)] else [.str "spread",shD (mnZ kind N),shD (sdZ kind N)]
noncomputable def PapT (kind:Str)(N k:Nat)(H:Hp)(z:Addr):Prop:=∃us,H z=some (.tup us)/\IsAllY NoS H us (paL kind N k)
theorem PapT.same {kind:Str}{N k:Nat}{H H':Hp}{z:Addr}(h:PapT kind N k H z)(s:Same H H'):PapT kind N k H' z:=by
 obtain⟨us,h1,h2⟩:=h
 exact⟨us,s _ _ h1,h2.same s⟩
structure LookAt (kind:Str) (N k:Nat) (H:Hp) (z bz a:Addr) (b:Int×Int) (S:Addr->Prop) (vs:List V) (ds:List PyData):Prop where
 pap:PapT kind N k H z
 hN:N<=60
 hk:k<=60
 bnd:Shr H bz b
 bsm:ShB b 8000
 bgr:kind= "rounds" ∨kind= "highs" ->ShB b 1000
 top:H a=some (.tup vs)
 all:IsAllY S H vs ds
 sz:Sz 1000 (.tuple ds)
 len:ds.length=(paL kind N k).length
 int:∀n,ds[1]? =some (.int n)->Sm n 200
theorem zgA {N k:Nat}(h:0<sZ N k):k<=N:=by
 refine Nat.le_of_not_lt fun z=> ?_
 have:=(zkj (N:=(N:Int)) (by (first|lia|omega)) k).2 (by (first|lia|omega))
 (first|lia|omega)
theorem zh8 {a b:Int}{n:Nat}(hb:0<b)(h1:Sm a n)(h2:Sm b n)(hn:1<=n):ShB (capZ a b) n:=by
 unfold capZ
 split
 ·exact⟨by decide,Sm.mono (Sm.of (by decide:(1:Int).natAbs<2^1)) hn,Sm.mono (Sm.of (by decide:(1:Int).natAbs<2^1)) hn⟩
 ·exact ShB.low hb h1 h2
theorem zfh {n:Nat}(hn:1<=n):ShB (1,1) n:=⟨by decide,Sm.mono (Sm.of (by decide:(1:Int).natAbs<2^1)) hn,Sm.mono (Sm.of (by decide:(1:Int).natAbs<2^1)) hn⟩
theorem zks {b:Int×Int}{a c:Int}(hb:0<b.2)(hc:0<c):ltZ b (lowZ a c)=decide (b.1*c<a*b.2):=by
 have e:=ze7 (a:=a) hc
 have p:=zce (a:=a) hc
 unfold ltZ
 generalize lowZ a c=l at*
 have key:b.1*l.2<l.1*b.2↔b.1*c<a*b.2:=by
  constructor
  ·intro h
   have h1:=Int.mul_lt_mul_of_pos_right h hc
   have e1:l.1*b.2*c=a*b.2*l.2:=by
    rw[Int.mul_right_comm,e,Int.mul_right_comm]
   have e2:b.1*l.2*c=b.1*c*l.2:=Int.mul_right_comm _ _ _
   rw[e1,e2] at h1
   exact Int.lt_of_mul_lt_mul_right h1 (Int.le_of_lt p)
  ·intro h
   have h1:=Int.mul_lt_mul_of_pos_right h p
   have e1:a*b.2*l.2=l.1*b.2*c:=by
    rw[Int.mul_right_comm,<-e,Int.mul_right_comm]
   have e2:b.1*c*l.2=b.1*l.2*c:=Int.mul_right_comm _ _ _
   rw[e1,e2] at h1
   exact Int.lt_of_mul_lt_mul_right h1 (Int.le_of_lt hc)
 by_cases h:b.1*c<a*b.2
 ·rw[decide_eq_true h,decide_eq_true (key.mpr h)]
 ·rw[decide_eq_false h,decide_eq_false fun z=>h (key.mp z)]
theorem zd6 {b:Int×Int}{a c:Int}(hb:0<b.2)(hc:0<c):(!ltZ b (lowZ a c))=decide (a*b.2<=b.1*c):=by
 rw[zks hb hc]
 by_cases h:b.1*c<a*b.2
 ·rw[decide_eq_true h,decide_eq_false (by (first|lia|omega))];rfl
 ·rw[decide_eq_false h,decide_eq_true (by (first|lia|omega))];rfl
theorem zkt {N k:Nat}(h:0<sZ N k):k<=N:=zgA h
theorem zh9 {N:Nat}(hN:(N:Int)<=10^30){a:Int}(ha:1<=a):∀i:Nat,i<=60->a+i<=(N:Int)+1->0<prN a i/\Sm (prN a i) (101*i+1)
 |0,_,_=>⟨show (0:Int)<1 by decide,Sm.of (show (1:Int).natAbs<2^1 by decide)⟩
 | i+1,hi,hs=>by
  obtain⟨h1,h2⟩:=zh9 hN ha i (by (first|lia|omega)) (by (first|lia|omega))
  have hl:Sm (a+(i:Int)) 101:=by
   refine Sm.of (Nat.lt_of_le_of_lt (show (a+(i:Int)).natAbs<=10^30 by (first|lia|omega)) (by decide+kernel))
  exact⟨Int.mul_pos h1 (by (first|lia|omega)),(h2.mul hl).mono (by (first|lia|omega))⟩
theorem zlB {kind:Str}{N k:Nat}(hN:(N:Int)<=10^30)(hk:k<=60):ShB (eaZ kind N k) 6100:=by
 unfold eaZ
 by_cases h:0<sZ N k
 ·rw [if_pos h]
  have kN:=zkt h
  by_cases c:kind= "stays"
  ·rw [if_pos c]
   obtain⟨p1,p2⟩:=zh9 hN (a:=(N:Int)-k+1) (by (first|lia|omega)) k hk (by (first|lia|omega))
   exact⟨p1,sm1.mono (by decide),p2.mono (by (first|lia|omega))⟩
  ·rw [if_neg c]
   exact⟨zaK k,sm1.mono (by decide),(zbg (by (first|lia|omega))).mono (by decide)⟩
 ·rw [if_neg h]
  exact⟨by decide,Sm.of (by decide+kernel),Sm.of (by decide+kernel)⟩
noncomputable def zku:Sp:=fun vs H Q _=>∃(N:Nat) (a:Int) (k:Nat),vs=[.int a,.int (a+k-1)]/\1<=a/\a+k<=(N:Int)+1/\(N:Int)<=10^30/\k<=60/\Q (.int (prN a k)) H
noncomputable def zaX (kind:Str):Sp:=fun vs H Q _=>∃N k:Nat,vs=[.int N,.int k]/\(N:Int)<=10^30/\k<=60/\∀z H',Same H H'->PapT kind N k H' z->Q (.ref z) H'
noncomputable def zfi:Sp:=fun vs H Q _=>∃(kind:Str) (N k:Nat),vs=[.str kind,.int N,.int k]/\kind∈zaF/\(N:Int)<=10^30/\k<=60/\∀z H',Same H H'->PapT kind N k H' z->Q (.ref z) H'
noncomputable def lkZ (kind:Str)(N k:Nat)(b:Int×Int)(ds:List PyData):Bool:=
 if kind= "rounds" ∨kind= "highs" then whD (ds.getD 1 .none)&&decide (figZ N<=asI (ds.getD 1 .none))&&decide (asI (ds.getD 1 .none)^k*b.2<=b.1*fcZ k)
 else if kind= "stays" ∨kind= "longest" then juD [sZ N k] (.tuple [ds.getD 1 .none])&&juD [(eaZ kind N k).1,(eaZ kind N k).2] (ds.getD 2 .none)&&decide (sZ N k*(eaZ kind N k).1*b.2<=b.1*(eaZ kind N k).2)
 else juD [(mnZ kind N).1,(mnZ kind N).2] (ds.getD 1 .none)&&juD [(sdZ kind N).1,(sdZ kind N).2] (ds.getD 2 .none)&&decide (0<farZ kind N k)&&decide (ovZ kind N*b.2<=b.1*unZ kind N k)
structure LookX (kind:Str) (N k:Nat) (H:Hp) (z bz a:Addr) (b:Int×Int) (S:Addr->Prop) (vs:List V) (ds:List PyData):Prop where
 pap:PapT kind N k H z
 hN:(N:Int)<=10^30
 hk:k<=60
 hk1:1<=k
 bnd:Shr H bz b
 bsm:ShB b 8000
 bgr:kind= "rounds" ∨kind= "highs" ->ShB b 4000
 top:H a=some (.tup vs)
 all:IsAllY S H vs ds
 sz:Sz 1000 (.tuple ds)
 len:ds.length=(paL kind N k).length
 int:kind= "rounds" ∨kind= "highs" ->∀n,ds[1]? =some (.int n)->Sm n 200
noncomputable def za7 (ks:List Str):Sp:=fun vs H Q _=>∃(kind:Str) (N k:Nat) (z bz a:Addr) (b:Int×Int) (S:Addr->Prop) (us:List V) (ds:List PyData),vs=[.ref z,.int k,.ref bz,.ref a]/\kind∈ks/\LookX kind N k H z bz a b S us ds/\∀H',Same H H'->Q (.bl (lkZ kind N k b ds)) H'
noncomputable def swZ (kind:Str)(N k:Nat)(b:Int×Int):PyData->Bool
 | .tuple ds=>if zfK "all" (.tuple ds)=true then !ltZ b (1,1) else if k=0 then false else decide (ds.length=(paL kind N k).length)&&zcE (zcv kind) (ds.getD 0 .none)&&lkZ kind N k b ds
 |_=>false
noncomputable def zb7:Sp:=fun vs H Q _=>∃(kind:Str) (N k:Nat) (bz:Addr) (b:Int×Int) (S:Addr->Prop) (x:V) (d:PyData),vs=[.str kind,.int N,.int k,.ref bz,x]/\kind∈zaF/\(N:Int)<=10^30/\k<=60/\Shr H bz b/\ShB b 8000/\(kind= "rounds" ∨kind= "highs" ->ShB b 4000)/\IsY S H x d/\Sz 1000 d/\(kind= "rounds" ∨kind= "highs" ->∀d0 n,d=.tuple [d0,.int n]->Sm n 200)/\∀H',Same H H'->Q (.bl (swZ kind N k b d)) H'
noncomputable def zkv:Sp:=fun vs H Q _=>∃(x y:Addr) (p q:Int×Int),vs=[.ref x,.ref y]/\Shr H x p/\Shr H y q/\ShB p 8000/\ShB q 8000/\Sm (p.2*q.2) 8000/\∀z H',Same H H'->Shr H' z (tmZ p q)->Q (.ref z) H'
noncomputable def zfL (K:PySem.W.Frag):Sp:=fun vs H Q _=>∃(kind:Str) (N k:Nat),vs=[.str kind,.int N,.int k]/\kind∈zaF/\(N:Int)<=10^30/\k<=60/\∀z H',Same H H'->((swZ kind N k (zb9 kind N k) (.tuple (paL kind N k))=true/\PapT kind N k H' z)∨(swZ kind N k (zb9 kind N k) (.tuple (paL kind N k))=false/\SqT K H' z [.str "all"]))->Q (.ref z) H'
noncomputable def zc9 (K:PySem.W.Frag):Sp:=fun vs H Q _=>∃(kind:Str) (N k:Nat) (bz z:Addr) (b:Int×Int),vs=[.str kind,.int N,.int k,.ref bz,.ref z]/\Shr H bz b/\ShB b 8000/\SqT K H z [.str "all"]/\∀H',Same H H'->Q (.bl (!ltZ b (1,1))) H'
theorem zi9 {kind:Str}{N k:Nat}(hN:(N:Int)<=10^30)(hk:k<=60):ShB (zb9 kind N k) 8000/\(kind= "rounds" ∨kind= "highs" ->ShB (zb9 kind N k) 4000):=by
 have n0:(0:Int)<=(N:Int):=by (first|lia|omega)
 have g:ShB (capZ (figZ N^k) (fcZ k)) 1000:=zh8 (zaK k) ((zhY n0 hN k).mono (by (first|lia|omega))) ((zbg (by (first|lia|omega))).mono (by decide)) (by decide)
 unfold zb9
 by_cases h0:k=0
 ·rw [if_pos h0]
  exact⟨zfh (by decide),fun _=>zfh (by decide)⟩
 rw[if_neg h0]
 by_cases h1:kind= "stays"
 ·rw [if_pos h1]
  subst h1
  exact⟨zlt hk,fun z=>by rcases z with z|z<;>exact absurd z (by decide)⟩
 rw[if_neg h1]
 by_cases h2:kind= "longest"
 ·rw [if_pos h2]
  subst h2
  exact⟨zh8 (zaK k) ((zhX n0 hN k hk).mono (by (first|lia|omega))) ((zbg (by (first|lia|omega))).mono (by decide)) (by decide),fun z=>by rcases z with z|z<;>exact absurd z (by decide)⟩
 rw[if_neg h2]
 by_cases h3:kind= "rounds" ∨kind= "highs"
 ·rw [if_pos h3]
  exact⟨g.mono (by decide),fun _=>g.mono (by decide)⟩
 ·rw [if_neg h3]
  refine⟨?_,fun z=>absurd z h3⟩
  split
  ·exact zfh (by decide)
  ·have m:=zg3 (kind:=kind) n0 hN
   have d:=zg4 (kind:=kind) n0 hN
   have f:=zgq (kind:=kind) (k:=(k:Int)) n0 hN (by (first|lia|omega)) (by (first|lia|omega))
   refine zh8 (zgr n0 hN (by (first|lia|omega))) ?_ ?_ (by decide)
   ·unfold ovZ
    exact ((d.s1.mul m.s2).mul m.s2).mono (by decide)
   ·unfold unZ
    exact ((d.s2.mul f).mul f).mono (by decide)
theorem zlC {n:Int}(h:1<=n):∀{i k:Nat},i<=k->n^i<=n^k:=by
 intro i k hk
 induction hk with
 |refl=>exact Int.le_refl _
 |@step m _ ih=>
  rw[Int.pow_succ]
  have p:0<=n^m:=Int.pow_nonneg (by (first|lia|omega))
  have:=Int.mul_le_mul_of_nonneg_left h p
  (first|lia|omega)
theorem zfM {P:Program}{w:World}{K:PySem.W.Frag}{tg:Expr}(it:Addr)(lo:Int)(n:Nat):Turn P w K tg (Itr lo n) [it] it (fun i h=>IsLongIter h it (lo+(i:Nat)*1) ((n:Int)-(i:Nat)) 1) where
 mem:=by simp
 obj:=fun i h st b hb=>by
  have e:b=it:=by simpa using hb
  subst e
  exact⟨_,st,fun v z=>by
   have z':Data.fields _=Data.cell v:=z
   cases z'⟩
 keep:=fun i h h' st k=>k it (by simp) _ st
 item:=by
  intro X hP hw hK hc i pins s σ H E I hf st hg
  subst hP hw hK
  obtain⟨f0,f1,f2,f3,f4,f5⟩:=hf it (by simp)
  have W:=Walks.longrange (prog:=X.prog) (w:=X.w) (I.ok.hd hc) it lo 1 n
  refine W.item i s _ _ hg st fun v h' tk hv st' kk=> ?_
  obtain⟨t,rfl⟩:=hv
  have I1:Inv X pins σ H {s with heap:=h',toks:=tk}:=I.turned (fun b o hb e=>kk b o (by simpa using hb) e) f0 f1 f3 f4 f5
  refine⟨_,rfl,ziG (s:={s with heap:=h',toks:=tk}) (n:= "longrange_iterator") st' rfl rfl (by decide) ⟨.int (lo+i),H,I1,⟨t, ?_⟩,⟨rfl,rfl⟩,st',fun b hb=>(hf b hb).1⟩⟩
  rw[Int.mul_one]
 done:=by
  intro X hP hw hK hc i pins s σ H E I hf st hg
  subst hP hw hK
  obtain⟨f0,f1,f2,f3,f4,f5⟩:=hf it (by simp)
  exact wpAny_pyNext_long_end (I.ok.hd hc) st (by have:n<=i:=hg;(first|lia|omega)) fun h' eb=>⟨rfl,I.turned (t':=s.toks) (fun b o hb e=>eb b o hb e) f0 f1 f3 f4 f5⟩
 self:=fun _ _ _ _ _ st h=>wpAny_pyIter_longiter st h
section
variable {X:Cx}{tg:Expr}
theorem zia {pins:List (Addr×Obj)}{σ:St}{H:Hp}{s:Shared}{R:It->Hp->Prop}{E:Value->Shared->Prop}{lo hi:Int}{t u v:Tok}{tk:Nat}(I:Inv X pins σ H s)
  (q:R (Itr lo (hi-lo).toNat) H):wpAny (model X.prog X.w) X.A (pyIter (.ref s.heap.objs.size)) (PIE X pins σ tg R) E {s with heap:=s.heap.push {cls:=.type "range",data:=.fields #[.int lo t,.int hi u,.int 1 v]},toks:=tk}:=by
 have e1:lo+((0:Nat):Int)*1=lo:=by simp
 have e2:(((hi-lo).toNat:Nat):Int)-((0:Nat):Int)=Builtin.Range.rangeSize lo hi 1:=by rw[rangeSize_one];split<;>(first|lia|omega)
 have I1:Inv X pins σ H {s with heap:=s.heap.push {cls:=.type "range",data:=.fields #[.int lo t,.int hi u,.int 1 v]},toks:=tk}:=I.kept fun b o e=>Heap.get?_push_of_some _ e
 by_cases hsm:Builtin.Range.small lo hi 1=true
 ·refine wpAny_pyIter_range (IsRange.new ..) hsm ?_
  refine⟨(s.heap.push {cls:=.type "range",data:=.fields #[.int lo t,.int hi u,.int 1 v]}).objs.size,[(s.heap.push {cls:=.type "range",data:=.fields #[.int lo t,.int hi u,.int 1 v]}).objs.size],_,_,H,rfl,
   I1.kept (t':=tk) fun b o e=>Heap.get?_push_of_some _ e,zdY _ lo (hi-lo).toNat, ?_,fun b hb=> ?_,q⟩
  ·show IsRangeIter _ _ (lo+((0:Nat):Int)*1) ((((hi-lo).toNat:Nat):Int)-((0:Nat):Int)) 1
   rw[e1,e2]
   exact Heap.get?_push_size _ rfl
  ·have e:b=(s.heap.push {cls:=.type "range",data:=.fields #[.int lo t,.int hi u,.int 1 v]}).objs.size:=by simpa using hb
   subst e
   exact I1.fpOk (Nat.le_refl _) (I1.hok.fresh (Nat.le_refl _))
 ·refine wpAny_pyIter_longrange (IsRange.new ..) (by simpa using hsm) ?_
  refine⟨(s.heap.push {cls:=.type "range",data:=.fields #[.int lo t,.int hi u,.int 1 v]}).objs.size,[(s.heap.push {cls:=.type "range",data:=.fields #[.int lo t,.int hi u,.int 1 v]}).objs.size],_,_,H,rfl,
   I1.kept (t':=tk) fun b o e=>Heap.get?_push_of_some _ e,zfM _ lo (hi-lo).toNat, ?_,fun b hb=> ?_,q⟩
  ·show IsLongIter _ _ (lo+((0:Nat):Int)*1) ((((hi-lo).toNat:Nat):Int)-((0:Nat):Int)) 1
   rw[e1,e2]
   exact Heap.get?_push_size _ rfl
  ·have e:b=(s.heap.push {cls:=.type "range",data:=.fields #[.int lo t,.int hi u,.int 1 v]}).objs.size:=by simpa using hb
   subst e
   exact I1.fpOk (Nat.le_refl _) (I1.hok.fresh (Nat.le_refl _))
noncomputable def zlD (ta:TA):TI:=fun σ H R=>ta σ H fun vs H1=>∃i j:Int,vs=[.int i,.int j]/\R (Itr i (j-i).toNat) H1
theorem zg7 {a b:Expr}{ta:TA}{p pos:Pos}(hg:Gl X "range")(hm:X.mg "range" =none)(ha:PA X [a,b] ta)(hs:starEach [a,b] X.env=[(false,eval a X.env),(false,eval b X.env)]:=by rfl)(hs2:starEach [b] X.env=[(false,eval b X.env)]:=by rfl):
  PI X tg (.Call (.Name "range" p) [a,b] [] pos) (zlD ta):=by
 intro pins s σ H R I h
 refine Call_ (zda I hg hm boot_range (PyProof.Rows.callWith_type1 (thn (ha pos pins s σ H _ I h) fun us s1 zq=> ?_) (by rw[hs,hs2]) (by rw[hs2];rfl)))
 obtain⟨vs,H1,I1,r1,q1⟩:=zq
 obtain⟨i,j,e,q⟩:=q1
 subst e
 cases r1 with
 | cons r rr=>
  cases rr with
  |cons r' rr=>
   cases rr
   obtain⟨t,rfl⟩:=r
   obtain⟨t',rfl⟩:=r'
   exact call_range_2 (zia I1 q)
end
section
variable {K:PySem.W.Frag}{x qual:Str}{st:Stmt}{f:Addr}{fd:FuncData}
theorem Fun.b1 {p0:Str}(F:Fun K x qual st f fd)(h:∀(kV doc pm:Value) (an:Option Addr) (cdv ct:Value) (a0:Value),bindArgs (PySem.W.fnOf x qual (za6 st) (zaS st) (zag st) .none kV doc pm an cdv ct) ⟨[a0],[]⟩=pure (([p0]:List Str).zip [a0])):Binds K fd [p0] []:=
 F.binds fun kV doc pm an cdv ct us hl=>match us,hl with|[a0],_=>h kV doc pm an cdv ct a0
theorem Fun.b2 {p0 p1:Str}(F:Fun K x qual st f fd)(h:∀(kV doc pm:Value) (an:Option Addr) (cdv ct:Value) (a0 a1:Value),bindArgs (PySem.W.fnOf x qual (za6 st) (zaS st) (zag st) .none kV doc pm an cdv ct) ⟨[a0,a1],[]⟩=pure (([p0,p1]:List Str).zip [a0,a1])):Binds K fd [p0,p1] []:=
 F.binds fun kV doc pm an cdv ct us hl=>match us,hl with|[a0,a1],_=>h kV doc pm an cdv ct a0 a1
theorem Fun.b3 {p0 p1 p2:Str}(F:Fun K x qual st f fd)(h:∀(kV doc pm:Value) (an:Option Addr) (cdv ct:Value) (a0 a1 a2:Value),bindArgs (PySem.W.fnOf x qual (za6 st) (zaS st) (zag st) .none kV doc pm an cdv ct) ⟨[a0,a1,a2],[]⟩=pure (([p0,p1,p2]:List Str).zip [a0,a1,a2])):Binds K fd [p0,p1,p2] []:=
 F.binds fun kV doc pm an cdv ct us hl=>match us,hl with|[a0,a1,a2],_=>h kV doc pm an cdv ct a0 a1 a2
theorem Fun.b4 {p0 p1 p2 p3:Str}(F:Fun K x qual st f fd)(h:∀(kV doc pm:Value) (an:Option Addr) (cdv ct:Value) (a0 a1 a2 a3:Value),bindArgs (PySem.W.fnOf x qual (za6 st) (zaS st) (zag st) .none kV doc pm an cdv ct) ⟨[a0,a1,a2,a3],[]⟩=pure (([p0,p1,p2,p3]:List Str).zip [a0,a1,a2,a3])):Binds K fd [p0,p1,p2,p3] []:=
 F.binds fun kV doc pm an cdv ct us hl=>match us,hl with|[a0,a1,a2,a3],_=>h kV doc pm an cdv ct a0 a1 a2 a3
theorem Fun.b5 {p0 p1 p2 p3 p4:Str}(F:Fun K x qual st f fd)(h:∀(kV doc pm:Value) (an:Option Addr) (cdv ct:Value) (a0 a1 a2 a3 a4:Value),bindArgs (PySem.W.fnOf x qual (za6 st) (zaS st) (zag st) .none kV doc pm an cdv ct) ⟨[a0,a1,a2,a3,a4],[]⟩=pure (([p0,p1,p2,p3,p4]:List Str).zip [a0,a1,a2,a3,a4])):Binds K fd [p0,p1,p2,p3,p4] []:=
 F.binds fun kV doc pm an cdv ct us hl=>match us,hl with|[a0,a1,a2,a3,a4],_=>h kV doc pm an cdv ct a0 a1 a2 a3 a4
end
theorem zer {X:Cx}(K:PySem.W.Frag)(hK:X.K=K):zbF X (.builtin "len") (fun xs H Q=>∃p ys,xs=[.ref p]/\(SqL K H p ys∨SqT K H p ys)/\Q (.int ys.length) H):=hK▸zaw
noncomputable def insZ (o:List Int)(k:Nat)(i:Nat):List Int:=o.take i++[(k:Int)]++o.drop i
noncomputable def insR (k:Nat)(o:List Int):List (List Int):=(List.range (k+1)).map (insZ o k)
noncomputable def allI:Nat->List (List Int)
 |0=>[[]]
 |k+1=>(allI k).flatMap (insR k)
noncomputable def rndF (o:List Int)(k:Int):Nat->Int->List Int->Option (List Int)
 |0,_,_=>none
 |f+1,x,acc=>if x=k then some acc else if 0<=x/\x<o.length then rndF o k f (o.getD x.toNat 0) (acc++[x]) else none
noncomputable def rndZ (o:List Int)(k:Int):Option (List Int):=rndF o k 10 (o.getD k.toNat 0) [k]
noncomputable def hasZ (kind:Str)(p:List Int)(o:List Int):Bool:=
 let k:=p.getD 0 0
 if kind= "rounds" then ((rndZ o k).getD []).all fun y=>decide (y<=k)
 else if kind= "stays" then decide (o.getD k.toNat 0=k)
 else if kind= "rises" then decide (o.getD k.toNat 0<o.getD (k.toNat+1) 0)
 else if kind= "highs" then (o.take (k.toNat+1)).all fun y=>decide (y<=o.getD k.toNat 0)
 else decide (o.getD (p.getD 1 0).toNat 0<o.getD k.toNat 0)
noncomputable def zjQ (kind:Str)(p:List Int)(n:Nat):Prop:=(∃k:Nat,p.getD 0 0=(k:Int)/\0<p.length/\k<n/\(kind= "rises" ->k+1<n))/\(kind= "crossed" ->∃j:Nat,p.getD 1 0=(j:Int)/\1<p.length/\j<n)
theorem zg8 (ns:List Int)(k:Nat):cutV (ns.map V.int) (some (k:Int)) none=(ns.drop k).map V.int:=by
 unfold cutV
 rw[HT.sIx_none,HT.sIx_nat,zas,<-List.map_drop,<-List.map_take]
 congr 1
 by_cases h:k<=ns.length
 ·rw[Nat.min_eq_left h,List.take_of_length_le (by rw[List.length_drop];exact Nat.le_refl _)]
 ·rw [Nat.min_eq_right (by (first|lia|omega)),List.drop_length,List.drop_of_length_le (by (first|lia|omega))]
  simp
theorem zgB {o:List Int}{k:Int}:∀{f:Nat} {x:Int} {acc r:List Int},rndF o k f x acc=some r->k∈acc->k∈r
 |0,_,_,_,h,_=>nomatch h
 | f+1,x,acc,r,h,m=>by
  unfold rndF at h
  split at h
  ·cases h;exact m
  ·split at h
   ·exact zgB h (List.mem_append_left _ m)
   ·cases h
theorem zja {o:List Int}{k:Int}{r:List Int}(h:rndZ o k=some r):k∈r:=zgB h (by simp)
theorem zib {r:List Int}{k M:Int}(hk:k∈r)(hM:M∈r)(h:∀a∈r,a<=M):decide (V.int M=V.int k)=r.all fun y=>decide (y<=k):=by
 by_cases e:M=k
 ·subst e
  rw[decide_eq_true rfl]
  symm
  rw[List.all_eq_true]
  intro y hy
  exact decide_eq_true (h y hy)
 ·rw [decide_eq_false (fun z=>e (V.int.inj z))]
  symm
  rw[List.all_eq_false]
  refine⟨M,hM,fun z=>e ?_⟩
  have:=of_decide_eq_true z
  have:=h k hk
  (first|lia|omega)
noncomputable def zkw:Sp:=fun vs H Q _=>∃(a:Addr) (o:List Int) (k:Nat) (r:List Int),vs=[.ref a,.int k]/\H a=some (.tup (o.map V.int))/\k<o.length/\rndZ o k=some r/\∀L H',Same H H'->H' L=some (.lst (r.map V.int))->Q (.ref L) H'
noncomputable def zkx:Sp:=fun vs H Q _=>∃(kind:Str) (p a:Addr) (ps o:List Int),vs=[.str kind,.ref p,.ref a]/\kind∈zbR/\H p=some (.tup (ps.map V.int))/\H a=some (.tup (o.map V.int))/\zjQ kind ps o.length/\(kind= "rounds" ->(rndZ o (ps.getD 0 0)).isSome=true)/\∀H',Same H H'->Q (.bl (hasZ kind ps o)) H'
theorem zjb:∀n<7,∀o∈allI n,o.length=n:=by decide+kernel
theorem zgC:∀n<7,(allI n).length<=720/\0<(allI n).length:=by decide+kernel
theorem zic:∀n:Nat,n<7->∀kind∈zbR,∀p∈zb0 kind n,(0<p.length/\0<=p.getD 0 0/\(p.getD 0 0).toNat<n/\(kind= "rises" ->(p.getD 0 0).toNat+1<n))/\(kind= "crossed" ->1<p.length/\0<=p.getD 1 0/\(p.getD 1 0).toNat<n):=by decide+kernel
theorem zjc {n:Nat}{kind:Str}{p:List Int}(hn:n<7)(hk:kind∈zbR)(hp:p∈zb0 kind n):zjQ kind p n:=by
 obtain⟨⟨a1,a2,a3,a4⟩,b⟩:=zic n hn kind hk p hp
 refine⟨⟨(p.getD 0 0).toNat,by (first|lia|omega),a1,a3,a4⟩,fun e=> ?_⟩
 obtain⟨b1,b2,b3⟩:=b e
 exact⟨(p.getD 1 0).toNat,by (first|lia|omega),b1,b3⟩
noncomputable def zes:Sp:=fun vs H Q _=>∃n:Nat,vs=[.int n]/\n<7/\∀p zs H',Same H H'->H' p=some (.lst (zs.map V.ref))->RowsAt H' zs (allI n)->Q (.ref p) H'
noncomputable def RawD (h:Heap)(d:Addr)(es:Array DictEntry)(ep:Nat):Prop:=∃ob,h.get? d=some ob/\ob.ExactDict/\ob.data=.dict es ep
section
variable {prog:Program}{w:World}{A:Around}{E:Value->Shared->Prop}{s:Shared}{d it v:Addr}{es:Array DictEntry}{ep:Nat}
theorem zid (hd:(d==sysModules)=false):MeetsIn prog w (Builtin.«dict.items» ⟨[.ref d],[]⟩) (fun _ R s=>s.TypeIs (.ref d) "dict" /\R (.ok (.ret (.ref s.heap.objs.size))) {s with heap:=s.heap.push {cls:=.type "dict_items",data:=.fields #[.ref d]}}):=
 .of_wp fun A R s h=>by
  obtain⟨ht,h⟩:=h
  unfold Builtin.«dict.items» Builtin.Dict.noArgs
  refine wpAny_bind (wpAny_bind (wpAny_notOrdered_dict ht (wpAny_pure ?_)))
  unfold Builtin.Dict.showsAll
  refine wpAny_bind ?_
  rw[if_neg (fun z=>by rw[hd] at z;cases z)]
  exact wpAny_pure (wpAny_bind (wpAny_newObj_type (wpAny_pure ⟨_,rfl,h⟩)))
theorem zjd {Q:Value->Shared->Prop}(hv:s.heap.get? v=some {cls:=.type "dict_items",data:=.fields #[.ref d]})(hm:RawD s.heap d es ep)
  (q:Q (.ref s.heap.objs.size) {s with heap:=s.heap.push {cls:=.type "dict_itemiterator",data:=.fields #[.none,.bool false,.ref d,.int 0 0,.int es.size 0,.int ep 0,.none,.none]}}):wpAny (model prog w) A (pyIter (.ref v)) Q E s:=by
 obtain⟨ob,ho,_,hdat⟩:=hm
 have tv:s.TypeIs (.ref v) "dict_items" :=⟨_,hv,rfl⟩
 refine wpAny_pyIter_slot tv F.slot_dict_items_iter (wpAny_call_entry F.slot_dict_items_iter tv F.entry_dict_items_iter ?_ (F.args_dict_items_iter_1 _))
 unfold Builtin.«dict_items.__iter__» Builtin.Dict_items.dictOf Builtin.Dict_items.newIterator
 refine wpAny_bind (wpAny_pure (wpAny_bind (wpAny_bind (wpAny_field hv rfl (x:=.ref d) rfl (wpAny_pure (wpAny_bind (wpAny_bind (wpAny_dictEntries ho hdat (wpAny_bind (wpAny_dictEpoch ho hdat ?_))))))))))
 have own:Builtin.Dict_items.ownsTuple "dict_itemiterator" =true:=by decide
 simp only[own,if_true]
 refine wpAny_newObj_type (wpAny_pure ⟨_,rfl, "dict_itemiterator",_,⟨_,Heap.get?_push_size _ rfl,rfl⟩,F.slot_dict_itemiterator_next.lookup, ?_⟩) (by
  simp only[sizeOk,Builtin.Dict_items.ownedTupleFields,List.size_toArray,List.length_append,List.length_cons,List.length_nil,sizeLine_eq]
  (first|lia|omega))
 simpa [rawInt,Builtin.Dict_items.ownedTupleFields] using q
theorem zje {i:Nat}{e:DictEntry}{ok ov:Value}{Q:Option Value->Shared->Prop}(hit:IsItemIter s.heap it d i es.size ep ok ov)(hm:RawD s.heap d es ep)(hx:es[i]? =some e)
  (q:∀h',IsItemIterOut h' it d (i+1) es.size ep e.key e.val s.heap.objs.size->h'.get? s.heap.objs.size=some {cls:=.type "tuple",data:=.seq #[e.key,e.val]}->(∀b o,b≠it->s.heap.get? b=some o->h'.get? b=some o)->
   Q (some (.ref s.heap.objs.size)) {s with heap:=h'}):wpAny (model prog w) A (pyNext (.ref it)) Q E s:=by
 obtain⟨hp,g,dr,tk,os⟩:=s
 obtain⟨ob,hod,_,hdd⟩:=hm
 have tI:Shared.TypeIs ⟨hp,g,dr,tk,os⟩ (.ref it) "dict_itemiterator" :=⟨_,hit,rfl⟩
 have own:Builtin.Dict_items.ownsTuple "dict_itemiterator" =true:=by decide
 have hil:it<hp.objs.size:=Heap.lt_size hit
 unfold pyNext
 refine wpAny_bind (wpAny_attempt (wpAny_callSpecial?_slot (name:=Str.ofString "__next__") tI F.slot_dict_itemiterator_next (wpAny_call_entry F.slot_dict_itemiterator_next tI F.entry_dict_itemiterator_next ?_ (F.args_dict_itemiterator_next_1 _))))
 refine wpAny_bind (wpAny_pure (wpAny_bind (wpAny_bind ?_)))
 refine wpAny_bind (wpAny_typeNameOfWhole_itemiter tI (wpAny_pure (wpAny_bind (wpAny_fieldsOf hit rfl ?_))))
 simp only[own,if_true]
 show wpAny _ _ (if (Value.ref d==Value.none)=true then _ else _) _ _ _
 have nd:¬((Value.ref d==Value.none)=true):=Bool.false_ne_true
 rw[if_neg nd]
 refine wpAny_bind (wpAny_pure (wpAny_bind (wpAny_dictEntries hod hdd ?_)))
 rw[if_neg (by simp)]
 refine wpAny_bind (wpAny_pure (wpAny_bind (wpAny_dictEpoch hod hdd ?_)))
 rw[if_neg (by simp)]
 refine wpAny_pure ?_
 simp only[show ¬((i:Int)<0) by (first|lia|omega),if_false,Int.toNat_natCast,hx]
 refine wpAny_bind (wpAny_bind (wpAny_typeNameOfWhole_itemiter tI (wpAny_pure (wpAny_bind (wpAny_isOneOf_itemiter tI ?_)))))
 show wpAny _ _ (setField (.ref it) 3 (rawInt ((i:Int)+1)) >>= _) _ _ ⟨hp,g,dr,tk,os⟩
 refine wpAny_bind (wpAny_setField_rec hit (by simp) fun h1 (e1:_) (k1:Heap.SameBut it hp h1)=> ?_)
 have e1':IsItemIter h1 it d (i+1) es.size ep ok ov:=by
  unfold IsItemIter
  rw[show ((i+1:Nat):Int)=(i:Int)+1 by (first|lia|omega)]
  simpa [rawInt] using e1
 have t1:Shared.TypeIs ⟨h1,g,dr,tk,os⟩ (.ref it) "dict_itemiterator" :=⟨_,e1',rfl⟩
 refine wpAny_bind (wpAny_holding (wpAny_bind (wpAny_isOneOf_itemiter t1 (wpAny_bind (wpAny_isOneOf_itemiter t1 ?_)))))
 show wpAny _ _ (Builtin.Dict_items.pairFromOwner (.ref it) 6 e.key e.val) _ _ ⟨h1,g,dr,tk,os⟩
 unfold Builtin.Dict_items.pairFromOwner Builtin.Dict_items.ownedTupleIsFree
 have z1:h1.objs.size=hp.objs.size:=k1.1
 have e2:IsItemIter (h1.push {cls:=.type "tuple",data:=.seq #[e.key,e.val]}) it d (i+1) es.size ep ok ov:=Heap.get?_push_of_some _ e1'
 have t2:(h1.push {cls:=.type "tuple",data:=.seq #[e.key,e.val]}).get? hp.objs.size=some {cls:=.type "tuple",data:=.seq #[e.key,e.val]}:=by
  rw[<-z1]
  exact Heap.get?_push_size _ rfl
 have k2:∀b o,b≠it->hp.get? b=some o->(h1.push {cls:=.type "tuple",data:=.seq #[e.key,e.val]}).get? b=some o:=fun b o hb x=>Heap.get?_push_of_some _ (k1.extBut b o hb x)
 refine wpAny_bind (wpAny_newTuple ?_)
 show wpAny _ _ (_ >>= _) _ _ ⟨h1.push {cls:=.type "tuple",data:=.seq #[e.key,e.val]},g,dr,tk,os⟩
 rw[z1]
 generalize h1.push {cls:=.type "tuple",data:=.seq #[e.key,e.val]}=h2 at e2 t2 k2
 refine wpAny_bind (wpAny_bind (wpAny_field e2 rfl (x:=.none) rfl (wpAny_pure ?_)))
 simp only[if_true]
 refine wpAny_bind (wpAny_field e2 rfl (x:=ok) rfl (wpAny_bind (wpAny_field e2 rfl (x:=ov) rfl (wpAny_bind (wpAny_setField_rec e2 (by simp) fun h3 (e3:IsItemIter h3 it d (i+1) es.size ep e.key ov) (k3:Heap.SameBut it h2 h3)=> ?_)))))
 refine wpAny_bind (wpAny_setField_rec e3 (by simp) fun h4 (e4:IsItemIter h4 it d (i+1) es.size ep e.key e.val) (k4:Heap.SameBut it h3 h4)=> ?_)
 refine wpAny_bind (wpAny_setField_rec e4 (by simp) fun h5 (e5:IsItemIterOut h5 it d (i+1) es.size ep e.key e.val hp.objs.size) (k5:Heap.SameBut it h4 h5)=> ?_)
 refine wpAny_bind (wpAny_setField_rec e5 (by simp) fun h6 (e6:IsItemIterOut h6 it d (i+1) es.size ep e.key e.val hp.objs.size) (k6:Heap.SameBut it h5 h6)=> ?_)
 have k:∀b o,b≠it->h2.get? b=some o->h6.get? b=some o:=fun b o hb x=>k6.extBut b o hb (k5.extBut b o hb (k4.extBut b o hb (k3.extBut b o hb x)))
 exact wpAny_bind (wpAny_letGo (wpAny_pure (wpAny_pure ⟨_,rfl,wpAny_pure (q h6 e6 (k _ _ (Nat.ne_of_gt hil) t2) fun b o hb x=>k b o hb (k2 b o hb x))⟩)))
theorem zky {i:Nat}{ok ov:Value}{Q:Option Value->Shared->Prop}(hh:A.handled=none)(hit:IsItemIter s.heap it d i es.size ep ok ov)(hm:RawD s.heap d es ep)(hx:es[i]? =none)
  (q:∀h',Heap.ExtBut it s.heap h'->Q none {s with heap:=h'}):wpAny (model prog w) A (pyNext (.ref it)) Q E s:=by
 obtain⟨ob,hod,_,hdd⟩:=hm
 have tI:s.TypeIs (.ref it) "dict_itemiterator" :=⟨_,hit,rfl⟩
 have own:Builtin.Dict_items.ownsTuple "dict_itemiterator" =true:=by decide
 unfold pyNext
 refine wpAny_bind (wpAny_attempt (wpAny_callSpecial?_slot (name:=Str.ofString "__next__") tI F.slot_dict_itemiterator_next (wpAny_call_entry F.slot_dict_itemiterator_next tI F.entry_dict_itemiterator_next ?_ (F.args_dict_itemiterator_next_1 _))))
 refine wpAny_bind (wpAny_pure (wpAny_bind (wpAny_bind ?_)))
 refine wpAny_bind (wpAny_typeNameOfWhole_itemiter tI (wpAny_pure (wpAny_bind (wpAny_fieldsOf hit rfl ?_))))
 simp only[own,if_true]
 show wpAny _ _ (if (Value.ref d==Value.none)=true then _ else _) _ _ s
 have nd:¬((Value.ref d==Value.none)=true):=Bool.false_ne_true
 rw[if_neg nd]
 refine wpAny_bind (wpAny_pure (wpAny_bind (wpAny_dictEntries hod hdd ?_)))
 rw[if_neg (by simp)]
 refine wpAny_bind (wpAny_pure (wpAny_bind (wpAny_dictEpoch hod hdd ?_)))
 rw[if_neg (by simp)]
 refine wpAny_pure ?_
 simp only[show ¬((i:Int)<0) by (first|lia|omega),if_false,Int.toNat_natCast,hx]
 refine wpAny_bind (wpAny_bind (wpAny_typeNameOfWhole_itemiter tI ?_))
 refine wpAny_pure (wpAny_bind (wpAny_setField hit rfl (by rw[own];simp) ?_))
 refine wpAny_bind ?_
 simp only[newExc,newTuple]
 refine wpAny_bind (wpAny_newObj_type (wpAny_bind (m:=firstArgMember _ _) (wpAny_of_eq (a:=Value.none) (by first|rfl|(simp only[firstArgMember];rfl)) (wpAny_newObj_type ?_ (by size_fits)))) (by size_fits))
 simp only[raiseNew]
 refine wpAny_bind (wpAny_handled ?_)
 rw[show A.in1.handled=none from hh]
 refine wpAny_bind (wpAny_pure (wpAny_throw ?_))
 refine wpAny_bind (wpAny_isInstance (T:= "StopIteration") (b:=true) ⟨_,Heap.get?_push_size _ rfl,rfl⟩ isSubtype_stop (wpAny_pure ?_))
 exact q _ (((Heap.SameBut.update ..).extBut.push _).push _)
end
theorem zfj {α β:Type}{F:α->β->Prop}:∀{l₁:List α} {l₂:List β},Paired F l₁ l₂->∀{i:Nat} {a:α},l₁[i]? =some a->∃b,l₂[i]? =some b/\F a b
 |_,_,.nil,_,_,h=>by cases h
 |_,_,.cons p q,0,_,h=>by cases h;exact⟨_,rfl,p⟩
 |_,_,.cons p q,i+1,_,h=>zfj q (i:=i) h
section
variable {X:Cx}{pins:List (Addr×Obj)}{σ:St}{H:Hp}{s:Shared}{a:Addr}{kvs:List (List Key×V)}{ob:Obj}
theorem Inv.freeze (I:Inv X pins σ H s)(e:H a=some (.dT kvs))(ho:s.heap.get? a=some ob):Inv X pins σ (upd H a (.frz ob (.dT kvs))) s:=by
 refine I.write (t':=s.toks) (h':=s.heap) (x:=a) (e:=a) (o:=.frz ob (.dT kvs)) (by rw[e];trivial) (.inl rfl) (fun _ _ _ q=>q) ⟨_,ho⟩ ⟨ho, ?_⟩
 refine (I.hok a _ e).stay (fun _ _ _ q=>q) (fun b q=> ?_) fun b xs q=> ?_
 ·rw[zaq (fun z=>by rw[z,e] at q;cases q)];exact q
 ·rw[zaq (fun z=>by rw[z,e] at q;cases q)];exact q
theorem Inv.froz (I:Inv X pins σ H s)(e:H a=some (.frz ob (.dT kvs))):s.heap.get? a=some ob/\∃xs:List (List Key×Addr×Value),Paired (fun (p:List Key×V) (q:List Key×Addr×Value)=>p.1=q.1/\H q.2.1=some (.tup (p.1.map kV))/\RelV p.2 q.2.2) kvs xs/\
  ∃es ep,ob.ExactDict/\ob.data=.dict es ep/\es.toList=xs.map (entryOfKey (tupleKind (zaD X.prog X.w))):=by
 obtain⟨ho,z,y,xs,rel,o',es,ep,e1,c,e2,e3,_⟩:=(show ObjOk X.prog X.w H s.heap a (.frz ob (.dT kvs)) from I.hok a _ e)
 rw[ho] at e1
 cases e1
 exact⟨ho,xs,rel,es,ep,c,e2,e3⟩
end
noncomputable def Itx (a:Addr)(ob:Obj):It:=
  ⟨fun i H=>∃kvs kv,H a=some (.frz ob (.dT kvs))/\kvs[i]? =some kv,
   fun i H x H'=>∃t b k v,H t=none/\x=.ref t/\H b=some (.tup (k.map kV))/\H'=upd H t (.tup [.ref b,v])/\∀kvs,H a=some (.frz ob (.dT kvs))->kvs[i]? =some (k,v),
   fun i H=>∃kvs,H a=some (.frz ob (.dT kvs))/\kvs.length=i⟩
theorem zg9 {P:Program}{w:World}{K:PySem.W.Frag}{els:List Expr}{kx}{tp:Pos}(a it:Addr)(ob:Obj)(es:Array DictEntry)(ep:Nat)(hdat:ob.data=.dict es ep):
  Turn P w K (.Tuple els kx tp) (Itx a ob) [it] it (fun i h=>∃ok ov,IsItemIter h it a i es.size ep ok ov) where
 mem:=by simp
 obj:=fun i h st b hb=>by
  obtain⟨ok,ov,hi⟩:=st
  rw[List.mem_singleton.mp hb]
  exact⟨_,hi,fun v z=>by cases z⟩
 keep:=fun i h h' st k=>by
  obtain⟨ok,ov,hi⟩:=st
  exact⟨ok,ov,k it (by simp) _ hi⟩
 item:=by
  intro X hP hw hK hc i pins s σ H E I hf st hg
  subst hP hw hK
  obtain⟨kvs,⟨k,v⟩,hq,hx⟩:=hg
  obtain⟨ok,ov,hi⟩:=st
  obtain⟨ho,xs,rel,es',ep',c,e2,e3⟩:=I.froz hq
  rw[hdat] at e2
  cases e2
  obtain⟨⟨k',b,u⟩,hxs,r1,r2,r3⟩:=zfj rel hx
  have hes:es[i]? =some (entryOfKey (tupleKind (zaD X.prog X.w)) (k',b,u)):=by
   rw[<-Array.getElem?_toList,e3,List.getElem?_map,hxs]
   rfl
  refine zje hi ⟨ob,ho,c,hdat⟩ hes fun h1 ho1 ht1 hk1=>⟨_,rfl,wpAny_letOwnedTupleGo_items ho1 fun h2 he2 hs2=> ?_⟩
  have hne0:s.heap.objs.size≠it:=Nat.ne_of_gt (Heap.lt_size hi)
  have keep:∀b o,b∉[it]->s.heap.get? b=some o->h2.get? b=some o:=fun b o hb e0=>(hs2.2 b fun z=>hb (by simp[z])).trans (hk1 b o (fun z=>hb (by simp[z])) e0)
  have I':Inv X pins σ (upd H s.heap.objs.size (.tup [.ref b,v])) {s with heap:=h2,toks:=s.toks}:=I.turnedT (h':=h2) (t':=s.toks) (xs:=[.ref b,v]) (its:=[.ref b,u]) hf keep (.cons rfl (.cons r3 .nil)) ⟨_,(hs2.2 _ hne0).trans ht1,rfl,⟨_,rfl⟩,rfl,rfl⟩ (by show 2<=sizeLine;decide)
  refine⟨.ref s.heap.objs.size,_,I',rfl,⟨_,b,k,v,I.hok.fresh (Nat.le_refl _),rfl,r2,rfl,fun kvs' hy=> ?_⟩,⟨_,_,he2⟩,fun b' hb=> ?_⟩
  ·rw [hq] at hy
   cases hy
   exact hx
  ·have e9:=List.mem_singleton.mp hb
   subst e9
   rw[zaq (Nat.ne_of_lt (Heap.lt_size hi))]
   exact (hf _ hb).1
 done:=by
  intro X hP hw hK hc i pins s σ H E I hf st hg
  subst hP hw hK
  obtain⟨kvs,hq,hl⟩:=hg
  obtain⟨ok,ov,hi⟩:=st
  obtain⟨ho,xs,rel,es',ep',c,e2,e3⟩:=I.froz hq
  rw[hdat] at e2
  cases e2
  have hsz:es.size=i:=by
   rw[<-Array.length_toList,e3,List.length_map,<-Paired.length rel,hl]
  refine zky (I.ok.hd hc) hi ⟨ob,ho,c,hdat⟩ (Array.getElem?_eq_none (Nat.le_of_eq hsz)) fun h1 hk=>⟨rfl, ?_⟩
  exact I.turnedN (t':=s.toks) hf fun b o hb e0=>hk b o (fun z=>hb (by simp[z])) e0
 self:=fun _ _ _ _ _ st h=>by
  obtain⟨ok,ov,hi⟩:=st
  exact PySem.W.kcp_self hi h
noncomputable def zlE (td:TE):TI:=fun σ H R=>td σ H fun x H1=>∃a kvs,x=.ref a/\H1 a=some (.dT kvs)/\∀ob,R (Itx a ob) (upd H1 a (.frz ob (.dT kvs)))
section
variable {X:Cx}
theorem zgD {els:List Expr}{kx}{tp:Pos}{o:Expr}{td:TE}{apos cpos:Pos}(ho:PE X o td)(hbase:attributeBase o "items" X.env (eval o X.env)=eval o X.env:=by rfl)(hline:(apos.endLine==cpos.line)=true:=by rfl):
  PI X (.Tuple els kx tp) (.Call (.Attribute o "items" apos) [] [] cpos) (zlE td):=by
 intro pins s σ H R I h
 refine wpAny_Call_method0_late hbase hline (thn (ho pins s σ H _ I h) fun v s1 zq=> ?_)
 obtain⟨x,H1,I1,r1,a,kvs,ex,hd,q1⟩:=zq
 subst ex
 cases (show v=Value.ref a from r1)
 obtain⟨t1,t2,t3⟩:=zjP I1 (.inr ⟨kvs,.inl hd⟩)
 refine⟨"dict",_,PySem.F.plainAttrs_dict,PySem.F.slot_dict_items,PySem.F.type_dict_items,t1,t2,Calls.callWith_builtin rfl (PySem.evalArgs_none ?_)⟩
 refine call_meetsIn PySem.F.slot_dict_items t1 PySem.F.entry_dict_items (PySem.F.args_dict_items_1 _) (zid t3) ⟨t1, ?_⟩
 obtain⟨z,y,xs,rel,ob,es,ep,e1,c,e2,e3,_⟩:=(show ObjOk X.prog X.w H1 s1.heap a (.dT kvs) from I1.hok a _ hd)
 have I2:Inv X pins σ H1 {s1 with heap:=s1.heap.push {cls:=.type "dict_items",data:=.fields #[.ref a]}}:=I1.kept (t':=s1.toks) fun b o e=>Heap.get?_push_of_some _ e
 have e1':(s1.heap.push {cls:=.type "dict_items",data:=.fields #[.ref a]}).get? a=some ob:=Heap.get?_push_of_some _ e1
 have hz:(s1.heap.push {cls:=.type "dict_items",data:=.fields #[.ref a]}).objs.size=s1.heap.objs.size+1:=Heap.size_push ..
 refine zjd (Heap.get?_push_size _ rfl) ⟨ob,e1',c,e2⟩ ?_
 have I3:=(I2.freeze hd e1').kept (t':=s1.toks) (h':=(s1.heap.push {cls:=.type "dict_items",data:=.fields #[.ref a]}).push {cls:=.type "dict_itemiterator",data:=.fields #[.none,.bool false,.ref a,.int 0 0,.int es.size 0,.int ep 0,.none,.none]}) fun b o e=>Heap.get?_push_of_some _ e
 refine⟨_,[_],_,_,_,rfl,I3,zg9 a _ ob es ep e2,⟨_,_,Heap.get?_push_size _ rfl⟩,fun b hb=> ?_,q1 ob⟩
 rw[List.mem_singleton.mp hb]
 exact (I2.freeze hd e1').fpOk (Nat.le_refl _) ((I2.freeze hd e1').hok.fresh (Nat.le_refl _))
end
theorem zfk {a:Addr}{ob:Obj}{kvs:List (List Key×V)}{g:TG}{tb:TS}{D:Ends}{σ:L2.St}{H:Hp}(Pv:Nat->L2.St->Hp->Prop)(h0:Pv 0 σ H)(hl:∀i σ H,i<=kvs.length->Pv i σ H->H a=some (.frz ob (.dT kvs)))
  (hs:∀i k v t b σ H,kvs[i]? =some (k,v)->Pv i σ H->H t=none->H b=some (.tup (k.map kV))->g (.ref t) σ (upd H t (.tup [.ref b,v])) fun σ2 H2=>tb {D with nx:=Pv (i+1),ct:=Pv (i+1),bk:=D.nx} σ2 H2) (hd:∀σ H,Pv kvs.length σ H->D.nx σ H):
  ∃W:Nat->Nat->L2.St->Hp->Prop,(∃m,W 0 m σ H)/\∀i m σ H,W i m σ H->
   ((Itx a ob).stop i H/\D.nx σ H)∨((Itx a ob).go i H/\∃N:L2.St->Hp->Prop,(∀σ' H',N σ' H'->∃m',m'<m/\W (i+1) m' σ' H')/\∀x H',(Itx a ob).yld i H x H'->g x σ H' fun σ2 H2=>tb {D with nx:=N,ct:=N,bk:=D.nx} σ2 H2):=by
 refine⟨fun i m σ H=>m=kvs.length-i/\i<=kvs.length/\Pv i σ H,⟨kvs.length,by simp,Nat.zero_le _,h0⟩, ?_⟩
 rintro i m σ H ⟨rfl,hi,p⟩
 have q:=hl i σ H hi p
 by_cases hlt:i<kvs.length
 ·refine .inr ⟨⟨kvs,kvs[i],q,by simp[hlt]⟩,Pv (i+1),fun σ' H' p'=>⟨kvs.length-(i+1),by (first|lia|omega),rfl,hlt,p'⟩,fun x H' y=> ?_⟩
  obtain⟨t,b,k,v,y1,rfl,y2,rfl,y3⟩:=y
  exact hs i k v t b σ H (y3 kvs q) p y1 y2
 ·have e:i=kvs.length:=by (first|lia|omega)
  subst e
  exact .inl ⟨⟨kvs,q,rfl⟩,hd σ H p⟩
section
variable {X:Cx}
noncomputable def gIxL:V->V->Hp->VK->Prop:=fun o i H Q=>∃(l:Addr) (xs:List V) (k:Nat) (x:V),o=.ref l/\i=.int k/\H l=some (.lst xs)/\xs[k]? =some x/\Q x H
theorem zjf:PGet X gIxL:=by
 intro pins s σ H o i ov iv Q I ro ri h
 obtain⟨l,xs,k,x,rfl,rfl,hl,hx,q⟩:=h
 cases ro
 obtain⟨t,rfl⟩:=ri
 obtain⟨z,its,n,r,hlen,e⟩:=I.lstM hl
 obtain⟨w,ew,rw'⟩:=r.get hx
 have hk:=(List.getElem?_eq_some_iff.mp ew).1
 have hn:=zd0
 have hL:s.heap.IsList l its.toArray:=⟨_,e,rfl,_,rfl⟩
 exact wpAny_getItem_list hL (by (first|lia|omega)) (by (first|lia|omega)) (by simpa using ew) ⟨x,H,I,rw',q⟩
noncomputable def zkz (tk tv:TE):TE:=fun σ H Q=>∀p,H p=none->tk σ (upd H p (.dT [])) fun y H1=>tv σ H1 fun v H2=>∃b ks,y=.ref b/\H2 b=some (.tup (ks.map kV))/\H2 p=some (.dT [])/\Q (.ref p) (upd H2 p (.dT [(ks,v)]))
theorem zie {k v:Expr}{pos:Pos}{tk tv:TE}(hu:X.A.units+1<cLine)(hk:PE X k tk)(hv:PE X v tv):PE X (.Dict [some k] [v] pos) (zkz tk tv):=by
 intro pins s σ H Q I q
 have hn:=I.hok.fresh (Nat.le_refl s.heap.objs.size)
 have I1:=I.laid (a:=s.heap.objs.size) (o:=.dT []) (h':=s.heap.push {cls:=.type "dict",data:=.dict #[]}) (t':=s.toks) (fun _ _ q=>Heap.get?_push_of_some _ q) (Nat.le_refl _) (zgy s.heap I.big)
 refine wpAny_Dict_any rfl rfl (by simp) (by show 1<=15;decide) (pairTrees_cons_walk (thn (hk pins _ σ _ _ I1 (q _ hn)) fun u s1 ⟨y,H1,I2,ry,q1⟩=>thn (hv pins s1 σ H1 _ I2 q1) fun r s2 ⟨z,H2,I3,rz,b,ks,ey,eb,ep,q2⟩=>pairTrees_nil_walk ?_))
 subst ey
 cases (show u=Value.ref b from ry)
 obtain⟨z0,hd,xs,rel,dd⟩:=zlw I3.hok ep
 cases rel
 unfold storeAll
 rw[List.forIn_cons]
 refine wpAny_bind (wpAny_bind (wpAny_dictSet_heap (hsz:=Nat.zero_le _) (knd:=tupleKind (zaD X.prog X.w)) (show X.A.units<cLine by (first|lia|omega)) (zgw I3.hok eb) dd fun h' dd' hs=>wpAny_pure ?_))
 refine wpAny_pure ⟨.ref s.heap.objs.size,_, ?_,rfl,q2⟩
 obtain⟨qo,es,epp,hq,h2,h3,h4,_,h5⟩:=dd'
 refine zdp I3 (by rw[ep];exact True.intro) hs ⟨qo,hq⟩ ⟨by show 1<=sizeLine;decide,hd,_,KT.keeps (H:=H2) (xs:=[(ks,b,r)]) (.cons ⟨rfl,eb,rz⟩ .nil) fun c ys ec=> ?_,qo,es,epp,hq,h2,h3,by rw[h4];rfl,by simp⟩
 rw[zaq (zjX ec ep (fun z=>nomatch z))]
 exact ec
end
noncomputable def grAt (sh:List Int)(at_:Nat):List Int:=sh.take at_++[sh.getD at_ 0+1]++sh.drop (at_+1)
noncomputable def grOk (sh:List Int)(at_:Nat):Bool:=at_==0||decide (sh.getD (at_-1) 0>sh.getD at_ 0)
noncomputable def grTo (sh:List Int)(i:Nat):List (List Int):=(sh++[1])::((List.range i).filter (grOk sh)).map (grAt sh)
noncomputable def zcw (sh:List Int):List (List Int):=grTo sh sh.length
theorem zfl (sh:List Int)(i:Nat):grTo sh (i+1)=grTo sh i++if grOk sh i then [grAt sh i] else []:=by
 unfold grTo
 rw[List.range_succ,List.filter_append,List.map_append,List.cons_append]
 cases h:grOk sh i<;>simp[h]
theorem zgE (sh:List Int)(i:Nat):(grTo sh i).length<=i+1:=by
 unfold grTo
 rw[List.length_cons,List.length_map]
 have:=List.length_filter_le (grOk sh) (List.range i)
 rw[List.length_range] at this
 (first|lia|omega)
noncomputable abbrev ShD:=List (List Int×Int)
noncomputable def putS (d:ShD)(k:List Int)(v:Int):ShD:=if d.any (fun kv=>kv.1==k) then d.map fun kv=>if kv.1==k then (kv.1,v) else kv else d++[(k,v)]
noncomputable def getS (d:ShD)(k:List Int):Int:=((d.find? fun kv=>kv.1==k).map (·.2)).getD 0
noncomputable def addS (w:Int)(d:ShD)(k:List Int):ShD:=putS d k (getS d k+w)
noncomputable def zlF (d:ShD)(sw:List Int×Int):ShD:=(zcw sw.1).foldl (addS sw.2) d
noncomputable def zkA (d:ShD):ShD:=d.foldl zlF []
noncomputable def zaH:Nat->ShD
 |0=>[([],1)]
 |n+1=>zkA (zaH n)
noncomputable def keyI (ks:List Int):List Key:=ks.map Sum.inl
noncomputable def dV (d:ShD):List (List Key×V):=d.map fun kv=>(keyI kv.1,V.int kv.2)
theorem zet (ks:List Int):(keyI ks).map kV=ks.map V.int:=by
 unfold keyI
 rw[List.map_map]
 rfl
theorem zgF {a b:List Int}(h:keyI a=keyI b):a=b:=by
 have:=congrArg (List.map fun k:Key=>match k with| .inl i=>i| .inr _=>0) h
 simpa [keyI,List.map_map,Function.comp_def] using this
theorem zgG (a b:List Int):decide (keyI a=keyI b)=(a==b):=by
 by_cases h:a=b
 ·subst h;simp
 ·rw [decide_eq_false (fun e=>h (zgF e))]
  exact (beq_eq_false_iff_ne.mpr h).symm
theorem zlG (d:ShD)(k:List Int):(valV (dV d) (keyI k)).getD (.int 0)=.int (getS d k):=by
 unfold valV dV getS
 rw[List.find?_map,Option.map_map]
 have e:((fun kv:List Key×V=>decide (kv.1=keyI k))∘fun kv:List Int×Int=>(keyI kv.1,V.int kv.2))=fun kv=>kv.1==k:=funext fun kv=>zgG kv.1 k
 rw[e]
 cases d.find? fun kv=>kv.1==k<;>rfl
theorem zlH (d:ShD)(k:List Int)(v:Int):putK (dV d) (keyI k) (.int v)=dV (putS d k v):=by
 unfold putK putS dV
 rw[List.any_map]
 have e:((fun kv:List Key×V=>decide (kv.1=keyI k))∘fun kv:List Int×Int=>(keyI kv.1,V.int kv.2))=fun kv=>kv.1==k:=funext fun kv=>zgG kv.1 k
 rw[e]
 cases h:d.any fun kv=>kv.1==k
 ·simp
 ·simp only[if_true,List.map_map]
  refine List.map_congr_left fun kv _=> ?_
  show (if keyI kv.1=keyI k then _ else _)=_
  by_cases c:kv.1=k
  ·rw [if_pos (by rw[c])]
   simp[c]
  ·rw [if_neg (fun e=>c (zgF e))]
   simp[c]
theorem zjg (d:ShD)(k:List Int)(v:Int):(putS d k v).length<=d.length+1:=by
 unfold putS
 split<;>simp
noncomputable def okD (n:Nat)(d:ShD):Bool:=decide (d.length<=200)&&d.all fun kv=>decide (kv.1.length<=20)&&decide (0<=kv.2)&&decide (kv.2<1000000000)&&decide (0<=kv.1.getD 0 0)&&decide (kv.1.getD 0 0<=(n:Int))
noncomputable def zif:Nat->Nat->ShD->Bool
 |0,n,d=>okD n d
 |k+1,n,d=>okD n d&&zif k (n+1) (zkA d)
theorem zkB:zif 14 0 [([],1)]=true:=by decide+kernel
theorem zgH:∀(k n m:Nat),zif k n (zaH n)=true->m<=k->okD (n+m) (zaH (n+m))=true
 |0,n,m,h,hm=>by
  cases Nat.le_zero.mp hm
  exact h
 |k+1,n,0,h,_=>by
  unfold zif at h
  rw[Bool.and_eq_true] at h
  exact h.1
 |k+1,n,m+1,h,hm=>by
  unfold zif at h
  rw[Bool.and_eq_true] at h
  have:=zgH k (n+1) m h.2 (by (first|lia|omega))
  rw[show n+1+m=n+(m+1) by (first|lia|omega)] at this
  exact this
theorem zgI {n:Nat}(h:n<=14):okD n (zaH n)=true:=by
 have:=zgH 14 0 n zkB h
 rw[Nat.zero_add] at this
 exact this
theorem zig {n:Nat}(h:n<=14):(zaH n).length<=200/\∀kv∈zaH n,kv.1.length<=20/\0<=kv.2/\kv.2<1000000000:=by
 have:=zgI h
 unfold okD at this
 rw[Bool.and_eq_true] at this
 refine⟨of_decide_eq_true this.1,fun kv hk=> ?_⟩
 have q:=List.all_eq_true.mp this.2 kv hk
 simp only[Bool.and_eq_true,decide_eq_true_eq] at q
 exact⟨q.1.1.1.1,q.1.1.1.2,q.1.1.2⟩
theorem zjh {H:Hp}{a:Addr}{kvs:List (List Key×V)}{o:HO}(h:H a=some (.dT kvs)):SameT H (upd H a o):=fun b zs e=>by
 rw[zaq (fun z=>by rw[z,h] at e;cases e)]
 exact e
theorem zkC (ns:List Int)(k:Nat)(h:k<=ns.length):cutV (ns.map V.int) none (some (k:Int))=(ns.take k).map V.int:=by
 unfold cutV
 rw[HT.sIx_none,HT.sIx_nat,List.drop_zero,Nat.sub_zero,zas,Nat.min_eq_left h,List.map_take]
theorem zji (sh:List Int)(i:Nat)(x:Int)(h:sh.getD i 0=x):((sh.take i).map V.int++[V.int (x+1)])++(sh.drop (i+1)).map V.int=(grAt sh i).map V.int:=by
 unfold grAt
 rw[h,List.map_append,List.map_append]
 rfl
noncomputable def zfN:Sp:=fun vs H Q _=>∃(a:Addr) (sh:List Int),vs=[.ref a]/\H a=some (.tup (sh.map V.int))/\sh.length<=20/\∀(l:Addr) (zs:List Addr) (H':Hp),Same H H'->H' l=some (.lst (zs.map V.ref))->RowsAt H' zs (zcw sh)->Q (.ref l) H'
noncomputable def zih:Sp:=fun vs H Q _=>∃n:Nat,vs=[.int n]/\n<=14/\∀(d:Addr) (H':Hp),Same H H'->H d=none->H' d=some (.dT (dV (zaH n)))->Q (.ref d) H'
noncomputable def zdM (ns:List Int)(kv:List Int×Int):List Int:=ns.set (kv.1.getD 0 0).toNat (ns.getD (kv.1.getD 0 0).toNat 0+kv.2*kv.2)
noncomputable def lngZ (n:Nat):List Int:=(zaH n).foldl zdM (List.replicate (n+1) 0)
theorem zlI {n:Nat}(h:n<=14):∀kv∈zaH n,0<=kv.1.getD 0 0/\kv.1.getD 0 0<=(n:Int):=fun kv hk=>by
 have:=zgI h
 unfold okD at this
 rw[Bool.and_eq_true] at this
 have q:=List.all_eq_true.mp this.2 kv hk
 simp only[Bool.and_eq_true,decide_eq_true_eq] at q
 exact⟨q.1.2,q.2⟩
theorem zii (ns:List Int)(kv:List Int×Int):(zdM ns kv).length=ns.length:=by unfold zdM;rw[List.length_set]
theorem zij:∀(l:ShD) (ns:List Int),(l.foldl zdM ns).length=ns.length
 |[],_=>rfl
 |kv::t,ns=>by rw[List.foldl_cons,zij t,zii]
noncomputable def zik:Sp:=fun vs H Q _=>∃n:Nat,vs=[.int n]/\n<=14/\∀(p:Addr) (H':Hp),Same H H'->H' p=some (.tup ((lngZ n).map V.int))->Q (.ref p) H'
noncomputable def runR (kind:Str):Nat->Nat->List Int->Bool
 |0,n,r=>decide (r.sum=fcZ n)
 |k+1,n,r=>decide (r.sum=fcZ n)&&runR kind k (n+1) (zfG kind (n+1) r)
theorem zd7:runR "rounds" 60 0 [1]=true:=by decide+kernel
theorem zil:runR "stays" 60 0 [1]=true:=by decide+kernel
theorem zim:runR "rises" 60 0 [1]=true:=by decide+kernel
theorem zfO:runR "crossed" 24 0 [1]=true:=by decide+kernel
theorem zcF (kind:Str):∀(k n m:Nat),runR kind k n (rowZ kind n)=true->m<=k->(rowZ kind (n+m)).sum=fcZ (n+m)
 |0,n,m,h,hm=>by
  cases Nat.le_zero.mp hm
  exact of_decide_eq_true h
 |k+1,n,0,h,_=>by
  unfold runR at h
  rw[Bool.and_eq_true] at h
  exact of_decide_eq_true h.1
 |k+1,n,m+1,h,hm=>by
  unfold runR at h
  rw[Bool.and_eq_true] at h
  have:=zcF kind k (n+1) m h.2 (by (first|lia|omega))
  rw[show n+1+m=n+(m+1) by (first|lia|omega)] at this
  exact this
theorem zcR:∀n,rowZ "highs" n=rowZ "rounds" n
 |0=>rfl
 |n+1=>by
  show zfG "highs" (n+1) (rowZ "highs" n)=zfG "rounds" (n+1) (rowZ "rounds" n)
  rw[zcR n]
  rfl
theorem sum5 {kind:Str}(hk:kind∈zbR){m:Nat}(hm:m<=bOf kind):(rowZ kind m).sum=fcZ m:=by
 rcases zbZ hk with rfl|rfl|rfl|rfl|rfl
 ·have:=zcF "rounds" 60 0 m zd7 hm
  rwa [Nat.zero_add] at this
 ·have:=zcF "stays" 60 0 m zil hm
  rwa [Nat.zero_add] at this
 ·have:=zcF "rises" 60 0 m zim hm
  rwa [Nat.zero_add] at this
 ·have:=zcF "rounds" 60 0 m zd7 hm
  rw[Nat.zero_add] at this
  rw[zcR]
  exact this
 ·have:=zcF "crossed" 24 0 m zfO hm
  rwa [Nat.zero_add] at this
noncomputable def lngF (n:Nat)(d:ShD):List Int:=d.foldl zdM (List.replicate (n+1) 0)
noncomputable def runL:Nat->Nat->ShD->Bool
 |0,n,d=>decide ((lngF n d).sum=fcZ n)
 |k+1,n,d=>decide ((lngF n d).sum=fcZ n)&&runL k (n+1) (zkA d)
theorem zjj:runL 14 0 [([],1)]=true:=by decide+kernel
theorem zin:∀(k n m:Nat),runL k n (zaH n)=true->m<=k->(lngZ (n+m)).sum=fcZ (n+m)
 |0,n,m,h,hm=>by
  cases Nat.le_zero.mp hm
  exact of_decide_eq_true h
 |k+1,n,0,h,_=>by
  unfold runL at h
  rw[Bool.and_eq_true] at h
  exact of_decide_eq_true h.1
 |k+1,n,m+1,h,hm=>by
  unfold runL at h
  rw[Bool.and_eq_true] at h
  have:=zin k (n+1) m h.2 (by (first|lia|omega))
  rw[show n+1+m=n+(m+1) by (first|lia|omega)] at this
  exact this
theorem sumL {m:Nat}(hm:m<=14):(lngZ m).sum=fcZ m:=by
 have:=zin 14 0 m zjj hm
 rwa [Nat.zero_add] at this
noncomputable def zd8:List Str:=["rounds", "stays", "rises", "highs", "crossed", "longest"]
noncomputable def row6 (kind:Str)(m:Nat):List Int:=if kind= "longest" then lngZ m else rowZ kind m
noncomputable def b6 (kind:Str):Nat:=if kind= "longest" then 14 else bOf kind
theorem zcS {kind:Str}(h:kind∈zd8):kind∈zbR/\kind≠ "longest" ∨kind= "longest" :=by
 unfold zd8 at h
 have:kind= "rounds" ∨kind= "stays" ∨kind= "rises" ∨kind= "highs" ∨kind= "crossed" ∨kind= "longest" :=by simpa using h
 rcases this with rfl|rfl|rfl|rfl|rfl|rfl
 ·exact .inl ⟨by decide,by decide⟩
 ·exact .inl ⟨by decide,by decide⟩
 ·exact .inl ⟨by decide,by decide⟩
 ·exact .inl ⟨by decide,by decide⟩
 ·exact .inl ⟨by decide,by decide⟩
 ·exact .inr rfl
theorem sum6 {kind:Str}(hk:kind∈zd8){m:Nat}(hm:m<=b6 kind):(row6 kind m).sum=fcZ m:=by
 unfold row6
 unfold b6 at hm
 rcases zcS hk with⟨h5,hn⟩|rfl
 ·rw [if_neg hn]
  rw[if_neg hn] at hm
  exact sum5 h5 hm
 ·rw [if_pos rfl]
  rw[if_pos rfl] at hm
  exact sumL hm
theorem zmn {kind:Str}:b6 kind<=60:=by
 unfold b6
 split
 ·decide
 ·exact zjM kind
noncomputable def zfP (K:PySem.W.Frag):Sp:=fun vs H Q _=>∃(kind:Str) (m:Nat),vs=[.str kind,.int m]/\kind∈zd8/\m<=b6 kind/\∀p H',Same H H'->SqT K H' p ((row6 kind m).map V.int)->Q (.ref p) H'
noncomputable def inRg (N:Nat)(k:Int):Bool:=decide (0<=k)&&decide (k<(N:Int))
noncomputable def hav (row cs:List Int):Int:=((cs.filter (inRg row.length)).map fun k=>row.getD k.toNat 0).sum
noncomputable def zeu (K:PySem.W.Frag):Sp:=fun vs H Q _=>∃(kind:Str) (m:Nat) (c:Addr) (cs:List Int),vs=[.str kind,.int m,.ref c]/\kind∈zd8/\m<=b6 kind/\H c=some (.tup (cs.map V.int))/\cs.length<=1000/\∀z H',Same H H'->Shr H' z (lowZ (hav (row6 kind m) cs) (row6 kind m).sum)->Q (.ref z) H'
theorem zjk {kind:Str}(hk:kind∈zd8){m:Nat}(hm:m<=b6 kind):0<(row6 kind m).sum/\Sm (row6 kind m).sum 8000:=by
 rw[sum6 hk hm]
 exact⟨zaK m,(zbg (Nat.le_trans hm (Nat.le_trans zmn (by decide)))).mono (by decide)⟩
end L2
namespace K63
open PySem PySem.Spec PyProof.Rows L2
noncomputable def top (i:Nat):Stmt:=PySem.Challenge.pw_shuffletold_k63_whole_no_share_above_its.main.body.getD i (.Pass ⟨0,0,0,0⟩)
noncomputable abbrev zcx:Stmt:=top 4
noncomputable abbrev zaU:Stmt:=top 13
noncomputable abbrev zcG:Stmt:=top 6
noncomputable abbrev zio:Stmt:=top 8
noncomputable abbrev zev:Stmt:=top 9
noncomputable abbrev zew:Stmt:=top 10
noncomputable abbrev zds:Stmt:=top 11
noncomputable abbrev zex:Stmt:=top 12
section
variable {P:Program}{w:World}{K:PySem.W.Frag}{mg:Str->Option Value}{base:Heap}
theorem sc_product:FnScope ["first", "last", "found", "number"] ["first", "last"] (zag zcx):=⟨rfl,rfl,rfl,by decide+kernel,rfl,by decide+kernel,by decide+kernel⟩
theorem zfQ {f:Addr}{fd:FuncData}(F:Fun K "product" "product" zcx f fd)(T:Top mg):FnOk P w K mg base CX0 1 f fd ["first", "last"] spPr:=by
 refine F.ok sc_product (fun vs H Q E h=> ?_) (fun cdv A outer s H vs Q E hr h=> ?_)
 ·obtain ⟨n,rfl,_⟩:=h
  rfl
 ·obtain ⟨n,rfl,hn,k⟩:=h
  refine⟨_,(zaf (zap (i:=2) sc_product.nd rfl (Or.inl rfl) zab)
   (zaf (zaR PassesOwn.never rfl (zdc rfl T.n_range (zaa (pv 0) (zaa (zaj zax (pv 1) zab) zac))) (zat (i:=3) sc_product.nd rfl (Or.inl rfl))
    (zah (zap (i:=2) sc_product.nd rfl (Or.inl rfl) (zaj zaM (pv 2) (pv 3)))))
   (zah (zal (pv 2))))), ?_⟩
  refine⟨_,rfl,_,rfl,_,_,rfl,rfl,_,_,rfl,⟨by decide,by decide,by (first|lia|omega),by (first|lia|omega)⟩, ?_⟩
  rw[show ((n:Int)+1-1).toNat=n by (first|lia|omega)]
  refine zaI (fun i σ G=>G=H/\∃c:Option V,σ=[some (.int 1),some (.int n),some (.int (fcZ i)),c]) ⟨rfl,none,rfl⟩ ?_ ?_
  ·rintro i σ G hi ⟨rfl,c,rfl⟩
   refine⟨_,rfl,_,rfl,_,_,rfl,rfl,.inr ⟨by (first|lia|omega),by (first|lia|omega)⟩,rfl,some (.int (1+(i:Int))), ?_⟩
   rw[show fcZ (i+1)=fcZ i*(1+(i:Int)) from by rw[Int.add_comm];rfl]
   rfl
  ·rintro σ G ⟨rfl,c,rfl⟩
   exact⟨_,rfl,k⟩
theorem sc_greatest_divisor:FnScope ["over", "under", "one", "other"] ["over", "under"] (zag zaU):=⟨rfl,rfl,rfl,by decide+kernel,rfl,by decide+kernel,by decide+kernel⟩
theorem zcf {f:Addr}{fd:FuncData}(F:Fun K "greatest_divisor" "greatest_divisor" zaU f fd):FnOk P w K mg base CX0 1 f fd ["over", "under"] zkh:=by
 refine F.ok sc_greatest_divisor (fun vs H Q E h=> ?_) (fun cdv A outer s H vs Q E hr h=> ?_)
 ·obtain ⟨a,b,rfl,_⟩:=h
  rfl
 ·obtain ⟨a,b,rfl,hb,k⟩:=h
  refine⟨_,(zaf (zeN (i:=2) (j:=3) rfl sc_greatest_divisor.nd rfl rfl (by decide) rfl rfl (zaa (pv 0) (zaa (pv 1) zac)) rfl)
   (zaf (zeb PassesOwn.never (zar zhs (pv 3) zab (zau _))
    (zah (zeN (i:=2) (j:=3) rfl sc_greatest_divisor.nd rfl rfl (by decide) rfl rfl (zaa (pv 3) (zaa (zaj zcl (pv 2) (pv 3)) zac)) rfl)))
   (zah (zal (pv 2))))), ?_⟩
  refine⟨_,rfl,_,rfl,_,_,rfl, ?_⟩
  refine⟨fun m σ G=>∃x y:Int,m=y.toNat/\σ=[some (.int a),some (.int b),some (.int x),some (.int y)]/\G=H/\0<=y/\(y=0->0<x)/\gcdZ x y=gcdZ a b,⟨_,a,b,rfl,rfl,rfl,by (first|lia|omega),by (first|lia|omega),rfl⟩, ?_⟩
  rintro m σ G ⟨x,y,rfl,rfl,rfl,y0,x0,e⟩
  refine⟨_,rfl,rfl,_,rfl, ?_⟩
  by_cases hy:y=0
  ·subst hy
   refine iteF ⟨_,rfl, ?_⟩
   rw[ze6 (Int.le_of_lt (x0 rfl))] at e
   rw[e]
   exact k
  ·rw [show (!decide (V.int y=V.int 0))=true from by rw[decide_eq_false (fun z=>hy (V.int.inj z))];rfl]
   refine iteT ⟨fun σ' G'=>∃x' y':Int,y'<y/\σ'=[some (.int a),some (.int b),some (.int x'),some (.int y')]/\G'=G/\0<=y'/\(y'=0->0<x')/\gcdZ x' y'=gcdZ a b, ?_, ?_⟩
   ·rintro σ' G' ⟨x',y',h1,h2,h3,h4,h5⟩
    exact⟨_,by (first|lia|omega),x',y',rfl,h2,h3,h4,h5⟩
   ·refine ⟨_,rfl,_,rfl,_,rfl,_,_,rfl,rfl,by (first|lia|omega),_,_,rfl, ?_⟩
    exact⟨_,_,Int.emod_lt_of_pos _ (by (first|lia|omega)),rfl,rfl,Int.emod_nonneg _ hy,fun _=>by (first|lia|omega),by rw[ze5 (by (first|lia|omega))];exact e⟩
theorem sc_share_of:FnScope ["over", "under", "both"] ["over", "under"] (zag zcG):=⟨rfl,rfl,rfl,by decide+kernel,rfl,by decide+kernel,by decide+kernel⟩
theorem zfR {f:Addr}{fd:FuncData}(F:Fun K "share_of" "share_of" zcG f fd)(Cgreatest_divisor:Cal P w K mg base 1 "greatest_divisor" ["over", "under"] zkh):FnOk P w K mg base CX0 2 f fd ["over", "under"] zbS:=by
 refine F.ok sc_share_of (fun vs H Q E h=> ?_) (fun cdv A outer s H vs Q E hr h=> ?_)
 ·obtain ⟨a,b,rfl,_⟩:=h
  rfl
 ·obtain ⟨a,b,rfl,hb,sb,k⟩:=h
  refine⟨_,(zaf (zap (i:=2) sc_share_of.nd rfl (Or.inl rfl) (zak Cgreatest_divisor (hr.mono (by decide)) rfl (zaa (pv 0) (zaa (pv 1) zac))))
   (zah (zal (zaz (zaa (zaj zcs (pv 0) (pv 2)) (zaa (zaj zcs (pv 1) (pv 2)) zac)))))), ?_⟩
  have g0:=zaT (a:=a) hb
  have gs:Sm (gcdZ a b) 8000:=sb.le (by have:=zhW (a:=a) hb;(first|lia|omega))
  refine⟨_,rfl,_,rfl,a,b,rfl,hb, ?_⟩
  refine⟨_,rfl,_,rfl,_,_,rfl,rfl,⟨g0,gs⟩,_,rfl,_,rfl,_,_,rfl,rfl,⟨g0,gs⟩,by show 2<=sizeLine;decide,fun z hz=> ?_⟩
  exact k z _ (zae hz) zad
theorem zkD:FnScope ["one", "other"] ["one", "other"] (zag zio):=⟨rfl,rfl,rfl,by decide+kernel,rfl,by decide+kernel,by decide+kernel⟩
theorem zkE {f:Addr}{fd:FuncData}(F:Fun K "less" "less" zio f fd)(Cshare_of:Cal P w K mg base 2 "share_of" ["over", "under"] zbS):FnOk P w K mg base CX0 3 f fd ["one", "other"] (spSh leZ):=by
 refine F.ok zkD (fun vs H Q E h=> ?_) (fun cdv A outer s H vs Q E hr h=> ?_)
 ·obtain ⟨x,y,p,q,rfl,_⟩:=h
  rfl
 ·obtain ⟨x,y,p,q,rfl,hx,hy,bp,bq,k⟩:=h
  refine⟨_,(zah (zal (zak Cshare_of (hr.mono (by decide)) rfl (zaa (zaj zaP (zaj zaA (zan zam (pv 0) zab (fun _ _=>rfl)) (zan zam (pv 1) zab (fun _ _=>rfl))) (zaj zaA (zan zam (pv 1) zab (fun _ _=>rfl)) (zan zam (pv 0) zab (fun _ _=>rfl)))) (zaa (zaj zaA (zan zam (pv 0) zab (fun _ _=>rfl)) (zan zam (pv 1) zab (fun _ _=>rfl))) zac))))), ?_⟩
  refine⟨_,rfl,x,_,0,_,rfl,rfl,SqT.of hx,zai (j:=0) rfl,_,rfl,y,_,1,_,rfl,rfl,SqT.of hy,zai (j:=1) rfl,_,_,rfl,rfl,⟨bp.s1.mono (by decide),bq.s2.mono (by decide)⟩,_,rfl,y,_,0,_,rfl,rfl,SqT.of hy,zai (j:=0) rfl,_,rfl,x,_,1,_,rfl,rfl,SqT.of hx,zai (j:=1) rfl,_,_,rfl,rfl,⟨bq.s1.mono (by decide),bp.s2.mono (by decide)⟩,_,_,rfl,rfl,_,rfl,x,_,1,_,rfl,rfl,SqT.of hx,zai (j:=1) rfl,_,rfl,y,_,1,_,rfl,rfl,SqT.of hy,zai (j:=1) rfl,_,_,rfl,rfl,⟨bp.s2.mono (by decide),bq.s2.mono (by decide)⟩,_,_,rfl,Int.mul_pos bp.pos bq.pos,(bp.s2.mul bq.s2).mono (by decide),fun z H2 s2 hz=>k z H2 s2 hz⟩
theorem zgJ:FnScope ["one", "other"] ["one", "other"] (zag zev):=⟨rfl,rfl,rfl,by decide+kernel,rfl,by decide+kernel,by decide+kernel⟩
theorem zjl {f:Addr}{fd:FuncData}(F:Fun K "times" "times" zev f fd)(Cshare_of:Cal P w K mg base 2 "share_of" ["over", "under"] zbS):FnOk P w K mg base CX0 3 f fd ["one", "other"] (spSh tmZ):=by
 refine F.ok zgJ (fun vs H Q E h=> ?_) (fun cdv A outer s H vs Q E hr h=> ?_)
 ·obtain ⟨x,y,p,q,rfl,_⟩:=h
  rfl
 ·obtain ⟨x,y,p,q,rfl,hx,hy,bp,bq,k⟩:=h
  refine⟨_,(zah (zal (zak Cshare_of (hr.mono (by decide)) rfl (zaa (zaj zaA (zan zam (pv 0) zab (fun _ _=>rfl)) (zan zam (pv 1) zab (fun _ _=>rfl))) (zaa (zaj zaA (zan zam (pv 0) zab (fun _ _=>rfl)) (zan zam (pv 1) zab (fun _ _=>rfl))) zac))))), ?_⟩
  refine⟨_,rfl,x,_,0,_,rfl,rfl,SqT.of hx,zai (j:=0) rfl,_,rfl,y,_,0,_,rfl,rfl,SqT.of hy,zai (j:=0) rfl,_,_,rfl,rfl,⟨bp.s1.mono (by decide),bq.s1.mono (by decide)⟩,_,rfl,x,_,1,_,rfl,rfl,SqT.of hx,zai (j:=1) rfl,_,rfl,y,_,1,_,rfl,rfl,SqT.of hy,zai (j:=1) rfl,_,_,rfl,rfl,⟨bp.s2.mono (by decide),bq.s2.mono (by decide)⟩,_,_,rfl,Int.mul_pos bp.pos bq.pos,(bp.s2.mul bq.s2).mono (by decide),fun z H2 s2 hz=>k z H2 s2 hz⟩
theorem ziq {f:Addr}{fd:FuncData}(F:Fun K "times" "times" zev f fd)(Cshare_of:Cal P w K mg base 2 "share_of" ["over", "under"] zbS):FnOk P w K mg base CX0 3 f fd ["one", "other"] zkv:=by
 refine F.ok zgJ (fun vs H Q E h=> ?_) (fun cdv A outer s H vs Q E hr h=> ?_)
 ·obtain ⟨x,y,p,q,rfl,_⟩:=h
  rfl
 ·obtain ⟨x,y,p,q,rfl,hx,hy,bp,bq,b2,k⟩:=h
  refine⟨_,(zah (zal (zak Cshare_of (hr.mono (by decide)) rfl (zaa (zaj zaA (zan zam (pv 0) zab (fun _ _=>rfl)) (zan zam (pv 1) zab (fun _ _=>rfl))) (zaa (zaj zaA (zan zam (pv 0) zab (fun _ _=>rfl)) (zan zam (pv 1) zab (fun _ _=>rfl))) zac))))), ?_⟩
  refine⟨_,rfl,x,_,0,_,rfl,rfl,SqT.of hx,zai (j:=0) rfl,_,rfl,y,_,0,_,rfl,rfl,SqT.of hy,zai (j:=0) rfl,_,_,rfl,rfl,⟨bp.s1.mono (by decide),bq.s1.mono (by decide)⟩,_,rfl,x,_,1,_,rfl,rfl,SqT.of hx,zai (j:=1) rfl,_,rfl,y,_,1,_,rfl,rfl,SqT.of hy,zai (j:=1) rfl,_,_,rfl,rfl,⟨bp.s2.mono (by decide),bq.s2.mono (by decide)⟩,_,_,rfl,Int.mul_pos bp.pos bq.pos,b2,fun z H2 s2 hz=>k z H2 s2 hz⟩
theorem zir:FnScope ["one", "other"] ["one", "other"] (zag zew):=⟨rfl,rfl,rfl,by decide+kernel,rfl,by decide+kernel,by decide+kernel⟩
theorem zis {f:Addr}{fd:FuncData}(F:Fun K "parted" "parted" zew f fd)(Cshare_of:Cal P w K mg base 2 "share_of" ["over", "under"] zbS):FnOk P w K mg base CX0 3 f fd ["one", "other"] spPt:=by
 refine F.ok zir (fun vs H Q E h=> ?_) (fun cdv A outer s H vs Q E hr h=> ?_)
 ·obtain ⟨x,y,p,q,rfl,_⟩:=h
  rfl
 ·obtain ⟨x,y,p,q,rfl,hx,hy,bp,bq,q0,k⟩:=h
  refine⟨_,(zah (zal (zak Cshare_of (hr.mono (by decide)) rfl (zaa (zaj zaA (zan zam (pv 0) zab (fun _ _=>rfl)) (zan zam (pv 1) zab (fun _ _=>rfl))) (zaa (zaj zaA (zan zam (pv 0) zab (fun _ _=>rfl)) (zan zam (pv 1) zab (fun _ _=>rfl))) zac))))), ?_⟩
  refine⟨_,rfl,x,_,0,_,rfl,rfl,SqT.of hx,zai (j:=0) rfl,_,rfl,y,_,1,_,rfl,rfl,SqT.of hy,zai (j:=1) rfl,_,_,rfl,rfl,⟨bp.s1.mono (by decide),bq.s2.mono (by decide)⟩,_,rfl,x,_,1,_,rfl,rfl,SqT.of hx,zai (j:=1) rfl,_,rfl,y,_,0,_,rfl,rfl,SqT.of hy,zai (j:=0) rfl,_,_,rfl,rfl,⟨bp.s2.mono (by decide),bq.s1.mono (by decide)⟩,_,_,rfl,Int.mul_pos bp.pos q0,(bp.s2.mul bq.s1).mono (by decide),fun z H2 s2 hz=>k z H2 s2 hz⟩
theorem zha:FnScope ["one", "other"] ["one", "other"] (zag zds):=⟨rfl,rfl,rfl,by decide+kernel,rfl,by decide+kernel,by decide+kernel⟩
theorem zhb {f:Addr}{fd:FuncData}(F:Fun K "is_less" "is_less" zds f fd):FnOk P w K mg base CX0 1 f fd ["one", "other"] zem:=by
 refine F.ok zha (fun vs H Q E h=> ?_) (fun cdv A outer s H vs Q E hr h=> ?_)
 ·obtain ⟨x,y,p,q,rfl,_⟩:=h
  rfl
 ·obtain ⟨x,y,p,q,rfl,hx,hy,bp,bq,k⟩:=h
  refine⟨_,(zah (zal (zbG zed (zaj zaA (zan zam (pv 0) zab (fun _ _=>rfl)) (zan zam (pv 1) zab (fun _ _=>rfl))) (zaj zaA (zan zam (pv 1) zab (fun _ _=>rfl)) (zan zam (pv 0) zab (fun _ _=>rfl))) (zau _)))), ?_⟩
  refine⟨_,rfl,x,_,0,_,rfl,rfl,SqT.of hx,zai (j:=0) rfl,_,rfl,y,_,1,_,rfl,rfl,SqT.of hy,zai (j:=1) rfl,_,_,rfl,rfl,⟨bp.s1.mono (by decide),bq.s2.mono (by decide)⟩,_,rfl,y,_,0,_,rfl,rfl,SqT.of hy,zai (j:=0) rfl,_,rfl,x,_,1,_,rfl,rfl,SqT.of hx,zai (j:=1) rfl,_,_,rfl,rfl,⟨bq.s1.mono (by decide),bp.s2.mono (by decide)⟩,_,_,rfl,rfl, ?_⟩
  exact k H (Same.refl H)
theorem zit:FnScope ["one", "other"] ["one", "other"] (zag zex):=⟨rfl,rfl,rfl,by decide+kernel,rfl,by decide+kernel,by decide+kernel⟩
theorem ziu {f:Addr}{fd:FuncData}(F:Fun K "lesser" "lesser" zex f fd)(Cis_less:Cal P w K mg base 1 "is_less" ["one", "other"] zem):FnOk P w K mg base CX0 2 f fd ["one", "other"] (zkk minZ):=by
 refine F.ok zit (fun vs H Q E h=> ?_) (fun cdv A outer s H vs Q E hr h=> ?_)
 ·obtain ⟨x,y,p,q,rfl,_⟩:=h
  rfl
 ·obtain ⟨x,y,p,q,rfl,hx,hy,bp,bq,k⟩:=h
  refine⟨_,(zah (zal (zbE (zbA (zak Cis_less (hr.mono (by decide)) rfl (zaa (pv 1) (zaa (pv 0) zac)))) (pv 1) (pv 0)))), ?_⟩
  refine⟨_,rfl,_,rfl,y,x,q,p,rfl,hy,hx,bq,bp,fun H2 s2=>⟨_,rfl, ?_⟩⟩
  have e:minZ p q=if ltZ q p then q else p:=rfl
  refine ite2 (fun h=> ?_) (fun h=> ?_)
  ·refine ⟨_,rfl,k y H2 s2 ?_⟩
   rw[e,if_pos h]
   exact s2 _ _ hy
  ·refine ⟨_,rfl,k x H2 s2 ?_⟩
   rw[e,if_neg h]
   exact s2 _ _ hx
end
noncomputable abbrev zcH:Stmt:=top 82
noncomputable abbrev zcg:Stmt:=top 83
noncomputable abbrev zdt:Stmt:=top 84
section
variable {P:Program}{w:World}{K:PySem.W.Frag}{mg:Str->Option Value}{base:Heap}
theorem sc__law_pot:FnScope ["_law_script", "_law_k", "_law_cell", "_law_number", "_law_mixed"] ["_law_script", "_law_k"] (zag zcH):=⟨rfl,rfl,rfl,by decide+kernel,rfl,by decide+kernel,by decide+kernel⟩
theorem zfS {f:Addr}{fd:FuncData}(F:Fun K "_law_pot" "_law_pot" zcH f fd)(T:Top mg):FnOk P w K mg base CX0 1 f fd ["_law_script", "_law_k"] (zgn K):=by
 refine F.ok sc__law_pot (fun vs H Q E h=> ?_) (fun cdv A outer s H vs Q E hr h=> ?_)
 ·obtain ⟨a,ns,k,rfl,_⟩:=h
  rfl
 ·obtain ⟨a,ns,j,rfl,hS,j0,j1,k⟩:=h
  refine⟨_,(zaf (zap (i:=2) sc__law_pot.nd rfl (Or.inl rfl) zab)
   (zaf (zaY (zar zed (pv 1) (zao zaw (by rfl) T.n_len PySem.boot_len (zaa (pv 0) zac)) (zau _))
    (zah (zap (i:=2) sc__law_pot.nd rfl (Or.inl rfl) (zan zbq (pv 0) (pv 1) (fun _ _=>rfl))))
    zay)
   (zaf (zap (i:=3) sc__law_pot.nd rfl (Or.inl rfl) (zaj zax (zaj zaM zab (zaj zcl (zao zgf (by rfl) T.n_abs boot_abs (zaa (pv 2) zac)) (zaj zhT (zaj zjD zab zab) zab))) (zaN zeP (by rfl) T.n_int boot_int (zaa (zbG zed (pv 2) zab (zau _)) zac))))
   (zaf (zap (i:=4) sc__law_pot.nd rfl (Or.inl rfl) (zaj zcl (zaj zhT (zaj zax (zaj zax (pv 3) (zaj zaM zab (pv 1))) zab) zab) zab))
   (zah (zal (zbC (zaa (zaj zaM (pv 3) (zaN zeP (by rfl) T.n_int boot_int (zaa (zbG zk4 (pv 3) (zaj zaM zab (zaj zjD zab zab)) (zau _)) zac))) (zaa (pv 4) zac))))))))), ?_⟩
  have e64:∀b:Bool,(-(2^64):Int)<(if b then 1 else 0)/\(if b then 1 else 0:Int)<2^64:=fun b=>by cases b<;>decide
  have e01:∀b:Bool,(0:Int)<=(if b then 1 else 0)/\(if b then 1 else 0:Int)<=1:=fun b=>by cases b<;>decide
  refine⟨_,rfl,_,rfl,a,_,rfl,.inl hS,_,_,rfl,rfl,_,rfl, ?_⟩
  refine ite2 (fun h=> ?a) (fun h=> ?b)
  case' a=>
   have hj:=of_decide_eq_true h
   rw[zas] at hj
   refine⟨_,rfl,_,rfl,a,_,j,.int (ns.getD j.toNat 0),rfl,rfl,hS, ?hat, ?_⟩
   case hat=>
    have:=zai (xs:=ns.map V.int) (j:=j.toNat) (v:=.int (ns.getD j.toNat 0)) (by rw[List.getElem?_map,List.getD_eq_getElem?_getD,List.getElem?_eq_getElem (by (first|lia|omega))];rfl)
    rwa [show ((j.toNat:Nat):Int)=j by (first|lia|omega)] at this
  all_goals
   refine⟨_,rfl,_,rfl,_,_,rfl,rfl,⟨by decide,by decide,by decide⟩,_,_,rfl,rfl,⟨by decide,ziU⟩,_,_,rfl,rfl,zc7,_,_,rfl,rfl,.inl ⟨by decide,by decide⟩,_,rfl,_,_,rfl,rfl,.inr ⟨_,rfl,_,_,rfl,rfl, ?_⟩⟩
   refine⟨_,rfl,_,rfl,_,_,rfl,rfl,.inl ⟨by decide,by decide⟩,_,_,rfl,rfl,_,_,rfl,rfl,_,_,rfl,rfl,⟨by decide,zhV zhU (Int.emod_nonneg _ (Int.ne_of_gt zc7)) (Int.emod_lt_of_pos _ zc7) j0 j1 (e01 _).1 (e01 _).2⟩,_,_,rfl,rfl,(by show (0:Int)<18446744073709551557;decide), ?_⟩
   refine⟨_,rfl,_,rfl,_,_,rfl,rfl,⟨by decide,by decide,by decide⟩,_,_,rfl,rfl,.inl ⟨by decide,by decide⟩,_,_,rfl,rfl,.inr ⟨_,rfl,_,_,rfl,rfl,.inr ?_,_,rfl,by show 2<=sizeLine;decide,fun p hp=> ?_⟩⟩
   ·exact e64 _
   ·refine k p _ (zae hp) ⟨_,_,zad, ?_,Int.emod_nonneg _ (by decide),Int.emod_lt_of_pos _ (by decide)⟩ hp
    exact Int.mul_nonneg (Int.add_nonneg (Int.mul_nonneg (by decide) (Int.emod_nonneg _ (Int.ne_of_gt zc7))) (e01 _).1) (e01 _).1
theorem sc__law_next:FnScope ["_law_pot_here", "_law_many", "_law_digit"] ["_law_pot_here", "_law_many"] (zag zcg):=⟨rfl,rfl,rfl,by decide+kernel,rfl,by decide+kernel,by decide+kernel⟩
theorem zfm {f:Addr}{fd:FuncData}(F:Fun K "_law_next" "_law_next" zcg f fd):FnOk P w K mg base CX0 1 f fd ["_law_pot_here", "_law_many"] zdk:=by
 refine F.ok sc__law_next (fun vs H Q E h=> ?_) (fun cdv A outer s H vs Q E hr h=> ?_)
 ·obtain ⟨p,m,rfl,_⟩:=h
  rfl
 ·obtain ⟨p,m,rfl,hm0,hm1,⟨own,mixed,hp,o0,x0,x1⟩,k⟩:=h
  refine⟨_,(zaf (zaY (zar zee (zan zbq (pv 0) zab (fun _ _=>rfl)) zab (zau _))
    (zaf (zap (i:=2) sc__law_next.nd rfl (Or.inl rfl) (zaj zcl (zan zbq (pv 0) zab (fun _ _=>rfl)) (pv 1)))
    (zaf (zjC (zaj zbT (zan zbq (pv 0) zab (fun _ _=>rfl)) (pv 1)) (zjB (pv 0) zab zeg))
    (zah (zal (pv 2)))))
    zay)
   (zaf (zjC (zaj zcl (zaj zax (zaj zaM (zan zbq (pv 0) zab (fun _ _=>rfl)) zab) zab) zab) (zjB (pv 0) zab zeg))
   (zah (zal (zaj zcl (zaj zbT (zaj zcl (zaj zaM (zan zbq (pv 0) zab (fun _ _=>rfl)) (zan zbq (pv 0) zab (fun _ _=>rfl))) zab) zab) (pv 1)))))), ?_⟩
  refine⟨_,rfl,p,_,0,_,rfl,rfl,SqL.of hp,zai (j:=0) rfl,_,_,rfl,rfl,_,rfl, ?_⟩
  refine ite2 (fun _=> ?_) (fun _=> ?_)
  ·refine ⟨_,rfl,p,_,0,_,rfl,rfl,SqL.of hp,zai (j:=0) rfl,_,rfl,_,_,rfl,rfl,hm0, ?_⟩
   refine⟨_,rfl,p,_,0,_,rfl,rfl,SqL.of hp,zai (j:=0) rfl,_,rfl,_,_,rfl,rfl,⟨hm0,hm1⟩,_,rfl,p,_,0,0,rfl,rfl,hp,rfl, ?_⟩
   refine⟨_,rfl, ?_⟩
   refine k _ _ (Int.emod_nonneg _ (by (first|lia|omega))) (Int.emod_lt_of_pos _ hm0) ⟨_,_,zad,Int.ediv_nonneg o0 (by (first|lia|omega)),x0,x1⟩ fun b o hb h1 _=> ?_
   rw[zaq h1]
   exact hb
  ·refine ⟨_,rfl,p,_,1,_,rfl,rfl,SqL.of hp,zai (j:=1) rfl,_,_,rfl,rfl,.inr ⟨by decide,by decide⟩,_,_,rfl,rfl,_,_,rfl,rfl,(by show (0:Int)<18446744073709551557;decide),_,rfl,p,_,1,1,rfl,rfl,hp,rfl, ?_⟩
   have y0:=Int.emod_nonneg (mixed*6364136223846793005+1442695040888963407) (by decide:(18446744073709551557:Int)≠0)
   have y1:=Int.emod_lt_of_pos (mixed*6364136223846793005+1442695040888963407) (by decide:(0:Int)<18446744073709551557)
   refine⟨_,rfl,p,_,1,_,rfl,rfl,SqL.of zad,zai (j:=1) rfl,_,rfl,p,_,1,_,rfl,rfl,SqL.of zad,zai (j:=1) rfl,_,_,rfl,rfl,.inl ⟨by (first|lia|omega),by (first|lia|omega)⟩,_,_,rfl,rfl,(by show (0:Int)<2305843009213693951;decide),_,_,rfl,rfl,⟨by decide,by decide⟩,_,rfl,_,_,rfl,rfl,hm0, ?_⟩
   refine k _ _ (Int.emod_nonneg _ (by (first|lia|omega))) (Int.emod_lt_of_pos _ hm0) ⟨_,_,zad,o0,y0,y1⟩ fun b o hb h1 _=> ?_
   rw[zaq h1]
   exact hb
theorem zhc:FnScope ["_law_pot_here", "_law_some"] ["_law_pot_here", "_law_some"] (zag zdt):=⟨rfl,rfl,rfl,by decide+kernel,rfl,by decide+kernel,by decide+kernel⟩
theorem zhd {f:Addr}{fd:FuncData}(F:Fun K "_law_of" "_law_of" zdt f fd)(T:Top mg)(C_law_next:Cal P w K mg base 1 "_law_next" ["_law_pot_here", "_law_many"] zdk):FnOk P w K mg base CX0 2 f fd ["_law_pot_here", "_law_some"] ziT:=by
 refine F.ok zhc (fun vs H Q E h=> ?_) (fun cdv A outer s H vs Q E hr h=> ?_)
 ·obtain ⟨p,l,xs,rfl,_⟩:=h
  rfl
 ·obtain ⟨p,l,xs,rfl,hl,hne,l0,l1,hp,k⟩:=h
  refine⟨_,(zah (zal (zan zbq (pv 1) (zak C_law_next (hr.mono (by decide)) rfl (zaa (pv 0) (zaa (zao zaw (by rfl) T.n_len PySem.boot_len (zaa (pv 1) zac)) zac))) (fun _ _=>rfl)))), ?_⟩
  refine⟨_,rfl,_,rfl,_,rfl,l,_,rfl,.inl (SqL.of hl),p,_,rfl,by (first|lia|omega),by (first|lia|omega),hp,fun d H' d0 d1 hp' kp=> ?_⟩
  have hd:d.toNat<xs.length:=by (first|lia|omega)
  refine⟨l,xs,d,xs[d.toNat],rfl,rfl,SqL.of (kp _ _ hl hne hne), ?_,k _ (List.getElem_mem _) _ hp' kp⟩
  have:=zai (xs:=xs) (j:=d.toNat) (v:=xs[d.toNat]) (List.getElem?_eq_getElem hd)
  rwa [show ((d.toNat:Nat):Int)=d by (first|lia|omega)] at this
end
noncomputable abbrev zcI:Stmt:=top 85
noncomputable abbrev zb8:Stmt:=top 87
noncomputable abbrev zb1:Stmt:=top 89
noncomputable abbrev zcJ:Stmt:=top 90
noncomputable abbrev za5:Stmt:=top 88
section
variable {P:Program}{w:World}{K:PySem.W.Frag}{mg:Str->Option Value}{base:Heap}
theorem sc__law_low:FnScope ["_law_over", "_law_under", "_law_rest", "_law_by"] ["_law_over", "_law_under"] (zag zcI):=⟨rfl,rfl,rfl,by decide+kernel,rfl,by decide+kernel,by decide+kernel⟩
theorem zfT {f:Addr}{fd:FuncData}(F:Fun K "_law_low" "_law_low" zcI f fd)(T:Top mg):FnOk P w K mg base CX0 1 f fd ["_law_over", "_law_under"] zbS:=by
 refine F.ok sc__law_low (fun vs H Q E h=> ?_) (fun cdv A outer s H vs Q E hr h=> ?_)
 ·obtain ⟨a,b,rfl,_⟩:=h
  rfl
 ·obtain ⟨a,b,rfl,hb,sb,k⟩:=h
  refine⟨_,(zaf (zeN (i:=2) (j:=3) rfl sc__law_low.nd rfl rfl (by decide) rfl rfl (zaa (zao zgf (by rfl) T.n_abs boot_abs (zaa (pv 0) zac)) (zaa (pv 1) zac)) rfl)
   (zaf (zeb PassesOwn.never (zar zee (pv 2) zab (zau _))
    (zah (zeN (i:=3) (j:=2) rfl sc__law_low.nd rfl rfl (by decide) rfl rfl (zaa (pv 2) (zaa (zaj zcl (pv 3) (pv 2)) zac)) rfl)))
   (zah (zal (zaz (zaa (zaj zcs (pv 0) (pv 3)) (zaa (zaj zcs (pv 1) (pv 3)) zac))))))), ?_⟩
  refine⟨_,rfl,_,rfl,_,rfl,_,_,rfl, ?_⟩
  refine⟨fun m σ G=>∃x y:Int,m=x.toNat/\σ=[some (.int a),some (.int b),some (.int x),some (.int y)]/\G=H/\0<=x/\0<y/\gcdZ x y=gcdZ a b,⟨_,_,b,rfl,rfl,rfl,by split<;>(first|lia|omega),hb,ziW a b⟩, ?_⟩
  rintro m σ G ⟨x,y,rfl,rfl,rfl,x0,y0,e⟩
  refine⟨_,rfl,_,_,rfl,rfl,_,rfl, ?_⟩
  refine ite2 (fun h=> ?_) (fun h=> ?_)
  ·have hx:=of_decide_eq_true h
   refine⟨fun σ' G'=>∃x' y':Int,x'<x/\σ'=[some (.int a),some (.int b),some (.int x'),some (.int y')]/\G'=G/\0<=x'/\0<y'/\gcdZ x' y'=gcdZ a b, ?_, ?_⟩
   ·rintro σ' G' ⟨x',y',h1,h2,h3,h4,h5⟩
    exact⟨_,by (first|lia|omega),x',y',rfl,h2,h3,h4,h5⟩
   ·refine ⟨_,rfl,_,rfl,_,rfl,_,_,rfl,rfl,hx,_,_,rfl, ?_⟩
    exact⟨_,_,Int.emod_lt_of_pos _ hx,rfl,rfl,Int.emod_nonneg _ (by (first|lia|omega)),hx,by rw[zdm,ze5 hx,zdm];exact e⟩
  ·have hx:x=0:=by
    have:¬0<x:=fun z=>h (decide_eq_true z)
    (first|lia|omega)
   subst hx
   rw[zdm,ze6 (Int.le_of_lt y0)] at e
   subst e
   have gs:Sm (gcdZ a b) 8000:=sb.le (by have:=zhW (a:=a) hb;(first|lia|omega))
   refine⟨_,rfl,_,rfl,_,_,rfl,rfl,⟨y0,gs⟩,_,rfl,_,rfl,_,_,rfl,rfl,⟨y0,gs⟩,by show 2<=sizeLine;decide,fun z hz=> ?_⟩
   exact k z _ (zae hz) zad
theorem sc__law_parts:FnScope ["_law_kind", "_law_many", "_law_found", "_law_k"] ["_law_kind", "_law_many"] (zag za5):=⟨rfl,rfl,rfl,by decide+kernel,rfl,by decide+kernel,by decide+kernel⟩
theorem zey {f:Addr}{fd:FuncData}(F:Fun K "_law_parts" "_law_parts" za5 f fd)(T:Top mg):FnOk P w K mg base CX0 1 f fd ["_law_kind", "_law_many"] zcD:=by
 refine F.ok sc__law_parts (fun vs H Q E h=> ?_) (fun cdv A outer s H vs Q E hr h=> ?_)
 ·obtain ⟨kind,m,rfl,_⟩:=h
  rfl
 ·obtain ⟨kind,m,rfl,hk,hm,k⟩:=h
  refine⟨_,(zaf (zaY (zar zhs (pv 0) zaE (zau _))
    (zah (zal (zcU (N':=["_law_k", "_law_kind", "_law_many"]) (n:=1) (ix:=[0,1]) rfl (CompScope.of (sc:=zag za5) (N:=["_law_kind", "_law_many", "_law_found", "_law_k"]) (by decide+kernel) rfl rfl) (zaB rfl T.n_range (zaa (pv 1) zac)) (fun _ _ _ _ _=>⟨(zat (i:=0) (show (["_law_k", "_law_kind", "_law_many"]:List Str).Nodup by decide+kernel) rfl (Or.inl rfl)),(zdf (PW.pt (zea (zar zhs (pv 1) zaE (zau _)) (zcj (zar zed (zaj zax (pv 0) zab) (pv 2) (zau _)))))),(zaz (zaa (pv 0) zac))⟩))))
    zay)
   (zaf (zap (i:=2) sc__law_parts.nd rfl (Or.inl rfl) (zbC zac))
   (zaf (zaR PassesOwn.never rfl (zaB rfl T.n_range (zaa (pv 1) zac)) (zat (i:=3) sc__law_parts.nd rfl (Or.inr rfl))
    (zah (zcA (zgS PySem.F.plainAttrs_list PySem.F.slot_list_extend PySem.F.type_list_extend zeW (pv 2) (zaa (zcU (N':=["_law_j", "_law_k"]) (n:=1) (ix:=[3]) rfl (CompScope.of (sc:=zag za5) (N:=["_law_kind", "_law_many", "_law_found", "_law_k"]) (by decide+kernel) rfl rfl) (zdc rfl T.n_range (zaa (zaj zax (pv 3) zab) (zaa (pv 1) zac))) (fun _ _ _ _ _=>⟨(zat (i:=0) (show (["_law_j", "_law_k"]:List Str).Nodup by decide+kernel) rfl (Or.inl rfl)),zbW,(zaz (zaa (pv 1) (zaa (pv 0) zac)))⟩)) zac)))))
   (zah (zal (pv 2)))))), ?_⟩
  refine⟨_,rfl,rfl,_,rfl, ?_⟩
  by_cases hc:kind= "crossed"
  ·subst hc
   refine zl9 rfl ?_
   refine⟨Nat.zero_le _,fun l hl=> ?_⟩
   have s1:=zae (o:=.lst []) hl
   refine⟨_,rfl,_,rfl,by (first|lia|omega),by (first|lia|omega), ?_⟩
   rw[Int.toNat_natCast]
   refine zaI (fun i σ H2=>∃(zs:List Addr) (c3:Option V),σ=[some (.str "crossed"),some (.int m),some (.ref l),c3]/\Same H H2/\H2 l=some (.lst (zs.map V.ref))/\RowsAt H2 zs ((prsZ m i).map rowP)) ?_ ?_ ?_
   ·exact⟨[],none,rfl,s1,zad,.nil⟩
   ·rintro i σ H2 hi ⟨zs,c3,rfl,sm,hl2,R⟩
    refine⟨_,rfl,.inl ⟨rfl,_,SqL.of hl2⟩, ?_⟩
    refine⟨_,rfl,_,_,rfl,rfl,_,rfl,_,_,rfl,⟨by (first|lia|omega),by (first|lia|omega),by (first|lia|omega),by (first|lia|omega)⟩, ?_⟩
    refine zei (zaQ (lo:=0+(i:Int)+1) (n:=((m:Int)-(0+(i:Int)+1)).toNat)) (zaW (by rw[zaJ];(first|lia|omega))) (RTab fun j=>[(i:Int),j]) (fun x v G G' st ⟨k,z,e1,e2,e3⟩=>⟨k,z,e1,e2,st _ _ e3⟩) (fun _ _=>trivial) (fun x hx G s' Q' q'=> ?_) fun acc ys G hacc s' hys pr=> ?_
    ·obtain ⟨j,_,rfl⟩:=List.mem_map.mp (show x∈(numF (0+(i:Int)+1) ((m:Int)-(0+(i:Int)+1)).toNat).map V.int from zdl _ _▸hx)
     refine⟨_,rfl,_,rfl,by show 2<=sizeLine;decide,fun t ht=>q' _ _ (zae ht) ⟨j,t,rfl,rfl, ?_⟩⟩
     rw[zad,Int.zero_add]
     rfl
    ·rw [zdl] at pr
     obtain⟨zs2,rfl,R2⟩:=zc8 pr
     have e2:(numF (0+(i:Int)+1) ((m:Int)-(0+(i:Int)+1)).toNat).map (fun j=>[(i:Int),j])=(zg1 m i).map rowP:=by
      unfold zg1
      rw[List.map_map,Int.zero_add]
      rfl
     rw[e2] at R2
     have hlG:=s' _ _ hl2
     have lz:zs.length<=i*m:=by rw[Paired.length R,List.length_map];exact zgo m i
     have lz2:zs2.length<=m:=by rw[Paired.length R2,List.length_map];exact ze4 (by (first|lia|omega))
     refine⟨l,acc,_,_,rfl,rfl,hlG,hys, ?_, ?_⟩
     ·rw [zbH,zbH]
      refine Nat.le_trans ?_ (by decide:10000<=sizeLine)
      have:i*m<=60*60:=Nat.mul_le_mul (by (first|lia|omega)) hm
      (first|lia|omega)
     ·have stp:SameT G (upd G l (.lst (zs.map V.ref++zs2.map V.ref))):=zbX hlG
      refine⟨zs++zs2,_,rfl,zav (sm.trans s') hl,by rw[zad,List.map_append], ?_⟩
      rw[ze3,List.map_append]
      exact Paired.append ((R.same s').sameT stp) (R2.sameT stp)
   ·rintro σ H2 ⟨zs,c3,rfl,sm,hl2,R⟩
    refine⟨_,rfl,k l zs H2 sm hl2 ?_⟩
    unfold zb0
    rw[if_pos rfl]
    exact R
  ·rw [decide_eq_false (fun e=>hc (V.str.inj e))]
   refine iteT ?_
   refine⟨_,rfl,_,rfl,by (first|lia|omega),by (first|lia|omega), ?_⟩
   rw[Int.toNat_natCast]
   refine ziV (zaQ (lo:=0) (n:=m)) (zaW (by rw[zaJ];(first|lia|omega))) (fun v=>match v with| .int k=> !decide (kind= "rises")||decide (k+1<(m:Int))|_=>false) (RTab fun k=>[k]) (fun x v G G' st ⟨k,z,e1,e2,e3⟩=>⟨k,z,e1,e2,st _ _ e3⟩) (fun _ _=>trivial) (fun x hx G s' Q' q'=> ?_) (fun x hx _ G s' Q' q'=> ?_) fun acc ys G hacc s' hys pr=> ?_
   ·obtain ⟨n,rfl,n0,n1⟩:=zaZ hx
    refine⟨_,rfl,rfl,_,rfl, ?_⟩
    by_cases hri:kind= "rises"
    ·subst hri
     rw[decide_eq_true rfl]
     refine iteF ?_
     exact⟨_,rfl,_,_,rfl,rfl,_,rfl,_,_,rfl,rfl,_,rfl,q'⟩
    ·rw [decide_eq_false (fun e=>hri (V.str.inj e))]
     refine iteT ?_
     simp only[decide_eq_false hri] at q'
     exact q'
   ·obtain ⟨n,rfl,n0,n1⟩:=zaZ hx
    exact⟨_,rfl,by show 1<=sizeLine;decide,fun t ht=>q' _ _ (zae ht) ⟨n,t,rfl,rfl,zad⟩⟩
   ·rw [zbe,List.filter_map] at pr
    obtain⟨zs,rfl,R⟩:=zc8 pr
    refine k acc zs G s' hys ?_
    unfold zb0
    rw[if_neg hc]
    split
    ·rename_i hri
     subst hri
     have e:(num0 m).filter ((fun v=>match v with|V.int k=> !decide (("rises" :Str)= "rises")||decide (k+1<(m:Int))|_=>false)∘V.int)=num0 (m-1):=by
      rw[<-zg2 m]
      apply List.filter_congr
      intro x _
      simp
     rw[e] at R
     exact R
    ·rename_i hri
     rw[List.filter_eq_self.mpr (fun x _=>by simp[hri])] at R
     exact R
theorem sc__law_all:FnScope ["_law_many", "_law_found", "_law_k", "_law_longer", "_law_one"] ["_law_many"] (zag zb8):=⟨rfl,rfl,rfl,by decide+kernel,rfl,by decide+kernel,by decide+kernel⟩
set_option maxHeartbeats 8000000 in
theorem zfU {f:Addr}{fd:FuncData}(F:Fun K "_law_all" "_law_all" zb8 f fd)(T:Top mg):FnOk P w K mg base CX0 1 f fd ["_law_many"] zes:=by
 refine F.ok sc__law_all (fun vs H Q E h=> ?_) (fun cdv A outer s H vs Q E hr h=> ?_)
 ·obtain ⟨n,rfl,_⟩:=h
  rfl
 ·obtain ⟨n,rfl,hn,k⟩:=h
  refine⟨_,(zaf (zap (i:=1) sc__law_all.nd rfl (Or.inl rfl) (zbC (zaa (zaz zac) zac)))
   (zaf (zaR PassesOwn.never rfl (zaB rfl T.n_range (zaa (pv 0) zac)) (zat (i:=2) sc__law_all.nd rfl (Or.inr rfl))
    (zaf (zap (i:=3) sc__law_all.nd rfl (Or.inl rfl) (zbC zac))
    (zaf (zaR PassesOwn.never rfl (zcB (pv 1)) (zat (i:=4) sc__law_all.nd rfl (Or.inr rfl))
     (zah (zcA (zgS PySem.F.plainAttrs_list PySem.F.slot_list_extend PySem.F.type_list_extend zeW (pv 3) (zaa (zcU (N':=["_law_at", "_law_one", "_law_k"]) (n:=1) (ix:=[4,2]) rfl (CompScope.of (sc:=zag zb8) (N:=["_law_many", "_law_found", "_law_k", "_law_longer", "_law_one"]) (by decide+kernel) rfl rfl) (zaB rfl T.n_range (zaa (zaj zax (pv 2) zab) zac)) (fun _ _ _ _ _=>⟨(zat (i:=0) (show (["_law_at", "_law_one", "_law_k"]:List Str).Nodup by decide+kernel) rfl (Or.inl rfl)),zbW,(zaj zdg (zaj zdg (zbm zcd (pv 1) zdd (zbd (pv 0))) (zaz (zaa (pv 2) zac))) (zbm zcd (pv 1) (zbd (pv 0)) zdd))⟩)) zac)))))
    (zah (zap (i:=1) sc__law_all.nd rfl (Or.inl rfl) (pv 3))))))
   (zah (zal (pv 1))))), ?_⟩
  refine⟨Nat.zero_le _,fun t0 ht0=>⟨by show 1<=sizeLine;decide,fun F0 hF0=> ?_⟩⟩
  have s0:=(zae (o:=.tup []) ht0).trans (zae (o:=.lst [.ref t0]) hF0)
  refine⟨_,rfl,_,rfl,by (first|lia|omega),by (first|lia|omega), ?_⟩
  rw[Int.toNat_natCast]
  refine zaI (fun i σ G=>Same H G/\∃(F:Addr) (zs:List Addr) (c2 c3 c4:Option V),σ=[some (.int n),some (.ref F),c2,c3,c4]/\G F=some (.lst (zs.map V.ref))/\RowsAt G zs (allI i)) ?_ ?_ ?_
  ·exact⟨s0,F0,[t0],none,none,none,rfl,zad,.cons ((zae hF0) _ _ zad) .nil⟩
  ·rintro i σ G hi ⟨sm,F,zs,c2,c3,c4,rfl,hF,R⟩
   have hlen:zs.length=(allI i).length:=Paired.length R
   have hc:=(zgC i (by (first|lia|omega))).1
   have hc2:=(zgC (i+1) (by (first|lia|omega))).1
   refine⟨Nat.zero_le _,fun L hL=> ?_⟩
   have sL:=zae (o:=.lst []) hL
   rw[Int.zero_add]
   refine⟨_,rfl,F,rfl,⟨_,SqL.of (sL _ _ hF)⟩, ?_⟩
   refine zec (K:=K) (xs:=zs.map V.ref) (fun j σ G2=>Same G G2/\∃(ws:List Addr) (c4:Option V),σ=[some (.int n),some (.ref F),some (.int (i:Int)),some (.ref L),c4]/\G2 L=some (.lst (ws.map V.ref))/\RowsAt G2 ws (((allI i).take j).flatMap (insR i))) ?_ ?_ ?_ ?_
   ·exact⟨sL,[],_,rfl,zad,.nil⟩
   ·rintro j σ G2 _ ⟨s2,ws,c4,rfl,_,_⟩
    exact SqL.of (s2 _ _ hF)
   ·rintro j x σ G2 hx ⟨s2,ws,c4,rfl,hws,R2⟩
    rw[List.getElem?_map] at hx
    cases hz:zs[j]? with
    |none=>rw[hz] at hx;cases hx
    | some z=>
     rw[hz] at hx
     cases hx
     obtain⟨r,hr1,hr2⟩:=R.get hz
     have hrl:r.length=i:=zjb i (by (first|lia|omega)) r (List.mem_of_getElem? hr1)
     have hj:j<(allI i).length:=(List.getElem?_eq_some_iff.mp hr1).1
     have hzG:=s2 _ _ hr2
     refine⟨_,rfl,.inl ⟨rfl,_,SqL.of hws⟩, ?_⟩
     refine⟨_,rfl,_,_,rfl,rfl,_,rfl,by (first|lia|omega),by (first|lia|omega), ?_⟩
     rw[show ((i:Int)+1).toNat=i+1 by (first|lia|omega)]
     refine zei (zaQ (lo:=0) (n:=i+1)) (zaW (by rw[zaJ];(first|lia|omega))) (RTab fun q=>insZ r i q.toNat) (fun x v G G' st ⟨k,z,e1,e2,e3⟩=>⟨k,z,e1,e2,st _ _ e3⟩) (fun _ _=>trivial) (fun x hx G3 s3 Q' q'=> ?_) fun acc ys G3 hacc s3 hys pr=> ?_
     ·obtain ⟨q,rfl,q0,q1⟩:=zaZ hx
      obtain⟨qn,rfl⟩:∃qn:Nat,q=(qn:Int):=⟨q.toNat,by (first|lia|omega)⟩
      have hz3:=s3 _ _ hzG
      refine⟨_,rfl,_,rfl,_,rfl,z,_,rfl,hz3,fun b1 G4 s4 hb1=> ?_⟩
      rw[zd5] at hb1
      refine⟨_,rfl,by show 1<=sizeLine;decide,fun t ht=> ?_⟩
      have st:=zae (o:=.tup [.int (i:Int)]) ht
      refine⟨b1,t,_,[.int (i:Int)],rfl,rfl,st _ _ hb1,zad,zaW (by rw[zas,List.length_take];show _+1<=1000;(first|lia|omega)) |> Nat.le_of_lt,fun b2 G5 s5 hb2=> ?_⟩
      refine⟨_,rfl,_,rfl,_,rfl,z,_,rfl,s5 _ _ (st _ _ (s4 _ _ hz3)),fun b3 G6 s6 hb3=> ?_⟩
      rw[zg8] at hb3
      refine⟨b2,b3,_,_,rfl,rfl,s6 _ _ hb2,hb3,zaW (by rw[List.length_append,zas,zas,List.length_take,List.length_drop];show _+1+_<=1000;(first|lia|omega)) |> Nat.le_of_lt,fun b4 G7 s7 hb4=> ?_⟩
      refine q' _ _ ((((s4.trans st).trans s5).trans s6).trans s7) ⟨(qn:Int),b4,rfl,rfl, ?_⟩
      rw[hb4]
      unfold insZ
      rw[List.map_append,List.map_append,Int.toNat_natCast]
      rfl
     ·rw [zbe] at pr
      obtain⟨vs,rfl,R3⟩:=zc8 pr
      have e3:(num0 (i+1)).map (fun q=>insZ r i q.toNat)=insR i r:=by
       unfold num0 insR
       rw[List.map_map]
       rfl
      rw[e3] at R3
      have hws3:=s3 _ _ hws
      have e4:((allI i).take (j+1)).flatMap (insR i)=((allI i).take j).flatMap (insR i)++insR i r:=by
       rw[List.take_succ,hr1,List.flatMap_append]
       simp
      have R23:RowsAt G3 (ws++vs) (((allI i).take (j+1)).flatMap (insR i)):=by
       rw[e4]
       exact Paired.append (R2.same s3) R3
      have hsz:ws.length+vs.length<=720:=by
       have h1:=Paired.length R23
       rw[List.length_append] at h1
       have h2:(((allI i).take (j+1)).flatMap (insR i)).length<=(allI (i+1)).length:=by
        show _<=((allI i).flatMap (insR i)).length
        conv=>rhs;rw[<-List.take_append_drop (j+1) (allI i)]
        rw[List.flatMap_append,List.length_append]
        (first|lia|omega)
       (first|lia|omega)
      refine⟨L,acc,_,_,rfl,rfl,hws3,hys,zaW (by rw[zbH,zbH];(first|lia|omega)) |> Nat.le_of_lt, ?_⟩
      refine⟨zav (s2.trans s3) hL,ws++vs,_,rfl,by rw[zad,List.map_append], ?_⟩
      exact R23.sameT (zbX hws3)
   ·rintro σ G2 ⟨s2,ws,c4,rfl,hws,R2⟩
    rw[List.length_map,hlen,List.take_length] at R2
    refine⟨_,rfl, ?_⟩
    exact⟨sm.trans s2,L,ws,_,_,_,rfl,hws,R2⟩
  ·rintro σ G ⟨sm,F,zs,c2,c3,c4,rfl,hF,R⟩
   exact⟨_,rfl,k F zs G sm hF R⟩
theorem sc__law_round:FnScope ["_law_order", "_law_number", "_law_found", "_law_onward"] ["_law_order", "_law_number"] (zag zb1):=⟨rfl,rfl,rfl,by decide+kernel,rfl,by decide+kernel,by decide+kernel⟩
set_option maxHeartbeats 8000000 in
theorem zez {f:Addr}{fd:FuncData}(F:Fun K "_law_round" "_law_round" zb1 f fd):FnOk P w K mg base CX0 1 f fd ["_law_order", "_law_number"] zkw:=by
 refine F.ok sc__law_round (fun vs H Q E h=> ?_) (fun cdv A outer s H vs Q E hr h=> ?_)
 ·obtain ⟨a,o,n,r,rfl,_⟩:=h
  rfl
 ·obtain ⟨a,o,n,r,rfl,ha,hn,hr0,k⟩:=h
  refine⟨_,(zaf (zeN (i:=2) (j:=3) rfl sc__law_round.nd rfl rfl (by decide) rfl rfl (zaa (zbC (zaa (pv 1) zac)) (zaa (zan zam (pv 0) (pv 1) (fun _ _=>rfl)) zac)) rfl)
   (zaf (zeb PassesOwn.never (zar zhs (pv 3) (pv 1) (zau _))
    (zaf (zcA (zgS PySem.F.plainAttrs_list PySem.F.slot_list_append PySem.F.type_list_append zbU (pv 2) (zaa (pv 3) zac)))
    (zah (zap (i:=3) sc__law_round.nd rfl (Or.inl rfl) (zan zam (pv 0) (pv 3) (fun _ _=>rfl))))))
   (zah (zal (pv 2))))), ?_⟩
  have hat:∀q:Nat,q<o.length->atI (o.map V.int) (q:Int)=some (.int (o.getD q 0)):=fun q hq=>by
   have:=zbr (ys:=o) (i:=(q:Int)) (by (first|lia|omega)) (by (first|lia|omega))
   rwa [Int.toNat_natCast] at this
  refine⟨_,rfl,by show 1<=sizeLine;decide,fun L hL=> ?_⟩
  have sL:=zae (o:=.lst [.int (n:Int)]) hL
  refine⟨_,rfl,_,rfl,a,_,_,_,rfl,rfl,SqT.of (sL _ _ ha),hat n hn,_,_,rfl, ?_⟩
  unfold rndZ at hr0
  rw[Int.toNat_natCast] at hr0
  refine⟨fun f σ G=>∃(x:Int) (acc:List Int),rndF o n f x acc=some r/\acc.length+f<=100/\σ=[some (.ref a),some (.int n),some (.ref L),some (.int x)]/\Same H G/\G L=some (.lst (acc.map V.int)),⟨10,_,[(n:Int)],hr0,by show 1+10<=100;decide,rfl,sL,zad⟩, ?_⟩
  rintro f σ G ⟨x,acc,hf,hlen,rfl,sm,hG⟩
  refine⟨_,rfl,_,rfl,rfl,_,rfl, ?_⟩
  cases f with
  |zero=>cases hf
  | succ f=>
   unfold rndF at hf
   by_cases hx:x=(n:Int)
   ·rw [if_pos hx] at hf
    cases hf
    subst hx
    rw[show (!decide (V.int (n:Int)=V.int (n:Int)))=false from by rw[decide_eq_true rfl];rfl]
    exact iteF ⟨_,rfl,k L G sm hG⟩
   ·rw [if_neg hx] at hf
    rw[show (!decide (V.int x=V.int (n:Int)))=true from by rw[decide_eq_false (fun z=>hx (V.int.inj z))];rfl]
    by_cases hb:0<=x/\x<o.length
    ·rw [if_pos hb] at hf
     obtain⟨xn,rfl⟩:∃xn:Nat,x=(xn:Int):=⟨x.toNat,by (first|lia|omega)⟩
     rw[Int.toNat_natCast] at hf
     refine iteT ⟨fun σ' G'=>∃(x':Int) (acc':List Int),rndF o n f x' acc'=some r/\acc'.length+f<=100/\σ'=[some (.ref a),some (.int n),some (.ref L),some (.int x')]/\Same H G'/\G' L=some (.lst (acc'.map V.int)), ?_, ?_⟩
     ·rintro σ' G' hh
      exact⟨f,by (first|lia|omega),hh⟩
     ·refine ⟨_,rfl,.inl ⟨rfl,_,SqL.of hG⟩,_,rfl,L,_,_,rfl,rfl,hG,zaW (by rw[zas];(first|lia|omega)), ?_⟩
      have s2:Same H (upd G L (.lst (acc.map V.int++[.int (xn:Int)]))):=zav sm hL
      refine⟨_,rfl,_,rfl,a,_,_,_,rfl,rfl,SqT.of (s2 _ _ ha),hat xn (by (first|lia|omega)), ?_⟩
      exact⟨_,acc++[(xn:Int)],hf,by rw[List.length_append];simp;(first|lia|omega),rfl,s2,by rw[zad,List.map_append];rfl⟩
    ·rw [if_neg hb] at hf
     cases hf
theorem sc__law_has:FnScope ["_law_kind", "_law_part", "_law_order", "_law_k"] ["_law_kind", "_law_part", "_law_order"] (zag zcJ):=⟨rfl,rfl,rfl,by decide+kernel,rfl,by decide+kernel,by decide+kernel⟩
set_option maxHeartbeats 8000000 in
theorem zfV {f:Addr}{fd:FuncData}(F:Fun K "_law_has" "_law_has" zcJ f fd)(T:Top mg)(C_law_round:Cal P w K mg base 1 "_law_round" ["_law_order", "_law_number"] zkw):FnOk P w K mg base CX0 2 f fd ["_law_kind", "_law_part", "_law_order"] zkx:=by
 refine F.ok sc__law_has (fun vs H Q E h=> ?_) (fun cdv A outer s H vs Q E hr h=> ?_)
 ·obtain ⟨kd,p,a,ps,o,rfl,_⟩:=h
  rfl
 ·obtain ⟨kd,p,a,ps,o,rfl,hk,hp,ha,⟨⟨n,en,hpl,hn,hri⟩,hcr⟩,hrd,k⟩:=h
  refine⟨_,(zaf (zap (i:=3) sc__law_has.nd rfl (Or.inl rfl) (zan zam (pv 1) zab (fun _ _=>rfl)))
   (zaf (zaY (zar zcT (pv 0) zaE (zau _))
    (zah (zal (zbG zcT (zao (zco rfl) (by rfl) T.n_max boot_max (zaa (zak C_law_round (hr.mono (by decide)) rfl (zaa (pv 2) (zaa (pv 3) zac))) zac)) (pv 3) (zau _))))
    zay)
   (zaf (zaY (zar zcT (pv 0) zaE (zau _))
    (zah (zal (zbG zcT (zan zam (pv 2) (pv 3) (fun _ _=>rfl)) (pv 3) (zau _))))
    zay)
   (zaf (zaY (zar zcT (pv 0) zaE (zau _))
    (zah (zal (zbG zed (zan zam (pv 2) (pv 3) (fun _ _=>rfl)) (zan zam (pv 2) (zaj zax (pv 3) zab) (fun _ _=>rfl)) (zau _))))
    zay)
   (zaf (zaY (zar zcT (pv 0) zaE (zau _))
    (zah (zal (zbG zcT (zan zam (pv 2) (pv 3) (fun _ _=>rfl)) (zao (zhK rfl) (by rfl) T.n_max boot_max (zaa (zbm zcd (pv 2) zdd (zbd (zaj zax (pv 3) zab))) zac)) (zau _))))
    zay)
   (zah (zal (zbG zee (zan zam (pv 2) (pv 3) (fun _ _=>rfl)) (zan zam (pv 2) (zan zam (pv 1) zab (fun _ _=>rfl)) (fun _ _=>rfl)) (zau _))))))))), ?_⟩
  have hat:∀q:Nat,q<o.length->atI (o.map V.int) (q:Int)=some (.int (o.getD q 0)):=fun q hq=>by
   have:=zbr (ys:=o) (i:=(q:Int)) (by (first|lia|omega)) (by (first|lia|omega))
   rwa [Int.toNat_natCast] at this
  have hp0:atI (ps.map V.int) 0=some (.int (n:Int)):=by
   have:=zbr (ys:=ps) (i:=0) (by decide) (by (first|lia|omega))
   rwa [show (0:Int).toNat=0 from rfl,en] at this
  have e0:hasZ kd ps o=(if kd= "rounds" then ((rndZ o (n:Int)).getD []).all fun y=>decide (y<=(n:Int)) else if kd= "stays" then decide (o.getD n 0=(n:Int)) else if kd= "rises" then decide (o.getD n 0<o.getD (n+1) 0) else if kd= "highs" then (o.take (n+1)).all fun y=>decide (y<=o.getD n 0) else decide (o.getD (ps.getD 1 0).toNat 0<o.getD n 0)):=by
   unfold hasZ
   rw[en]
   rfl
  rw[en] at hrd
  refine⟨_,rfl,p,_,0,_,rfl,rfl,SqT.of hp,hp0, ?_⟩
  rcases zbZ hk with rfl|rfl|rfl|rfl|rfl
  ·refine ⟨_,rfl,rfl,_,rfl,iteT ?_⟩
   obtain⟨r,hr2⟩:=Option.isSome_iff_exists.mp (hrd rfl)
   refine⟨_,rfl,_,rfl,a,o,n,r,rfl,ha,hn,hr2,fun L H1 s1 hL=> ?_⟩
   have hm:=zja hr2
   refine⟨L,r,rfl,hL,(fun z=>by rw[z] at hm;cases hm),fun M hM hall=>⟨_,rfl,rfl, ?_⟩⟩
   rw[zib hm hM hall]
   have e1:hasZ "rounds" ps o=r.all fun y=>decide (y<=(n:Int)):=by
    rw[e0,if_pos rfl,hr2]
    rfl
   have kk:=k H1 s1
   rw[e1] at kk
   exact kk
  ·refine ⟨_,rfl,rfl,_,rfl,iteF ?_⟩
   refine⟨_,rfl,rfl,_,rfl,iteT ?_⟩
   refine⟨_,rfl,_,rfl,a,_,_,_,rfl,rfl,SqT.of ha,hat n hn,_,rfl,rfl, ?_⟩
   have e1:hasZ "stays" ps o=decide (V.int (o.getD n 0)=V.int (n:Int)):=by
    rw[e0]
    refine decide_eq_decide.mpr ⟨fun z=>by rw[z],fun z=>V.int.inj z⟩
   have kk:=k H (Same.refl H)
   rw[e1] at kk
   exact kk
  ·refine ⟨_,rfl,rfl,_,rfl,iteF ?_⟩
   refine⟨_,rfl,rfl,_,rfl,iteF ?_⟩
   refine⟨_,rfl,rfl,_,rfl,iteT ?_⟩
   have hri:=hri rfl
   refine⟨_,rfl,_,rfl,a,_,_,_,rfl,rfl,SqT.of ha,hat n hn,_,rfl,_,rfl,_,_,rfl,rfl,a,_,_,_,rfl,rfl,SqT.of ha,hat (n+1) hri,_,_,rfl,rfl, ?_⟩
   have kk:=k H (Same.refl H)
   rw[show hasZ "rises" ps o=decide (o.getD n 0<o.getD (n+1) 0) from e0] at kk
   exact kk
  ·refine ⟨_,rfl,rfl,_,rfl,iteF ?_⟩
   refine⟨_,rfl,rfl,_,rfl,iteF ?_⟩
   refine⟨_,rfl,rfl,_,rfl,iteF ?_⟩
   refine⟨_,rfl,rfl,_,rfl,iteT ?_⟩
   refine⟨_,rfl,_,rfl,a,_,_,_,rfl,rfl,SqT.of ha,hat n hn,_,rfl,_,rfl,_,_,rfl,rfl,_,rfl,a,_,rfl,ha,fun b H1 s1 hb=> ?_⟩
   rw[show ((n:Int)+1)=((n+1:Nat):Int) from rfl,zd5] at hb
   have hmem:o.getD n 0∈o.take (n+1):=by
    rw[List.getD_eq_getElem?_getD,List.getElem?_eq_getElem hn,List.mem_take_iff_getElem]
    exact⟨n,by (first|lia|omega),rfl⟩
   refine⟨b,_,rfl,hb,(fun z=>by rw[z] at hmem;cases hmem),fun M hM hall=>⟨rfl, ?_⟩⟩
   have e1:hasZ "highs" ps o=decide (V.int (o.getD n 0)=V.int M):=by
    rw[show decide (V.int (o.getD n 0)=V.int M)=decide (V.int M=V.int (o.getD n 0)) from decide_eq_decide.mpr eq_comm,zib hmem hM hall]
    exact e0
   have kk:=k H1 s1
   rw[e1] at kk
   exact kk
  ·refine ⟨_,rfl,rfl,_,rfl,iteF ?_⟩
   refine⟨_,rfl,rfl,_,rfl,iteF ?_⟩
   refine⟨_,rfl,rfl,_,rfl,iteF ?_⟩
   refine⟨_,rfl,rfl,_,rfl,iteF ?_⟩
   obtain⟨j,ej,hjl,hj⟩:=hcr rfl
   have hp1:atI (ps.map V.int) 1=some (.int (j:Int)):=by
    have:=zbr (ys:=ps) (i:=1) (by decide) (by (first|lia|omega))
    rwa [show (1:Int).toNat=1 from rfl,ej] at this
   refine⟨_,rfl,_,rfl,a,_,_,_,rfl,rfl,SqT.of ha,hat n hn,_,rfl,_,rfl,p,_,1,_,rfl,rfl,SqT.of hp,hp1,a,_,_,_,rfl,rfl,SqT.of ha,hat j hj,_,_,rfl,rfl, ?_⟩
   have e1:hasZ "crossed" ps o=decide (o.getD j 0<o.getD n 0):=by
    rw[e0,ej]
    rfl
   have kk:=k H (Same.refl H)
   rw[e1] at kk
   exact kk
end
noncomputable abbrev zcK:Stmt:=top 86
section
variable {P:Program}{w:World}{K:PySem.W.Frag}{mg:Str->Option Value}{base:Heap}
theorem zfW:FnScope ["_law_one", "_law_two"] ["_law_one", "_law_two"] (zag zcK):=⟨rfl,rfl,rfl,by decide+kernel,rfl,by decide+kernel,by decide+kernel⟩
theorem zfX {f:Addr}{fd:FuncData}(F:Fun K "_law_sum" "_law_sum" zcK f fd)(C_law_low:Cal P w K mg base 1 "_law_low" ["_law_over", "_law_under"] zbS):FnOk P w K mg base CX0 2 f fd ["_law_one", "_law_two"] (spSh plZ):=by
 refine F.ok zfW (fun vs H Q E h=> ?_) (fun cdv A outer s H vs Q E hr h=> ?_)
 ·obtain ⟨x,y,p,q,rfl,_⟩:=h
  rfl
 ·obtain ⟨x,y,p,q,rfl,hx,hy,bp,bq,k⟩:=h
  refine⟨_,(zah (zal (zak C_law_low (hr.mono (by decide)) rfl (zaa (zaj zax (zaj zaA (zan zam (pv 0) zab (fun _ _=>rfl)) (zan zam (pv 1) zab (fun _ _=>rfl))) (zaj zaA (zan zam (pv 1) zab (fun _ _=>rfl)) (zan zam (pv 0) zab (fun _ _=>rfl)))) (zaa (zaj zaA (zan zam (pv 0) zab (fun _ _=>rfl)) (zan zam (pv 1) zab (fun _ _=>rfl))) zac))))), ?_⟩
  refine⟨_,rfl,x,_,0,_,rfl,rfl,SqT.of hx,zai (j:=0) rfl,_,rfl,y,_,1,_,rfl,rfl,SqT.of hy,zai (j:=1) rfl,_,_,rfl,rfl,⟨bp.s1.mono (by decide),bq.s2.mono (by decide)⟩,_,rfl,y,_,0,_,rfl,rfl,SqT.of hy,zai (j:=0) rfl,_,rfl,x,_,1,_,rfl,rfl,SqT.of hx,zai (j:=1) rfl,_,_,rfl,rfl,⟨bq.s1.mono (by decide),bp.s2.mono (by decide)⟩,_,_,rfl,rfl,_,rfl,x,_,1,_,rfl,rfl,SqT.of hx,zai (j:=1) rfl,_,rfl,y,_,1,_,rfl,rfl,SqT.of hy,zai (j:=1) rfl,_,_,rfl,rfl,⟨bp.s2.mono (by decide),bq.s2.mono (by decide)⟩,_,_,rfl,Int.mul_pos bp.pos bq.pos,(bp.s2.mul bq.s2).mono (by decide),fun z H2 s2 hz=>k z H2 s2 hz⟩
end
noncomputable abbrev zb2:Stmt:=top 31
noncomputable abbrev zbs:Stmt:=top 32
noncomputable abbrev zbt:Stmt:=top 33
noncomputable abbrev za8:Stmt:=top 34
noncomputable abbrev ziv:Stmt:=top 37
noncomputable abbrev zeA:Stmt:=top 38
noncomputable abbrev zbI:Stmt:=top 40
noncomputable abbrev zbh:Stmt:=top 41
noncomputable abbrev zbu:Stmt:=top 42
noncomputable abbrev zbJ:Stmt:=top 43
noncomputable abbrev zbi:Stmt:=top 44
noncomputable abbrev zbv:Stmt:=top 45
noncomputable abbrev zdu:Stmt:=top 46
noncomputable abbrev zfY:Stmt:=top 47
noncomputable abbrev zb3:Stmt:=top 49
section
variable {P:Program}{w:World}{K:PySem.W.Frag}{mg:Str->Option Value}{base:Heap}
theorem zeB:FnScope ["many"] ["many"] (zag zb2):=⟨rfl,rfl,rfl,by decide+kernel,rfl,by decide+kernel,by decide+kernel⟩
theorem zeC {f:Addr}{fd:FuncData}(F:Fun K "rises_mean" "rises_mean" zb2 f fd)(T:Top mg)(Cshare_of:Cal P w K mg base 2 "share_of" ["over", "under"] zbS):FnOk P w K mg base CX0 3 f fd ["many"] (spN1 (mnZ "rises")):=by
 refine F.ok zeB (fun vs H Q E h=> ?_) (fun cdv A outer s H vs Q E hr h=> ?_)
 ·obtain ⟨N,rfl,_⟩:=h
  rfl
 ·obtain ⟨N,rfl,h0,h1,k⟩:=h
  refine⟨_,(zah (zal (zak Cshare_of (hr.mono (by decide)) rfl (zaa (zao (zbB rfl) (by rfl) T.n_max boot_max (zaa (zaj zaP (pv 0) zab) (zaa zab zac))) (zaa zab zac))))), ?_⟩
  refine⟨_,rfl,_,_,rfl,rfl,_,_,rfl,_,2,rfl,by decide,Sm.of (by decide+kernel),fun z H1 s1 hz=>k z H1 s1 ?_⟩
  rw[zlo N h0] at hz
  exact hz
theorem sc_rises_spread:FnScope ["many", "themselves", "neighbours"] ["many"] (zag zbs):=⟨rfl,rfl,rfl,by decide+kernel,rfl,by decide+kernel,by decide+kernel⟩
theorem zdv {f:Addr}{fd:FuncData}(F:Fun K "rises_spread" "rises_spread" zbs f fd)(T:Top mg)(Cshare_of:Cal P w K mg base 2 "share_of" ["over", "under"] zbS):FnOk P w K mg base CX0 3 f fd ["many"] (spN1 (sdZ "rises")):=by
 refine F.ok sc_rises_spread (fun vs H Q E h=> ?_) (fun cdv A outer s H vs Q E hr h=> ?_)
 ·obtain ⟨N,rfl,_⟩:=h
  rfl
 ·obtain ⟨N,rfl,h0,h1,k⟩:=h
  refine⟨_,(zaf (zap (i:=1) sc_rises_spread.nd rfl (Or.inl rfl) (zao (zbB rfl) (by rfl) T.n_max boot_max (zaa (zaj zaP (pv 0) zab) (zaa zab zac))))
   (zaf (zap (i:=2) sc_rises_spread.nd rfl (Or.inl rfl) (zaj zaM zab (zao (zbB rfl) (by rfl) T.n_max boot_max (zaa (zaj zaP (pv 0) zab) (zaa zab zac)))))
   (zah (zal (zak Cshare_of (hr.mono (by decide)) rfl (zaa (zaj zaP (zaj zaM zab (pv 1)) (pv 2)) (zaa zab zac))))))), ?_⟩
  refine⟨_,rfl,_,_,rfl,rfl,_,_,rfl, ?_⟩
  refine⟨_,rfl,_,_,rfl,rfl,_,_,rfl,_,_,rfl,rfl,.inl ⟨by decide,by decide⟩, ?_⟩
  refine⟨_,rfl,_,_,rfl,rfl,.inl ⟨by decide,by decide⟩,_,rfl,_,_,rfl,rfl,_,12,rfl,by decide,Sm.of (by decide+kernel),fun z H1 s1 hz=>k z H1 s1 ?_⟩
  rw[zi2 N h0] at hz
  exact hz
theorem zdw:FnScope ["many"] ["many"] (zag zbt):=⟨rfl,rfl,rfl,by decide+kernel,rfl,by decide+kernel,by decide+kernel⟩
theorem zdx {f:Addr}{fd:FuncData}(F:Fun K "crossed_mean" "crossed_mean" zbt f fd)(T:Top mg)(Cshare_of:Cal P w K mg base 2 "share_of" ["over", "under"] zbS):FnOk P w K mg base CX0 3 f fd ["many"] (spN1 (mnZ "crossed")):=by
 refine F.ok zdw (fun vs H Q E h=> ?_) (fun cdv A outer s H vs Q E hr h=> ?_)
 ·obtain ⟨N,rfl,_⟩:=h
  rfl
 ·obtain ⟨N,rfl,h0,h1,k⟩:=h
  refine⟨_,(zah (zal (zak Cshare_of (hr.mono (by decide)) rfl (zaa (zaj zbT (zaj zaA (pv 0) (zaj zaP (pv 0) zab)) zab) (zaa zab zac))))), ?_⟩
  refine⟨_,rfl,_,rfl,_,_,rfl,rfl,_,_,rfl,rfl,⟨(sm_N h0 h1).mono (by decide),(zfa (i:=1) h0 h1 (by decide)).mono (by decide)⟩,_,_,rfl,rfl,⟨by decide,by decide⟩,_,2,rfl,by decide,Sm.of (by decide+kernel),fun z H1 s1 hz=>k z H1 s1 ?_⟩
  have e:lowZ (N*(N-1)/2) 2=mnZ "crossed" N:=zln N
  rw[e] at hz
  exact hz
theorem sc_crossed_spread:FnScope ["many", "twos", "threes"] ["many"] (zag za8):=⟨rfl,rfl,rfl,by decide+kernel,rfl,by decide+kernel,by decide+kernel⟩
theorem zcL {f:Addr}{fd:FuncData}(F:Fun K "crossed_spread" "crossed_spread" za8 f fd)(T:Top mg)(Cshare_of:Cal P w K mg base 2 "share_of" ["over", "under"] zbS):FnOk P w K mg base CX0 3 f fd ["many"] (spN1 (sdZ "crossed")):=by
 refine F.ok sc_crossed_spread (fun vs H Q E h=> ?_) (fun cdv A outer s H vs Q E hr h=> ?_)
 ·obtain ⟨N,rfl,_⟩:=h
  rfl
 ·obtain ⟨N,rfl,h0,h1,k⟩:=h
  refine⟨_,(zaf (zap (i:=1) sc_crossed_spread.nd rfl (Or.inl rfl) (zaj zbT (zaj zaA (pv 0) (zaj zaP (pv 0) zab)) zab))
   (zaf (zap (i:=2) sc_crossed_spread.nd rfl (Or.inl rfl) (zaj zbT (zaj zaA (pv 1) (zaj zaP (pv 0) zab)) zab))
   (zah (zal (zak Cshare_of (hr.mono (by decide)) rfl (zaa (zaj zax (zaj zaM zab (pv 1)) (zaj zaM zab (pv 2))) (zaa zab zac))))))), ?_⟩
  have a1:=sm_N h0 h1
  have a2:=zfa (i:=1) h0 h1 (by decide)
  have a3:=zfa (i:=2) h0 h1 (by decide)
  have t1:Sm (N*(N-1)/2) 210:=by
   refine Sm.le ((a1.mul a2).mono (show 100+100<=210 by decide)) ?_
   have e:=tw_even N
   show _<=(N*(N-1)).natAbs
   (first|lia|omega)
  refine⟨_,rfl,_,rfl,_,_,rfl,rfl,_,_,rfl,rfl,⟨(sm_N h0 h1).mono (by decide),(zfa (i:=1) h0 h1 (by decide)).mono (by decide)⟩,_,_,rfl,rfl,⟨by decide,by decide⟩, ?_⟩
  refine⟨_,rfl,_,rfl,_,_,rfl,rfl,_,_,rfl,rfl,⟨t1.mono (by decide),a3.mono (by decide)⟩,_,_,rfl,rfl,⟨by decide,by decide⟩, ?_⟩
  refine⟨_,rfl,_,_,rfl,rfl,.inl ⟨by decide,by decide⟩,_,rfl,_,_,rfl,rfl,.inl ⟨by decide,by decide⟩,_,_,rfl,rfl,_,12,rfl,by decide,Sm.of (by decide+kernel),fun z H1 s1 hz=>k z H1 s1 ?_⟩
  have e:lowZ (3*(N*(N-1)/2)+2*(N*(N-1)/2*(N-2)/3)) 12=sdZ "crossed" N:=zi1 N
  rw[e] at hz
  exact hz
theorem sc_mean:FnScope ["kind", "many", "reckoned"] ["kind", "many"] (zag ziv):=⟨rfl,rfl,rfl,by decide+kernel,rfl,by decide+kernel,by decide+kernel⟩
theorem zkF {f C f1 f2 f3 f4:Addr}{fd:FuncData}(F:Fun K "mean" "mean" ziv f fd)(hC:mg "MEANS" =some (.ref C))(GD:GDict K w.params C [("rounds",f1),("stays",f2),("rises",f3),("highs",f1),("crossed",f4)])
  (c3:CalF P w K mg base 3 f3 ["many"] (spN1 (mnZ "rises"))) (c4:CalF P w K mg base 3 f4 ["many"] (spN1 (mnZ "crossed"))):FnOk P w K mg base CX0 4 f fd ["kind", "many"] (spKN mnZ):=by
 refine F.ok sc_mean (fun vs H Q E h=> ?_) (fun cdv A outer s H vs Q E hr h=> ?_)
 ·obtain ⟨kd,N,rfl,_⟩:=h
  rfl
 ·obtain ⟨kd,N,rfl,hk,h0,h1,k⟩:=h
  refine⟨_,(zaf (zap (i:=2) sc_mean.nd rfl (Or.inl rfl) (zan zgY (zbp (v:=.ref C) rfl hC rfl) (pv 0) (fun _ _=>rfl)))
   (zah (zal (zb6 (k:=3) (pv 2) hr (zaa (pv 1) zac))))), ?_⟩
  rcases hk with rfl|rfl
  ·exact⟨_,rfl,C,_,_,f3,rfl,rfl,GD,rfl,_,rfl,f3,_,_,rfl,c3,_,rfl,N,rfl,h0,h1,k⟩
  ·exact⟨_,rfl,C,_,_,f4,rfl,rfl,GD,rfl,_,rfl,f4,_,_,rfl,c4,_,rfl,N,rfl,h0,h1,k⟩
theorem sc_spread:FnScope ["kind", "many", "reckoned"] ["kind", "many"] (zag zeA):=⟨rfl,rfl,rfl,by decide+kernel,rfl,by decide+kernel,by decide+kernel⟩
theorem ziw {f C f1 f2 f3 f4:Addr}{fd:FuncData}(F:Fun K "spread" "spread" zeA f fd)(hC:mg "SPREADS" =some (.ref C))(GD:GDict K w.params C [("rounds",f1),("stays",f2),("rises",f3),("highs",f1),("crossed",f4)])
  (c3:CalF P w K mg base 3 f3 ["many"] (spN1 (sdZ "rises"))) (c4:CalF P w K mg base 3 f4 ["many"] (spN1 (sdZ "crossed"))):FnOk P w K mg base CX0 4 f fd ["kind", "many"] (spKN sdZ):=by
 refine F.ok sc_spread (fun vs H Q E h=> ?_) (fun cdv A outer s H vs Q E hr h=> ?_)
 ·obtain ⟨kd,N,rfl,_⟩:=h
  rfl
 ·obtain ⟨kd,N,rfl,hk,h0,h1,k⟩:=h
  refine⟨_,(zaf (zap (i:=2) sc_spread.nd rfl (Or.inl rfl) (zan zgY (zbp (v:=.ref C) rfl hC rfl) (pv 0) (fun _ _=>rfl)))
   (zah (zal (zb6 (k:=3) (pv 2) hr (zaa (pv 1) zac))))), ?_⟩
  rcases hk with rfl|rfl
  ·exact⟨_,rfl,C,_,_,f3,rfl,rfl,GD,rfl,_,rfl,f3,_,_,rfl,c3,_,rfl,N,rfl,h0,h1,k⟩
  ·exact⟨_,rfl,C,_,_,f4,rfl,rfl,GD,rfl,_,rfl,f4,_,_,rfl,c4,_,rfl,N,rfl,h0,h1,k⟩
theorem zdN:FnScope ["many", "number"] ["many", "number"] (zag zbI):=⟨rfl,rfl,rfl,by decide+kernel,rfl,by decide+kernel,by decide+kernel⟩
theorem zdO {f:Addr}{fd:FuncData}(F:Fun K "stays_bound" "stays_bound" zbI f fd)(Cproduct:Cal P w K mg base 1 "product" ["first", "last"] spPr):FnOk P w K mg base CX0 2 f fd ["many", "number"] (spNK bSt):=by
 refine F.ok zdN (fun vs H Q E h=> ?_) (fun cdv A outer s H vs Q E hr h=> ?_)
 ·obtain ⟨N,n,rfl,_⟩:=h
  rfl
 ·obtain ⟨N,n,rfl,h0,h1,hn,k⟩:=h
  refine⟨_,(zah (zal (zbE (zar ziH (pv 1) (pv 0) (zau _)) (zaz (zaa zab (zaa (zak Cproduct (hr.mono (by decide)) rfl (zaa zab (zaa (pv 1) zac))) zac))) (zaz (zaa zab (zaa zab zac)))))), ?_⟩
  have e:bSt N n=if (n:Int)<=N then (1,fcZ n) else (0,1):=rfl
  refine⟨_,rfl,_,rfl,_,_,rfl,rfl,_,rfl, ?_⟩
  refine ite2 (fun h=> ?_) (fun h=> ?_)
  ·rw [if_pos (of_decide_eq_true h)] at e
   refine⟨_,rfl,n,rfl,by (first|lia|omega),by show 2<=sizeLine;decide,fun z hz=>k z _ (zae hz) ?_⟩
   rw[e];exact zad
  ·rw [if_neg (fun z=>h (decide_eq_true z))] at e
   refine⟨by show 2<=sizeLine;decide,fun z hz=>k z _ (zae hz) ?_⟩
   rw[e];exact zad
theorem sc_sets_of:FnScope ["many", "number", "found", "taken"] ["many", "number"] (zag zdu):=⟨rfl,rfl,rfl,by decide+kernel,rfl,by decide+kernel,by decide+kernel⟩
theorem zhe {f:Addr}{fd:FuncData}(F:Fun K "sets_of" "sets_of" zdu f fd)(T:Top mg):FnOk P w K mg base CX0 1 f fd ["many", "number"] zfd:=by
 refine F.ok sc_sets_of (fun vs H Q E h=> ?_) (fun cdv A outer s H vs Q E hr h=> ?_)
 ·obtain ⟨N,n,rfl,_⟩:=h
  rfl
 ·obtain ⟨N,n,rfl,h0,h1,hn,k⟩:=h
  refine⟨_,(zaf (zap (i:=2) sc_sets_of.nd rfl (Or.inl rfl) zab)
   (zaf (zaR PassesOwn.never rfl (zaB rfl T.n_range (zaa (pv 1) zac)) (zat (i:=3) sc_sets_of.nd rfl (Or.inl rfl))
    (zah (zap (i:=2) sc_sets_of.nd rfl (Or.inl rfl) (zaj zbT (zaj zaA (pv 2) (zaj zaP (pv 0) (pv 3))) (zaj zax (pv 3) zab)))))
   (zah (zal (pv 2))))), ?_⟩
  refine⟨_,rfl,_,rfl,by (first|lia|omega),by (first|lia|omega), ?_⟩
  rw[Int.toNat_natCast]
  refine zaI (fun i σ G=>G=H/\∃c:Option V,σ=[some (.int N),some (.int n),some (.int (sZ N i)),c]) ⟨rfl,none,rfl⟩ ?_ ?_
  ·rintro i σ G hi ⟨rfl,c,rfl⟩
   rw[Int.zero_add]
   refine⟨_,rfl,_,rfl,_,rfl,_,_,rfl,rfl,_,_,rfl,rfl,⟨(zhX h0 h1 i (by (first|lia|omega))).mono (by (first|lia|omega)),(zfa h0 h1 (by (first|lia|omega))).mono (by decide)⟩,_,rfl,_,_,rfl,rfl,_,_,rfl,rfl,⟨by (first|lia|omega),by (first|lia|omega)⟩,rfl,some (.int (i:Int)),rfl⟩
  ·rintro σ G ⟨rfl,c,rfl⟩
   exact⟨_,rfl,k⟩
theorem sc_power:FnScope ["base", "number", "found", "time"] ["base", "number"] (zag zfY):=⟨rfl,rfl,rfl,by decide+kernel,rfl,by decide+kernel,by decide+kernel⟩
theorem zjm {f:Addr}{fd:FuncData}(F:Fun K "power" "power" zfY f fd)(T:Top mg):FnOk P w K mg base CX0 1 f fd ["base", "number"] zkl:=by
 refine F.ok sc_power (fun vs H Q E h=> ?_) (fun cdv A outer s H vs Q E hr h=> ?_)
 ·obtain ⟨b,n,rfl,_⟩:=h
  rfl
 ·obtain ⟨b,n,rfl,b0,b1,hn,k⟩:=h
  refine⟨_,(zaf (zap (i:=2) sc_power.nd rfl (Or.inl rfl) zab)
   (zaf (zaR PassesOwn.never rfl (zaB rfl T.n_range (zaa (pv 1) zac)) (zat (i:=3) sc_power.nd rfl (Or.inl rfl))
    (zah (zap (i:=2) sc_power.nd rfl (Or.inl rfl) (zaj zaM (pv 2) (pv 0)))))
   (zah (zal (pv 2))))), ?_⟩
  refine⟨_,rfl,_,rfl,by (first|lia|omega),by (first|lia|omega), ?_⟩
  rw[Int.toNat_natCast]
  refine zaI (fun i σ G=>G=H/\∃c:Option V,σ=[some (.int b),some (.int n),some (.int (b^i)),c]) ⟨rfl,none,by rw[Int.pow_zero];rfl⟩ ?_ ?_
  ·rintro i σ G hi ⟨rfl,c,rfl⟩
   refine⟨_,rfl,_,rfl,_,_,rfl,rfl,.inr ⟨by (first|lia|omega),by (first|lia|omega)⟩,rfl,some (.int (0+(i:Int))), ?_⟩
   rw[Int.pow_succ]
   rfl
  ·rintro σ G ⟨rfl,c,rfl⟩
   exact⟨_,rfl,k⟩
theorem zcW:FnScope ["many", "number"] ["many", "number"] (zag zbh):=⟨rfl,rfl,rfl,by decide+kernel,rfl,by decide+kernel,by decide+kernel⟩
theorem zcX {f:Addr}{fd:FuncData}(F:Fun K "longest_bound" "longest_bound" zbh f fd)(Cshare_of:Cal P w K mg base 2 "share_of" ["over", "under"] zbS)(Cproduct:Cal P w K mg base 1 "product" ["first", "last"] spPr)(Csets_of:Cal P w K mg base 1 "sets_of" ["many", "number"] zfd):FnOk P w K mg base CX0 3 f fd ["many", "number"] (spNK bLg):=by
 refine F.ok zcW (fun vs H Q E h=> ?_) (fun cdv A outer s H vs Q E hr h=> ?_)
 ·obtain ⟨N,n,rfl,_⟩:=h
  rfl
 ·obtain ⟨N,n,rfl,h0,h1,hn,k⟩:=h
  refine⟨_,(zah (zal (zak Cshare_of (hr.mono (by decide)) rfl (zaa (zak Csets_of (hr.mono (by decide)) rfl (zaa (pv 0) (zaa (pv 1) zac))) (zaa (zak Cproduct (hr.mono (by decide)) rfl (zaa zab (zaa (pv 1) zac))) zac))))), ?_⟩
  refine⟨_,rfl,_,rfl,N,n,rfl,h0,h1,hn,_,rfl,n,rfl,by (first|lia|omega), ?_⟩
  exact⟨_,_,rfl,zaK n,(zbg (by (first|lia|omega))).mono (by decide),fun z H1 s1 hz=>k z H1 s1 hz⟩
theorem zdy:FnScope ["many", "number"] ["many", "number"] (zag zbu):=⟨rfl,rfl,rfl,by decide+kernel,rfl,by decide+kernel,by decide+kernel⟩
theorem zdz {f:Addr}{fd:FuncData}(F:Fun K "groups_bound" "groups_bound" zbu f fd)(Cshare_of:Cal P w K mg base 2 "share_of" ["over", "under"] zbS)(Cproduct:Cal P w K mg base 1 "product" ["first", "last"] spPr)(Cpower:Cal P w K mg base 1 "power" ["base", "number"] zkl):FnOk P w K mg base CX0 3 f fd ["many", "number"] (spNK bGr):=by
 refine F.ok zdy (fun vs H Q E h=> ?_) (fun cdv A outer s H vs Q E hr h=> ?_)
 ·obtain ⟨N,n,rfl,_⟩:=h
  rfl
 ·obtain ⟨N,n,rfl,h0,h1,hn,k⟩:=h
  refine⟨_,(zah (zal (zak Cshare_of (hr.mono (by decide)) rfl (zaa (zak Cpower (hr.mono (by decide)) rfl (zaa (zjI PySem.F.plainAttrs_int PySem.F.slot_int_bit_length PySem.F.type_int_bit_length ze8 (pv 0)) (zaa (pv 1) zac))) (zaa (zak Cproduct (hr.mono (by decide)) rfl (zaa zab (zaa (pv 1) zac))) zac))))), ?_⟩
  have fl:=zgt h0 h1
  refine⟨_,rfl,rfl,_,rfl,rfl,_,rfl,figZ N,n,rfl,fl.1,by (first|lia|omega),hn,_,rfl,n,rfl,by (first|lia|omega), ?_⟩
  exact⟨_,_,rfl,zaK n,(zbg (by (first|lia|omega))).mono (by decide),fun z H1 s1 hz=>k z H1 s1 hz⟩
theorem sc_spread_bound:FnScope ["kind", "many", "number", "beyond"] ["kind", "many", "number"] (zag zbv):=⟨rfl,rfl,rfl,by decide+kernel,rfl,by decide+kernel,by decide+kernel⟩
set_option maxHeartbeats 8000000 in
theorem zdA {f:Addr}{fd:FuncData}(F:Fun K "spread_bound" "spread_bound" zbv f fd)(Cless:Cal P w K mg base 3 "less" ["one", "other"] (spSh leZ))(Ctimes:Cal P w K mg base 3 "times" ["one", "other"] (spSh tmZ))(Cparted:Cal P w K mg base 3 "parted" ["one", "other"] spPt)(Cis_less:Cal P w K mg base 1 "is_less" ["one", "other"] zem)(Cmean:Cal P w K mg base 4 "mean" ["kind", "many"] (spKN mnZ))(Cspread:Cal P w K mg base 4 "spread" ["kind", "many"] (spKN sdZ)):FnOk P w K mg base CX0 5 f fd ["kind", "many", "number"] zi3:=by
 refine F.ok sc_spread_bound (fun vs H Q E h=> ?_) (fun cdv A outer s H vs Q E hr h=> ?_)
 ·obtain ⟨kd,N,n,rfl,_⟩:=h
  rfl
 ·obtain ⟨kd,N,n,rfl,hk,h0,h1,hn,k⟩:=h
  refine⟨_,(zaf (zap (i:=3) sc_spread_bound.nd rfl (Or.inl rfl) (zak Cless (hr.mono (by decide)) rfl (zaa (zaz (zaa (pv 2) (zaa zab zac))) (zaa (zak Cmean (hr.mono (by decide)) rfl (zaa (pv 0) (zaa (pv 1) zac))) zac))))
   (zaf (zaY (zbQ (zbA (zak Cis_less (hr.mono (by decide)) rfl (zaa (zaz (zaa zab (zaa zab zac))) (zaa (pv 3) zac)))))
    (zah (zal (zaz (zaa zab (zaa zab zac)))))
    zay)
   (zah (zal (zak Cparted (hr.mono (by decide)) rfl (zaa (zak Cspread (hr.mono (by decide)) rfl (zaa (pv 0) (zaa (pv 1) zac))) (zaa (zak Ctimes (hr.mono (by decide)) rfl (zaa (pv 3) (zaa (pv 3) zac))) zac))))))), ?_⟩
  have mb:=zg3 (kind:=kd) h0 h1
  have db:=zg4 (kind:=kd) h0 h1
  have fb:=zgq (kind:=kd) (k:=(n:Int)) h0 h1 (by (first|lia|omega)) (by (first|lia|omega))
  have nb:ShB ((n:Int),1) 3900:=⟨Int.one_pos,Sm.of (Nat.lt_of_le_of_lt (show ((n:Int)).natAbs<=60 by (first|lia|omega)) (by decide+kernel)),sm1⟩
  have e:sbZ kd N n=if farZ kd N n<=0 then (1,1) else lowZ (ovZ kd N) (unZ kd N n):=rfl
  refine⟨_,rfl,by show 2<=sizeLine;decide,fun t ht=> ?_⟩
  refine⟨_,rfl,_,rfl,kd,N,rfl,hk,h0,h1,fun m H1 s1 hm=> ?_⟩
  refine⟨t,m,_,_,rfl,s1 _ _ zad,hm,nb,mb.mono (by decide),fun b H2 s2 hb=> ?_⟩
  rw[zfb] at hb
  have S2:=((zae (o:=.tup [.int (n:Int),.int 1]) ht).trans s1).trans s2
  refine⟨by show 2<=sizeLine;decide,fun o ho=> ?_⟩
  have so:=zae (o:=.tup [.int 0,.int 1]) ho
  have bb:ShB (lowZ (farZ kd N n) (mnZ kd N).2) 3900:=ShB.low mb.pos (fb.mono (by decide)) (mb.s2.mono (by decide))
  refine⟨_,rfl,o,b,(0,1),_,rfl,zad,so _ _ hb,⟨by decide,Sm.of (by decide+kernel),Sm.of (by decide+kernel)⟩,bb.mono (by decide),fun H3 s3=> ?_⟩
  rw[zfc mb.pos]
  have hb3:=(so.trans s3) _ _ hb
  have S3:=(S2.trans so).trans s3
  by_cases hf:0<farZ kd N n
  ·rw [decide_eq_true hf]
   refine⟨_,rfl,iteF ?_⟩
   rw[if_neg (by (first|lia|omega))] at e
   refine⟨_,rfl,_,rfl,kd,N,rfl,hk,h0,h1,fun d H4 s4 hd=> ?_⟩
   refine⟨_,rfl,_,rfl,b,b,_,_,rfl,s4 _ _ hb3,s4 _ _ hb3,bb,bb,fun q H5 s5 hq=> ?_⟩
   have tb:ShB (tmZ (lowZ (farZ kd N n) (mnZ kd N).2) (lowZ (farZ kd N n) (mnZ kd N).2)) 3900:=by
    rw[ze9 mb.pos mb.pos]
    exact ShB.low (Int.mul_pos mb.pos mb.pos) ((fb.mul fb).mono (by decide)) ((mb.s2.mul mb.s2).mono (by decide))
   have tp:0<(tmZ (lowZ (farZ kd N n) (mnZ kd N).2) (lowZ (farZ kd N n) (mnZ kd N).2)).1:=by
    rw[ze9 mb.pos mb.pos]
    exact zdn (Int.mul_pos mb.pos mb.pos) (Int.mul_pos hf hf)
   refine⟨d,q,_,_,rfl,s5 _ _ hd,hq,db.mono (by decide),tb,tp,fun z H6 s6 hz=>k z H6 (((S3.trans s4).trans s5).trans s6) ?_⟩
   rw[zgs h0 h1 hf] at hz
   rw[e];exact hz
  ·rw [decide_eq_false hf]
   refine⟨_,rfl,iteT ?_⟩
   rw[if_pos (by (first|lia|omega))] at e
   refine⟨by show 2<=sizeLine;decide,fun z hz=>k z _ (S3.trans (zae hz)) ?_⟩
   rw[e];exact zad
theorem zdP:FnScope ["many", "number"] ["many", "number"] (zag zbJ):=⟨rfl,rfl,rfl,by decide+kernel,rfl,by decide+kernel,by decide+kernel⟩
theorem zdQ {f:Addr}{fd:FuncData}(F:Fun K "rises_bound" "rises_bound" zbJ f fd)(Cspread_bound:Cal P w K mg base 5 "spread_bound" ["kind", "many", "number"] zi3):FnOk P w K mg base CX0 6 f fd ["many", "number"] (spNK fun N k=>sbZ "rises" N k):=by
 refine F.ok zdP (fun vs H Q E h=> ?_) (fun cdv A outer s H vs Q E hr h=> ?_)
 ·obtain ⟨N,n,rfl,_⟩:=h
  rfl
 ·obtain ⟨N,n,rfl,h0,h1,hn,k⟩:=h
  refine⟨_,(zah (zal (zak Cspread_bound (hr.mono (by decide)) rfl (zaa zaE (zaa (pv 0) (zaa (pv 1) zac)))))), ?_⟩
  exact⟨_,rfl,_,rfl, "rises",N,n,rfl,.inl rfl,h0,h1,hn,k⟩
theorem zcY:FnScope ["many", "number"] ["many", "number"] (zag zbi):=⟨rfl,rfl,rfl,by decide+kernel,rfl,by decide+kernel,by decide+kernel⟩
theorem zcZ {f:Addr}{fd:FuncData}(F:Fun K "crossed_bound" "crossed_bound" zbi f fd)(Cspread_bound:Cal P w K mg base 5 "spread_bound" ["kind", "many", "number"] zi3):FnOk P w K mg base CX0 6 f fd ["many", "number"] (spNK fun N k=>sbZ "crossed" N k):=by
 refine F.ok zcY (fun vs H Q E h=> ?_) (fun cdv A outer s H vs Q E hr h=> ?_)
 ·obtain ⟨N,n,rfl,_⟩:=h
  rfl
 ·obtain ⟨N,n,rfl,h0,h1,hn,k⟩:=h
  refine⟨_,(zah (zal (zak Cspread_bound (hr.mono (by decide)) rfl (zaa zaE (zaa (pv 0) (zaa (pv 1) zac)))))), ?_⟩
  exact⟨_,rfl,_,rfl, "crossed",N,n,rfl,.inr rfl,h0,h1,hn,k⟩
theorem sc_most_share:FnScope ["kind", "many", "number", "bound"] ["kind", "many", "number"] (zag zb3):=⟨rfl,rfl,rfl,by decide+kernel,rfl,by decide+kernel,by decide+kernel⟩
set_option maxHeartbeats 8000000 in
theorem zeD {f C f1 f2 f3 f4 f5:Addr}{fd:FuncData}(F:Fun K "most_share" "most_share" zb3 f fd)(hC:mg "BOUNDS" =some (.ref C))(GD:GDict K w.params C [("rounds",f1),("stays",f2),("rises",f3),("highs",f1),("crossed",f4),("longest",f5)])
  (c1:CalF P w K mg base 6 f1 ["many", "number"] (spNK bGr)) (c2:CalF P w K mg base 6 f2 ["many", "number"] (spNK bSt)) (c3:CalF P w K mg base 6 f3 ["many", "number"] (spNK fun N k=>sbZ "rises" N k)) (c4:CalF P w K mg base 6 f4 ["many", "number"] (spNK fun N k=>sbZ "crossed" N k)) (c5:CalF P w K mg base 6 f5 ["many", "number"] (spNK bLg)) (Clesser:Cal P w K mg base 2 "lesser" ["one", "other"] (zkk minZ)):FnOk P w K mg base CX0 7 f fd ["kind", "many", "number"] zgu:=by
 refine F.ok sc_most_share (fun vs H Q E h=> ?_) (fun cdv A outer s H vs Q E hr h=> ?_)
 ·obtain ⟨kd,N,n,rfl,_⟩:=h
  rfl
 ·obtain ⟨kd,N,n,rfl,hk,h0,h1,hn,k⟩:=h
  refine⟨_,(zaf (zaY (zar zcT (pv 2) zab (zau _))
    (zah (zal (zaz (zaa zab (zaa zab zac)))))
    zay)
   (zaf (zap (i:=3) sc_most_share.nd rfl (Or.inl rfl) (zan zgY (zbp (v:=.ref C) rfl hC rfl) (pv 0) (fun _ _=>rfl)))
   (zah (zal (zak Clesser (hr.mono (by decide)) rfl (zaa (zaz (zaa zab (zaa zab zac))) (zaa (zb6 (k:=6) (pv 3) hr (zaa (pv 1) (zaa (pv 2) zac))) zac))))))), ?_⟩
  refine⟨_,rfl,rfl,_,rfl, ?_⟩
  have one:ShB (1,1) 8000:=⟨by decide,Sm.of (by decide+kernel),Sm.of (by decide+kernel)⟩
  by_cases hz0:n=0
  ·subst hz0
   refine iteT ⟨by show 2<=sizeLine;decide,fun z hz=>k z _ (zae hz) ?_⟩
   exact zad
  ·rw [decide_eq_false (fun e=>hz0 (by have:=V.int.inj e;(first|lia|omega)))]
   refine iteF ?_
   have e:zb9 kd N n=if kd= "stays" then bSt N n else if kd= "longest" then capZ (sZ N n) (fcZ n) else if kd= "rounds" ∨kd= "highs" then capZ (figZ N^n) (fcZ n) else if farZ kd N n<=0 then (1,1) else capZ (ovZ kd N) (unZ kd N n):=by
    unfold zb9
    rw[if_neg hz0]
   have hk6:kd= "rounds" ∨kd= "stays" ∨kd= "rises" ∨kd= "highs" ∨kd= "crossed" ∨kd= "longest" :=by simpa [zaF] using hk
   have two:(2:Nat)<=sizeLine:=by decide
   rcases hk6 with rfl|rfl|rfl|rfl|rfl|rfl
   ·refine ⟨_,rfl,C,_,_,f1,rfl,rfl,GD,rfl,two,fun t ht=>⟨_,rfl,f1,_,_,rfl,c1,_,rfl,_,rfl,N,n,rfl,h0,h1,hn,fun b H1 s1 hb=> ?_⟩⟩
    refine⟨t,b,(1,1),_,rfl,s1 _ _ zad,hb,one,zlu h0 h1 hn,fun z H2 s2 hz=>k z H2 (((zae ht).trans s1).trans s2) ?_⟩
    rw[e]
    unfold bGr at hz
    rw[zel (zaK n)] at hz
    exact hz
   ·refine ⟨_,rfl,C,_,_,f2,rfl,rfl,GD,rfl,two,fun t ht=>⟨_,rfl,f2,_,_,rfl,c2,_,rfl,_,rfl,N,n,rfl,h0,h1,hn,fun b H1 s1 hb=> ?_⟩⟩
    refine⟨t,b,(1,1),_,rfl,s1 _ _ zad,hb,one,zlt hn,fun z H2 s2 hz=>k z H2 (((zae ht).trans s1).trans s2) ?_⟩
    rw[e]
    rw[zls] at hz
    exact hz
   ·refine ⟨_,rfl,C,_,_,f3,rfl,rfl,GD,rfl,two,fun t ht=>⟨_,rfl,f3,_,_,rfl,c3,_,rfl,_,rfl,N,n,rfl,h0,h1,hn,fun b H1 s1 hb=> ?_⟩⟩
    refine⟨t,b,(1,1),_,rfl,s1 _ _ zad,hb,one,(zlr h0 h1 (by (first|lia|omega)) (by (first|lia|omega))).mono (by decide),fun z H2 s2 hz=>k z H2 (((zae ht).trans s1).trans s2) ?_⟩
    rw[e]
    rw[zjO h0 h1] at hz
    exact hz
   ·refine ⟨_,rfl,C,_,_,f1,rfl,rfl,GD,rfl,two,fun t ht=>⟨_,rfl,f1,_,_,rfl,c1,_,rfl,_,rfl,N,n,rfl,h0,h1,hn,fun b H1 s1 hb=> ?_⟩⟩
    refine⟨t,b,(1,1),_,rfl,s1 _ _ zad,hb,one,zlu h0 h1 hn,fun z H2 s2 hz=>k z H2 (((zae ht).trans s1).trans s2) ?_⟩
    rw[e]
    unfold bGr at hz
    rw[zel (zaK n)] at hz
    exact hz
   ·refine ⟨_,rfl,C,_,_,f4,rfl,rfl,GD,rfl,two,fun t ht=>⟨_,rfl,f4,_,_,rfl,c4,_,rfl,_,rfl,N,n,rfl,h0,h1,hn,fun b H1 s1 hb=> ?_⟩⟩
    refine⟨t,b,(1,1),_,rfl,s1 _ _ zad,hb,one,(zlr h0 h1 (by (first|lia|omega)) (by (first|lia|omega))).mono (by decide),fun z H2 s2 hz=>k z H2 (((zae ht).trans s1).trans s2) ?_⟩
    rw[e]
    rw[zjO h0 h1] at hz
    exact hz
   ·refine ⟨_,rfl,C,_,_,f5,rfl,rfl,GD,rfl,two,fun t ht=>⟨_,rfl,f5,_,_,rfl,c5,_,rfl,_,rfl,N,n,rfl,h0,h1,hn,fun b H1 s1 hb=> ?_⟩⟩
    refine⟨t,b,(1,1),_,rfl,s1 _ _ zad,hb,one,zmj h0 h1 hn,fun z H2 s2 hz=>k z H2 (((zae ht).trans s1).trans s2) ?_⟩
    rw[e]
    unfold bLg at hz
    rw[zel (zaK n)] at hz
    exact hz
end
end K63
namespace L2
open PySem PySem.Spec PyProof.Rows
theorem zkG {S:Addr->Prop}{H:Hp}{x:V}{d:PyData}(h:IsY S H x d):isIv x=whD d:=by
 cases h<;>rfl
end L2
namespace K63
open PySem PySem.Spec PyProof.Rows L2
noncomputable abbrev zcM:Stmt:=top 1
noncomputable abbrev zbn:Stmt:=top 2
section
variable {P:Program}{w:World}{K:PySem.W.Frag}{mg:Str->Option Value}{base:Heap}
theorem zfZ:FnScope ["thing"] ["thing"] (zag zcM):=⟨rfl,rfl,rfl,by decide+kernel,rfl,by decide+kernel,by decide+kernel⟩
set_option maxHeartbeats 8000000 in
theorem zf0 {f:Addr}{fd:FuncData}(F:Fun K "is_whole" "is_whole" zcM f fd)(T:Top mg):FnOk P w K mg base CX0 1 f fd ["thing"] (zi7 K):=by
 refine F.ok zfZ (fun vs H Q E h=> ?_) (fun cdv A outer s H vs Q E hr h=> ?_)
 ·obtain ⟨x,rfl,_⟩:=h
  rfl
 ·obtain ⟨x,rfl,⟨t,ht,hm⟩,k⟩:=h
  refine⟨_,(zah (zal (zgb (zao zcn (by rfl) T.n_isinstance boot_isinstance (zaa (pv 0) (zaa (zdb (v:=.ty "int") rfl T.n_int boot_int rfl) zac))) (zga (zeL (zao zcn (by rfl) T.n_isinstance boot_isinstance (zaa (pv 0) (zaa (zdb (v:=.ty "bool") rfl T.n_bool boot_bool rfl) zac)))))))), ?_⟩
  obtain⟨k1,k2,_⟩:=kit7 (K:=K) hm
  have hi:=(tyI ht).trans isIv_iff.symm
  refine⟨_,rfl,_,_,_,_,rfl,ht,k1,_,rfl, ?_⟩
  by_cases hb:t= "bool"
  ·subst hb
   refine iteT ⟨_,rfl,_,_,_,_,rfl,ht,k2,_,rfl, ?_⟩
   have:isIv x=false:=by
    cases e:isIv x with
    |false=>rfl
    |true=>exact absurd (hi.mpr e) (by decide)
   rw[this] at k
   exact k
  ·by_cases hI:t= "int"
   ·subst hI
    refine iteT ⟨_,rfl,_,_,_,_,rfl,ht,k2,_,rfl, ?_⟩
    rw[hi.mp rfl] at k
    exact k
   ·have e0:(t== "bool" ||t== "int")=false:=by
     rw[beq_eq_false_iff_ne.mpr hb,beq_eq_false_iff_ne.mpr hI]
     rfl
    have:isIv x=false:=by
     cases e:isIv x with
     |false=>rfl
     |true=>exact absurd (hi.mpr e) hI
    rw[this] at k
    rw[e0]
    exact iteF k
theorem zeE:FnScope ["thing"] ["thing"] (zag zbn):=⟨rfl,rfl,rfl,by decide+kernel,rfl,by decide+kernel,by decide+kernel⟩
set_option maxHeartbeats 8000000 in
theorem zeF {f:Addr}{fd:FuncData}(F:Fun K "are_wholes" "are_wholes" zbn f fd)(T:Top mg)(Cis_whole:Cal P w K mg base 1 "is_whole" ["thing"] (zi7 K)):FnOk P w K mg base CX0 2 f fd ["thing"] zh3:=by
 refine F.ok zeE (fun vs H Q E h=> ?_) (fun cdv A outer s H vs Q E hr h=> ?_)
 ·obtain ⟨S,x,d,rfl,_⟩:=h
  rfl
 ·obtain ⟨S,x,d,rfl,y,sz,k⟩:=h
  refine⟨_,(zah (zal (zgb (zao zcn (by rfl) T.n_isinstance boot_isinstance (zaa (pv 0) (zaa (zdb (v:=.ty "tuple") rfl T.n_tuple boot_tuple rfl) zac))) (zga (zao (ziN rfl) (by rfl) T.n_all boot_all (zaa (zcU (N':=["number"]) (n:=1) (ix:=[]) rfl (CompScope.of (sc:=zag zbn) (N:=["thing"]) (by decide+kernel) rfl rfl) (zhn (pv 0)) (fun _ _ _ _ _=>⟨(zat (i:=0) (show (["number"]:List Str).Nodup by decide+kernel) rfl (Or.inl rfl)),zbW,(zak Cis_whole (hr.mono (by decide)) rfl (zaa (pv 0) zac))⟩)) zac)))))), ?_⟩
  obtain⟨_,_,k3⟩:=kit7 (K:=K) (zh1 d)
  refine⟨_,rfl,_,_,_,_,rfl,y.ty,k3,_,rfl, ?_⟩
  rcases y.isT with⟨a,vs,ds,rfl,rfl,ha,al⟩|⟨hne,hn⟩
  ·refine iteT ?_
   refine⟨_,rfl,a,rfl,⟨_,SqT.of ha⟩, ?_⟩
   have hl:vs.length<=1000:=by rw[al.len];exact sz.tup.1
   refine zi8 (zd3 (K:=K) (a:=a) (xs:=vs)) (zaW hl) (ds.map whD) (by rw[List.length_map,al.len]) (fun G sm=>SqT.of (sm _ _ ha)) (fun i v b G hv hb sm Q' q=> ?_) fun acc G hacc sm hG=> ?_
   ·obtain ⟨e,he,ye⟩:=al.at hv
    rw[List.getElem?_map,he] at hb
    cases hb
    refine⟨_,rfl,v,rfl,(ye.same sm).kn, ?_⟩
    rw[zkG ye]
    exact q G (Same.refl G)
   ·refine ⟨acc,_,rfl,hG, ?_⟩
    have:=k G sm
    rw[show zdq (.tuple ds)=(ds.map whD).all id by rw[List.all_map];rfl] at this
    exact this
  ·rw [beq_eq_false_iff_ne.mpr hne]
   refine iteF ?_
   have:=k H (Same.refl H)
   rw[show zdq d=false by cases d<;>first|rfl|exact absurd rfl (hn _)] at this
   exact this
end
noncomputable abbrev zcN:Stmt:=top 3
noncomputable abbrev zbK:Stmt:=top 52
noncomputable abbrev zbj:Stmt:=top 53
noncomputable abbrev zbw:Stmt:=top 54
noncomputable abbrev zbL:Stmt:=top 55
noncomputable abbrev zbk:Stmt:=top 56
noncomputable abbrev zch:Stmt:=top 58
section
variable {P:Program}{w:World}{K:PySem.W.Frag}{mg:Str->Option Value}{base:Heap}
theorem zf1:FnScope ["thing", "numbers"] ["thing", "numbers"] (zag zcN):=⟨rfl,rfl,rfl,by decide+kernel,rfl,by decide+kernel,by decide+kernel⟩
theorem zf2 {f:Addr}{fd:FuncData}(F:Fun K "are_just" "are_just" zcN f fd)(Care_wholes:Cal P w K mg base 2 "are_wholes" ["thing"] zh3):FnOk P w K mg base CX0 3 f fd ["thing", "numbers"] zgz:=by
 refine F.ok zf1 (fun vs H Q E h=> ?_) (fun cdv A outer s H vs Q E hr h=> ?_)
 ·obtain ⟨S,x,d,b,ns,rfl,_⟩:=h
  rfl
 ·obtain ⟨S,x,d,b,ns,rfl,yd,hz,hb,k⟩:=h
  have hu:_:=hr.units
  refine⟨_,(zah (zal (zgb (zak Care_wholes (hr.mono (by decide)) rfl (zaa (pv 0) zac)) (zga (zbG (zld hu) (pv 0) (pv 1) (zau _)))))), ?_⟩
  refine⟨_,rfl,S,x,d,rfl,yd,hz,fun G s1=>⟨_,rfl, ?_⟩⟩
  by_cases c:zdq d=true
  ·rw [c]
   rcases yd.isT with⟨a,us,ds,rfl,rfl,ha,al⟩|⟨_,q⟩
   ·have e:=zh2 al c
    subst e
    refine iteT ⟨_,rfl,_,rfl,_,_,Is.ints (s1 _ _ ha),Is.ints (s1 _ _ hb),zcP _,zcP _, ?_⟩
    have e2:juD ns (.tuple ds)=PyData.eqv (.tuple ((ds.map asI).map PyData.int)) (.tuple (ns.map PyData.int)):=by
     show (ds.all whD&&decide (ds.map asI=ns))=PyData.eqvAll _ _
     rw[zgj,show ds.all whD=true from c];rfl
    rw[<-e2]
    exact k G s1
   ·cases d with
    |tuple ds=>exact absurd rfl (q ds)
    |_=>cases c
  ·have c':zdq d=false:=by simpa using c
   rw[c']
   refine iteF ?_
   have e:juD ns d=false:=by
    cases d with
    |tuple ds=>
     show (ds.all whD&&_)=false
     rw[show ds.all whD=false from c'];rfl
    |_=>rfl
   rw[<-e]
   exact k G s1
theorem sc_stays_paper:FnScope ["many", "number", "sets"] ["many", "number"] (zag zbK):=⟨rfl,rfl,rfl,by decide+kernel,rfl,by decide+kernel,by decide+kernel⟩
theorem zdR {f:Addr}{fd:FuncData}(F:Fun K "stays_paper" "stays_paper" zbK f fd)(Csets_of:Cal P w K mg base 1 "sets_of" ["many", "number"] zfd)(Cproduct:Cal P w K mg base 1 "product" ["first", "last"] zku):FnOk P w K mg base CX0 2 f fd ["many", "number"] (zaX "stays"):=by
 refine F.ok sc_stays_paper (fun vs H Q E h=> ?_) (fun cdv A outer s H vs Q E hr h=> ?_)
 ·obtain ⟨N,n,rfl,_⟩:=h
  rfl
 ·obtain ⟨N,n,rfl,hN,hn,k⟩:=h
  refine⟨_,(zaf (zap (i:=2) sc_stays_paper.nd rfl (Or.inl rfl) (zak Csets_of (hr.mono (by decide)) rfl (zaa (pv 0) (zaa (pv 1) zac))))
   (zah (zal (zaz (zaa zaE (zaa (pv 2) (zaa (zbE (zar zee (pv 2) zab (zau _)) (zaz (zaa zab (zaa (zak Cproduct (hr.mono (by decide)) rfl (zaa (zaj zax (zaj zaP (pv 0) (pv 1)) zab) (zaa (pv 0) zac))) zac))) (zaz (zaa zab (zaa zab zac)))) zac))))))), ?_⟩
  have n0:(0:Int)<=(N:Int):=by (first|lia|omega)
  have n1:=hN
  refine⟨_,rfl,_,rfl,N,n,rfl,n0,n1,hn, ?_⟩
  refine⟨_,rfl,_,rfl,_,_,rfl,rfl,_,rfl, ?_⟩
  have fin:∀(y:Addr) (G:Hp),Same H G->Shr G y (eaZ "stays" N n)->∀z,G z=none->PapT "stays" N n (upd G z (.tup [.str "sets",.int (sZ N n),.ref y])) z:=fun y G sG hy z hz=>⟨_,zad,.cons (.str _) (.cons (.int _) (.cons (Shr.isY (zae hz _ _ hy)) .nil))⟩
  refine ite2 (fun h=> ?_) (fun h=> ?_)
  ·have hp:0<sZ N n:=of_decide_eq_true h
   have kN:=zgA hp
   refine⟨_,rfl,_,rfl,_,_,rfl,rfl,_,_,rfl,rfl,_,rfl,N,(N:Int)-n+1,n, ?_,by (first|lia|omega),by (first|lia|omega),hN,hn,by show 2<=sizeLine;decide,fun y hy=> ?_⟩
   ·congr 2
    congr 1
    (first|lia|omega)
   refine⟨by show 3<=sizeLine;decide,fun z hz=> ?_⟩
   refine k z _ ((zae hy).trans (zae hz)) (fin y _ (zae hy) ?_ z hz)
   have e:eaZ "stays" N n=(1,prN ((N:Int)-n+1) n):=by unfold eaZ;rw[if_pos hp,if_pos rfl]
   rw[e]
   exact zad
  ·have hp:¬0<sZ N n:=fun z=>h (decide_eq_true z)
   refine⟨by show 2<=sizeLine;decide,fun y hy=>⟨by show 3<=sizeLine;decide,fun z hz=> ?_⟩⟩
   refine k z _ ((zae hy).trans (zae hz)) (fin y _ (zae hy) ?_ z hz)
   have e:eaZ "stays" N n=(0,1):=by unfold eaZ;rw[if_neg hp]
   rw[e]
   exact zad
theorem sc_longest_paper:FnScope ["many", "number", "sets"] ["many", "number"] (zag zbj):=⟨rfl,rfl,rfl,by decide+kernel,rfl,by decide+kernel,by decide+kernel⟩
theorem zc0 {f:Addr}{fd:FuncData}(F:Fun K "longest_paper" "longest_paper" zbj f fd)(Csets_of:Cal P w K mg base 1 "sets_of" ["many", "number"] zfd)(Cproduct:Cal P w K mg base 1 "product" ["first", "last"] spPr):FnOk P w K mg base CX0 2 f fd ["many", "number"] (zaX "longest"):=by
 refine F.ok sc_longest_paper (fun vs H Q E h=> ?_) (fun cdv A outer s H vs Q E hr h=> ?_)
 ·obtain ⟨N,n,rfl,_⟩:=h
  rfl
 ·obtain ⟨N,n,rfl,hN,hn,k⟩:=h
  refine⟨_,(zaf (zap (i:=2) sc_longest_paper.nd rfl (Or.inl rfl) (zak Csets_of (hr.mono (by decide)) rfl (zaa (pv 0) (zaa (pv 1) zac))))
   (zah (zal (zaz (zaa zaE (zaa (pv 2) (zaa (zbE (zar zee (pv 2) zab (zau _)) (zaz (zaa zab (zaa (zak Cproduct (hr.mono (by decide)) rfl (zaa zab (zaa (pv 1) zac))) zac))) (zaz (zaa zab (zaa zab zac)))) zac))))))), ?_⟩
  have n0:(0:Int)<=(N:Int):=by (first|lia|omega)
  have n1:=hN
  refine⟨_,rfl,_,rfl,N,n,rfl,n0,n1,hn, ?_⟩
  refine⟨_,rfl,_,rfl,_,_,rfl,rfl,_,rfl, ?_⟩
  have fin:∀(y:Addr) (G:Hp),Same H G->Shr G y (eaZ "longest" N n)->∀z,G z=none->PapT "longest" N n (upd G z (.tup [.str "sets",.int (sZ N n),.ref y])) z:=fun y G sG hy z hz=>⟨_,zad,.cons (.str _) (.cons (.int _) (.cons (Shr.isY (zae hz _ _ hy)) .nil))⟩
  refine ite2 (fun h=> ?_) (fun h=> ?_)
  ·have hp:0<sZ N n:=of_decide_eq_true h
   refine⟨_,rfl,n,rfl,by (first|lia|omega),by show 2<=sizeLine;decide,fun y hy=> ?_⟩
   refine⟨by show 3<=sizeLine;decide,fun z hz=> ?_⟩
   refine k z _ ((zae hy).trans (zae hz)) (fin y _ (zae hy) ?_ z hz)
   have e:eaZ "longest" N n=(1,fcZ n):=by unfold eaZ;rw[if_pos hp,if_neg (by decide)]
   rw[e]
   exact zad
  ·have hp:¬0<sZ N n:=fun z=>h (decide_eq_true z)
   refine⟨by show 2<=sizeLine;decide,fun y hy=>⟨by show 3<=sizeLine;decide,fun z hz=> ?_⟩⟩
   refine k z _ ((zae hy).trans (zae hz)) (fin y _ (zae hy) ?_ z hz)
   have e:eaZ "longest" N n=(0,1):=by unfold eaZ;rw[if_neg hp]
   rw[e]
   exact zad
theorem zdB:FnScope ["many", "number"] ["many", "number"] (zag zbw):=⟨rfl,rfl,rfl,by decide+kernel,rfl,by decide+kernel,by decide+kernel⟩
theorem zdC {f:Addr}{fd:FuncData}(F:Fun K "groups_paper" "groups_paper" zbw f fd):FnOk P w K mg base CX0 1 f fd ["many", "number"] (spE (zaX "rounds") (zaX "highs")):=by
 refine F.ok zdB (fun vs H Q E h=> ?_) (fun cdv A outer s H vs Q E hr h=> ?_)
 ·rcases h with⟨N,n,rfl,_⟩|⟨N,n,rfl,_⟩<;>rfl
 ·refine ⟨_,(zah (zal (zaz (zaa zaE (zaa (zjI PySem.F.plainAttrs_int PySem.F.slot_int_bit_length PySem.F.type_int_bit_length ze8 (pv 0)) zac))))), ?_⟩
  rcases h with⟨N,n,rfl,hN,hn,k⟩|⟨N,n,rfl,hN,hn,k⟩
  ·refine⟨_,rfl,rfl,_,rfl,rfl,by show 2<=sizeLine;decide,fun z hz=>k z _ (zae hz) ⟨_,zad,.cons (.str _) (.cons (.int _) .nil)⟩⟩
  ·refine⟨_,rfl,rfl,_,rfl,rfl,by show 2<=sizeLine;decide,fun z hz=>k z _ (zae hz) ⟨_,zad,.cons (.str _) (.cons (.int _) .nil)⟩⟩
theorem zdS:FnScope ["many", "number"] ["many", "number"] (zag zbL):=⟨rfl,rfl,rfl,by decide+kernel,rfl,by decide+kernel,by decide+kernel⟩
theorem zdT {f:Addr}{fd:FuncData}(F:Fun K "rises_paper" "rises_paper" zbL f fd)(Cmean:Cal P w K mg base 4 "mean" ["kind", "many"] (spKN mnZ))(Cspread:Cal P w K mg base 4 "spread" ["kind", "many"] (spKN sdZ)):FnOk P w K mg base CX0 5 f fd ["many", "number"] (zaX "rises"):=by
 refine F.ok zdS (fun vs H Q E h=> ?_) (fun cdv A outer s H vs Q E hr h=> ?_)
 ·obtain ⟨N,n,rfl,_⟩:=h
  rfl
 ·obtain ⟨N,n,rfl,hN,hn,k⟩:=h
  refine⟨_,(zah (zal (zaz (zaa zaE (zaa (zak Cmean (hr.mono (by decide)) rfl (zaa zaE (zaa (pv 0) zac))) (zaa (zak Cspread (hr.mono (by decide)) rfl (zaa zaE (zaa (pv 0) zac))) zac)))))), ?_⟩
  have n0:(0:Int)<=(N:Int):=by (first|lia|omega)
  have n1:=hN
  refine⟨_,rfl, "rises",N,rfl,.inl rfl,n0,n1,fun x G1 s1 hx=>⟨_,rfl, "rises",N,rfl,.inl rfl,n0,n1,fun y G2 s2 hy=>⟨by show 3<=sizeLine;decide,fun z hz=> ?_⟩⟩⟩
  exact k z _ ((s1.trans s2).trans (zae hz)) ⟨_,zad,.cons (.str _) (.cons (Shr.isY (zae hz _ _ (s2 _ _ hx))) (.cons (Shr.isY (zae hz _ _ hy)) .nil))⟩
theorem zc1:FnScope ["many", "number"] ["many", "number"] (zag zbk):=⟨rfl,rfl,rfl,by decide+kernel,rfl,by decide+kernel,by decide+kernel⟩
theorem zc2 {f:Addr}{fd:FuncData}(F:Fun K "crossed_paper" "crossed_paper" zbk f fd)(Cmean:Cal P w K mg base 4 "mean" ["kind", "many"] (spKN mnZ))(Cspread:Cal P w K mg base 4 "spread" ["kind", "many"] (spKN sdZ)):FnOk P w K mg base CX0 5 f fd ["many", "number"] (zaX "crossed"):=by
 refine F.ok zc1 (fun vs H Q E h=> ?_) (fun cdv A outer s H vs Q E hr h=> ?_)
 ·obtain ⟨N,n,rfl,_⟩:=h
  rfl
 ·obtain ⟨N,n,rfl,hN,hn,k⟩:=h
  refine⟨_,(zah (zal (zaz (zaa zaE (zaa (zak Cmean (hr.mono (by decide)) rfl (zaa zaE (zaa (pv 0) zac))) (zaa (zak Cspread (hr.mono (by decide)) rfl (zaa zaE (zaa (pv 0) zac))) zac)))))), ?_⟩
  have n0:(0:Int)<=(N:Int):=by (first|lia|omega)
  have n1:=hN
  refine⟨_,rfl, "crossed",N,rfl,.inr rfl,n0,n1,fun x G1 s1 hx=>⟨_,rfl, "crossed",N,rfl,.inr rfl,n0,n1,fun y G2 s2 hy=>⟨by show 3<=sizeLine;decide,fun z hz=> ?_⟩⟩⟩
  exact k z _ ((s1.trans s2).trans (zae hz)) ⟨_,zad,.cons (.str _) (.cons (Shr.isY (zae hz _ _ (s2 _ _ hx))) (.cons (Shr.isY (zae hz _ _ hy)) .nil))⟩
theorem sc_own_paper:FnScope ["kind", "many", "number", "paper"] ["kind", "many", "number"] (zag zch):=⟨rfl,rfl,rfl,by decide+kernel,rfl,by decide+kernel,by decide+kernel⟩
theorem zfn {f C f1 f2 f3 f4 f5:Addr}{fd:FuncData}(F:Fun K "own_paper" "own_paper" zch f fd)(hC:mg "PAPERS" =some (.ref C))(GD:GDict K w.params C [("rounds",f1),("stays",f2),("rises",f3),("highs",f1),("crossed",f4),("longest",f5)])
  (c1:CalF P w K mg base 5 f1 ["many", "number"] (spE (zaX "rounds") (zaX "highs"))) (c2:CalF P w K mg base 5 f2 ["many", "number"] (zaX "stays")) (c3:CalF P w K mg base 5 f3 ["many", "number"] (zaX "rises")) (c4:CalF P w K mg base 5 f4 ["many", "number"] (zaX "crossed")) (c5:CalF P w K mg base 5 f5 ["many", "number"] (zaX "longest")):FnOk P w K mg base CX0 6 f fd ["kind", "many", "number"] zfi:=by
 refine F.ok sc_own_paper (fun vs H Q E h=> ?_) (fun cdv A outer s H vs Q E hr h=> ?_)
 ·obtain ⟨kd,N,n,rfl,_⟩:=h
  rfl
 ·obtain ⟨kd,N,n,rfl,hk,hN,hn,k⟩:=h
  refine⟨_,(zaf (zap (i:=3) sc_own_paper.nd rfl (Or.inl rfl) (zan zgY (zbp (v:=.ref C) rfl hC rfl) (pv 0) (fun _ _=>rfl)))
   (zah (zal (zb6 (k:=5) (pv 3) hr (zaa (pv 1) (zaa (pv 2) zac)))))), ?_⟩
  have:kd= "rounds" ∨kd= "stays" ∨kd= "rises" ∨kd= "highs" ∨kd= "crossed" ∨kd= "longest" :=by simpa [zaF] using hk
  rcases this with rfl|rfl|rfl|rfl|rfl|rfl
  ·exact⟨_,rfl,C,_,_,f1,rfl,rfl,GD,rfl,_,rfl,f1,_,_,rfl,c1,_,rfl,_,rfl,.inl ⟨N,n,rfl,hN,hn,k⟩⟩
  ·exact⟨_,rfl,C,_,_,f2,rfl,rfl,GD,rfl,_,rfl,f2,_,_,rfl,c2,_,rfl,_,rfl,N,n,rfl,hN,hn,k⟩
  ·exact⟨_,rfl,C,_,_,f3,rfl,rfl,GD,rfl,_,rfl,f3,_,_,rfl,c3,_,rfl,_,rfl,N,n,rfl,hN,hn,k⟩
  ·exact⟨_,rfl,C,_,_,f1,rfl,rfl,GD,rfl,_,rfl,f1,_,_,rfl,c1,_,rfl,_,rfl,.inr ⟨N,n,rfl,hN,hn,k⟩⟩
  ·exact⟨_,rfl,C,_,_,f4,rfl,rfl,GD,rfl,_,rfl,f4,_,_,rfl,c4,_,rfl,_,rfl,N,n,rfl,hN,hn,k⟩
  ·exact⟨_,rfl,C,_,_,f5,rfl,rfl,GD,rfl,_,rfl,f5,_,_,rfl,c5,_,rfl,_,rfl,N,n,rfl,hN,hn,k⟩
end
end K63
namespace L2
open PySem PySem.Spec PyProof.Rows
theorem FnOk.both {P:Program}{w:World}{K:PySem.W.Frag}{mg:Str->Option Value}{base:Heap}{CX:CXT}{k:Nat}{f:Addr}{fd:FuncData}{ps:List Str}{a b:Sp}(A:FnOk P w K mg base CX k f fd ps a)(B:FnOk P w K mg base CX k f fd ps b):FnOk P w K mg base CX k f fd ps (spE a b):=
 ⟨fun vs H Q E q=>q.elim (A.len vs H Q E) (B.len vs H Q E),fun A' outer s H args us vs Q E hr he hb hv hs=>hs.elim (A.run A' outer s H args us vs Q E hr he hb hv) (B.run A' outer s H args us vs Q E hr he hb hv)⟩
theorem zjn {kind:Str}{N k:Nat}{H:Hp}{z:Addr}(h:PapT kind N k H z)(hk:kind= "stays" ∨kind= "longest"):∃y,H z=some (.tup [.str "sets",.int (sZ N k),.ref y])/\Shr H y (eaZ kind N k):=by
 obtain⟨us,h1,h2⟩:=h
 have e:paL kind N k=[.str "sets",.int (sZ N k),shD (eaZ kind N k)]:=by rcases hk with rfl|rfl<;>rfl
 rw[e] at h2
 cases h2 with
 | cons a t=>
  cases t with
  | cons b t=>
   cases t with
   |cons c t=>
    cases t
    cases a
    cases b
    obtain⟨y,rfl,hy⟩:=zfJ c
    exact⟨y,h1,hy⟩
theorem zhf {kind:Str}{N k:Nat}{H:Hp}{z:Addr}(h:PapT kind N k H z)(hk:kind= "rounds" ∨kind= "highs"):H z=some (.tup [.str "groups",.int (figZ N)]):=by
 obtain⟨us,h1,h2⟩:=h
 have e:paL kind N k=[.str "groups",.int (figZ N)]:=by rcases hk with rfl|rfl<;>rfl
 rw[e] at h2
 cases h2 with
 | cons a t=>
  cases t with
  |cons b t=>
   cases t
   cases a
   cases b
   exact h1
theorem zhg {kind:Str}{N k:Nat}{H:Hp}{z:Addr}(h:PapT kind N k H z)(hk:kind= "rises" ∨kind= "crossed"):∃x y,H z=some (.tup [.str "spread",.ref x,.ref y])/\Shr H x (mnZ kind N)/\Shr H y (sdZ kind N):=by
 obtain⟨us,h1,h2⟩:=h
 have e:paL kind N k=[.str "spread",shD (mnZ kind N),shD (sdZ kind N)]:=by rcases hk with rfl|rfl<;>rfl
 rw[e] at h2
 cases h2 with
 | cons a t=>
  cases t with
  | cons b t=>
   cases t with
   |cons c t=>
    cases t
    cases a
    obtain⟨x,rfl,hx⟩:=zfJ b
    obtain⟨y,rfl,hy⟩:=zfJ c
    exact⟨x,y,h1,hx,hy⟩
theorem all3 {S:Addr->Prop}{H:Hp}{vs:List V}{ds:List PyData}(h:IsAllY S H vs ds)(hl:ds.length=3):∃v0 v1 v2 d0 d1 d2,vs=[v0,v1,v2]/\ds=[d0,d1,d2]/\IsY S H v0 d0/\IsY S H v1 d1/\IsY S H v2 d2:=by
 cases h with
 |nil=>cases hl
 | cons a t=>
  cases t with
  |nil=>cases hl
  | cons b t=>
   cases t with
   |nil=>cases hl
   |cons c t=>
    cases t with
    |nil=>exact⟨_,_,_,_,_,_,rfl,rfl,a,b,c⟩
    |cons _ _=>simp at hl
theorem all2 {S:Addr->Prop}{H:Hp}{vs:List V}{ds:List PyData}(h:IsAllY S H vs ds)(hl:ds.length=2):∃v0 v1 d0 d1,vs=[v0,v1]/\ds=[d0,d1]/\IsY S H v0 d0/\IsY S H v1 d1:=by
 cases h with
 |nil=>cases hl
 | cons a t=>
  cases t with
  |nil=>cases hl
  |cons b t=>
   cases t with
   |nil=>exact⟨_,_,_,_,rfl,rfl,a,b⟩
   |cons _ _=>simp at hl
theorem zlJ (a b c:V):cutV [a,b,c] (some 1) (some 2)=[b]:=rfl
end L2
namespace K63
open PySem PySem.Spec PyProof.Rows L2
noncomputable abbrev zbl:Stmt:=top 59
noncomputable abbrev za0:Stmt:=top 61
section
variable {P:Program}{w:World}{K:PySem.W.Frag}{mg:Str->Option Value}{base:Heap}
theorem zf3 {f:Addr}{fd:FuncData}(F:Fun K "product" "product" zcx f fd)(T:Top mg):FnOk P w K mg base CX0 1 f fd ["first", "last"] zku:=by
 refine F.ok sc_product (fun vs H Q E h=> ?_) (fun cdv A outer s H vs Q E hr h=> ?_)
 ·obtain ⟨N,a,n,rfl,_⟩:=h
  rfl
 ·obtain ⟨N,a,n,rfl,a0,a1,hN,hn,k⟩:=h
  refine⟨_,(zaf (zap (i:=2) sc_product.nd rfl (Or.inl rfl) zab)
   (zaf (zaR PassesOwn.never rfl (zg7 rfl T.n_range (zaa (pv 0) (zaa (zaj zax (pv 1) zab) zac))) (zat (i:=3) sc_product.nd rfl (Or.inl rfl))
    (zah (zap (i:=2) sc_product.nd rfl (Or.inl rfl) (zaj zaA (pv 2) (pv 3)))))
   (zah (zal (pv 2))))), ?_⟩
  refine⟨_,rfl,_,rfl,_,_,rfl,rfl,_,_,rfl, ?_⟩
  rw[show (a+(n:Int)-1+1-a).toNat=n by (first|lia|omega)]
  refine zaI (fun i σ G=>G=H/\∃c:Option V,σ=[some (.int a),some (.int (a+n-1)),some (.int (prN a i)),c]) ⟨rfl,none,rfl⟩ ?_ ?_
  ·rintro i σ G hi ⟨rfl,c,rfl⟩
   have b:=(zh9 hN a0 i (by (first|lia|omega)) (by (first|lia|omega))).2
   have b2:Sm (a+(i:Int)) 101:=Sm.of (Nat.lt_of_le_of_lt (show (a+(i:Int)).natAbs<=10^30 by (first|lia|omega)) (by decide+kernel))
   exact⟨_,rfl,_,rfl,_,_,rfl,rfl,⟨b.mono (by (first|lia|omega)),b2.mono (by decide)⟩,rfl,some (.int (a+(i:Int))),rfl⟩
  ·rintro σ G ⟨rfl,c,rfl⟩
   exact⟨_,rfl,k⟩
theorem zc3:FnScope ["paper", "number", "bound", "thing"] ["paper", "number", "bound", "thing"] (zag zbl):=⟨rfl,rfl,rfl,by decide+kernel,rfl,by decide+kernel,by decide+kernel⟩
theorem zc4 {f:Addr}{fd:FuncData}(F:Fun K "shows_by_sets" "shows_by_sets" zbl f fd)(Care_just:Cal P w K mg base 3 "are_just" ["thing", "numbers"] zgz)(Cis_less:Cal P w K mg base 1 "is_less" ["one", "other"] zem)(Ctimes:Cal P w K mg base 3 "times" ["one", "other"] zkv):FnOk P w K mg base CX0 4 f fd ["paper", "number", "bound", "thing"] (za7 ["stays", "longest"]):=by
 refine F.ok zc3 (fun vs H Q E h=> ?_) (fun cdv A outer s H vs Q E hr h=> ?_)
 ·obtain ⟨kd,N,n,z,bz,a,b,S,us,ds,rfl,_⟩:=h
  rfl
 ·obtain ⟨kd,N,n,z,bz,a,b,S,us,ds,rfl,hkd,L,k⟩:=h
  refine⟨_,(zaf (zaY (PW.pt (zea (zbQ (zbA (zak Care_just (hr.mono (by decide)) rfl (zaa (zbm zcd (pv 3) (zbd zab) (zbd zab)) (zaa (zbm zcd (pv 0) (zbd zab) (zbd zab)) zac))))) (zcj (zbQ (zbA (zak Care_just (hr.mono (by decide)) rfl (zaa (zan zam (pv 3) zab (fun _ _=>rfl)) (zaa (zan zam (pv 0) zab (fun _ _=>rfl)) zac))))))))
    (zah (zal zcb))
    zay)
   (zah (zal (zeL (zak Cis_less (hr.mono (by decide)) rfl (zaa (pv 2) (zaa (zak Ctimes (hr.mono (by decide)) rfl (zaa (zaz (zaa (zan zam (pv 0) zab (fun _ _=>rfl)) (zaa zab zac))) (zaa (zan zam (pv 0) zab (fun _ _=>rfl)) zac))) zac))))))), ?_⟩
  have hk2:kd= "stays" ∨kd= "longest" :=by simpa using hkd
  have e3:paL kd N n=[.str "sets",.int (sZ N n),shD (eaZ kd N n)]:=by rcases hk2 with rfl|rfl<;>rfl
  have hng:¬(kd= "rounds" ∨kd= "highs"):=by rcases hk2 with rfl|rfl<;>decide
  obtain⟨y,hz,hy⟩:=zjn L.pap hk2
  obtain⟨v0,v1,v2,d0,d1,d2,rfl,rfl,y0,y1,y2⟩:=all3 L.all (by rw[L.len,e3];rfl)
  have ha:=L.top
  have hea:=zlB (kind:=kd) L.hN L.hk
  have n0:(0:Int)<=(N:Int):=by (first|lia|omega)
  have hsz:=zhX n0 L.hN n L.hk
  have hn60:=L.hk
  have hlk:lkZ kd N n b [d0,d1,d2]=(juD [sZ N n] (.tuple [d1])&&juD [(eaZ kd N n).1,(eaZ kd N n).2] d2&&decide (sZ N n*(eaZ kd N n).1*b.2<=b.1*(eaZ kd N n).2)):=by
   unfold lkZ
   rw[if_neg hng,if_pos hk2]
   rfl
  rw[hlk] at k
  refine⟨_,rfl,_,rfl,_,rfl,a,_,rfl,ha,fun p1 G1 s1 hp1=> ?_⟩
  rw[zlJ] at hp1
  refine⟨_,rfl,_,rfl,_,rfl,z,_,rfl,s1 _ _ hz,fun p2 G2 s2 hp2=> ?_⟩
  rw[zlJ] at hp2
  have S2:=s1.trans s2
  refine⟨S,.ref p1,.tuple [d1],p2,[sZ N n],rfl,.tup (s2 _ _ hp1) (.cons (y1.same S2) .nil), ?_,hp2,fun G3 s3=>⟨_,rfl, ?_⟩⟩
  ·have:=L.sz
   unfold Sz at this ⊢
   simp only[PyData.bulk,PyData.bulkAll] at this ⊢
   (first|lia|omega)
  have S3:=S2.trans s3
  by_cases c1:juD [sZ N n] (.tuple [d1])=true
  ·rw [c1]
   refine iteF ⟨_,rfl,a,_,2,v2,rfl,rfl,SqT.of (S3 _ _ ha),zai (j:=2) rfl,_,rfl,z,_,2,.ref y,rfl,rfl,SqT.of (S3 _ _ hz),zai (j:=2) rfl,S,v2,d2,y,[(eaZ kd N n).1,(eaZ kd N n).2],rfl,y2.same S3,L.sz.tup.2 d2 (by simp),S3 _ _ hy,fun G4 s4=>⟨_,rfl, ?_⟩⟩
   have S4:=S3.trans s4
   by_cases c2:juD [(eaZ kd N n).1,(eaZ kd N n).2] d2=true
   ·rw [c2]
    refine iteF ⟨_,rfl,_,rfl,z,_,1,_,rfl,rfl,SqT.of (S4 _ _ hz),zai (j:=1) rfl,by show 2<=sizeLine;decide,fun q hq=> ?_⟩
    have sq:=zae (o:=.tup [.int (sZ N n),.int 1]) hq
    refine⟨_,rfl,z,_,2,.ref y,rfl,rfl,SqT.of (sq _ _ (S4 _ _ hz)),zai (j:=2) rfl,q,y,(sZ N n,1),eaZ kd N n,rfl,zad,sq _ _ (S4 _ _ hy),⟨Int.one_pos,hsz.mono (by (first|lia|omega)),sm1.mono (by decide)⟩,hea.mono (by decide), ?_,fun t G5 s5 ht=> ?_⟩
    ·show Sm (1*(eaZ kd N n).2) 8000
     rw[Int.one_mul]
     exact hea.s2.mono (by decide)
    have e0:tmZ (sZ N n,1) (eaZ kd N n)=lowZ (sZ N n*(eaZ kd N n).1) (eaZ kd N n).2:=by
     unfold tmZ
     rw[Int.one_mul]
    rw[e0] at ht
    have he1:((eaZ kd N n).1).natAbs<=1:=by
     unfold eaZ
     split
     ·show (1:Int).natAbs<=1
      decide
     ·show (0:Int).natAbs<=1
      decide
    refine⟨bz,t,b,_,rfl,(sq.trans s5) _ _ (S4 _ _ L.bnd),ht,L.bsm, ?_,fun G6 s6=> ?_⟩
    ·exact ShB.low hea.pos (((hsz.mul (Sm.of (n:=1) (by (first|lia|omega)))).mono (by (first|lia|omega)))) (hea.s2.mono (by decide))
    ·rw [c1,c2] at k
     rw[Bool.and_self,Bool.true_and] at k
     rw[<-zd6 L.bsm.pos hea.pos] at k
     exact⟨_,rfl,k G6 ((((S4.trans sq).trans s5)).trans s6)⟩
   ·rw [show juD [(eaZ kd N n).1,(eaZ kd N n).2] d2=false by simpa using c2]
    rw[show juD [(eaZ kd N n).1,(eaZ kd N n).2] d2=false by simpa using c2,Bool.and_false,Bool.false_and] at k
    exact iteT (k G4 S4)
  ·rw [show juD [sZ N n] (.tuple [d1])=false by simpa using c1]
   rw[show juD [sZ N n] (.tuple [d1])=false by simpa using c1,Bool.false_and,Bool.false_and] at k
   exact iteT (k G3 S3)
theorem sc_shows_by_spread:FnScope ["paper", "number", "bound", "thing", "beyond"] ["paper", "number", "bound", "thing"] (zag za0):=⟨rfl,rfl,rfl,by decide+kernel,rfl,by decide+kernel,by decide+kernel⟩
theorem zcy {f:Addr}{fd:FuncData}(F:Fun K "shows_by_spread" "shows_by_spread" za0 f fd)(Care_just:Cal P w K mg base 3 "are_just" ["thing", "numbers"] zgz)(Cis_less:Cal P w K mg base 1 "is_less" ["one", "other"] zem)(Ctimes:Cal P w K mg base 3 "times" ["one", "other"] (spSh tmZ))(Cless:Cal P w K mg base 3 "less" ["one", "other"] (spSh leZ))(Cparted:Cal P w K mg base 3 "parted" ["one", "other"] spPt):FnOk P w K mg base CX0 4 f fd ["paper", "number", "bound", "thing"] (za7 ["rises", "crossed"]):=by
 refine F.ok sc_shows_by_spread (fun vs H Q E h=> ?_) (fun cdv A outer s H vs Q E hr h=> ?_)
 ·obtain ⟨kd,N,n,z,bz,a,b,S,us,ds,rfl,_⟩:=h
  rfl
 ·obtain ⟨kd,N,n,z,bz,a,b,S,us,ds,rfl,hkd,L,k⟩:=h
  refine⟨_,(zaf (zaY (PW.pt (zea (zbQ (zbA (zak Care_just (hr.mono (by decide)) rfl (zaa (zan zam (pv 3) zab (fun _ _=>rfl)) (zaa (zan zam (pv 0) zab (fun _ _=>rfl)) zac))))) (zcj (zbQ (zbA (zak Care_just (hr.mono (by decide)) rfl (zaa (zan zam (pv 3) zab (fun _ _=>rfl)) (zaa (zan zam (pv 0) zab (fun _ _=>rfl)) zac))))))))
    (zah (zal zcb))
    zay)
   (zaf (zap (i:=4) sc_shows_by_spread.nd rfl (Or.inl rfl) (zak Cless (hr.mono (by decide)) rfl (zaa (zaz (zaa (pv 1) (zaa zab zac))) (zaa (zan zam (pv 0) zab (fun _ _=>rfl)) zac))))
   (zah (zal (zgb (zak Cis_less (hr.mono (by decide)) rfl (zaa (zaz (zaa zab (zaa zab zac))) (zaa (pv 4) zac))) (zga (zeL (zak Cis_less (hr.mono (by decide)) rfl (zaa (pv 2) (zaa (zak Cparted (hr.mono (by decide)) rfl (zaa (zan zam (pv 0) zab (fun _ _=>rfl)) (zaa (zak Ctimes (hr.mono (by decide)) rfl (zaa (pv 4) (zaa (pv 4) zac))) zac))) zac)))))))))), ?_⟩
  have hk2:kd= "rises" ∨kd= "crossed" :=by simpa using hkd
  have e3:paL kd N n=[.str "spread",shD (mnZ kd N),shD (sdZ kd N)]:=by rcases hk2 with rfl|rfl<;>rfl
  have hng:¬(kd= "rounds" ∨kd= "highs"):=by rcases hk2 with rfl|rfl<;>decide
  obtain⟨x,y,hz,hx,hy⟩:=zhg L.pap hk2
  obtain⟨v0,v1,v2,d0,d1,d2,rfl,rfl,y0,y1,y2⟩:=all3 L.all (by rw[L.len,e3];rfl)
  have ha:=L.top
  have h0:(0:Int)<=(N:Int):=by (first|lia|omega)
  have h1:=L.hN
  have hn:=L.hk
  have hlk:lkZ kd N n b [d0,d1,d2]=(juD [(mnZ kd N).1,(mnZ kd N).2] d1&&juD [(sdZ kd N).1,(sdZ kd N).2] d2&&decide (0<farZ kd N n)&&decide (ovZ kd N*b.2<=b.1*unZ kd N n)):=by
   unfold lkZ
   rw[if_neg hng,if_neg (by rcases hk2 with rfl|rfl<;>decide)]
   rfl
  rw[hlk] at k
  refine⟨_,rfl,a,_,1,v1,rfl,rfl,SqT.of ha,zai (j:=1) rfl,_,rfl,z,_,1,.ref x,rfl,rfl,SqT.of hz,zai (j:=1) rfl,S,v1,d1,x,[(mnZ kd N).1,(mnZ kd N).2],rfl,y1,L.sz.tup.2 d1 (by simp),hx,fun G3 S3=>⟨_,rfl, ?_⟩⟩
  by_cases c1:juD [(mnZ kd N).1,(mnZ kd N).2] d1=true
  ·rw [c1]
   refine iteF ⟨_,rfl,a,_,2,v2,rfl,rfl,SqT.of (S3 _ _ ha),zai (j:=2) rfl,_,rfl,z,_,2,.ref y,rfl,rfl,SqT.of (S3 _ _ hz),zai (j:=2) rfl,S,v2,d2,y,[(sdZ kd N).1,(sdZ kd N).2],rfl,y2.same S3,L.sz.tup.2 d2 (by simp),S3 _ _ hy,fun G4 s4=>⟨_,rfl, ?_⟩⟩
   have S4:=S3.trans s4
   by_cases c2:juD [(sdZ kd N).1,(sdZ kd N).2] d2=true
   ·rw [c2]
    have mb:=zg3 (kind:=kd) h0 h1
    have db:=zg4 (kind:=kd) h0 h1
    have fb:=zgq (kind:=kd) (k:=(n:Int)) h0 h1 (by (first|lia|omega)) (by (first|lia|omega))
    have nb:ShB ((n:Int),1) 3900:=⟨Int.one_pos,Sm.of (Nat.lt_of_le_of_lt (show ((n:Int)).natAbs<=60 by (first|lia|omega)) (by decide+kernel)),sm1⟩
    refine iteF ⟨_,rfl,by show 2<=sizeLine;decide,fun t ht=> ?_⟩
    have st:=zae (o:=.tup [.int (n:Int),.int 1]) ht
    refine⟨_,rfl,z,_,1,.ref x,rfl,rfl,SqT.of (st _ _ (S4 _ _ hz)),zai (j:=1) rfl,t,x,_,_,rfl,zad,st _ _ (S4 _ _ hx),nb,mb.mono (by decide),fun bb' H2 s2 hb=> ?_⟩
    rw[zfb] at hb
    have S5:=(S4.trans st).trans s2
    refine⟨by show 2<=sizeLine;decide,fun o ho=> ?_⟩
    have so:=zae (o:=.tup [.int 0,.int 1]) ho
    have bb:ShB (lowZ (farZ kd N n) (mnZ kd N).2) 3900:=ShB.low mb.pos (fb.mono (by decide)) (mb.s2.mono (by decide))
    refine⟨_,rfl,o,bb',(0,1),_,rfl,zad,so _ _ hb,⟨by decide,Sm.of (by decide+kernel),Sm.of (by decide+kernel)⟩,bb.mono (by decide),fun H3 s3=> ?_⟩
    rw[zfc mb.pos]
    have hb3:=(so.trans s3) _ _ hb
    have S6:=(S5.trans so).trans s3
    by_cases hf:0<farZ kd N n
    ·rw [decide_eq_true hf]
     refine⟨_,rfl,iteT ⟨_,rfl,_,rfl,z,_,2,.ref y,rfl,rfl,SqT.of (S6 _ _ hz),zai (j:=2) rfl, ?_⟩⟩
     refine⟨_,rfl,_,rfl,bb',bb',_,_,rfl,hb3,hb3,bb,bb,fun q H5 s5 hq=> ?_⟩
     have tb:ShB (tmZ (lowZ (farZ kd N n) (mnZ kd N).2) (lowZ (farZ kd N n) (mnZ kd N).2)) 3900:=by
      rw[ze9 mb.pos mb.pos]
      exact ShB.low (Int.mul_pos mb.pos mb.pos) ((fb.mul fb).mono (by decide)) ((mb.s2.mul mb.s2).mono (by decide))
     have tp:0<(tmZ (lowZ (farZ kd N n) (mnZ kd N).2) (lowZ (farZ kd N n) (mnZ kd N).2)).1:=by
      rw[ze9 mb.pos mb.pos]
      exact zdn (Int.mul_pos mb.pos mb.pos) (Int.mul_pos hf hf)
     refine⟨y,q,_,_,rfl,s5 _ _ (S6 _ _ hy),hq,db.mono (by decide),tb,tp,fun u H6 s6 hu'=> ?_⟩
     have kk:=k
     rw[c1,c2,decide_eq_true hf,Bool.and_self,Bool.true_and,Bool.true_and,<-zd6 L.bsm.pos (zgr h0 h1 hf),<-zgs h0 h1 hf] at kk
     refine⟨bz,u,b,_,rfl,s6 _ _ (s5 _ _ (S6 _ _ L.bnd)),hu',L.bsm, ?_,fun H7 s7=>⟨_,rfl,kk H7 (((S6.trans s5).trans s6).trans s7)⟩⟩
     unfold ptZ
     exact ShB.low (Int.mul_pos db.pos tp) ((db.s1.mul tb.s2).mono (by decide)) ((db.s2.mul tb.s1).mono (by decide))
    ·rw [decide_eq_false hf]
     rw[decide_eq_false hf,Bool.and_false,Bool.false_and] at k
     exact⟨_,rfl,iteF (k H3 S6)⟩
   ·rw [show juD [(sdZ kd N).1,(sdZ kd N).2] d2=false by simpa using c2]
    rw[show juD [(sdZ kd N).1,(sdZ kd N).2] d2=false by simpa using c2,Bool.and_false,Bool.false_and,Bool.false_and] at k
    exact iteT (k G4 S4)
  ·rw [show juD [(mnZ kd N).1,(mnZ kd N).2] d1=false by simpa using c1]
   rw[show juD [(mnZ kd N).1,(mnZ kd N).2] d1=false by simpa using c1,Bool.false_and,Bool.false_and,Bool.false_and] at k
   exact iteT (k G3 S3)
end
end K63
namespace L2
open PySem PySem.Spec PyProof.Rows
theorem zlK (kind:Str)(N k:Nat):0<(paL kind N k).length:=by
 unfold paL
 split
 ·show 0<2
  decide
 ·split<;>(show 0<3;decide)
theorem zlL {kind:Str}{N k:Nat}(h:kind= "rounds" ∨kind= "highs"):(paL kind N k).length=2:=by
 unfold paL
 rw[if_pos h]
 rfl
theorem zkH {S:Addr->Prop}{H:Hp}{v:V}{d:PyData}(h:IsY S H v d)(c:isIv v=true):∃n:Int,v=.int n/\d=.int n:=by
 cases h with
 |int i=>exact⟨i,rfl,rfl⟩
 |_=>cases c
end L2
namespace K63
open PySem PySem.Spec PyProof.Rows L2
noncomputable abbrev za1:Stmt:=top 60
noncomputable abbrev zaV:Stmt:=top 63
section
variable {P:Program}{w:World}{K:PySem.W.Frag}{mg:Str->Option Value}{base:Heap}
theorem sc_shows_by_groups:FnScope ["paper", "number", "bound", "thing", "most", "power", "time"] ["paper", "number", "bound", "thing"] (zag za1):=⟨rfl,rfl,rfl,by decide+kernel,rfl,by decide+kernel,by decide+kernel⟩
theorem zcz {f:Addr}{fd:FuncData}(F:Fun K "shows_by_groups" "shows_by_groups" za1 f fd)(T:Top mg)(Cis_whole:Cal P w K mg base 1 "is_whole" ["thing"] (zi7 K))(Cproduct:Cal P w K mg base 1 "product" ["first", "last"] spPr):FnOk P w K mg base CX0 2 f fd ["paper", "number", "bound", "thing"] (za7 ["rounds", "highs"]):=by
 refine F.ok sc_shows_by_groups (fun vs H Q E h=> ?_) (fun cdv A outer s H vs Q E hr h=> ?_)
 ·obtain ⟨kd,N,n,z,bz,a,b,S,us,ds,rfl,_⟩:=h
  rfl
 ·obtain ⟨kd,N,n,z,bz,a,b,S,us,ds,rfl,hkd,L,k⟩:=h
  refine⟨_,(zaf (zaY (PW.pt (zea (zbQ (zbA (zak Cis_whole (hr.mono (by decide)) rfl (zaa (zan zam (pv 3) zab (fun _ _=>rfl)) zac)))) (zcj (zar zed (zan zam (pv 3) zab (fun _ _=>rfl)) (zan zam (pv 0) zab (fun _ _=>rfl)) (zau _)))))
    (zah (zal zcb))
    zay)
   (zaf (zap (i:=4) sc_shows_by_groups.nd rfl (Or.inl rfl) (zaj zcs (zaj zaA (zan zam (pv 2) zab (fun _ _=>rfl)) (zak Cproduct (hr.mono (by decide)) rfl (zaa zab (zaa (pv 1) zac)))) (zan zam (pv 2) zab (fun _ _=>rfl))))
   (zaf (zap (i:=5) sc_shows_by_groups.nd rfl (Or.inl rfl) zab)
   (zaf (zaR PassesOwn.never rfl (zaB rfl T.n_range (zaa (pv 1) zac)) (zat (i:=6) sc_shows_by_groups.nd rfl (Or.inl rfl))
    (zaf (zap (i:=5) sc_shows_by_groups.nd rfl (Or.inl rfl) (zaj zaA (pv 5) (zan zam (pv 3) zab (fun _ _=>rfl))))
    (zah (zaY (zar zee (pv 5) (pv 4) (zau _))
     (zah (zal zcb))
     zay))))
   (zah (zal zcb)))))), ?_⟩
  have hk2:kd= "rounds" ∨kd= "highs" :=by simpa using hkd
  have e3:paL kd N n=[.str "groups",.int (figZ N)]:=by rcases hk2 with rfl|rfl<;>rfl
  have hz:=zhf L.pap hk2
  obtain⟨v0,v1,d0,d1,rfl,rfl,y0,y1⟩:=all2 L.all (by rw[L.len,e3];rfl)
  have ha:=L.top
  have h0:(0:Int)<=(N:Int):=by (first|lia|omega)
  have h1:=L.hN
  have hn:=L.hk
  have hb:=L.bgr hk2
  have hlk:lkZ kd N n b [d0,d1]=(whD d1&&decide (figZ N<=asI d1)&&decide (asI d1^n*b.2<=b.1*fcZ n)):=by
   unfold lkZ
   rw[if_pos hk2]
   rfl
  rw[hlk] at k
  refine⟨_,rfl,a,_,1,v1,rfl,rfl,SqT.of ha,zai (j:=1) rfl,v1,rfl,y1.kn,_,rfl, ?_⟩
  by_cases c1:isIv v1=true
  ·obtain ⟨m,rfl,rfl⟩:=zkH y1 c1
   have hm:=L.int hk2 m rfl
   rw[show whD (.int m)=true from rfl,show asI (.int m)=m from rfl,Bool.true_and] at k
   rw[c1]
   refine iteF ⟨_,rfl,a,_,1,_,rfl,rfl,SqT.of ha,zai (j:=1) rfl,_,rfl,z,_,1,_,rfl,rfl,SqT.of hz,zai (j:=1) rfl,_,_,rfl,rfl,_,rfl, ?_⟩
   by_cases c2:m<figZ N
   ·rw [decide_eq_true c2]
    rw[decide_eq_false (by (first|lia|omega)),Bool.false_and] at k
    exact iteT (k H (Same.refl H))
   ·rw [decide_eq_false c2]
    rw[decide_eq_true (show figZ N<=m by (first|lia|omega)),Bool.true_and] at k
    have fl:=zgt h0 h1
    have f0:=zaK n
    refine iteF ⟨_,rfl,bz,_,0,_,rfl,rfl,SqT.of L.bnd,zai (j:=0) rfl,_,rfl,n,rfl,by (first|lia|omega),_,_,rfl,rfl,⟨hb.s1.mono (by decide),(zbg (by (first|lia|omega))).mono (by decide)⟩,_,rfl,bz,_,1,_,rfl,rfl,SqT.of L.bnd,zai (j:=1) rfl,_,_,rfl,rfl,⟨hb.pos,hb.s2.mono (by decide)⟩, ?_⟩
    have hnum:Sm (b.1*fcZ n) 4340:=hb.s1.mul (zbg (by (first|lia|omega)))
    have hsm:∀p:Int,0<=p->p<=b.1*fcZ n/b.2->Sm p 4340:=fun p p0 p1=>by
     refine hnum.le ?_
     have hb2:=hb.pos
     have nn:0<=b.1*fcZ n:=by
      refine Int.not_lt.mp fun q=> ?_
      have:=Int.ediv_neg_of_neg_of_pos q hb2
      (first|lia|omega)
     have:=Int.ediv_le_self b.2 nn
     (first|lia|omega)
    refine⟨_,rfl,_,rfl,by (first|lia|omega),by (first|lia|omega), ?_⟩
    rw[Int.toNat_natCast]
    have hb2:=hb.pos
    have hm0:0<=m:=by (first|lia|omega)
    have hk1:=L.hk1
    have top:∀x:Int,x*b.2<=b.1*fcZ n↔x<=b.1*fcZ n/b.2:=fun x=>(Int.le_ediv_iff_mul_le hb2).symm
    refine zaI (n:=n) (fun i σ G=>G=H/\∃(p:Int) (c:Option V),σ=[some (.ref z),some (.int n),some (.ref bz),some (.ref a),some (.int (b.1*fcZ n/b.2)),some (.int p),c]/\0<=p/\Sm p 4340/\p=m^i/\(1<=i->p<=b.1*fcZ n/b.2)) ⟨rfl,1,none,rfl,by decide,(Sm.of (by show 1<2^4340;decide+kernel)),(Int.pow_zero m).symm,fun z=>absurd z (by decide)⟩ ?_ ?_
    ·rintro i σ G hi ⟨rfl,p,c,rfl,p0,ps,pe,pl⟩
     refine⟨_,rfl,_,rfl,a,_,1,_,rfl,rfl,SqT.of ha,zai (j:=1) rfl,_,_,rfl,rfl,⟨ps.mono (by decide),hm.mono (by decide)⟩, ?_⟩
     refine⟨_,rfl,_,rfl,_,_,rfl,rfl,_,rfl, ?_⟩
     have q0:0<=p*m:=Int.mul_nonneg p0 hm0
     have qe:p*m=m^(i+1):=by rw[pe,Int.pow_succ]
     by_cases c3:p*m>b.1*fcZ n/b.2
     ·rw [decide_eq_true c3]
      have nf:¬(m^n*b.2<=b.1*fcZ n):=fun hc=>by
       have hx:=(top _).mp hc
       by_cases hm1:1<=m
       ·have:=zlC hm1 (show i+1<=n by (first|lia|omega))
        (first|lia|omega)
       ·have e0:m=0:=by (first|lia|omega)
        subst e0
        have e1:(0:Int)^n=0:=by
         obtain⟨j,rfl⟩:∃j,n=j+1:=⟨n-1,by (first|lia|omega)⟩
         rw[Int.pow_succ,Int.mul_zero]
        rw[Int.mul_zero] at c3
        (first|lia|omega)
      rw[decide_eq_false nf] at k
      exact iteT (k G (Same.refl G))
     ·rw [decide_eq_false c3]
      exact iteF ⟨rfl,_,_,rfl,q0,hsm _ q0 (by (first|lia|omega)),qe,fun _=>by (first|lia|omega)⟩
    ·rintro σ G ⟨rfl,p,c,rfl,p0,ps,pe,pl⟩
     have:=(top (m^n)).mpr (by rw[<-pe];exact pl hk1)
     rw[decide_eq_true this] at k
     exact k G (Same.refl G)
  ·rw [show isIv v1=false by simpa using c1]
   have hw:whD d1=false:=by
    cases y1 with
    |int i=>exact absurd rfl c1
    |_=>rfl
   rw[hw,Bool.false_and,Bool.false_and] at k
   exact iteT (k H (Same.refl H))
theorem sc_shows_bound:FnScope ["kind", "many", "number", "bound", "thing", "paper", "look"] ["kind", "many", "number", "bound", "thing"] (zag zaV):=⟨rfl,rfl,rfl,by decide+kernel,rfl,by decide+kernel,by decide+kernel⟩
theorem zca {f C AL f1 f2 f3:Addr}{fd:FuncData}(F:Fun K "shows_bound" "shows_bound" zaV f fd)(T:Top mg)(hAL:mg "ALL" =some (.ref AL))(hA1:∀H,SqT K H AL [.str "all"])(hC:mg "LOOKS" =some (.ref C))(GD:GDict K w.params C [("sets",f1),("groups",f2),("spread",f3)])
  (c1:CalF P w K mg base 6 f1 ["paper", "number", "bound", "thing"] (za7 ["stays", "longest"])) (c2:CalF P w K mg base 6 f2 ["paper", "number", "bound", "thing"] (za7 ["rounds", "highs"])) (c3:CalF P w K mg base 6 f3 ["paper", "number", "bound", "thing"] (za7 ["rises", "crossed"]))
  (Cis_less:Cal P w K mg base 1 "is_less" ["one", "other"] zem) (Cown_paper:Cal P w K mg base 6 "own_paper" ["kind", "many", "number"] zfi):FnOk P w K mg base CX0 7 f fd ["kind", "many", "number", "bound", "thing"] zb7:=by
 refine F.ok sc_shows_bound (fun vs H Q E h=> ?_) (fun cdv A outer s H vs Q E hr h=> ?_)
 ·obtain ⟨kd,N,n,bz,b,S,x,d,rfl,_⟩:=h
  rfl
 ·obtain ⟨kd,N,n,bz,b,S,x,d,rfl,hkd,hN,hn,hbz,hbs,hbg,yd,hsz,hint,k⟩:=h
  have hu:_:=hr.units
  refine⟨_,(zaf (zaY (PW.pt (zea (zbQ (zbA (zao zcn (by rfl) T.n_isinstance boot_isinstance (zaa (pv 4) (zaa (zdb (v:=.ty "tuple") rfl T.n_tuple boot_tuple rfl) zac))))) (zcj (zbQ (zef (pv 4) (fun _=>rfl))))))
    (zah (zal zcb))
    zay)
   (zaf (zaY (zar (zkq hu) (pv 4) (zbp (v:=.ref AL) rfl hAL rfl) (zau _))
    (zah (zal (zeL (zak Cis_less (hr.mono (by decide)) rfl (zaa (pv 3) (zaa (zaz (zaa zab (zaa zab zac))) zac))))))
    zay)
   (zaf (zaY (zar zcT (pv 2) zab (zau _))
    (zah (zal zcb))
    zay)
   (zaf (zap (i:=5) sc_shows_bound.nd rfl (Or.inl rfl) (zak Cown_paper (hr.mono (by decide)) rfl (zaa (pv 0) (zaa (pv 1) (zaa (pv 2) zac)))))
   (zaf (zaY (PW.pt (zea (zar (zkr hu) (zan zam (pv 4) zab (fun _ _=>rfl)) (zan zam (pv 5) zab (fun _ _=>rfl)) (zau _)) (zcj (zar zhs (zao zaw (by rfl) T.n_len PySem.boot_len (zaa (pv 4) zac)) (zao zaw (by rfl) T.n_len PySem.boot_len (zaa (pv 5) zac)) (zau _)))))
    (zah (zal zcb))
    zay)
   (zaf (zap (i:=6) sc_shows_bound.nd rfl (Or.inl rfl) (zan zgY (zbp (v:=.ref C) rfl hC rfl) (zan zam (pv 5) zab (fun _ _=>rfl)) (fun _ _=>rfl)))
   (zah (zal (zb6 (k:=6) (pv 6) hr (zaa (pv 5) (zaa (pv 2) (zaa (pv 3) (zaa (pv 4) zac))))))))))))), ?_⟩
  obtain⟨_,_,kT⟩:=kit7 (K:=K) (zh1 d)
  refine⟨_,rfl,_,_,_,_,rfl,yd.ty,kT,_,rfl, ?_⟩
  rcases yd.isT with⟨a,us,ds,rfl,rfl,ha,al⟩|⟨q,_⟩
  ·refine iteF ⟨_,rfl, !us.isEmpty,.inr (.inl ⟨_,SqT.of ha,rfl⟩), ?_⟩
   have hul:=al.len
   cases us with
   | nil=>
    cases al
    have e:swZ kd N n b (.tuple [])=false:=by
     rw[show swZ kd N n b (.tuple [])=(if n=0 then false else decide (([]:List PyData).length=(paL kd N n).length)&&zcE (zcv kd) (([]:List PyData).getD 0 .none)&&lkZ kd N n b []) from rfl]
     by_cases cn:n=0
     ·rw[if_pos cn]
     ·rw [if_neg cn]
      have:=zlK kd N n
      have hne:¬([]:List PyData).length=(paL kd N n).length:=by simp only[List.length_nil];(first|lia|omega)
      rw[decide_eq_false hne]
      rfl
    rw[e] at k
    exact iteT (k H (Same.refl H))
   | cons v0 us=>
    refine iteF ⟨_,rfl,S,a,AL,_,ds, "all",rfl,rfl,ha,al,hA1 _,_,rfl, ?_⟩
    by_cases cA:zfK "all" (.tuple ds)=true
    ·have kA:=k
     rw[show swZ kd N n b (.tuple ds)= !ltZ b (1,1) from if_pos cA] at kA
     rw[cA]
     refine iteT ⟨_,rfl,by show 2<=sizeLine;decide,fun o ho=> ?_⟩
     refine⟨bz,o,b,(1,1),rfl,zae ho _ _ hbz,zad,hbs,zfh (by decide),fun G s1=>⟨_,rfl,kA G ((zae ho).trans s1)⟩⟩
    ·rw [show zfK "all" (.tuple ds)=false by simpa using cA]
     rw[show swZ kd N n b (.tuple ds)=if n=0 then false else decide (ds.length=(paL kd N n).length)&&zcE (zcv kd) (ds.getD 0 .none)&&lkZ kd N n b ds from if_neg cA] at k
     refine iteF ⟨_,rfl,rfl,_,rfl, ?_⟩
     by_cases cn:n=0
     ·subst cn
      rw[decide_eq_true (show V.int ((0:Nat):Int)=V.int 0 from rfl)]
      rw[if_pos rfl] at k
      exact iteT (k H (Same.refl H))
     ·rw [if_neg cn] at k
      rw[decide_eq_false (fun e=>cn (by have:=V.int.inj e;(first|lia|omega)))]
      refine iteF ⟨_,rfl,_,rfl,_,rfl,kd,N,n,rfl,hkd,hN,hn,fun z G s1 hP=> ?_⟩
      obtain⟨ps,hz,pa⟩:=id hP
      have hw0:∃pr,ps=.str (zcv kd)::pr:=by
       have e:∃t,paL kd N n=.str (zcv kd)::t:=by
        have:kd= "rounds" ∨kd= "stays" ∨kd= "rises" ∨kd= "highs" ∨kd= "crossed" ∨kd= "longest" :=by simpa [zaF] using hkd
        rcases this with rfl|rfl|rfl|rfl|rfl|rfl<;>exact⟨_,rfl⟩
       obtain⟨t,e⟩:=e
       rw[e] at pa
       cases pa with
       |cons h _=>cases h;exact⟨_,rfl⟩
      obtain⟨pr,rfl⟩:=hw0
      have hpl:=pa.len
      obtain⟨d0,dr,hds,y0⟩:∃d0 dr,ds=d0::dr/\IsY S H v0 d0:=by
       cases al with
       |cons h t=>exact⟨_,_,rfl,h⟩
      refine⟨_,rfl,a,_,0,v0,rfl,rfl,SqT.of (s1 _ _ ha),zai (j:=0) rfl,_,rfl,z,_,0,.str (zcv kd),rfl,rfl,SqT.of hz,zai (j:=0) rfl,S,d0,zcv kd,rfl,y0.same s1,_,rfl, ?_⟩
      by_cases c0:zcE (zcv kd) d0=true
      ·rw [c0]
       refine iteF ⟨_,rfl,a,_,rfl,.inr (SqT.of (s1 _ _ ha)),_,rfl,z,_,rfl,.inr (SqT.of hz),rfl,_,rfl, ?_⟩
       by_cases cl:(v0::us).length=(V.str (zcv kd)::pr).length
       ·rw [cl,decide_eq_true rfl]
        have hd0:d0=.str (zcv kd):=by
         cases d0 with
         |str y=>rw[eq_of_beq (show (y==zcv kd)=true from c0)]
         |_=>cases c0
        have hlen:ds.length=(paL kd N n).length:=by rw[<-hul,cl,hpl]
        have LK:LookX kd N n G z bz a b S (v0::us) ds:=⟨hP,hN,hn,by (first|lia|omega),s1 _ _ hbz,hbs,hbg,s1 _ _ ha,al.same s1,hsz,hlen,fun hg m hm=>by
         have l2:ds.length=2:=by rw[hlen];exact zlL hg
         obtain⟨e0,e1,rfl⟩:∃e0 e1,ds=[e0,e1]:=by
          match ds,l2 with
          |[e0,e1],_=>exact⟨e0,e1,rfl⟩
         have e:e1=.int m:=by simpa using hm
         subst e
         exact hint hg e0 m rfl⟩
        have hw:zcE (zcv kd) (ds.getD 0 .none)=true:=by rw[hds];exact c0
        rw[decide_eq_true hlen,hw,Bool.and_self,Bool.true_and] at k
        have fin:∀H',Same G H'->Q (.bl (lkZ kd N n b ds)) H':=fun H' s'=>k H' (s1.trans s')
        have:kd= "rounds" ∨kd= "stays" ∨kd= "rises" ∨kd= "highs" ∨kd= "crossed" ∨kd= "longest" :=by simpa [zaF] using hkd
        rcases this with rfl|rfl|rfl|rfl|rfl|rfl
        ·exact iteF ⟨_,rfl,z,_,0,_,rfl,rfl,SqT.of hz,zai (j:=0) rfl,C,_,_,f2,rfl,rfl,GD,rfl,_,rfl,f2,_,_,rfl,c2,_,rfl,_,rfl,_,rfl,_,rfl,_,N,n,z,bz,a,b,S,_,ds,rfl,by simp,LK,fin⟩
        ·exact iteF ⟨_,rfl,z,_,0,_,rfl,rfl,SqT.of hz,zai (j:=0) rfl,C,_,_,f1,rfl,rfl,GD,rfl,_,rfl,f1,_,_,rfl,c1,_,rfl,_,rfl,_,rfl,_,rfl,_,N,n,z,bz,a,b,S,_,ds,rfl,by simp,LK,fin⟩
        ·exact iteF ⟨_,rfl,z,_,0,_,rfl,rfl,SqT.of hz,zai (j:=0) rfl,C,_,_,f3,rfl,rfl,GD,rfl,_,rfl,f3,_,_,rfl,c3,_,rfl,_,rfl,_,rfl,_,rfl,_,N,n,z,bz,a,b,S,_,ds,rfl,by simp,LK,fin⟩
        ·exact iteF ⟨_,rfl,z,_,0,_,rfl,rfl,SqT.of hz,zai (j:=0) rfl,C,_,_,f2,rfl,rfl,GD,rfl,_,rfl,f2,_,_,rfl,c2,_,rfl,_,rfl,_,rfl,_,rfl,_,N,n,z,bz,a,b,S,_,ds,rfl,by simp,LK,fin⟩
        ·exact iteF ⟨_,rfl,z,_,0,_,rfl,rfl,SqT.of hz,zai (j:=0) rfl,C,_,_,f3,rfl,rfl,GD,rfl,_,rfl,f3,_,_,rfl,c3,_,rfl,_,rfl,_,rfl,_,rfl,_,N,n,z,bz,a,b,S,_,ds,rfl,by simp,LK,fin⟩
        ·exact iteF ⟨_,rfl,z,_,0,_,rfl,rfl,SqT.of hz,zai (j:=0) rfl,C,_,_,f1,rfl,rfl,GD,rfl,_,rfl,f1,_,_,rfl,c1,_,rfl,_,rfl,_,rfl,_,rfl,_,N,n,z,bz,a,b,S,_,ds,rfl,by simp,LK,fin⟩
       ·rw [decide_eq_false (fun e=>cl (by have:=V.int.inj e;(first|lia|omega)))]
        have hlen:¬ds.length=(paL kd N n).length:=fun e=>cl (by rw[hul,hpl,e])
        rw[decide_eq_false hlen,Bool.false_and,Bool.false_and] at k
        exact iteT (k G s1)
      ·rw [show zcE (zcv kd) d0=false by simpa using c0]
       have hw:zcE (zcv kd) (ds.getD 0 .none)=false:=by rw[hds];simpa using c0
       rw[hw,Bool.and_false,Bool.false_and] at k
       exact iteT (k G s1)
  ·rw [beq_eq_false_iff_ne.mpr q]
   have e:swZ kd N n b d=false:=by
    cases d with
    |tuple ds=>exact absurd rfl q
    |_=>rfl
   rw[e] at k
   exact iteT (k H (Same.refl H))
end
end K63
namespace L2
open PySem PySem.Spec PyProof.Rows
theorem zlM {kind:Str}{N k:Nat}:Sz 1000 (.tuple (paL kind N k)):=by
 have g1:(Str.ofString "groups").cps.size<=10:=by decide
 have g2:(Str.ofString "sets").cps.size<=10:=by decide
 have g3:(Str.ofString "spread").cps.size<=10:=by decide
 unfold Sz paL shD
 split
 ·simp only[PyData.bulk,PyData.bulkAll];(first|lia|omega)
 ·split<;>(simp only[PyData.bulk,PyData.bulkAll];(first|lia|omega))
theorem zix {kind:Str}{N k:Nat}(hN:(N:Int)<=10^30)(hg:kind= "rounds" ∨kind= "highs"){d0:PyData}{n:Int}(e:PyData.tuple (paL kind N k)=.tuple [d0,.int n]):Sm n 200:=by
 injection e with e
 unfold paL at e
 rw[if_pos hg] at e
 injection e with _ e
 injection e with e _
 injection e with e
 rw[<-e]
 have:=zgt (N:=(N:Int)) (by (first|lia|omega)) hN
 exact Sm.mono (Sm.of (show (figZ N).natAbs<2^7 by (first|lia|omega))) (by decide)
end L2
namespace K63
open PySem PySem.Spec PyProof.Rows L2
noncomputable abbrev zbM:Stmt:=top 64
section
variable {P:Program}{w:World}{K:PySem.W.Frag}{mg:Str->Option Value}{base:Heap}
theorem sc_bound_paper:FnScope ["kind", "many", "number", "paper"] ["kind", "many", "number"] (zag zbM):=⟨rfl,rfl,rfl,by decide+kernel,rfl,by decide+kernel,by decide+kernel⟩
theorem zdU {f AL:Addr}{fd:FuncData}(F:Fun K "bound_paper" "bound_paper" zbM f fd)(hAL:mg "ALL" =some (.ref AL))(hA1:∀H,SqT K H AL [.str "all"])(Cown_paper:Cal P w K mg base 6 "own_paper" ["kind", "many", "number"] zfi)(Cmost_share:Cal P w K mg base 7 "most_share" ["kind", "many", "number"] zgu)(Cshows_bound:Cal P w K mg base 7 "shows_bound" ["kind", "many", "number", "bound", "thing"] zb7):FnOk P w K mg base CX0 8 f fd ["kind", "many", "number"] (zfL K):=by
 refine F.ok sc_bound_paper (fun vs H Q E h=> ?_) (fun cdv A outer s H vs Q E hr h=> ?_)
 ·obtain ⟨kd,N,n,rfl,_⟩:=h
  rfl
 ·obtain ⟨kd,N,n,rfl,hkd,hN,hn,k⟩:=h
  refine⟨_,(zaf (zap (i:=3) sc_bound_paper.nd rfl (Or.inl rfl) (zak Cown_paper (hr.mono (by decide)) rfl (zaa (pv 0) (zaa (pv 1) (zaa (pv 2) zac)))))
   (zah (zal (zbE (zbA (zak Cshows_bound (hr.mono (by decide)) rfl (zaa (pv 0) (zaa (pv 1) (zaa (pv 2) (zaa (zak Cmost_share (hr.mono (by decide)) rfl (zaa (pv 0) (zaa (pv 1) (zaa (pv 2) zac)))) (zaa (pv 3) zac))))))) (pv 3) (zbp (v:=.ref AL) rfl hAL rfl))))), ?_⟩
  have n0:(0:Int)<=(N:Int):=by (first|lia|omega)
  refine⟨_,rfl,_,rfl,_,rfl,kd,N,n,rfl,hkd,hN,hn,fun z G s1 hP=> ?_⟩
  refine⟨_,rfl,_,rfl,_,rfl,_,rfl,_,rfl,_,rfl,kd,N,n,rfl,hkd,n0,hN,hn,fun y G2 s2 hy=> ?_⟩
  obtain⟨us,hz,al⟩:=hP.same s2
  obtain⟨m1,m2⟩:=zi9 (kind:=kd) hN hn
  refine⟨_,rfl,kd,N,n,y,_,NoS,.ref z,.tuple (paL kd N n),rfl,hkd,hN,hn,hy,m1,m2,.tup hz al,zlM,fun hg d0 m e=>zix hN hg e,fun G3 s3=>⟨_,rfl, ?_⟩⟩
  refine ite2 (fun c=> ?_) (fun c=> ?_)
  ·exact⟨_,rfl,k z G3 ((s1.trans s2).trans s3) (.inl ⟨c,us,s3 _ _ hz,al.same s3⟩)⟩
  ·exact k AL G3 ((s1.trans s2).trans s3) (.inr ⟨by simpa using c,hA1 _⟩)
theorem zdD {f AL:Addr}{fd:FuncData}(F:Fun K "shows_bound" "shows_bound" zaV f fd)(T:Top mg)(hAL:mg "ALL" =some (.ref AL))(hA1:∀H,SqT K H AL [.str "all"])
  (Cis_less:Cal P w K mg base 1 "is_less" ["one", "other"] zem):FnOk P w K mg base CX0 7 f fd ["kind", "many", "number", "bound", "thing"] (zc9 K):=by
 refine F.ok sc_shows_bound (fun vs H Q E h=> ?_) (fun cdv A outer s H vs Q E hr h=> ?_)
 ·obtain ⟨kd,N,n,bz,z,b,rfl,_⟩:=h
  rfl
 ·obtain ⟨kd,N,n,bz,z,b,rfl,hbz,hbs,hz,k⟩:=h
  have hu:_:=hr.units
  refine⟨_,(zaf (zaY (PW.pt (zea (zbQ (zbA (zao zhL (by rfl) T.n_isinstance boot_isinstance (zaa (pv 4) (zaa (zdb (v:=.ty "tuple") rfl T.n_tuple boot_tuple rfl) zac))))) (zcj (zbQ (zef (pv 4) (fun _=>rfl))))))
    zeM
    zay)
   (zaf (zaY (zar (zlf hu) (pv 4) (zbp (v:=.ref AL) rfl hAL rfl) (zau _))
    (zah (zal (zeL (zak Cis_less (hr.mono (by decide)) rfl (zaa (pv 3) (zaa (zaz (zaa zab (zaa zab zac))) zac))))))
    zay)
   zeM)), ?_⟩
  have dAll:∀{H':Hp} {y:Addr},SqT K H' y [.str "all"]->IsK K H' (.ref y) (.tuple [.str "all"]):=fun h=>.tup h (.cons (.str _) .nil)
  refine⟨_,rfl,_,_,_,_,rfl,.inr ⟨z,_,rfl,hz,rfl⟩,(zgl (r:=true) (by decide+kernel)),_,rfl, ?_⟩
  refine iteF ⟨_,rfl,true,.inr (.inl ⟨_,hz,rfl⟩),iteF ?_⟩
  refine⟨_,rfl,_,_,dAll hz,dAll (hA1 _),by decide+kernel,by decide+kernel,_,rfl, ?_⟩
  rw[show PyData.eqv (.tuple [.str "all"]) (.tuple [.str "all"])=true by decide+kernel]
  refine iteT ⟨_,rfl,by show 2<=sizeLine;decide,fun o ho=> ?_⟩
  exact⟨bz,o,b,(1,1),rfl,zae ho _ _ hbz,zad,hbs,zfh (by decide),fun G s1=>⟨_,rfl,k G ((zae ho).trans s1)⟩⟩
theorem zdE {f C AL f1 f2 f3:Addr}{fd:FuncData}(F:Fun K "shows_bound" "shows_bound" zaV f fd)(T:Top mg)(hAL:mg "ALL" =some (.ref AL))(hA1:∀H,SqT K H AL [.str "all"])(hC:mg "LOOKS" =some (.ref C))(GD:GDict K w.params C [("sets",f1),("groups",f2),("spread",f3)])
  (c1:CalF P w K mg base 6 f1 ["paper", "number", "bound", "thing"] (za7 ["stays", "longest"])) (c2:CalF P w K mg base 6 f2 ["paper", "number", "bound", "thing"] (za7 ["rounds", "highs"])) (c3:CalF P w K mg base 6 f3 ["paper", "number", "bound", "thing"] (za7 ["rises", "crossed"]))
  (Cis_less:Cal P w K mg base 1 "is_less" ["one", "other"] zem) (Cown_paper:Cal P w K mg base 6 "own_paper" ["kind", "many", "number"] zfi):FnOk P w K mg base CX0 7 f fd ["kind", "many", "number", "bound", "thing"] (spE zb7 (zc9 K)):=FnOk.both (zca F T hAL hA1 hC GD c1 c2 c3 Cis_less Cown_paper) (zdD F T hAL hA1 Cis_less)
noncomputable abbrev zci:Stmt:=top 67
theorem zfo:FnScope ["row", "place"] ["row", "place"] (zag zci):=⟨rfl,rfl,rfl,by decide+kernel,rfl,by decide+kernel,by decide+kernel⟩
theorem zfp {f:Addr}{fd:FuncData}(F:Fun K "number_at" "number_at" zci f fd)(T:Top mg):FnOk P w K mg base CX0 1 f fd ["row", "place"] (zdj K):=by
 refine F.ok zfo (fun vs H Q E h=> ?_) (fun cdv A outer s H vs Q E hr h=> ?_)
 ·obtain ⟨a,ns,k,rfl,_⟩:=h
  rfl
 ·obtain ⟨a,ns,k,rfl,ha,q⟩:=h
  refine⟨_,(zah (zal (zbE (zge ziH zed zab (pv 1) (zao zaw (by rfl) T.n_len boot_len (zaa (pv 0) zac))) (zan zam (pv 0) (pv 1) (fun _ _=>rfl)) zab))), ?_⟩
  refine⟨_,rfl,_,_,rfl,rfl,_,rfl, ?_⟩
  by_cases h0:0<=k
  ·rw [if_pos (by simpa using h0)]
   refine⟨_,rfl,a,_,rfl,.inr ha,_,_,rfl,rfl,_,rfl, ?_⟩
   rw[List.length_map]
   by_cases h1:k<(ns.length:Int)
   ·rw [decide_eq_true h1]
    refine iteT ⟨_,rfl,_,rfl,a,_,_,_,rfl,rfl,ha,zbr h0 h1, ?_⟩
    rw[zlg h0]
    exact q
   ·rw [decide_eq_false h1]
    rw[zlh (by (first|lia|omega))] at q
    exact iteF q
  ·rw [if_neg (by simpa using h0)]
   refine⟨_,rfl, ?_⟩
   rw[zjL (by (first|lia|omega))] at q
   exact iteF q
noncomputable abbrev zbo:Stmt:=top 68
noncomputable abbrev zbN:Stmt:=top 69
noncomputable abbrev zbO:Stmt:=top 70
theorem zeG:FnScope ["many", "ahead"] ["many", "ahead"] (zag zbo):=⟨rfl,rfl,rfl,by decide+kernel,rfl,by decide+kernel,by decide+kernel⟩
theorem zfq:FnScope ["many", "ahead"] ["many", "ahead"] (zag zbN):=⟨rfl,rfl,rfl,by decide+kernel,rfl,by decide+kernel,by decide+kernel⟩
theorem zfr:FnScope ["many", "ahead"] ["many", "ahead"] (zag zbO):=⟨rfl,rfl,rfl,by decide+kernel,rfl,by decide+kernel,by decide+kernel⟩
theorem zeH {f:Addr}{fd:FuncData}(F:Fun K "rounds_row" "rounds_row" zbo f fd)(T:Top mg)(Cnumber_at:Cal P w K mg base 1 "number_at" ["row", "place"] (zdj K)):FnOk P w K mg base CX0 2 f fd ["many", "ahead"] (zcV K 60 zbY):=by
 refine F.ok zeG (fun vs H Q E h=> ?_) (fun cdv A outer s H vs Q E hr h=> ?_)
 ·obtain ⟨m,a,ns,rfl,_⟩:=h
  rfl
 ·obtain ⟨m,a,ns,rfl,m1,m2,ha,hl,k⟩:=h
  refine⟨_,(zah (zal (zaN zaL (by rfl) T.n_tuple boot_tuple (zaa (zcU (N':=["k", "ahead", "many"]) (n:=1) (ix:=[1,0]) rfl (CompScope.of (sc:=zag zbo) (N:=["many", "ahead"]) (by decide+kernel) rfl rfl) (zaB rfl T.n_range (zaa (zaj zax (pv 0) zab) zac)) (fun _ _ _ _ _=>⟨(zat (i:=0) (show (["k", "ahead", "many"]:List Str).Nodup by decide+kernel) rfl (Or.inl rfl)),zbW,(zaj zax (zak Cnumber_at (hr.mono (by decide)) rfl (zaa (pv 1) (zaa (zaj zaP (pv 0) zab) zac))) (zaj zaM (zaj zaP (pv 2) zab) (zak Cnumber_at (hr.mono (by decide)) rfl (zaa (pv 1) (zaa (pv 0) zac)))))⟩)) zac)))), ?_⟩
  refine⟨_,rfl,_,_,rfl,rfl,_,rfl,by (first|lia|omega),by (first|lia|omega), ?_⟩
  refine zhI (n:=m+1) (fun k=>atZ ns (k-1)+((m:Int)-1)*atZ ns k) (by (first|lia|omega)) (fun k k0 k1 H' s' Q' q=> ?_) fun acc hacc=> ?_
  ·exact⟨_,rfl,_,rfl,_,_,rfl,rfl,a,ns,_,rfl,s'.seqT ha,_,rfl,_,_,rfl,rfl,_,rfl,_,rfl,a,ns,_,rfl,s'.seqT ha,_,_,rfl,rfl,zbc (by (first|lia|omega)) (by (first|lia|omega)),_,_,rfl,rfl,q⟩
  ·refine ⟨acc,_,rfl,.inl ⟨SqL.of zad,fun p hp=> ?_⟩⟩
   exact k p _ ((zae hacc).trans (zae hp)) zad
theorem zfs {f:Addr}{fd:FuncData}(F:Fun K "stays_row" "stays_row" zbN f fd)(T:Top mg)(Cnumber_at:Cal P w K mg base 1 "number_at" ["row", "place"] (zdj K)):FnOk P w K mg base CX0 2 f fd ["many", "ahead"] (zcV K 60 zcp):=by
 refine F.ok zfq (fun vs H Q E h=> ?_) (fun cdv A outer s H vs Q E hr h=> ?_)
 ·obtain ⟨m,a,ns,rfl,_⟩:=h
  rfl
 ·obtain ⟨m,a,ns,rfl,m1,m2,ha,hl,k⟩:=h
  refine⟨_,(zah (zal (zaN zaL (by rfl) T.n_tuple boot_tuple (zaa (zcU (N':=["k", "ahead", "many"]) (n:=1) (ix:=[1,0]) rfl (CompScope.of (sc:=zag zbN) (N:=["many", "ahead"]) (by decide+kernel) rfl rfl) (zaB rfl T.n_range (zaa (zaj zax (pv 0) zab) zac)) (fun _ _ _ _ _=>⟨(zat (i:=0) (show (["k", "ahead", "many"]:List Str).Nodup by decide+kernel) rfl (Or.inl rfl)),zbW,(zaj zax (zaj zax (zak Cnumber_at (hr.mono (by decide)) rfl (zaa (pv 1) (zaa (zaj zaP (pv 0) zab) zac))) (zaj zaM (zaj zaP (zaj zaP (pv 2) zab) (pv 0)) (zak Cnumber_at (hr.mono (by decide)) rfl (zaa (pv 1) (zaa (pv 0) zac))))) (zaj zaM (zaj zax (pv 0) zab) (zak Cnumber_at (hr.mono (by decide)) rfl (zaa (pv 1) (zaa (zaj zax (pv 0) zab) zac)))))⟩)) zac)))), ?_⟩
  refine⟨_,rfl,_,_,rfl,rfl,_,rfl,by (first|lia|omega),by (first|lia|omega), ?_⟩
  refine zhI (n:=m+1) (fun k=>atZ ns (k-1)+((m:Int)-1-k)*atZ ns k+(k+1)*atZ ns (k+1)) (by (first|lia|omega)) (fun k k0 k1 H' s' Q' q=> ?_) fun acc hacc=> ?_
  ·refine ⟨_,rfl,_,rfl,_,_,rfl,rfl,a,ns,_,rfl,s'.seqT ha,_,rfl,_,_,rfl,rfl,_,rfl,_,_,rfl,rfl,_,rfl,_,rfl,a,ns,_,rfl,s'.seqT ha,_,_,rfl,rfl,zbc (by (first|lia|omega)) (by (first|lia|omega)),_,_,rfl,rfl, ?_⟩
   exact⟨_,rfl,_,_,rfl,rfl,_,rfl,_,rfl,_,_,rfl,rfl,a,ns,_,rfl,s'.seqT ha,_,_,rfl,rfl,zbc (by (first|lia|omega)) (by (first|lia|omega)),_,_,rfl,rfl,q⟩
  ·refine ⟨acc,_,rfl,.inl ⟨SqL.of zad,fun p hp=> ?_⟩⟩
   exact k p _ ((zae hacc).trans (zae hp)) zad
theorem zft {f:Addr}{fd:FuncData}(F:Fun K "rises_row" "rises_row" zbO f fd)(T:Top mg)(Cnumber_at:Cal P w K mg base 1 "number_at" ["row", "place"] (zdj K)):FnOk P w K mg base CX0 2 f fd ["many", "ahead"] (zcV K 60 zcq):=by
 refine F.ok zfr (fun vs H Q E h=> ?_) (fun cdv A outer s H vs Q E hr h=> ?_)
 ·obtain ⟨m,a,ns,rfl,_⟩:=h
  rfl
 ·obtain ⟨m,a,ns,rfl,m1,m2,ha,hl,k⟩:=h
  refine⟨_,(zah (zal (zaN zaL (by rfl) T.n_tuple boot_tuple (zaa (zcU (N':=["k", "ahead", "many"]) (n:=1) (ix:=[1,0]) rfl (CompScope.of (sc:=zag zbO) (N:=["many", "ahead"]) (by decide+kernel) rfl rfl) (zaB rfl T.n_range (zaa (pv 0) zac)) (fun _ _ _ _ _=>⟨(zat (i:=0) (show (["k", "ahead", "many"]:List Str).Nodup by decide+kernel) rfl (Or.inl rfl)),zbW,(zaj zax (zaj zaM (zaj zax (pv 0) zab) (zak Cnumber_at (hr.mono (by decide)) rfl (zaa (pv 1) (zaa (pv 0) zac)))) (zaj zaM (zaj zaP (pv 2) (pv 0)) (zak Cnumber_at (hr.mono (by decide)) rfl (zaa (pv 1) (zaa (zaj zaP (pv 0) zab) zac)))))⟩)) zac)))), ?_⟩
  refine⟨_,rfl,_,rfl,by (first|lia|omega),by (first|lia|omega), ?_⟩
  refine zhI (n:=m) (fun k=>(k+1)*atZ ns k+((m:Int)-k)*atZ ns (k-1)) (by (first|lia|omega)) (fun k k0 k1 H' s' Q' q=> ?_) fun acc hacc=> ?_
  ·refine ⟨_,rfl,_,_,rfl,rfl,_,rfl,_,rfl,a,ns,_,rfl,s'.seqT ha,_,_,rfl,rfl,zbc (by (first|lia|omega)) (by (first|lia|omega)), ?_⟩
   exact⟨_,rfl,_,rfl,_,_,rfl,rfl,_,rfl,_,rfl,_,_,rfl,rfl,a,ns,_,rfl,s'.seqT ha,_,_,rfl,rfl,zbc (by (first|lia|omega)) (by (first|lia|omega)),_,_,rfl,rfl,q⟩
  ·refine ⟨acc,_,rfl,.inl ⟨SqL.of zad,fun p hp=> ?_⟩⟩
   exact k p _ ((zae hacc).trans (zae hp)) zad
noncomputable abbrev zba:Stmt:=top 71
theorem zdV:FnScope ["many", "ahead"] ["many", "ahead"] (zag zba):=⟨rfl,rfl,rfl,by decide+kernel,rfl,by decide+kernel,by decide+kernel⟩
theorem zlN {m:Nat}(h:m<=24):m*(m-1)/2<=276:=by
 have:m*(m-1)<=24*23:=Nat.mul_le_mul h (by (first|lia|omega))
 (first|lia|omega)
theorem zjo {m:Nat}(h:1<=m):(m:Int)*((m:Int)-1)/2+1=((m*(m-1)/2+1:Nat):Int):=by
 rw[show ((m:Int)-1)=((m-1:Nat):Int) by (first|lia|omega)]
 push_cast
 rfl
theorem zdW {f:Addr}{fd:FuncData}(F:Fun K "crossed_row" "crossed_row" zba f fd)(T:Top mg):FnOk P w K mg base CX0 2 f fd ["many", "ahead"] (zcV K 24 zbD):=by
 refine F.ok zdV (fun vs H Q E h=> ?_) (fun cdv A outer s H vs Q E hr h=> ?_)
 ·obtain ⟨m,a,ns,rfl,_⟩:=h
  rfl
 ·obtain ⟨m,a,ns,rfl,m1,m2,ha,hl,k⟩:=h
  have t1:=zlN m2
  refine⟨_,(zah (zal (zaN zaL (by rfl) T.n_tuple boot_tuple (zaa (zcU (N':=["k", "ahead", "many"]) (n:=1) (ix:=[1,0]) rfl (CompScope.of (sc:=zag zba) (N:=["many", "ahead"]) (by decide+kernel) rfl rfl) (zaB rfl T.n_range (zaa (zaj zax (zaj zbT (zaj zaM (pv 0) (zaj zaP (pv 0) zab)) zab) zab) zac)) (fun _ _ _ _ _=>⟨(zat (i:=0) (show (["k", "ahead", "many"]:List Str).Nodup by decide+kernel) rfl (Or.inl rfl)),zbW,(zao (zgZ K rfl rfl) (by rfl) T.n_sum boot_sum (zaa (zbm (ziQ K rfl) (pv 1) (zbd (zao (zbB rfl) (by rfl) T.n_max boot_max (zaa zab (zaa (zaj zax (zaj zaP (pv 0) (pv 2)) zab) zac)))) (zbd (zaj zax (pv 0) zab))) zac))⟩)) zac)))), ?_⟩
  refine⟨_,rfl,_,rfl,_,_,rfl,rfl,_,_,rfl,rfl,zbc (by (first|lia|omega)) (by (first|lia|omega)),_,_,rfl,rfl,⟨by decide,by decide⟩,_,_,rfl,rfl,_,rfl, ?_⟩
  rw[zjo m1]
  refine⟨by (first|lia|omega),by (first|lia|omega), ?_⟩
  refine zkf (fun k=>win ns (k-(m:Int)+1) m) (by (first|lia|omega)) (fun k k0 k1 H' s' Q' q=> ?_) fun acc H' hacc sm hys=> ?_
  ·refine ⟨_,rfl,_,rfl,_,rfl,_,_,rfl,rfl,_,_,rfl,rfl,_,_,rfl,_,rfl,_,rfl,_,_,rfl,rfl,_,rfl, ?_⟩
   refine⟨a,_,rfl,s'.seqT ha,fun p H2 s2 hp=> ?_⟩
   rw[show (if k-(m:Int)+1>0 then k-(m:Int)+1 else 0)=(((k-(m:Int)+1).toNat:Nat):Int) by split<;>(first|lia|omega),show k+1=((k+1).toNat:Int) by (first|lia|omega),zhO] at hp
   refine⟨p,_,rfl,hp, ?_⟩
   rw[zhM]
   have e:=zhN ns (k-(m:Int)+1) m
   rw[show max (k-(m:Int)+1) 0=((k-(m:Int)+1).toNat:Int) by (first|lia|omega),show m-(-(k-(m:Int)+1)).toNat=(k+1).toNat-(k-(m:Int)+1).toNat by (first|lia|omega)] at e
   rw[<-e]
   exact q H2 s2
  ·refine ⟨acc,_,rfl,.inl ⟨SqL.of hys,fun p hp=> ?_⟩⟩
   exact k p _ (sm.trans (zae hp)) zad
noncomputable abbrev zcO:Stmt:=top 73
noncomputable abbrev ziy:Stmt:=top 75
noncomputable abbrev zf4:Stmt:=top 77
theorem sc_next_row:FnScope ["kind", "many", "ahead", "row"] ["kind", "many", "ahead"] (zag zcO):=⟨rfl,rfl,rfl,by decide+kernel,rfl,by decide+kernel,by decide+kernel⟩
theorem zkI:FnScope ["kind", "many"] ["kind", "many"] (zag ziy):=⟨rfl,rfl,rfl,by decide+kernel,rfl,by decide+kernel,by decide+kernel⟩
theorem sc_steps:FnScope ["kind", "many", "rows", "size"] ["kind", "many"] (zag zf4):=⟨rfl,rfl,rfl,by decide+kernel,rfl,by decide+kernel,by decide+kernel⟩
theorem zf5 {f C f1 f2 f3 f5:Addr}{fd:FuncData}(F:Fun K "next_row" "next_row" zcO f fd)(hC:mg "ROWS" =some (.ref C))(GD:GDict K w.params C [("rounds",f1),("stays",f2),("rises",f3),("highs",f1),("crossed",f5)])
  (c1:CalF P w K mg base 2 f1 ["many", "ahead"] (zcV K 60 zbY)) (c2:CalF P w K mg base 2 f2 ["many", "ahead"] (zcV K 60 zcp)) (c3:CalF P w K mg base 2 f3 ["many", "ahead"] (zcV K 60 zcq)) (c5:CalF P w K mg base 2 f5 ["many", "ahead"] (zcV K 24 zbD)):FnOk P w K mg base CX0 3 f fd ["kind", "many", "ahead"] (zhP K):=by
 refine F.ok sc_next_row (fun vs H Q E h=> ?_) (fun cdv A outer s H vs Q E hr h=> ?_)
 ·obtain ⟨kind,m,a,ns,rfl,_⟩:=h
  rfl
 ·obtain ⟨kind,m,a,ns,rfl,hk,m1,m2,ha,hl,k⟩:=h
  refine⟨_,(zaf (zap (i:=3) sc_next_row.nd rfl (Or.inl rfl) (zan zgY (zbp (v:=.ref C) rfl hC rfl) (pv 0) (fun _ _=>rfl)))
   (zah (zal (zb6 (k:=2) (pv 3) hr (zaa (pv 1) (zaa (pv 2) zac)))))), ?_⟩
  rcases zbZ hk with rfl|rfl|rfl|rfl|rfl
  ·exact⟨_,rfl,C,_,_,f1,rfl,rfl,GD,rfl,_,rfl,f1,_,_,rfl,c1,_,rfl,_,rfl,m,a,ns,rfl,m1,m2,ha,hl,k⟩
  ·exact⟨_,rfl,C,_,_,f2,rfl,rfl,GD,rfl,_,rfl,f2,_,_,rfl,c2,_,rfl,_,rfl,m,a,ns,rfl,m1,m2,ha,hl,k⟩
  ·exact⟨_,rfl,C,_,_,f3,rfl,rfl,GD,rfl,_,rfl,f3,_,_,rfl,c3,_,rfl,_,rfl,m,a,ns,rfl,m1,m2,ha,hl,k⟩
  ·exact⟨_,rfl,C,_,_,f1,rfl,rfl,GD,rfl,_,rfl,f1,_,_,rfl,c1,_,rfl,_,rfl,m,a,ns,rfl,m1,m2,ha,hl,k⟩
  ·exact⟨_,rfl,C,_,_,f5,rfl,rfl,GD,rfl,_,rfl,f5,_,_,rfl,c5,_,rfl,_,rfl,m,a,ns,rfl,m1,m2,ha,hl,k⟩
theorem zjp {f FR:Addr}{fd:FuncData}(F:Fun K "steps" "steps" zf4 f fd)(T:Top mg)(hFR:mg "FIRST_ROW" =some (.ref FR))(hF:∀H,SqT K H FR ([1].map V.int))(Cnext_row:Cal P w K mg base 3 "next_row" ["kind", "many", "ahead"] (zhP K)):FnOk P w K mg base CX0 4 f fd ["kind", "many"] (zfH K):=by
 refine F.ok sc_steps (fun vs H Q E h=> ?_) (fun cdv A outer s H vs Q E hr h=> ?_)
 ·obtain ⟨kind,m,rfl,_⟩:=h
  rfl
 ·obtain ⟨kind,m,rfl,hk,hm,k⟩:=h
  have hb:=zjM kind
  refine⟨_,(zaf (zap (i:=2) sc_steps.nd rfl (Or.inl rfl) (zbC (zaa (zbp (v:=.ref FR) rfl hFR rfl) zac)))
   (zaf (zaR PassesOwn.never rfl (zdc rfl T.n_range (zaa zab (zaa (zaj zax (pv 1) zab) zac))) (zat (i:=3) sc_steps.nd rfl (Or.inl rfl))
    (zah (zcA (zgS PySem.F.plainAttrs_list PySem.F.slot_list_append PySem.F.type_list_append zbU (pv 2) (zaa (zak Cnext_row (hr.mono (by decide)) rfl (zaa (pv 0) (zaa (pv 3) (zaa (zan zbq (pv 2) (zl2 zk3 zab) (fun _ _=>rfl)) zac)))) zac)))))
   (zah (zal (zaN zaL (by rfl) T.n_tuple boot_tuple (zaa (pv 2) zac)))))), ?_⟩
  refine⟨by show 1<=sizeLine;decide,fun l hl=> ?_⟩
  have s1:=zae (o:=.lst [.ref FR]) hl
  refine⟨_,rfl,_,_,rfl,rfl,_,_,rfl,⟨by decide,by decide,by (first|lia|omega),by (first|lia|omega)⟩, ?_⟩
  rw[show ((m:Int)+1-1).toNat=m by (first|lia|omega)]
  refine zaI (fun i σ H2=>∃(zs:List Addr) (c3:Option V),σ=[some (.str kind),some (.int m),some (.ref l),c3]/\Same H H2/\H2 l=some (.lst (zs.map V.ref))/\RowsK K H2 zs (zek kind i)) ?_ ?_ ?_
  ·exact⟨[FR],none,rfl,s1,zad,.cons (hF _) .nil⟩
  ·rintro i σ H2 hi ⟨zs,c3,rfl,sm,hl2,R⟩
   have ez:zs.length=i+1:=by rw[Paired.length R,zhR]
   obtain⟨z,hz,hzr⟩:=R.get (i:=i) (r:=rowZ kind i) (by unfold zek;simp)
   refine⟨_,rfl,.inl ⟨rfl,_,SqL.of hl2⟩, ?_⟩
   refine⟨_,rfl,_,rfl,_,rfl,_,rfl,l,_,_,(.ref z),rfl,rfl,SqL.of hl2, ?_, ?_⟩
   ·have hzl:zs.length-1=i:=by (first|lia|omega)
    show atI (zs.map V.ref) (-1)=some (V.ref z)
    rw[ziS (by rw[List.length_map];(first|lia|omega)),List.length_map,hzl,List.getElem?_map,hz]
    rfl
   refine⟨kind,i+1,z,rowZ kind i, ?_,hk,by (first|lia|omega),by (first|lia|omega),hzr,Nat.le_trans (ziR (by (first|lia|omega))) (by decide),fun p H3 s3 hp=> ?_⟩
   ·rw[show (1:Int)+(i:Int)=((i+1:Nat):Int) by (first|lia|omega)]
   refine⟨l,_,_,rfl,rfl,s3 _ _ hl2,zaW (by rw[List.length_map];(first|lia|omega)),zs++[p],_,rfl,zav (sm.trans s3) hl, ?_, ?_⟩
   ·rw [zad,List.map_append]
    rfl
   ·rw [zg0]
    exact Paired.snoc ((R.same s3).updL (s3 _ _ hl2)) (zgm (SqT.of hp) (s3 _ _ hl2))
  ·rintro σ H2 ⟨zs,c3,rfl,sm,hl2,R⟩
   refine⟨_,rfl,l,_,rfl,.inl ⟨SqL.of hl2,fun p hp=> ?_⟩⟩
   exact k p zs _ (sm.trans (zae hp)) zad (R.same (zae hp))
noncomputable abbrev zbx:Stmt:=top 78
noncomputable abbrev zbP:Stmt:=top 79
noncomputable abbrev zby:Stmt:=top 80
theorem sc_longest_told:FnScope ["many", "numbers", "shape", "ways", "longest"] ["many"] (zag zbx):=⟨rfl,rfl,rfl,by decide+kernel,rfl,by decide+kernel,by decide+kernel⟩
theorem sc_fillings_of:FnScope ["many", "fillings", "size", "larger", "shape", "ways", "grown"] ["many"] (zag zbP):=⟨rfl,rfl,rfl,by decide+kernel,rfl,by decide+kernel,by decide+kernel⟩
theorem sc_shapes_grown:FnScope ["shape", "grown", "at", "length"] ["shape"] (zag zby):=⟨rfl,rfl,rfl,by decide+kernel,rfl,by decide+kernel,by decide+kernel⟩
set_option maxHeartbeats 4000000 in
theorem zdF {f:Addr}{fd:FuncData}(F:Fun K "shapes_grown" "shapes_grown" zby f fd)(T:Top mg):FnOk P w K mg base CX0 1 f fd ["shape"] zfN:=by
 refine F.ok sc_shapes_grown (fun vs H Q E h=> ?_) (fun cdv A outer s H vs Q E hr h=> ?_)
 ·obtain ⟨a,sh,rfl,_⟩:=h
  rfl
 ·obtain ⟨a,sh,rfl,ha,hl,k⟩:=h
  refine⟨_,(zaf (zap (i:=1) sc_shapes_grown.nd rfl (Or.inl rfl) (zbC (zaa (zaj zdg (pv 0) (zaz (zaa zab zac))) zac)))
   (zaf (zaR PassesOwn.never rfl (ziM rfl T.n_enumerate (zaa (pv 0) zac)) (zfC (i:=2) (j:=3) rfl sc_shapes_grown.nd rfl rfl (Or.inl rfl) (Or.inl rfl) (Or.inl rfl) (Or.inl rfl))
    (zah (zaY (PW.pt (zea (zar zcT (pv 2) zab (zau _)) (zcj (zar zee (zan zam (pv 0) (zaj zaP (pv 2) zab) (fun _ _=>rfl)) (pv 3) (zau _)))))
     (zah (zcA (zgS PySem.F.plainAttrs_list PySem.F.slot_list_append PySem.F.type_list_append zbU (pv 1) (zaa (zaj zdg (zaj zdg (zbm zcd (pv 0) zdd (zbd (pv 2))) (zaz (zaa (zaj zax (pv 3) zab) zac))) (zbm zcd (pv 0) (zbd (zaj zax (pv 2) zab)) zdd)) zac))))
     zay)))
   (zah (zal (pv 1))))), ?_⟩
  refine⟨_,rfl,by show 1<=sizeLine;decide,fun t1 ht1=> ?_⟩
  have s1:=zae (o:=.tup [.int 1]) ht1
  refine⟨a,t1,_,_,rfl,rfl,s1 _ _ ha,zad, ?_,fun p0 G0 s0 hp0=> ?_⟩
  ·rw [zas]
   exact Nat.le_trans (by show sh.length+1<=30;(first|lia|omega)) (by decide)
  refine⟨by show 1<=sizeLine;decide,fun L hL=> ?_⟩
  have sL:=zae (o:=.lst [.ref p0]) hL
  have S0:=(s1.trans s0).trans sL
  have hL0:H L=none:=(s1.trans s0).free hL
  refine⟨_,rfl,a,rfl,⟨_,SqT.of (S0 _ _ ha)⟩, ?_⟩
  refine ziP (K:=K) (xs:=sh.map V.int) (fun i σ G=>∃(c2 c3:Option V) (zs:List Addr),σ=[some (.ref a),some (.ref L),c2,c3]/\Same H G/\G L=some (.lst (zs.map V.ref))/\RowsAt G zs (grTo sh i)) ?_ ?_ ?_ ?_
  ·refine ⟨none,none,[p0],rfl,S0,zad,.cons (sL _ _ ?_) .nil⟩
   rw[hp0,List.map_append]
   rfl
  ·rintro i σ G _ ⟨c2,c3,zs,rfl,sG,_⟩
   exact SqT.of (sG _ _ ha)
  ·rintro i x t σ G hx ⟨c2,c3,zs,rfl,sG,hG,R⟩ ht
   have hi:i<sh.length:=by
    have:=(List.getElem?_eq_some_iff.mp hx).1
    rwa [zas] at this
   rw[List.getElem?_map,List.getElem?_eq_getElem hi] at hx
   cases hx
   have st:=zae (o:=.tup [.int (i:Int),.int sh[i]]) ht
   have sT:=sG.trans st
   have hG':=st _ _ hG
   have eg:sh.getD i 0=sh[i]:=by rw[List.getD_eq_getElem?_getD,List.getElem?_eq_getElem hi];rfl
   have hzl:zs.length=(grTo sh i).length:=Paired.length R
   have hgl:=zgE sh i
   refine⟨t,_,rfl,SqT.of zad,rfl,_,_,rfl,_,_,rfl,rfl, ?_⟩
   have fin:∀(p:Addr) (G2:Hp),Same (upd G t (.tup [.int (i:Int),.int sh[i]])) G2->G2 p=some (.tup ((grAt sh i).map V.int))->grOk sh i=true->Same H (upd G2 L (.lst (zs.map V.ref++[.ref p])))/\(upd G2 L (.lst (zs.map V.ref++[.ref p]))) L=some (.lst ((zs++[p]).map V.ref))/\RowsAt (upd G2 L (.lst (zs.map V.ref++[.ref p]))) (zs++[p]) (grTo sh (i+1)):=by
    intro p G2 s2 hp hok
    have hf:=zbX (ys:=zs.map V.ref++[.ref p]) (s2 _ _ hG')
    refine⟨zav (sT.trans s2) hL0,by rw[zad,List.map_append];rfl, ?_⟩
    rw[zfl,if_pos hok]
    exact Paired.snoc (((R.same st).same s2).sameT hf) (hf _ _ hp)
   have hdec:decide (V.int (i:Int)=V.int 0)=(i==0):=by
    by_cases h0:i=0
    ·subst h0;rfl
    ·rw [decide_eq_false (fun e=>h0 (by have:=V.int.inj e;(first|lia|omega)))]
     exact (beq_eq_false_iff_ne.mpr h0).symm
   refine⟨_,rfl,rfl,_,rfl, ?_⟩
   rw[hdec]
   have hcase:i=0∨(i≠0/\sh[i]<sh.getD (i-1) 0)∨(i≠0/\¬sh[i]<sh.getD (i-1) 0):=by (first|lia|omega)
   have hix:i≠0->atI (sh.map V.int) ((i:Int)-1)=some (.int (sh.getD (i-1) 0)):=fun h0=>by
    have:=zbr (ys:=sh) (i:=(i:Int)-1) (by (first|lia|omega)) (by (first|lia|omega))
    rwa [show ((i:Int)-1).toNat=i-1 by (first|lia|omega)] at this
   rcases hcase with h0|⟨h0,h1⟩|⟨h0,h1⟩
   case' inl=>
    have hok:grOk sh i=true:=by unfold grOk;simp[h0]
    rw[beq_iff_eq.mpr h0]
    refine iteT (iteT ?_)
   case' inr.inl=>
    have hok:grOk sh i=true:=by unfold grOk;rw[eg,decide_eq_true h1];simp
    rw[beq_eq_false_iff_ne.mpr h0]
    refine iteF ?_
    refine⟨_,rfl,_,rfl,_,_,rfl,rfl,a,_,_,_,rfl,rfl,SqT.of (sT _ _ ha),hix h0,_,rfl,_,_,rfl,rfl,_,rfl, ?_⟩
    rw[decide_eq_true h1]
    refine iteT ?_
   case inr.inr=>
    have hok:grOk sh i=false:=by unfold grOk;rw[eg,decide_eq_false h1,beq_eq_false_iff_ne.mpr h0];rfl
    rw[beq_eq_false_iff_ne.mpr h0]
    refine iteF ?_
    refine⟨_,rfl,_,rfl,_,_,rfl,rfl,a,_,_,_,rfl,rfl,SqT.of (sT _ _ ha),hix h0,_,rfl,_,_,rfl,rfl,_,rfl, ?_⟩
    rw[decide_eq_false h1]
    refine iteF ?_
    refine⟨_,_,zs,rfl,sT,hG', ?_⟩
    rw[zfl,hok]
    rw[if_neg Bool.false_ne_true,List.append_nil]
    exact R.same st
   all_goals
    refine⟨_,rfl,.inl ⟨rfl,_,SqL.of hG'⟩, ?_⟩
    refine⟨_,rfl,_,rfl,_,rfl,a,_,rfl,sT _ _ ha,fun q1 G1 g1 hq1=> ?_⟩
    rw[zkC _ _ (by (first|lia|omega))] at hq1
    refine⟨_,rfl,_,_,rfl,rfl,by show 1<=sizeLine;decide,fun q2 hq2=> ?_⟩
    have g2:=zae (o:=.tup [.int (sh[i]+1)]) hq2
    refine⟨q1,q2,_,_,rfl,rfl,g2 _ _ hq1,zad, ?_,fun q3 G3 g3 hq3=> ?_⟩
    ·exact Nat.le_trans (by rw[zas,List.length_take];show min _ _+1<=30;(first|lia|omega)) (by decide)
    have g13:=(g1.trans g2).trans g3
    refine⟨_,rfl,_,rfl,_,_,rfl,rfl,_,rfl,a,_,rfl,g13 _ _ (sT _ _ ha),fun q4 G4 g4 hq4=> ?_⟩
    rw[show ((i:Int)+1)=((i+1:Nat):Int) by (first|lia|omega),zhS] at hq4
    refine⟨q3,q4,_,_,rfl,rfl,g4 _ _ hq3,hq4, ?_,fun q5 G5 g5 hq5=> ?_⟩
    ·exact Nat.le_trans (by rw[List.length_append,zas,zas,List.length_take,List.length_drop];show min _ _+1+_<=60;(first|lia|omega)) (by decide)
    rw[zji sh i _ eg] at hq5
    have g15:=(g13.trans g4).trans g5
    obtain⟨f1,f2,f3⟩:=fin q5 G5 g15 hq5 hok
    refine⟨L,_,_,rfl,rfl,g15 _ _ hG',zaW (by rw[zbH];(first|lia|omega)), ?_⟩
    exact⟨_,_,zs++[q5],rfl,f1,f2,f3⟩
  ·rintro σ G ⟨c2,c3,zs,rfl,sG,hG,R⟩
   refine⟨_,rfl,k L zs G sG hG ?_⟩
   rw[zas] at R
   exact R
set_option maxHeartbeats 4000000 in
theorem zdX {f:Addr}{fd:FuncData}(F:Fun K "fillings_of" "fillings_of" zbP f fd)(T:Top mg)(Cshapes_grown:Cal P w K mg base 1 "shapes_grown" ["shape"] zfN):FnOk P w K mg base CX0 2 f fd ["many"] zih:=by
 refine F.ok sc_fillings_of (fun vs H Q E h=> ?_) (fun cdv A outer s H vs Q E hr h=> ?_)
 ·obtain ⟨n,rfl,_⟩:=h
  rfl
 ·obtain ⟨n,rfl,hn,k⟩:=h
  have hu1:=zlc hr
  refine⟨_,(zaf (zap (i:=1) sc_fillings_of.nd rfl (Or.inl rfl) (zie hu1 (zaz zac) zab))
   (zaf (zaR PassesOwn.never rfl (zaB rfl T.n_range (zaa (pv 0) zac)) (zat (i:=2) sc_fillings_of.nd rfl (Or.inl rfl))
    (zaf (zap (i:=3) sc_fillings_of.nd rfl (Or.inl rfl) zi4)
    (zaf (zaR PassesOwn.never rfl (zgD (pv 1)) (zfC (i:=4) (j:=5) rfl sc_fillings_of.nd rfl rfl (Or.inl rfl) (Or.inl rfl) (Or.inl rfl) (Or.inl rfl))
     (zah (zaR PassesOwn.never rfl (zcB (zak Cshapes_grown (hr.mono (by decide)) rfl (zaa (pv 4) zac))) (zat (i:=6) sc_fillings_of.nd rfl (Or.inl rfl))
      (zah (zko hu1 (pv 3) (pv 6) (zaj zax (zep hu1 (pv 3) (pv 6) zab ⟨rfl,rfl,rfl,rfl⟩) (pv 5)) rfl)))))
    (zah (zap (i:=1) sc_fillings_of.nd rfl (Or.inl rfl) (pv 3))))))
   (zah (zal (pv 1))))), ?_⟩
  refine fun F0 hF0=>⟨Nat.zero_le _,fun t0 ht0=>⟨t0,keyI [],rfl,zad, ?_, ?_⟩⟩
  ·rw[zaq (fun z=>by rw[z,zad] at ht0;cases ht0),zad]
  have hF00:(upd (upd (upd H F0 (.dT [])) t0 (.tup [])) F0 (.dT [(keyI [],.int 1)])) F0=some (.dT (dV (zaH 0))):=zad
  have sF0:Same H (upd (upd (upd H F0 (.dT [])) t0 (.tup [])) F0 (.dT [(keyI [],.int 1)])):=zav ((zae hF0).trans (zae ht0)) hF0
  generalize (upd (upd (upd H F0 (.dT [])) t0 (.tup [])) F0 (.dT [(keyI [],.int 1)]))=C0 at hF00 sF0 ⊢
  refine⟨_,rfl,_,rfl,by (first|lia|omega),by (first|lia|omega), ?_⟩
  rw[Int.toNat_natCast]
  refine zaI (n:=n) (fun i σ G=>∃(Fd:Addr) (c2 c3 c4 c5 c6:Option V),σ=[some (.int n),some (.ref Fd),c2,c3,c4,c5,c6]/\Same H G/\H Fd=none/\G Fd=some (.dT (dV (zaH i)))) ?_ ?_ ?_
  ·exact⟨F0,none,none,none,none,none,rfl,sF0,hF0,hF00⟩
  ·rintro i σ G hi ⟨Fd,c2,c3,c4,c5,c6,rfl,sG,hFd,hG⟩
   obtain⟨fl,fk⟩:=zig (n:=i) (by (first|lia|omega))
   refine fun L hL=> ?_
   have hL0:H L=none:=sG.free hL
   have hLF:Fd≠L:=fun z=>by rw[z,hL] at hG;cases hG
   have sL:=zae (o:=.dT []) hL
   refine⟨_,rfl,Fd,_,rfl,sL _ _ hG,fun ob=> ?_⟩
   refine zfk (kvs:=dV (zaH i)) (fun j σ G'=>∃(c4 c5 c6:Option V) (D:ShD),σ=[some (.int n),some (.ref Fd),some (.int (0+(i:Int))),some (.ref L),c4,c5,c6]/\Same H G'/\G' Fd=some (.frz ob (.dT (dV (zaH i))))/\G' L=some (.dT (dV D))/\D=((zaH i).take j).foldl zlF []/\D.length<=21*j) ?_ ?_ ?_ ?_
   ·refine ⟨_,_,_,[],rfl,zav (sG.trans sL) hFd,zad, ?_,rfl,Nat.le_refl _⟩
    rw[zaq (Ne.symm hLF),zad]
    rfl
   ·rintro j σ G' _ ⟨c4,c5,c6,D,rfl,_,h,_⟩
    exact h
   ·rintro j kk vv t b σ G' hx ⟨c4,c5,c6,D,rfl,sG',hF',hL',hD,hDl⟩ ht hb
    have hj:j<(zaH i).length:=by
     have:=(List.getElem?_eq_some_iff.mp hx).1
     unfold dV at this
     rwa [List.length_map] at this
    have hxx:(zaH i)[j]? =some (zaH i)[j]:=List.getElem?_eq_getElem hj
    have htk:(zaH i).take (j+1)=(zaH i).take j++[(zaH i)[j]]:=by rw[List.take_succ,hxx];rfl
    have hmem:(zaH i)[j]∈zaH i:=List.getElem_mem hj
    unfold dV at hx
    rw[List.getElem?_map,hxx] at hx
    generalize (zaH i)[j]=sw at hx htk hmem
    obtain⟨sh,w⟩:=sw
    cases hx
    obtain⟨k1,k2,k3⟩:=fk _ hmem
    replace k1:sh.length<=20:=k1
    rw[zet] at hb
    have st:=zae (o:=.tup [.ref b,.int w]) ht
    refine⟨t,_,rfl,SqT.of zad,rfl,_,_,rfl,_,_,rfl,rfl, ?_⟩
    refine⟨_,rfl,b,sh,rfl,st _ _ hb,k1,fun l zs G3 s3 hl R=>⟨l,rfl,⟨_,SqL.of hl⟩, ?_⟩⟩
    have S3:=st.trans s3
    have hgl:=zgE sh sh.length
    have hzl:zs.length=(zcw sh).length:=Paired.length R
    refine zec (K:=K) (a:=l) (xs:=zs.map V.ref) (fun q σ G'=>∃(c6:Option V) (D':ShD),σ=[some (.int n),some (.ref Fd),some (.int (0+(i:Int))),some (.ref L),some (.ref b),some (.int w),c6]/\Same H G'/\G' Fd=some (.frz ob (.dT (dV (zaH i))))/\G' L=some (.dT (dV D'))/\G' l=some (.lst (zs.map V.ref))/\RowsAt G' zs (zcw sh)/\D'=((zcw sh).take q).foldl (addS w) D/\D'.length<=D.length+q) ?_ ?_ ?_ ?_
    ·exact⟨_,D,rfl,(sG'.trans S3),S3 _ _ hF',S3 _ _ hL',hl,R,rfl,Nat.le_refl _⟩
    ·rintro q σ G4 _ ⟨c6,D',rfl,_,_,_,h,_⟩
     exact SqL.of h
    ·rintro q x σ G4 hx ⟨c6,D',rfl,s4,hF4,hL4,hl4,R4,hD',hD'l⟩
     have hq:q<zs.length:=by
      have:=(List.getElem?_eq_some_iff.mp hx).1
      rwa [zbH] at this
     rw[List.getElem?_map] at hx
     obtain⟨z,hz,rfl⟩:=Option.map_eq_some_iff.mp hx
     obtain⟨g,hg,hzg⟩:=R4.get hz
     have htg:(zcw sh).take (q+1)=(zcw sh).take q++[g]:=by rw[List.take_succ,hg];rfl
     have hzg':G4 z=some (.tup ((keyI g).map kV)):=by rw[zet];exact hzg
     refine⟨_,rfl,L,rfl,.inr ⟨_,.inl hL4⟩,_,rfl,_,DGet.t hL4 hzg', ?_⟩
     rw[zlG]
     refine⟨_,rfl,_,_,rfl,rfl, ?_⟩
     have hlen:(dV D').length<sizeLine:=by
      unfold dV
      rw[List.length_map]
      exact Nat.lt_of_le_of_lt (by unfold zcw at hzl;(first|lia|omega):D'.length<=10000) (by decide)
     refine⟨_,rfl,_,rfl,L,_,rfl,DPut.t hL4 hzg' hlen, ?_⟩
     rw[zlH]
     have hlF:Fd≠L:=hLF
     have hlL:l≠L:=fun z=>by rw[z,hL4] at hl4;cases hl4
     refine⟨_,addS w D' g,rfl,zav s4 hL0,by rw[zaq hlF];exact hF4,zad,by rw[zaq hlL];exact hl4,R4.sameT (zjh hL4), ?_, ?_⟩
     ·rw [htg,List.foldl_append,<-hD']
      rfl
     ·have:=zjg D' g (getS D' g+w)
      unfold addS
      (first|lia|omega)
    ·rintro σ G4 ⟨c6,D',rfl,s4,hF4,hL4,hl4,R4,hD',hD'l⟩
     rw[zbH] at hD' hD'l
     refine⟨_,_,_,D',rfl,s4,hF4,hL4, ?_, ?_⟩
     ·rw [htk,List.foldl_append,<-hD,hD',hzl,List.take_length]
      rfl
     ·unfold zcw at hzl
      (first|lia|omega)
   ·rintro σ G' ⟨c4,c5,c6,D,rfl,sG',hF',hL',hD,hDl⟩
    refine⟨_,rfl, ?_⟩
    refine⟨L,_,_,_,_,_,rfl,sG',hL0, ?_⟩
    rw[hL',hD]
    unfold dV
    rw[List.length_map,List.take_length]
    rfl
  ·rintro σ G ⟨Fd,c2,c3,c4,c5,c6,rfl,sG,hFd,hG⟩
   exact⟨_,rfl,k Fd G sG hFd hG⟩
set_option maxHeartbeats 4000000 in
theorem zdG {f:Addr}{fd:FuncData}(F:Fun K "longest_told" "longest_told" zbx f fd)(T:Top mg)(Cfillings_of:Cal P w K mg base 2 "fillings_of" ["many"] zih):FnOk P w K mg base CX0 3 f fd ["many"] zik:=by
 refine F.ok sc_longest_told (fun vs H Q E h=> ?_) (fun cdv A outer s H vs Q E hr h=> ?_)
 ·obtain ⟨n,rfl,_⟩:=h
  rfl
 ·obtain ⟨n,rfl,hn,k⟩:=h
  refine⟨_,(zaf (zap (i:=1) sc_longest_told.nd rfl (Or.inl rfl) (zaj zk9 (zbC (zaa zab zac)) (zaj zax (pv 0) zab)))
   (zaf (zaR PassesOwn.never rfl (zgD (zak Cfillings_of (hr.mono (by decide)) rfl (zaa (pv 0) zac))) (zfC (i:=2) (j:=3) rfl sc_longest_told.nd rfl rfl (Or.inl rfl) (Or.inl rfl) (Or.inl rfl) (Or.inl rfl))
    (zaf (zap (i:=4) sc_longest_told.nd rfl (Or.inl rfl) (zbE (zef (pv 2) (fun _=>rfl)) (zan zam (pv 2) zab (fun _ _=>rfl)) zab))
    (zah (zj2 (pv 1) (pv 4) zjf (zaj zaM (pv 3) (pv 3)) zk1 zeg))))
   (zah (zal (zaN zaL (by rfl) T.n_tuple boot_tuple (zaa (pv 1) zac)))))), ?_⟩
  obtain⟨fl,fk⟩:=zig hn
  have lk:=zlI hn
  refine⟨by show 1<=sizeLine;decide,fun l0 hl0=>⟨_,rfl,_,_,rfl,rfl, ?_⟩⟩
  refine⟨l0,_,_,rfl,rfl,zad,by (first|lia|omega),by (first|lia|omega), ?_,fun L hL=> ?_⟩
  ·rw [show ((n:Int)+1).toNat=n+1 by (first|lia|omega)]
   exact Nat.le_trans (by show 1*(n+1)<=30;(first|lia|omega)) (by decide)
  have er:(List.replicate ((n:Int)+1).toNat [V.int 0]).flatten=(List.replicate (n+1) (0:Int)).map V.int:=by
   rw[show ((n:Int)+1).toNat=n+1 by (first|lia|omega)]
   generalize n+1=m
   induction m with
   |zero=>rfl
   |succ m ih=>rw[List.replicate_succ,List.flatten_cons,ih,List.replicate_succ];rfl
  have hLL:(upd (upd H l0 (.lst [.int 0])) L (.lst (List.replicate ((n:Int)+1).toNat [V.int 0]).flatten)) L=some (.lst ((List.replicate (n+1) (0:Int)).map V.int)):=by rw[zad,er]
  have sLL:Same H (upd (upd H l0 (.lst [.int 0])) L (.lst (List.replicate ((n:Int)+1).toNat [V.int 0]).flatten)):=(zae hl0).trans (zae hL)
  have hL0:H L=none:=(zae hl0).free hL
  generalize (upd (upd H l0 (.lst [.int 0])) L (.lst (List.replicate ((n:Int)+1).toNat [V.int 0]).flatten))=C0 at hLL sLL ⊢
  refine⟨_,rfl,n,rfl,hn,fun d G1 s1 hd0 hd=>⟨d,_,rfl,hd,fun ob=> ?_⟩⟩
  have hdL:d≠L:=fun z=>by rw[z,hLL] at hd0;cases hd0
  have hdH:H d=none:=sLL.free hd0
  refine zfk (kvs:=dV (zaH n)) (fun j σ G'=>∃(c2 c3 c4:Option V),σ=[some (.int n),some (.ref L),c2,c3,c4]/\Same H G'/\G' d=some (.frz ob (.dT (dV (zaH n))))/\G' L=some (.lst ((((zaH n).take j).foldl zdM (List.replicate (n+1) 0)).map V.int))) ?_ ?_ ?_ ?_
  ·refine ⟨_,_,_,rfl,zav (sLL.trans s1) hdH,zad, ?_⟩
   rw[zaq (Ne.symm hdL)]
   exact s1 _ _ hLL
  ·rintro j σ G' _ ⟨c2,c3,c4,rfl,_,h,_⟩
   exact h
  ·rintro j kk vv t b σ G' hx ⟨c2,c3,c4,rfl,sG',hF',hL'⟩ ht hb
   have hj:j<(zaH n).length:=by
    have:=(List.getElem?_eq_some_iff.mp hx).1
    unfold dV at this
    rwa [List.length_map] at this
   have hxx:(zaH n)[j]? =some (zaH n)[j]:=List.getElem?_eq_getElem hj
   have htk:(zaH n).take (j+1)=(zaH n).take j++[(zaH n)[j]]:=by rw[List.take_succ,hxx];rfl
   have hmem:(zaH n)[j]∈zaH n:=List.getElem_mem hj
   unfold dV at hx
   rw[List.getElem?_map,hxx] at hx
   generalize (zaH n)[j]=sw at hx htk hmem
   obtain⟨sh,w⟩:=sw
   cases hx
   obtain⟨k1,k2,k3⟩:=fk _ hmem
   replace k2:0<=w:=k2
   replace k3:w<1000000000:=k3
   obtain⟨q1,q2⟩:=lk _ hmem
   replace q1:0<=sh.getD 0 0:=q1
   replace q2:sh.getD 0 0<=(n:Int):=q2
   rw[zet] at hb
   have st:=zae (o:=.tup [.ref b,.int w]) ht
   have sT:=sG'.trans st
   have hL2:=st _ _ hL'
   have hlen:(((zaH n).take j).foldl zdM (List.replicate (n+1) 0)).length=n+1:=by rw[zij,List.length_replicate]
   generalize hns:((zaH n).take j).foldl zdM (List.replicate (n+1) 0)=ns at hL2 hlen hL'
   refine⟨t,_,rfl,SqT.of zad,rfl,_,_,rfl,_,_,rfl,rfl, ?_⟩
   refine⟨_,rfl, !(sh.map V.int).isEmpty,.inr (.inl ⟨_,SqT.of (st _ _ hb),rfl⟩), ?_⟩
   obtain⟨m,hm⟩:∃m:Nat,sh.getD 0 0=(m:Int):=⟨(sh.getD 0 0).toNat,by (first|lia|omega)⟩
   have hix:m<ns.length:=by (first|lia|omega)
   have hget:(ns.map V.int)[m]? =some (.int (ns.getD m 0)):=by
    rw[List.getElem?_map,List.getD_eq_getElem?_getD,List.getElem?_eq_getElem hix]
    rfl
   have hixN:ixN (ns.map V.int).length ((m:Nat):Int)=some m:=by
    unfold ixN
    rw[zas,if_pos (by (first|lia|omega)),if_pos (by (first|lia|omega))]
    simp
   have fin:zdM ns (sh,w)=ns.set m (ns.getD m 0+w*w):=by
    unfold zdM
    show ns.set (sh.getD 0 0).toNat (ns.getD (sh.getD 0 0).toNat 0+w*w)=_
    rw[hm,Int.toNat_natCast]
   replace hb:G' b=some (.tup (sh.map V.int)):=hb
   cases sh with
   | nil=>
    have hm0:m=0:=by
     have:((m:Nat):Int)=0:=hm.symm
     (first|lia|omega)
    subst hm0
    refine iteF ?_
    refine⟨_,rfl,_,rfl,L,_,0,_,rfl,rfl,hL2,hget, ?_⟩
    refine⟨_,rfl,_,rfl,_,_,rfl,rfl,.inl ⟨by (first|lia|omega),by (first|lia|omega)⟩,_,_,rfl,rfl,L,_,_,0,rfl,rfl,hL2,hixN, ?_⟩
    refine⟨_,_,_,rfl,zav sT hL0,by rw[zaq hdL];exact st _ _ hF', ?_⟩
    rw[zad,htk,List.foldl_append,List.foldl_cons,List.foldl_nil,hns,fin,List.map_set]
   |cons x r=>
    have hm0:x=(m:Int):=hm
    subst hm0
    refine iteT ?_
    refine⟨_,rfl,b,_,0,.int m,rfl,rfl,SqT.of (st _ _ hb),(show atI (List.map V.int ((m:Int)::r)) ((0:Nat):Int)=some (.int m) from zai rfl), ?_⟩
    refine⟨_,rfl,_,rfl,L,_,m,_,rfl,rfl,hL2,hget, ?_⟩
    refine⟨_,rfl,_,rfl,_,_,rfl,rfl,.inl ⟨by (first|lia|omega),by (first|lia|omega)⟩,_,_,rfl,rfl,L,_,_,m,rfl,rfl,hL2,hixN, ?_⟩
    refine⟨_,_,_,rfl,zav sT hL0,by rw[zaq hdL];exact st _ _ hF', ?_⟩
    rw[zad,htk,List.foldl_append,List.foldl_cons,List.foldl_nil,hns,fin,List.map_set]
  ·rintro σ G' ⟨c2,c3,c4,rfl,sG',hF',hL'⟩
   unfold dV at hL'
   rw[List.length_map,List.take_length] at hL'
   refine⟨_,rfl,L,_,rfl,.inl ⟨SqL.of hL',fun p hp=> ?_⟩⟩
   exact k p _ (sG'.trans (zae hp)) zad
end
end K63
namespace L2
open PySem PySem.Spec PyProof.Rows
noncomputable def inPV (row:List Int):V->Bool
 | .int k=>inRg row.length k
 |_=>false
noncomputable def zlO (row:List Int):V->V
 | .int k=>.int (row.getD k.toNat 0)
 |_=>.non
theorem zjq (row cs:List Int):(((cs.map V.int).filter (inPV row)).map (zlO row))=((cs.filter (inRg row.length)).map fun k=>row.getD k.toNat 0).map V.int:=by
 rw[List.filter_map,List.map_map,List.map_map]
 rfl
end L2
namespace K63
open PySem PySem.Spec PyProof.Rows L2
section
variable {P:Program}{w:World}{K:PySem.W.Frag}{mg:Str->Option Value}{base:Heap}
noncomputable abbrev zeI:Stmt:=top 76
theorem sc_share:FnScope ["kind", "many", "counts", "row", "having"] ["kind", "many", "counts"] (zag zeI):=⟨rfl,rfl,rfl,by decide+kernel,rfl,by decide+kernel,by decide+kernel⟩
theorem zkJ {f:Addr}{fd:FuncData}(F:Fun K "told" "told" ziy f fd)(T:Top mg)(Csteps:Cal P w K mg base 4 "steps" ["kind", "many"] (zfH K))(Clongest_told:Cal P w K mg base 3 "longest_told" ["many"] zik):FnOk P w K mg base CX0 5 f fd ["kind", "many"] (zfP K):=by
 refine F.ok zkI (fun vs H Q E h=> ?_) (fun cdv A outer s H vs Q E hr h=> ?_)
 ·obtain ⟨kind,m,rfl,_⟩:=h
  rfl
 ·obtain ⟨kind,m,rfl,hk,hm,k⟩:=h
  refine⟨_,(zaf (zaY (zar zcT (pv 0) zaE (zau _))
    (zah (zal (zak Clongest_told (hr.mono (by decide)) rfl (zaa (pv 1) zac))))
    zay)
   (zah (zal (zan zam (zak Csteps (hr.mono (by decide)) rfl (zaa (pv 0) (zaa (pv 1) zac))) (pv 1) (fun _ _=>rfl))))), ?_⟩
  refine⟨_,rfl,rfl,_,rfl, ?_⟩
  unfold row6 at k
  unfold b6 at hm
  rcases zcS hk with⟨h5,hne⟩|rfl
  ·rw [decide_eq_false (fun e=>hne (V.str.inj e))]
   rw[if_neg hne] at hm k
   refine iteF ?_
   refine⟨_,rfl,_,rfl,kind,m,rfl,h5,hm,fun p zs H' s' hp R=> ?_⟩
   obtain⟨z,hz,hzr⟩:=R.get (i:=m) (r:=rowZ kind m) (by unfold zek;simp)
   refine⟨_,rfl,p,_,_,(.ref z),rfl,rfl,SqT.of hp,zai (by rw[List.getElem?_map,hz];rfl), ?_⟩
   exact k z H' s' hzr
  ·rw [decide_eq_true rfl]
   rw[if_pos rfl] at hm k
   refine iteT ?_
   exact⟨_,rfl,m,rfl,hm,fun p H' s' hp=>k p H' s' (SqT.of hp)⟩
set_option maxHeartbeats 2000000 in
theorem zjr {f:Addr}{fd:FuncData}(F:Fun K "share" "share" zeI f fd)(T:Top mg)(Ctold:Cal P w K mg base 5 "told" ["kind", "many"] (zfP K))(Cshare_of:Cal P w K mg base 2 "share_of" ["over", "under"] zbS):FnOk P w K mg base CX0 6 f fd ["kind", "many", "counts"] (zeu K):=by
 refine F.ok sc_share (fun vs H Q E h=> ?_) (fun cdv A outer s H vs Q E hr h=> ?_)
 ·obtain ⟨kind,m,c,cs,rfl,_⟩:=h
  rfl
 ·obtain ⟨kind,m,c,cs,rfl,hk,hm,hc,hl,k⟩:=h
  refine⟨_,(zaf (zap (i:=3) sc_share.nd rfl (Or.inr rfl) (zak Ctold (hr.mono (by decide)) rfl (zaa (pv 0) (zaa (pv 1) zac))))
   (zaf (zap (i:=4) sc_share.nd rfl (Or.inl rfl) (zao (zhJ rfl) (by rfl) T.n_sum boot_sum (zaa (zcU (N':=["number", "row"]) (n:=1) (ix:=[3]) rfl (CompScope.of (sc:=zag zeI) (N:=["kind", "many", "counts", "row", "having"]) (by decide+kernel) rfl rfl) (zhn (pv 2)) (fun _ _ _ _ _=>⟨(zat (i:=0) (show (["number", "row"]:List Str).Nodup by decide+kernel) rfl (Or.inl rfl)),(zdf (zge ziH zed zab (pv 0) (zao (zer K rfl) (by rfl) T.n_len PySem.boot_len (zaa (pv 1) zac)))),(zan (zfD K rfl) (pv 1) (pv 0) (fun _ _=>rfl))⟩)) zac)))
   (zah (zal (zak Cshare_of (hr.mono (by decide)) rfl (zaa (pv 4) (zaa (zao (ze2 rfl) (by rfl) T.n_sum boot_sum (zaa (pv 3) zac)) zac))))))), ?_⟩
  obtain⟨sp0,sp1⟩:=zjk hk hm
  refine⟨_,rfl,_,rfl,kind,m,rfl,hk,hm,fun r G1 s1 hr1=> ?_⟩
  generalize row6 kind m=row at*
  refine⟨_,rfl,c,rfl,⟨_,SqT.of (s1 _ _ hc)⟩, ?_⟩
  refine zeh (zd3 (xs:=cs.map V.int)) (zaW (by rw[zas];(first|lia|omega))) (inPV row) (zlO row) (fun _ s'=>SqT.of (s' _ _ (s1 _ _ hc))) (fun x hx G' s' Q' q=> ?_) (fun x hx hp G' s' Q' q=> ?_) fun acc hacc=> ?_
  ·obtain ⟨x,_,rfl⟩:=List.mem_map.mp hx
   refine⟨_,rfl,_,_,rfl,rfl,_,rfl, ?_⟩
   replace q:Q' (inRg row.length x) G':=q
   unfold inRg at q
   by_cases h0:0<=x
   ·rw [decide_eq_true h0]
    refine iteT ⟨_,rfl,r,_,rfl,.inr (s'.seqT hr1), ?_⟩
    rw[decide_eq_true h0,Bool.true_and] at q
    rw[zas]
    exact⟨_,_,rfl,rfl,_,rfl,q⟩
   ·rw [decide_eq_false h0]
    rw[decide_eq_false h0,Bool.false_and] at q
    exact iteF ⟨_,rfl,q⟩
  ·obtain ⟨x,_,rfl⟩:=List.mem_map.mp hx
   have hp':inRg row.length x=true:=hp
   unfold inRg at hp'
   rw[Bool.and_eq_true] at hp'
   exact⟨_,rfl,_,rfl,r,_,x,_,rfl,rfl,s'.seqT hr1,zbr (of_decide_eq_true hp'.1) (of_decide_eq_true hp'.2),q⟩
  rw[zjq]
  refine⟨acc,_,rfl,zad, ?_⟩
  have sA:=zae (o:=.lst (((cs.filter (inRg row.length)).map fun k=>row.getD k.toNat 0).map V.int)) hacc
  refine⟨_,rfl,_,rfl,r,row,rfl,sA.seqT hr1, ?_⟩
  exact⟨_,_,rfl,sp0,sp1,fun z H' s' hz=>k z H' ((s1.trans sA).trans s') hz⟩
end
end K63
namespace L2
open PySem PySem.Spec PyProof.Rows
noncomputable def mxZ6 (l:List Int):Int:=l.foldl (fun a b=>if a<b then b else a) 0
noncomputable def belZ (o:List Int)(p:Nat):List Nat:=(List.range p).filter fun k=>decide (o.getD k 0<o.getD p 0)
noncomputable def lrTo (o:List Int):Nat->List Int
 |0=>[]
 |p+1=>lrTo o p++[1+mxZ6 ((belZ o p).map fun k=>(lrTo o p).getD k 0)]
theorem ziz:∀(l:List Int) (a:Int),(l.foldl (fun a b=>if a<b then b else a) a∈a::l)/\∀x∈a::l,x<=l.foldl (fun a b=>if a<b then b else a) a
 |[],a=>⟨by simp,fun x hx=>by rw[List.mem_singleton.mp hx];exact Int.le_refl _⟩
 | b ::t,a=>by
  obtain⟨h1,h2⟩:=ziz t (if a<b then b else a)
  rw[List.foldl_cons]
  refine⟨?_,fun x hx=> ?_⟩
  ·rcases List.mem_cons.mp h1 with h|h
   ·rw [h]
    split<;>simp
   ·exact List.mem_cons_of_mem _ (List.mem_cons_of_mem _ h)
  ·have hb:=h2 (if a<b then b else a) (by simp)
   rcases List.mem_cons.mp hx with rfl|hx
   ·refine Int.le_trans ?_ hb
    split<;>(first|lia|omega)
   ·rcases List.mem_cons.mp hx with rfl|hx
    ·refine Int.le_trans ?_ hb
     split<;>(first|lia|omega)
    ·exact h2 x (List.mem_cons_of_mem _ hx)
theorem zjR {l:List Int}{M:Int}(h1:M∈0::l)(h2:∀x∈0::l,x<=M):M=mxZ6 l:=by
 obtain⟨q1,q2⟩:=ziz l 0
 have a:=q2 M h1
 have b:=h2 _ q1
 unfold mxZ6
 (first|lia|omega)
structure GoneOk (m:Nat) (g:List Int):Prop where
 nd:g.Nodup
 rng:∀x∈g,0<=x/\x<(m:Int)
noncomputable def gV (g:List Int):List (Key×V):=g.map fun x=>(Sum.inl x,V.bl true)
noncomputable def zlP (o:List Int)(y:Int):V->Bool
 | .int k=>decide (o.getD k.toNat 0<y)
 |_=>false
noncomputable def atPV (l:List Int):V->V
 | .int k=>.int (l.getD k.toNat 0)
 |_=>.non
theorem zjs (o l:List Int)(p:Nat):(((za9 0 p).filter (zlP o (o.getD p 0))).map (atPV l))=((belZ o p).map fun k=>l.getD k 0).map V.int:=by
 unfold belZ za9
 rw[List.filter_map,List.map_map,List.map_map]
 congr 1
 ·funext k
  show V.int (l.getD (0+(k:Int)).toNat 0)=V.int (l.getD k 0)
  rw[Int.zero_add,Int.toNat_natCast]
 ·refine List.filter_congr fun k _=> ?_
  show decide (o.getD (0+(k:Int)).toNat 0<o.getD p 0)=_
  rw[Int.zero_add,Int.toNat_natCast]
theorem zeJ (o:List Int):∀p,(lrTo o p).length=p
 |0=>rfl
 |p+1=>by
  unfold lrTo
  rw[List.length_append,zeJ o p]
  rfl
theorem zfu {H:Hp}:∀{zs:List Addr} {os:List (List Int)},RowsAt H zs os->∀(i:Nat),i<zs.length->∃z o,zs[i]? =some z/\os[i]? =some o/\H z=some (.tup (o.map V.int))
 |_,_,.nil,i,h=>absurd h (Nat.not_lt_zero i)
 |z::_,o::_,.cons h t,0,_=>⟨z,o,rfl,rfl,h⟩
 |_::_,_::_,.cons h t,i+1,hi=>by
  obtain⟨z,o,e1,e2,e3⟩:=zfu t i (Nat.lt_of_succ_lt_succ hi)
  exact⟨z,o,e1,e2,e3⟩
theorem zjt {J:It}{Ok:Hp->Prop}{xs:List V}{tt:TT}{te:TE}{ix:List Nat}{σ:L2.St}{H1:Hp}{Q:VK}(Y:Yields J Ok xs)(small:xs.length<sizeLine)(b:Nat->Bool)(hok:∀H,Same H1 H->Ok H)
  (ht:∀(i:Nat) (x:V) (H:Hp),xs[i]? =some x->Same H1 H->∀(QT:Bool->Hp->Prop),(∀H',Same H H'->QT (b i) H')->tt (some x::ix.map fun i=>σ.getD i none) H QT)
  (he:∀(i:Nat) (x:V) (H:Hp),xs[i]? =some x->Same H1 H->∀(QT:VK),QT x H->te (some x::ix.map fun i=>σ.getD i none) H QT)
  (fin:∀acc (ys:List V) H',H1 acc=none->Same H1 H'->H' acc=some (.lst ys)->ys.length=((List.range xs.length).filter b).length->Q (.ref acc) H'):
  LcW J H1 (zck 0) tt te 1 ix σ Q:=by
 intro acc ha
 refine⟨fun i m H=>m=xs.length-i/\i<=xs.length/\Same H1 H/\∃ys:List V,H acc=some (.lst ys)/\ys.length=((List.range i).filter b).length,⟨xs.length,by simp,Nat.zero_le _,zae ha,[],zad,rfl⟩, ?_⟩
 rintro i m H ⟨rfl,hi,kp,ys,hacc,hl⟩
 have o:=hok _ kp
 by_cases hlt:i<xs.length
 ·refine .inr ⟨Y.go i _ o hlt,fun x H' y=> ?_⟩
  obtain⟨rfl,hx⟩:=Y.yld i _ x H' o hlt y
  have hyl:ys.length<=i:=by
   rw[hl]
   exact Nat.le_trans (List.length_filter_le _ _) (by rw[List.length_range];exact Nat.le_refl _)
  refine⟨⟨rfl,fun j v e=> ?_⟩, ?_⟩
  ·cases j with
   |zero=>cases e
   |succ j=>exact e
  ·refine ht i x H' hx kp _ (fun H3 s3=> ?_)
   cases hb:b i with
   |false=>
    rw[if_neg (by decide)]
    exact⟨xs.length-(i+1),by (first|lia|omega),rfl,hlt,kp.trans s3,ys,s3 _ _ hacc,by rw[List.range_succ,List.filter_append,List.length_append,List.filter_cons,hb];simpa using hl⟩
   |true=>
    rw[if_pos rfl]
    refine he i x H3 hx (kp.trans s3) _ ?_
    refine⟨_,s3 _ _ hacc,by (first|lia|omega),xs.length-(i+1),by (first|lia|omega),rfl,hlt,zav (kp.trans s3) ha,ys++[x],by rw[zad],by rw[List.range_succ,List.filter_append,List.length_append,List.filter_cons,hb,List.length_append,hl];rfl⟩
 ·have e:i=xs.length:=by (first|lia|omega)
  subst e
  exact .inl ⟨Y.stop _ o,fin acc ys H ha kp hacc hl⟩
theorem zf6 {α:Type}(f:α->Bool)(d:α)(l:List α):((List.range l.length).filter fun i=>f (l.getD i d)).length=l.countP f:=by
 have e:l=(List.range l.length).map fun k=>l.getD k d:=by
  apply List.ext_getElem?
  intro i
  rw[List.getElem?_map]
  by_cases hi:i<l.length
  ·rw [List.getElem?_range hi,List.getElem?_eq_getElem hi]
   simp[hi]
  ·rw [List.getElem?_eq_none (by (first|lia|omega)),List.getElem?_eq_none (by simpa using hi)]
   rfl
 conv=>rhs;rw[e]
 rw[List.countP_map,List.countP_eq_length_filter]
 rfl
theorem zd9:∀n:Nat,n<7->∀kind∈zbR,((zb0 kind n).all fun p=>decide (0<p.length)&&decide (0<=p.getD 0 0)&&decide ((p.getD 0 0).toNat<n)&&(decide (kind≠ "rises")||decide ((p.getD 0 0).toNat+1<n))&&(decide (kind≠ "crossed")||(decide (1<p.length)&&decide (0<=p.getD 1 0)&&decide ((p.getD 1 0).toNat<n))))=true/\(zb0 kind n).length<=1000:=by decide+kernel
noncomputable def zkK:Sp:=fun vs H Q _=>∃(a:Addr) (o:List Int),vs=[.ref a]/\H a=some (.tup (o.map V.int))/\o.length<=6/\∀H',Same H H'->Q (.int (mxZ6 (lrTo o o.length))) H'
noncomputable def cntL (kind:Str)(o:List Int):Int:=if kind= "longest" then mxZ6 (lrTo o o.length) else (((zb0 kind o.length).filter fun p=>hasZ kind p o).length:Int)
noncomputable def zgK:Sp:=fun vs H Q _=>∃(kind:Str) (a:Addr) (o:List Int) (m:Nat),vs=[.str kind,.ref a]/\kind∈zaF/\H a=some (.tup (o.map V.int))/\m<7/\o∈allI m/\∀H',Same H H'->Q (.int (cntL kind o)) H'
theorem zju:∀m:Nat,m<7->((allI m).all fun o=>decide (o.length=m)&&((List.range m).all fun k=>(rndZ o (k:Int)).isSome))=true:=by decide+kernel
end L2
namespace K63
open PySem PySem.Spec PyProof.Rows L2
noncomputable abbrev za3:Stmt:=top 91
noncomputable abbrev za4:Stmt:=top 92
section
variable {P:Program}{w:World}{K:PySem.W.Frag}{mg:Str->Option Value}{base:Heap}
theorem sc__law_longest:FnScope ["_law_order", "_law_best", "_law_at"] ["_law_order"] (zag za3):=⟨rfl,rfl,rfl,by decide+kernel,rfl,by decide+kernel,by decide+kernel⟩
theorem zdH {f:Addr}{fd:FuncData}(F:Fun K "_law_longest" "_law_longest" za3 f fd)(T:Top mg):FnOk P w K mg base CX0 1 f fd ["_law_order"] zkK:=by
 refine F.ok sc__law_longest (fun vs H Q E h=> ?_) (fun cdv A outer s H vs Q E hr h=> ?_)
 ·obtain ⟨a,o,rfl,_⟩:=h
  rfl
 ·obtain ⟨a,o,rfl,ha,hl,k⟩:=h
  refine⟨_,(zaf (zap (i:=1) sc__law_longest.nd rfl (Or.inr rfl) (zbC zac))
   (zaf (zaR PassesOwn.never rfl (zaB rfl T.n_range (zaa (zao zaw (by rfl) T.n_len PySem.boot_len (zaa (pv 0) zac)) zac)) (zat (i:=2) sc__law_longest.nd rfl (Or.inr rfl))
    (zah (zcA (zgS PySem.F.plainAttrs_list PySem.F.slot_list_append PySem.F.type_list_append zbU (pv 1) (zaa (zaj zax zab (zao (zco rfl) (by rfl) T.n_max boot_max (zaa (zaj zjJ (zbC (zaa zab zac)) (zcU (N':=["_law_k", "_law_best", "_law_order", "_law_at"]) (n:=1) (ix:=[1,0,2]) rfl (CompScope.of (sc:=zag za3) (N:=["_law_order", "_law_best", "_law_at"]) (by decide+kernel) rfl rfl) (zaB rfl T.n_range (zaa (pv 2) zac)) (fun _ _ _ _ _=>⟨(zat (i:=0) (show (["_law_k", "_law_best", "_law_order", "_law_at"]:List Str).Nodup by decide+kernel) rfl (Or.inl rfl)),(zdf (zar zed (zan (zfD K rfl) (pv 2) (pv 0) (fun _ _=>rfl)) (zan (zfD K rfl) (pv 2) (pv 3) (fun _ _=>rfl)) (zau _))),(zan (ziO K rfl) (pv 1) (pv 0) (fun _ _=>rfl))⟩))) zac))) zac)))))
   (zah (zal (zao (zco rfl) (by rfl) T.n_max boot_max (zaa (zaj zjJ (zbC (zaa zab zac)) (pv 1)) zac)))))), ?_⟩
  refine⟨by show 0<=sizeLine;decide,fun L hL=> ?_⟩
  have hL0:=hL
  have s0:=zae (o:=.lst []) hL
  have hLe:=@zad H L (.lst [])
  refine⟨_,rfl,_,_,rfl,.inr (SqT.of (s0 _ _ ha)), ?_⟩
  rw[zas]
  refine⟨_,rfl,by (first|lia|omega),by (first|lia|omega), ?_⟩
  rw[Int.toNat_natCast]
  refine zaI (n:=o.length) (fun p σ G=>∃c2:Option V,σ=[some (.ref a),some (.ref L),c2]/\Same H G/\G L=some (.lst ((lrTo o p).map V.int))) ⟨none,rfl,s0,hLe⟩ ?_ ?_
  ·rintro p σ G hp ⟨c2,rfl,sG,hGL⟩
   have hlr:=zeJ o p
   have ha1:=sG _ _ ha
   rw[Int.zero_add]
   refine⟨_,rfl,.inl ⟨rfl,_,SqL.of hGL⟩, ?_⟩
   refine⟨by show 1<=sizeLine;decide,fun l1 hl1=> ?_⟩
   have g4:=zae (o:=.lst [V.int 0]) hl1
   refine⟨_,rfl,_,rfl,by (first|lia|omega),by (first|lia|omega), ?_⟩
   rw[Int.toNat_natCast]
   refine zeh (zaQ (lo:=0) (n:=p)) (zaW (by rw[zaJ];(first|lia|omega))) (zlP o (o.getD p 0)) (atPV (lrTo o p)) (fun _ _=>trivial) (fun x hx' G4 s4 Q' q=> ?_) (fun x hx' _ G4 s4 Q' q=> ?_) fun acc2 hacc2=> ?_
   ·obtain ⟨n,rfl,n0,n1⟩:=zaZ hx'
    exact⟨_,rfl,_,rfl,a,_,n,_,rfl,rfl,SqT.of (s4 _ _ (g4 _ _ ha1)),zbr (by (first|lia|omega)) (by (first|lia|omega)),_,rfl,_,rfl,a,_,(p:Int),_,rfl,rfl,SqT.of (s4 _ _ (g4 _ _ ha1)),zbr (by (first|lia|omega)) (by (first|lia|omega)),_,_,rfl,rfl,_,rfl,q⟩
   ·obtain ⟨n,rfl,n0,n1⟩:=zaZ hx'
    exact⟨_,rfl,_,rfl,L,_,n,_,rfl,rfl,SqL.of (s4 _ _ (g4 _ _ hGL)),zbr (by (first|lia|omega)) (by (first|lia|omega)),q⟩
   rw[zjs]
   have g5:=zae (o:=.lst (((belZ o p).map fun k=>(lrTo o p).getD k 0).map V.int)) hacc2
   have hbl:(belZ o p).length<=p:=Nat.le_trans (List.length_filter_le _ _) (Nat.le_of_eq List.length_range)
   refine⟨l1,acc2,_,_,rfl,rfl,g5 _ _ zad,zad, ?_,fun l3 hl3=> ?_⟩
   ·rw [zas,List.length_map]
    exact Nat.le_trans (by show 1+_<=100;(first|lia|omega)) (by decide)
   have g6:=zae (o:=.lst ([V.int 0]++((belZ o p).map fun k=>(lrTo o p).getD k 0).map V.int)) hl3
   refine⟨l3,0::((belZ o p).map fun k=>(lrTo o p).getD k 0),rfl,by rw[zad];rfl,by simp,fun M hM1 hM2=> ?_⟩
   have eM:=zjR hM1 hM2
   subst eM
   refine⟨_,_,rfl,rfl, ?_⟩
   have S6:=((sG.trans g4).trans g5).trans g6
   have hL6:=((g4.trans g5).trans g6) _ _ hGL
   refine⟨L,_,_,rfl,rfl,hL6,zaW (by rw[zas];(first|lia|omega)), ?_⟩
   refine⟨_,rfl,zav S6 hL0, ?_⟩
   rw[zad]
   show some (HO.lst ((lrTo o p).map V.int++[V.int (1+mxZ6 ((belZ o p).map fun k=>(lrTo o p).getD k 0))]))=some (HO.lst ((lrTo o p++[1+mxZ6 ((belZ o p).map fun k=>(lrTo o p).getD k 0)]).map V.int))
   rw[List.map_append]
   rfl
  ·rintro σ G ⟨c2,rfl,sG,hGL⟩
   have hlr:=zeJ o o.length
   refine⟨by show 1<=sizeLine;decide,fun l4 hl4=> ?_⟩
   have s4:=zae (o:=.lst [V.int 0]) hl4
   refine⟨_,rfl,l4,L,_,_,rfl,rfl,zad,s4 _ _ hGL, ?_,fun l5 hl5=> ?_⟩
   ·rw [zas]
    exact Nat.le_trans (by show 1+_<=100;(first|lia|omega)) (by decide)
   have s5:=zae (o:=.lst ([V.int 0]++(lrTo o o.length).map V.int)) hl5
   refine⟨l5,0::lrTo o o.length,rfl,by rw[zad];rfl,by simp,fun M hM1 hM2=> ?_⟩
   have eM:=zjR hM1 hM2
   subst eM
   exact k _ ((sG.trans s4).trans s5)
theorem zdI:FnScope ["_law_kind", "_law_order"] ["_law_kind", "_law_order"] (zag za4):=⟨rfl,rfl,rfl,by decide+kernel,rfl,by decide+kernel,by decide+kernel⟩
theorem zdJ {f:Addr}{fd:FuncData}(F:Fun K "_law_counted" "_law_counted" za4 f fd)(T:Top mg)(C_law_longest:Cal P w K mg base 1 "_law_longest" ["_law_order"] zkK)(C_law_parts:Cal P w K mg base 1 "_law_parts" ["_law_kind", "_law_many"] zcD)(C_law_has:Cal P w K mg base 2 "_law_has" ["_law_kind", "_law_part", "_law_order"] zkx):FnOk P w K mg base CX0 3 f fd ["_law_kind", "_law_order"] zgK:=by
 refine F.ok zdI (fun vs H Q E h=> ?_) (fun cdv A outer s H vs Q E hr h=> ?_)
 ·obtain ⟨kd,a,o,m,rfl,_⟩:=h
  rfl
 ·obtain ⟨kd,a,o,m,rfl,hkd,ha,hm,ho,k⟩:=h
  refine⟨_,(zaf (zaY (zar zcT (pv 0) zaE (zau _))
    (zah (zal (zak C_law_longest (hr.mono (by decide)) rfl (zaa (pv 1) zac))))
    zay)
   (zah (zal (zao zaw (by rfl) T.n_len PySem.boot_len (zaa (zcU (N':=["_law_part", "_law_kind", "_law_order"]) (n:=1) (ix:=[0,1]) rfl (CompScope.of (sc:=zag za4) (N:=["_law_kind", "_law_order"]) (by decide+kernel) rfl rfl) (zcB (zak C_law_parts (hr.mono (by decide)) rfl (zaa (pv 0) (zaa (zao zaw (by rfl) T.n_len PySem.boot_len (zaa (pv 1) zac)) zac)))) (fun _ _ _ _ _=>⟨(zat (i:=0) (show (["_law_part", "_law_kind", "_law_order"]:List Str).Nodup by decide+kernel) rfl (Or.inl rfl)),(zdf (zbA (zak C_law_has (hr.mono (by decide)) rfl (zaa (pv 1) (zaa (pv 0) (zaa (pv 2) zac)))))),(pv 0)⟩)) zac))))), ?_⟩
  have fin:=List.all_eq_true.mp (zju m hm) o ho
  rw[Bool.and_eq_true,decide_eq_true_eq,List.all_eq_true] at fin
  obtain⟨ln,hrd⟩:=fin
  refine⟨_,rfl,rfl,_,rfl, ?_⟩
  by_cases cl:kd= "longest"
  ·subst cl
   rw[decide_eq_true rfl]
   exact iteT ⟨_,rfl,a,o,rfl,ha,by (first|lia|omega),fun H' s'=>k H' s'⟩
  ·have hk5:kd∈zbR:=by
    have:kd= "rounds" ∨kd= "stays" ∨kd= "rises" ∨kd= "highs" ∨kd= "crossed" ∨kd= "longest" :=by simpa [zaF] using hkd
    rcases this with h|h|h|h|h|h
    ·subst h;decide
    ·subst h;decide
    ·subst h;decide
    ·subst h;decide
    ·subst h;decide
    ·exact absurd h cl
   rw[decide_eq_false (fun e=>cl (by injection e))]
   refine iteF ⟨_,rfl,_,rfl,_,_,rfl,.inr (SqT.of ha), ?_⟩
   rw[zas,ln]
   refine⟨kd,m,rfl,hk5,by (first|lia|omega),fun p zs H1 s1 hp RP=>⟨p,rfl,⟨_,SqL.of hp⟩, ?_⟩⟩
   have zl:=Paired.length RP
   have pl:=(zd9 m hm kd hk5).2
   refine zjt (zcc (xs:=zs.map V.ref)) (zaW (by rw[List.length_map];(first|lia|omega))) (fun i=>hasZ kd ((zb0 kd m).getD i []) o) (fun H s'=>SqL.of (s' _ _ hp)) (fun i x H2 hx s2 QT q=> ?_) (fun i x H2 hx s2 QT q=>⟨_,rfl,q⟩) fun acc ys H2 hacc s2 hys hyl=> ?_
   ·have hi:i<zs.length:=by
     have:=(List.getElem?_eq_some_iff.mp hx).1
     rwa [List.length_map] at this
    obtain⟨z,r,e1,e2,hz⟩:=zfu RP i hi
    rw[List.getElem?_map,e1] at hx
    cases hx
    have hr1:=List.mem_of_getElem? e2
    have eg:(zb0 kd m).getD i []=r:=by rw[List.getD_eq_getElem?_getD,e2];rfl
    have po:=zjc hm hk5 hr1
    rw[eg] at q
    refine⟨_,rfl,_,rfl,_,rfl,kd,z,a,r,o,rfl,hk5,s2 _ _ hz,s2 _ _ (s1 _ _ ha),by rw[ln];exact po,fun e=> ?_,fun H3 s3=>⟨_,rfl,q H3 s3⟩⟩
    have pf:=List.all_eq_true.mp (zd9 m hm kd hk5).1 r hr1
    simp only[Bool.and_eq_true,decide_eq_true_eq] at pf
    obtain⟨⟨⟨⟨a1,a2⟩,a3⟩,_⟩,_⟩:=pf
    have:=hrd (r.getD 0 0).toNat (List.mem_range.mpr a3)
    rwa [Int.toNat_of_nonneg a2] at this
   ·refine ⟨acc,ys,rfl,.inl (SqL.of hys), ?_⟩
    have e:(ys.length:Int)=cntL kd o:=by
     unfold cntL
     rw[if_neg cl,ln,hyl,List.length_map,zl]
     have:=zf6 (fun p=>hasZ kd p o) [] (zb0 kd m)
     rw[List.countP_eq_length_filter] at this
     rw[<-this]
    rw[e]
    exact k H2 (s1.trans s2)
end
end K63
namespace L2
open PySem PySem.Spec PyProof.Rows
noncomputable def bdsZ (M:Int×Int):List (Int×Int):=[M,plZ M (1,7),(1,1),(5,2)]
noncomputable def okB (b:Int×Int):Bool:=decide (0<b.2)&&decide (b.1.natAbs<2^1500)&&decide (b.2.natAbs<2^1500)
noncomputable def bdOk (kind:Str)(N k:Nat):Bool:=
 let M:=zb9 kind N k
 decide (M.1<=M.2)&&okB M&&(bdsZ M).all fun b=>okB b&&(!decide (M.1*b.2<=b.1*M.2)||(if swZ kind N k M (.tuple (paL kind N k))=true then swZ kind N k b (.tuple (paL kind N k)) else !ltZ b (1,1)))
noncomputable def zkL (R:List Int)(k:Nat):Int:=(R.drop k).sum
noncomputable def shOk (kind:Str)(N k:Nat):Bool:=
 let h:=lowZ (zkL (row6 kind N) k) (row6 kind N).sum
 decide (h.1*(zb9 kind N k).2<=(zb9 kind N k).1*h.2)&&okB h
noncomputable def bN (kind:Str):Nat:=if kind= "crossed" then 17 else if kind= "longest" then 11 else 25
theorem ziA:∀N:Nat,N<25->∀k:Nat,k<61->bdOk "rounds" N k=true:=by decide+kernel
theorem zkM:∀N:Nat,N<25->∀k:Nat,k<61->bdOk "stays" N k=true:=by decide+kernel
theorem zkN:∀N:Nat,N<25->∀k:Nat,k<61->bdOk "rises" N k=true:=by decide+kernel
theorem zkO:∀N:Nat,N<17->∀k:Nat,k<61->bdOk "crossed" N k=true:=by decide+kernel
theorem zkP:∀N:Nat,N<11->∀k:Nat,k<61->bdOk "longest" N k=true:=by decide+kernel
theorem ziB:∀N:Nat,N<25->∀k:Nat,k<61->shOk "rounds" N k=true/\shOk "highs" N k=true:=by decide+kernel
theorem ziC:∀N:Nat,N<25->∀k:Nat,k<61->shOk "stays" N k=true/\shOk "rises" N k=true:=by decide+kernel
theorem zkQ:∀N:Nat,N<17->∀k:Nat,k<61->shOk "crossed" N k=true:=by decide+kernel
theorem zkR:∀N:Nat,N<11->∀k:Nat,k<61->shOk "longest" N k=true:=by decide+kernel
noncomputable def cnOk (kind:Str)(m:Nat):Bool:=
 let L:=(allI m).map (cntL kind)
 L.all (fun c=>decide (0<=c)&&decide (c<=15))&&(List.range 18).all fun n=>
  let h:=lowZ ((L.countP fun c=>decide ((n:Int)<=c):Nat):Int) (L.length:Int)
  decide (h.1*(zb9 kind m n).2<=(zb9 kind m n).1*h.2)&&okB h
theorem zjS:∀m:Nat,m<7->∀kind∈zaF,cnOk kind m=true/\0<(allI m).length/\(allI m).length<=720:=by decide+kernel
theorem zjT {kind:Str}(hk:kind∈zaF){N k:Nat}(hN:N<bN kind)(h:k<61):bdOk kind N k=true:=by
 have:kind= "rounds" ∨kind= "stays" ∨kind= "rises" ∨kind= "highs" ∨kind= "crossed" ∨kind= "longest" :=by simpa [zaF] using hk
 rcases this with rfl|rfl|rfl|rfl|rfl|rfl
 ·exact ziA N hN k h
 ·exact zkM N hN k h
 ·exact zkN N hN k h
 ·exact ziA N hN k h
 ·exact zkO N hN k h
 ·exact zkP N hN k h
theorem zlQ {kind:Str}(hk:kind∈zaF){N k:Nat}(hN:N<bN kind)(h:k<61):shOk kind N k=true:=by
 have:kind= "rounds" ∨kind= "stays" ∨kind= "rises" ∨kind= "highs" ∨kind= "crossed" ∨kind= "longest" :=by simpa [zaF] using hk
 rcases this with rfl|rfl|rfl|rfl|rfl|rfl
 ·exact (ziB N hN k h).1
 ·exact (ziC N hN k h).1
 ·exact (ziC N hN k h).2
 ·exact (ziB N hN k h).2
 ·exact zkQ N hN k h
 ·exact zkR N hN k h
theorem zlR (kind:Str):bN kind<=25:=by
 unfold bN
 split
 ·decide
 ·split<;>decide
theorem ziD {b:Int×Int}(h:okB b=true):ShB b 1500:=by
 unfold okB at h
 simp only[Bool.and_eq_true,decide_eq_true_eq] at h
 exact⟨h.1.1,Sm.of h.1.2,Sm.of h.2⟩
noncomputable def rgI (k n:Nat):List Int:=(List.range n).map fun i:Nat=>((k+i:Nat):Int)
theorem zjU (R:List Int)(k:Nat):∀n,hav R (rgI k n)=((R.drop k).take n).sum
 |0=>by simp[hav,rgI]
 | n+1=>by
  have ih:=zjU R k n
  unfold hav at ih ⊢
  have e:rgI k (n+1)=rgI k n++[((k+n:Nat):Int)]:=by
   unfold rgI
   rw[List.range_succ,List.map_append]
   rfl
  rw[e,List.filter_append,List.map_append,List.sum_append,ih,List.take_succ,List.sum_append]
  congr 1
  by_cases c:k+n<R.length
  ·have hi:inRg R.length ((k+n:Nat):Int)=true:=by
    unfold inRg
    simp
    (first|lia|omega)
   rw[List.filter_cons,if_pos hi,List.filter_nil,List.getElem?_drop,List.getElem?_eq_getElem c]
   show [R.getD ((k+n:Nat):Int).toNat 0].sum=[R[k+n]].sum
   rw[Int.toNat_natCast,List.getD_eq_getElem?_getD,List.getElem?_eq_getElem c]
   rfl
  ·have hi:inRg R.length ((k+n:Nat):Int)=false:=by
    unfold inRg
    simp
    (first|lia|omega)
   rw[List.filter_cons,if_neg (by rw[hi];decide),List.filter_nil,List.getElem?_drop,List.getElem?_eq_none (by (first|lia|omega))]
   rfl
theorem zjv:∀N:Nat,N<25->((row6 "rounds" N).length<=N*N+1/\(row6 "stays" N).length<=N*N+1/\(row6 "rises" N).length<=N*N+1/\(row6 "highs" N).length<=N*N+1)/\(N<17->(row6 "crossed" N).length<=N*N+1)/\(N<11->(row6 "longest" N).length<=N*N+1):=by decide+kernel
noncomputable def zjw:Sp:=fun vs H Q _=>∃(kind:Str) (N k:Nat) (hz:Addr) (h:Int×Int),vs=[.str kind,.int N,.int k,.ref hz]/\kind∈zaF/\N<=24/\k<=60/\bdOk kind N k=true/\Shr H hz h/\okB h=true/\h.1*(zb9 kind N k).2<=(zb9 kind N k).1*h.2/\∀H',Same H H'->Q (.bl true) H'
end L2
namespace K63
open PySem PySem.Spec PyProof.Rows L2
noncomputable abbrev zbz:Stmt:=top 93
section
variable {P:Program}{w:World}{K:PySem.W.Frag}{mg:Str->Option Value}{base:Heap}
theorem sc__law_bounded:FnScope ["_law_kind", "_law_many", "_law_number", "_law_here", "_law_most", "_law_paper", "_law_bound"] ["_law_kind", "_law_many", "_law_number", "_law_here"] (zag zbz):=⟨rfl,rfl,rfl,by decide+kernel,rfl,by decide+kernel,by decide+kernel⟩
set_option maxHeartbeats 4000000 in
theorem zdK {f:Addr}{fd:FuncData}(F:Fun K "_law_bounded" "_law_bounded" zbz f fd)(T:Top mg)(Cmost_share:Cal P w K mg base 7 "most_share" ["kind", "many", "number"] zgu)(Cbound_paper:Cal P w K mg base 8 "bound_paper" ["kind", "many", "number"] (zfL K))(C_law_sum:Cal P w K mg base 2 "_law_sum" ["_law_one", "_law_two"] (spSh plZ))(Cshows_bound:Cal P w K mg base 7 "shows_bound" ["kind", "many", "number", "bound", "thing"] (spE zb7 (zc9 K))):FnOk P w K mg base CX0 9 f fd ["_law_kind", "_law_many", "_law_number", "_law_here"] zjw:=by
 refine F.ok sc__law_bounded (fun vs H Q E h=> ?_) (fun cdv A outer s H vs Q E hr h=> ?_)
 ·obtain ⟨kd,N,n,hz,h,rfl,_⟩:=h
  rfl
 ·obtain ⟨kd,N,n,hz,hh,rfl,hkd,hN,hn,hbd,hhz,hob,hle,k⟩:=h
  refine⟨_,(zaf (zap (i:=4) sc__law_bounded.nd rfl (Or.inl rfl) (zak Cmost_share (hr.mono (by decide)) rfl (zaa (pv 0) (zaa (pv 1) (zaa (pv 2) zac)))))
   (zaf (zaY (PW.pt (zea (zar zee (zaj zaA (zan zam (pv 3) zab (fun _ _=>rfl)) (zan zam (pv 4) zab (fun _ _=>rfl))) (zaj zaA (zan zam (pv 4) zab (fun _ _=>rfl)) (zan zam (pv 3) zab (fun _ _=>rfl))) (zau _)) (zcj (zar zee (zan zam (pv 4) zab (fun _ _=>rfl)) (zan zam (pv 4) zab (fun _ _=>rfl)) (zau _)))))
    (zah (zal zcb))
    zay)
   (zaf (zap (i:=5) sc__law_bounded.nd rfl (Or.inl rfl) (zak Cbound_paper (hr.mono (by decide)) rfl (zaa (pv 0) (zaa (pv 1) (zaa (pv 2) zac)))))
   (zaf (zaR PassesOwn.never rfl (zhn (zaz (zaa (pv 4) (zaa (zak C_law_sum (hr.mono (by decide)) rfl (zaa (pv 4) (zaa (zaz (zaa zab (zaa zab zac))) zac))) (zaa (zaz (zaa zab (zaa zab zac))) (zaa (zaz (zaa zab (zaa zab zac))) zac)))))) (zat (i:=6) sc__law_bounded.nd rfl (Or.inl rfl))
    (zah (zaY (zar ziH (zaj zaA (zan zam (pv 4) zab (fun _ _=>rfl)) (zan zam (pv 6) zab (fun _ _=>rfl))) (zaj zaA (zan zam (pv 6) zab (fun _ _=>rfl)) (zan zam (pv 4) zab (fun _ _=>rfl))) (zau _))
     (zah (zaY (zar zfI (zak Cshows_bound (hr.mono (by decide)) rfl (zaa (pv 0) (zaa (pv 1) (zaa (pv 2) (zaa (pv 6) (zaa (pv 5) zac)))))) zcb (zau _))
      (zah (zal zcb))
      zay))
     zay)))
   (zah (zal zcb)))))), ?_⟩
  have n0:(0:Int)<=(N:Int):=by (first|lia|omega)
  have n1:(N:Int)<=10^30:=Int.le_trans (by (first|lia|omega):(N:Int)<=60) (by decide)
  unfold bdOk at hbd
  simp only[Bool.and_eq_true,decide_eq_true_eq,List.all_eq_true] at hbd
  obtain⟨⟨b1,b2⟩,b3⟩:=hbd
  have hMb:=ziD b2
  have hhb:=ziD hob
  refine⟨_,rfl,_,rfl,_,rfl,kd,N,n,rfl,hkd,n0,n1,hn,fun mz H1 s1 hM=> ?_⟩
  have h1:=s1 _ _ hhz
  generalize hMe:zb9 kd N n=M at*
  refine⟨_,rfl,hz,_,0,_,rfl,rfl,SqT.of h1,zai (j:=0) rfl,_,rfl,mz,_,1,_,rfl,rfl,SqT.of hM,zai (j:=1) rfl,_,_,rfl,rfl,⟨hhb.s1.mono (by decide),hMb.s2.mono (by decide)⟩, ?_⟩
  refine⟨_,rfl,mz,_,0,_,rfl,rfl,SqT.of hM,zai (j:=0) rfl,_,rfl,hz,_,1,_,rfl,rfl,SqT.of h1,zai (j:=1) rfl,_,_,rfl,rfl,⟨hMb.s1.mono (by decide),hhb.s2.mono (by decide)⟩,_,_,rfl,rfl,_,rfl, ?_⟩
  rw[decide_eq_false (by (first|lia|omega))]
  refine iteF ⟨_,rfl,mz,_,0,_,rfl,rfl,SqT.of hM,zai (j:=0) rfl,_,rfl,mz,_,1,_,rfl,rfl,SqT.of hM,zai (j:=1) rfl,_,_,rfl,rfl,_,rfl, ?_⟩
  rw[decide_eq_false (by (first|lia|omega))]
  refine iteF ?_
  refine⟨_,rfl,_,rfl,_,rfl,kd,N,n,rfl,hkd,n1,hn,fun pz H2 s2 hP=> ?_⟩
  rw[hMe] at hP
  have hM2:=s2 _ _ hM
  refine⟨_,rfl,_,rfl,by show 2<=sizeLine;decide,fun t7 ht7=> ?_⟩
  have s3:=zae (o:=.tup [.int 1,.int 7]) ht7
  refine⟨mz,t7,M,(1,7),rfl,s3 _ _ hM2,zad,hMb.mono (by decide),⟨by decide,Sm.of (by decide+kernel),Sm.of (by decide+kernel)⟩,fun sz H4 s4 hS=> ?_⟩
  refine⟨by show 2<=sizeLine;decide,fun t1 ht1=>⟨by show 2<=sizeLine;decide,fun t2 ht2=>⟨by show 4<=sizeLine;decide,fun tt htt=> ?_⟩⟩⟩
  have u1:=zae (o:=.tup [.int 1,.int 1]) ht1
  have u2:=zae (o:=.tup [.int 5,.int 2]) ht2
  have u3:=zae (o:=.tup [.ref mz,.ref sz,.ref t1,.ref t2]) htt
  have e1:=u3 _ _ (u2 _ _ (@zad H4 t1 (.tup [.int 1,.int 1])))
  have e2:=u3 _ _ (@zad (upd H4 t1 (.tup [.int 1,.int 1])) t2 (.tup [.int 5,.int 2]))
  have eS:=(u1.trans u2).trans u3
  have eSz:=eS _ _ hS
  have eMz:=eS _ _ (s4 _ _ (s3 _ _ hM2))
  have eT:=@zad (upd (upd H4 t1 (.tup [.int 1,.int 1])) t2 (.tup [.int 5,.int 2])) tt (.tup [.ref mz,.ref sz,.ref t1,.ref t2])
  have sA:=((s1.trans s2).trans (s3.trans s4)).trans eS
  have sP:=(s3.trans s4).trans eS
  generalize upd (upd (upd H4 t1 (.tup [.int 1,.int 1])) t2 (.tup [.int 5,.int 2])) tt (.tup [.ref mz,.ref sz,.ref t1,.ref t2])=G0 at*
  have hP:(swZ kd N n M (.tuple (paL kd N n))=true/\PapT kd N n G0 pz)∨(swZ kd N n M (.tuple (paL kd N n))=false/\SqT K G0 pz [.str "all"]):=by
   rcases hP with⟨p1,p2⟩|⟨p1,p2⟩
   ·exact .inl ⟨p1,p2.same sP⟩
   ·exact .inr ⟨p1,sP.seqT p2⟩
  clear u1 u2 u3 eS ht1 ht2 htt ht7 s3 s4 hS sP hM2 s2 hM h1 s1
  refine⟨tt,rfl,⟨_,SqT.of eT⟩, ?_⟩
  refine zj3 (K:=K) (a:=tt) (xs:=[.ref mz,.ref sz,.ref t1,.ref t2]) (fun i σ G=>∃c6:Option V,σ=[some (.str kd),some (.int (N:Int)),some (.int (n:Int)),some (.ref hz),some (.ref mz),some (.ref pz),c6]/\Same G0 G) ⟨_,rfl,Same.refl _⟩ (fun i σ G _ ⟨_,_,sG⟩=>SqT.of (sG _ _ eT)) ?_ ?_
  ·rintro i x σ G hx ⟨c6,rfl,sG⟩
   obtain⟨bz,b,rfl,hb,hmem⟩:∃bz b,x=.ref bz/\Shr G bz b/\b∈bdsZ M:=by
    match i,hx with
    |0,hx=>cases hx;exact⟨mz,M,rfl,sG _ _ eMz,by simp[bdsZ]⟩
    |1,hx=>cases hx;exact⟨sz,plZ M (1,7),rfl,sG _ _ eSz,by simp[bdsZ]⟩
    |2,hx=>cases hx;exact⟨t1,(1,1),rfl,sG _ _ e1,by simp[bdsZ]⟩
    |3,hx=>cases hx;exact⟨t2,(5,2),rfl,sG _ _ e2,by simp[bdsZ]⟩
   have q:=b3 b hmem
   obtain⟨q1,q2⟩:=q
   have hbb:=ziD q1
   have eM:=sG _ _ eMz
   refine⟨_,rfl,mz,_,0,_,rfl,rfl,SqT.of eM,zai (j:=0) rfl,_,rfl,bz,_,1,_,rfl,rfl,SqT.of hb,zai (j:=1) rfl,_,_,rfl,rfl,⟨hMb.s1.mono (by decide),hbb.s2.mono (by decide)⟩, ?_⟩
   refine⟨_,rfl,bz,_,0,_,rfl,rfl,SqT.of hb,zai (j:=0) rfl,_,rfl,mz,_,1,_,rfl,rfl,SqT.of eM,zai (j:=1) rfl,_,_,rfl,rfl,⟨hbb.s1.mono (by decide),hMb.s2.mono (by decide)⟩,_,_,rfl,rfl,_,rfl, ?_⟩
   by_cases c:M.1*b.2<=b.1*M.2
   ·rw [decide_eq_true c]
    rw[decide_eq_true c,Bool.not_true,Bool.false_or] at q2
    refine iteT ?_
    refine⟨_,rfl,_,rfl,_,rfl,_,rfl,_,rfl, ?_⟩
    rcases hP with⟨p1,p2⟩|⟨p1,p2⟩
    ·rw [if_pos p1] at q2
     obtain⟨us,hz2,al⟩:=p2.same sG
     refine .inl ⟨kd,N,n,bz,b,NoS,.ref pz,.tuple (paL kd N n),rfl,hkd,n1,hn,hb,hbb.mono (by decide),fun _=>hbb.mono (by decide),.tup hz2 al,zlM,fun hg d0 m e=>zix n1 hg e,fun G2 s2=> ?_⟩
     rw[q2]
     exact⟨true,true,rfl,rfl,_,rfl,iteF ⟨_,rfl,sG.trans s2⟩⟩
    ·rw [if_neg (by rw[p1];decide)] at q2
     refine .inr ⟨kd,N,n,bz,pz,b,rfl,hb,hbb.mono (by decide),sG.seqT p2,fun G2 s2=> ?_⟩
     rw[q2]
     exact⟨true,true,rfl,rfl,_,rfl,iteF ⟨_,rfl,sG.trans s2⟩⟩
   ·rw [decide_eq_false c]
    exact iteF ⟨_,rfl,sG⟩
  ·rintro σ G ⟨c6,rfl,sG⟩
   exact k G (sA.trans sG)
end
end K63
namespace L2
open PySem PySem.Spec PyProof.Rows
section
variable {X:Cx}
noncomputable def zkS:List V->Hp->VK->Prop:=fun xs H Q=>∃i j:Int,xs=[.int i,.int j]/\∀p,H p=none->Q (.ref p) (upd H p (.rng i j))
theorem zf7:zbF X (.type "range") zkS:=by
 intro pins s σ H xs us Q I rs h
 obtain⟨i,j,rfl,q⟩:=h
 obtain⟨u,u',rfl,⟨t,rfl⟩,⟨t',rfl⟩⟩:=zht rs
 refine call_range_2 ⟨.ref s.heap.objs.size,_,I.laid (o:=.rng i j) (fun b ob q=>Heap.get?_push_of_some _ q) (Nat.le_refl _) ?_,rfl,q _ (I.hok.fresh (Nat.le_refl _))⟩
 exact⟨_,_,_,Heap.get?_push_size _ rfl⟩
noncomputable def zjx:List V->Hp->VK->Prop:=fun xs H Q=>∃(a:Addr) (i j:Int),xs=[.ref a]/\H a=some (.rng i j)/\0<=i/\i<=j/\j<=100000/\∀p,H p=none->Q (.ref p) (upd H p (.tup (za9 i (j-i).toNat)))
theorem zeK (hc:X.calm=true):zbF X (.type "tuple") zjx:=by
 intro pins s σ H xs us Q I rs h
 obtain⟨a,k,j,rfl,ha,h0,h1,h2,q⟩:=h
 obtain⟨u,rfl,ru⟩:=zcC rs
 cases (show u=Value.ref a from ru)
 obtain⟨t,u,v,ho⟩:=(show ObjOk X.prog X.w H s.heap a (.rng k j) from I.hok a _ ha)
 have hh:X.A.handled=none:=I.ok.hd hc
 have hsz:Builtin.Range.rangeSize k j 1=(((j-k).toNat:Nat):Int):=by rw[rangeSize_one];split<;>(first|lia|omega)
 have hjs:(j-k).toNat<=sizeLine:=Nat.le_trans (by (first|lia|omega):(j-k).toNat<=100000) (by decide)
 refine callType_new F.called_tuple (by decide) (F.typeCall_tuple_1 _) (F.newCall_tuple_1 _) (fun obj=>F.args_object_init_2 obj _) F.entry_tuple_new
  (zdh a k j 1 t u v (j-k).toNat (small_one (by (first|lia|omega)) (by (first|lia|omega)) (by (first|lia|omega)) (by (first|lia|omega))) hsz (by (first|lia|omega)) hjs) ⟨hh,ho,fun h' tk acc hk hacc=>⟨⟨_,Heap.get?_push_size _ rfl,rfl⟩, ?_⟩⟩
 obtain⟨i1,i2⟩:=hacc
 have I1:Inv X pins σ H {s with heap:=h',toks:=tk}:=I.kept (t':=tk) hk
 refine⟨.ref h'.objs.size,_,I1.laid (t':=tk) (o:=.tup (za9 k (j-k).toNat)) (fun b o e=>Heap.get?_push_of_some _ e) (Nat.le_refl _) (show ObjOk X.prog X.w _ _ _ (.tup _) from ⟨by rw[zaJ];exact hjs,acc.toList, ?_,by simpa using PTup.new⟩),rfl,q _ (I1.hok.fresh (Nat.le_refl _))⟩
 refine zfF _ _ k (by simpa using i1) fun i v e=> ?_
 obtain⟨t,e'⟩:=i2 i v (by simpa using e)
 exact⟨t,by rw[e'];congr 1;(first|lia|omega)⟩
end
end L2
namespace L2
open PySem PySem.Spec PyProof.Rows PySem.SeqAt
noncomputable def tD2 (k1 k2:Str)(t1 t2:TE):TE:=fun σ H Q=>∀d,H d=none->t1 σ (upd H d (.dK [])) fun v1 H1=>t2 σ H1 fun v2 H2=>H2 d=some (.dK [])/\Q (.ref d) (upd H2 d (.dK [(.inr k1,v1),(.inr k2,v2)]))
theorem zjy {X:Cx}{pos:Pos}{k1 k2:Str}{a1 a2 b1 b2:Expr}{t1 t2:TE}(n12:k1≠k2)(q1:PE X a1 (tC (.str k1)))(q2:PE X a2 (tC (.str k2)))(p1:PE X b1 t1)(p2:PE X b2 t2):PE X (.Dict [some a1,some a2] [b1,b2] pos) (tD2 k1 k2 t1 t2):=by
 intro pins s σ H Q I h
 have hd0:H s.heap.objs.size=none:=I.hok.fresh (Nat.le_refl _)
 have h:=h _ hd0
 refine wpAny_Dict_walk (knd:=zaD X.prog X.w) rfl rfl (by simp) (by show 2<=15;decide) ?_
 have I0:Inv X pins σ (upd H s.heap.objs.size (.dK [])) {s with heap:=s.heap.push {cls:=.type "dict",data:=.dict #[]}}:=I.laid (a:=s.heap.objs.size) (o:=.dK []) (t':=s.toks) (fun _ _ q=>Heap.get?_push_of_some _ q) (Nat.le_refl _) (zgx s.heap I.big)
 refine evalPairs_cons (thn (q1 pins _ σ _ (fun x H'=>x=.str k1/\H'=upd H s.heap.objs.size (.dK [])) I0 ⟨rfl,rfl⟩) fun u1 s1 zq=> ?_)
 obtain⟨x1,H1,I1,r1,e1,e1'⟩:=zq
 subst e1 e1'
 refine wpAny_bind (thn (p1 pins s1 σ _ _ I1 h) fun w1 s2 ⟨v1,H2,I2,rv1,h⟩=>wpAny_bind (wpAny_standAt (wpAny_pure ?_)))
 refine evalPairs_cons (thn (q2 pins s2 σ _ (fun x H'=>x=.str k2/\H'=H2) I2 ⟨rfl,rfl⟩) fun u2 s3 zq=> ?_)
 obtain⟨x2,H3,I3,r2,e2,e2'⟩:=zq
 subst e2 e2'
 refine wpAny_bind (thn (p2 pins s3 σ _ _ I3 h) fun w2 s4 ⟨v2,H6,I6,rv2,hd6,h⟩=>wpAny_bind (wpAny_standAt (wpAny_pure (evalPairs_nil ?_))))
 refine⟨[(.inr k1,w1),(.inr k2,w2)],⟨zg5 (k:=.inr k1) r1,rfl,zg5 (k:=.inr k2) r2,rfl,trivial⟩, ?_,fun h' dd' hs=> ?_⟩
 ·obtain ⟨z,hd,vs,rel,dd⟩:=zg6 I6.hok hd6
  cases rel
  exact dd
 ·have em:merged [] [((Sum.inr k1:Key),w1),(.inr k2,w2)]=[(.inr k1,w1),(.inr k2,w2)]:=by
   unfold merged stored
   simp[n12]
  rw[em] at dd'
  obtain⟨z,hd,vs,rel,dd⟩:=zg6 I6.hok hd6
  have he:∃q,h'.get? s.heap.objs.size=some q:=let ⟨q,_,_,hq,_⟩:=dd';⟨q,hq⟩
  refine⟨.ref s.heap.objs.size,_,zdp I6 (by rw[hd6];exact True.intro) hs he (zhZ (by show 2<=sizeLine;decide) hd (.cons ⟨rfl,rv1⟩ (.cons ⟨rfl,rv2⟩ .nil)) dd'),rfl,h⟩
end L2
namespace K63
open PySem PySem.Spec PyProof.Rows L2
noncomputable abbrev zc5:Stmt:=top 94
section
variable {P:Program}{w:World}{K:PySem.W.Frag}{mg:Str->Option Value}{base:Heap}
theorem sc_law:FnScope ["_law_script", "_law_k", "_law_pot_here", "_law_few", "_law_orders", "_law_kind", "_law_counts", "_law_number", "_law_here", "_law_many"] ["_law_script"] (zag zc5):=⟨rfl,rfl,rfl,by decide+kernel,rfl,by decide+kernel,by decide+kernel⟩
set_option maxHeartbeats 8000000 in
noncomputable def lawT {f:Addr}{cdv:Value}{A:Around}{outer:List Env}{s:Shared}{H:Hp}{E:XK}(hr:Room 9 (A.deeper (envOfC "law" (zag zc5) s.heap.objs.size f cdv)))(hu1:(A.deeper (envOfC "law" (zag zc5) s.heap.objs.size f cdv)).units+1<cLine)(T:Top mg)(C_law_pot:Cal P w K mg base 1 "_law_pot" ["_law_script", "_law_k"] (zgn K))(C_law_next:Cal P w K mg base 1 "_law_next" ["_law_pot_here", "_law_many"] zdk)(C_law_of:Cal P w K mg base 2 "_law_of" ["_law_pot_here", "_law_some"] ziT)(C_law_all:Cal P w K mg base 1 "_law_all" ["_law_many"] zes)(C_law_counted:Cal P w K mg base 3 "_law_counted" ["_law_kind", "_law_order"] zgK)(C_law_low:Cal P w K mg base 1 "_law_low" ["_law_over", "_law_under"] zbS)(C_law_bounded:Cal P w K mg base 9 "_law_bounded" ["_law_kind", "_law_many", "_law_number", "_law_here"] zjw)(Cshare:Cal P w K mg base 6 "share" ["kind", "many", "counts"] (zeu K)):{t:TS//PSs (cxOf CX0 P w K mg base ["_law_script", "_law_k", "_law_pot_here", "_law_few", "_law_orders", "_law_kind", "_law_counts", "_law_number", "_law_here", "_law_many"] "law" (zag zc5) f cdv A outer s H E).nox (zaS zc5) t}:=⟨_,
   (zaf (zaR PassesOwn.never rfl (zaB rfl T.n_range (zaa (zao (zbB rfl) (by rfl) T.n_max boot_max (zaa zab (zaa (zao (zhu rfl) (by rfl) T.n_min boot_min (zaa (zao zaw (by rfl) T.n_len PySem.boot_len (zaa (pv 0) zac)) (zaa zab zac))) zac))) zac)) (zat (i:=1) sc_law.nd rfl (Or.inl rfl))
    (zaf (zap (i:=2) sc_law.nd rfl (Or.inl rfl) (zak C_law_pot (hr.mono (by decide)) rfl (zaa (pv 0) (zaa (pv 1) zac))))
    (zaf (zap (i:=3) sc_law.nd rfl (Or.inl rfl) (zak C_law_of (hr.mono (by decide)) rfl (zaa (pv 2) (zaa (zbC (zaa zab (zaa zab (zaa zab (zaa zab (zaa zab (zaa zab (zaa zab (zaa zab zac))))))))) zac))))
    (zaf (zap (i:=4) sc_law.nd rfl (Or.inl rfl) (zak C_law_all (hr.mono (by decide)) rfl (zaa (pv 3) zac)))
    (zah (zaR PassesOwn.never rfl (zcB (zbC (zaa zaE (zaa zaE (zaa zaE (zaa zaE (zaa zaE (zaa zaE zac)))))))) (zat (i:=5) sc_law.nd rfl (Or.inr rfl))
     (zaf (ziL (i:=6) rfl sc_law.nd rfl rfl (N':=["_law_order", "_law_kind"]) (n:=1) (ix:=[5]) rfl (CompScope.of (sc:=zag zc5) (N:=["_law_script", "_law_k", "_law_pot_here", "_law_few", "_law_orders", "_law_kind", "_law_counts", "_law_number", "_law_here", "_law_many"]) (by decide+kernel) rfl rfl) (zcB (pv 4)) (fun _ _ _ _ _=>⟨(zat (i:=0) (show (["_law_order", "_law_kind"]:List Str).Nodup by decide+kernel) rfl (Or.inl rfl)),zbW,(zak C_law_counted (hr.mono (by decide)) rfl (zaa (pv 1) (zaa (pv 0) zac)))⟩))
     (zaf (zaR PassesOwn.never rfl (zaB rfl T.n_range (zaa (zaj zax (zao (zco rfl) (by rfl) T.n_max boot_max (zaa (pv 6) zac)) zab) zac)) (zat (i:=7) sc_law.nd rfl (Or.inr rfl))
      (zaf (zap (i:=8) sc_law.nd rfl (Or.inl rfl) (zak C_law_low (hr.mono (by decide)) rfl (zaa (zao zaw (by rfl) T.n_len PySem.boot_len (zaa (zcU (N':=["_law_one", "_law_number"]) (n:=1) (ix:=[7]) rfl (CompScope.of (sc:=zag zc5) (N:=["_law_script", "_law_k", "_law_pot_here", "_law_few", "_law_orders", "_law_kind", "_law_counts", "_law_number", "_law_here", "_law_many"]) (by decide+kernel) rfl rfl) (zcB (pv 6)) (fun _ _ _ _ _=>⟨(zat (i:=0) (show (["_law_one", "_law_number"]:List Str).Nodup by decide+kernel) rfl (Or.inl rfl)),(zdf (zar zk4 (pv 0) (pv 1) (zau _))),(pv 0)⟩)) zac)) (zaa (zao zaw (by rfl) T.n_len PySem.boot_len (zaa (pv 6) zac)) zac))))
      (zah (zaY (zbQ (zbA (zak C_law_bounded (hr.mono (by decide)) rfl (zaa (pv 5) (zaa (pv 3) (zaa (pv 7) (zaa (pv 8) zac)))))))
       (zah (zal zcb))
       zay))))
     (zaf (zap (i:=9) sc_law.nd rfl (Or.inl rfl) (zak C_law_next (hr.mono (by decide)) rfl (zaa (pv 2) (zaa (zep hu1 (zjy (by decide) zaE zaE zab zab) (pv 5) zab ⟨rfl,rfl,rfl,rfl⟩) zac))))
     (zaf (zap (i:=7) sc_law.nd rfl (Or.inr rfl) (zaj zcl (zak C_law_next (hr.mono (by decide)) rfl (zaa (pv 2) (zaa (zep hu1 (zi5 zaE (zaj zax (zaj zbT (zaj zaM (pv 9) (pv 9)) zab) zab)) (pv 5) (zaj zax (pv 9) zab) ⟨rfl,rfl,rfl,rfl⟩) zac))) zab))
     (zaf (zap (i:=8) sc_law.nd rfl (Or.inl rfl) (zak Cshare (hr.mono (by decide)) rfl (zaa (pv 5) (zaa (pv 9) (zaa (zaN (zeK rfl) (by rfl) T.n_tuple boot_tuple (zaa (zaN zf7 (by rfl) T.n_range boot_range (zaa (pv 7) (zaa (zaj zax (zao (zbB rfl) (by rfl) T.n_max boot_max (zaa (pv 7) (zaa (zaj zaM (pv 9) (pv 9)) zac))) zab) zac))) zac)) zac)))))
     (zah (zaY (zbQ (zbA (zak C_law_bounded (hr.mono (by decide)) rfl (zaa (pv 5) (zaa (pv 9) (zaa (pv 7) (zaa (pv 8) zac)))))))
      (zah (zal zcb))
      zay)))))))))))))
   (zah (zal zcb)))⟩
end
end K63
namespace L2
open PySem PySem.Spec PyProof.Rows
theorem zfv:∀{ns ms:List Int},ns.map V.int=ms.map V.int->ns=ms
 |[],[],_=>rfl
 |[],_::_,h=>by cases h
 |_::_,[],h=>by cases h
 |a::l,b::r,h=>by
  rw[List.map_cons,List.map_cons] at h
  injection h with h1 h2
  injection h1 with h1
  rw[h1,zfv h2]
theorem zfw {H:Hp}:∀{zs:List Addr} {R:List (List Int)},RowsAt H zs R->∀{z:Addr},z∈zs->∃r,r∈R/\H z=some (.tup (r.map V.int))
 |_,_,.nil,_,h=>by cases h
 | _,_,.cons a t,z,h=>by
  rcases List.mem_cons.mp h with rfl|h
  ·exact⟨_,List.mem_cons_self,a⟩
  ·obtain ⟨r,h1,h2⟩:=zfw t h
   exact⟨r,List.mem_cons_of_mem _ h1,h2⟩
theorem zjz {K:PySem.W.Frag}{a:Addr}{zs:List Addr}{R:List (List Int)}{te:TE}{ix:List Nat}{σ:L2.St}{H1:Hp}{Q:VK}(f:List Int->Int)(hH:H1 a=some (.lst (zs.map V.ref)))(hR:RowsAt H1 zs R)(small:zs.length<=1000)
  (he:∀z r,r∈R->∀H,Same H1 H->H z=some (.tup (r.map V.int))->∀QT:VK,(∀H',Same H H'->QT (.int (f r)) H')->te (some (.ref z)::ix.map fun i=>σ.getD i none) H QT)
  (fin:∀acc H',H1 acc=none->Same H1 H'->H' acc=some (.lst ((R.map f).map V.int))->Q (.ref acc) H'):
  LcW (Itl K a) H1 (zck 0) zbV te 1 ix σ Q:=by
 refine zei (zcc (xs:=zs.map V.ref)) (zaW (by rw[List.length_map];(first|lia|omega))) (fun x v H=>∀z r,x=.ref z->H1 z=some (.tup (r.map V.int))->v=.int (f r)) (by intro x v H H' s h;exact h) (fun H s=>SqL.of (s _ _ hH)) (fun x hx H s QT q=> ?_) fun acc ys H' h0 s' hacc pr=> ?_
 ·obtain ⟨z,hz,rfl⟩:=List.mem_map.mp hx
  obtain⟨r,hr1,hr2⟩:=zfw hR hz
  refine he z r hr1 H s (s _ _ hr2) QT fun H' s'=>q _ H' s' fun z' r' e e'=> ?_
  cases e
  rw[hr2] at e'
  have:r=r':=by
   injection e' with e'
   injection e' with e'
   exact zfv e'
  rw[this]
 ·refine fin acc H' h0 s' ?_
  have key:ys=(R.map f).map V.int:=by
   clear hacc fin he small hH
   induction hR generalizing ys with
   |nil=>
    cases pr
    rfl
   | cons h _ ih=>
    cases pr with
    |cons p q=>
     rw[p _ _ rfl h,ih _ q]
     rfl
  rw[hacc,key]
noncomputable def zkT (K:PySem.W.Frag):Sp:=fun vs H Q _=>∃(a:Addr) (ns:List Int),vs=[.ref a]/\SqL K H a (ns.map V.int)/\ns.length<=63/\∀H',Q (.bl true) H'
noncomputable def gePV (n:Int):V->Bool
 | .int c=>decide (n<=c)
 |_=>false
theorem zgL (n:Int):∀l:List Int,((l.map V.int).filter (gePV n)).length=l.countP fun c=>decide (n<=c)
 |[]=>rfl
 | c::l=>by
  have ih:=zgL n l
  rw[List.map_cons,List.filter_cons,List.countP_cons]
  show (if decide (n<=c)=true then _ else _:List V).length=_
  by_cases h:n<=c
  ·rw[decide_eq_true h,if_pos rfl,if_pos rfl,List.length_cons,ih]
  ·rw [decide_eq_false h,if_neg (by decide),if_neg (by decide),ih]
   rfl
theorem ziE (k n:Nat):za9 (k:Int) n=(rgI k n).map V.int:=by
 unfold za9 rgI
 rw[List.map_map]
 refine List.map_congr_left fun i _=> ?_
 show V.int ((k:Int)+(i:Int))=V.int ((k+i:Nat):Int)
 congr 1
theorem zlS (k n:Nat):(rgI k n).length=n:=by simp[rgI]
noncomputable def zf8:List V:=[.str "rounds",.str "stays",.str "rises",.str "highs",.str "crossed",.str "longest"]
theorem zbb {kind:Str}(hk:kind∈zaF):kind= "rounds" ∨kind= "stays" ∨kind= "rises" ∨kind= "highs" ∨kind= "crossed" ∨kind= "longest" :=by simpa [zaF] using hk
theorem len6 {kind:Str}(hk:kind∈zaF){N:Nat}(hN:N<bN kind):(row6 kind N).length<=N*N+1:=by
 have hb:=zlR kind
 obtain⟨⟨a1,a2,a3,a4⟩,a5,a6⟩:=zjv N (by (first|lia|omega))
 rcases zbb hk with rfl|rfl|rfl|rfl|rfl|rfl
 ·exact a1
 ·exact a2
 ·exact a3
 ·exact a4
 ·exact a5 hN
 ·exact a6 hN
theorem zjV {a b:Nat}(h:a<=b):a*a<=b*b:=Nat.mul_le_mul h h
end L2
namespace K63
open PySem PySem.Spec PyProof.Rows L2
noncomputable def zjA (K:PySem.W.Frag):Sp:=zkT K
section
variable {P:Program}{w:World}{K:PySem.W.Frag}{mg:Str->Option Value}{base:Heap}
set_option maxHeartbeats 8000000 in
theorem zlT {f:Addr}{fd:FuncData}(F:Fun K "law" "law" zc5 f fd)(T:Top mg)(C_law_pot:Cal P w K mg base 1 "_law_pot" ["_law_script", "_law_k"] (zgn K))(C_law_next:Cal P w K mg base 1 "_law_next" ["_law_pot_here", "_law_many"] zdk)(C_law_of:Cal P w K mg base 2 "_law_of" ["_law_pot_here", "_law_some"] ziT)(C_law_all:Cal P w K mg base 1 "_law_all" ["_law_many"] zes)(C_law_counted:Cal P w K mg base 3 "_law_counted" ["_law_kind", "_law_order"] zgK)(C_law_low:Cal P w K mg base 1 "_law_low" ["_law_over", "_law_under"] zbS)(C_law_bounded:Cal P w K mg base 9 "_law_bounded" ["_law_kind", "_law_many", "_law_number", "_law_here"] zjw)(Cshare:Cal P w K mg base 6 "share" ["kind", "many", "counts"] (zeu K)):FnOk P w K mg base CX0 10 f fd ["_law_script"] (zjA K):=by
 refine F.ok sc_law (fun vs H Q E h=> ?_) (fun cdv A outer s H vs Q E hr h=> ?_)
 ·obtain ⟨a,ns,rfl,_⟩:=h
  rfl
 ·obtain ⟨a,ns,rfl,hS,hl,k⟩:=h
  have hu1:=zlc hr
  have hT:=(lawT (P:=P) (w:=w) (base:=base) (E:=E) (outer:=outer) (s:=s) (H:=H) (f:=f) (cdv:=cdv) (A:=A) hr hu1 T C_law_pot C_law_next C_law_of C_law_all C_law_counted C_law_low C_law_bounded Cshare).2
  refine⟨(lawT (P:=P) (w:=w) (base:=base) (E:=E) (outer:=outer) (s:=s) (H:=H) (f:=f) (cdv:=cdv) (A:=A) hr hu1 T C_law_pot C_law_next C_law_of C_law_all C_law_counted C_law_low C_law_bounded Cshare).1,by assumption, ?_⟩
  clear hT
  refine⟨_,rfl,a,_,rfl,.inl hS,_,_,rfl,_,_,rfl,_,rfl, ?_⟩
  rw[zas]
  have hj:∃n:Nat,n<=4/\(if (if (3:Int)<(ns.length:Int) then (3:Int) else (ns.length:Int))>1 then (if (3:Int)<(ns.length:Int) then (3:Int) else (ns.length:Int)) else 1)=(n:Int):=by
   refine⟨(if (if (3:Int)<(ns.length:Int) then (3:Int) else (ns.length:Int))>1 then (if (3:Int)<(ns.length:Int) then (3:Int) else (ns.length:Int)) else 1).toNat, ?_, ?_⟩
   ·split<;>split at*<;>(first|lia|omega)
   ·split<;>split at*<;>(first|lia|omega)
  obtain⟨n,hn,en⟩:=hj
  rw[en]
  refine⟨by (first|lia|omega),by (first|lia|omega), ?_⟩
  rw[Int.toNat_natCast]
  refine zaI (fun i σ H2=>∃(c1 c2 c3 c4 c5 c6 c7 c8 c9:Option V),σ=[some (.ref a),c1,c2,c3,c4,c5,c6,c7,c8,c9]/\Same H H2) ⟨none,none,none,none,none,none,none,none,none,rfl,Same.refl H⟩ ?_ ?_
  ·rintro i σ H2 hi ⟨c1,c2,c3,c4,c5,c6,c7,c8,c9,rfl,sm⟩
   refine⟨_,rfl,_,rfl,a,ns,_,rfl,sm.seq hS,by (first|lia|omega),by (first|lia|omega),fun p H3 s3 hp hp0=> ?_⟩
   have hnp:∀{b:Addr} {o:HO},H b=some o->b≠p:=fun {b} {o} hb e=>by
    rw[e] at hb
    rw[sm _ _ hb] at hp0
    cases hp0
   have KS:∀{G G':Hp},Same H G->Keep p p G G'->Same H G':=fun s' k' b o hb=>k' b o (s' _ _ hb) (hnp hb) (hnp hb)
   have SH:=sm.trans s3
   refine⟨_,rfl,by show 8<=sizeLine;decide,fun l hl=> ?_⟩
   have sl:=zae (o:=.lst [.int 0,.int 1,.int 2,.int 3,.int 4,.int 5,.int 5,.int 6]) hl
   have hlp:=hp.ne_new hl
   refine⟨p,l,_,rfl,zad,hlp,by show 0<8;decide,by show 8<=1000;decide,hp.same sl,fun x hx H4 hp4 k4=> ?_⟩
   obtain⟨m,rfl,hm⟩:∃m:Nat,x=.int (m:Int)/\m<7:=by
    simp only[List.mem_cons,List.not_mem_nil,or_false] at hx
    rcases hx with rfl|rfl|rfl|rfl|rfl|rfl|rfl|rfl
    ·exact⟨0,rfl,by decide⟩
    ·exact⟨1,rfl,by decide⟩
    ·exact⟨2,rfl,by decide⟩
    ·exact⟨3,rfl,by decide⟩
    ·exact⟨4,rfl,by decide⟩
    ·exact⟨5,rfl,by decide⟩
    ·exact⟨5,rfl,by decide⟩
    ·exact⟨6,rfl,by decide⟩
   have S4:=KS (SH.trans sl) k4
   refine⟨_,rfl,m,rfl,hm,fun lo zs H5 s5 hlo hR=> ?_⟩
   have S5:=S4.trans s5
   have hp5:=hp4.same s5
   have hloP:lo≠p:=fun e=>by
    obtain⟨u,v,q1,_⟩:=hp5
    rw[e,q1] at hlo
    have h:=Paired.length hR
    have hn:=(zjS m hm "rounds" (by decide)).2.1
    cases zs with
    |nil=>rw[<-h] at hn;cases hn
    |cons z t=>injection hlo with hlo;injection hlo with hlo;injection hlo with hlo;cases hlo
   clear hp0 hl hlp sl s3 k4 s5 hp4 S4 SH
   refine⟨by show 6<=sizeLine;decide,fun L hL=>⟨L,rfl,⟨_,SqL.of zad⟩, ?_⟩⟩
   have sL:=zae (o:=.lst zf8) hL
   have hLp:=hp5.ne_new hL
   have hLG:=@zad H5 L (.lst zf8)
   have S6:=S5.trans sL
   have hp6:=hp5.same sL
   have hlo6:=sL _ _ hlo
   have hR6:=hR.same sL
   have hg:([.str "rounds",.str "stays",.str "rises",.str "highs",.str "crossed",.str "longest"]:List V)=zf8:=rfl
   rw[hg]
   generalize upd H5 L (.lst zf8)=H6 at*
   clear hL sL S5 hp5 hlo hR
   refine zec (K:=K) (a:=L) (xs:=zf8) (fun j σ G=>∃(c5 c6 c7 c8 c9:Option V),σ=[some (.ref a),some (.int (0+(i:Int))),some (.ref p),some (.int (m:Int)),some (.ref lo),c5,c6,c7,c8,c9]/\Same H G/\G L=some (.lst zf8)/\Pot2 G p/\G lo=some (.lst (zs.map V.ref))/\RowsAt G zs (allI m)) ⟨_,_,_,_,_,rfl,S6,hLG,hp6,hlo6,hR6⟩ (fun j σ G _ ⟨_,_,_,_,_,_,_,q,_⟩=>SqL.of q) ?_ ?_
   ·rintro j x σ G hx ⟨c5',c6',c7',c8',c9',rfl,SG,hLG',pG,loG,RG⟩
    obtain⟨kd,rfl,hk⟩:∃kd:Str,x=.str kd/\kd∈zaF:=by
     have hx:=List.mem_of_getElem? hx
     simp only[zf8,List.mem_cons,List.not_mem_nil,or_false] at hx
     rcases hx with rfl|rfl|rfl|rfl|rfl|rfl<;>exact⟨_,rfl,by decide⟩
    obtain⟨cn,cl1,cl2⟩:=zjS m hm kd hk
    have hzl:=Paired.length RG
    unfold cnOk at cn
    simp only[Bool.and_eq_true,List.all_eq_true,decide_eq_true_eq] at cn
    obtain⟨cn1,cn2⟩:=cn
    refine⟨_,rfl,lo,rfl,⟨_,SqL.of loG⟩, ?_⟩
    refine zjz (cntL kd) loG RG (by (first|lia|omega)) (fun z r hr G1 s1 hz QT q=> ?_) fun cz G1 hcz s1 hcG=> ?_
    ·exact⟨_,rfl,_,rfl,kd,z,r,m,rfl,hk,hz,hm,hr,fun H' s'=>q H' s'⟩
    have SG1:=SG.trans s1
    have hL1:=s1 _ _ hLG'
    have pG1:=pG.same s1
    have lo1:=s1 _ _ loG
    have R1:=RG.same s1
    have hczp:cz≠p:=pG.ne_new hcz
    generalize hLe:(allI m).map (cntL kd)=Lc at*
    have hLl:Lc.length=(allI m).length:=by rw[<-hLe,List.length_map]
    refine⟨_,rfl,cz,Lc,rfl,hcG,fun e=>by rw[e] at hLl;simp at hLl;(first|lia|omega),fun M hM1 hM2=> ?_⟩
    obtain⟨M0,M1⟩:=cn1 M hM1
    refine⟨_,_,rfl,rfl,_,rfl,by (first|lia|omega),by (first|lia|omega), ?_⟩
    refine zaI (n:=(M+2).toNat) (fun q σ G'=>∃c7 c8:Option V,σ=[some (.ref a),some (.int (0+(i:Int))),some (.ref p),some (.int (m:Int)),some (.ref lo),some (.str kd),some (.ref cz),c7,c8,c9']/\Same G1 G') ⟨_,_,rfl,Same.refl G1⟩ ?_ ?_
    ·rintro q σ G' hq ⟨c7,c8,rfl,sG'⟩
     rw[show (0:Int)+(q:Int)=(q:Int) from Int.zero_add _]
     have hq17:q<18:=by (first|lia|omega)
     have hcG':=sG' _ _ hcG
     refine⟨_,rfl,cz,rfl,⟨_,SqL.of hcG'⟩, ?_⟩
     refine zeh (zcc (xs:=Lc.map V.int)) (zaW (by rw[zas];(first|lia|omega))) (gePV (q:Int)) (fun v=>v) (fun H s=>SqL.of (s _ _ hcG')) (fun x hx G2 s2 Q' qq=> ?_) (fun x hx _ G2 s2 Q' qq=>⟨_,rfl,qq⟩) fun acc hacc=> ?_
     ·obtain ⟨c,_,rfl⟩:=List.mem_map.mp hx
      exact⟨_,rfl,_,rfl,_,_,rfl,rfl,_,rfl,qq⟩
     rw[List.map_id']
     have sa:=zae (o:=.lst ((Lc.map V.int).filter (gePV (q:Int)))) hacc
     refine⟨acc,_,rfl,.inl (SqL.of zad),_,rfl,cz,_,rfl,.inl (SqL.of (sa _ _ hcG')), ?_⟩
     rw[zgL,zas]
     obtain⟨cq1,cq2⟩:=cn2 q (List.mem_range.mpr hq17)
     refine⟨_,_,rfl,by (first|lia|omega),Sm.of (Nat.lt_of_le_of_lt (show ((Lc.length:Nat):Int).natAbs<=720 by (first|lia|omega)) (by decide+kernel)),fun hz G3 s3 hh=> ?_⟩
     refine⟨_,rfl,_,rfl,_,rfl,_,rfl,kd,m,q,hz,_,rfl,hk,by (first|lia|omega),by (first|lia|omega),zjT hk (Nat.lt_of_lt_of_le hm (by unfold bN;split;decide;split<;>decide)) (by (first|lia|omega)),hh,cq2,cq1,fun G4 s4=>⟨_,rfl,iteF ?_⟩⟩
     exact⟨_,_,rfl,((sG'.trans sa).trans s3).trans s4⟩
    rintro σ G' ⟨c7,c8,rfl,sG'⟩
    have SG2:=SG1.trans sG'
    have hL2:=sG' _ _ hL1
    have pG2:=pG1.same sG'
    have lo2:=sG' _ _ lo1
    have R2:=R1.same sG'
    clear hcG hM1 hM2 cn1 cn2 sG' hL1 pG1 lo1 R1 s1 hcz SG1 SG hLG' pG loG RG
    have hc1:(valV [((Sum.inr ("crossed" :Str):Key),V.int 17),(Sum.inr ("longest" :Str),V.int 11)] (Sum.inr kd)).getD (V.int 25)=V.int (bN kd:Int):=by
     rcases zbb hk with rfl|rfl|rfl|rfl|rfl|rfl<;>rfl
    have hb0:0<bN kd:=by unfold bN;split;decide;split<;>decide
    have hb1:=zlR kd
    refine⟨_,rfl,fun d hd=>⟨zad,d,rfl,.inl ⟨_,.inl zad⟩,_,rfl,_,DGet.k (k:=Sum.inr kd) zad,p,(bN kd:Int),congrArg (fun v=>[V.ref p,v]) hc1,by (first|lia|omega),by (first|lia|omega),pG2.same (zav (zae hd) hd),fun dN Ga n0 n1 pGa ka=> ?_⟩⟩
    obtain⟨N,rfl⟩:∃N:Nat,dN=(N:Int):=⟨dN.toNat,by (first|lia|omega)⟩
    have hN:N<bN kd:=by (first|lia|omega)
    have sd:=zav (o:=.dK [(.inr "crossed",.int 17),(.inr "longest",.int 11)]) (zae (o:=.dK []) hd) hd
    have SGa:=KS (SG2.trans sd) ka
    obtain⟨c2,hc2,c20,c21⟩:∃c2:Int,(valV [((Sum.inr ("crossed" :Str):Key),V.int ((N:Int)*(N:Int)/2+2))] (Sum.inr kd)).getD (V.int ((N:Int)+2))=V.int c2/\0<c2/\c2<1000:=by
     have hNN:(N:Int)*(N:Int)<=625:=by
      have:=zjV (show N<=25 by (first|lia|omega))
      have e:((N*N:Nat):Int)<=625:=by (first|lia|omega)
      rwa [Int.natCast_mul] at e
     have hN0:(0:Int)<=(N:Int)*(N:Int):=Int.mul_nonneg (by (first|lia|omega)) (by (first|lia|omega))
     rcases zbb hk with rfl|rfl|rfl|rfl|rfl|rfl
     ·exact⟨_,rfl,by (first|lia|omega),by (first|lia|omega)⟩
     ·exact⟨_,rfl,by (first|lia|omega),by (first|lia|omega)⟩
     ·exact⟨_,rfl,by (first|lia|omega),by (first|lia|omega)⟩
     ·exact⟨_,rfl,by (first|lia|omega),by (first|lia|omega)⟩
     ·exact⟨(N:Int)*(N:Int)/2+2,rfl,by (first|lia|omega),by (first|lia|omega)⟩
     ·exact⟨_,rfl,by (first|lia|omega),by (first|lia|omega)⟩
    have pGa0:=pGa
    refine⟨_,rfl,fun d2 hd2=> ?_⟩
    refine⟨_,rfl,_,rfl,_,_,rfl,rfl,.inl ⟨by (first|lia|omega),by (first|lia|omega)⟩,_,_,rfl,rfl,⟨by decide,by decide⟩,_,_,rfl,rfl,zad,d2,rfl,.inl ⟨_,.inl zad⟩,_,rfl,_,rfl,_,_,rfl,rfl,_,DGet.k (k:=Sum.inr kd) zad,p,c2,congrArg (fun v=>[V.ref p,v]) hc2,by (first|lia|omega),by (first|lia|omega),pGa.same (zav (zae hd2) hd2),fun nu Gb u0 u1 pGb kb=> ?_⟩
    refine⟨_,_,rfl,rfl,by show (0:Int)<61;decide, ?_⟩
    obtain⟨kk,hkk,kk61⟩:∃kk:Nat,nu%61=(kk:Int)/\kk<61:=⟨(nu%61).toNat,by (first|lia|omega),by (first|lia|omega)⟩
    rw[show (fun (i j:Int)=>V.int (i%j)) nu 61=V.int (kk:Int) from by show V.int (nu%61)=_;rw[hkk]]
    have SGb:=KS (SGa.trans (zav (o:=.dK [(.inr "crossed",.int ((N:Int)*(N:Int)/2+2))]) (zae (o:=.dK []) hd2) hd2)) kb
    have hNN:(N:Int)*(N:Int)=((N*N:Nat):Int):=(Int.natCast_mul N N).symm
    have hNl:N*N<=625:=zjV (show N<=25 by (first|lia|omega))
    have hl6:=len6 hk hN
    obtain⟨nn,hnn,n1,n2⟩:∃nn:Nat,(if (N:Int)*(N:Int)>(kk:Int) then (N:Int)*(N:Int) else (kk:Int))+1=((kk+nn:Nat):Int)/\nn<=700/\N*N<kk+nn:=by
     rw[hNN]
     by_cases c:((N*N:Nat):Int)>(kk:Int)
     ·rw [if_pos c]
      exact⟨N*N+1-kk,by (first|lia|omega),by (first|lia|omega),by (first|lia|omega)⟩
     ·rw [if_neg c]
      exact⟨1,by (first|lia|omega),by decide,by (first|lia|omega)⟩
    refine⟨_,rfl,_,rfl,_,rfl,_,rfl,_,rfl,_,rfl,_,_,rfl,rfl,.inl ⟨by (first|lia|omega),by (first|lia|omega)⟩,_,_,rfl,_,_,rfl,rfl,_,_,rfl,fun r hr=> ?_⟩
    rw[hnn]
    refine⟨r,_,_,rfl,zad,by (first|lia|omega),by (first|lia|omega),by (first|lia|omega),fun t ht=> ?_⟩
    have sr:=zae (o:=.rng (kk:Int) ((kk+nn:Nat):Int)) hr
    rw[show (((kk+nn:Nat):Int)-(kk:Int)).toNat=nn by (first|lia|omega),ziE]
    have st:=zae (o:=.tup ((rgI kk nn).map V.int)) ht
    have hb6:N<=b6 kd:=by
     have:bN kd<=b6 kd:=by
      rcases zbb hk with rfl|rfl|rfl|rfl|rfl|rfl<;>decide
     (first|lia|omega)
    refine⟨kd,N,t,rgI kk nn,rfl,hk,hb6,zad,by rw[zlS];(first|lia|omega),fun hz Gc sc hh=> ?_⟩
    have eh:hav (row6 kd N) (rgI kk nn)=zkL (row6 kd N) kk:=by
     rw[zjU]
     unfold zkL
     rw[List.take_of_length_le (by rw[List.length_drop];(first|lia|omega))]
    rw[eh] at hh
    have so:=zlQ hk hN kk61
    unfold shOk at so
    simp only[Bool.and_eq_true,decide_eq_true_eq] at so
    refine⟨_,rfl,_,rfl,_,rfl,_,rfl,kd,N,kk,hz,_,rfl,hk,by (first|lia|omega),by (first|lia|omega),zjT hk hN kk61,hh,so.2,so.1,fun Gd sd'=>⟨_,rfl,iteF ?_⟩⟩
    have hLn:L≠p:=hLp
    have s4:∀{b:Addr} {o:HO},G' b=some o->b≠p->Gd b=some o:=fun {b o} hb hne=>by
     have h1:=ka _ _ (sd _ _ hb) hne hne
     have h2:=kb _ _ ((zav (o:=.dK [(.inr "crossed",.int ((N:Int)*(N:Int)/2+2))]) (zae (o:=.dK []) hd2) hd2) _ _ h1) hne hne
     exact sd' _ _ (sc _ _ (st _ _ (sr _ _ h2)))
    refine⟨_,_,_,_,_,rfl,((((SGb.trans sr).trans st).trans sc).trans sd'),s4 hL2 hLn,(((pGb.same sr).same st).same sc).same sd',s4 lo2 hloP, ?_⟩
    refine Paired.mapP R2 fun z r h=>s4 h fun e=> ?_
    obtain⟨u,v,q1,_⟩:=pG2
    rw[e,q1] at h
    cases h
   ·rintro σ G ⟨c5',c6',c7',c8',c9',rfl,SG,hLG',pG,loG,RG⟩
    exact⟨_,_,_,_,_,_,_,_,_,rfl,SG⟩
  ·rintro σ H2 ⟨c1,c2,c3,c4,c5,c6,c7,c8,c9,rfl,sm⟩
   exact k H2
end
set_option maxHeartbeats 8000000 in
theorem all_mk {l:PySem.W.OpenLaw}{w:World}{K:PySem.W.Frag}{h:Heap}{mg:Str->Option Value}{fa C_BOUNDS C_MEANS C_SPREADS C_PAPERS C_LOOKS C_ROWS T_ALL T_FIRST_ROW g_groups_bound g_stays_bound g_rises_bound g_crossed_bound g_longest_bound g_highs_mean g_stays_mean g_rises_mean g_crossed_mean g_highs_spread g_stays_spread g_rises_spread g_crossed_spread g_groups_paper g_stays_paper g_rises_paper g_crossed_paper g_longest_paper g_shows_by_sets g_shows_by_groups g_shows_by_spread g_rounds_row g_stays_row g_rises_row g_crossed_row:Addr}(X:K.In h)(G:h.Ns mainGlobals mg)(hfa:mg "law" =some (.ref fa))(TK:TopK K)(a_BOUNDS:PySem.W.nsIn K mainGlobals "BOUNDS" =some (some (.ref C_BOUNDS)))(GD_BOUNDS:GDict K w.params C_BOUNDS [("rounds",g_groups_bound),("stays",g_stays_bound),("rises",g_rises_bound),("highs",g_groups_bound),("crossed",g_crossed_bound),("longest",g_longest_bound)])(a_MEANS:PySem.W.nsIn K mainGlobals "MEANS" =some (some (.ref C_MEANS)))(GD_MEANS:GDict K w.params C_MEANS [("rounds",g_highs_mean),("stays",g_stays_mean),("rises",g_rises_mean),("highs",g_highs_mean),("crossed",g_crossed_mean)])(a_SPREADS:PySem.W.nsIn K mainGlobals "SPREADS" =some (some (.ref C_SPREADS)))(GD_SPREADS:GDict K w.params C_SPREADS [("rounds",g_highs_spread),("stays",g_stays_spread),("rises",g_rises_spread),("highs",g_highs_spread),("crossed",g_crossed_spread)])(a_PAPERS:PySem.W.nsIn K mainGlobals "PAPERS" =some (some (.ref C_PAPERS)))(GD_PAPERS:GDict K w.params C_PAPERS [("rounds",g_groups_paper),("stays",g_stays_paper),("rises",g_rises_paper),("highs",g_groups_paper),("crossed",g_crossed_paper),("longest",g_longest_paper)])(a_LOOKS:PySem.W.nsIn K mainGlobals "LOOKS" =some (some (.ref C_LOOKS)))(GD_LOOKS:GDict K w.params C_LOOKS [("sets",g_shows_by_sets),("groups",g_shows_by_groups),("spread",g_shows_by_spread)])(a_ROWS:PySem.W.nsIn K mainGlobals "ROWS" =some (some (.ref C_ROWS)))(GD_ROWS:GDict K w.params C_ROWS [("rounds",g_rounds_row),("stays",g_stays_row),("rises",g_rises_row),("highs",g_rounds_row),("crossed",g_crossed_row)])(a_ALL:PySem.W.nsIn K mainGlobals "ALL" =some (some (.ref T_ALL)))(h_ALL:∀H,SqT K H T_ALL [.str "all"])(a_FIRST_ROW:PySem.W.nsIn K mainGlobals "FIRST_ROW" =some (some (.ref T_FIRST_ROW)))(h_FIRST_ROW:∀H,SqT K H T_FIRST_ROW ([1].map V.int))(n_groups_bound:PySem.W.nsIn K mainGlobals "groups_bound" =some (some (.ref g_groups_bound)))(n_stays_bound:PySem.W.nsIn K mainGlobals "stays_bound" =some (some (.ref g_stays_bound)))(n_rises_bound:PySem.W.nsIn K mainGlobals "rises_bound" =some (some (.ref g_rises_bound)))(n_crossed_bound:PySem.W.nsIn K mainGlobals "crossed_bound" =some (some (.ref g_crossed_bound)))(n_longest_bound:PySem.W.nsIn K mainGlobals "longest_bound" =some (some (.ref g_longest_bound)))(n_highs_mean:PySem.W.nsIn K mainGlobals "highs_mean" =some (some (.ref g_highs_mean)))(n_stays_mean:PySem.W.nsIn K mainGlobals "stays_mean" =some (some (.ref g_stays_mean)))(n_rises_mean:PySem.W.nsIn K mainGlobals "rises_mean" =some (some (.ref g_rises_mean)))(n_crossed_mean:PySem.W.nsIn K mainGlobals "crossed_mean" =some (some (.ref g_crossed_mean)))(n_highs_spread:PySem.W.nsIn K mainGlobals "highs_spread" =some (some (.ref g_highs_spread)))(n_stays_spread:PySem.W.nsIn K mainGlobals "stays_spread" =some (some (.ref g_stays_spread)))(n_rises_spread:PySem.W.nsIn K mainGlobals "rises_spread" =some (some (.ref g_rises_spread)))(n_crossed_spread:PySem.W.nsIn K mainGlobals "crossed_spread" =some (some (.ref g_crossed_spread)))(n_groups_paper:PySem.W.nsIn K mainGlobals "groups_paper" =some (some (.ref g_groups_paper)))(n_stays_paper:PySem.W.nsIn K mainGlobals "stays_paper" =some (some (.ref g_stays_paper)))(n_rises_paper:PySem.W.nsIn K mainGlobals "rises_paper" =some (some (.ref g_rises_paper)))(n_crossed_paper:PySem.W.nsIn K mainGlobals "crossed_paper" =some (some (.ref g_crossed_paper)))(n_longest_paper:PySem.W.nsIn K mainGlobals "longest_paper" =some (some (.ref g_longest_paper)))(n_shows_by_sets:PySem.W.nsIn K mainGlobals "shows_by_sets" =some (some (.ref g_shows_by_sets)))(n_shows_by_groups:PySem.W.nsIn K mainGlobals "shows_by_groups" =some (some (.ref g_shows_by_groups)))(n_shows_by_spread:PySem.W.nsIn K mainGlobals "shows_by_spread" =some (some (.ref g_shows_by_spread)))(n_rounds_row:PySem.W.nsIn K mainGlobals "rounds_row" =some (some (.ref g_rounds_row)))(n_stays_row:PySem.W.nsIn K mainGlobals "stays_row" =some (some (.ref g_stays_row)))(n_rises_row:PySem.W.nsIn K mainGlobals "rises_row" =some (some (.ref g_rises_row)))(n_crossed_row:PySem.W.nsIn K mainGlobals "crossed_row" =some (some (.ref g_crossed_row)))
  (d__law_pot:Def K "_law_pot" zcH) (d__law_next:Def K "_law_next" zcg) (d__law_of:Def K "_law_of" zdt) (d__law_all:Def K "_law_all" zb8) (d__law_longest:Def K "_law_longest" za3) (d__law_parts:Def K "_law_parts" za5) (d__law_round:Def K "_law_round" zb1) (d__law_has:Def K "_law_has" zcJ) (d__law_counted:Def K "_law_counted" za4) (d__law_low:Def K "_law_low" zcI) (d_greatest_divisor:Def K "greatest_divisor" zaU) (d_share_of:Def K "share_of" zcG) (d_product:Def K "product" zcx) (d_power:Def K "power" zfY) (d_groups_bound:Def K "groups_bound" zbu) (d_stays_bound:Def K "stays_bound" zbI) (d_less:Def K "less" zio) (d_times:Def K "times" zev) (d_parted:Def K "parted" zew) (d_is_less:Def K "is_less" zds) (d_rises_mean:Def K "rises_mean" zb2) (d_crossed_mean:Def K "crossed_mean" zbt) (d_mean:Def K "mean" ziv) (d_rises_spread:Def K "rises_spread" zbs) (d_crossed_spread:Def K "crossed_spread" za8) (d_spread:Def K "spread" zeA) (d_spread_bound:Def K "spread_bound" zbv) (d_rises_bound:Def K "rises_bound" zbJ) (d_crossed_bound:Def K "crossed_bound" zbi) (d_sets_of:Def K "sets_of" zdu) (d_longest_bound:Def K "longest_bound" zbh) (d_lesser:Def K "lesser" zex) (d_most_share:Def K "most_share" zb3) (d_groups_paper:Def K "groups_paper" zbw) (d_stays_paper:Def K "stays_paper" zbK) (d_rises_paper:Def K "rises_paper" zbL) (d_crossed_paper:Def K "crossed_paper" zbk) (d_longest_paper:Def K "longest_paper" zbj) (d_own_paper:Def K "own_paper" zch) (d_is_whole:Def K "is_whole" zcM) (d_are_wholes:Def K "are_wholes" zbn) (d_are_just:Def K "are_just" zcN) (d_shows_by_sets:Def K "shows_by_sets" zbl) (d_shows_by_groups:Def K "shows_by_groups" za1) (d_shows_by_spread:Def K "shows_by_spread" za0) (d_shows_bound:Def K "shows_bound" zaV) (d_bound_paper:Def K "bound_paper" zbM) (d__law_sum:Def K "_law_sum" zcK) (d__law_bounded:Def K "_law_bounded" zbz) (d_number_at:Def K "number_at" zci) (d_rounds_row:Def K "rounds_row" zbo) (d_stays_row:Def K "stays_row" zbN) (d_rises_row:Def K "rises_row" zbO) (d_crossed_row:Def K "crossed_row" zba) (d_next_row:Def K "next_row" zcO) (d_steps:Def K "steps" zf4) (d_shapes_grown:Def K "shapes_grown" zby) (d_fillings_of:Def K "fillings_of" zbP) (d_longest_told:Def K "longest_told" zbx) (d_told:Def K "told" ziy) (d_share:Def K "share" zeI) (d_law:Def K "law" zc5):
  ∃fd:FuncData,(∀(s:Shared) (v:Value),BindsTo s fd ⟨[v],[]⟩ [("_law_script",v)])/\∀base:Heap,K.In base->base.Ns mainGlobals mg->FnOk l.prog w K mg base CX0 10 fa fd ["_law_script"] (zjA K):=by
 have T:Top mg:=TK.top X G
 obtain⟨f__law_pot,e__law_pot,F__law_pot,m__law_pot⟩:=d__law_pot.fn X G
 obtain⟨f__law_next,e__law_next,F__law_next,m__law_next⟩:=d__law_next.fn X G
 obtain⟨f__law_of,e__law_of,F__law_of,m__law_of⟩:=d__law_of.fn X G
 obtain⟨f__law_all,e__law_all,F__law_all,m__law_all⟩:=d__law_all.fn X G
 obtain⟨f__law_longest,e__law_longest,F__law_longest,m__law_longest⟩:=d__law_longest.fn X G
 obtain⟨f__law_parts,e__law_parts,F__law_parts,m__law_parts⟩:=d__law_parts.fn X G
 obtain⟨f__law_round,e__law_round,F__law_round,m__law_round⟩:=d__law_round.fn X G
 obtain⟨f__law_has,e__law_has,F__law_has,m__law_has⟩:=d__law_has.fn X G
 obtain⟨f__law_counted,e__law_counted,F__law_counted,m__law_counted⟩:=d__law_counted.fn X G
 obtain⟨f__law_low,e__law_low,F__law_low,m__law_low⟩:=d__law_low.fn X G
 obtain⟨f_greatest_divisor,e_greatest_divisor,F_greatest_divisor,m_greatest_divisor⟩:=d_greatest_divisor.fn X G
 obtain⟨f_share_of,e_share_of,F_share_of,m_share_of⟩:=d_share_of.fn X G
 obtain⟨f_product,e_product,F_product,m_product⟩:=d_product.fn X G
 obtain⟨f_power,e_power,F_power,m_power⟩:=d_power.fn X G
 obtain⟨f_groups_bound,e_groups_bound,F_groups_bound,m_groups_bound⟩:=d_groups_bound.fn X G
 obtain⟨f_stays_bound,e_stays_bound,F_stays_bound,m_stays_bound⟩:=d_stays_bound.fn X G
 obtain⟨f_less,e_less,F_less,m_less⟩:=d_less.fn X G
 obtain⟨f_times,e_times,F_times,m_times⟩:=d_times.fn X G
 obtain⟨f_parted,e_parted,F_parted,m_parted⟩:=d_parted.fn X G
 obtain⟨f_is_less,e_is_less,F_is_less,m_is_less⟩:=d_is_less.fn X G
 obtain⟨f_rises_mean,e_rises_mean,F_rises_mean,m_rises_mean⟩:=d_rises_mean.fn X G
 obtain⟨f_crossed_mean,e_crossed_mean,F_crossed_mean,m_crossed_mean⟩:=d_crossed_mean.fn X G
 obtain⟨f_mean,e_mean,F_mean,m_mean⟩:=d_mean.fn X G
 obtain⟨f_rises_spread,e_rises_spread,F_rises_spread,m_rises_spread⟩:=d_rises_spread.fn X G
 obtain⟨f_crossed_spread,e_crossed_spread,F_crossed_spread,m_crossed_spread⟩:=d_crossed_spread.fn X G
 obtain⟨f_spread,e_spread,F_spread,m_spread⟩:=d_spread.fn X G
 obtain⟨f_spread_bound,e_spread_bound,F_spread_bound,m_spread_bound⟩:=d_spread_bound.fn X G
 obtain⟨f_rises_bound,e_rises_bound,F_rises_bound,m_rises_bound⟩:=d_rises_bound.fn X G
 obtain⟨f_crossed_bound,e_crossed_bound,F_crossed_bound,m_crossed_bound⟩:=d_crossed_bound.fn X G
 obtain⟨f_sets_of,e_sets_of,F_sets_of,m_sets_of⟩:=d_sets_of.fn X G
 obtain⟨f_longest_bound,e_longest_bound,F_longest_bound,m_longest_bound⟩:=d_longest_bound.fn X G
 obtain⟨f_lesser,e_lesser,F_lesser,m_lesser⟩:=d_lesser.fn X G
 obtain⟨f_most_share,e_most_share,F_most_share,m_most_share⟩:=d_most_share.fn X G
 obtain⟨f_groups_paper,e_groups_paper,F_groups_paper,m_groups_paper⟩:=d_groups_paper.fn X G
 obtain⟨f_stays_paper,e_stays_paper,F_stays_paper,m_stays_paper⟩:=d_stays_paper.fn X G
 obtain⟨f_rises_paper,e_rises_paper,F_rises_paper,m_rises_paper⟩:=d_rises_paper.fn X G
 obtain⟨f_crossed_paper,e_crossed_paper,F_crossed_paper,m_crossed_paper⟩:=d_crossed_paper.fn X G
 obtain⟨f_longest_paper,e_longest_paper,F_longest_paper,m_longest_paper⟩:=d_longest_paper.fn X G
 obtain⟨f_own_paper,e_own_paper,F_own_paper,m_own_paper⟩:=d_own_paper.fn X G
 obtain⟨f_is_whole,e_is_whole,F_is_whole,m_is_whole⟩:=d_is_whole.fn X G
 obtain⟨f_are_wholes,e_are_wholes,F_are_wholes,m_are_wholes⟩:=d_are_wholes.fn X G
 obtain⟨f_are_just,e_are_just,F_are_just,m_are_just⟩:=d_are_just.fn X G
 obtain⟨f_shows_by_sets,e_shows_by_sets,F_shows_by_sets,m_shows_by_sets⟩:=d_shows_by_sets.fn X G
 obtain⟨f_shows_by_groups,e_shows_by_groups,F_shows_by_groups,m_shows_by_groups⟩:=d_shows_by_groups.fn X G
 obtain⟨f_shows_by_spread,e_shows_by_spread,F_shows_by_spread,m_shows_by_spread⟩:=d_shows_by_spread.fn X G
 obtain⟨f_shows_bound,e_shows_bound,F_shows_bound,m_shows_bound⟩:=d_shows_bound.fn X G
 obtain⟨f_bound_paper,e_bound_paper,F_bound_paper,m_bound_paper⟩:=d_bound_paper.fn X G
 obtain⟨f__law_sum,e__law_sum,F__law_sum,m__law_sum⟩:=d__law_sum.fn X G
 obtain⟨f__law_bounded,e__law_bounded,F__law_bounded,m__law_bounded⟩:=d__law_bounded.fn X G
 obtain⟨f_number_at,e_number_at,F_number_at,m_number_at⟩:=d_number_at.fn X G
 obtain⟨f_rounds_row,e_rounds_row,F_rounds_row,m_rounds_row⟩:=d_rounds_row.fn X G
 obtain⟨f_stays_row,e_stays_row,F_stays_row,m_stays_row⟩:=d_stays_row.fn X G
 obtain⟨f_rises_row,e_rises_row,F_rises_row,m_rises_row⟩:=d_rises_row.fn X G
 obtain⟨f_crossed_row,e_crossed_row,F_crossed_row,m_crossed_row⟩:=d_crossed_row.fn X G
 obtain⟨f_next_row,e_next_row,F_next_row,m_next_row⟩:=d_next_row.fn X G
 obtain⟨f_steps,e_steps,F_steps,m_steps⟩:=d_steps.fn X G
 obtain⟨f_shapes_grown,e_shapes_grown,F_shapes_grown,m_shapes_grown⟩:=d_shapes_grown.fn X G
 obtain⟨f_fillings_of,e_fillings_of,F_fillings_of,m_fillings_of⟩:=d_fillings_of.fn X G
 obtain⟨f_longest_told,e_longest_told,F_longest_told,m_longest_told⟩:=d_longest_told.fn X G
 obtain⟨f_told,e_told,F_told,m_told⟩:=d_told.fn X G
 obtain⟨f_share,e_share,F_share,m_share⟩:=d_share.fn X G
 obtain⟨f_law,e_law,F_law,m_law⟩:=d_law.fn X G
 have b__law_pot:Binds K _ ["_law_script", "_law_k"] []:=F__law_pot.b2 fun _ _ _ _ _ _ _ _=>rfl
 have b__law_next:Binds K _ ["_law_pot_here", "_law_many"] []:=F__law_next.b2 fun _ _ _ _ _ _ _ _=>rfl
 have b__law_of:Binds K _ ["_law_pot_here", "_law_some"] []:=F__law_of.b2 fun _ _ _ _ _ _ _ _=>rfl
 have b__law_all:Binds K _ ["_law_many"] []:=F__law_all.b1 fun _ _ _ _ _ _ _=>rfl
 have b__law_longest:Binds K _ ["_law_order"] []:=F__law_longest.b1 fun _ _ _ _ _ _ _=>rfl
 have b__law_parts:Binds K _ ["_law_kind", "_law_many"] []:=F__law_parts.b2 fun _ _ _ _ _ _ _ _=>rfl
 have b__law_round:Binds K _ ["_law_order", "_law_number"] []:=F__law_round.b2 fun _ _ _ _ _ _ _ _=>rfl
 have b__law_has:Binds K _ ["_law_kind", "_law_part", "_law_order"] []:=F__law_has.b3 fun _ _ _ _ _ _ _ _ _=>rfl
 have b__law_counted:Binds K _ ["_law_kind", "_law_order"] []:=F__law_counted.b2 fun _ _ _ _ _ _ _ _=>rfl
 have b__law_low:Binds K _ ["_law_over", "_law_under"] []:=F__law_low.b2 fun _ _ _ _ _ _ _ _=>rfl
 have b_greatest_divisor:Binds K _ ["over", "under"] []:=F_greatest_divisor.b2 fun _ _ _ _ _ _ _ _=>rfl
 have b_share_of:Binds K _ ["over", "under"] []:=F_share_of.b2 fun _ _ _ _ _ _ _ _=>rfl
 have b_product:Binds K _ ["first", "last"] []:=F_product.b2 fun _ _ _ _ _ _ _ _=>rfl
 have b_power:Binds K _ ["base", "number"] []:=F_power.b2 fun _ _ _ _ _ _ _ _=>rfl
 have b_groups_bound:Binds K _ ["many", "number"] []:=F_groups_bound.b2 fun _ _ _ _ _ _ _ _=>rfl
 have b_stays_bound:Binds K _ ["many", "number"] []:=F_stays_bound.b2 fun _ _ _ _ _ _ _ _=>rfl
 have b_less:Binds K _ ["one", "other"] []:=F_less.b2 fun _ _ _ _ _ _ _ _=>rfl
 have b_times:Binds K _ ["one", "other"] []:=F_times.b2 fun _ _ _ _ _ _ _ _=>rfl
 have b_parted:Binds K _ ["one", "other"] []:=F_parted.b2 fun _ _ _ _ _ _ _ _=>rfl
 have b_is_less:Binds K _ ["one", "other"] []:=F_is_less.b2 fun _ _ _ _ _ _ _ _=>rfl
 have b_rises_mean:Binds K _ ["many"] []:=F_rises_mean.b1 fun _ _ _ _ _ _ _=>rfl
 have b_crossed_mean:Binds K _ ["many"] []:=F_crossed_mean.b1 fun _ _ _ _ _ _ _=>rfl
 have b_mean:Binds K _ ["kind", "many"] []:=F_mean.b2 fun _ _ _ _ _ _ _ _=>rfl
 have b_rises_spread:Binds K _ ["many"] []:=F_rises_spread.b1 fun _ _ _ _ _ _ _=>rfl
 have b_crossed_spread:Binds K _ ["many"] []:=F_crossed_spread.b1 fun _ _ _ _ _ _ _=>rfl
 have b_spread:Binds K _ ["kind", "many"] []:=F_spread.b2 fun _ _ _ _ _ _ _ _=>rfl
 have b_spread_bound:Binds K _ ["kind", "many", "number"] []:=F_spread_bound.b3 fun _ _ _ _ _ _ _ _ _=>rfl
 have b_rises_bound:Binds K _ ["many", "number"] []:=F_rises_bound.b2 fun _ _ _ _ _ _ _ _=>rfl
 have b_crossed_bound:Binds K _ ["many", "number"] []:=F_crossed_bound.b2 fun _ _ _ _ _ _ _ _=>rfl
 have b_sets_of:Binds K _ ["many", "number"] []:=F_sets_of.b2 fun _ _ _ _ _ _ _ _=>rfl
 have b_longest_bound:Binds K _ ["many", "number"] []:=F_longest_bound.b2 fun _ _ _ _ _ _ _ _=>rfl
 have b_lesser:Binds K _ ["one", "other"] []:=F_lesser.b2 fun _ _ _ _ _ _ _ _=>rfl
 have b_most_share:Binds K _ ["kind", "many", "number"] []:=F_most_share.b3 fun _ _ _ _ _ _ _ _ _=>rfl
 have b_groups_paper:Binds K _ ["many", "number"] []:=F_groups_paper.b2 fun _ _ _ _ _ _ _ _=>rfl
 have b_stays_paper:Binds K _ ["many", "number"] []:=F_stays_paper.b2 fun _ _ _ _ _ _ _ _=>rfl
 have b_rises_paper:Binds K _ ["many", "number"] []:=F_rises_paper.b2 fun _ _ _ _ _ _ _ _=>rfl
 have b_crossed_paper:Binds K _ ["many", "number"] []:=F_crossed_paper.b2 fun _ _ _ _ _ _ _ _=>rfl
 have b_longest_paper:Binds K _ ["many", "number"] []:=F_longest_paper.b2 fun _ _ _ _ _ _ _ _=>rfl
 have b_own_paper:Binds K _ ["kind", "many", "number"] []:=F_own_paper.b3 fun _ _ _ _ _ _ _ _ _=>rfl
 have b_is_whole:Binds K _ ["thing"] []:=F_is_whole.b1 fun _ _ _ _ _ _ _=>rfl
 have b_are_wholes:Binds K _ ["thing"] []:=F_are_wholes.b1 fun _ _ _ _ _ _ _=>rfl
 have b_are_just:Binds K _ ["thing", "numbers"] []:=F_are_just.b2 fun _ _ _ _ _ _ _ _=>rfl
 have b_shows_by_sets:Binds K _ ["paper", "number", "bound", "thing"] []:=F_shows_by_sets.b4 fun _ _ _ _ _ _ _ _ _ _=>rfl
 have b_shows_by_groups:Binds K _ ["paper", "number", "bound", "thing"] []:=F_shows_by_groups.b4 fun _ _ _ _ _ _ _ _ _ _=>rfl
 have b_shows_by_spread:Binds K _ ["paper", "number", "bound", "thing"] []:=F_shows_by_spread.b4 fun _ _ _ _ _ _ _ _ _ _=>rfl
 have b_shows_bound:Binds K _ ["kind", "many", "number", "bound", "thing"] []:=F_shows_bound.b5 fun _ _ _ _ _ _ _ _ _ _ _=>rfl
 have b_bound_paper:Binds K _ ["kind", "many", "number"] []:=F_bound_paper.b3 fun _ _ _ _ _ _ _ _ _=>rfl
 have b__law_sum:Binds K _ ["_law_one", "_law_two"] []:=F__law_sum.b2 fun _ _ _ _ _ _ _ _=>rfl
 have b__law_bounded:Binds K _ ["_law_kind", "_law_many", "_law_number", "_law_here"] []:=F__law_bounded.b4 fun _ _ _ _ _ _ _ _ _ _=>rfl
 have b_number_at:Binds K _ ["row", "place"] []:=F_number_at.b2 fun _ _ _ _ _ _ _ _=>rfl
 have b_rounds_row:Binds K _ ["many", "ahead"] []:=F_rounds_row.b2 fun _ _ _ _ _ _ _ _=>rfl
 have b_stays_row:Binds K _ ["many", "ahead"] []:=F_stays_row.b2 fun _ _ _ _ _ _ _ _=>rfl
 have b_rises_row:Binds K _ ["many", "ahead"] []:=F_rises_row.b2 fun _ _ _ _ _ _ _ _=>rfl
 have b_crossed_row:Binds K _ ["many", "ahead"] []:=F_crossed_row.b2 fun _ _ _ _ _ _ _ _=>rfl
 have b_next_row:Binds K _ ["kind", "many", "ahead"] []:=F_next_row.b3 fun _ _ _ _ _ _ _ _ _=>rfl
 have b_steps:Binds K _ ["kind", "many"] []:=F_steps.b2 fun _ _ _ _ _ _ _ _=>rfl
 have b_shapes_grown:Binds K _ ["shape"] []:=F_shapes_grown.b1 fun _ _ _ _ _ _ _=>rfl
 have b_fillings_of:Binds K _ ["many"] []:=F_fillings_of.b1 fun _ _ _ _ _ _ _=>rfl
 have b_longest_told:Binds K _ ["many"] []:=F_longest_told.b1 fun _ _ _ _ _ _ _=>rfl
 have b_told:Binds K _ ["kind", "many"] []:=F_told.b2 fun _ _ _ _ _ _ _ _=>rfl
 have b_share:Binds K _ ["kind", "many", "counts"] []:=F_share.b3 fun _ _ _ _ _ _ _ _ _=>rfl
 have e:fa=f_law:=by
  have q:=hfa.symm.trans m_law
  cases q
  rfl
 subst e
 obtain⟨oc,od,kV,doc,pm,an,cdv,ct,osl,rfl,lk,hcd⟩:=F_law.ex
 refine⟨PySem.W.fnOf "law" "law" (za6 zc5) (zaS zc5) (zag zc5) .none kV doc pm an cdv ct,fun s v=>.of_eq rfl,fun base _ _=> ?_⟩
 have C_law_pot:Cal l.prog w K mg base 1 "_law_pot" ["_law_script", "_law_k"] (zgn K):=⟨f__law_pot,e__law_pot,zfS F__law_pot T,m__law_pot,F__law_pot.kp,b__law_pot⟩
 have C_law_next:Cal l.prog w K mg base 1 "_law_next" ["_law_pot_here", "_law_many"] (zdk):=⟨f__law_next,e__law_next,zfm F__law_next,m__law_next,F__law_next.kp,b__law_next⟩
 have C_law_of:Cal l.prog w K mg base 2 "_law_of" ["_law_pot_here", "_law_some"] (ziT):=⟨f__law_of,e__law_of,zhd F__law_of T C_law_next,m__law_of,F__law_of.kp,b__law_of⟩
 have C_law_all:Cal l.prog w K mg base 1 "_law_all" ["_law_many"] (zes):=⟨f__law_all,e__law_all,zfU F__law_all T,m__law_all,F__law_all.kp,b__law_all⟩
 have C_law_longest:Cal l.prog w K mg base 1 "_law_longest" ["_law_order"] (zkK):=⟨f__law_longest,e__law_longest,zdH F__law_longest T,m__law_longest,F__law_longest.kp,b__law_longest⟩
 have C_law_parts:Cal l.prog w K mg base 1 "_law_parts" ["_law_kind", "_law_many"] (zcD):=⟨f__law_parts,e__law_parts,zey F__law_parts T,m__law_parts,F__law_parts.kp,b__law_parts⟩
 have C_law_round:Cal l.prog w K mg base 1 "_law_round" ["_law_order", "_law_number"] (zkw):=⟨f__law_round,e__law_round,zez F__law_round,m__law_round,F__law_round.kp,b__law_round⟩
 have C_law_has:Cal l.prog w K mg base 2 "_law_has" ["_law_kind", "_law_part", "_law_order"] (zkx):=⟨f__law_has,e__law_has,zfV F__law_has T C_law_round,m__law_has,F__law_has.kp,b__law_has⟩
 have C_law_counted:Cal l.prog w K mg base 3 "_law_counted" ["_law_kind", "_law_order"] (zgK):=⟨f__law_counted,e__law_counted,zdJ F__law_counted T C_law_longest C_law_parts C_law_has,m__law_counted,F__law_counted.kp,b__law_counted⟩
 have C_law_low:Cal l.prog w K mg base 1 "_law_low" ["_law_over", "_law_under"] (zbS):=⟨f__law_low,e__law_low,zfT F__law_low T,m__law_low,F__law_low.kp,b__law_low⟩
 have Cgreatest_divisor:Cal l.prog w K mg base 1 "greatest_divisor" ["over", "under"] (zkh):=⟨f_greatest_divisor,e_greatest_divisor,zcf F_greatest_divisor,m_greatest_divisor,F_greatest_divisor.kp,b_greatest_divisor⟩
 have Cshare_of:Cal l.prog w K mg base 2 "share_of" ["over", "under"] (zbS):=⟨f_share_of,e_share_of,zfR F_share_of Cgreatest_divisor,m_share_of,F_share_of.kp,b_share_of⟩
 have Cproduct1:Cal l.prog w K mg base 1 "product" ["first", "last"] (spPr):=⟨f_product,e_product,zfQ F_product T,m_product,F_product.kp,b_product⟩
 have Cpower:Cal l.prog w K mg base 1 "power" ["base", "number"] (zkl):=⟨f_power,e_power,zjm F_power T,m_power,F_power.kp,b_power⟩
 have Cgroups_bound:Cal l.prog w K mg base 3 "groups_bound" ["many", "number"] (spNK bGr):=⟨f_groups_bound,e_groups_bound,zdz F_groups_bound Cshare_of Cproduct1 Cpower,m_groups_bound,F_groups_bound.kp,b_groups_bound⟩
 have Cstays_bound:Cal l.prog w K mg base 2 "stays_bound" ["many", "number"] (spNK bSt):=⟨f_stays_bound,e_stays_bound,zdO F_stays_bound Cproduct1,m_stays_bound,F_stays_bound.kp,b_stays_bound⟩
 have Cless:Cal l.prog w K mg base 3 "less" ["one", "other"] (spSh leZ):=⟨f_less,e_less,zkE F_less Cshare_of,m_less,F_less.kp,b_less⟩
 have Ctimes:Cal l.prog w K mg base 3 "times" ["one", "other"] (spSh tmZ):=⟨f_times,e_times,zjl F_times Cshare_of,m_times,F_times.kp,b_times⟩
 have Cparted:Cal l.prog w K mg base 3 "parted" ["one", "other"] (spPt):=⟨f_parted,e_parted,zis F_parted Cshare_of,m_parted,F_parted.kp,b_parted⟩
 have Cis_less:Cal l.prog w K mg base 1 "is_less" ["one", "other"] (zem):=⟨f_is_less,e_is_less,zhb F_is_less,m_is_less,F_is_less.kp,b_is_less⟩
 have Crises_mean:Cal l.prog w K mg base 3 "rises_mean" ["many"] (spN1 (mnZ "rises")):=⟨f_rises_mean,e_rises_mean,zeC F_rises_mean T Cshare_of,m_rises_mean,F_rises_mean.kp,b_rises_mean⟩
 have Ccrossed_mean:Cal l.prog w K mg base 3 "crossed_mean" ["many"] (spN1 (mnZ "crossed")):=⟨f_crossed_mean,e_crossed_mean,zdx F_crossed_mean T Cshare_of,m_crossed_mean,F_crossed_mean.kp,b_crossed_mean⟩
 have Cmean:Cal l.prog w K mg base 4 "mean" ["kind", "many"] (spKN mnZ):=⟨f_mean,e_mean,zkF F_mean (PySem.W.mg_of X G a_MEANS) GD_MEANS (CalF.of Crises_mean (PySem.W.mg_of X G n_rises_mean) (by decide)) (CalF.of Ccrossed_mean (PySem.W.mg_of X G n_crossed_mean) (by decide)),m_mean,F_mean.kp,b_mean⟩
 have Crises_spread:Cal l.prog w K mg base 3 "rises_spread" ["many"] (spN1 (sdZ "rises")):=⟨f_rises_spread,e_rises_spread,zdv F_rises_spread T Cshare_of,m_rises_spread,F_rises_spread.kp,b_rises_spread⟩
 have Ccrossed_spread:Cal l.prog w K mg base 3 "crossed_spread" ["many"] (spN1 (sdZ "crossed")):=⟨f_crossed_spread,e_crossed_spread,zcL F_crossed_spread T Cshare_of,m_crossed_spread,F_crossed_spread.kp,b_crossed_spread⟩
 have Cspread:Cal l.prog w K mg base 4 "spread" ["kind", "many"] (spKN sdZ):=⟨f_spread,e_spread,ziw F_spread (PySem.W.mg_of X G a_SPREADS) GD_SPREADS (CalF.of Crises_spread (PySem.W.mg_of X G n_rises_spread) (by decide)) (CalF.of Ccrossed_spread (PySem.W.mg_of X G n_crossed_spread) (by decide)),m_spread,F_spread.kp,b_spread⟩
 have Cspread_bound:Cal l.prog w K mg base 5 "spread_bound" ["kind", "many", "number"] (zi3):=⟨f_spread_bound,e_spread_bound,zdA F_spread_bound Cless Ctimes Cparted Cis_less Cmean Cspread,m_spread_bound,F_spread_bound.kp,b_spread_bound⟩
 have Crises_bound:Cal l.prog w K mg base 6 "rises_bound" ["many", "number"] (spNK fun N k=>sbZ "rises" N k):=⟨f_rises_bound,e_rises_bound,zdQ F_rises_bound Cspread_bound,m_rises_bound,F_rises_bound.kp,b_rises_bound⟩
 have Ccrossed_bound:Cal l.prog w K mg base 6 "crossed_bound" ["many", "number"] (spNK fun N k=>sbZ "crossed" N k):=⟨f_crossed_bound,e_crossed_bound,zcZ F_crossed_bound Cspread_bound,m_crossed_bound,F_crossed_bound.kp,b_crossed_bound⟩
 have Csets_of:Cal l.prog w K mg base 1 "sets_of" ["many", "number"] (zfd):=⟨f_sets_of,e_sets_of,zhe F_sets_of T,m_sets_of,F_sets_of.kp,b_sets_of⟩
 have Clongest_bound:Cal l.prog w K mg base 3 "longest_bound" ["many", "number"] (spNK bLg):=⟨f_longest_bound,e_longest_bound,zcX F_longest_bound Cshare_of Cproduct1 Csets_of,m_longest_bound,F_longest_bound.kp,b_longest_bound⟩
 have Clesser:Cal l.prog w K mg base 2 "lesser" ["one", "other"] (zkk minZ):=⟨f_lesser,e_lesser,ziu F_lesser Cis_less,m_lesser,F_lesser.kp,b_lesser⟩
 have Cmost_share:Cal l.prog w K mg base 7 "most_share" ["kind", "many", "number"] (zgu):=⟨f_most_share,e_most_share,zeD F_most_share (PySem.W.mg_of X G a_BOUNDS) GD_BOUNDS (CalF.of Cgroups_bound (PySem.W.mg_of X G n_groups_bound) (by decide)) (CalF.of Cstays_bound (PySem.W.mg_of X G n_stays_bound) (by decide)) (CalF.of Crises_bound (PySem.W.mg_of X G n_rises_bound) (by decide)) (CalF.of Ccrossed_bound (PySem.W.mg_of X G n_crossed_bound) (by decide)) (CalF.of Clongest_bound (PySem.W.mg_of X G n_longest_bound) (by decide)) Clesser,m_most_share,F_most_share.kp,b_most_share⟩
 have Cgroups_paper:Cal l.prog w K mg base 1 "groups_paper" ["many", "number"] (spE (zaX "rounds") (zaX "highs")):=⟨f_groups_paper,e_groups_paper,zdC F_groups_paper,m_groups_paper,F_groups_paper.kp,b_groups_paper⟩
 have CproductX:Cal l.prog w K mg base 1 "product" ["first", "last"] (zku):=⟨f_product,e_product,zf3 F_product T,m_product,F_product.kp,b_product⟩
 have Cstays_paper:Cal l.prog w K mg base 2 "stays_paper" ["many", "number"] (zaX "stays"):=⟨f_stays_paper,e_stays_paper,zdR F_stays_paper Csets_of CproductX,m_stays_paper,F_stays_paper.kp,b_stays_paper⟩
 have Crises_paper:Cal l.prog w K mg base 5 "rises_paper" ["many", "number"] (zaX "rises"):=⟨f_rises_paper,e_rises_paper,zdT F_rises_paper Cmean Cspread,m_rises_paper,F_rises_paper.kp,b_rises_paper⟩
 have Ccrossed_paper:Cal l.prog w K mg base 5 "crossed_paper" ["many", "number"] (zaX "crossed"):=⟨f_crossed_paper,e_crossed_paper,zc2 F_crossed_paper Cmean Cspread,m_crossed_paper,F_crossed_paper.kp,b_crossed_paper⟩
 have Clongest_paper:Cal l.prog w K mg base 2 "longest_paper" ["many", "number"] (zaX "longest"):=⟨f_longest_paper,e_longest_paper,zc0 F_longest_paper Csets_of Cproduct1,m_longest_paper,F_longest_paper.kp,b_longest_paper⟩
 have Cown_paper:Cal l.prog w K mg base 6 "own_paper" ["kind", "many", "number"] (zfi):=⟨f_own_paper,e_own_paper,zfn F_own_paper (PySem.W.mg_of X G a_PAPERS) GD_PAPERS (CalF.of Cgroups_paper (PySem.W.mg_of X G n_groups_paper) (by decide)) (CalF.of Cstays_paper (PySem.W.mg_of X G n_stays_paper) (by decide)) (CalF.of Crises_paper (PySem.W.mg_of X G n_rises_paper) (by decide)) (CalF.of Ccrossed_paper (PySem.W.mg_of X G n_crossed_paper) (by decide)) (CalF.of Clongest_paper (PySem.W.mg_of X G n_longest_paper) (by decide)),m_own_paper,F_own_paper.kp,b_own_paper⟩
 have Cis_whole:Cal l.prog w K mg base 1 "is_whole" ["thing"] (zi7 K):=⟨f_is_whole,e_is_whole,zf0 F_is_whole T,m_is_whole,F_is_whole.kp,b_is_whole⟩
 have Care_wholes:Cal l.prog w K mg base 2 "are_wholes" ["thing"] (zh3):=⟨f_are_wholes,e_are_wholes,zeF F_are_wholes T Cis_whole,m_are_wholes,F_are_wholes.kp,b_are_wholes⟩
 have Care_just:Cal l.prog w K mg base 3 "are_just" ["thing", "numbers"] (zgz):=⟨f_are_just,e_are_just,zf2 F_are_just Care_wholes,m_are_just,F_are_just.kp,b_are_just⟩
 have CtimesX:Cal l.prog w K mg base 3 "times" ["one", "other"] (zkv):=⟨f_times,e_times,ziq F_times Cshare_of,m_times,F_times.kp,b_times⟩
 have Cshows_by_sets:Cal l.prog w K mg base 4 "shows_by_sets" ["paper", "number", "bound", "thing"] (za7 ["stays", "longest"]):=⟨f_shows_by_sets,e_shows_by_sets,zc4 F_shows_by_sets Care_just Cis_less CtimesX,m_shows_by_sets,F_shows_by_sets.kp,b_shows_by_sets⟩
 have Cshows_by_groups:Cal l.prog w K mg base 2 "shows_by_groups" ["paper", "number", "bound", "thing"] (za7 ["rounds", "highs"]):=⟨f_shows_by_groups,e_shows_by_groups,zcz F_shows_by_groups T Cis_whole Cproduct1,m_shows_by_groups,F_shows_by_groups.kp,b_shows_by_groups⟩
 have Cshows_by_spread:Cal l.prog w K mg base 4 "shows_by_spread" ["paper", "number", "bound", "thing"] (za7 ["rises", "crossed"]):=⟨f_shows_by_spread,e_shows_by_spread,zcy F_shows_by_spread Care_just Cis_less Ctimes Cless Cparted,m_shows_by_spread,F_shows_by_spread.kp,b_shows_by_spread⟩
 have Cshows_bound:Cal l.prog w K mg base 7 "shows_bound" ["kind", "many", "number", "bound", "thing"] (zb7):=⟨f_shows_bound,e_shows_bound,zca F_shows_bound T (PySem.W.mg_of X G a_ALL) h_ALL (PySem.W.mg_of X G a_LOOKS) GD_LOOKS (CalF.of Cshows_by_sets (PySem.W.mg_of X G n_shows_by_sets) (by decide)) (CalF.of Cshows_by_groups (PySem.W.mg_of X G n_shows_by_groups) (by decide)) (CalF.of Cshows_by_spread (PySem.W.mg_of X G n_shows_by_spread) (by decide)) Cis_less Cown_paper,m_shows_bound,F_shows_bound.kp,b_shows_bound⟩
 have Cbound_paper:Cal l.prog w K mg base 8 "bound_paper" ["kind", "many", "number"] (zfL K):=⟨f_bound_paper,e_bound_paper,zdU F_bound_paper (PySem.W.mg_of X G a_ALL) h_ALL Cown_paper Cmost_share Cshows_bound,m_bound_paper,F_bound_paper.kp,b_bound_paper⟩
 have C_law_sum:Cal l.prog w K mg base 2 "_law_sum" ["_law_one", "_law_two"] (spSh plZ):=⟨f__law_sum,e__law_sum,zfX F__law_sum C_law_low,m__law_sum,F__law_sum.kp,b__law_sum⟩
 have Cshows_boundE:Cal l.prog w K mg base 7 "shows_bound" ["kind", "many", "number", "bound", "thing"] (spE zb7 (zc9 K)):=⟨f_shows_bound,e_shows_bound,zdE F_shows_bound T (PySem.W.mg_of X G a_ALL) h_ALL (PySem.W.mg_of X G a_LOOKS) GD_LOOKS (CalF.of Cshows_by_sets (PySem.W.mg_of X G n_shows_by_sets) (by decide)) (CalF.of Cshows_by_groups (PySem.W.mg_of X G n_shows_by_groups) (by decide)) (CalF.of Cshows_by_spread (PySem.W.mg_of X G n_shows_by_spread) (by decide)) Cis_less Cown_paper,m_shows_bound,F_shows_bound.kp,b_shows_bound⟩
 have C_law_bounded:Cal l.prog w K mg base 9 "_law_bounded" ["_law_kind", "_law_many", "_law_number", "_law_here"] (zjw):=⟨f__law_bounded,e__law_bounded,zdK F__law_bounded T Cmost_share Cbound_paper C_law_sum Cshows_boundE,m__law_bounded,F__law_bounded.kp,b__law_bounded⟩
 have Cnumber_at:Cal l.prog w K mg base 1 "number_at" ["row", "place"] (zdj K):=⟨f_number_at,e_number_at,zfp F_number_at T,m_number_at,F_number_at.kp,b_number_at⟩
 have Crounds_row:Cal l.prog w K mg base 2 "rounds_row" ["many", "ahead"] (zcV K 60 zbY):=⟨f_rounds_row,e_rounds_row,zeH F_rounds_row T Cnumber_at,m_rounds_row,F_rounds_row.kp,b_rounds_row⟩
 have Cstays_row:Cal l.prog w K mg base 2 "stays_row" ["many", "ahead"] (zcV K 60 zcp):=⟨f_stays_row,e_stays_row,zfs F_stays_row T Cnumber_at,m_stays_row,F_stays_row.kp,b_stays_row⟩
 have Crises_row:Cal l.prog w K mg base 2 "rises_row" ["many", "ahead"] (zcV K 60 zcq):=⟨f_rises_row,e_rises_row,zft F_rises_row T Cnumber_at,m_rises_row,F_rises_row.kp,b_rises_row⟩
 have Ccrossed_row:Cal l.prog w K mg base 2 "crossed_row" ["many", "ahead"] (zcV K 24 zbD):=⟨f_crossed_row,e_crossed_row,zdW F_crossed_row T,m_crossed_row,F_crossed_row.kp,b_crossed_row⟩
 have Cnext_row:Cal l.prog w K mg base 3 "next_row" ["kind", "many", "ahead"] (zhP K):=⟨f_next_row,e_next_row,zf5 F_next_row (PySem.W.mg_of X G a_ROWS) GD_ROWS (CalF.of Crounds_row (PySem.W.mg_of X G n_rounds_row) (by decide)) (CalF.of Cstays_row (PySem.W.mg_of X G n_stays_row) (by decide)) (CalF.of Crises_row (PySem.W.mg_of X G n_rises_row) (by decide)) (CalF.of Ccrossed_row (PySem.W.mg_of X G n_crossed_row) (by decide)),m_next_row,F_next_row.kp,b_next_row⟩
 have Csteps:Cal l.prog w K mg base 4 "steps" ["kind", "many"] (zfH K):=⟨f_steps,e_steps,zjp F_steps T (PySem.W.mg_of X G a_FIRST_ROW) h_FIRST_ROW Cnext_row,m_steps,F_steps.kp,b_steps⟩
 have Cshapes_grown:Cal l.prog w K mg base 1 "shapes_grown" ["shape"] (zfN):=⟨f_shapes_grown,e_shapes_grown,zdF F_shapes_grown T,m_shapes_grown,F_shapes_grown.kp,b_shapes_grown⟩
 have Cfillings_of:Cal l.prog w K mg base 2 "fillings_of" ["many"] (zih):=⟨f_fillings_of,e_fillings_of,zdX F_fillings_of T Cshapes_grown,m_fillings_of,F_fillings_of.kp,b_fillings_of⟩
 have Clongest_told:Cal l.prog w K mg base 3 "longest_told" ["many"] (zik):=⟨f_longest_told,e_longest_told,zdG F_longest_told T Cfillings_of,m_longest_told,F_longest_told.kp,b_longest_told⟩
 have Ctold:Cal l.prog w K mg base 5 "told" ["kind", "many"] (zfP K):=⟨f_told,e_told,zkJ F_told T Csteps Clongest_told,m_told,F_told.kp,b_told⟩
 have Cshare:Cal l.prog w K mg base 6 "share" ["kind", "many", "counts"] (zeu K):=⟨f_share,e_share,zjr F_share T Ctold Cshare_of,m_share,F_share.kp,b_share⟩
 exact zlT F_law T C_law_pot C_law_next C_law_of C_law_all C_law_counted C_law_low C_law_bounded Cshare
theorem walk {l:PySem.W.OpenLaw}{q:Program}{loose:List Str}{XP:(Str->Option Value)->Heap->Prop}{YP:World->Heap->Prop}{d:DefRec}{K:Params->PySem.W.Frag}(hn:l.most=some 63)(hdf:d.params.defaults=[])
  (hY:∀(w:World) (h:Heap),YP w h->(K w.params).In h)
  (F:∀(w:World) (mg:Str->Option Value) (fa:Addr) (h:Heap),(K w.params).In h->h.Ns mainGlobals mg->mg d.name=some (.ref fa)->
   ∃fd:FuncData,(∀(s:Shared) (u:Value),BindsTo s fd ⟨[u],[]⟩ [("_law_script",u)])/\∀base:Heap,(K w.params).In base->base.Ns mainGlobals mg->FnOk l.prog w (K w.params) mg base CX0 10 fa fd ["_law_script"] (zjA (K w.params))):
  PySem.W.WalkO q loose XP YP l.row.toRowW d [] (fun f vs=>PySem.call f vs):=
 L2.zkc (n:=63) (k:=10) (x:= "_law_script") (CX:=fun _=>CX0) (sp:=fun w=>zjA (K w.params)) hn (by decide) hdf ⟨rfl,by decide,by decide,rfl⟩ hY F (fun _ _ a ns hl _ hS=>⟨a,ns,rfl,hS,hl,fun _=>rfl⟩) fun _ _ _ _ _ z=>z
end K63
end
namespace PySem.W.Fast
theorem tw18146031519616786909:True:=trivial
theorem tw10996792101847940165:True:=trivial
theorem tw10389850389375132374:True:=trivial
theorem tw10087389718307311858:True:=trivial
theorem tw13466715177673256486:True:=trivial
theorem tw3376900817078512907:True:=trivial
theorem tw5039439578467351473:True:=trivial
theorem tw8251009363325526603:True:=trivial
theorem tw9936379151711315423:True:=trivial
theorem tw6278928127404250595:True:=trivial
theorem tw15566744070958157428:True:=trivial
theorem tw12796552228897734325:True:=trivial
theorem tw9820049548733548538:True:=trivial
theorem tw235273603032372636:True:=trivial
theorem tw499295441538232189:True:=trivial
theorem tw8835020255805966836:True:=trivial
theorem tw14442454477230696146:True:=trivial
theorem tw8327332389007990311:True:=trivial
theorem tw7546050672513762168:True:=trivial
theorem tw5499867330014006748:True:=trivial
theorem tw12641784069663426112:True:=trivial
theorem tw2595546744030755227:True:=trivial
theorem tw13167231545087564450:True:=trivial
theorem tw13248115132091806851:True:=trivial
theorem tw5910796173611778008:True:=trivial
theorem tw1892506297087791072:True:=trivial
theorem tw8735817720755789635:True:=trivial
theorem tw3413389313874918591:True:=trivial
theorem tw7331818357760301077:True:=trivial
theorem tw805053941569977607:True:=trivial
theorem tw5088706069106611222:True:=trivial
theorem tw16297225530856803392:True:=trivial
theorem tw13224756658333822587:True:=trivial
theorem tw9741927830733720702:True:=trivial
theorem tw1106019177357156534:True:=trivial
theorem tw8265575977410596020:True:=trivial
theorem tw731303501960548371:True:=trivial
theorem tw8561644705858730179:True:=trivial
theorem tw1272833226850716465:True:=trivial
theorem tw10006274197537622400:True:=trivial
theorem tw3521083603929947283:True:=trivial
theorem tw5823353584831214730:True:=trivial
theorem tw2574773750800145104:True:=trivial
theorem tw14709081518649663932:True:=trivial
theorem tw12678148960461538621:True:=trivial
theorem tw6657452163691920239:True:=trivial
theorem tw11732387576090865408:True:=trivial
theorem tw14418284598141907754:True:=trivial
theorem tw17553057028893111729:True:=trivial
theorem tw12487928436375438766:True:=trivial
theorem tw13839126730380930912:True:=trivial
theorem tw1116257871309639244:True:=trivial
theorem tw6824237234379583302:True:=trivial
theorem tw6905253992068781274:True:=trivial
theorem tw664655664744605934:True:=trivial
theorem tw15657297600995129448:True:=trivial
theorem tw6878845270809709582:True:=trivial
theorem tw6068044892256850856:True:=trivial
theorem tw635485428683702496:True:=trivial
theorem tw9976667078141679139:True:=trivial
theorem tw11076045837835218076:True:=trivial
theorem tw7243285830444029270:True:=trivial
theorem tw8592217202781848070:True:=trivial
theorem tw13210722674403976697:True:=trivial
theorem tw1990175638969036803:True:=trivial
theorem tw9829645001576150931:True:=trivial
theorem tw5984970791187632615:True:=trivial
theorem tw9318698746279055416:True:=trivial
theorem tw5301579547412022832:True:=trivial
theorem tw16843021692602755215:True:=trivial
theorem tw2916990416091001806:True:=trivial
theorem tw13408146120151962529:True:=trivial
theorem tw14935249487015327432:True:=trivial
theorem tw11110987341416370106:True:=trivial
theorem tw12449021923387277818:True:=trivial
theorem tw17256360572471119446:True:=trivial
theorem tw7385645461179833067:True:=trivial
theorem tw5185663086102367722:True:=trivial
theorem tw10685311814396244161:True:=trivial
theorem tw15139221041648822253:True:=trivial
theorem tw3145047151273622577:True:=trivial
theorem tw17577844944030229885:True:=trivial
theorem tw668550636454960915:True:=trivial
theorem tw35314196916252143:True:=trivial
theorem tw14756990756813998191:True:=trivial
theorem tw5639310887827122219:True:=trivial
theorem tw11980643006294522134:True:=trivial
theorem tw11332282769266609198:True:=trivial
theorem tw2052172452107145984:True:=trivial
theorem tw17659794192347216285:True:=trivial
theorem tw1042981738288676582:True:=trivial
theorem tw15607528126039925454:True:=trivial
theorem tw5024494605717917491:True:=trivial
theorem tw1648054275865161017:True:=trivial
theorem tw13020006826539527590:True:=trivial
theorem tw18355358531792927086:True:=trivial
theorem tw12253471642952244635:True:=trivial
theorem tw4746749027819085813:True:=trivial
theorem tw2389428431531625800:True:=trivial
theorem tw13451714787322959424:True:=trivial
theorem tw8977580610694238135:True:=trivial
theorem tw7799489929650694418:True:=trivial
theorem tw9120668386776513243:True:=trivial
theorem tw14300369929631213239:True:=trivial
theorem tw14579386629359020421:True:=trivial
theorem tw3898720239112134336:True:=trivial
theorem tw12960430198971983019:True:=trivial
theorem tw122868192978290559:True:=trivial
theorem tw9555413089195296810:True:=trivial
theorem tw7162111225121087294:True:=trivial
theorem tw7674989067412620492:True:=trivial
theorem tw18180600734887264768:True:=trivial
theorem tw15512538342431845691:True:=trivial
theorem tw14323483418897001148:True:=trivial
theorem tw266893528022527384:True:=trivial
theorem tw16552428303190520838:True:=trivial
theorem tw1920690269743163703:True:=trivial
theorem tw508259884928511397:True:=trivial
theorem tw12076785578440189034:True:=trivial
theorem tw7463317280453332675:True:=trivial
theorem tw7400903080845697880:True:=trivial
theorem tw16611133529446945134:True:=trivial
theorem tw1329555973437762082:True:=trivial
theorem tw14907619447230476191:True:=trivial
theorem tw14745572120348422463:True:=trivial
theorem tw11155770917287851571:True:=trivial
theorem tw10142225608216643951:True:=trivial
theorem tw13310716126486825725:True:=trivial
theorem tw5536325591433975913:True:=trivial
theorem tw13992399920738423929:True:=trivial
theorem tw13730644180794982707:True:=trivial
theorem tw17881283061391220268:True:=trivial
theorem tw9077514911923070996:True:=trivial
theorem tw15482988347393916752:True:=trivial
theorem tw12455381832746883450:True:=trivial
theorem tw9435569136278035917:True:=trivial
theorem tw5431011992017158031:True:=trivial
theorem tw9836291863356103376:True:=trivial
theorem tw5231648551826171121:True:=trivial
theorem tw13132731248464099871:True:=trivial
theorem tw3687633252839357099:True:=trivial
theorem tw16084303134095308862:True:=trivial
theorem tw13971314564988359799:True:=trivial
theorem tw3119430155194990528:True:=trivial
theorem tw7671210403662048550:True:=trivial
theorem tw8777041057459753149:True:=trivial
theorem tw6800733690685306514:True:=trivial
theorem tw17995761845820613442:True:=trivial
theorem tw12283080832881370057:True:=trivial
theorem tw15373295388481289899:True:=trivial
theorem tw9759758837358294761:True:=trivial
theorem tw16502288166258515746:True:=trivial
theorem tw5320353302975145681:True:=trivial
theorem tw683298801757064850:True:=trivial
theorem tw109013920446552719:True:=trivial
theorem tw1088042006414509040:True:=trivial
theorem tw16899681773646056766:True:=trivial
theorem tw8170333856557001801:True:=trivial
theorem tw2152160801800447032:True:=trivial
theorem tw15130516581866443587:True:=trivial
theorem tw15152119838677233727:True:=trivial
theorem tw17855963072019248052:True:=trivial
theorem tw13220616117084253774:True:=trivial
theorem tw17466803885994830266:True:=trivial
theorem tw18130870589444892673:True:=trivial
theorem tw16557593331564973807:True:=trivial
theorem tw9492574706893510960:True:=trivial
theorem tw13619218294820524429:True:=trivial
theorem tw7057742492455541724:True:=trivial
theorem tw3996081619153569014:True:=trivial
theorem tw10023590904547041787:True:=trivial
theorem tw2078279565017473218:True:=trivial
theorem tw6562447651499022982:True:=trivial
theorem tw14089177626737476518:True:=trivial
theorem tw3006082427628434295:True:=trivial
theorem tw3723795779798731306:True:=trivial
theorem tw18441298572406045473:True:=trivial
theorem tw2906184527039276163:True:=trivial
theorem tw5959293753450387496:True:=trivial
theorem tw6857705793317742947:True:=trivial
theorem tw6779105935055896620:True:=trivial
theorem tw4831945817256766997:True:=trivial
theorem tw16095499995513903184:True:=trivial
theorem tw9547369103086113483:True:=trivial
theorem tw10683725361743520833:True:=trivial
theorem tw12625324231444359260:True:=trivial
theorem tw1372023830057025379:True:=trivial
theorem tw2256374079156183460:True:=trivial
theorem tw17465903876230939107:True:=trivial
theorem tw18355325782068813742:True:=trivial
theorem tw1626106962935371023:True:=trivial
theorem tw16530661176828226878:True:=trivial
theorem tw4238716774599084366:True:=trivial
theorem tw10512637030697819657:True:=trivial
theorem tw7994318724451355880:True:=trivial
theorem tw12726690141552523646:True:=trivial
theorem tw5718586338559308800:True:=trivial
theorem tw18058562728940804840:True:=trivial
theorem tw17209404359920434335:True:=trivial
theorem tw18290201715472238375:True:=trivial
theorem tw9331842336967244485:True:=trivial
theorem tw17600681438545191217:True:=trivial
theorem tw6588911827196748168:True:=trivial
theorem tw6840476600089497410:True:=trivial
theorem tw1208504911772713946:True:=trivial
theorem tw11578153616214294559:True:=trivial
theorem tw11829100856265635291:True:=trivial
theorem tw14690752631676398544:True:=trivial
theorem tw12656105417948736377:True:=trivial
theorem tw2101047737703208027:True:=trivial
theorem tw7767922342308224857:True:=trivial
theorem tw357300622993960361:True:=trivial
theorem tw11508679002154376281:True:=trivial
theorem tw17563862811076741063:True:=trivial
theorem tw2304344057219399278:True:=trivial
theorem tw11882431340449299292:True:=trivial
theorem tw6063035988452537897:True:=trivial
theorem tw14868992015687920295:True:=trivial
theorem tw1693648879099719969:True:=trivial
theorem tw1132136424642625768:True:=trivial
theorem tw12846105954405322458:True:=trivial
theorem tw9831474506799019514:True:=trivial
theorem tw7706573436581903155:True:=trivial
theorem tw6122022457834020219:True:=trivial
theorem tw4270626851294515008:True:=trivial
theorem tw2787705423767207921:True:=trivial
theorem tw2681319790634673996:True:=trivial
theorem tw5369564278927261260:True:=trivial
theorem tw1873373070041194204:True:=trivial
theorem tw14828190852336799399:True:=trivial
theorem tw13064242487025298527:True:=trivial
theorem tw17291807730308662063:True:=trivial
theorem tw18236161333007663703:True:=trivial
theorem tw11112563593833735638:True:=trivial
theorem tw7679091736241681169:True:=trivial
theorem tw11171758800083834052:True:=trivial
theorem tw7548928682838773370:True:=trivial
theorem tw58619938272713253:True:=trivial
theorem tw6777669675837722447:True:=trivial
theorem tw7557690752590224486:True:=trivial
theorem tw5338426576577919299:True:=trivial
theorem tw12983600380678170150:True:=trivial
theorem tw425082487043769978:True:=trivial
theorem tw14951228789663764316:True:=trivial
theorem tw13859395512601798186:True:=trivial
theorem tw7255930730724871883:True:=trivial
theorem tw6377119602724534303:True:=trivial
theorem tw3591737550204866512:True:=trivial
theorem tw14496131938735946499:True:=trivial
theorem tw15984729696909432085:True:=trivial
theorem tw15741960353775247203:True:=trivial
theorem tw11900725376005367745:True:=trivial
theorem tw8552991901784159863:True:=trivial
theorem tw3491120992547998886:True:=trivial
theorem tw5245185544288827310:True:=trivial
theorem tw7862272027462058572:True:=trivial
theorem tw11630217334277633846:True:=trivial
theorem tw13936530874703101902:True:=trivial
theorem tw18324435103890877081:True:=trivial
theorem tw8103495647422868828:True:=trivial
theorem tw17461742949762126543:True:=trivial
theorem tw14101690108966944055:True:=trivial
theorem tw10490232554322850050:True:=trivial
theorem tw8678806577862613331:True:=trivial
theorem tw1164177389270421731:True:=trivial
theorem tw5507040706248200474:True:=trivial
theorem tw17068119474940929194:True:=trivial
theorem tw12606470788103155926:True:=trivial
theorem tw13883737622951913346:True:=trivial
theorem tw14841712262089217725:True:=trivial
theorem tw13225725341096868071:True:=trivial
theorem tw3766131606189492899:True:=trivial
theorem tw6135369746939008792:True:=trivial
theorem tw2543906702104386859:True:=trivial
theorem tw1233282224124771336:True:=trivial
theorem tw5260307519107485328:True:=trivial
theorem tw8101057868942263748:True:=trivial
theorem tw11074847480571825257:True:=trivial
theorem tw12016276260708290053:True:=trivial
theorem tw14434070246032950182:True:=trivial
theorem tw10690636041758148207:True:=trivial
theorem tw2660817464309012144:True:=trivial
theorem tw11709598339765628752:True:=trivial
theorem tw3319805118269726251:True:=trivial
theorem tw4177342313585918075:True:=trivial
theorem tw16060070681022446161:True:=trivial
theorem tw11430716122233286437:True:=trivial
theorem tw1442400364705517500:True:=trivial
theorem tw9007527243298343602:True:=trivial
theorem tw6959269592584165718:True:=trivial
theorem tw460297338082407457:True:=trivial
theorem tw10664897352158018116:True:=trivial
theorem tw4210176160140132147:True:=trivial
theorem tw4224504607666398286:True:=trivial
theorem tw4771293983347069959:True:=trivial
theorem tw11803062535977512279:True:=trivial
theorem tw5380855703022634838:True:=trivial
theorem tw9596548496081821726:True:=trivial
theorem tw8317325081472455727:True:=trivial
theorem tw1794316537411183356:True:=trivial
theorem tw16304109702825211924:True:=trivial
theorem tw991771909822391212:True:=trivial
theorem tw7596713352965948249:True:=trivial
theorem tw17511384086615946835:True:=trivial
theorem tw15752439235115090556:True:=trivial
theorem tw18190984353075192338:True:=trivial
theorem tw13101846530920966532:True:=trivial
theorem tw18413544278949194363:True:=trivial
theorem tw14919727505382021931:True:=trivial
theorem tw373649230974147277:True:=trivial
theorem tw18288152423318680383:True:=trivial
theorem tw3644241899805974558:True:=trivial
theorem tw16533024414760773055:True:=trivial
theorem tw8395582803398326350:True:=trivial
theorem tw12476562290054962148:True:=trivial
theorem tw18203281318124270591:True:=trivial
theorem tw8060783646927696512:True:=trivial
theorem tw4327288741398056739:True:=trivial
theorem tw4206764440758898326:True:=trivial
theorem tw10292439640065383454:True:=trivial
theorem tw13397691127814934586:True:=trivial
theorem tw10006423341871262657:True:=trivial
theorem tw7049369099517175792:True:=trivial
theorem tw14479732808226532999:True:=trivial
theorem tw12187180094217008433:True:=trivial
theorem tw11688784644371051063:True:=trivial
theorem tw3235411675863497857:True:=trivial
theorem tw17615614657978863652:True:=trivial
theorem tw14761479342818832751:True:=trivial
theorem tw3158635457407894231:True:=trivial
theorem tw6412119564939210682:True:=trivial
theorem tw1293664728139255653:True:=trivial
theorem tw10655562671866768803:True:=trivial
theorem tw11677709901851805001:True:=trivial
theorem tw11697964058211788709:True:=trivial
theorem tw14876354848444833033:True:=trivial
theorem tw10416265935276864976:True:=trivial
theorem tw18320403712038356356:True:=trivial
theorem tw2213435583038470399:True:=trivial
theorem tw9683069654156574989:True:=trivial
theorem tw2885123797285926269:True:=trivial
theorem tw9331168339216807539:True:=trivial
theorem tw6209176652629994761:True:=trivial
theorem tw6781384463626463472:True:=trivial
theorem tw2511555038251351421:True:=trivial
theorem tw14750664427456282962:True:=trivial
theorem tw1318481526675730725:True:=trivial
theorem tw7766635470843730120:True:=trivial
theorem tw12287996718459974284:True:=trivial
theorem tw5466567459286881449:True:=trivial
theorem tw15499190924758232579:True:=trivial
theorem tw921126427642844951:True:=trivial
theorem tw8631555140017054592:True:=trivial
theorem tw7196907706162678046:True:=trivial
theorem tw1504182861270782249:True:=trivial
theorem tw17648038778970932732:True:=trivial
theorem tw14166698280095100728:True:=trivial
theorem tw10580112854869353020:True:=trivial
theorem tw7329180572090269754:True:=trivial
theorem tw2206575664220348754:True:=trivial
theorem tw3862519055680299949:True:=trivial
theorem tw13837515914734700741:True:=trivial
theorem tw14582372811149076109:True:=trivial
theorem tw9851505673345599021:True:=trivial
theorem tw8928879747384013889:True:=trivial
theorem tw5644469576283068015:True:=trivial
theorem tw4774054945084263431:True:=trivial
theorem tw6766767309519770750:True:=trivial
theorem tw13137215898149480167:True:=trivial
theorem tw13779296581038883829:True:=trivial
theorem tw5704479196930089537:True:=trivial
theorem tw18262849958958175004:True:=trivial
theorem tw11797789445397967562:True:=trivial
theorem tw13739571293580212174:True:=trivial
theorem tw17904180000381023477:True:=trivial
theorem tw1719171815805137812:True:=trivial
theorem tw10362857886531713527:True:=trivial
theorem tw12439044761256840711:True:=trivial
theorem tw16456156356468170852:True:=trivial
theorem tw796964048796958238:True:=trivial
theorem tw17877898509539332581:True:=trivial
theorem tw13217824730404700770:True:=trivial
theorem tw12869208399267709070:True:=trivial
theorem tw14897121554902002911:True:=trivial
theorem tw6908599218715122543:True:=trivial
theorem tw4314743280298182679:True:=trivial
theorem tw5327269096298217912:True:=trivial
theorem tw3689656837620853132:True:=trivial
theorem tw17456223702532227382:True:=trivial
theorem tw435261129862752579:True:=trivial
theorem tw9835267768590829914:True:=trivial
theorem tw15423151987158817444:True:=trivial
theorem tw14651682106033174761:True:=trivial
theorem tw11626652438671622316:True:=trivial
theorem tw2497319831310008029:True:=trivial
theorem tw8742188709000754550:True:=trivial
theorem tw6659361563770170061:True:=trivial
theorem tw15230578726629625700:True:=trivial
theorem tw6486736046062212856:True:=trivial
theorem tw8733533293358910615:True:=trivial
theorem tw18202084858546819941:True:=trivial
theorem tw1353706647577144211:True:=trivial
theorem tw13700043222955504979:True:=trivial
theorem tw14846527503669017515:True:=trivial
theorem tw16134046268862815577:True:=trivial
theorem tw6966836557568878069:True:=trivial
theorem tw11078600682198812202:True:=trivial
theorem tw10795122276506003754:True:=trivial
theorem tw8961094819909841843:True:=trivial
theorem tw4938556766260959548:True:=trivial
theorem tw4245420002225973020:True:=trivial
theorem tw2601100613003084263:True:=trivial
theorem tw6151884683697789653:True:=trivial
theorem tw7774210834509610339:True:=trivial
theorem tw8789321718156832961:True:=trivial
theorem tw7246507608182080485:True:=trivial
theorem tw11732718151515735273:True:=trivial
theorem tw6933779842840147666:True:=trivial
theorem tw10466403929616153129:True:=trivial
theorem tw6920883911841738705:True:=trivial
theorem tw13703621503809535039:True:=trivial
theorem tw12358596751594040408:True:=trivial
theorem tw17351035274591731247:True:=trivial
theorem tw11101996246226459992:True:=trivial
theorem tw11715221804566652005:True:=trivial
theorem tw12918947439061230426:True:=trivial
theorem tw2890480721767798843:True:=trivial
theorem tw4941921280863368294:True:=trivial
theorem tw15111135696186135263:True:=trivial
theorem tw14669405911057155147:True:=trivial
theorem tw3265164067158553617:True:=trivial
theorem tw10830671716828924231:True:=trivial
theorem tw8466855930263287693:True:=trivial
theorem tw11616655586829863637:True:=trivial
theorem tw13098399361945431431:True:=trivial
theorem tw603164753930243214:True:=trivial
theorem tw13920165301866134341:True:=trivial
theorem tw362944008391741968:True:=trivial
theorem tw5998805320182404578:True:=trivial
theorem tw2852593122905579662:True:=trivial
theorem tw17635361471133101959:True:=trivial
theorem tw11061537266728841019:True:=trivial
theorem tw10591115702648639805:True:=trivial
theorem tw3772746607577593025:True:=trivial
theorem tw17767527857086260166:True:=trivial
theorem tw7116732033653084532:True:=trivial
theorem tw3627598337830788543:True:=trivial
theorem tw14415056019419970275:True:=trivial
theorem tw14870624955983966469:True:=trivial
theorem tw17180742155239641530:True:=trivial
theorem tw11901255828510625246:True:=trivial
theorem tw15958944406553784966:True:=trivial
theorem tw560368640714044840:True:=trivial
theorem tw10594384814166592502:True:=trivial
theorem tw8489327896343297929:True:=trivial
theorem tw1259269536297331442:True:=trivial
theorem tw15574810431956152550:True:=trivial
theorem tw2528676336614298932:True:=trivial
theorem tw2658245717848376609:True:=trivial
theorem tw13771249616211864905:True:=trivial
theorem tw5405320693431560749:True:=trivial
theorem tw14704681277842759473:True:=trivial
theorem tw1655407208075076199:True:=trivial
theorem tw16995520849753131560:True:=trivial
theorem tw12495195270639422513:True:=trivial
theorem tw7389406189631823789:True:=trivial
theorem tw9719900665903615584:True:=trivial
theorem tw15711471857920375281:True:=trivial
theorem tw4684318661870196189:True:=trivial
theorem tw10511502406859547989:True:=trivial
theorem tw13714389284994568306:True:=trivial
theorem tw7954109259371920561:True:=trivial
theorem tw10054841090858399261:True:=trivial
theorem tw2875497843383913092:True:=trivial
theorem tw4289080205518736341:True:=trivial
theorem tw12078585347515183393:True:=trivial
end PySem.W.Fast
open PySem PySem.W PyProof.Rows
set_option maxRecDepth 100000 in
set_option maxHeartbeats 0 in
theorem PySem.Challenge.cw_shuffletold_k63_whole_no_share_above_its_holds : PySem.Challenge.rw_shuffletold_k63_whole_no_share_above_its.Holds := by
 w_on;o_law;k_head;(case hw=>w_witness2)
 k_fill
 refine K63.walk (l:=PySem.Challenge.rw_shuffletold_k63_whole_no_share_above_its) rfl rfl (fun w h Y=>PySem.W.kIn_of Y) ?F
 case F=>
  intro w mg fa h KX G hmg
  refine' K63.all_mk KX G hmg ⟨?_, ?_, ?_, ?_, ?_, ?_, ?_, ?_, ?_, ?_, ?_, ?_, ?_, ?_, ?_⟩ ?dA0 (L2.GDict.of ?dL0 ?dE0 ?dN0) ?dA1 (L2.GDict.of ?dL1 ?dE1 ?dN1) ?dA2 (L2.GDict.of ?dL2 ?dE2 ?dN2) ?dA3 (L2.GDict.of ?dL3 ?dE3 ?dN3) ?dA4 (L2.GDict.of ?dL4 ?dE4 ?dN4) ?dA5 (L2.GDict.of ?dL5 ?dE5 ?dN5) ?tA0 (L2.sqT_ofK ?tL0 ?tZ0 ?tR0) ?tA1 (L2.sqT_ofK ?tL1 ?tZ1 ?tR1) ?nF0 ?nF1 ?nF2 ?nF3 ?nF4 ?nF5 ?nF6 ?nF7 ?nF8 ?nF9 ?nF10 ?nF11 ?nF12 ?nF13 ?nF14 ?nF15 ?nF16 ?nF17 ?nF18 ?nF19 ?nF20 ?nF21 ?nF22 ?nF23 ?nF24 (L2.Def.of ?a0 ?l0 ?c0 ?k0) (L2.Def.of ?a1 ?l1 ?c1 ?k1) (L2.Def.of ?a2 ?l2 ?c2 ?k2) (L2.Def.of ?a3 ?l3 ?c3 ?k3) (L2.Def.of ?a4 ?l4 ?c4 ?k4) (L2.Def.of ?a5 ?l5 ?c5 ?k5) (L2.Def.of ?a6 ?l6 ?c6 ?k6) (L2.Def.of ?a7 ?l7 ?c7 ?k7) (L2.Def.of ?a8 ?l8 ?c8 ?k8) (L2.Def.of ?a9 ?l9 ?c9 ?k9) (L2.Def.of ?a10 ?l10 ?c10 ?k10) (L2.Def.of ?a11 ?l11 ?c11 ?k11) (L2.Def.of ?a12 ?l12 ?c12 ?k12) (L2.Def.of ?a13 ?l13 ?c13 ?k13) (L2.Def.of ?a14 ?l14 ?c14 ?k14) (L2.Def.of ?a15 ?l15 ?c15 ?k15) (L2.Def.of ?a16 ?l16 ?c16 ?k16) (L2.Def.of ?a17 ?l17 ?c17 ?k17) (L2.Def.of ?a18 ?l18 ?c18 ?k18) (L2.Def.of ?a19 ?l19 ?c19 ?k19) (L2.Def.of ?a20 ?l20 ?c20 ?k20) (L2.Def.of ?a21 ?l21 ?c21 ?k21) (L2.Def.of ?a22 ?l22 ?c22 ?k22) (L2.Def.of ?a23 ?l23 ?c23 ?k23) (L2.Def.of ?a24 ?l24 ?c24 ?k24) (L2.Def.of ?a25 ?l25 ?c25 ?k25) (L2.Def.of ?a26 ?l26 ?c26 ?k26) (L2.Def.of ?a27 ?l27 ?c27 ?k27) (L2.Def.of ?a28 ?l28 ?c28 ?k28) (L2.Def.of ?a29 ?l29 ?c29 ?k29) (L2.Def.of ?a30 ?l30 ?c30 ?k30) (L2.Def.of ?a31 ?l31 ?c31 ?k31) (L2.Def.of ?a32 ?l32 ?c32 ?k32) (L2.Def.of ?a33 ?l33 ?c33 ?k33) (L2.Def.of ?a34 ?l34 ?c34 ?k34) (L2.Def.of ?a35 ?l35 ?c35 ?k35) (L2.Def.of ?a36 ?l36 ?c36 ?k36) (L2.Def.of ?a37 ?l37 ?c37 ?k37) (L2.Def.of ?a38 ?l38 ?c38 ?k38) (L2.Def.of ?a39 ?l39 ?c39 ?k39) (L2.Def.of ?a40 ?l40 ?c40 ?k40) (L2.Def.of ?a41 ?l41 ?c41 ?k41) (L2.Def.of ?a42 ?l42 ?c42 ?k42) (L2.Def.of ?a43 ?l43 ?c43 ?k43) (L2.Def.of ?a44 ?l44 ?c44 ?k44) (L2.Def.of ?a45 ?l45 ?c45 ?k45) (L2.Def.of ?a46 ?l46 ?c46 ?k46) (L2.Def.of ?a47 ?l47 ?c47 ?k47) (L2.Def.of ?a48 ?l48 ?c48 ?k48) (L2.Def.of ?a49 ?l49 ?c49 ?k49) (L2.Def.of ?a50 ?l50 ?c50 ?k50) (L2.Def.of ?a51 ?l51 ?c51 ?k51) (L2.Def.of ?a52 ?l52 ?c52 ?k52) (L2.Def.of ?a53 ?l53 ?c53 ?k53) (L2.Def.of ?a54 ?l54 ?c54 ?k54) (L2.Def.of ?a55 ?l55 ?c55 ?k55) (L2.Def.of ?a56 ?l56 ?c56 ?k56) (L2.Def.of ?a57 ?l57 ?c57 ?k57) (L2.Def.of ?a58 ?l58 ?c58 ?k58) (L2.Def.of ?a59 ?l59 ?c59 ?k59) (L2.Def.of ?a60 ?l60 ?c60 ?k60) (L2.Def.of ?a61 ?l61 ?c61 ?k61)
  (case dA0=>k_is);(case dL0=>k_is);(case dE0=>exact (.cons (.cons (.cons (.cons (.cons (.cons .nil)))))));(case dN0=>decide+kernel)
  (case dA1=>k_is);(case dL1=>k_is);(case dE1=>exact (.cons (.cons (.cons (.cons (.cons .nil))))));(case dN1=>decide+kernel)
  (case dA2=>k_is);(case dL2=>k_is);(case dE2=>exact (.cons (.cons (.cons (.cons (.cons .nil))))));(case dN2=>decide+kernel)
  (case dA3=>k_is);(case dL3=>k_is);(case dE3=>exact (.cons (.cons (.cons (.cons (.cons (.cons .nil)))))));(case dN3=>decide+kernel)
  (case dA4=>k_is);(case dL4=>k_is);(case dE4=>exact (.cons (.cons (.cons .nil))));(case dN4=>decide+kernel)
  (case dA5=>k_is);(case dL5=>k_is);(case dE5=>exact (.cons (.cons (.cons (.cons (.cons .nil))))));(case dN5=>decide+kernel)
  (case tA0=>k_is);(case tL0=>k_is);(case tZ0=>exact (by decide));(case tR0=>exact (.cons ⟨_,rfl⟩ .nil))
  (case tA1=>k_is);(case tL1=>k_is);(case tZ1=>exact (by decide));(case tR1=>exact (.cons ⟨_,rfl⟩ .nil))
  (case nF0=>k_is)
  (case nF1=>k_is)
  (case nF2=>k_is)
  (case nF3=>k_is)
  (case nF4=>k_is)
  (case nF5=>k_is)
  (case nF6=>k_is)
  (case nF7=>k_is)
  (case nF8=>k_is)
  (case nF9=>k_is)
  (case nF10=>k_is)
  (case nF11=>k_is)
  (case nF12=>k_is)
  (case nF13=>k_is)
  (case nF14=>k_is)
  (case nF15=>k_is)
  (case nF16=>k_is)
  (case nF17=>k_is)
  (case nF18=>k_is)
  (case nF19=>k_is)
  (case nF20=>k_is)
  (case nF21=>k_is)
  (case nF22=>k_is)
  (case nF23=>k_is)
  (case nF24=>k_is)
  (case a0=>k_is);(case l0=>k_is);(case c0=>k_is);(case k0=>k_is)
  (case a1=>k_is);(case l1=>k_is);(case c1=>k_is);(case k1=>k_is)
  (case a2=>k_is);(case l2=>k_is);(case c2=>k_is);(case k2=>k_is)
  (case a3=>k_is);(case l3=>k_is);(case c3=>k_is);(case k3=>k_is)
  (case a4=>k_is);(case l4=>k_is);(case c4=>k_is);(case k4=>k_is)
  (case a5=>k_is);(case l5=>k_is);(case c5=>k_is);(case k5=>k_is)
  (case a6=>k_is);(case l6=>k_is);(case c6=>k_is);(case k6=>k_is)
  (case a7=>k_is);(case l7=>k_is);(case c7=>k_is);(case k7=>k_is)
  (case a8=>k_is);(case l8=>k_is);(case c8=>k_is);(case k8=>k_is)
  (case a9=>k_is);(case l9=>k_is);(case c9=>k_is);(case k9=>k_is)
  (case a10=>k_is);(case l10=>k_is);(case c10=>k_is);(case k10=>k_is)
  (case a11=>k_is);(case l11=>k_is);(case c11=>k_is);(case k11=>k_is)
  (case a12=>k_is);(case l12=>k_is);(case c12=>k_is);(case k12=>k_is)
  (case a13=>k_is);(case l13=>k_is);(case c13=>k_is);(case k13=>k_is)
  (case a14=>k_is);(case l14=>k_is);(case c14=>k_is);(case k14=>k_is)
  (case a15=>k_is);(case l15=>k_is);(case c15=>k_is);(case k15=>k_is)
  (case a16=>k_is);(case l16=>k_is);(case c16=>k_is);(case k16=>k_is)
  (case a17=>k_is);(case l17=>k_is);(case c17=>k_is);(case k17=>k_is)
  (case a18=>k_is);(case l18=>k_is);(case c18=>k_is);(case k18=>k_is)
  (case a19=>k_is);(case l19=>k_is);(case c19=>k_is);(case k19=>k_is)
  (case a20=>k_is);(case l20=>k_is);(case c20=>k_is);(case k20=>k_is)
  (case a21=>k_is);(case l21=>k_is);(case c21=>k_is);(case k21=>k_is)
  (case a22=>k_is);(case l22=>k_is);(case c22=>k_is);(case k22=>k_is)
  (case a23=>k_is);(case l23=>k_is);(case c23=>k_is);(case k23=>k_is)
  (case a24=>k_is);(case l24=>k_is);(case c24=>k_is);(case k24=>k_is)
  (case a25=>k_is);(case l25=>k_is);(case c25=>k_is);(case k25=>k_is)
  (case a26=>k_is);(case l26=>k_is);(case c26=>k_is);(case k26=>k_is)
  (case a27=>k_is);(case l27=>k_is);(case c27=>k_is);(case k27=>k_is)
  (case a28=>k_is);(case l28=>k_is);(case c28=>k_is);(case k28=>k_is)
  (case a29=>k_is);(case l29=>k_is);(case c29=>k_is);(case k29=>k_is)
  (case a30=>k_is);(case l30=>k_is);(case c30=>k_is);(case k30=>k_is)
  (case a31=>k_is);(case l31=>k_is);(case c31=>k_is);(case k31=>k_is)
  (case a32=>k_is);(case l32=>k_is);(case c32=>k_is);(case k32=>k_is)
  (case a33=>k_is);(case l33=>k_is);(case c33=>k_is);(case k33=>k_is)
  (case a34=>k_is);(case l34=>k_is);(case c34=>k_is);(case k34=>k_is)
  (case a35=>k_is);(case l35=>k_is);(case c35=>k_is);(case k35=>k_is)
  (case a36=>k_is);(case l36=>k_is);(case c36=>k_is);(case k36=>k_is)
  (case a37=>k_is);(case l37=>k_is);(case c37=>k_is);(case k37=>k_is)
  (case a38=>k_is);(case l38=>k_is);(case c38=>k_is);(case k38=>k_is)
  (case a39=>k_is);(case l39=>k_is);(case c39=>k_is);(case k39=>k_is)
  (case a40=>k_is);(case l40=>k_is);(case c40=>k_is);(case k40=>k_is)
  (case a41=>k_is);(case l41=>k_is);(case c41=>k_is);(case k41=>k_is)
  (case a42=>k_is);(case l42=>k_is);(case c42=>k_is);(case k42=>k_is)
  (case a43=>k_is);(case l43=>k_is);(case c43=>k_is);(case k43=>k_is)
  (case a44=>k_is);(case l44=>k_is);(case c44=>k_is);(case k44=>k_is)
  (case a45=>k_is);(case l45=>k_is);(case c45=>k_is);(case k45=>k_is)
  (case a46=>k_is);(case l46=>k_is);(case c46=>k_is);(case k46=>k_is)
  (case a47=>k_is);(case l47=>k_is);(case c47=>k_is);(case k47=>k_is)
  (case a48=>k_is);(case l48=>k_is);(case c48=>k_is);(case k48=>k_is)
  (case a49=>k_is);(case l49=>k_is);(case c49=>k_is);(case k49=>k_is)
  (case a50=>k_is);(case l50=>k_is);(case c50=>k_is);(case k50=>k_is)
  (case a51=>k_is);(case l51=>k_is);(case c51=>k_is);(case k51=>k_is)
  (case a52=>k_is);(case l52=>k_is);(case c52=>k_is);(case k52=>k_is)
  (case a53=>k_is);(case l53=>k_is);(case c53=>k_is);(case k53=>k_is)
  (case a54=>k_is);(case l54=>k_is);(case c54=>k_is);(case k54=>k_is)
  (case a55=>k_is);(case l55=>k_is);(case c55=>k_is);(case k55=>k_is)
  (case a56=>k_is);(case l56=>k_is);(case c56=>k_is);(case k56=>k_is)
  (case a57=>k_is);(case l57=>k_is);(case c57=>k_is);(case k57=>k_is)
  (case a58=>k_is);(case l58=>k_is);(case c58=>k_is);(case k58=>k_is)
  (case a59=>k_is);(case l59=>k_is);(case c59=>k_is);(case k59=>k_is)
  (case a60=>k_is);(case l60=>k_is);(case c60=>k_is);(case k60=>k_is)
  (case a61=>k_is);(case l61=>k_is);(case c61=>k_is);(case k61=>k_is)
  all_goals k_is
