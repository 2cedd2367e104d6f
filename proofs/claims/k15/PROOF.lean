import PyProof.Rows.All
import Wide.All
import OpenK.AllK
import Wide.FinOn
import Lean
import PyProof.EqAt
import PyProof.EqKinds
import PyProof.TupleCall
import PySem.Challenge.RW_shuffletold_k15_steps_looked_at
set_option Elab.async false
set_option linter.all false
set_option maxRecDepth 100000
set_option genSizeOfSpec false
namespace L2
open PySem PySem.Spec PyProof.Rows
noncomputable abbrev Key := Sum Int Str
noncomputable def keyIs : Key -> Value -> Bool
 | .inl k, v => Value.isInt k v
 | .inr x, v => Value.isStrOf x v
noncomputable def keyH (w : World) : Key -> Int
 | .inl k => hashInt k
 | .inr x => hashStr w x
theorem keyIs_shape : ∀ {k : Key} {v : Value}, keyIs k v = true -> (∃ i t, k = Sum.inl i /\ v = Value.int i t) ∨ (∃ x t, k = Sum.inr x /\ v = Value.str x t)
 | .inl i, v, h => by
  obtain ⟨t, e⟩ := Value.isInt_shape (k := i) (v := v) h
  exact .inl ⟨i, t, rfl, e⟩
 | .inr x, v, h => by
  obtain ⟨t, e⟩ := Value.isStrOf_shape (x := x) (v := v) h
  exact .inr ⟨x, t, rfl, e⟩
theorem key_ll (a b : Int) : decide ((Sum.inl a : Key) = Sum.inl b) = (a == b) := by
 by_cases e : a = b
 ·subst e; simp
 ·have h : ¬ (Sum.inl a : Key) = Sum.inl b := fun q => e (Sum.inl.inj q)
  rw [decide_eq_false h]
  exact (beq_eq_false_iff_ne.mpr e).symm
theorem key_rr (a b : Str) : decide ((Sum.inr a : Key) = Sum.inr b) = decide (a = b) := by
 by_cases e : a = b
 ·subst e; simp
 ·have h : ¬ (Sum.inr a : Key) = Sum.inr b := fun q => e (Sum.inr.inj q)
  rw [decide_eq_false h, decide_eq_false e]
theorem key_lr (a : Int) (b : Str) : decide ((Sum.inl a : Key) = Sum.inr b) = false := decide_eq_false (fun q => nomatch q)
theorem key_rl (a : Str) (b : Int) : decide ((Sum.inr a : Key) = Sum.inl b) = false := decide_eq_false (fun q => nomatch q)
noncomputable def mixKind (prog : Program) (w : World) : PySem.KeyKind prog w Key where
 is := keyIs
 hash := keyH w
 inj := fun v a b ha hb => by
  rcases keyIs_shape ha with ⟨i, t, rfl, rfl⟩ | ⟨x, t, rfl, rfl⟩
  ·rcases keyIs_shape hb with ⟨j, u, rfl, e⟩ | ⟨y, u, rfl, e⟩
   ·injection e with e1 _; rw [e1]
   ·exact nomatch e
  ·rcases keyIs_shape hb with ⟨j, u, rfl, e⟩ | ⟨y, u, rfl, e⟩
   ·exact nomatch e
   ·injection e with e1 _; rw [e1]
 byValue := fun k v h => by
  rcases keyIs_shape h with ⟨i, t, rfl, rfl⟩ | ⟨x, t, rfl, rfl⟩ <;> rfl
 pyHash := fun hv h => by
  rcases keyIs_shape hv with ⟨i, t, rfl, rfl⟩ | ⟨x, t, rfl, rfl⟩
  ·exact wpAny_pyHash_int h
  ·exact wpAny_pyHash_str h
 eqBool := fun hu hv h => by
  rcases keyIs_shape hu with ⟨i, t, rfl, rfl⟩ | ⟨x, t, rfl, rfl⟩
  ·rcases keyIs_shape hv with ⟨j, u, rfl, rfl⟩ | ⟨y, u, rfl, rfl⟩
   ·rw [key_ll] at h; exact wpAny_eqBool_int h
   ·rw [key_lr] at h; exact SeqAt.EqAt.int_str i t y u _ _ _ _ h
  ·rcases keyIs_shape hv with ⟨j, u, rfl, rfl⟩ | ⟨y, u, rfl, rfl⟩
   ·rw [key_rl] at h; exact SeqAt.EqAt.str_int x t j u _ _ _ _ h
   ·rw [key_rr] at h; exact wpAny_eqBool_str h
 «strs» := fun k x t v h => by
  rcases keyIs_shape h with ⟨i, u, rfl, e⟩ | ⟨y, u, rfl, e⟩
  ·exact nomatch e
  ·injection e with e1 _
   subst e1
   cases v <;> rfl
end L2
namespace L2
open PySem PySem.Spec PyProof.Rows
inductive V where
 | non | bl (b : Bool) | int (i : Int) | str (x : Str) | byt (b : Array UInt8) | flt (b : UInt64) | ref (a : Addr) | ty (n : String)
 deriving DecidableEq
noncomputable def RelV : V -> Value -> Prop
 | .non, u => u = Value.none
 | .bl b, u => u = Value.bool b
 | .int i, u => ∃ t, u = Value.int i t
 | .str x, u => ∃ t, u = Value.str x t
 | .byt b, u => ∃ t, u = Value.bytes b t
 | .flt b, u => ∃ t, u = Value.float b t
 | .ref a, u => u = Value.ref a
 | .ty n, u => u = Value.type n
noncomputable abbrev Vals : List V -> List Value -> Prop := Paired RelV
theorem Vals.length {xs : List V} {us : List Value} (r : Vals xs us) : xs.length = us.length := Paired.length r
theorem Vals.get : ∀ {xs : List V} {us : List Value} {i : Nat} {x : V}, Vals xs us -> xs[i]? = some x -> ∃ u, us[i]? = some u /\ RelV x u
 | _, _, _, _, .nil, e => by simp at e
 | _, _, 0, _, .cons r _, e => by simp at e; subst e; exact ⟨_, rfl, r⟩
 | _, _, i + 1, x, .cons _ t, e => by
  obtain ⟨u, h1, h2⟩ := Vals.get (i := i) (x := x) t (by simpa using e)
  exact ⟨u, by simpa using h1, h2⟩
theorem Vals.set {x : V} {u : Value} (r : RelV x u) : ∀ {xs : List V} {us : List Value} (i : Nat), Vals xs us -> Vals (xs.set i x) (us.set i u)
 | _, _, _, .nil => .nil
 | _, _, 0, .cons _ t => .cons r t
 | _, _, i + 1, .cons q t => .cons q (Vals.set r i t)
theorem Vals.append : ∀ {xs ys : List V} {us ws : List Value}, Vals xs us -> Vals ys ws -> Vals (xs ++ ys) (us ++ ws)
 | _, _, _, _, .nil, s => s
 | _, _, _, _, .cons r t, s => .cons r (Vals.append t s)
theorem Vals.take : ∀ {xs : List V} {us : List Value} (n : Nat), Vals xs us -> Vals (xs.take n) (us.take n)
 | _, _, 0, _ => .nil
 | _, _, _ + 1, .nil => .nil
 | _, _, n + 1, .cons r t => .cons r (Vals.take n t)
theorem Vals.drop : ∀ {xs : List V} {us : List Value} (n : Nat), Vals xs us -> Vals (xs.drop n) (us.drop n)
 | _, _, 0, r => r
 | _, _, _ + 1, .nil => .nil
 | _, _, n + 1, .cons _ t => Vals.drop n t
noncomputable def RelO : Option V -> Option Value -> Prop
 | some v, some u => RelV v u
 | none, none => True
 | _, _ => False
noncomputable def KV {κ : Type} : List (κ × V) -> List (κ × Value) -> Prop := Paired fun (p : κ × V) (q : κ × Value) => p.1 = q.1 /\ RelV p.2 q.2
noncomputable def kV : Key -> V
 | .inl i => .int i
 | .inr x => .str x
inductive HO where
  | lst (xs : List V)
  | tup (xs : List V)
  | dK (kvs : List (Key × V)) | dT (kvs : List (List Key × V))
  | set (S : Int -> Bool) (n : Nat)
  | ins (C dx : Addr) (fs : List (Str × V))
  | own (x : Addr)
  | xd (fs : List (Str × V))
  | met (f x : Addr)
  | rng (lo hi : Int)
  | frz (o : Obj) (u : HO)
  | tbl (ps : Array Value)
  | ext (φ : Heap -> Prop)
noncomputable abbrev Hp := Addr -> Option HO
noncomputable def upd (H : Hp) (a : Addr) (o : HO) : Hp := fun b => if b = a then some o else H b
theorem upd_same {H : Hp} {a : Addr} {o : HO} : upd H a o a = some o := by unfold upd; rw [if_pos rfl]
theorem upd_ne {H : Hp} {a b : Addr} {o : HO} (h : b ≠ a) : upd H a o b = H b := by unfold upd; rw [if_neg h]
theorem upd_upd {H : Hp} {a : Addr} {o u : HO} : upd (upd H a o) a u = upd H a u := by
 funext b; unfold upd; split <;> rfl
theorem ne_of {H : Hp} {a b : Addr} {o u : HO} (h : H a = some o) (h' : H b = some u) (d : o ≠ u) : a ≠ b := by
 intro e; subst e; rw [h] at h'; exact d (Option.some.inj h')
theorem ne_of_none {H : Hp} {a b : Addr} {o : HO} (h : H a = some o) (h' : H b = none) : a ≠ b := by
 intro e; subst e; rw [h] at h'; cases h'
noncomputable def PTup (h : Heap) (a : Addr) (items : Array Value) : Prop := ∃ o, h.get? a = some o /\ o.cls = .type "tuple" /\ (∃ n, o.data = .seq items n) /\ o.dict = none /\ o.slots = #[]
theorem PTup.tup {h : Heap} {a : Addr} {items : Array Value} (p : PTup h a items) : IsTup h a items := by
 obtain ⟨o, e, c, d, _⟩ := p
 exact ⟨o, e, c, d⟩
theorem PTup.new {h : Heap} {items : Array Value} {n : Nat} : PTup (h.push { cls := .type "tuple", data := .seq items n }) h.objs.size items := ⟨_, Heap.get?_push_size _ rfl, rfl, ⟨_, rfl⟩, rfl, rfl⟩
section
variable (P : Program) (w : World)
noncomputable def ObjOk (H : Hp) (h : Heap) (a : Addr) : HO -> Prop
 | .lst xs => xs.length <= sizeLine /\ ∃ (its : List Value) (n : Nat), Vals xs its /\ h.get? a = some { cls := .type "list", data := .seq its.toArray n }
 | .tup xs => xs.length <= sizeLine /\ ∃ its : List Value, Vals xs its /\ PTup h a its.toArray
 | .dK kvs => kvs.length <= sizeLine /\ (a == sysModules) = false /\ ∃ vs, KV kvs vs /\ h.DictOf (mixKind P w) a vs
 | .dT kvs => kvs.length <= sizeLine /\ (a == sysModules) = false /\ ∃ xs : List (List Key × Addr × Value),
   Paired (fun (p : List Key × V) (q : List Key × Addr × Value) => p.1 = q.1 /\ H q.2.1 = some (.tup (p.1.map kV)) /\ RelV p.2 q.2.2) kvs xs /\
   ∃ o es ep, h.get? a = some o /\ o.ExactDict /\ o.data = .dict es ep /\ es.toList = xs.map (entryOfKey (tupleKind (mixKind P w))) /\ (xs.map (·.1)).Nodup
 | .set S n => h.SetOf (intKind P w) a S n
 | .ins C dx fs => H dx = some (.own a) /\ fs.length <= 1000 /\ dx ≠ a /\ h.get? a = some (PySem.W.instObj C dx) /\
   ∃ mA, h.Ns1 dx mA /\ (∀ f, RelO (fs.lookup f) (mA f)) /\ PySem.Within mA (fs.map (·.1))
 | .own _ => ∃ o, h.get? a = some o
 | .xd fs => ∃ mA, h.Ns1 a mA /\ ∀ f, RelO (fs.lookup f) (mA f)
 | .rng lo hi => ∃ t u v, h.get? a = some { cls := .type "range", data := .fields #[.int lo t, .int hi u, .int 1 v] }
 | .frz o u => h.get? a = some o /\ ObjOk H h a u
 | .tbl ps => h.get? a = some { cls := .none, data := .fields ps }
 | .met f x => h.get? a = some (PySem.W.methodObj (.ref f) (.ref x))
 | .ext φ => φ h /\ (∃ o, h.get? a = some o) /\ ∀ h1 h2 : Heap, φ h1 -> (∀ o, h1.get? a = some o -> h2.get? a = some o) -> φ h2
noncomputable def HOk (H : Hp) (h : Heap) : Prop := ∀ a o, H a = some o -> ObjOk P w H h a o
end
section
variable {P : Program} {w : World} {H H' : Hp} {h h' : Heap} {a : Addr} {o : HO}
theorem ObjOk.lt (x : ObjOk P w H h a o) : a < h.objs.size := by
 cases o with
 | lst xs => obtain ⟨_, _, _, _, e⟩ := x; exact Heap.lt_size e
 | tup xs => obtain ⟨_, _, _, p⟩ := x; exact p.tup.lt
 | dK kvs => obtain ⟨_, _, _, _, o, _, _, e, _⟩ := x; exact Heap.lt_size e
 | dT kvs => obtain ⟨_, _, _, _, o, _, _, e, _⟩ := x; exact Heap.lt_size e
 | set S n => obtain ⟨o, _, _, _, e, _⟩ := x; exact Heap.lt_size e
 | ins C dx fs => obtain ⟨_, _, _, e, _⟩ := x; exact Heap.lt_size e
 | own y => obtain ⟨_, e⟩ := x; exact Heap.lt_size e
 | xd fs => obtain ⟨_, ⟨_, _, _, e, _⟩, _⟩ := x; exact Heap.lt_size e
 | rng lo hi => obtain ⟨_, _, _, e⟩ := x; exact Heap.lt_size e
 | frz ob u => obtain ⟨e, _⟩ := x; exact Heap.lt_size e
 | tbl ps => exact Heap.lt_size (show h.get? a = some _ from x)
 | met f y => exact Heap.lt_size (show h.get? a = some _ from x)
 | ext φ => obtain ⟨_, ⟨_, e⟩, _⟩ := x; exact Heap.lt_size e
theorem Paired.mapP {α β : Type} {F G : α -> β -> Prop} : ∀ {l₁ : List α} {l₂ : List β}, Paired F l₁ l₂ -> (∀ a b, F a b -> G a b) -> Paired G l₁ l₂
 | _, _, .nil, _ => .nil
 | _, _, .cons r t, f => .cons (f _ _ r) (Paired.mapP t f)
theorem ObjOk.stay (x : ObjOk P w H h a o) (k : ∀ b u, (b = a ∨ H b = some (.own a)) -> h.get? b = some u -> h'.get? b = some u)
  (ho : ∀ b, H b = some (.own a) -> H' b = some (.own a)) (ht : ∀ b xs, H b = some (.tup xs) -> H' b = some (.tup xs)) : ObjOk P w H' h' a o := by
 induction o with
 | lst xs => obtain ⟨z, its, n, r, e⟩ := x; exact ⟨z, its, n, r, k _ _ (.inl rfl) e⟩
 | tup xs => obtain ⟨z, its, r, ob, e, c⟩ := x; exact ⟨z, its, r, ob, k _ _ (.inl rfl) e, c⟩
 | dK kvs => obtain ⟨z, y, vs, r, ob, es, ep, e, c⟩ := x; exact ⟨z, y, vs, r, ob, es, ep, k _ _ (.inl rfl) e, c⟩
 | dT kvs =>
  obtain ⟨z, y, xs, r, ob, es, ep, e, c⟩ := x
  exact ⟨z, y, xs, Paired.mapP r fun p q z => ⟨z.1, ht _ _ z.2.1, z.2.2⟩, ob, es, ep, k _ _ (.inl rfl) e, c⟩
 | set S n => obtain ⟨ob, es, ep, t, e, c⟩ := x; exact ⟨ob, es, ep, t, k _ _ (.inl rfl) e, c⟩
 | ins C dx fs =>
  obtain ⟨d, z, ne, e, mA, ⟨od, es, ep, e2, c⟩, r⟩ := x
  exact ⟨ho _ d, z, ne, k _ _ (.inl rfl) e, mA, ⟨od, es, ep, k _ _ (.inr d) e2, c⟩, r⟩
 | own y => obtain ⟨ob, e⟩ := x; exact ⟨ob, k _ _ (.inl rfl) e⟩
 | xd fs => obtain ⟨mA, ⟨od, es, ep, e, c⟩, r⟩ := x; exact ⟨mA, ⟨od, es, ep, k _ _ (.inl rfl) e, c⟩, r⟩
 | rng lo hi => obtain ⟨t, u, v, e⟩ := x; exact ⟨t, u, v, k _ _ (.inl rfl) e⟩
 | frz ob u ih => obtain ⟨e, q⟩ := x; exact ⟨k _ _ (.inl rfl) e, ih q⟩
 | tbl ps =>
  have e : h.get? a = some { cls := .none, data := .fields ps } := x
  show h'.get? a = some { cls := .none, data := .fields ps }
  exact k a _ (.inl rfl) e
 | met f y =>
  have e : h.get? a = some (PySem.W.methodObj (.ref f) (.ref y)) := x
  show h'.get? a = some (PySem.W.methodObj (.ref f) (.ref y))
  exact k a _ (.inl rfl) e
 | ext φ => obtain ⟨p, ⟨o, e⟩, st⟩ := x; exact ⟨st _ _ p fun o q => k _ _ (.inl rfl) q, ⟨o, k _ _ (.inl rfl) e⟩, st⟩
theorem HOk.lt (x : HOk P w H h) (e : H a = some o) : a < h.objs.size := (x a o e).lt
theorem HOk.fresh (x : HOk P w H h) (e : h.objs.size <= a) : H a = none := by
 cases q : H a with
 | none => rfl
 | some u => exact absurd (Nat.lt_of_lt_of_le (x.lt q) e) (Nat.lt_irrefl _)
theorem HOk.kept (x : HOk P w H h) (k : ∀ b u, h.get? b = some u -> h'.get? b = some u) : HOk P w H h' := fun a o e =>
 (x a o e).stay (fun b u _ q => k b u q) (fun _ q => q) fun _ _ q => q
theorem HOk.laid (x : HOk P w H h) (k : ∀ b u, h.get? b = some u -> h'.get? b = some u) (hp : h.objs.size <= a) (new : ObjOk P w (upd H a o) h' a o) : HOk P w (upd H a o) h' := fun b u e => by
 have hn := x.fresh hp
 by_cases hb : b = a
 ·subst hb; rw [upd_same] at e; cases e; exact new
 ·rw [upd_ne hb] at e
  exact (x b u e).stay (fun c v _ q => k c v q) (fun c q => by rw [upd_ne (ne_of_none q hn)]; exact q) fun c xs q => by rw [upd_ne (ne_of_none q hn)]; exact q
end
noncomputable def Rd (H : Hp) (a : Addr) (u : HO) : Prop := H a = some u ∨ ∃ o, H a = some (.frz o u)
theorem Rd.ok {P : Program} {w : World} {H : Hp} {h : Heap} {a : Addr} {u : HO} (r : Rd H a u) (x : HOk P w H h) : ObjOk P w H h a u := by
 rcases r with r | ⟨o, r⟩
 ·exact x a u r
 ·obtain ⟨_, q⟩ := x a _ r
  exact q
noncomputable def Mut : Option HO -> Prop
 | some (.lst _) => True
 | some (.dK _) => True
 | some (.dT _) => True
 | some (.set _ _) => True
 | some (.ins _ _ _) => True
 | some (.ext _) => True
 | _ => False
section
variable {P : Program} {w : World} {H : Hp} {h h' : Heap} {x e : Addr} {o' : HO}
theorem HOk.write (ok : HOk P w H h) (mu : Mut (H x)) (he : e = x ∨ H e = some (.own x)) (k : ∀ b u, b ≠ e -> h.get? b = some u -> h'.get? b = some u) (heo : ∃ u, h'.get? e = some u)
  (new : ObjOk P w (upd H x o') h' x o') : HOk P w (upd H x o') h' := fun b u q => by
 have nown : ∀ c y, H c = some (.own y) -> c ≠ x := fun c y r z => by subst z; rw [r] at mu; exact mu
 have ntup : ∀ c xs, H c = some (.tup xs) -> c ≠ x := fun c xs r z => by subst z; rw [r] at mu; exact mu
 by_cases hb : b = x
 ·subst hb; rw [upd_same] at q; cases q; exact new
 ·rw [upd_ne hb] at q
  by_cases hbe : b = e
  ·have q' : H b = some (.own x) := by
    rcases he with z | z
    ·exact absurd (hbe.trans z) hb
    ·rw [hbe]; exact z
   rw [q] at q'; cases q'
   obtain ⟨v, hv⟩ := heo
   exact ⟨v, by rw [hbe]; exact hv⟩
  ·refine (ok b u q).stay (fun c v hc r => k c v ?_ r) (fun c r => by rw [upd_ne (nown c b r)]; exact r) fun c xs r => by rw [upd_ne (ntup c xs r)]; exact r
   rcases hc with rfl | hc
   ·exact hbe
   ·rintro rfl
    rcases he with z | z
    ·exact nown c b hc z
    ·rw [hc] at z; cases z; exact hb rfl
end
structure Un (fs ex : List Addr) (H H' : Hp) (h h' : Heap) : Prop where
 keep : ∀ b o, h.get? b = some o -> H b = none -> b ∉ fs -> b ∉ ex -> h'.get? b = some o
 slot : ∀ b o, h.get? b = some o -> H b = none -> b ∈ fs -> b ∉ ex -> ∃ sl, h'.get? b = some { o with slots := sl }
 free : ∀ b o, h.get? b = some o -> H b = none -> b ∉ ex -> H' b = none
 there : ∀ b o, h.get? b = some o -> b ∉ ex -> ∃ o', h'.get? b = some o'
 tups : ∀ b xs, H b = some (.tup xs) -> H' b = some (.tup xs)
 frzs : ∀ b o u, H b = some (.frz o u) -> H' b = some (.frz o u)
 tbls : ∀ b ps, H b = some (.tbl ps) -> ∃ more, H' b = some (.tbl (ps ++ more))
section
variable {fs fs' ex ex' : List Addr} {H H1 H2 : Hp} {h h1 h2 h' : Heap} {a x e : Addr} {o : HO}
theorem Un.any (u : Un fs ex H H1 h h1) {b : Addr} {ob : Obj} (q : h.get? b = some ob) (n : H b = none) (hx : b ∉ ex) : ∃ sl, h1.get? b = some { ob with slots := sl } := by
 by_cases hb : b ∈ fs
 ·exact u.slot b ob q n hb hx
 ·exact ⟨ob.slots, u.keep b ob q n hb hx⟩
theorem Un.kept (k : ∀ b u, h.get? b = some u -> h'.get? b = some u) : Un fs ex H H h h' :=
 ⟨fun b ob q _ _ _ => k b ob q, fun b ob q _ _ _ => ⟨ob.slots, k b ob q⟩, fun _ _ _ n _ => n, fun b ob q _ => ⟨ob, k b ob q⟩, fun _ _ q => q, fun _ _ _ q => q, fun _ ps q => ⟨#[], by rw [q]; simp⟩⟩
theorem Un.refl : Un fs ex H H h h := Un.kept fun _ _ q => q
theorem Un.laid (k : ∀ b u, h.get? b = some u -> h'.get? b = some u) (hp : h.objs.size <= a) (hn : H a = none) : Un fs ex H (upd H a o) h h' where
 keep := fun b u q _ _ _ => k b u q
 slot := fun b u q _ _ _ => ⟨u.slots, k b u q⟩
 free := fun b u q n _ => by rw [upd_ne (Nat.ne_of_lt (Nat.lt_of_lt_of_le (Heap.lt_size q) hp))]; exact n
 there := fun b u q _ => ⟨u, k b u q⟩
 tups := fun b xs q => by rw [upd_ne (ne_of_none q hn)]; exact q
 frzs := fun b u xs q => by rw [upd_ne (ne_of_none q hn)]; exact q
 tbls := fun b ps q => ⟨#[], by rw [upd_ne (ne_of_none q hn), q]; simp⟩
theorem Un.write (mu : Mut (H x)) (he : e = x ∨ H e = some (.own x)) (k : ∀ b u, b ≠ e -> h.get? b = some u -> h'.get? b = some u) (heo : ∃ u, h'.get? e = some u) : Un fs ex H (upd H x o) h h' := by
 have hx : ∀ b, H b = none -> b ≠ x := fun b n z => by subst z; rw [n] at mu; exact mu
 have hb : ∀ b, H b = none -> b ≠ e := fun b n z => by
  subst z
  rcases he with r | r
  ·exact hx b n r
  ·rw [n] at r; cases r
 have hm : ∀ b u, H b = some u -> ¬ Mut (some u) -> b ≠ x := fun b u q nm z => by subst z; rw [q] at mu; exact nm mu
 refine ⟨fun b u q n _ _ => k b u (hb b n) q, fun b u q n _ _ => ⟨u.slots, k b u (hb b n) q⟩, fun b u q n _ => by rw [upd_ne (hx b n)]; exact n, fun b u q _ => ?_,
  fun b xs q => by rw [upd_ne (hm b _ q fun z => z)]; exact q, fun b u xs q => by rw [upd_ne (hm b _ q fun z => z)]; exact q, fun b ps q => ⟨#[], by rw [upd_ne (hm b _ q fun z => z), q]; simp⟩⟩
 by_cases hbe : b = e
 ·subst hbe; exact heo
 ·exact ⟨u, k b u hbe q⟩
end
noncomputable def trk (h : Heap) (H : Hp) : List Addr := (List.range h.objs.size).filter fun a => (H a).isSome
noncomputable def hidT (h : Heap) (H : Hp) : Heap := PySem.W.hideAll h (trk h H)
theorem hidT_size (h : Heap) (H : Hp) : (hidT h H).objs.size = h.objs.size := PySem.W.hideAll_size _ _
theorem hidT_get {h : Heap} {H : Hp} {b : Addr} {o : Obj} (e : h.get? b = some o) (n : H b = none) : (hidT h H).get? b = some o :=
 PySem.W.hideAll_get _ e fun hm => by
  have q : (H b).isSome = true := (List.mem_filter.mp hm).2
  rw [n] at q; simp at q
theorem of_hidT {h : Heap} {H : Hp} {b : Addr} {o : Obj} (e : (hidT h H).get? b = some o) : h.get? b = some o /\ H b = none := by
 have e' : h.get? b = some o := PySem.W.of_hideAll (trk h H) e
 refine ⟨e', ?_⟩
 cases q : H b with
 | none => rfl
 | some x =>
  have hm : b ∈ trk h H := List.mem_filter.mpr ⟨List.mem_range.mpr (Heap.lt_size e'), by simp [q]⟩
  have z : (hidT h H).get? b = none := PySem.W.hideAll_none (trk h H) hm
  rw [z] at e; cases e
noncomputable def allNews (g h : Heap) (L : Addr) : List (Addr × Obj) := (List.range h.objs.size).filterMap fun a => if a = L ∨ (g.get? a).isSome = true then none else (h.get? a).map fun o => (a, o)
noncomputable def rest (g h : Heap) (L d : Addr) : List (Addr × Obj) := (allNews g h L).filter fun p => decide (p.1 ≠ d)
end L2
namespace L2
open PySem PySem.Spec PyProof.Rows
structure Mod (K : PySem.W.Frag) (mg : Str -> Option Value) (base : Heap) : Prop where
 kin : K.In base
 glob : base.Ns mainGlobals mg
 blt : ∃ mb, base.Ns builtinsNs mb /\ ∀ x : Str, x ≠ "__name__" -> mb x = bootBuiltins x
 nolimit : base.NoLimit
structure Cx where
 prog : Program
 w : World
 K : PySem.W.Frag
 mg : Str -> Option Value
 base : Heap
 A : Around
 N : List Str
 s₀ : Shared
 H₀ : Hp
 env : Env
 outer : List Env
 stack : List Env
 ex : List Addr
 fn : Str -> Bool
 calm : Bool
 pn : List (Addr × Obj)
 xe : Value -> Shared -> Prop
noncomputable def frs (l : List Env) : List Addr := l.filterMap (·.frame)
noncomputable abbrev Cx.fs (X : Cx) : List Addr := frs X.outer
noncomputable def Vis (sc : Scope) (x : Str) : Prop := sc.names.lookup x = some .local ∨ sc.names.lookup x = some .cell ∨ sc.names.lookup x = some .free
noncomputable def Loc (sc : Scope) (x : Str) : Prop := sc.names.lookup x = some .local ∨ sc.names.lookup x = some .cell
noncomputable def Look (env : Env) (h : Heap) (m : Str -> Option Value) (x : Str) (u : Value) : Prop :=
 (env.kindOf x = some .local /\ m x = some u) ∨ ((env.kindOf x = some .cell ∨ env.kindOf x = some .free) /\ ∃ c, env.cells.lookup x = some c /\ h.IsCell c (some u))
structure Cx.Ok (X : Cx) : Prop where
 mod : Mod X.K X.mg X.base
 kind : X.env.scope.kind = .function
 glob : X.env.globals = mainGlobals
 blt : X.env.builtins = builtinsNs
 above : X.s₀.heap.objs.size <= X.env.locals
 inj : ∀ x y c, X.env.cells.lookup x = some c -> X.env.cells.lookup y = some c -> x = y
 has : ∀ x, (X.env.kindOf x = some .cell ∨ X.env.kindOf x = some .free) -> ∃ c, X.env.cells.lookup x = some c
 cab : ∀ x c, X.fn x = true -> X.env.cells.lookup x = some c -> X.s₀.heap.objs.size <= c
 hd : X.calm = true -> X.A.handled = none
 frames : X.A.frames = some X.stack
 stk : X.stack = X.outer ∨ (X.stack = X.env :: X.outer /\ X.env.frame = some X.env.locals)
 exf : ∀ b ∈ X.ex, b ≠ X.env.locals /\ ∀ x c, X.env.cells.lookup x = some c -> c ≠ b
 bs : ∀ b o, X.base.get? b = some o -> X.s₀.heap.get? b = some o /\ X.H₀ b = none
 bsz : X.base.objs.size <= X.s₀.heap.objs.size
 noex : ∀ b o, X.base.get? b = some o -> b ∉ X.ex
 exfs : ∀ b ∈ X.ex, b ∉ X.fs
 funs : X.s₀.heap.FunFrames X.base X.outer
 frf : ∀ b ∈ X.fs, X.H₀ b = none
structure Inv (X : Cx) (pins : List (Addr × Obj)) (σ : List (Option V)) (H : Hp) (s : Shared) : Prop where
 ok : X.Ok
 os : s.os = X.s₀.os
 bare : AllBare s.gens
 base : Un X.fs X.ex X.H₀ H X.s₀.heap s.heap
 loc : ∃ m, s.heap.Ns X.env.locals m /\ ∀ (i : Nat) (x : Str) (v : V), X.N[i]? = some x -> σ[i]? = some (some v) -> Vis X.env.scope x -> ∃ u, RelV v u /\ Look X.env s.heap m x u
 cell : ∀ x c, X.env.cells.lookup x = some c -> ∃ v, s.heap.IsCell c v
 free : H X.env.locals = none
 freeC : ∀ x c, X.env.cells.lookup x = some c -> H c = none
 pin : ∀ p ∈ X.pn ++ pins, s.heap.get? p.1 = some p.2 /\ H p.1 = none /\ p.1 ≠ X.env.locals /\ p.1 ∉ X.fs /\ ∀ v, p.2.data ≠ .cell v
 hok : HOk X.prog X.w H s.heap
 len : σ.length = X.N.length
section
variable {X : Cx} {pins : List (Addr × Obj)} {σ : List (Option V)} {H H' : Hp} {s : Shared} {h' : Heap}
theorem Cx.Ok.nofr (ok : X.Ok) {b : Addr} {o : Obj} (e : X.base.get? b = some o) : b ∉ X.fs := fun hb => by
 have := (ok.funs.mem hb).1
 rw [e] at this; cases this
theorem Inv.bs (I : Inv X pins σ H s) : ∀ b o, X.base.get? b = some o -> s.heap.get? b = some o /\ H b = none := fun b o e =>
 ⟨I.base.keep b o (I.ok.bs b o e).1 (I.ok.bs b o e).2 (I.ok.nofr e) (I.ok.noex b o e), I.base.free b o (I.ok.bs b o e).1 (I.ok.bs b o e).2 (I.ok.noex b o e)⟩
theorem Inv.bk (I : Inv X pins σ H s) : ∀ b o, X.base.get? b = some o -> s.heap.get? b = some o := fun b o e => (I.bs b o e).1
theorem Inv.mod (I : Inv X pins σ H s) : Mod X.K X.mg X.base := I.ok.mod
theorem Inv.kIn (I : Inv X pins σ H s) : X.K.In s.heap := I.ok.mod.kin.keeps I.bk
theorem Inv.lt (I : Inv X pins σ H s) : X.env.locals < s.heap.objs.size := let ⟨_, hn, _⟩ := I.loc; hn.lt
theorem Inv.sz (I : Inv X pins σ H s) : X.s₀.heap.objs.size <= s.heap.objs.size := Nat.le_trans I.ok.above (Nat.le_of_lt I.lt)
theorem Inv.nofs (I : Inv X pins σ H s) {a : Addr} (h : s.heap.objs.size <= a) : a ∉ X.fs := fun hb => by
 obtain ⟨_, o, ho, _⟩ := I.ok.funs.mem hb
 exact absurd (Nat.lt_of_lt_of_le (Heap.lt_size ho) (Nat.le_trans I.sz h)) (Nat.lt_irrefl _)
theorem Inv.cne (I : Inv X pins σ H s) : ∀ x c, X.env.cells.lookup x = some c -> c ≠ X.env.locals := fun x c e z => by
 obtain ⟨v, o, ho, hd⟩ := I.cell x c e
 obtain ⟨m, ⟨o', es, ep, ho', hd', _⟩, _⟩ := I.loc
 rw [z, ho'] at ho; cases ho; rw [hd'] at hd; cases hd
theorem Inv.funs (I : Inv X pins σ H s) : s.heap.FunFrames X.base X.outer := by
 have all : ∀ (l : List Env), (∀ b ∈ frs l, b ∈ X.fs) -> X.s₀.heap.FunFrames X.base l -> s.heap.FunFrames X.base l := by
  intro l
  induction l with
  | nil => intro _ _; trivial
  | cons env r ih =>
   intro hs hl
   obtain ⟨hk, ⟨L, o, hf, hn, ho, hd⟩, hr⟩ := hl
   have hL : L ∈ X.fs := hs L (by unfold frs; rw [List.filterMap_cons, hf]; exact List.mem_cons_self)
   obtain ⟨sl, e⟩ := I.base.slot L o ho (I.ok.frf L hL) hL fun z => I.ok.exfs L z hL
   exact ⟨hk, ⟨L, _, hf, hn, e, hd⟩, ih (fun b hb => hs b (by unfold frs; rw [List.filterMap_cons, hf]; exact List.mem_cons_of_mem _ hb)) hr⟩
 exact all X.outer (fun _ hb => hb) I.ok.funs
theorem Inv.stack (I : Inv X pins σ H s) : s.heap.FunFrames X.base X.stack := by
 rcases I.ok.stk with e | ⟨e, hf⟩
 ·rw [e]; exact I.funs
 ·rw [e]
  obtain ⟨m, hn, _⟩ := I.loc
  refine .cons (by rw [I.ok.kind]; decide) hf hn ?_ I.funs
  exact Heap.get?_none_of_le (Nat.le_trans I.ok.bsz I.ok.above)
theorem Inv.stkSub (I : Inv X pins σ H s) : ∀ b ∈ frs X.stack, b ∈ X.env.locals :: X.fs := fun b hb => by
 rcases I.ok.stk with e | ⟨e, hf⟩
 ·rw [e] at hb; exact List.mem_cons_of_mem _ hb
 ·rw [e] at hb
  unfold frs at hb
  rw [List.filterMap_cons, hf] at hb
  exact hb
theorem Inv.stkFree (I : Inv X pins σ H s) : ∀ b ∈ frs X.stack, H b = none := fun b hb => by
 rcases List.mem_cons.mp (I.stkSub b hb) with e | hb
 ·rw [e]; exact I.free
 ·obtain ⟨_, o, ho, _⟩ := I.ok.funs.mem hb
  exact I.base.free b o ho (I.ok.frf b hb) fun z => I.ok.exfs b z hb
theorem Inv.step {g' : Array GenState} {t' : Nat} {d' : Drawn} {ch : List Addr} (I : Inv X pins σ H s)
  (hch : ∀ b ∈ ch, (b ∈ X.ex ∨ X.s₀.heap.objs.size <= b) /\ b ≠ X.env.locals /\ (∀ x c, X.env.cells.lookup x = some c -> c ≠ b) /\ ∀ p ∈ X.pn ++ pins, p.1 ≠ b)
  (keep : ∀ b o, b ≠ X.env.locals -> b ∉ X.fs -> b ∉ ch -> s.heap.get? b = some o -> H b = none -> h'.get? b = some o)
  (slot : ∀ b o, b ≠ X.env.locals -> b ∈ X.fs -> b ∉ ch -> s.heap.get? b = some o -> H b = none -> ∃ sl, h'.get? b = some { o with slots := sl }) (free : ∀ b o, b ∉ ch -> s.heap.get? b = some o -> H b = none -> H' b = none)
  (there : ∀ b o, b ∉ ch -> s.heap.get? b = some o -> ∃ o', h'.get? b = some o')
  (tups : ∀ b xs, H b = some (.tup xs) -> H' b = some (.tup xs)) (frzs : ∀ b o u, H b = some (.frz o u) -> H' b = some (.frz o u)) (tbls : ∀ b ps, H b = some (.tbl ps) -> ∃ more, H' b = some (.tbl (ps ++ more)))
  (ns : ∀ m, s.heap.Ns X.env.locals m -> h'.Ns X.env.locals m) (hok : HOk X.prog X.w H' h') (hg : AllBare g') :
  Inv X pins σ H' { s with heap := h', gens := g', drawn := d', toks := t' } := by
 have neL : ∀ b o, X.s₀.heap.get? b = some o -> b ≠ X.env.locals := fun b o e => Nat.ne_of_lt (Nat.lt_of_lt_of_le (Heap.lt_size e) I.ok.above)
 have neC : ∀ b o, X.s₀.heap.get? b = some o -> b ∉ X.ex -> b ∉ ch := fun b o e hx hb => by
  rcases (hch b hb).1 with z | z
  ·exact hx z
  ·exact absurd (Nat.lt_of_lt_of_le (Heap.lt_size e) z) (Nat.lt_irrefl _)
 have cellK : ∀ x c, X.env.cells.lookup x = some c -> ∀ v, s.heap.IsCell c v -> h'.IsCell c v := fun x c e v ⟨o, ho, hd⟩ => by
  have nch : c ∉ ch := fun z => (hch c z).2.2.1 x c e rfl
  by_cases hc : c ∈ X.fs
  ·obtain ⟨sl, q⟩ := slot c o (I.cne x c e) hc nch ho (I.freeC x c e)
   exact ⟨_, q, hd⟩
  ·exact ⟨o, keep c o (I.cne x c e) hc nch ho (I.freeC x c e), hd⟩
 refine ⟨I.ok, I.os, hg, ⟨fun b o e n hb hx => ?_, fun b o e n hb hx => ?_, fun b o e n hx => ?_, fun b o e hx => ?_, fun b xs e => tups b xs (I.base.tups b xs e), fun b o xs e => frzs b o xs (I.base.frzs b o xs e), fun b ps e => ?_⟩, ?_, fun x c e => ?_, ?_, fun x c e => ?_, fun p hp => ?_, hok, I.len⟩
 ·exact keep b o (neL b o e) hb (neC b o e hx) (I.base.keep b o e n hb hx) (I.base.free b o e n hx)
 ·obtain ⟨sl, e1⟩ := I.base.slot b o e n hb hx
  obtain ⟨sl', e2⟩ := slot b _ (neL b o e) hb (neC b o e hx) e1 (I.base.free b o e n hx)
  exact ⟨sl', e2⟩
 ·obtain ⟨o', e1⟩ := I.base.there b o e hx
  exact free b o' (neC b o e hx) e1 (I.base.free b o e n hx)
 ·obtain ⟨o', e1⟩ := I.base.there b o e hx
  exact there b o' (neC b o e hx) e1
 ·obtain ⟨m1, e1⟩ := I.base.tbls b ps e
  obtain ⟨m2, e2⟩ := tbls b _ e1
  exact ⟨m1 ++ m2, by rw [e2, Array.append_assoc]⟩
 ·obtain ⟨m, hn, hl⟩ := I.loc
  refine ⟨m, ns m hn, fun i x v e1 e2 e3 => ?_⟩
  obtain ⟨u, r, l⟩ := hl i x v e1 e2 e3
  refine ⟨u, r, ?_⟩
  rcases l with l | ⟨k, c, e, z⟩
  ·exact .inl l
  ·exact .inr ⟨k, c, e, cellK x c e _ z⟩
 ·obtain ⟨v, z⟩ := I.cell x c e
  exact ⟨v, cellK x c e v z⟩
 ·obtain ⟨m, ⟨o, _, _, ho, _⟩, _⟩ := I.loc
  exact free _ o (fun z => (hch _ z).2.1 rfl) ho I.free
 ·obtain ⟨v, o, ho, hd⟩ := I.cell x c e
  exact free c o (fun z => (hch c z).2.2.1 x c e rfl) ho (I.freeC x c e)
 ·obtain ⟨e, n, ne, nf, d⟩ := I.pin p hp
  have nch : p.1 ∉ ch := fun z => (hch p.1 z).2.2.2 p hp rfl
  exact ⟨keep p.1 p.2 ne nf nch e n, free p.1 p.2 nch e n, ne, nf, d⟩
theorem Inv.un {t' : Nat} (I : Inv X pins σ H s) (u : Un X.fs [] H H' s.heap h') (hok : HOk X.prog X.w H' h') : Inv X pins σ H' { s with heap := h', toks := t' } := by
 obtain ⟨m, ⟨o, es, ep, ho, r⟩, _⟩ := id I.loc
 obtain ⟨sl, hL⟩ := u.any ho I.free (by simp)
 exact I.step (g' := s.gens) (d' := s.drawn) (ch := []) (fun _ z => nomatch z) (fun b o _ hb _ e n => u.keep b o e n hb (by simp)) (fun b o _ hb _ e n => u.slot b o e n hb (by simp)) (fun b o _ e n => u.free b o e n (by simp)) (fun b o _ e => u.there b o e (by simp)) u.tups u.frzs u.tbls (fun m' hm => by
  obtain ⟨o', es', ep', ho', r'⟩ := hm
  rw [ho] at ho'; cases ho'
  exact ⟨_, es', ep', hL, r'⟩) hok I.bare
theorem Inv.call {g' : Array GenState} {t' : Nat} {d' : Drawn} {ch : List Addr} (I : Inv X pins σ H s) (u : Un (frs X.stack) ch H H' s.heap h') (hok : HOk X.prog X.w H' h') (hg : AllBare g')
  (hch : ∀ b ∈ ch, (b ∈ X.ex ∨ X.s₀.heap.objs.size <= b) /\ b ≠ X.env.locals /\ (∀ x c, X.env.cells.lookup x = some c -> c ≠ b) /\ ∀ p ∈ X.pn ++ pins, p.1 ≠ b) :
  Inv X pins σ H' { s with heap := h', gens := g', drawn := d', toks := t' } := by
 obtain ⟨m, ⟨o, es, ep, ho, r⟩, _⟩ := id I.loc
 obtain ⟨sl, hL⟩ := u.any ho I.free fun z => (hch _ z).2.1 rfl
 exact I.step (ch := ch) hch (fun b o hL hb hc e n => u.keep b o e n (fun z => (List.mem_cons.mp (I.stkSub b z)).elim hL hb) hc) (fun b o _ _ hc e n => u.any e n hc) (fun b o hc e n => u.free b o e n hc) (fun b o hc e => u.there b o e hc) u.tups u.frzs u.tbls (fun m' hm => by
  obtain ⟨o', es', ep', ho', r'⟩ := hm
  rw [ho] at ho'; cases ho'
  exact ⟨_, es', ep', hL, r'⟩) hok hg
theorem Inv.turned {t' : Nat} {it : Addr} (I : Inv X pins σ H s) (k : ∀ b o, b ≠ it -> s.heap.get? b = some o -> h'.get? b = some o) (hn : H it = none) (hL : it ≠ X.env.locals)
  (h1 : it ∈ X.ex ∨ X.s₀.heap.objs.size <= it) (h2 : ∀ x c, X.env.cells.lookup x = some c -> c ≠ it) (h3 : ∀ p ∈ X.pn ++ pins, p.1 ≠ it) : Inv X pins σ H { s with heap := h', toks := t' } := by
 have nit : ∀ b u, H b = some u -> b ≠ it := fun b u e z => by rw [z, hn] at e; cases e
 refine I.step (g' := s.gens) (d' := s.drawn) (ch := [it]) (fun b hb => ?_) (fun b o _ _ hc e _ => k b o (fun z => hc (by simp [z])) e) (fun b o _ _ hc e _ => ⟨o.slots, k b o (fun z => hc (by simp [z])) e⟩) (fun _ _ _ _ n => n)
  (fun b o hc e => ⟨o, k b o (fun z => hc (by simp [z])) e⟩) (fun _ _ e => e) (fun _ _ _ e => e) (fun b ps e => ⟨#[], by rw [e]; simp⟩) (fun m hm => ?_) (fun b u e => ?_) I.bare
 ·have e : b = it := by simpa using hb
  subst e
  exact ⟨h1, hL, h2, h3⟩
 ·obtain ⟨o, es, ep, ho, r⟩ := hm
  exact ⟨o, es, ep, k _ o (Ne.symm hL) ho, r⟩
 ·refine (I.hok b u e).stay (fun c v hc q => k c v ?_ q) (fun _ q => q) fun _ _ q => q
  rcases hc with z | z
  ·rw [z]; exact nit b u e
  ·exact nit c _ z
theorem Inv.tok (I : Inv X pins σ H s) (t : Nat) : Inv X pins σ H { s with toks := t } := I.un (h' := s.heap) (t' := t) Un.refl I.hok
theorem Inv.kept {t' : Nat} (I : Inv X pins σ H s) (k : ∀ b u, s.heap.get? b = some u -> h'.get? b = some u) : Inv X pins σ H { s with heap := h', toks := t' } := I.un (Un.kept k) (I.hok.kept k)
theorem Inv.laid {a : Addr} {o : HO} {t' : Nat} (I : Inv X pins σ H s) (k : ∀ b u, s.heap.get? b = some u -> h'.get? b = some u) (hp : s.heap.objs.size <= a) (new : ObjOk X.prog X.w (upd H a o) h' a o) :
  Inv X pins σ (upd H a o) { s with heap := h', toks := t' } := I.un (Un.laid k hp (I.hok.fresh hp)) (I.hok.laid k hp new)
theorem Inv.write {x e : Addr} {o : HO} {t' : Nat} (I : Inv X pins σ H s) (mu : Mut (H x)) (he : e = x ∨ H e = some (.own x)) (k : ∀ b u, b ≠ e -> s.heap.get? b = some u -> h'.get? b = some u) (heo : ∃ u, h'.get? e = some u)
  (new : ObjOk X.prog X.w (upd H x o) h' x o) : Inv X pins σ (upd H x o) { s with heap := h', toks := t' } := I.un (Un.write mu he k heo) (I.hok.write mu he k heo new)
theorem Inv.weak {σ' : List (Option V)} (I : Inv X pins σ H s) (hl : σ'.length = σ.length) (w : ∀ (i : Nat) v, σ'[i]? = some (some v) -> σ[i]? = some (some v)) : Inv X pins σ' H s :=
 ⟨I.ok, I.os, I.bare, I.base, let ⟨m, hn, hl'⟩ := I.loc; ⟨m, hn, fun i x v e1 e2 e3 => hl' i x v e1 (w i v e2) e3⟩, I.cell, I.free, I.freeC, I.pin, I.hok, hl.trans I.len⟩
theorem Inv.pins_of {pins' : List (Addr × Obj)} (I : Inv X pins σ H s) (h : ∀ p ∈ pins', s.heap.get? p.1 = some p.2 /\ H p.1 = none /\ p.1 ≠ X.env.locals /\ p.1 ∉ X.fs /\ ∀ v, p.2.data ≠ .cell v) : Inv X pins' σ H s :=
 ⟨I.ok, I.os, I.bare, I.base, I.loc, I.cell, I.free, I.freeC, fun p hp => (List.mem_append.mp hp).elim (fun z => I.pin p (List.mem_append_left _ z)) (h p), I.hok, I.len⟩
theorem nodup_ix {N : List Str} (hN : N.Nodup) {i j : Nat} {x : Str} (a : N[i]? = some x) (b : N[j]? = some x) : i = j := by
 obtain ⟨h1, e1⟩ := List.getElem?_eq_some_iff.mp a
 obtain ⟨h2, e2⟩ := List.getElem?_eq_some_iff.mp b
 exact (List.getElem_inj hN).mp (e1.trans e2.symm)
theorem store_ok2 {M : Model} {A : Around} {E : Value -> Shared -> Prop} {i : Nat} {x : Str} {v : V} {u : Value} {Q : Unit -> Shared -> Prop} (I : Inv X pins σ H s) (hN : X.N.Nodup) (hi : X.N[i]? = some x) (hx : Loc X.env.scope x) (r : RelV v u)
  (h : ∀ s', Inv X pins (σ.set i (some v)) H s' -> (∃ a, Heap.SameBut a s.heap s'.heap /\ (a = X.env.locals ∨ X.env.cells.lookup x = some a)) -> Q () s') (hf : X.fn x = true ∨ X.env.scope.names.lookup x = some .local := by first | exact .inl rfl | exact .inr rfl | assumption) : wpAny M A (storeName X.env x u) Q E s := by
 obtain ⟨m, hn, hl⟩ := id I.loc
 have hcls : (X.env.scope.kind == .class || (X.env.scope.kind == .module && X.env.locals != X.env.globals)) = false := by rw [I.ok.kind]; rfl
 have hiσ : i < σ.length := by rw [I.len]; exact (List.getElem?_eq_some_iff.mp hi).1
 have cne := I.cne
 have tracked : ∀ {a : Addr} {h' : Heap}, (∃ o, s.heap.get? a = some o /\ H a = none) -> Heap.SameBut a s.heap h' -> HOk X.prog X.w H h' := fun {a h'} ha hs b ob e => by
  obtain ⟨_, _, hfree⟩ := ha
  refine (I.hok b ob e).stay (fun c w' hc q => (hs.2 c ?_).trans q) (fun _ q => q) fun _ _ q => q
  rintro rfl
  rcases hc with rfl | hc
  ·rw [hfree] at e; cases e
  ·rw [hfree] at hc; cases hc
 rcases hx with hk | hk
 ·refine wpAny_storeName_local hk hn (fun h' hn' hs => ?_) hcls
  obtain ⟨oL, _, _, hoL, _⟩ := id hn
  refine h _ ⟨I.ok, I.os, I.bare, ⟨fun b o e n hb hx => ?_, fun b o e n hb hx => ?_, I.base.free, fun b o e hx => ?_, I.base.tups, I.base.frzs, I.base.tbls⟩, ⟨_, hn', fun j y v' e1 e2 e3 => ?_⟩, fun y c e => ?_, I.free, I.freeC, fun p hp => ?_, tracked ⟨oL, hoL, I.free⟩ hs, by simpa using I.len⟩ ⟨_, hs, .inl rfl⟩
  ·exact (hs.2 b (Nat.ne_of_lt (Nat.lt_of_lt_of_le (Heap.lt_size e) I.ok.above))).trans (I.base.keep b o e n hb hx)
  ·obtain ⟨sl, e1⟩ := I.base.slot b o e n hb hx
   exact ⟨sl, (hs.2 b (Nat.ne_of_lt (Nat.lt_of_lt_of_le (Heap.lt_size e) I.ok.above))).trans e1⟩
  ·obtain ⟨o', e1⟩ := I.base.there b o e hx
   exact ⟨o', (hs.2 b (Nat.ne_of_lt (Nat.lt_of_lt_of_le (Heap.lt_size e) I.ok.above))).trans e1⟩
  ·by_cases hj : j = i
   ·subst hj
    rw [hi] at e1; cases e1
    rw [List.getElem?_set_self hiσ] at e2
    cases e2
    exact ⟨u, r, .inl ⟨hk, by simp⟩⟩
   ·rw [List.getElem?_set_ne (Ne.symm hj)] at e2
    obtain ⟨u', r', q⟩ := hl j y v' e1 e2 e3
    refine ⟨u', r', ?_⟩
    rcases q with ⟨k, e⟩ | ⟨k, c, e, z⟩
    ·refine .inl ⟨k, ?_⟩
     have : y ≠ x := fun e => hj (nodup_ix hN e1 (e ▸ hi))
     simp [this, e]
    ·exact .inr ⟨k, c, e, z.sameBut hs (cne y c e)⟩
  ·obtain ⟨w', z⟩ := I.cell y c e
   exact ⟨w', z.sameBut hs (cne y c e)⟩
  ·obtain ⟨e, n, ne, nf, d⟩ := I.pin p hp
   exact ⟨(hs.2 p.1 ne).trans e, n, ne, nf, d⟩
 ·have hfn : X.fn x = true := by
   rcases hf with z | z
   ·exact z
   ·rw [z] at hk; cases hk
  obtain ⟨c, hc⟩ := I.ok.has x (.inl hk)
  obtain ⟨w', z⟩ := I.cell x c hc
  refine wpAny_storeName_cell I.ok.kind hk hc z (fun h' hc' hs => ?_)
  obtain ⟨oc, hoc, hocd⟩ := id z
  refine h { s with heap := h' } ⟨I.ok, I.os, I.bare, ⟨fun b o e n hb hx => ?_, fun b o e n hb hx => ?_, I.base.free, fun b o e hx => ?_, I.base.tups, I.base.frzs, I.base.tbls⟩, ⟨m, hn.sameBut hs (Ne.symm (cne x c hc)), fun j y v' e1 e2 e3 => ?_⟩, fun y c' e => ?_, I.free, I.freeC, fun p hp => ?_, tracked ⟨oc, hoc, I.freeC x c hc⟩ hs, by simpa using I.len⟩ ⟨c, hs, .inr hc⟩
  ·exact (hs.2 b (Nat.ne_of_lt (Nat.lt_of_lt_of_le (Heap.lt_size e) (I.ok.cab x c hfn hc)))).trans (I.base.keep b o e n hb hx)
  ·obtain ⟨sl, e1⟩ := I.base.slot b o e n hb hx
   exact ⟨sl, (hs.2 b (Nat.ne_of_lt (Nat.lt_of_lt_of_le (Heap.lt_size e) (I.ok.cab x c hfn hc)))).trans e1⟩
  ·obtain ⟨o', e1⟩ := I.base.there b o e hx
   exact ⟨o', (hs.2 b (Nat.ne_of_lt (Nat.lt_of_lt_of_le (Heap.lt_size e) (I.ok.cab x c hfn hc)))).trans e1⟩
  ·by_cases hj : j = i
   ·subst hj
    rw [hi] at e1; cases e1
    rw [List.getElem?_set_self hiσ] at e2
    cases e2
    exact ⟨u, r, .inr ⟨.inl hk, c, hc, hc'⟩⟩
   ·rw [List.getElem?_set_ne (Ne.symm hj)] at e2
    obtain ⟨u', r', q⟩ := hl j y v' e1 e2 e3
    refine ⟨u', r', ?_⟩
    rcases q with q | ⟨k, c', e, z'⟩
    ·exact .inl q
    ·refine .inr ⟨k, c', e, z'.sameBut hs ?_⟩
     rintro rfl
     exact hj (nodup_ix hN e1 (I.ok.inj _ _ _ e hc ▸ hi))
  ·by_cases hcc : c' = c
   ·subst hcc; exact ⟨_, hc'⟩
   ·obtain ⟨w2, z2⟩ := I.cell y c' e
    exact ⟨w2, z2.sameBut hs hcc⟩
  ·obtain ⟨e, n, ne, nf, d⟩ := I.pin p hp
   refine ⟨(hs.2 p.1 ?_).trans e, n, ne, nf, d⟩
   intro q
   rw [q, hoc] at e
   have q' : oc = p.2 := Option.some.inj e
   exact d w' (by rw [<- q']; exact hocd)
theorem store_ok {M : Model} {A : Around} {E : Value -> Shared -> Prop} {i : Nat} {x : Str} {v : V} {u : Value} {Q : Unit -> Shared -> Prop} (I : Inv X pins σ H s) (hN : X.N.Nodup) (hi : X.N[i]? = some x) (hx : Loc X.env.scope x) (r : RelV v u)
  (h : ∀ s', Inv X pins (σ.set i (some v)) H s' -> Q () s') (hf : X.fn x = true ∨ X.env.scope.names.lookup x = some .local := by first | exact .inl rfl | exact .inr rfl | assumption) : wpAny M A (storeName X.env x u) Q E s :=
 store_ok2 I hN hi hx r (fun s' I' _ => h s' I') hf
theorem Inv.call' {s' : Shared} {ch : List Addr} (I : Inv X pins σ H s) (ho : s'.os = s.os) (u : Un (frs X.stack) ch H H' s.heap s'.heap) (hok : HOk X.prog X.w H' s'.heap) (hg : AllBare s'.gens)
  (hch : ∀ b ∈ ch, (b ∈ X.ex ∨ X.s₀.heap.objs.size <= b) /\ b ≠ X.env.locals /\ (∀ x c, X.env.cells.lookup x = some c -> c ≠ b) /\ ∀ p ∈ X.pn ++ pins, p.1 ≠ b) : Inv X pins σ H' s' := by
 obtain ⟨h', g', d', t', o'⟩ := s'
 have e : o' = s.os := ho
 subst e
 exact I.call (g' := g') (t' := t') (d' := d') u hok hg hch
end
noncomputable abbrev XK := Value -> Option Addr -> Hp -> Prop
noncomputable abbrev St := List (Option V)
noncomputable abbrev VK := V -> Hp -> Prop
noncomputable abbrev TE := St -> Hp -> VK -> Prop
noncomputable abbrev TT := St -> Hp -> (Bool -> Hp -> Prop) -> Prop
noncomputable abbrev TA := St -> Hp -> (List V -> Hp -> Prop) -> Prop
structure Ends where
 nx : St -> Hp -> Prop
 rt : VK
 bk : St -> Hp -> Prop := fun _ _ => False
 ct : St -> Hp -> Prop := fun _ _ => False
noncomputable abbrev TS := Ends -> St -> Hp -> Prop
noncomputable def EP (X : Cx) (pins : List (Addr × Obj)) (σ : St) (Q : VK) (u : Value) (s' : Shared) : Prop := ∃ v H', Inv X pins σ H' s' /\ RelV v u /\ Q v H'
noncomputable def TP (X : Cx) (pins : List (Addr × Obj)) (σ : St) (Q : Bool -> Hp -> Prop) (b : Bool) (s' : Shared) : Prop := ∃ H', Inv X pins σ H' s' /\ Q b H'
noncomputable def AP (X : Cx) (pins : List (Addr × Obj)) (σ : St) (Q : List V -> Hp -> Prop) (us : List Value) (s' : Shared) : Prop := ∃ vs H', Inv X pins σ H' s' /\ Vals vs us /\ Q vs H'
noncomputable def SP (X : Cx) (pins : List (Addr × Obj)) (D : Ends) (f : Flow) (s' : Shared) : Prop :=
 match f with
 | .next => ∃ σ' H', Inv X pins σ' H' s' /\ D.nx σ' H'
 | .brk => ∃ σ' H', Inv X pins σ' H' s' /\ D.bk σ' H'
 | .cont => ∃ σ' H', Inv X pins σ' H' s' /\ D.ct σ' H'
 | .ret u => ∃ v σ' H', Inv X pins σ' H' s' /\ RelV v u /\ D.rt v H'
noncomputable def PE (X : Cx) (e : Expr) (t : TE) : Prop :=
 ∀ (pins : List (Addr × Obj)) (s : Shared) (σ : St) (H : Hp) (Q : VK), Inv X pins σ H s -> t σ H Q -> wpAny (model X.prog X.w) X.A (eval e X.env) (EP X pins σ Q) X.xe s
noncomputable def PT (X : Cx) (e : Expr) (t : TT) : Prop :=
 ∀ (pins : List (Addr × Obj)) (s : Shared) (σ : St) (H : Hp) (Q : Bool -> Hp -> Prop), Inv X pins σ H s -> t σ H Q -> wpAny (model X.prog X.w) X.A (isTrue e X.env (eval e X.env)) (TP X pins σ Q) X.xe s
noncomputable def PW (X : Cx) (e : Expr) (t : TT) : Prop :=
 ∀ (whole : Sem Value) (pins : List (Addr × Obj)) (s : Shared) (σ : St) (H : Hp) (Q : Bool -> Hp -> Prop), Inv X pins σ H s -> t σ H Q -> wpAny (model X.prog X.w) X.A (isTrue e X.env whole) (TP X pins σ Q) X.xe s
theorem PW.pt {X : Cx} {e : Expr} {t : TT} (h : PW X e t) : PT X e t := h _
noncomputable def PA (X : Cx) (es : List Expr) (t : TA) : Prop :=
 ∀ (pos : Pos) (pins : List (Addr × Obj)) (s : Shared) (σ : St) (H : Hp) (Q : List V -> Hp -> Prop), Inv X pins σ H s -> t σ H Q -> wpAny (model X.prog X.w) X.A (spliced (backTo pos (starEach es X.env))) (AP X pins σ Q) X.xe s
noncomputable def PS (X : Cx) (st : Stmt) (t : TS) : Prop :=
 ∀ (pins : List (Addr × Obj)) (s : Shared) (σ : St) (H : Hp) (D : Ends), Inv X pins σ H s -> t D σ H -> wpAny (model X.prog X.w) X.A (exec st X.env) (SP X pins D) X.xe s
noncomputable def PSs (X : Cx) (st : List Stmt) (t : TS) : Prop :=
 ∀ (pins : List (Addr × Obj)) (s : Shared) (σ : St) (H : Hp) (D : Ends), Inv X pins σ H s -> t D σ H -> wpAny (model X.prog X.w) X.A (execs st X.env) (SP X pins D) X.xe s
theorem thn {α : Type} {t : Sem α} {Q Q' : α -> Shared -> Prop} {M : Model} {A : Around} {E : Value -> Shared -> Prop} {s : Shared} (h : wpAny M A t Q E s) (hQ : ∀ a s, Q a s -> Q' a s) : wpAny M A t Q' E s := wpAny_mono h hQ fun _ _ x => x
end L2
namespace L2
open PySem PySem.Spec PyProof.Rows
section
variable {X : Cx}
noncomputable def tVar (i : Nat) : TE := fun σ H Q => ∃ v, σ[i]? = some (some v) /\ Q v H
noncomputable def tC (v : V) : TE := fun _ H Q => Q v H
theorem pe_var {i : Nat} {x : Str} {pos : Pos} (hN : X.N[i]? = some x) (hv : Vis X.env.scope x) (hd : (x == ("__debug__" : Str)) = false := by decide) (hcd : (x == ("__classdict__" : Str)) = false := by decide) : PE X (.Name x pos) (tVar i) := by
 intro pins s σ H Q I h
 obtain ⟨v, e, h⟩ := h
 obtain ⟨m, hn, hl⟩ := I.loc
 obtain ⟨u, r, l⟩ := hl i x v hN e hv
 have fin : EP X pins σ Q u s := ⟨v, H, I, r, h⟩
 rcases l with ⟨hk, hm⟩ | ⟨hk, c, hc, hcell⟩
 ·exact wpAny_Name (wpAny_loadName_local I.ok.kind hk hn hm fin) hd
 ·rcases hk with hk | hk
  ·exact wpAny_Name (wpAny_loadName_cell I.ok.kind hk hc hcell fin) hd
  ·exact wpAny_Name (wpAny_loadName_free I.ok.kind hk hc hcell fin hcd) hd
theorem pe_int {i j pos} : PE X (.Constant (.int i) j pos) (tC (.int i)) := fun _ _ _ H _ I h => wpAny_Constant_int ⟨.int i, H, I.tok _, ⟨_, rfl⟩, h⟩
theorem pe_bl {b j pos} : PE X (.Constant (.bool b) j pos) (tC (.bl b)) := fun _ _ _ H _ I h => Constant_bool ⟨.bl b, H, I, rfl, h⟩
theorem pe_non {j pos} : PE X (.Constant .none j pos) (tC .non) := fun _ _ _ H _ I h => Constant_none ⟨.non, H, I, rfl, h⟩
theorem pe_str {x j pos} : PE X (.Constant (.str x) j pos) (tC (.str x)) := fun _ _ _ H _ I h => Calls.Constant_str ⟨.str x, H, I.tok _, ⟨_, rfl⟩, h⟩
noncomputable def Gl (X : Cx) (x : Str) : Prop := X.env.kindOf x = some .globalImplicit
theorem ld_glob {E : Value -> Shared -> Prop} {pins : List (Addr × Obj)} {s : Shared} {σ : St} {H : Hp} {x : Str} {u : Value} {pos : Pos} {Q : Value -> Shared -> Prop} (I : Inv X pins σ H s) (hg : Gl X x) (hm : X.mg x = some u) (h : Q u s)
  (hd : (x == ("__debug__" : Str)) = false := by decide) : wpAny (model X.prog X.w) X.A (eval (.Name x pos) X.env) Q E s :=
 Calls.Name_function_global I.ok.kind hg (Calls.loadGlobal_global (by rw [I.ok.glob]; exact I.mod.glob.keeps I.bk) hm h) hd
theorem ld_blt {E : Value -> Shared -> Prop} {pins : List (Addr × Obj)} {s : Shared} {σ : St} {H : Hp} {x : Str} {u : Value} {pos : Pos} {Q : Value -> Shared -> Prop} (I : Inv X pins σ H s) (hg : Gl X x) (hm : X.mg x = none) (hv : bootBuiltins x = some u) (h : Q u s)
  (hn : x ≠ "__name__" := by decide) (hd : (x == ("__debug__" : Str)) = false := by decide) : wpAny (model X.prog X.w) X.A (eval (.Name x pos) X.env) Q E s := by
 obtain ⟨mb, h1, h2⟩ := I.mod.blt
 exact Calls.Name_function_global I.ok.kind hg (Calls.loadGlobal_builtin (by rw [I.ok.glob]; exact I.mod.glob.keeps I.bk) hm (by rw [I.ok.blt]; exact h1.keeps I.bk) ((h2 x hn).trans hv) h) hd
theorem pe_glob {x : Str} {v : V} {u : Value} {pos : Pos} (hg : Gl X x) (hm : X.mg x = some u) (r : RelV v u) (hd : (x == ("__debug__" : Str)) = false := by decide) : PE X (.Name x pos) (tC v) :=
 fun _ _ _ H _ I h => ld_glob I hg hm ⟨v, H, I, r, h⟩ hd
theorem pe_bltn {x : Str} {v : V} {u : Value} {pos : Pos} (hg : Gl X x) (hm : X.mg x = none) (hv : bootBuiltins x = some u) (r : RelV v u) (hn : x ≠ "__name__" := by decide) (hd : (x == ("__debug__" : Str)) = false := by decide) : PE X (.Name x pos) (tC v) :=
 fun _ _ _ H _ I h => ld_blt I hg hm hv ⟨v, H, I, r, h⟩ hn hd
variable {a b : Expr} {ta tb : TE} {pos : Pos}
noncomputable def tB (t : TE) : TT := fun σ H Q => t σ H fun x H1 => ∃ c, x = .bl c /\ Q c H1
theorem pt_val {e : Expr} {t : TE} (h : PE X e t) (he : ∀ whole, isTrue e X.env whole = (do let v <- whole; standAt e.pos; holding [v] (truthy v)) := by intro _; rfl) : PT X e (tB t) := by
 intro pins s σ H Q I hw
 refine isTrue_plain (thn (h pins s σ H _ I hw) fun v s1 ⟨x, H1, I1, r1, q1⟩ => ?_) (he _)
 obtain ⟨d, rfl, q⟩ := q1
 cases r1
 exact wpAny_truthy_bool ⟨H1, I1, q⟩
variable {tA tB' : TT} {rest : List Expr}
noncomputable def tAnd (t u : TT) : TT := fun σ H Q => t σ H fun c H1 => if c = true then u σ H1 Q else Q false H1
noncomputable def tOr (t u : TT) : TT := fun σ H Q => t σ H fun c H1 => if c = true then Q true H1 else u σ H1 Q
noncomputable def tNot (t : TT) : TT := fun σ H Q => t σ H fun c H1 => Q (!c) H1
theorem pw_and1 (ha : PT X a tA) : PW X (.BoolOp .And [a] pos) tA := by
 intro wh pins s σ H Q I h
 refine isTrue_and (thn (ha pins s σ H Q I h) fun c s1 e => ?_)
 cases c with
 | true => exact isTrue_and_nil e
 | false => exact e
theorem pw_or1 (ha : PT X a tA) : PW X (.BoolOp .Or [a] pos) tA := by
 intro wh pins s σ H Q I h
 refine isTrue_or (thn (ha pins s σ H Q I h) fun c s1 e => ?_)
 cases c with
 | false => exact isTrue_or_nil e
 | true => exact e
theorem pw_and (ha : PT X a tA) (hb : PW X (.BoolOp .And (b :: rest) pos) tB') : PW X (.BoolOp .And (a :: b :: rest) pos) (tAnd tA tB') := by
 intro wh pins s σ H Q I h
 refine isTrue_and (thn (ha pins s σ H _ I h) fun c s1 ⟨H1, I1, q1⟩ => ?_)
 cases c with
 | true => exact hb wh pins s1 σ H1 Q I1 q1
 | false => exact ⟨H1, I1, q1⟩
theorem pw_or (ha : PT X a tA) (hb : PW X (.BoolOp .Or (b :: rest) pos) tB') : PW X (.BoolOp .Or (a :: b :: rest) pos) (tOr tA tB') := by
 intro wh pins s σ H Q I h
 refine isTrue_or (thn (ha pins s σ H _ I h) fun c s1 ⟨H1, I1, q1⟩ => ?_)
 cases c with
 | true => exact ⟨H1, I1, q1⟩
 | false => exact hb wh pins s1 σ H1 Q I1 q1
theorem pt_not (ha : PT X a tA) : PT X (.UnaryOp .Not a pos) (tNot tA) := by
 intro pins s σ H Q I h
 exact isTrue_not (ha pins s σ H (fun c H1 => Q (!c) H1) I h)
noncomputable def tAndV (ta tb : TE) : TE := fun σ H Q => ta σ H fun x H1 => ∃ c, x = .bl c /\ if c = true then tb σ H1 Q else Q (.bl false) H1
noncomputable def tNotV (ta : TE) : TE := fun σ H Q => ta σ H fun x H1 => ∃ c, x = .bl c /\ Q (.bl (!c)) H1
theorem pe_one {op} {t : TE} (h : PE X a t) : PE X (.BoolOp op [a] pos) t := fun pins s σ H Q I hw => BoolOp_one (h pins s σ H Q I hw)
theorem pe_and (ha : PE X a ta) (hb : PE X (.BoolOp .And (b :: rest) pos) tb) : PE X (.BoolOp .And (a :: b :: rest) pos) (tAndV ta tb) := by
 intro pins s σ H Q I h
 refine BoolOp_and (thn (ha pins s σ H _ I h) fun v s1 ⟨x, H1, I1, r1, q1⟩ => ?_)
 obtain ⟨c, rfl, q1⟩ := q1
 cases r1
 refine wpAny_truthy_bool ?_
 cases c with
 | true => exact hb pins s1 σ H1 Q I1 q1
 | false => exact ⟨.bl false, H1, I1, rfl, q1⟩
theorem pe_not (ha : PE X a ta) : PE X (.UnaryOp .Not a pos) (tNotV ta) := by
 intro pins s σ H Q I h
 refine UnaryOp_ (thn (ha pins s σ H _ I h) fun v s1 ⟨x, H1, I1, r1, q1⟩ => ?_)
 obtain ⟨c, rfl, q1⟩ := q1
 cases r1
 exact not_of (wpAny_truthy_bool ⟨.bl (!c), H1, I1, rfl, q1⟩)
noncomputable def tIf (t : TT) (ta tb : TE) : TE := fun σ H Q => t σ H fun c H1 => if c = true then ta σ H1 Q else tb σ H1 Q
theorem pe_ifExp {c : Expr} (hc : PT X c tA) (ha : PE X a ta) (hb : PE X b tb) : PE X (.IfExp c a b pos) (tIf tA ta tb) := by
 intro pins s σ H Q I h
 refine wpAny_IfExp (thn (hc pins s σ H _ I h) fun d s1 ⟨H1, I1, q1⟩ => ?_)
 cases d with
 | true => exact ha pins s1 σ H1 Q I1 q1
 | false => exact hb pins s1 σ H1 Q I1 q1
end
end L2
namespace L2
open PySem PySem.Spec PyProof.Rows
noncomputable def SqL (K : PySem.W.Frag) (H : Hp) (a : Addr) (xs : List V) : Prop :=
 Rd H a (.lst xs) ∨
  ∃ (o : Obj) (its : Array Value) (n : Nat), K.lookup a = some o /\ o.cls = .type "list" /\ o.dict = none /\ o.data = .seq its n /\ its.size <= sizeLine /\ Vals xs its.toList
noncomputable def SqT (K : PySem.W.Frag) (H : Hp) (a : Addr) (xs : List V) : Prop :=
 Rd H a (.tup xs) ∨
  ∃ (o : Obj) (its : Array Value) (n : Nat), K.lookup a = some o /\ o.cls = .type "tuple" /\ o.data = .seq its n /\ its.size <= sizeLine /\ Vals xs its.toList
noncomputable def absV : Value -> Option V
 | .none => some .non
 | .bool b => some (.bl b)
 | .int i _ => some (.int i)
 | .str x _ => some (.str x)
 | .bytes b _ => some (.byt b)
 | .float b _ => some (.flt b)
 | .ref a => some (.ref a)
 | .type n => some (.ty n)
 | _ => none
theorem RelV.abs {x : V} {u : Value} (r : RelV x u) : absV u = some x := by
 cases x with
 | non => cases r; rfl
 | bl _ => cases r; rfl
 | int _ => obtain ⟨t, rfl⟩ := r; rfl
 | str _ => obtain ⟨t, rfl⟩ := r; rfl
 | byt _ => obtain ⟨t, rfl⟩ := r; rfl
 | flt _ => obtain ⟨t, rfl⟩ := r; rfl
 | ref _ => cases r; rfl
 | ty _ => cases r; rfl
theorem RelV.inj {x y : V} {u : Value} (r : RelV x u) (q : RelV y u) : x = y := Option.some.inj (r.abs.symm.trans q.abs)
theorem Vals.inj : ∀ {xs ys : List V} {us : List Value}, Vals xs us -> Vals ys us -> xs = ys
 | _, _, _, .nil, .nil => rfl
 | _, _, _, .cons r t, .cons r' t' => by rw [r.inj r', Vals.inj t t']
section
variable {X : Cx} {pins : List (Addr × Obj)} {σ : St} {H : Hp} {s : Shared} {a : Addr} {xs ys : List V}
theorem SqL.of {K : PySem.W.Frag} (h : H a = some (.lst xs)) : SqL K H a xs := .inl (.inl h)
theorem SqT.of {K : PySem.W.Frag} (h : H a = some (.tup xs)) : SqT K H a xs := .inl (.inl h)
theorem Inv.list (I : Inv X pins σ H s) (h : SqL X.K H a xs) : ∃ its : List Value, Vals xs its /\ PlainL s.heap a its.toArray /\ xs.length <= sizeLine := by
 rcases h with h | ⟨o, its, n, hk, hc, hd, hs, hz, r⟩
 ·obtain ⟨z, its, n, r, e⟩ := h.ok I.hok
  exact ⟨its, r, ⟨_, n, e, rfl, rfl, rfl⟩, z⟩
 ·refine ⟨its.toList, r, ⟨o, n, I.kIn a o hk, hc, hd, by simpa using hs⟩, ?_⟩
  have e := r.length
  simp only [Array.length_toList] at e
  (first | lia | omega)
theorem Inv.tuple (I : Inv X pins σ H s) (h : SqT X.K H a xs) : ∃ its : List Value, Vals xs its /\ IsTup s.heap a its.toArray /\ xs.length <= sizeLine := by
 rcases h with h | ⟨o, its, n, hk, hc, hs, hz, r⟩
 ·obtain ⟨z, its, r, p⟩ := h.ok I.hok
  exact ⟨its, r, p.tup, z⟩
 ·refine ⟨its.toList, r, ⟨o, I.kIn a o hk, hc, n, by simpa using hs⟩, ?_⟩
  have e := r.length
  simp only [Array.length_toList] at e
  (first | lia | omega)
theorem Inv.list_inj (I : Inv X pins σ H s) (h : SqL X.K H a xs) (h' : SqL X.K H a ys) : xs = ys := by
 obtain ⟨its, r, ⟨o, n, e, _, _, d⟩, _⟩ := I.list h
 obtain ⟨its', r', ⟨o', n', e', _, _, d'⟩, _⟩ := I.list h'
 rw [e] at e'; cases e'
 rw [d] at d'
 injection d' with d1 _
 have : its = its' := by simpa using congrArg Array.toList d1
 subst this
 exact r.inj r'
theorem Inv.tuple_inj (I : Inv X pins σ H s) (h : SqT X.K H a xs) (h' : SqT X.K H a ys) : xs = ys := by
 obtain ⟨its, r, ⟨o, e, _, n, d⟩, _⟩ := I.tuple h
 obtain ⟨its', r', ⟨o', e', _, n', d'⟩, _⟩ := I.tuple h'
 rw [e] at e'; cases e'
 rw [d] at d'
 injection d' with d1 _
 have : its = its' := by simpa using congrArg Array.toList d1
 subst this
 exact r.inj r'
end
noncomputable abbrev Cx.wish (X : Cx) (E : Value -> Shared -> Prop) : Cx := { X with xe := E }
noncomputable abbrev Cx.nox (X : Cx) : Cx := X.wish fun _ _ => False
theorem Cx.Ok.wish {X : Cx} (ok : X.Ok) (E : Value -> Shared -> Prop) : (X.wish E).Ok :=
 ⟨ok.mod, ok.kind, ok.glob, ok.blt, ok.above, ok.inj, ok.has, ok.cab, ok.hd, ok.frames, ok.stk, ok.exf, ok.bs, ok.bsz, ok.noex, ok.exfs, ok.funs, ok.frf⟩
theorem Cx.Ok.unwish {X : Cx} {E : Value -> Shared -> Prop} (ok : (X.wish E).Ok) : X.Ok :=
 ⟨ok.mod, ok.kind, ok.glob, ok.blt, ok.above, ok.inj, ok.has, ok.cab, ok.hd, ok.frames, ok.stk, ok.exf, ok.bs, ok.bsz, ok.noex, ok.exfs, ok.funs, ok.frf⟩
section
variable {X : Cx} {pins : List (Addr × Obj)} {σ : St} {H : Hp} {s : Shared} {E : Value -> Shared -> Prop}
theorem Inv.wish (I : Inv X pins σ H s) (E : Value -> Shared -> Prop) : Inv (X.wish E) pins σ H s := ⟨I.ok.wish E, I.os, I.bare, I.base, I.loc, I.cell, I.free, I.freeC, I.pin, I.hok, I.len⟩
theorem Inv.unwish (I : Inv (X.wish E) pins σ H s) : Inv X pins σ H s := ⟨I.ok.unwish, I.os, I.bare, I.base, I.loc, I.cell, I.free, I.freeC, I.pin, I.hok, I.len⟩
theorem SP.unwish {D : Ends} {f : Flow} {s' : Shared} (h : SP (X.wish E) pins D f s') : SP X pins D f s' := by
 cases f with
 | next => obtain ⟨σ', H', I, q⟩ := h; exact ⟨σ', H', I.unwish, q⟩
 | brk => obtain ⟨σ', H', I, q⟩ := h; exact ⟨σ', H', I.unwish, q⟩
 | cont => obtain ⟨σ', H', I, q⟩ := h; exact ⟨σ', H', I.unwish, q⟩
 | ret u => obtain ⟨v, σ', H', I, r, q⟩ := h; exact ⟨v, σ', H', I.unwish, r, q⟩
theorem PSs.nox {st : List Stmt} {t : TS} (h : PSs X.nox st t) : PSs X st t := fun pins s σ H D I hw =>
 wpAny_mono (h pins s σ H D (I.wish _) hw) (fun _ _ q => q.unwish) fun _ _ z => False.elim z
end
section
variable {X : Cx} {st : Stmt} {rest : List Stmt} {t u : TS} {e : Expr} {te : TE} {pos : Pos}
noncomputable def tNext : TS := fun D σ H => D.nx σ H
noncomputable def tSeq (t u : TS) : TS := fun D σ H => t { D with nx := u D } σ H
theorem pss_nil : PSs X [] tNext := fun _ _ σ H _ I h => wpAny_execs_nil ⟨σ, H, I, h⟩
theorem pss_cons (h1 : PS X st t) (h2 : PSs X rest u) : PSs X (st :: rest) (tSeq t u) := by
 intro pins s σ H D I h
 refine wpAny_execs_cons (thn (h1 pins s σ H { D with nx := u D } I h) fun f s1 q => ?_)
 cases f with
 | next =>
  obtain ⟨σ', H', I', q⟩ := q
  exact h2 pins s1 σ' H' D I' q
 | ret v => exact q
 | brk => exact q
 | cont => exact q
theorem pss_one (h1 : PS X st t) : PSs X [st] t := by
 intro pins s σ H D I h
 refine wpAny_execs_cons (thn (h1 pins s σ H D I h) fun f s1 q => ?_)
 cases f with
 | next => exact wpAny_execs_nil q
 | ret v => exact q
 | brk => exact q
 | cont => exact q
theorem Inv.quiet {pins : List (Addr × Obj)} {σ : St} {H : Hp} {s : Shared} (I : Inv X pins σ H s) : interactive X.env = false := by simp [interactive, I.ok.kind]
noncomputable def tDrop (te : TE) : TS := fun D σ H => te σ H fun _ H1 => D.nx σ H1
theorem ps_expr (he : PE X e te) (hs : swapsWith e none pos.line X.env = pure false := by rfl) : PS X (.Expr e pos) (tDrop te) := by
 intro pins s σ H D I h
 exact wpAny_Expr_any (thn (he pins s σ H _ I h) fun v s1 ⟨x, H1, I1, r1, q1⟩ => ⟨σ, H1, I1, q1⟩) I.quiet hs
noncomputable def tRet (te : TE) : TS := fun D σ H => te σ H D.rt
theorem ps_ret (he : PE X e te) : PS X (.Return (some e) pos) (tRet te) := by
 intro pins s σ H D I h
 exact wpAny_Return_some (thn (he pins s σ H _ I h) fun v s1 ⟨x, H1, I1, r1, q1⟩ => ⟨x, σ, H1, I1, r1, q1⟩)
noncomputable def tIfS (c : TT) (t u : TS) : TS := fun D σ H => c σ H fun b H1 => if b = true then t D σ H1 else u D σ H1
theorem ps_if {c : Expr} {a b : List Stmt} {tc : TT} (hc : PT X c tc) (ha : PSs X a t) (hb : PSs X b u) : PS X (.If c a b pos) (tIfS tc t u) := by
 intro pins s σ H D I h
 refine wpAny_If (thn (hc pins s σ H _ I h) fun d s1 ⟨H1, I1, q1⟩ => ?_)
 cases d with
 | true => exact ha pins s1 σ H1 D I1 q1
 | false => exact hb pins s1 σ H1 D I1 q1
end
noncomputable abbrev TG := V -> St -> Hp -> (St -> Hp -> Prop) -> Prop
noncomputable abbrev TGs := List V -> St -> Hp -> (St -> Hp -> Prop) -> Prop
noncomputable def PG (X : Cx) (target : Expr) (t : TG) : Prop :=
 ∀ (pins : List (Addr × Obj)) (s : Shared) (σ : St) (H : Hp) (v : V) (u : Value) (Q : St -> Hp -> Prop), Inv X pins σ H s -> RelV v u -> t v σ H Q ->
  wpAny (model X.prog X.w) X.A (assign target X.env u) (fun _ s' => ∃ σ' H', Inv X pins σ' H' s' /\ Q σ' H') X.xe s
noncomputable def PGs (X : Cx) (ts : List Expr) (t : TGs) : Prop :=
 ∀ (pins : List (Addr × Obj)) (s : Shared) (σ : St) (H : Hp) (vs : List V) (us : List Value) (Q : St -> Hp -> Prop), Inv X pins σ H s -> Vals vs us -> t vs σ H Q ->
  wpAny (model X.prog X.w) X.A (assignInOrder ((assignEach ts X.env).map (·.2)) us) (fun _ s' => ∃ σ' H', Inv X pins σ' H' s' /\ Q σ' H') X.xe s
noncomputable abbrev TSet := V -> V -> V -> Hp -> (Hp -> Prop) -> Prop
noncomputable def PSet (X : Cx) (t : TSet) : Prop :=
 ∀ (pins : List (Addr × Obj)) (s : Shared) (σ : St) (H : Hp) (o i v : V) (ov iv u : Value) (Q : Hp -> Prop), Inv X pins σ H s -> RelV o ov -> RelV i iv -> RelV v u -> t o i v H Q ->
  wpAny (model X.prog X.w) X.A (setItem ov iv u) (fun _ s' => ∃ H', Inv X pins σ H' s' /\ Q H') X.xe s
section
variable {X : Cx} {pos : Pos}
noncomputable def gName (i : Nat) : TG := fun v σ H Q => Q (σ.set i (some v)) H
theorem pg_name {i : Nat} {x : Str} (hN : X.N.Nodup) (hi : X.N[i]? = some x) (hx : Loc X.env.scope x) (hf : X.fn x = true ∨ X.env.scope.names.lookup x = some .local := by first | exact .inl rfl | exact .inr rfl | assumption) : PG X (.Name x pos) (gName i) := by
 intro pins s σ H v u Q I r h
 exact wpAny_assign_Name (store_ok I hN hi hx r (fun s' I' => ⟨_, H, I', h⟩) hf)
noncomputable def gNil : TGs := fun vs σ H Q => vs = [] /\ Q σ H
noncomputable def gCons (t : TG) (u : TGs) : TGs := fun vs σ H Q => ∃ v r, vs = v :: r /\ t v σ H fun σ' H' => u r σ' H' Q
theorem pgs_nil : PGs X [] gNil := by
 intro pins s σ H vs us Q I r h
 obtain ⟨e, h⟩ := h
 subst e
 cases r
 exact assignInOrder_nil ⟨σ, H, I, h⟩
theorem pgs_cons {e : Expr} {es : List Expr} {t : TG} {u : TGs} (h1 : PG X e t) (h2 : PGs X es u)
  (hs : (assignEach (e :: es) X.env).map (·.2) = assign e X.env :: (assignEach es X.env).map (·.2) := by rfl) : PGs X (e :: es) (gCons t u) := by
 intro pins s σ H vs us Q I r h
 obtain ⟨v, vr, e1, h⟩ := h
 subst e1
 cases r with
 | cons r rr =>
  rw [hs]
  refine assignInOrder_cons (thn (h1 pins s σ H _ _ _ I r h) fun _ s1 ⟨σ1, H1, I1, q1⟩ => ?_)
  exact h2 pins s1 σ1 H1 _ _ Q I1 rr q1
noncomputable def gTup (K : PySem.W.Frag) (n : Nat) (t : TGs) : TG := fun v σ H Q => ∃ a xs, v = .ref a /\ SqT K H a xs /\ xs.length = n /\ t xs σ H Q
theorem pg_tup {es : List Expr} {k : Nat} {t : TGs} {n : Nat} (hc : X.calm = true) (h : PGs X es t)
  (hn : (assignEach es X.env).length = n := by rfl) (hst : (assignEach es X.env).findIdx? (·.1) = none := by rfl) : PG X (.Tuple es k pos) (gTup X.K n t) := by
 intro pins s σ H v u Q I r hw
 obtain ⟨a, xs, e1, hq, hl, hw⟩ := hw
 subst e1
 cases r
 obtain ⟨its, rv, ht, hz⟩ := I.tuple hq
 refine assign_Tuple_tuple (I.ok.hd hc) ht (by simp [hn, <- hl, rv.length]) hst fun h' hx => ?_
 have I1 : Inv X pins σ H { s with heap := h' } := I.kept (t' := s.toks) fun b o e => hx b o (Nat.ne_of_lt (Heap.lt_size e)) e
 exact h pins _ σ H xs _ Q I1 (by simpa using rv) hw
noncomputable def gSub (to ti : TE) (t : TSet) : TG := fun v σ H Q => to σ H fun o H1 => ti σ H1 fun i H2 => t o i v H2 fun H3 => Q σ H3
theorem pg_sub {o i : Expr} {to ti : TE} {t : TSet} (ho : PE X o to) (hi : PE X i ti) (hs : PSet X t)
  (ha : ∀ v, assign (.Subscript o i pos) X.env v = (do
   let ov <- holding [v] (eval o X.env)
   let iv <- holding [v, ov] (eval i X.env)
   standAt pos
   holding [v, ov, iv] (setItem ov iv v)
   release [v, ov, iv] []) := by intro _; rfl) : PG X (.Subscript o i pos) (gSub to ti t) := by
 intro pins s σ H v u Q I r h
 rw [ha]
 refine wpAny_bind (wpAny_holding (thn (ho pins s σ H _ I h) fun ov s1 ⟨x, H1, I1, r1, q1⟩ => ?_))
 refine wpAny_bind (wpAny_holding (thn (hi pins s1 σ H1 _ I1 q1) fun iv s2 ⟨y, H2, I2, r2, q2⟩ => ?_))
 refine wpAny_bind (wpAny_standAt (wpAny_bind (wpAny_holding (thn (hs pins s2 σ H2 x y v ov iv u _ I2 r1 r2 r q2) fun _ s3 ⟨H3, I3, q3⟩ => ?_))))
 exact wpAny_release ⟨σ, H3, I3, q3⟩
noncomputable def tAsg (te : TE) (g : TG) : TS := fun D σ H => te σ H fun x H1 => g x σ H1 D.nx
theorem ps_asg {tg e : Expr} {te : TE} {g : TG} (he : PE X e te) (hg : PG X tg g) (hs : swapsWithSole [tg] e pos.line X.env = pure false := by rfl) (hw : swappedStores [tg] e X.env = pure none := by rfl)
  (h1 : (assignEach [tg] X.env).map (·.2) = [assign tg X.env] := by rfl) : PS X (.Assign [tg] e pos) (tAsg te g) := by
 intro pins s σ H D I h
 refine wpAny_Assign_stores (thn (he pins s σ H _ I h) fun v s1 ⟨x, H1, I1, r1, q1⟩ => ?_) hs hw
 rw [h1]
 exact thn (hg pins s1 σ H1 x v _ I1 r1 q1) fun _ s2 q => q
theorem ps_set {i : Nat} {x : Str} {e : Expr} {te : TE} {pos' : Pos} (hN : X.N.Nodup) (hi : X.N[i]? = some x) (hx : Loc X.env.scope x) (he : PE X e te) (hs : swapsWith e (some (.Name x pos')) pos.line X.env = pure false := by rfl) (hf : X.fn x = true ∨ X.env.scope.names.lookup x = some .local := by first | exact .inl rfl | exact .inr rfl | assumption) :
  PS X (.Assign [.Name x pos'] e pos) (tAsg te (gName i)) := by
 intro pins s σ H D I h
 refine wpAny_Assign_Name (thn (he pins s σ H _ I h) fun v s1 ⟨y, H1, I1, r1, q1⟩ => ?_) hs
 exact store_ok I1 hN hi hx r1 (fun s2 I2 => ⟨_, H1, I2, q1⟩) hf
noncomputable def tPar (i j : Nat) (ta : TA) : TS := fun D σ H => ta σ H fun vs H1 => ∃ v w, vs = [v, w] /\ D.nx ((σ.set i (some v)).set j (some w)) H1
theorem ps_par {i j : Nat} {x y : Str} {a b : Expr} {ta : TA} {px py pt : Pos} {kt k2 pt2} (hc : X.calm = true) (hN : X.N.Nodup) (hi : X.N[i]? = some x) (hj : X.N[j]? = some y) (hij : i ≠ j)
  (hx : X.env.scope.names.lookup x = some .local) (hy : X.env.scope.names.lookup y = some .local) (ha : PA X [a, b] ta)
  (hw : swappedStores [.Tuple [.Name x px, .Name y py] kt pt] (.Tuple [a, b] k2 pt2) X.env = pure (some [x, y]))
  (hs : swapsWithSole [.Tuple [.Name x px, .Name y py] kt pt] (.Tuple [a, b] k2 pt2) pos.line X.env = pure false := by rfl) :
  PS X (.Assign [.Tuple [.Name x px, .Name y py] kt pt] (.Tuple [a, b] k2 pt2) pos) (tPar i j ta) := by
 intro pins s σ H D I h
 rw [exec_Assign_arm]
 refine wpAny_bind (wpAny_standAt ?_)
 rw [hs]
 refine wpAny_bind (wpAny_pure ?_)
 rw [if_neg (by decide)]
 refine wpAny_bind (Tuple_ (thn (ha _ pins s σ H _ I h) fun us s1 ⟨vs, H1, I1, r1, q1⟩ => ?_))
 obtain ⟨v, w, e1, q1⟩ := q1
 subst e1
 obtain ⟨u1, u2, rfl, rv, rw'⟩ : ∃ u1 u2, us = [u1, u2] /\ RelV v u1 /\ RelV w u2 := by
  cases r1 with
  | cons p q =>
   cases q with
   | cons p' q' =>
    cases q'
    exact ⟨_, _, rfl, p, p'⟩
 refine wpAny_newObj_type ?_ (by show 2 <= sizeLine; decide)
 have I2 : Inv X pins σ H1 { s1 with heap := s1.heap.push { cls := .type "tuple", data := .seq [u1, u2].toArray } } := I1.kept (t' := s1.toks) fun b o e => Heap.get?_push_of_some _ e
 rw [hw]
 refine wpAny_bind (wpAny_pure ?_)
 show wpAny (model X.prog X.w) X.A (do rule "assign.swapped-stores"; let items <- unpackItems (.ref s1.heap.objs.size) 2 none; assignInOrder [fun v => bindName X.env y v, fun v => bindName X.env x v] items.reverse; pure Flow.next) _ _ _
 refine wpAny_bind (wpAny_rule (wpAny_bind (unpackItems_tuple (items := #[u1, u2]) (I.ok.hd hc) (IsTup.new s1.heap _) fun h' hx' => ?_)))
 have I3 := I2.kept (h' := h') (t' := s1.toks) fun b o e => hx' b o (Nat.ne_of_lt (Heap.lt_size e)) e
 show wpAny _ _ (assignInOrder [fun v => bindName X.env y v, fun v => bindName X.env x v] [u2, u1] >>= fun _ => pure Flow.next) _ _ _
 refine wpAny_bind (assignInOrder_cons (wpAny_bindName (store_ok I3 hN hj (.inl hy) rw' (fun s2 I4 => ?_) (.inr hy))))
 refine assignInOrder_cons (wpAny_bindName (store_ok I4 hN hi (.inl hx) rv (fun s3 I5 => assignInOrder_nil (wpAny_pure ?_)) (.inr hx)))
 rw [List.set_comm _ _ (Ne.symm hij)] at I5
 exact ⟨_, H1, I5, q1⟩
end
section
variable {X : Cx} {pos : Pos}
noncomputable def tWhile (c : TT) (tb : TS) : TS := fun D σ H => ∃ W : Nat -> St -> Hp -> Prop, (∃ m, W m σ H) /\ ∀ m σ H, W m σ H ->
 c σ H fun b H1 => if b = true then ∃ N : St -> Hp -> Prop, (∀ σ' H', N σ' H' -> ∃ m', m' < m /\ W m' σ' H') /\ tb { D with nx := N, ct := N, bk := D.nx } σ H1 else D.nx σ H1
theorem ps_while {c : Expr} {body : List Stmt} {tc : TT} {tb : TS} (hp : PassesOwn (model X.prog X.w) X.A X.env X.xe) (hc : PT X c tc) (hb : PSs X body tb) : PS X (.While c body [] pos) (tWhile tc tb) := by
 intro pins s σ H D I h
 obtain ⟨W, ⟨m0, w0⟩, turn⟩ := h
 refine wpAny_While (codeAny_whileLoop (fun n s' => ∃ σ' H', Inv X pins σ' H' s' /\ W n σ' H') ?_ m0 ⟨σ, H, I, w0⟩)
 rintro n s1 ⟨σ1, H1, I1, w1⟩
 refine wpAny_passesOwn hp (thn (hc pins s1 σ1 H1 _ I1 (turn n σ1 H1 w1)) fun b s2 ⟨H2, I2, q2⟩ => ?_)
 cases b with
 | true =>
  obtain ⟨N, hN, q2⟩ := q2
  rw [if_pos rfl]
  refine wpAny_passesOwn hp (thn (hb pins s2 σ1 H2 _ I2 q2) fun f s3 q3 => ?_)
  cases f with
  | next =>
   obtain ⟨σ3, H3, I3, n3⟩ := q3
   obtain ⟨m', hm, w3⟩ := hN σ3 H3 n3
   exact ⟨m', hm, σ3, H3, I3, w3⟩
  | cont =>
   obtain ⟨σ3, H3, I3, n3⟩ := q3
   obtain ⟨m', hm, w3⟩ := hN σ3 H3 n3
   exact ⟨m', hm, σ3, H3, I3, w3⟩
  | brk => exact q3
  | ret v => exact q3
 | false =>
  rw [if_neg Bool.false_ne_true]
  exact wpAny_execs_nil ⟨σ1, H2, I2, q2⟩
end
structure It where
 go : Nat -> Hp -> Prop
 yld : Nat -> Hp -> V -> Hp -> Prop
 stop : Nat -> Hp -> Prop
noncomputable def FpOk (X : Cx) (pins : List (Addr × Obj)) (H : Hp) (b : Addr) : Prop :=
 H b = none /\ b ≠ X.env.locals /\ b ∉ X.fs /\ (b ∈ X.ex ∨ X.s₀.heap.objs.size <= b) /\ (∀ x c, X.env.cells.lookup x = some c -> c ≠ b) /\ ∀ p ∈ X.pn ++ pins, p.1 ≠ b
theorem Inv.fpOk {X : Cx} {pins : List (Addr × Obj)} {σ : St} {H H' : Hp} {s : Shared} {b : Addr} (I : Inv X pins σ H s) (hb : s.heap.objs.size <= b) (hn : H' b = none) : FpOk X pins H' b := by
 refine ⟨hn, Nat.ne_of_gt (Nat.lt_of_lt_of_le I.lt hb), I.nofs hb, .inr (Nat.le_trans I.sz hb), fun x c e z => ?_, fun p hp z => ?_⟩
 ·obtain ⟨v, q⟩ := I.cell x c e
  exact absurd (Nat.lt_of_lt_of_le q.lt (by rw [z]; exact hb)) (Nat.lt_irrefl _)
 ·exact absurd (Nat.lt_of_lt_of_le (Heap.lt_size (I.pin p hp).1) (by rw [z]; exact hb)) (Nat.lt_irrefl _)
structure Turn (P : Program) (w : World) (K : PySem.W.Frag) (tg : Expr) (J : It) (fp : List Addr) (it : Addr) (tn : Nat -> Heap -> Prop) : Prop where
 mem : it ∈ fp
 obj : ∀ i h, tn i h -> ∀ b ∈ fp, ∃ o, h.get? b = some o /\ ∀ v, o.data ≠ .cell v
 keep : ∀ i h h', tn i h -> (∀ b ∈ fp, ∀ o, h.get? b = some o -> h'.get? b = some o) -> tn i h'
 item : ∀ (X : Cx), X.prog = P -> X.w = w -> X.K = K -> X.calm = true -> ∀ (i : Nat) (pins : List (Addr × Obj)) (s : Shared) (σ : St) (H : Hp) (E : Value -> Shared -> Prop), Inv X pins σ H s -> (∀ b ∈ fp, FpOk X pins H b) -> tn i s.heap -> J.go i H ->
  wpAny (model P w) X.A (pyNext (.ref it)) (fun r s1 => ∃ u, r = some u /\
   wpAny (model P w) X.A (letOwnedTupleGo tg (.ref it) u) (fun _ s2 => ∃ x H', Inv X pins σ H' s2 /\ RelV x u /\ J.yld i H x H' /\ tn (i + 1) s2.heap /\ ∀ b ∈ fp, H' b = none) E s1) E s
 done : ∀ (X : Cx), X.prog = P -> X.w = w -> X.K = K -> X.calm = true -> ∀ (i : Nat) (pins : List (Addr × Obj)) (s : Shared) (σ : St) (H : Hp) (E : Value -> Shared -> Prop), Inv X pins σ H s -> (∀ b ∈ fp, FpOk X pins H b) -> tn i s.heap -> J.stop i H ->
  wpAny (model P w) X.A (pyNext (.ref it)) (fun r s1 => r = none /\ Inv X pins σ H s1) E s
 self : ∀ (A : Around) (i : Nat) (s : Shared) (Q : Value -> Shared -> Prop) (E : Value -> Shared -> Prop), tn i s.heap -> Q (.ref it) s -> wpAny (model P w) A (pyIter (.ref it)) Q E s
noncomputable abbrev TI := St -> Hp -> (It -> Hp -> Prop) -> Prop
noncomputable def PIE (X : Cx) (pins : List (Addr × Obj)) (σ : St) (tg : Expr) (R : It -> Hp -> Prop) (itv : Value) (s2 : Shared) : Prop :=
 ∃ (it : Addr) (fp : List Addr) (tn : Nat -> Heap -> Prop) (J : It) (H' : Hp), itv = .ref it /\ Inv X pins σ H' s2 /\ Turn X.prog X.w X.K tg J fp it tn /\ tn 0 s2.heap /\ (∀ b ∈ fp, FpOk X pins H' b) /\ R J H'
noncomputable def PI (X : Cx) (tg iter : Expr) (wi : TI) : Prop :=
 ∀ (pins : List (Addr × Obj)) (s : Shared) (σ : St) (H : Hp) (R : It -> Hp -> Prop), Inv X pins σ H s -> wi σ H R ->
  wpAny (model X.prog X.w) X.A (eval iter X.env) (fun v s1 => wpAny (model X.prog X.w) X.A (pyIter v) (PIE X pins σ tg R) X.xe s1) X.xe s
theorem go_of {M : Model} {A : Around} {E : Value -> Shared -> Prop} {s : Shared} {tg : Expr} {it : Addr} {u : Value} {o : Obj} {n : String} {vs : Array Value} {Q : Unit -> Shared -> Prop} (ho : s.heap.get? it = some o) (hc : o.cls = .type n) (hd : o.data = .fields vs)
    (hn : ["enumerate", "zip", "dict_itemiterator", "dict_reverseitemiterator", "odict_iterator", "itertools.zip_longest", "itertools.pairwise"].contains n = false) (hQ : Q () s) : wpAny M A (letOwnedTupleGo tg (.ref it) u) Q E s := by
  unfold letOwnedTupleGo
  cases tg <;> first
    | exact wpAny_pure hQ
    | (cases u <;> first
        | exact wpAny_pure hQ
        | (refine wpAny_bind (wpAny_load ho ?_)
           rw [hc, hd]
           show wpAny M A (if (["enumerate", "zip", "dict_itemiterator", "dict_reverseitemiterator", "odict_iterator", "itertools.zip_longest", "itertools.pairwise"].contains n && vs[0]? == some (rawInt _)) = true then _ else _) Q E s
           rw [if_neg (by intro h; rw [hn, Bool.false_and] at h; cases h)]
           exact wpAny_pure hQ))
noncomputable def Itl (K : PySem.W.Frag) (a : Addr) : It :=
 ⟨fun i H => ∃ xs x, SqL K H a xs /\ xs[i]? = some x, fun i H x H' => H' = H /\ ∀ xs, SqL K H a xs -> xs[i]? = some x, fun i H => ∃ xs, SqL K H a xs /\ xs.length <= i⟩
noncomputable def Itt (K : PySem.W.Frag) (a : Addr) : It :=
 ⟨fun i H => ∃ xs x, SqT K H a xs /\ xs[i]? = some x, fun i H x H' => H' = H /\ ∀ xs, SqT K H a xs -> xs[i]? = some x, fun i H => ∃ xs, SqT K H a xs /\ xs.length <= i⟩
noncomputable def Itr (lo : Int) (n : Nat) : It := ⟨fun i _ => i < n, fun i H x H' => H' = H /\ x = .int (lo + i), fun i _ => n <= i⟩
theorem turn_list {P : Program} {w : World} {K : PySem.W.Frag} {tg : Expr} (a it : Addr) : Turn P w K tg (Itl K a) [it] it (fun i h => h.IsListIter it a i) where
 mem := by simp
 obj := fun i h st b hb => by
  have e : b = it := by simpa using hb
  subst e
  obtain ⟨o, e, c, d⟩ := st
  exact ⟨o, e, fun v z => by rw [d] at z; cases z⟩
 keep := fun i h h' st k => st.at fun o e => k it (by simp) o e
 item := by
  intro X hP hw hK hc i pins s σ H E I hf st hg
  subst hP hw hK
  obtain ⟨xs, x, hq, hx⟩ := hg
  obtain ⟨its, rv, p, hz⟩ := I.list hq
  obtain ⟨u, hu, ru⟩ := rv.get hx
  obtain ⟨f0, f1, f2, f3, f4, f5⟩ := hf it (by simp)
  refine wpAny_pyNext_list_item st p.isList (x := u) (by simpa using hu) fun h' st' sb => ?_
  have I1 : Inv X pins σ H { s with heap := h' } := I.turned (t' := s.toks) (fun b o hb e => (sb.2 b hb).trans e) f0 f1 f3 f4 f5
  obtain ⟨o, e, c, d⟩ := id st'
  exact ⟨u, rfl, go_of (s := { s with heap := h' }) e c d (by decide) ⟨x, H, I1, ru, ⟨rfl, fun ys hy => by rw [I.list_inj hy hq]; exact hx⟩, st', fun b hb => (hf b hb).1⟩⟩
 done := by
  intro X hP hw hK hc i pins s σ H E I hf st hg
  subst hP hw hK
  obtain ⟨xs, hq, hx⟩ := hg
  obtain ⟨its, rv, p, hz⟩ := I.list hq
  obtain ⟨f0, f1, f2, f3, f4, f5⟩ := hf it (by simp)
  have hl := rv.length
  exact wpAny_pyNext_list_end (I.ok.hd hc) st p.isList (by simp; (first | lia | omega)) fun h' eb => ⟨rfl, I.turned (t' := s.toks) (fun b o hb e => eb b o hb e) f0 f1 f3 f4 f5⟩
 self := fun _ _ _ _ _ st h => wpAny_pyIter_listiter st h
theorem turn_tuple {P : Program} {w : World} {K : PySem.W.Frag} {tg : Expr} (a it : Addr) : Turn P w K tg (Itt K a) [it] it (fun i h => h.IsTupleIter it a i) where
 mem := by simp
 obj := fun i h st b hb => by
  have e : b = it := by simpa using hb
  subst e
  obtain ⟨o, e, c, d⟩ := st
  exact ⟨o, e, fun v z => by rw [d] at z; cases z⟩
 keep := fun i h h' st k => st.at fun o e => k it (by simp) o e
 item := by
  intro X hP hw hK hc i pins s σ H E I hf st hg
  subst hP hw hK
  obtain ⟨xs, x, hq, hx⟩ := hg
  obtain ⟨its, rv, p, hz⟩ := I.tuple hq
  obtain ⟨u, hu, ru⟩ := rv.get hx
  obtain ⟨f0, f1, f2, f3, f4, f5⟩ := hf it (by simp)
  refine wpAny_pyNext_tuple_item st (show s.heap.IsTuple a its.toArray from p) (x := u) (by simpa using hu) fun h' st' sb => ?_
  have I1 : Inv X pins σ H { s with heap := h' } := I.turned (t' := s.toks) (fun b o hb e => (sb.2 b hb).trans e) f0 f1 f3 f4 f5
  obtain ⟨o, e, c, d⟩ := id st'
  exact ⟨u, rfl, go_of (s := { s with heap := h' }) e c d (by decide) ⟨x, H, I1, ru, ⟨rfl, fun ys hy => by rw [I.tuple_inj hy hq]; exact hx⟩, st', fun b hb => (hf b hb).1⟩⟩
 done := by
  intro X hP hw hK hc i pins s σ H E I hf st hg
  subst hP hw hK
  obtain ⟨xs, hq, hx⟩ := hg
  obtain ⟨its, rv, p, hz⟩ := I.tuple hq
  obtain ⟨f0, f1, f2, f3, f4, f5⟩ := hf it (by simp)
  have hl := rv.length
  exact wpAny_pyNext_tuple_end (I.ok.hd hc) st (show s.heap.IsTuple a its.toArray from p) (by simp; (first | lia | omega)) fun h' eb => ⟨rfl, I.turned (t' := s.toks) (fun b o hb e => eb b o hb e) f0 f1 f3 f4 f5⟩
 self := fun _ _ _ _ _ st h => wpAny_pyIter_tupleiter st h
theorem turn_range {P : Program} {w : World} {K : PySem.W.Frag} {tg : Expr} (it : Addr) (lo : Int) (n : Nat) : Turn P w K tg (Itr lo n) [it] it (fun i h => IsRangeIter h it (lo + (i : Nat) * 1) ((n : Int) - (i : Nat)) 1) where
 mem := by simp
 obj := fun i h st b hb => by
  have e : b = it := by simpa using hb
  subst e
  exact ⟨_, st, fun v z => by
   have z' : Data.fields _ = Data.cell v := z
   cases z'⟩
 keep := fun i h h' st k => k it (by simp) _ st
 item := by
  intro X hP hw hK hc i pins s σ H E I hf st hg
  subst hP hw hK
  obtain ⟨f0, f1, f2, f3, f4, f5⟩ := hf it (by simp)
  have W := Walks.range (prog := X.prog) (w := X.w) (I.ok.hd hc) it lo 1 n
  refine W.item i s _ _ hg st fun v h' tk hv st' kk => ?_
  obtain ⟨t, rfl⟩ := hv
  have I1 : Inv X pins σ H { s with heap := h', toks := tk } := I.turned (fun b o hb e => kk b o (by simpa using hb) e) f0 f1 f3 f4 f5
  refine ⟨_, rfl, go_of (s := { s with heap := h', toks := tk }) (n := "range_iterator") st' rfl rfl (by decide) ⟨.int (lo + i), H, I1, ⟨t, ?_⟩, ⟨rfl, rfl⟩, st', fun b hb => (hf b hb).1⟩⟩
  rw [Int.mul_one]
 done := by
  intro X hP hw hK hc i pins s σ H E I hf st hg
  subst hP hw hK
  obtain ⟨f0, f1, f2, f3, f4, f5⟩ := hf it (by simp)
  exact wpAny_pyNext_range_end (I.ok.hd hc) st (by have : n <= i := hg; (first | lia | omega)) fun h' eb => ⟨rfl, I.turned (t' := s.toks) (fun b o hb e => eb b o hb e) f0 f1 f3 f4 f5⟩
 self := fun _ _ _ _ _ st h => wpAny_pyIter_rangeiter st h
end L2
namespace L2
open PySem PySem.Spec PyProof.Rows
section
variable {X : Cx} {tg : Expr}
noncomputable def iList (K : PySem.W.Frag) (tl : TE) : TI := fun σ H R => tl σ H fun x H1 => ∃ a, x = .ref a /\ (∃ xs, SqL K H1 a xs) /\ R (Itl K a) H1
noncomputable def iTup (K : PySem.W.Frag) (tl : TE) : TI := fun σ H R => tl σ H fun x H1 => ∃ a, x = .ref a /\ (∃ xs, SqT K H1 a xs) /\ R (Itt K a) H1
theorem pi_list {l : Expr} {tl : TE} (hl : PE X l tl) : PI X tg l (iList X.K tl) := by
 intro pins s σ H R I h
 refine thn (hl pins s σ H _ I h) fun v s1 ⟨x, H1, I1, r1, q1⟩ => ?_
 obtain ⟨a, e, ⟨xs, hq⟩, q⟩ := q1
 subst e
 cases r1
 obtain ⟨its, rv, p, hz⟩ := I1.list hq
 refine wpAny_pyIter_list p.isList ?_
 refine ⟨s1.heap.objs.size, [s1.heap.objs.size], _, _, H1, rfl, I1.kept (t' := s1.toks) fun b o e => Heap.get?_push_of_some _ e, turn_list a _, ⟨_, Heap.get?_push_size _ rfl, rfl, rfl⟩, fun b hb => ?_, q⟩
 have e : b = s1.heap.objs.size := by simpa using hb
 subst e
 exact I1.fpOk (Nat.le_refl _) (I1.hok.fresh (Nat.le_refl _))
theorem pi_tup {l : Expr} {tl : TE} (hl : PE X l tl) : PI X tg l (iTup X.K tl) := by
 intro pins s σ H R I h
 refine thn (hl pins s σ H _ I h) fun v s1 ⟨x, H1, I1, r1, q1⟩ => ?_
 obtain ⟨a, e, ⟨xs, hq⟩, q⟩ := q1
 subst e
 cases r1
 obtain ⟨its, rv, p, hz⟩ := I1.tuple hq
 refine wpAny_pyIter_tuple (show s1.heap.IsTuple a its.toArray from p) ?_
 refine ⟨s1.heap.objs.size, [s1.heap.objs.size], _, _, H1, rfl, I1.kept (t' := s1.toks) fun b o e => Heap.get?_push_of_some _ e, turn_tuple a _, ⟨_, Heap.get?_push_size _ rfl, rfl, rfl⟩, fun b hb => ?_, q⟩
 have e : b = s1.heap.objs.size := by simpa using hb
 subst e
 exact I1.fpOk (Nat.le_refl _) (I1.hok.fresh (Nat.le_refl _))
theorem range_it {pins : List (Addr × Obj)} {σ : St} {H : Hp} {s : Shared} {R : It -> Hp -> Prop} {E : Value -> Shared -> Prop} {lo hi : Int} {t u v : Tok} {tk : Nat} (I : Inv X pins σ H s) (h1 : -(2 ^ 62) <= lo) (h2 : lo < 2 ^ 62) (h3 : -(2 ^ 62) <= hi) (h4 : hi < 2 ^ 62)
  (q : R (Itr lo (hi - lo).toNat) H) : wpAny (model X.prog X.w) X.A (pyIter (.ref s.heap.objs.size)) (PIE X pins σ tg R) E { s with heap := s.heap.push { cls := .type "range", data := .fields #[.int lo t, .int hi u, .int 1 v] }, toks := tk } := by
 refine wpAny_pyIter_range (IsRange.new ..) (small_one h1 h2 h3 h4) ?_
 have I1 : Inv X pins σ H { s with heap := s.heap.push { cls := .type "range", data := .fields #[.int lo t, .int hi u, .int 1 v] }, toks := tk } := I.kept fun b o e => Heap.get?_push_of_some _ e
 refine ⟨(s.heap.push { cls := .type "range", data := .fields #[.int lo t, .int hi u, .int 1 v] }).objs.size, [(s.heap.push { cls := .type "range", data := .fields #[.int lo t, .int hi u, .int 1 v] }).objs.size], _, _, H, rfl,
  I1.kept (t' := tk) fun b o e => Heap.get?_push_of_some _ e, turn_range _ lo (hi - lo).toNat, ?_, fun b hb => ?_, q⟩
 ·have e1 : lo + ((0 : Nat) : Int) * 1 = lo := by simp
  have e2 : (((hi - lo).toNat : Nat) : Int) - ((0 : Nat) : Int) = Builtin.Range.rangeSize lo hi 1 := by rw [rangeSize_one]; split <;> (first | lia | omega)
  show IsRangeIter _ _ (lo + ((0 : Nat) : Int) * 1) ((((hi - lo).toNat : Nat) : Int) - ((0 : Nat) : Int)) 1
  rw [e1, e2]
  exact Heap.get?_push_size _ rfl
 ·have e : b = (s.heap.push { cls := .type "range", data := .fields #[.int lo t, .int hi u, .int 1 v] }).objs.size := by simpa using hb
  subst e
  exact I1.fpOk (Nat.le_refl _) (I1.hok.fresh (Nat.le_refl _))
noncomputable def iRng1 (ta : TA) : TI := fun σ H R => ta σ H fun vs H1 => ∃ j : Int, vs = [.int j] /\ -(2 ^ 62) <= j /\ j < 2 ^ 62 /\ R (Itr 0 j.toNat) H1
noncomputable def iRng2 (ta : TA) : TI := fun σ H R => ta σ H fun vs H1 => ∃ i j : Int, vs = [.int i, .int j] /\ (-(2 ^ 62) <= i /\ i < 2 ^ 62 /\ -(2 ^ 62) <= j /\ j < 2 ^ 62) /\ R (Itr i (j - i).toNat) H1
theorem pi_range1 {a : Expr} {ta : TA} {p pos : Pos} (hg : Gl X "range") (hm : X.mg "range" = none) (ha : PA X [a] ta) (hs : starEach [a] X.env = [(false, eval a X.env)] := by rfl) : PI X tg (.Call (.Name "range" p) [a] [] pos) (iRng1 ta) := by
 intro pins s σ H R I h
 refine Call_ (ld_blt I hg hm boot_range (PyProof.Rows.callWith_type1 (thn (ha pos pins s σ H _ I h) fun us s1 ⟨vs, H1, I1, r1, q1⟩ => ?_) hs rfl))
 obtain ⟨j, e, q1, q2, q⟩ := q1
 subst e
 cases r1 with
 | cons r rr =>
  cases rr
  obtain ⟨t, rfl⟩ := r
  exact call_range_1 (range_it I1 (by (first | lia | omega)) (by (first | lia | omega)) q1 q2 (by simpa using q))
theorem pi_range2 {a b : Expr} {ta : TA} {p pos : Pos} (hg : Gl X "range") (hm : X.mg "range" = none) (ha : PA X [a, b] ta) (hs : starEach [a, b] X.env = [(false, eval a X.env), (false, eval b X.env)] := by rfl) (hs2 : starEach [b] X.env = [(false, eval b X.env)] := by rfl) :
  PI X tg (.Call (.Name "range" p) [a, b] [] pos) (iRng2 ta) := by
 intro pins s σ H R I h
 refine Call_ (ld_blt I hg hm boot_range (PyProof.Rows.callWith_type1 (thn (ha pos pins s σ H _ I h) fun us s1 ⟨vs, H1, I1, r1, q1⟩ => ?_) (by rw [hs, hs2]) (by rw [hs2]; rfl)))
 obtain ⟨i, j, e, ⟨q1, q2, q3, q4⟩, q⟩ := q1
 subst e
 cases r1 with
 | cons r rr =>
  cases rr with
  | cons r' rr =>
   cases rr
   obtain ⟨t, rfl⟩ := r
   obtain ⟨t', rfl⟩ := r'
   exact call_range_2 (range_it I1 q1 q2 q3 q4 q)
noncomputable def tFor (wi : TI) (g : TG) (tb : TS) : TS := fun D σ H => wi σ H fun J H1 => ∃ W : Nat -> Nat -> St -> Hp -> Prop, (∃ m, W 0 m σ H1) /\ ∀ i m σ H, W i m σ H ->
 (J.stop i H /\ D.nx σ H) ∨ (J.go i H /\ ∃ N : St -> Hp -> Prop, (∀ σ' H', N σ' H' -> ∃ m', m' < m /\ W (i + 1) m' σ' H') /\ ∀ x H', J.yld i H x H' -> g x σ H' fun σ2 H2 => tb { D with nx := N, ct := N, bk := D.nx } σ2 H2)
noncomputable def pinsAt (fp : List Addr) (h : Heap) : List (Addr × Obj) := fp.filterMap fun b => (h.get? b).map fun o => (b, o)
theorem mem_pinsAt {fp : List Addr} {h : Heap} {b : Addr} {o : Obj} (hb : b ∈ fp) (e : h.get? b = some o) : (b, o) ∈ pinsAt fp h := List.mem_filterMap.mpr ⟨b, hb, by rw [e]; rfl⟩
theorem of_pinsAt {fp : List Addr} {h : Heap} {p : Addr × Obj} (hp : p ∈ pinsAt fp h) : p.1 ∈ fp /\ h.get? p.1 = some p.2 := by
 obtain ⟨b, hb, e⟩ := List.mem_filterMap.mp hp
 cases q : h.get? b with
 | none => rw [q] at e; cases e
 | some o =>
  rw [q] at e
  have e' : (b, o) = p := Option.some.inj e
  subst e'
  exact ⟨hb, q⟩
theorem Inv.pinned {pins : List (Addr × Obj)} {σ : St} {H : Hp} {s : Shared} {fp : List Addr} (I : Inv X pins σ H s) (hf : ∀ b ∈ fp, FpOk X pins H b) (ho : ∀ b ∈ fp, ∃ o, s.heap.get? b = some o /\ ∀ v, o.data ≠ .cell v) : Inv X (pins ++ pinsAt fp s.heap) σ H s :=
 I.pins_of fun p hp => (List.mem_append.mp hp).elim (fun z => I.pin p (List.mem_append_right _ z)) fun z => by
  obtain ⟨hb, e⟩ := of_pinsAt z
  obtain ⟨f0, f1, f2, _⟩ := hf p.1 hb
  obtain ⟨o, e', d⟩ := ho p.1 hb
  rw [e] at e'; cases e'
  exact ⟨e, f0, f1, f2, d⟩
theorem Inv.unpinned {pins pl : List (Addr × Obj)} {σ : St} {H : Hp} {s : Shared} (I : Inv X (pins ++ pl) σ H s) : Inv X pins σ H s := I.pins_of fun p hp => I.pin p (List.mem_append_right _ (List.mem_append_left _ hp))
theorem ps_for {iter : Expr} {body : List Stmt} {wi : TI} {g : TG} {tb : TS} {pos : Pos} (hp : PassesOwn (model X.prog X.w) X.A X.env X.xe) (hc : X.calm = true) (hi : PI X tg iter wi) (hg : PG X tg g) (hb : PSs X body tb)
  (hs : ∀ x, foldedSetIterable iter X.env x = pure x := by intro _; rfl) : PS X (.For tg iter body [] pos) (tFor wi g tb) := by
 intro pins s σ H D I h
 refine wpAny_For (thn (hi pins s σ H _ I h) fun v s1 h1 => thn h1 fun itv s2 h2 => ?_) hs
 obtain ⟨it, fp, tn, J, H2, e, I2, T, st2, f2, W, ⟨m0, w0⟩, turn⟩ := h2
 subst e
 have stat : ∀ {H' : Hp}, (∀ b ∈ fp, H' b = none) -> ∀ b ∈ fp, FpOk X pins H' b := fun hn b hb => ⟨hn b hb, (f2 b hb).2⟩
 refine codeAny_forLoop_any (fun n s' => ∃ i σ' H', Inv X pins σ' H' s' /\ tn i s'.heap /\ (∀ b ∈ fp, H' b = none) /\ W i n σ' H') ?_ m0 ⟨0, σ, H2, I2, st2, fun b hb => (f2 b hb).1, w0⟩
 rintro n s3 ⟨i, σ3, H3, I3, st3, fr3, w3⟩
 rcases turn i n σ3 H3 w3 with ⟨stop, qn⟩ | ⟨go, N, hN, step⟩
 ·refine wpAny_passesOwn hp (thn (T.done X rfl rfl rfl hc i pins s3 σ3 H3 X.xe I3 (stat fr3) st3 stop) fun r s4 ⟨hr, I4⟩ => ?_)
  subst hr
  exact wpAny_execs_nil ⟨σ3, H3, I4, qn⟩
 ·refine wpAny_passesOwn hp (thn (T.item X rfl rfl rfl hc i pins s3 σ3 H3 X.xe I3 (stat fr3) st3 go) fun r s4 ⟨u, hr, h4⟩ => ?_)
  subst hr
  refine wpAny_passesOwn hp (thn h4 fun _ s5 ⟨x, H5, I5, r5, y5, st5, fr5⟩ => ?_)
  have I5' := I5.pinned (stat fr5) (T.obj _ _ st5)
  refine wpAny_passesOwn hp (thn (hg _ s5 σ3 H5 x u _ I5' r5 (step x H5 y5)) fun _ s6 ⟨σ6, H6, I6, q6⟩ => ?_)
  refine wpAny_passesOwn hp (thn (hb _ s6 σ6 H6 _ I6 q6) fun f s7 q7 => ?_)
  have again : ∀ {σ7 : St} {H7 : Hp}, Inv X (pins ++ pinsAt fp s5.heap) σ7 H7 s7 -> N σ7 H7 -> ∃ m, m < n /\ ∃ i σ' H', Inv X pins σ' H' s7 /\ tn i s7.heap /\ (∀ b ∈ fp, H' b = none) /\ W i m σ' H' := fun {σ7 H7} I7 n7 => by
   obtain ⟨m', hm, w7⟩ := hN σ7 H7 n7
   refine ⟨m', hm, i + 1, σ7, H7, I7.unpinned, T.keep _ _ _ st5 fun b hb o e => (I7.pin (b, o) (List.mem_append_right _ (List.mem_append_right _ (mem_pinsAt hb e)))).1, fun b hb => ?_, w7⟩
   obtain ⟨o, e, d⟩ := T.obj _ _ st5 b hb
   exact (I7.pin (b, o) (List.mem_append_right _ (List.mem_append_right _ (mem_pinsAt hb e)))).2.1
  cases f with
  | next => obtain ⟨σ7, H7, I7, n7⟩ := q7; exact again I7 n7
  | cont => obtain ⟨σ7, H7, I7, n7⟩ := q7; exact again I7 n7
  | brk => obtain ⟨σ7, H7, I7, q7⟩ := q7; exact ⟨σ7, H7, I7.unpinned, q7⟩
  | ret v => obtain ⟨x7, σ7, H7, I7, r7, q7⟩ := q7; exact ⟨x7, σ7, H7, I7.unpinned, r7, q7⟩
end
theorem for_range {lo : Int} {n : Nat} {g : TG} {tb : TS} {D : Ends} {σ : St} {H : Hp} (Pv : Nat -> St -> Hp -> Prop) (h0 : Pv 0 σ H)
  (hs : ∀ i σ H, i < n -> Pv i σ H -> g (.int (lo + i)) σ H fun σ2 H2 => tb { D with nx := Pv (i + 1), ct := Pv (i + 1), bk := D.nx } σ2 H2) (hd : ∀ σ H, Pv n σ H -> D.nx σ H) :
  ∃ W : Nat -> Nat -> St -> Hp -> Prop, (∃ m, W 0 m σ H) /\ ∀ i m σ H, W i m σ H ->
   ((Itr lo n).stop i H /\ D.nx σ H) ∨ ((Itr lo n).go i H /\ ∃ N : St -> Hp -> Prop, (∀ σ' H', N σ' H' -> ∃ m', m' < m /\ W (i + 1) m' σ' H') /\ ∀ x H', (Itr lo n).yld i H x H' -> g x σ H' fun σ2 H2 => tb { D with nx := N, ct := N, bk := D.nx } σ2 H2) := by
 refine ⟨fun i m σ H => m = n - i /\ i <= n /\ Pv i σ H, ⟨n, by simp, Nat.zero_le _, h0⟩, ?_⟩
 rintro i m σ H ⟨rfl, hi, p⟩
 by_cases hlt : i < n
 ·refine .inr ⟨hlt, Pv (i + 1), fun σ' H' p' => ⟨n - (i + 1), by (first | lia | omega), rfl, hlt, p'⟩, fun x H' y => ?_⟩
  obtain ⟨e, y⟩ := y
  subst e y
  exact hs i σ _ hlt p
 ·have e : i = n := by (first | lia | omega)
  subst e
  exact .inl ⟨Nat.le_refl _, hd σ H p⟩
end L2
namespace L2
open PySem PySem.Spec PyProof.Rows
noncomputable abbrev R2 := V -> V -> Hp -> VK -> Prop
noncomputable def OpR (X : Cx) (f : Value -> Value -> Sem Value) (r : R2) : Prop :=
 ∀ (pins : List (Addr × Obj)) (s : Shared) (σ : St) (H : Hp) (x y : V) (v u : Value) (Q : VK), Inv X pins σ H s -> RelV x v -> RelV y u -> r x y H Q ->
  wpAny (model X.prog X.w) X.A (f v u) (EP X pins σ Q) X.xe s
noncomputable def UnR (X : Cx) (f : Value -> Sem Value) (r : V -> Hp -> VK -> Prop) : Prop :=
 ∀ (pins : List (Addr × Obj)) (s : Shared) (σ : St) (H : Hp) (x : V) (v : Value) (Q : VK), Inv X pins σ H s -> RelV x v -> r x H Q ->
  wpAny (model X.prog X.w) X.A (f v) (EP X pins σ Q) X.xe s
noncomputable def CallR (X : Cx) (f : Value) (r : List V -> Hp -> VK -> Prop) : Prop :=
 ∀ (pins : List (Addr × Obj)) (s : Shared) (σ : St) (H : Hp) (xs : List V) (us : List Value) (Q : VK), Inv X pins σ H s -> Vals xs us -> r xs H Q ->
  wpAny (model X.prog X.w) X.A (call f us) (EP X pins σ Q) X.xe s
noncomputable def TruR (X : Cx) (r : V -> Hp -> (Bool -> Hp -> Prop) -> Prop) : Prop :=
 ∀ (pins : List (Addr × Obj)) (s : Shared) (σ : St) (H : Hp) (x : V) (v : Value) (Q : Bool -> Hp -> Prop), Inv X pins σ H s -> RelV x v -> r x H Q ->
  wpAny (model X.prog X.w) X.A (truthy v) (TP X pins σ Q) X.xe s
noncomputable def tOp (r : R2) (ta tb : TE) : TE := fun σ H Q => ta σ H fun x H1 => tb σ H1 fun y H2 => r x y H2 Q
noncomputable def tUn (r : V -> Hp -> VK -> Prop) (ta : TE) : TE := fun σ H Q => ta σ H fun x H1 => r x H1 Q
noncomputable def rI (C : Int -> Int -> Prop) (g : Int -> Int -> V) : R2 := fun x y H Q => ∃ i j, x = .int i /\ y = .int j /\ C i j /\ Q (g i j) H
noncomputable def rI0 (g : Int -> Int -> V) : R2 := fun x y H Q => ∃ i j, x = .int i /\ y = .int j /\ Q (g i j) H
noncomputable def rU (g : Int -> V) : V -> Hp -> VK -> Prop := fun x H Q => ∃ i, x = .int i /\ Q (g i) H
section
variable {X : Cx} {a b c : Expr} {ta tb tc : TE} {pos : Pos}
theorem binT (ha : PE X a ta) (hb : PE X b tb) {pins : List (Addr × Obj)} {s : Shared} {σ : St} {H : Hp} {R : V -> V -> Hp -> Prop} (I : Inv X pins σ H s)
  (h : ta σ H fun x H1 => tb σ H1 fun y H2 => R x y H2) {Q : Value -> Shared -> Prop} {f : Value -> Value -> Sem Value}
  (hf : ∀ v u s2 x y H2, Inv X pins σ H2 s2 -> RelV x v -> RelV y u -> R x y H2 -> wpAny (model X.prog X.w) X.A (f v u) Q X.xe s2) :
  wpAny (model X.prog X.w) X.A (eval a X.env) (fun v s₁ => wpAny (model X.prog X.w) X.A (eval b X.env) (fun u s₂ => wpAny (model X.prog X.w) X.A (f v u) Q X.xe s₂) X.xe s₁) X.xe s := by
 refine thn (ha pins s σ H _ I h) fun v s1 ⟨x, H1, I1, r1, q1⟩ => ?_
 refine thn (hb pins s1 σ H1 _ I1 q1) fun u s2 ⟨y, H2, I2, r2, q2⟩ => ?_
 exact hf v u s2 x y H2 I2 r1 r2 q2
theorem pe_op {op : Operator} {r : R2} (ho : OpR X (binaryOp op) r) (ha : PE X a ta) (hb : PE X b tb) : PE X (.BinOp a op b pos) (tOp r ta tb) := by
 intro pins s σ H Q I h
 exact wpAny_BinOp (binT ha hb I h fun v u s2 x y H2 I2 rx ry q => ho pins s2 σ H2 x y v u Q I2 rx ry q)
theorem pe_un {op : UnaryOp} {r : V -> Hp -> VK -> Prop} (ho : UnR X (unaryOp op) r) (ha : PE X a ta) : PE X (.UnaryOp op a pos) (tUn r ta) := by
 intro pins s σ H Q I h
 exact UnaryOp_ (thn (ha pins s σ H _ I h) fun v s1 ⟨x, H1, I1, r1, q1⟩ => ho pins s1 σ H1 x v Q I1 r1 q1)
theorem opI {f : Value -> Value -> Sem Value} {C : Int -> Int -> Prop} {g : Int -> Int -> Int}
  (rule : ∀ (i j : Int) (t u : Tok) (s : Shared) (Q : Value -> Shared -> Prop) (E : Value -> Shared -> Prop), C i j -> Q (.int (g i j) s.toks) { s with toks := s.toks + 1 } -> wpAny (model X.prog X.w) X.A (f (.int i t) (.int j u)) Q E s) :
  OpR X f (rI C fun i j => .int (g i j)) := by
 intro pins s σ H x y v u Q I rx ry h
 obtain ⟨i, j, rfl, rfl, hc, q⟩ := h
 obtain ⟨t, rfl⟩ := rx
 obtain ⟨t', rfl⟩ := ry
 exact rule i j t t' s _ _ hc ⟨.int (g i j), H, I.tok _, ⟨_, rfl⟩, q⟩
theorem opI0 {f : Value -> Value -> Sem Value} {g : Int -> Int -> Int}
  (rule : ∀ (i j : Int) (t u : Tok) (s : Shared) (Q : Value -> Shared -> Prop) (E : Value -> Shared -> Prop), Q (.int (g i j) s.toks) { s with toks := s.toks + 1 } -> wpAny (model X.prog X.w) X.A (f (.int i t) (.int j u)) Q E s) :
  OpR X f (rI0 fun i j => .int (g i j)) := by
 intro pins s σ H x y v u Q I rx ry h
 obtain ⟨i, j, rfl, rfl, q⟩ := h
 obtain ⟨t, rfl⟩ := rx
 obtain ⟨t', rfl⟩ := ry
 exact rule i j t t' s _ _ ⟨.int (g i j), H, I.tok _, ⟨_, rfl⟩, q⟩
theorem opB0 {f : Value -> Value -> Sem Value} {g : Int -> Int -> Bool}
  (rule : ∀ (i j : Int) (t u : Tok) (s : Shared) (Q : Value -> Shared -> Prop) (E : Value -> Shared -> Prop), Q (.bool (g i j)) s -> wpAny (model X.prog X.w) X.A (f (.int i t) (.int j u)) Q E s) :
  OpR X f (rI0 fun i j => .bl (g i j)) := by
 intro pins s σ H x y v u Q I rx ry h
 obtain ⟨i, j, rfl, rfl, q⟩ := h
 obtain ⟨t, rfl⟩ := rx
 obtain ⟨t', rfl⟩ := ry
 exact rule i j t t' s _ _ ⟨.bl (g i j), H, I, rfl, q⟩
noncomputable def CDiv (i j : Int) : Prop := 0 < j /\ j < 1073741824
noncomputable def CPow (i j : Int) : Prop := 0 <= j /\ j <= 1000000 /\ i.natAbs < 2 ^ 64
noncomputable def CMul (i j : Int) : Prop := (-(2 ^ 64) < i /\ i < 2 ^ 64) ∨ (-(2 ^ 64) < j /\ j < 2 ^ 64)
theorem CMul.ok {i j : Int} (h : CMul i j) : IntMulOk i j := by
 rcases h with ⟨h1, h2⟩ | ⟨h1, h2⟩
 ·exact .of_left (intBits_le_64 h1 h2)
 ·exact .of_right (intBits_le_64 h1 h2)
theorem op_add : OpR X (binaryOp .Add) (rI0 fun i j => .int (i + j)) := opI0 fun _ _ _ _ _ _ _ q => add_int q
theorem op_sub : OpR X (binaryOp .Sub) (rI0 fun i j => .int (i - j)) := opI0 fun _ _ _ _ _ _ _ q => sub_int q
theorem op_mul : OpR X (binaryOp .Mult) (rI CMul fun i j => .int (i * j)) := opI fun _ _ _ _ _ _ _ hc q => mul_int q hc.ok
theorem op_fdiv : OpR X (binaryOp .FloorDiv) (rI CDiv fun i j => .int (i / j)) := opI fun i j _ _ _ _ _ hc q => by
 have h1 : (0 : Int) < j := hc.1
 have h2 : j < 1073741824 := hc.2
 exact floordiv_int (by (first | lia | omega)) (by rw [Int.fdiv_eq_ediv_of_nonneg i (by (first | lia | omega))]; exact q) (.inl (PyProof.noPylong_small (by (first | lia | omega))))
theorem op_mod : OpR X (binaryOp .Mod) (rI (fun _ j => 0 < j) fun i j => .int (i % j)) := opI fun i j _ _ _ _ _ hc q => by
 have h1 : (0 : Int) < j := hc
 exact mod_int' (by (first | lia | omega)) (by rw [Int.fmod_eq_emod_of_nonneg i (by (first | lia | omega))]; exact q)
theorem op_pow : OpR X (binaryOp .Pow) (rI CPow fun i j => .int (i ^ j.toNat)) := opI fun _ _ _ _ _ _ _ hc q => pow_int_small hc.1 hc.2.1 hc.2.2 q
theorem unI {f : Value -> Sem Value} {g : Int -> Int}
  (rule : ∀ (i : Int) (t : Tok) (s : Shared) (Q : Value -> Shared -> Prop) (E : Value -> Shared -> Prop), Q (.int (g i) s.toks) { s with toks := s.toks + 1 } -> wpAny (model X.prog X.w) X.A (f (.int i t)) Q E s) :
  UnR X f (rU fun i => .int (g i)) := by
 intro pins s σ H x v Q I rx h
 obtain ⟨i, rfl, q⟩ := h
 obtain ⟨t, rfl⟩ := rx
 exact rule i t s _ _ ⟨.int (g i), H, I.tok _, ⟨_, rfl⟩, q⟩
theorem un_neg : UnR X (unaryOp .USub) (rU fun i => .int (-i)) := unI fun _ _ _ _ _ q => neg_int q
end
noncomputable def scal : V -> V -> Bool
 | .non, .non => true | .non, .int _ => true | .int _, .non => true | .non, .bl _ => true | .bl _, .non => true | .non, .str _ => true | .str _, .non => true
 | .int _, .int _ => true | .bl _, .bl _ => true | .str _, .str _ => true | .byt _, .byt _ => true
 | .int _, .str _ => true | .str _, .int _ => true | .bl _, .str _ => true | .str _, .bl _ => true
 | _, _ => false
noncomputable def rEq : R2 := fun x y H Q => scal x y = true /\ Q (.bl (decide (x = y))) H
noncomputable def rNe : R2 := fun x y H Q => scal x y = true /\ Q (.bl (!decide (x = y))) H
theorem dec_int {i j : Int} : decide (V.int i = V.int j) = (i == j) := by
 rw [Bool.eq_iff_iff]
 simp
theorem dec_bl {i j : Bool} : decide (V.bl i = V.bl j) = (i == j) := by
 rw [Bool.eq_iff_iff]
 simp
theorem dec_str {i j : Str} : decide (V.str i = V.str j) = (i == j) := by
 rw [Bool.eq_iff_iff]
 simp
theorem dec_byt {i j : Array UInt8} : decide (V.byt i = V.byt j) = (i.toList == j.toList) := by
 rw [Bool.eq_iff_iff]
 cases i
 cases j
 simp
section
variable {X : Cx} {a b c : Expr} {ta tb tc : TE} {pos : Pos}
theorem fin_bl {pins : List (Addr × Obj)} {σ : St} {H : Hp} {s : Shared} {Q : VK} {k k' : Bool} (I : Inv X pins σ H s) (q : Q (.bl k) H) (e : k = k') : EP X pins σ Q (.bool k') s := by
 subst e
 exact ⟨.bl k, H, I, rfl, q⟩
theorem op_eq : OpR X (compareOp .Eq) rEq := by
 intro pins s σ H x y v u Q I rx ry h
 obtain ⟨hs, q⟩ := h
 cases x with
 | non =>
  cases rx
  cases y with
  | non => cases ry; exact PySem.EqNone.eq_none_none (fin_bl I q (by simp))
  | bl j => cases ry; exact PySem.EqNone.eq_none_bool (fin_bl I q (by simp))
  | int j => obtain ⟨t', rfl⟩ := ry; exact PySem.EqNone.eq_none_int (fin_bl I q (by simp))
  | str j => obtain ⟨t', rfl⟩ := ry; exact PySem.EqNone.eq_none_str (fin_bl I q (by simp))
  | _ => exact absurd (show false = true from hs) Bool.false_ne_true
 | bl i =>
  cases rx
  cases y with
  | non => cases ry; exact PySem.EqNone.eq_bool_none (fin_bl I q (by simp))
  | bl j => cases ry; exact eq_bool (fin_bl I q dec_bl)
  | str j => obtain ⟨t', rfl⟩ := ry; exact PySem.EqMixed.eq_bool_str (fin_bl I q (by simp))
  | _ => exact absurd (show false = true from hs) Bool.false_ne_true
 | int i =>
  obtain ⟨t, rfl⟩ := rx
  cases y with
  | non => cases ry; exact PySem.EqNone.eq_int_none (fin_bl I q (by simp))
  | int j => obtain ⟨t', rfl⟩ := ry; exact eq_int (fin_bl I q dec_int)
  | str j => obtain ⟨t', rfl⟩ := ry; exact PySem.EqMixed.eq_int_str (fin_bl I q (by simp))
  | _ => exact absurd (show false = true from hs) Bool.false_ne_true
 | str i =>
  obtain ⟨t, rfl⟩ := rx
  cases y with
  | non => cases ry; exact PySem.EqNone.eq_str_none (fin_bl I q (by simp))
  | bl j => cases ry; exact PySem.EqMixed.eq_str_bool (fin_bl I q (by simp))
  | int j => obtain ⟨t', rfl⟩ := ry; exact PySem.EqMixed.eq_str_int (fin_bl I q (by simp))
  | str j => obtain ⟨t', rfl⟩ := ry; exact eq_str (fin_bl I q dec_str)
  | _ => exact absurd (show false = true from hs) Bool.false_ne_true
 | byt i =>
  obtain ⟨t, rfl⟩ := rx
  cases y with
  | byt j => obtain ⟨t', rfl⟩ := ry; exact PySem.W.eq_bytes (fin_bl I q dec_byt)
  | _ => exact absurd (show false = true from hs) Bool.false_ne_true
 | _ => cases y <;> exact absurd (show false = true from hs) Bool.false_ne_true
theorem op_ne : OpR X (compareOp .NotEq) rNe := by
 intro pins s σ H x y v u Q I rx ry h
 obtain ⟨hs, q⟩ := h
 cases x with
 | non =>
  cases rx
  cases y with
  | non => cases ry; exact PySem.EqNone.ne_none_none (fin_bl I q (by simp))
  | bl j => cases ry; exact PySem.EqNone.ne_none_bool (fin_bl I q (by simp))
  | int j => obtain ⟨t', rfl⟩ := ry; exact PySem.EqNone.ne_none_int (fin_bl I q (by simp))
  | str j => obtain ⟨t', rfl⟩ := ry; exact PySem.EqNone.ne_none_str (fin_bl I q (by simp))
  | _ => exact absurd (show false = true from hs) Bool.false_ne_true
 | bl i =>
  cases rx
  cases y with
  | non => cases ry; exact PySem.EqNone.ne_bool_none (fin_bl I q (by simp))
  | bl j => cases ry; exact ne_bool (fin_bl I q (congrArg not dec_bl))
  | str j => obtain ⟨t', rfl⟩ := ry; exact PySem.EqMixed.ne_bool_str (fin_bl I q (by simp))
  | _ => exact absurd (show false = true from hs) Bool.false_ne_true
 | int i =>
  obtain ⟨t, rfl⟩ := rx
  cases y with
  | non => cases ry; exact PySem.EqNone.ne_int_none (fin_bl I q (by simp))
  | int j => obtain ⟨t', rfl⟩ := ry; exact ne_int (fin_bl I q (congrArg not dec_int))
  | str j => obtain ⟨t', rfl⟩ := ry; exact PySem.EqMixed.ne_int_str (fin_bl I q (by simp))
  | _ => exact absurd (show false = true from hs) Bool.false_ne_true
 | str i =>
  obtain ⟨t, rfl⟩ := rx
  cases y with
  | non => cases ry; exact PySem.EqNone.ne_str_none (fin_bl I q (by simp))
  | bl j => cases ry; exact PySem.EqMixed.ne_str_bool (fin_bl I q (by simp))
  | int j => obtain ⟨t', rfl⟩ := ry; exact PySem.EqMixed.ne_str_int (fin_bl I q (by simp))
  | str j => obtain ⟨t', rfl⟩ := ry; exact ne_str (fin_bl I q (congrArg not dec_str))
  | _ => exact absurd (show false = true from hs) Bool.false_ne_true
 | byt i =>
  obtain ⟨t, rfl⟩ := rx
  cases y with
  | byt j => obtain ⟨t', rfl⟩ := ry; exact PySem.W.ne_bytes (fin_bl I q (congrArg not dec_byt))
  | _ => exact absurd (show false = true from hs) Bool.false_ne_true
 | _ => cases y <;> exact absurd (show false = true from hs) Bool.false_ne_true
theorem op_lt : OpR X (compareOp .Lt) (rI0 fun i j => .bl (decide (i < j))) := opB0 fun _ _ _ _ _ _ _ q => lt_int q
theorem op_le : OpR X (compareOp .LtE) (rI0 fun i j => .bl (decide (i <= j))) := opB0 fun _ _ _ _ _ _ _ q => le_int q
theorem op_gt : OpR X (compareOp .Gt) (rI0 fun i j => .bl (decide (j < i))) := opB0 fun _ _ _ _ _ _ _ q => gt_int q
theorem op_ge : OpR X (compareOp .GtE) (rI0 fun i j => .bl (decide (j <= i))) := opB0 fun _ _ _ _ _ _ _ q => ge_int q
theorem nomark (b : Expr) {op : CmpOp} (h : op ≠ .In := by decide) (h2 : op ≠ .NotIn := by decide) : behindInMarks op b = false := by
 have e1 : (op == CmpOp.In) = false := by cases op <;> first | rfl | exact absurd rfl h
 have e2 : (op == CmpOp.NotIn) = false := by cases op <;> first | rfl | exact absurd rfl h2
 cases b <;> simp [behindInMarks, e1, e2]
theorem pe_cmpR {op : CmpOp} {r : R2} (ho : OpR X (compareOp op) r) (ha : PE X a ta) (hb : PE X b tb) (hm : behindInMarks op b = false) : PE X (.Compare a [op] [b] pos) (tOp r ta tb) := by
 intro pins s σ H Q I h
 exact wpAny_Compare1 (binT ha hb I h fun v u s2 x y H2 I2 rx ry q => ho pins s2 σ H2 x y v u Q I2 rx ry q) hm
noncomputable def tTest (t : TE) : TT := fun σ H Q => t σ H fun x H' => ∃ k, x = .bl k /\ Q k H'
theorem pt_cmpR {op : CmpOp} {r : R2} (ho : OpR X (compareOp op) r) (ha : PE X a ta) (hb : PE X b tb) (hm : behindInMarks op b = false) : PT X (.Compare a [op] [b] pos) (tTest (tOp r ta tb)) := by
 intro pins s σ H Q I h
 refine wpAny_isTrue_Compare1 (thn (ha pins s σ H _ I h) fun v s1 ⟨x, H1, I1, r1, q1⟩ => thn (hb pins s1 σ H1 _ I1 q1) fun u s2 ⟨y, H2, I2, r2, q2⟩ =>
  thn (ho pins s2 σ H2 x y v u _ I2 r1 r2 q2) fun c s3 ⟨z, H3, I3, r3, k, e, q3⟩ => ?_) hm
 subst e
 cases r3
 exact wpAny_truthy_bool ⟨H3, I3, q3⟩
noncomputable def tChain (r r' : R2) (ta tb tc : TE) : TE := fun σ H Q => ta σ H fun x H1 => tb σ H1 fun y H2 => r x y H2 fun z H3 => ∃ k, z = .bl k /\
 (if k = true then tc σ H3 fun w' H4 => r' y w' H4 Q else Q (.bl false) H3)
theorem pt_chain {op op' : CmpOp} {r r' : R2} (ho : OpR X (compareOp op) r) (ho' : OpR X (compareOp op') r') (ha : PE X a ta) (hb : PE X b tb) (hc : PE X c tc)
  (hm : lastMarks [op, op'] [b, c] = false := by with_unfolding_all rfl) : PT X (.Compare a [op, op'] [b, c] pos) (tTest (tChain r r' ta tb tc)) := by
 intro pins s σ H Q I h
 refine isTrue_chain (thn (ha pins s σ H _ I h) fun v s1 ⟨x, H1, I1, r1, q1⟩ => test_link (thn (hb pins s1 σ H1 _ I1 q1) fun u s2 ⟨y, H2, I2, r2, q2⟩ =>
  thn (ho pins s2 σ H2 x y v u _ I2 r1 r2 q2) fun d s3 ⟨z, H3, I3, r3, k, e, q3⟩ => ?_)) hm
 subst e
 cases r3
 refine wpAny_truthy_bool ?_
 cases k with
 | false =>
  obtain ⟨k', e', q'⟩ := q3
  cases e'
  exact ite_ff ⟨H3, I3, q'⟩
 | true =>
  refine ite_tt (test_last (thn (hc pins s3 σ H3 _ I3 q3) fun w' s4 ⟨z', H4, I4, r4, q4⟩ => thn (ho' pins s4 σ H4 y z' u w' _ I4 r2 r4 q4) fun d' s5 ⟨z2, H5, I5, r5, k2, e2, q5⟩ => ?_))
  subst e2
  cases r5
  exact wpAny_truthy_bool ⟨H5, I5, q5⟩
noncomputable def TruV (K : PySem.W.Frag) (x : V) (H : Hp) (k : Bool) : Prop :=
 match x with
 | .non => k = false
 | .bl b => k = b
 | .int i => k = (i != 0)
 | .str y => y.length <= sizeLine /\ k = ((y.length : Int) != 0)
 | .byt y => y.size <= sizeLine /\ k = ((y.size : Int) != 0)
 | .ref p => (∃ xs, SqL K H p xs /\ k = !xs.isEmpty) ∨ (∃ xs, SqT K H p xs /\ k = !xs.isEmpty) ∨ ∃ kvs, H p = some (.dK kvs) /\ k = !kvs.isEmpty
 | _ => False
theorem isEmpty_kv {κ : Type} {kvs : List (κ × V)} {vs : List (κ × Value)} (r : KV kvs vs) : (!vs.isEmpty) = !kvs.isEmpty := by
 cases r <;> rfl
theorem isEmpty_of {xs : List V} {its : List Value} (r : Vals xs its) : (!its.toArray.isEmpty) = !xs.isEmpty := by
 cases r <;> simp
theorem line63 : (sizeLine : Nat) < 2 ^ 63 := by rw [sizeLine_eq]; decide
theorem tru_ok : TruR X (fun x H Q => ∃ k, TruV X.K x H k /\ Q k H) := by
 intro pins s σ H x v Q I rx h
 obtain ⟨k, e, q⟩ := h
 have hl := line63
 have hs : sizeLine = 16777216 := sizeLine_eq
 cases x with
 | non =>
  cases rx
  have e' : k = false := e
  subst e'
  exact truthy_none ⟨H, I, q⟩
 | bl b =>
  cases rx
  have e' : k = b := e
  subst e'
  exact wpAny_truthy_bool ⟨H, I, q⟩
 | int i =>
  obtain ⟨t, rfl⟩ := rx
  have e' : k = (i != 0) := e
  subst e'
  exact PySem.P.truthy_int ⟨H, I, q⟩
 | str y =>
  obtain ⟨t, rfl⟩ := rx
  obtain ⟨hy, e'⟩ : y.length <= sizeLine /\ k = ((y.length : Int) != 0) := e
  subst e'
  exact PySem.P.truthy_str (by (first | lia | omega)) ⟨H, I.tok _, q⟩
 | byt y =>
  obtain ⟨t, rfl⟩ := rx
  obtain ⟨hy, e'⟩ : y.size <= sizeLine /\ k = ((y.size : Int) != 0) := e
  subst e'
  exact PySem.W.truthy_bytes (by (first | lia | omega)) ⟨H, I.tok _, q⟩
 | ref p =>
  cases rx
  have e' : (∃ xs, SqL X.K H p xs /\ k = !xs.isEmpty) ∨ (∃ xs, SqT X.K H p xs /\ k = !xs.isEmpty) ∨ ∃ kvs, H p = some (.dK kvs) /\ k = !kvs.isEmpty := e
  rcases e' with ⟨xs, hx, e'⟩ | ⟨xs, hx, e'⟩ | ⟨kvs, hx, e'⟩
  ·subst e'
   obtain ⟨its, r, pl, hz⟩ := I.list hx
   have hlen := r.length
   exact wpAny_truthy_list pl.isList (by simp only [List.size_toArray]; (first | lia | omega)) ⟨H, I.tok _, by rw [isEmpty_of r]; exact q⟩
  ·subst e'
   obtain ⟨its, r, pl, hz⟩ := I.tuple hx
   have hlen := r.length
   exact truthy_tuple pl (by simp only [List.size_toArray]; (first | lia | omega)) ⟨H, I.tok _, by rw [isEmpty_of r]; exact q⟩
  ·subst e'
   obtain ⟨hz, hS, vs, r, m⟩ : kvs.length <= sizeLine /\ (p == sysModules) = false /\ ∃ vs, KV kvs vs /\ s.heap.DictOf (mixKind X.prog X.w) p vs := I.hok p _ hx
   have hlen : kvs.length = vs.length := Paired.length r
   exact wpAny_truthy_dict hS m (by (first | lia | omega)) ⟨H, I.tok _, by rw [isEmpty_kv r]; exact q⟩
 | _ => exact (show False from e).elim
theorem pt_truth (ha : PE X a ta) (he : ∀ whole, isTrue a X.env whole = (do let v <- whole; standAt a.pos; holding [v] (truthy v))) :
  PT X a (fun σ H Q => ta σ H fun x H' => ∃ k, TruV X.K x H' k /\ Q k H') := by
 intro pins s σ H Q I h
 exact isTrue_plain (thn (ha pins s σ H _ I h) fun v s1 ⟨x, H1, I1, r1, q1⟩ => tru_ok pins s1 σ H1 x v Q I1 r1 q1) (he _)
theorem vals1 {x : V} {us : List Value} (r : Vals [x] us) : ∃ u, us = [u] /\ RelV x u := by
 cases r with
 | cons r1 r2 => cases r2; exact ⟨_, rfl, r1⟩
theorem vals2 {x y : V} {us : List Value} (r : Vals [x, y] us) : ∃ u w', us = [u, w'] /\ RelV x u /\ RelV y w' := by
 cases r with
 | cons r1 r2 =>
  cases r2 with
  | cons r3 r4 => cases r4; exact ⟨_, _, rfl, r1, r3⟩
theorem call_abs : CallR X (.builtin "abs") (fun xs H Q => ∃ i, xs = [.int i] /\ Q (.int (if i < 0 then -i else i)) H) := by
 intro pins s σ H xs us Q I r h
 obtain ⟨i, rfl, q⟩ := h
 obtain ⟨u, rfl, t, rfl⟩ := vals1 r
 exact call_abs_int fun u tk => ⟨.int (if i < 0 then -i else i), H, I.tok _, ⟨_, rfl⟩, q⟩
theorem call_max2 (hc : X.calm = true) : CallR X (.builtin "max") (fun xs H Q => ∃ i j, xs = [.int i, .int j] /\ Q (.int (if j > i then j else i)) H) := by
 intro pins s σ H xs us Q I r h
 obtain ⟨i, j, rfl, q⟩ := h
 obtain ⟨u, w', rfl, ⟨t, rfl⟩, ⟨t', rfl⟩⟩ := vals2 r
 refine max_two_ints (I.ok.hd hc) fun h' tk k => ⟨_, H, I.kept k, ?_, q⟩
 by_cases hj : j > i
 ·rw [if_pos hj, if_pos hj]; exact ⟨_, rfl⟩
 ·rw [if_neg hj, if_neg hj]; exact ⟨_, rfl⟩
theorem call_int1 : CallR X (.type "int") (fun xs H Q => (∃ i, xs = [.int i] /\ Q (.int i) H) ∨ ∃ k, xs = [.bl k] /\ Q (.int (if k then 1 else 0)) H) := by
 intro pins s σ H xs us Q I r h
 rcases h with ⟨i, rfl, q⟩ | ⟨k, rfl, q⟩
 ·obtain ⟨u, rfl, t, rfl⟩ := vals1 r
  exact call_int_int ⟨.int i, H, I, ⟨_, rfl⟩, q⟩
 ·obtain ⟨u, rfl, r1⟩ := vals1 r
  cases r1
  exact call_int_bool ⟨.int (if k then 1 else 0), H, I.tok _, ⟨_, rfl⟩, q⟩
theorem call_bool1 : CallR X (.type "bool") (fun xs H Q => (∃ i, xs = [.int i] /\ Q (.bl (i != 0)) H) ∨ ∃ k, xs = [.bl k] /\ Q (.bl k) H) := by
 intro pins s σ H xs us Q I r h
 rcases h with ⟨i, rfl, q⟩ | ⟨k, rfl, q⟩
 ·obtain ⟨u, rfl, t, rfl⟩ := vals1 r
  exact call_bool_int ⟨.bl (i != 0), H, I, rfl, q⟩
 ·obtain ⟨u, rfl, r1⟩ := vals1 r
  cases r1
  exact call_bool_bool ⟨.bl k, H, I, rfl, q⟩
theorem call_str_int : CallR X (.type "str") (fun xs H Q => ∃ i, xs = [.int i] /\ i.natAbs.log2 < 1920 /\ Q (.str (toString i)) H) := by
 intro pins s σ H xs us Q I r h
 obtain ⟨i, rfl, hz, q⟩ := h
 obtain ⟨u, rfl, t, rfl⟩ := vals1 r
 exact PySem.P.str_of_int hz ⟨.str _, H, I.tok _, ⟨_, rfl⟩, q⟩
end
end L2
namespace L2
open PySem PySem.Spec PyProof.Rows
structure ObjM (h : Heap) (x dx C : Addr) (mA : Str -> Option Value) : Prop where
 obj : h.get? x = some (PySem.W.instObj C dx)
 ns : h.Ns1 dx mA
 ne : dx ≠ x
theorem lookIn_ns {h : Heap} {dx : Addr} {mA : Str -> Option Value} (n : h.Ns1 dx mA) : ∃ od, h.get? dx = some od /\ ∀ name, PySem.W.lookIn name od = some (mA name) := by
 obtain ⟨o, es, ep, ho, hd, hk, _, hm⟩ := n
 refine ⟨o, ho, fun name => ?_⟩
 have e := hm name
 unfold nsFind findBy at e
 rw [<- Array.find?_toList] at e
 unfold PySem.W.lookIn
 rw [hd]
 dsimp only
 split
 ·rename_i y q
  rw [q] at e
  exact congrArg some e
 ·rename_i q
  rw [q] at e
  have a : es.toList.any (·.refKey) = false := by
   rw [List.any_eq_false]
   intro y hy
   obtain ⟨z, t, hkey⟩ := hk y (Array.mem_toList_iff.mp hy)
   simp [DictEntry.refKey, hkey]
  have a' : ¬ es.toList.any (·.refKey) = true := by rw [a]; exact Bool.false_ne_true
  rw [if_neg a']
  exact congrArg some e
theorem ObjM.look {h : Heap} {x dx C : Addr} {mA : Str -> Option Value} (I : ObjM h x dx C mA) : ∃ od, PySem.W.InstAt h x (PySem.W.instObj C dx) C (some od) /\ ∀ name, PySem.W.lookIn name od = some (mA name) :=
 let ⟨od, ho, hl⟩ := lookIn_ns I.ns
 ⟨od, ⟨I.obj, rfl, rfl, ho⟩, hl⟩
section
variable {prog : Program} {w : World} {A : Around} {E : Value -> Shared -> Prop} {s : Shared} {K : PySem.W.Frag} {x dx C f : Addr} {mA : Str -> Option Value} {name : Str} {v : Value}
end
section
variable {P : Program} {w : World} {H H' : Hp} {h h' : Heap} {a C dx : Addr} {fs fs' : List (Str × V)}
theorem ins_get (hok : HOk P w H h) (e : H a = some (.ins C dx fs)) : ∃ mA, ObjM h a dx C mA /\ (∀ f, RelO (fs.lookup f) (mA f)) /\ PySem.Within mA (fs.map (·.1)) /\ fs.length <= 1000 /\ H dx = some (.own a) := by
 obtain ⟨d, z, ne, ob, mA, n, r, q⟩ := (show ObjOk P w H h a (.ins C dx fs) from hok a _ e)
 exact ⟨mA, ⟨ob, n, ne⟩, r, q, z, d⟩
end
structure Cls (K : PySem.W.Frag) (C : Addr) : Prop where
 pg : PySem.W.plainGet K C Str.empty = true
 hd : PySem.W.hasDictIn K C = true
 po : PySem.W.plainOver K C = true
 sa : PySem.W.findIn K (.ref C) "__setattr__" = some (some (.builtin "object.__setattr__"))
theorem Cls.get {K : PySem.W.Frag} {C : Addr} (c : Cls K C) (f : Str) : PySem.W.plainGet K C f = true := c.pg
structure Con (K : PySem.W.Frag) (C : Addr) (f : Str) (v : V) (u : Value) : Prop where
 at_ : PySem.W.findIn K (.ref C) f = some (some u)
 rel : RelV v u
 get : PySem.W.specialIn K u "__get__" = some none
 cp : PySem.W.copiedNames.contains f = false
structure Meth (K : PySem.W.Frag) (C : Addr) (m : Str) (f : Addr) : Prop where
 at_ : PySem.W.findIn K (.ref C) m = some (some (.ref f))
 fn : PySem.W.isFn K (.ref f) = true
 kp : PySem.W.keepIn K (.ref f) = true
section
variable {X : Cx} {pins : List (Addr × Obj)} {σ : St} {H : Hp} {s : Shared} {a C dx : Addr} {fs : List (Str × V)} {f : Str} {v : V} {A : Around} {E : Value -> Shared -> Prop}
end
section
variable {X : Cx} {o e value : Expr} {f : Str} {pos pos' tpos : Pos} {ta tv : TE}
end
section
variable {X : Cx} {pins : List (Addr × Obj)} {σ : St} {H : Hp} {s : Shared} {A : Around} {E : Value -> Shared -> Prop} {Q : Value -> Shared -> Prop} {c : Value} {b : Bool}
inductive TyOf (K : PySem.W.Frag) (H : Hp) : V -> Value -> Prop where
 | non : TyOf K H .non (.type "NoneType")
 | bl (x : Bool) : TyOf K H (.bl x) (.type "bool")
 | int (i : Int) : TyOf K H (.int i) (.type "int")
 | str (x : Str) : TyOf K H (.str x) (.type "str")
 | flt (x : UInt64) : TyOf K H (.flt x) (.type "float")
 | lst {a : Addr} {xs : List V} (e : H a = some (.lst xs)) : TyOf K H (.ref a) (.type "list")
 | frz {a : Addr} {o : Obj} {xs : List V} (e : H a = some (.frz o (.lst xs))) : TyOf K H (.ref a) (.type "list")
 | tup {a : Addr} {xs : List V} (e : H a = some (.tup xs)) : TyOf K H (.ref a) (.type "tuple")
 | dK {a : Addr} {kvs : List (Key × V)} (e : H a = some (.dK kvs)) : TyOf K H (.ref a) (.type "dict")
 | dT {a : Addr} {kvs : List (List Key × V)} (e : H a = some (.dT kvs)) : TyOf K H (.ref a) (.type "dict")
 | ins {a C dx : Addr} {fs : List (Str × V)} (e : H a = some (.ins C dx fs)) (cl : Cls K C) (ha : PySem.W.findIn K (.ref C) "__class__" = some (some (.builtin "object.__class__")))
   (hn : PySem.W.specialIn K (.builtin "object.__class__") "__get__" = some (some (.builtin "getset_descriptor.__get__"))) (htk : PySem.W.takesIn K (.builtin "object.__class__") = some true)
   (hm : PySem.W.mroIn K C (.type "object") = some true) : TyOf K H (.ref a) (.ref C)
theorem isinst_ok {x : V} {u t : Value} (I : Inv X pins σ H s) (rx : RelV x u) (ty : TyOf X.K H x t) (e : PySem.W.kitOne X.K t c = some b) (h : ∀ tk, Q (.bool b) { s with toks := tk }) :
  wpAny (model X.prog X.w) A (call (.builtin "isinstance") [u, c]) Q E s := by
 cases ty with
 | non => cases (show u = Value.none from rx); exact PySem.W.kia_one PySem.W.kitx_none I.kIn True.intro e (fun z => nomatch z) h
 | bl y => cases (show u = Value.bool y from rx); exact PySem.W.kia_one PySem.W.kitx_bool I.kIn True.intro e (fun z => nomatch z) h
 | int i => obtain ⟨t, q⟩ := (show ∃ t, u = Value.int i t from rx); cases q; exact PySem.W.kia_one PySem.W.kitx_int I.kIn True.intro e (fun z => nomatch z) h
 | str y => obtain ⟨t, q⟩ := (show ∃ t, u = Value.str y t from rx); cases q; exact PySem.W.kia_one PySem.W.kitx_str I.kIn True.intro e (fun z => nomatch z) h
 | flt y => obtain ⟨t, q⟩ := (show ∃ t, u = Value.float y t from rx); cases q; exact PySem.W.kia_one PySem.W.kitx_float I.kIn True.intro e (fun z => nomatch z) h
 | @lst a xs ea =>
  cases (show u = Value.ref a from rx)
  obtain ⟨_, _, n, _, h1⟩ := (show ObjOk X.prog X.w H s.heap a (.lst xs) from I.hok a _ ea)
  exact PySem.W.kia_one PySem.W.kitx_list I.kIn ⟨_, h1, rfl⟩ e (fun z => nomatch z) h
 | @frz a ob xs ea =>
  cases (show u = Value.ref a from rx)
  obtain ⟨_, _, _, n, _, h1⟩ := (show ObjOk X.prog X.w H s.heap a (.frz ob (.lst xs)) from I.hok a _ ea)
  exact PySem.W.kia_one PySem.W.kitx_list I.kIn ⟨_, h1, rfl⟩ e (fun z => nomatch z) h
 | @tup a xs ea =>
  cases (show u = Value.ref a from rx)
  obtain ⟨_, _, _, p⟩ := (show ObjOk X.prog X.w H s.heap a (.tup xs) from I.hok a _ ea)
  obtain ⟨o, h1, h2, _⟩ := p
  exact PySem.W.kia_one PySem.W.kitx_tuple I.kIn ⟨o, h1, h2⟩ e (fun z => nomatch z) h
 | @dK a kvs ea =>
  cases (show u = Value.ref a from rx)
  obtain ⟨_, _, vs, _, p⟩ := (show ObjOk X.prog X.w H s.heap a (.dK kvs) from I.hok a _ ea)
  obtain ⟨o, es, ep, h1, h2, _⟩ := p
  exact PySem.W.kia_one PySem.W.kitx_dict I.kIn ⟨o, h1, h2.1⟩ e (fun z => nomatch z) h
 | @dT a kvs ea =>
  cases (show u = Value.ref a from rx)
  obtain ⟨_, _, xs, _, o, es, ep, h1, h2, _⟩ := (show ObjOk X.prog X.w H s.heap a (.dT kvs) from I.hok a _ ea)
  exact PySem.W.kia_one PySem.W.kitx_dict I.kIn ⟨o, h1, h2.1⟩ e (fun z => nomatch z) h
 | @ins a C dx fs ea cl ha hn htk hm =>
  cases (show u = Value.ref a from rx)
  obtain ⟨mA, O, _⟩ := ins_get I.hok ea
  obtain ⟨od, J, _⟩ := O.look
  exact PySem.W.kia_one (PySem.W.kitx_own (cl.get _) cl.hd ha hn htk hm) I.kIn J e (fun z => nomatch z) h
end
end L2
namespace L2
open PySem PySem.Spec PyProof.Rows
structure Room (k : Nat) (A : Around) : Prop where
 hd : A.handled = none
 dp : A.depth + 3 * k + 5 < recursionLimit
 un : A.units + 16 * k + 200 < cLine
 gd : A.guards = some []
theorem Room.mono {j k : Nat} {A : Around} (r : Room k A) (h : j <= k) : Room j A := ⟨r.hd, by have := r.dp; (first | lia | omega), by have := r.un; (first | lia | omega), r.gd⟩
theorem Room.deeper {k : Nat} {A : Around} (r : Room (k + 1) A) (env : Env) : Room k (A.deeper env) :=
 ⟨r.hd, by have := r.dp; show A.depth + 1 + 3 * k + 5 < _; (first | lia | omega), by have := r.un; show A.units + 3 + 16 * k + 200 < _; (first | lia | omega), r.gd⟩
theorem Room.depth {k : Nat} {A : Around} (r : Room k A) : A.depth < recursionLimit := by have := r.dp; (first | lia | omega)
theorem Room.units {k : Nat} {A : Around} (r : Room k A) : A.units + 64 < cLine := by have := r.un; (first | lia | omega)
noncomputable def tNil : TA := fun _ H Q => Q [] H
noncomputable def tCons (ta : TE) (tr : TA) : TA := fun σ H Q => ta σ H fun x H1 => tr σ H1 fun xs H2 => Q (x :: xs) H2
section
variable {X : Cx} {e : Expr} {es : List Expr} {te : TE} {t : TA} {pos : Pos}
theorem pa_nil : PA X [] tNil := fun _ _ _ _ H Q I h => Calls.spliced_nil ⟨[], H, I, .nil, h⟩
theorem pa_cons (ha : PE X e te) (hr : PA X es t) (hs : starEach (e :: es) X.env = (false, eval e X.env) :: starEach es X.env := by rfl) : PA X (e :: es) (tCons te t) := by
 intro pos pins s σ H Q I h
 rw [hs]
 show wpAny _ _ (spliced ((false, eval e X.env) :: backTo pos (starEach es X.env))) _ _ s
 refine Calls.spliced_cons (thn (ha pins s σ H _ I h) fun u s1 ⟨x, H1, I1, r1, q1⟩ => ?_)
 exact thn (hr pos pins s1 σ H1 _ I1 q1) fun us s2 ⟨xs, H2, I2, r2, q2⟩ => ⟨x :: xs, H2, I2, .cons r1 r2, q2⟩
noncomputable def tTup (t : TA) : TE := fun σ H Q => t σ H fun xs H1 => xs.length <= sizeLine /\ ∀ p, H1 p = none -> Q (.ref p) (upd H1 p (.tup xs))
noncomputable def tLst (t : TA) : TE := fun σ H Q => t σ H fun xs H1 => xs.length <= sizeLine /\ ∀ p, H1 p = none -> Q (.ref p) (upd H1 p (.lst xs))
theorem pe_tup {x1} (h : PA X es t) : PE X (.Tuple es x1 pos) (tTup t) := by
 intro pins s σ H Q I hq
 refine wpAny_Tuple_spliced (thn (h pos pins s σ H _ I hq) fun us s1 ⟨xs, H1, I1, r, z, q⟩ => ⟨by rw [<- r.length]; exact z, ?_⟩)
 have hf : H1 s1.heap.objs.size = none := I1.hok.fresh (Nat.le_refl _)
 refine ⟨.ref s1.heap.objs.size, upd H1 s1.heap.objs.size (.tup xs), I1.laid (t' := s1.toks) (fun b u e => Heap.get?_push_of_some _ e) (Nat.le_refl _) ?_, rfl, q _ hf⟩
 exact ⟨z, us, r, PTup.new⟩
theorem pe_lst (h : PA X es t) : PE X (.List es pos) (tLst t) := by
 intro pins s σ H Q I hq
 refine wpAny_List_spliced (thn (h pos pins s σ H _ I hq) fun us s1 ⟨xs, H1, I1, r, z, q⟩ => ⟨by rw [<- r.length]; exact z, ?_⟩)
 have hf : H1 s1.heap.objs.size = none := I1.hok.fresh (Nat.le_refl _)
 refine ⟨.ref s1.heap.objs.size, upd H1 s1.heap.objs.size (.lst xs), I1.laid (t' := s1.toks) (fun b u e => Heap.get?_push_of_some _ e) (Nat.le_refl _) ?_, rfl, q _ hf⟩
 exact ⟨z, us, 0, r, Heap.get?_push_size _ rfl⟩
end
noncomputable abbrev Sp := List V -> Hp -> VK -> XK -> Prop
noncomputable abbrev CXT := List Env -> Hp -> Shared -> XK -> Value -> Shared -> Prop
structure Env0 (P : Program) (w : World) (K : PySem.W.Frag) (mg : Str -> Option Value) (base : Heap) (A : Around) (outer : List Env) (s : Shared) (H : Hp) : Prop where
 frames : A.frames = some outer
 mod : Mod K mg base
 bs : ∀ b o, base.get? b = some o -> s.heap.get? b = some o /\ H b = none
 bsz : base.objs.size <= s.heap.objs.size
 funs : s.heap.FunFrames base outer
 frf : ∀ b ∈ frs outer, H b = none
 hok : HOk P w H s.heap
 bare : AllBare s.gens
noncomputable def CE (outer : List Env) (P : Program) (w : World) (H : Hp) (s : Shared) (Q : VK) (u : Value) (s' : Shared) : Prop :=
 ∃ v H', s'.os = s.os /\ AllBare s'.gens /\ Un (frs outer) [] H H' s.heap s'.heap /\ HOk P w H' s'.heap /\ RelV v u /\ Q v H'
noncomputable def CR (CX : CXT) (outer : List Env) (P : Program) (w : World) (H : Hp) (s : Shared) (Q : VK) (E : XK) (r : Result) (s' : Shared) : Prop :=
 match r with
 | .ok (.ret u) => CE outer P w H s Q u s'
 | .ok _ => False
 | .error e => CX outer H s E e s'
structure FnOk (P : Program) (w : World) (K : PySem.W.Frag) (mg : Str -> Option Value) (base : Heap) (CX : CXT) (k : Nat) (f : Addr) (fd : FuncData) (ps : List Str) (sp : Sp) : Prop where
 len : ∀ vs H Q E, sp vs H Q E -> vs.length = ps.length
 run : ∀ (A : Around) (outer : List Env) (s : Shared) (H : Hp) (args : Args) (us : List Value) (vs : List V) (Q : VK) (E : XK), Room k A -> Env0 P w K mg base A outer s H -> BindsTo s fd args (ps.zip us) -> Vals vs us -> sp vs H Q E ->
  codeAny (model P w) A (.call (.ref f) args) (CR CX outer P w H s Q E) s
theorem FnOk.mono {P : Program} {w : World} {K : PySem.W.Frag} {mg : Str -> Option Value} {base : Heap} {CX : CXT} {j k : Nat} {f : Addr} {fd : FuncData} {ps : List Str} {sp : Sp} (F : FnOk P w K mg base CX j f fd ps sp) (h : j <= k) :
  FnOk P w K mg base CX k f fd ps sp := ⟨F.len, fun A outer s H args us vs Q E hr => F.run A outer s H args us vs Q E (hr.mono h)⟩
section
variable {X : Cx} {pins : List (Addr × Obj)} {σ : St} {H : Hp} {s s' : Shared}
theorem Inv.env0 (I : Inv X pins σ H s) : Env0 X.prog X.w X.K X.mg X.base X.A X.stack s H :=
 ⟨I.ok.frames, I.ok.mod, I.bs, Nat.le_trans I.ok.bsz I.sz, I.stack, I.stkFree, I.hok, I.bare⟩
theorem Inv.after {Q : VK} {u : Value} (I : Inv X pins σ H s) (h : CE X.stack X.prog X.w H s Q u s') : EP X pins σ Q u s' := by
 obtain ⟨v, H', os, bare, un, hok, r, q⟩ := h
 obtain ⟨hh, g, d, t, os'⟩ := s'
 obtain rfl : os' = s.os := os
 exact ⟨v, H', I.call (h' := hh) (g' := g) (d' := d) (t' := t) (ch := []) un hok bare (fun b z => absurd z (by simp)), r, q⟩
end
noncomputable def tCall (sp : Sp) (dvs : List V) (E : XK) (t : TA) : TE := fun σ H Q => t σ H fun vs H1 => sp (vs ++ dvs) H1 Q E
noncomputable def Binds (K : PySem.W.Frag) (fd : FuncData) (ps : List Str) (ds : List Value) : Prop :=
 ∀ (s : Shared) (us : List Value), K.In s.heap -> (us ++ ds).length = ps.length -> BindsTo s fd ⟨us, []⟩ (ps.zip (us ++ ds))
theorem Binds.all {K : PySem.W.Frag} {fd : FuncData} {ps : List Str} (h : ∀ us : List Value, us.length = ps.length -> bindArgs fd ⟨us, []⟩ = pure (ps.zip us)) : Binds K fd ps [] := fun s us _ hl => by
 rw [List.append_nil] at hl ⊢
 exact .of_eq (h us hl)
noncomputable def Passes (CX : CXT) (X : Cx) (E : XK) : Prop := ∀ (pins : List (Addr × Obj)) (σ : St) (H : Hp) (s : Shared) (e : Value) (s' : Shared), Inv X pins σ H s -> CX X.stack H s E e s' -> X.xe e s'
section
variable {X : Cx} {CX : CXT} {k : Nat} {f C : Addr} {fd : FuncData} {ps : List Str} {sp : Sp} {dvs : List V} {ds : List Value} {E : XK} {x m : Str} {p pos apos : Pos} {e o : Expr} {es : List Expr} {ta : TE} {t : TA}
theorem run_fn {pins : List (Addr × Obj)} {σ : St} {H : Hp} {s : Shared} {Q : VK} {us : List Value} {vs : List V} (F : FnOk X.prog X.w X.K X.mg X.base CX k f fd ps sp) (hr : Room k X.A) (hb : Binds X.K fd ps ds) (hd : Vals dvs ds) (hx : Passes CX X E)
  (I : Inv X pins σ H s) (r : Vals vs us) (h : sp (vs ++ dvs) H Q E) : wpAny (model X.prog X.w) X.A (call (.ref f) us) (EP X pins σ Q) X.xe s := by
 have r2 : Vals (vs ++ dvs) (us ++ ds) := r.append hd
 have hl : (us ++ ds).length = ps.length := by rw [<- r2.length]; exact F.len _ _ _ _ h
 refine wpAny_call (codeAny_mono (F.run X.A X.stack s H ⟨us, []⟩ (us ++ ds) (vs ++ dvs) Q E hr I.env0 (hb s us I.kIn hl) r2 h) fun r s' hq => ?_)
 cases r with
 | error e => exact hx pins σ H s e s' I hq
 | ok fl =>
  cases fl with
  | ret u => exact I.after hq
  | next => exact False.elim hq
  | brk => exact False.elim hq
  | cont => exact False.elim hq
theorem pe_call (F : FnOk X.prog X.w X.K X.mg X.base CX k f fd ps sp) (hr : Room k X.A) (hg : Gl X x) (hm : X.mg x = some (.ref f)) (hk : PySem.W.keepIn X.K (.ref f) = true) (hb : Binds X.K fd ps ds) (hd : Vals dvs ds) (hx : Passes CX X E)
  (ha : PA X (e :: es) t) (hdb : (x == ("__debug__" : Str)) = false := by decide) (he : starEach (e :: es) X.env = (false, eval e X.env) :: starEach es X.env := by rfl) (hpl : (backTo pos (starEach es X.env)).any (·.1) = false := by rfl) :
  PE X (.Call (.Name x p) (e :: es) [] pos) (tCall sp dvs E t) := by
 intro pins s σ H Q I h
 refine wpAny_Call_Name_kw (ld_glob I hg hm ?_ hdb)
 refine PySem.W.callWith_K (h₀ := X.base) I.ok.mod.kin hk (thn (ha pos pins s σ H _ I h) fun us s1 ⟨vs, H1, I1, r, q⟩ => ⟨I1.kIn, ?_⟩) he hpl
 exact run_fn F hr hb hd hx I1 r q
structure Mk (K : PySem.W.Frag) (C f : Addr) : Prop where
 makes : PySem.W.makesIn K C = true
 init : PySem.W.findIn K (.ref C) "__init__" = some (some (.ref f))
 fn : PySem.W.isFn K (.ref f) = true
 kp : PySem.W.keepIn K (.ref C) = true
end
section
variable {X : Cx} {CX : CXT} {k : Nat} {f C : Addr} {fd : FuncData} {ps ks : List Str} {sp : Sp} {E : XK} {x m : Str} {p pos apos kpos : Pos} {e o : Expr} {es : List Expr} {kws : List Keyword} {te ta : TE} {t tk : TA} {nm : Option Str}
structure KBinds (K : PySem.W.Frag) (fd : FuncData) (ps ks : List Str) (g : List Value -> List Value -> List Value) (gV : List V -> List V -> List V) : Prop where
 to : ∀ (s : Shared) (us ws : List Value), K.In s.heap -> (g us ws).length = ps.length -> BindsTo s fd ⟨us, ks.zip ws⟩ (ps.zip (g us ws))
 rel : ∀ {vs : List V} {us : List Value} {zs : List V} {ws : List Value}, Vals vs us -> Vals zs ws -> Vals (gV vs zs) (g us ws)
variable {g : List Value -> List Value -> List Value} {gV : List V -> List V -> List V}
end
structure FnScope (N P : List Str) (sc : Scope) : Prop where
 kind : sc.kind = .function
 co : sc.isCoroutine = false
 gen : sc.isGenerator = false
 nd : N.Nodup
 pre : N.take P.length = P
 par : ∀ x ∈ P, sc.names.lookup x = some .local ∨ sc.names.lookup x = some .cell
 nofree : ∀ y ∈ sc.names, y.2 ≠ .free
theorem bindL_out {kindOf : Str -> Option NameKind} {x : Str} : ∀ {binds : List (Str × Value)} {m : Str -> Option Value}, (∀ v, (x, v) ∉ binds) -> bindL kindOf binds m x = m x
 | [], _, _ => rfl
 | (n, v) :: r, m, h => by
  unfold bindL
  rw [bindL_out fun w hw => h w (List.mem_cons_of_mem _ hw)]
  split
  ·have : x ≠ n := by rintro rfl; exact h v List.mem_cons_self
   simp [this]
  ·rfl
theorem bindC_out {kindOf : Str -> Option NameKind} {x : Str} : ∀ {binds : List (Str × Value)} {m : Str -> Option Value}, (∀ v, (x, v) ∉ binds) -> bindC kindOf binds m x = m x
 | [], _, _ => rfl
 | (n, v) :: r, m, h => by
  unfold bindC
  rw [bindC_out fun w hw => h w (List.mem_cons_of_mem _ hw)]
  split
  ·rfl
  ·have : x ≠ n := by rintro rfl; exact h v List.mem_cons_self
   simp [this]
theorem bindL_get {kindOf : Str -> Option NameKind} {x : Str} {v : Value} : ∀ {P : List Str} {vs : List Value} {i : Nat} {m : Str -> Option Value}, P.Nodup -> P[i]? = some x -> vs[i]? = some v -> kindOf x = some .local ->
  bindL kindOf (P.zip vs) m x = some v
 | [], _, _, _, _, h, _, _ => by simp at h
 | _ :: _, [], _, _, _, _, h, _ => by simp at h
 | p :: P, w :: vs, 0, m, nd, h1, h2, hk => by
  simp at h1 h2; subst h1; subst h2
  show bindL kindOf ((p, w) :: P.zip vs) m p = _
  unfold bindL
  rw [bindL_out fun v hv => (List.nodup_cons.mp nd).1 (List.of_mem_zip hv).1, if_pos hk]
  simp
 | p :: P, w :: vs, i + 1, m, nd, h1, h2, hk => by
  show bindL kindOf ((p, w) :: P.zip vs) m x = _
  unfold bindL
  exact bindL_get (i := i) (List.nodup_cons.mp nd).2 (by simpa using h1) (by simpa using h2) hk
theorem bindC_get {kindOf : Str -> Option NameKind} {x : Str} {v : Value} : ∀ {P : List Str} {vs : List Value} {i : Nat} {m : Str -> Option Value}, P.Nodup -> P[i]? = some x -> vs[i]? = some v -> kindOf x ≠ some .local ->
  bindC kindOf (P.zip vs) m x = some v
 | [], _, _, _, _, h, _, _ => by simp at h
 | _ :: _, [], _, _, _, _, h, _ => by simp at h
 | p :: P, w :: vs, 0, m, nd, h1, h2, hk => by
  simp at h1 h2; subst h1; subst h2
  show bindC kindOf ((p, w) :: P.zip vs) m p = _
  unfold bindC
  rw [bindC_out fun v hv => (List.nodup_cons.mp nd).1 (List.of_mem_zip hv).1, if_neg hk]
  simp
 | p :: P, w :: vs, i + 1, m, nd, h1, h2, hk => by
  show bindC kindOf ((p, w) :: P.zip vs) m x = _
  unfold bindC
  exact bindC_get (i := i) (List.nodup_cons.mp nd).2 (by simpa using h1) (by simpa using h2) hk
noncomputable def start (N : List Str) (vs : List V) : St := vs.map some ++ List.replicate (N.length - vs.length) none
noncomputable def cxOf (CX : CXT) (P : Program) (w : World) (K : PySem.W.Frag) (mg : Str -> Option Value) (base : Heap) (N : List Str) (qual : Str) (scope : Scope) (f : Addr) (cd : Value) (A : Around) (outer : List Env) (s : Shared) (H : Hp) (E : XK) : Cx where
 prog := P
 w := w
 K := K
 mg := mg
 base := base
 A := A.deeper (envOfC qual scope s.heap.objs.size f cd)
 N := N
 s₀ := s
 H₀ := H
 env := envOfC qual scope s.heap.objs.size f cd
 outer := outer
 stack := envOfC qual scope s.heap.objs.size f cd :: outer
 ex := []
 calm := true
 fn := fun _ => true
 pn := []
 xe := fun e s' => wpAny (model P w) (A.deeper (envOfC qual scope s.heap.objs.size f cd)) (leaving (envOfC qual scope s.heap.objs.size f cd) e) (fun _ s'' => CX outer H s E e s'') (fun e' s'' => CX outer H s E e' s'') s'
theorem cell_has {sc : Scope} {n : Nat} {x : Str} (h : sc.names.lookup x = some .cell) : ∃ c, (cellsFrom n sc.names []).lookup x = some c := by
 have q := PySem.W.cellsFrom_some sc.names n [] (.inl h)
 exact Option.isSome_iff_exists.mp q
theorem inv_start {CX : CXT} {P : Program} {w : World} {K : PySem.W.Frag} {mg : Str -> Option Value} {base : Heap} {N ps : List Str} {qual : Str} {scope : Scope} {f : Addr} {cd : Value} {A : Around} {outer : List Env} {s s1 : Shared} {H : Hp} {E : XK} {us : List Value} {vs : List V}
  (S : FnScope N ps scope) (hd : A.handled = none) (e0 : Env0 P w K mg base A outer s H) (hl : vs.length = ps.length) (r : Vals vs us)
  (x : InCallC s s.heap.objs.size (bindL (envOfC qual scope s.heap.objs.size f cd).kindOf (ps.zip us) fun _ => none) (cellsFrom (s.heap.objs.size + 1) scope.names []) (bindC (envOfC qual scope s.heap.objs.size f cd).kindOf (ps.zip us) fun _ => none) s1) :
  Inv (cxOf CX P w K mg base N qual scope f cd A outer s H E) [] (start N vs) H s1 := by
 have hpl : ps.length <= N.length := by have := congrArg List.length S.pre; rw [List.length_take] at this; (first | lia | omega)
 obtain ⟨h1, tk, rfl, hk⟩ := x.done
 have noA : ∀ b : Addr, b ∉ (cxOf CX P w K mg base N qual scope f cd A outer s H E).ex := fun b z => absurd (show b ∈ ([] : List Addr) from z) (by simp)
 refine ⟨⟨e0.mod, S.kind, rfl, rfl, Nat.le_refl _, fun y z c h1 h2 => ?_, fun y hy => ?_, fun y c _ h => ?_, fun _ => hd, Around.frames_deeper e0.frames, .inr ⟨rfl, rfl⟩, fun b z => absurd z (noA b), e0.bs, e0.bsz, fun b _ _ => noA b, fun b z => absurd z (noA b), e0.funs, e0.frf⟩,
  rfl, e0.bare, Un.kept hk, ⟨_, x.toInCall.ns, fun i y v h1 h2 h3 => ?_⟩, fun y c h => ⟨_, x.cell y c h⟩, e0.hok.fresh (Nat.le_refl _), fun y c h => ?_, fun p hp => absurd (show p ∈ ([] : List (Addr × Obj)) from hp) (by simp), e0.hok.kept hk, ?_⟩
 ·exact name_of_addr x.apart (PySem.mem_of_lookup h1) (PySem.mem_of_lookup h2)
 ·have hy : scope.names.lookup y = some .cell ∨ scope.names.lookup y = some .free := hy
  rcases hy with hy | hy
  ·exact cell_has hy
  ·exact absurd rfl (S.nofree _ (PySem.mem_of_lookup hy))
 ·exact Nat.le_of_lt (x.above y c (PySem.mem_of_lookup h))
 ·have hi : i < vs.length := by
   unfold start at h2
   by_cases hi : i < vs.length
   ·exact hi
   ·rw [List.getElem?_append_right (by simpa using hi)] at h2
    rw [List.getElem?_replicate] at h2
    split at h2 <;> cases h2
  have ha : vs[i]? = some v := by
   unfold start at h2
   rw [List.getElem?_append_left (by simpa using hi), List.getElem?_map] at h2
   cases e : vs[i]? with
   | none => rw [e] at h2; cases h2
   | some a => rw [e] at h2; cases h2; rfl
  obtain ⟨u, hu, rv⟩ := r.get ha
  have hp : ps[i]? = some y := by
   rw [<- S.pre, List.getElem?_take_of_lt (by (first | lia | omega))]; exact h1
  have ndP : ps.Nodup := by rw [<- S.pre]; exact S.nd.sublist (List.take_sublist _ _)
  refine ⟨u, rv, ?_⟩
  rcases S.par y (List.mem_of_getElem? hp) with k | k
  ·exact .inl ⟨k, bindL_get ndP hp hu k⟩
  ·obtain ⟨c, e⟩ := cell_has (n := s.heap.objs.size + 1) k
   refine .inr ⟨.inl k, c, e, ?_⟩
   have q := x.cell y c e
   rw [bindC_get ndP hp hu (by show scope.names.lookup y ≠ _; rw [k]; decide)] at q
   exact q
 ·exact e0.hok.fresh (Nat.le_of_lt (x.above y c (PySem.mem_of_lookup h)))
 ·unfold start
  show _ = N.length
  rw [List.length_append, List.length_map, List.length_replicate]
  (first | lia | omega)
theorem fn_of {CX : CXT} {P : Program} {w : World} {K : PySem.W.Frag} {mg : Str -> Option Value} {base : Heap} {k : Nat} {f : Addr} {name qual : Str} {params : Arguments} {body : List Stmt} {scope : Scope} {dV kV doc pm cdv ct oc : Value} {an od : Option Addr}
  {osl : Array (Option Value)} {N ps : List Str} {sp : Sp} (lk : K.lookup f = some ⟨oc, od, .func (PySem.W.fnOf name qual params body scope dV kV doc pm an cdv ct), osl⟩) (hcd : PySem.W.codeIn K cdv qual = true) (S : FnScope N ps scope)
  (len : ∀ vs H Q E, sp vs H Q E -> vs.length = ps.length)
  (hbody : ∀ (A : Around) (outer : List Env) (s : Shared) (H : Hp) (vs : List V) (Q : VK) (E : XK), Room k (A.deeper (envOfC qual scope s.heap.objs.size f cdv)) -> sp vs H Q E ->
   ∃ t, PSs (cxOf CX P w K mg base N qual scope f cdv A outer s H E) body t /\ t { nx := fun _ H' => Q .non H', rt := Q } (start N vs) H) :
  FnOk P w K mg base CX (k + 1) f (PySem.W.fnOf name qual params body scope dV kV doc pm an cdv ct) ps sp := by
 refine ⟨len, fun A outer s H args us vs Q E hr e0 hb r hsp => ?_⟩
 have hl := len _ _ _ _ hsp
 have KX : K.In s.heap := e0.mod.kin.keeps fun b o e => (e0.bs b o e).1
 have lim : s.heap.NoLimit := e0.mod.nolimit.keeps fun b o e => (e0.bs b o e).1
 have hkind : ∀ y ∈ ps.zip us, scope.names.lookup y.1 = some .local ∨ (scope.names.lookup y.1 = some .cell /\ ((cellsFrom (s.heap.objs.size + 1) scope.names []).lookup y.1).isSome = true) := fun ⟨n, v⟩ hy => by
  rcases S.par n (List.of_mem_zip hy).1 with q | q
  ·exact .inl q
  ·exact .inr ⟨q, PySem.W.cellsFrom_some _ _ _ (.inl q)⟩
 refine codeAny_call_function hr.depth (KX _ _ lk) rfl S.co S.gen rfl (PySem.W.codeRec_of KX hcd) (hb _ _ _ _ ?_)
 refine wpAny_newFunctionEnv_cells S.kind hkind fun env he s1 x => ?_
 subst he
 refine ⟨lim.keeps x.toInCall.keep, codeAny_func ?_⟩
 obtain ⟨t, ht, hq⟩ := hbody A outer s H vs Q E (hr.deeper _) hsp
 have I : Inv (cxOf CX P w K mg base N qual scope f cdv A outer s H E) [] (start N vs) H s1 := inv_start S hr.hd e0 hl r x
 refine wpAny_mono (ht [] s1 (start N vs) H _ I hq) (fun fl s' hs => ?_) fun e s' hs => hs
 have fin : ∀ {σ' : St} {H' : Hp} {v : V} {u : Value}, Inv (cxOf CX P w K mg base N qual scope f cdv A outer s H E) [] σ' H' s' -> RelV v u -> Q v H' -> CE outer P w H s Q u s' :=
  fun {σ' H' v u} J rv q => ⟨v, H', J.os, J.bare, J.base, J.hok, rv, q⟩
 cases fl with
 | ret u =>
  obtain ⟨v, σ', H', J, rv, q⟩ := hs
  exact fin J rv q
 | next =>
  obtain ⟨σ', H', J, q⟩ := hs
  exact fin (v := V.non) (u := Value.none) J rfl q
 | brk =>
  obtain ⟨_, _, _, q⟩ := hs
  exact False.elim q
 | cont =>
  obtain ⟨_, _, _, q⟩ := hs
  exact False.elim q
end L2
namespace L2
open PySem PySem.Spec PyProof.Rows
section
variable {X : Cx} {x : Str} {p pos : Pos} {e : Expr} {es : List Expr} {t : TA} {id T : String} {r : List V -> Hp -> VK -> Prop}
noncomputable def tCB (r : List V -> Hp -> VK -> Prop) (t : TA) : TE := fun σ H Q => t σ H fun vs H1 => r vs H1 Q
theorem pe_callB (hc : CallR X (.builtin id) r) (hg : Gl X x) (hm : X.mg x = none) (hv : bootBuiltins x = some (.builtin id)) (ha : PA X (e :: es) t) (hn : x ≠ "__name__" := by decide) (hdb : (x == ("__debug__" : Str)) = false := by decide)
  (he : starEach (e :: es) X.env = (false, eval e X.env) :: starEach es X.env := by rfl) (hpl : (backTo pos (starEach es X.env)).any (·.1) = false := by rfl) : PE X (.Call (.Name x p) (e :: es) [] pos) (tCB r t) := by
 intro pins s σ H Q I h
 refine wpAny_Call_Name_kw (ld_blt I hg hm hv ?_ hn hdb)
 exact PyProof.Rows.callWith_builtin1 (thn (ha pos pins s σ H _ I h) fun us s1 ⟨vs, H1, I1, r1, q1⟩ => hc pins s1 σ H1 vs us Q I1 r1 q1) he hpl
theorem pe_callTy (hc : CallR X (.type T) r) (hg : Gl X x) (hm : X.mg x = none) (hv : bootBuiltins x = some (.type T)) (ha : PA X (e :: es) t) (hn : x ≠ "__name__" := by decide) (hdb : (x == ("__debug__" : Str)) = false := by decide)
  (he : starEach (e :: es) X.env = (false, eval e X.env) :: starEach es X.env := by rfl) (hpl : (backTo pos (starEach es X.env)).any (·.1) = false := by rfl) : PE X (.Call (.Name x p) (e :: es) [] pos) (tCB r t) := by
 intro pins s σ H Q I h
 refine wpAny_Call_Name_kw (ld_blt I hg hm hv ?_ hn hdb)
 exact PyProof.Rows.callWith_type1 (thn (ha pos pins s σ H _ I h) fun us s1 ⟨vs, H1, I1, r1, q1⟩ => hc pins s1 σ H1 vs us Q I1 r1 q1) he hpl
end
end L2
namespace HT
open PySem PyProof.Rows
section
open PySem.SeqAt
open PySem.AutoSeq1 (wpAny_loadPart')
open PySem.MeetsSeq PySem.MeetsSeq2 PySem.MeetsSeq3
end
section
variable {prog : Program} {w : World} {A : Around} {E : Value -> Shared -> Prop} {s : Shared}
theorem cat_tup {t b : Addr} {vs ws : List Value} {Q : Value -> Shared -> Prop} (ht : IsTup s.heap t vs.toArray) (hb : IsTup s.heap b ws.toArray) (hv : vs ≠ [])
  (h1 : ws = [] -> Q (.ref t) s) (h2 : ws ≠ [] -> Q (.ref s.heap.objs.size) { s with heap := s.heap.push { cls := .type "tuple", data := .seq (vs ++ ws).toArray } })
  (hsz : vs.length + ws.length <= sizeLine) : wpAny (model prog w) A (binaryOp .Add (.ref t) (.ref b)) Q E s := by
 obtain ⟨⟨cls, dd, data, sl⟩, ho, hc, n, hd⟩ := id ht
 obtain ⟨⟨cls2, dd2, data2, sl2⟩, ho2, hc2, n2, hd2⟩ := id hb
 simp only at hc hd hc2 hd2
 subst hc hd hc2 hd2
 have e : vs.toArray ++ ws.toArray = (vs ++ ws).toArray := by simp
 by_cases hw : ws = []
 ·exact concat_meets ⟨_, ho, rfl⟩ ⟨_, ho2, rfl⟩ noFill_tuple_add seq_tuple_add PySem.F.slot_tuple_add PySem.F.entry_tuple_add (PySem.F.args_tuple_add_2 _ _)
   (tuple_addW1 t b vs.toArray ws.toArray n n2 dd dd2 sl sl2 (by simpa using hv) (by simp [hw])) ⟨ho, ho2, h1 hw⟩
 ·refine concat_meets ⟨_, ho, rfl⟩ ⟨_, ho2, rfl⟩ noFill_tuple_add seq_tuple_add PySem.F.slot_tuple_add PySem.F.entry_tuple_add (PySem.F.args_tuple_add_2 _ _)
   (tuple_addW2 t b vs.toArray ws.toArray n n2 dd dd2 sl sl2 (by simpa using hv) (by simpa using hw) (by rw [List.size_toArray, List.size_toArray]; exact hsz)) ⟨ho, ho2, ?_⟩
  rw [e]
  exact h2 hw
noncomputable def sIx (n d : Nat) : Option Int -> Nat
 | none => d
 | some v => if v < 0 then (v + (n : Int)).toNat else min v.toNat n
theorem sIx_none (n d : Nat) : sIx n d none = d := rfl
theorem sIx_nat (n d k : Nat) : sIx n d (some (k : Int)) = min k n := by
 show (if (k : Int) < 0 then ((k : Int) + (n : Int)).toNat else min (k : Int).toNat n) = min k n
 rw [if_neg (by (first | lia | omega)), Int.toNat_natCast]
theorem sIx_le (n d : Nat) (hd : d <= n) (o : Option Int) : sIx n d o <= n := by
 cases o with
 | none => exact hd
 | some v =>
  show (if v < 0 then (v + (n : Int)).toNat else min v.toNat n) <= n
  by_cases hv : v < 0
  ·rw [if_pos hv]; (first | lia | omega)
  ·rw [if_neg hv]; exact Nat.min_le_right _ _
theorem clip_eq (v : Int) (n d : Nat) : (if v < 0 then max (v + (n : Int)) 0 else min v (n : Int)) = ((sIx n d (some v) : Nat) : Int) := by
 show (if v < 0 then max (v + (n : Int)) 0 else min v (n : Int)) = (((if v < 0 then (v + (n : Int)).toNat else min v.toNat n) : Nat) : Int)
 by_cases hv : v < 0
 ·simp only [if_pos hv]; (first | lia | omega)
 ·simp only [if_neg hv]; (first | lia | omega)
theorem adjust_gen (lo hi : Option Int) (n : Nat) : Builtin.Slice.sliceAdjust lo hi 1 (n : Int) = (((sIx n 0 lo : Nat) : Int), ((sIx n n hi : Nat) : Int)) := by
 have h1 : ¬ ((1 : Int) < 0) := by (first | lia | omega)
 unfold Builtin.Slice.sliceAdjust
 simp only [h1, if_false]
 refine Prod.ext ?_ ?_
 ·cases lo with
  | none => rfl
  | some v => exact clip_eq v n 0
 ·cases hi with
  | none => rfl
  | some v => exact clip_eq v n n
theorem places_gen (i j : Nat) : Builtin.Slice.slicePlaces (i : Int) (j : Int) 1 = j - i := by
 unfold Builtin.Slice.slicePlaces
 have h1 : (1 : Int) > 0 := by (first | lia | omega)
 simp only [h1, if_true, Int.ediv_one]
 split <;> (first | lia | omega)
theorem slicePart_ {v : Value} {o : Option Int} {Q : Option Int -> Shared -> Prop} (p : IsPart v o) (h : Q o s) : wpAny (model prog w) A (Builtin.Slice.slicePartIndex v) Q E s := by
 cases p with
 | none => exact slicePart_none h
 | int i t => exact slicePart_int h
theorem sliceApplied_gen {sl : Addr} {vl vu : Value} {lo hi : Option Int} {n : Nat} {Q : Int × Int × Nat -> Shared -> Prop} (hs : s.heap.IsSliceOf sl vl vu .none) (pl : IsPart vl lo) (pu : IsPart vu hi)
  (h : Q (((sIx n 0 lo : Nat) : Int), 1, sIx n n hi - sIx n 0 lo) s) : wpAny (model prog w) A (Builtin.Slice.sliceApplied (.ref sl) (pure (n : Int))) Q E s := by
 obtain ⟨os, hos, hcs, hds⟩ := id hs
 unfold Builtin.Slice.sliceApplied Builtin.Slice.sliceFields
 refine wpAny_bind (wpAny_bind (wpAny_field hos hds (x := vl) rfl (wpAny_bind (wpAny_field hos hds (x := vu) rfl (wpAny_bind (wpAny_field hos hds (x := .none) rfl (wpAny_pure ?_)))))))
 refine wpAny_bind (slicePart_none ?_)
 show wpAny _ _ (if ((1 : Int) == 0) = true then _ else _) _ _ s
 rw [if_neg (by decide)]
 refine wpAny_bind (slicePart_ pl (wpAny_bind (slicePart_ pu (wpAny_bind (wpAny_pure ?_)))))
 show wpAny _ _ (match Builtin.Slice.sliceAdjust lo hi 1 (n : Int) with | (lo, hi) => pure (lo, (1 : Int), Builtin.Slice.slicePlaces lo hi 1)) _ _ s
 rw [adjust_gen lo hi n]
 show wpAny _ _ (pure (((sIx n 0 lo : Nat) : Int), (1 : Int), Builtin.Slice.slicePlaces ((sIx n 0 lo : Nat) : Int) ((sIx n n hi : Nat) : Int) 1)) _ _ s
 rw [places_gen]
 exact wpAny_pure h
theorem pick_gen (xs : Array Value) (i k : Nat) : ((List.range k).filterMap fun (m : Nat) => xs[((i : Int) + (m : Int) * 1).toNat]?).toArray = ((xs.toList.drop i).take k).toArray := by
 have e : (fun (m : Nat) => xs[((i : Int) + (m : Int) * 1).toNat]?) = fun m => xs[i + m]? := by
  funext m
  have : ((i : Int) + (m : Int) * 1).toNat = i + m := by (first | lia | omega)
  rw [this]
 rw [e]
 have := pick_run xs i k
 rw [List.filterMap_map] at this
 have e2 : ((fun x => xs[x]?) ∘ fun x => i + x) = fun m => xs[i + m]? := rfl
 rw [e2] at this
 rw [this]
theorem getItem_tuple_cut {t sl : Addr} {items : Array Value} {vl vu : Value} {lo hi : Option Int} {Q : Value -> Shared -> Prop} (ht : IsTup s.heap t items) (hs : s.heap.IsSliceOf sl vl vu .none) (pl : IsPart vl lo) (pu : IsPart vu hi)
  (hw : ¬ (sIx items.size 0 lo = 0 /\ sIx items.size items.size hi = items.size))
  (h : Q (.ref s.heap.objs.size) { s with heap := s.heap.push { cls := .type "tuple", data := .seq ((items.toList.drop (sIx items.size 0 lo)).take (sIx items.size items.size hi - sIx items.size 0 lo)).toArray } })
  (hsz : items.size <= sizeLine) : wpAny (model prog w) A (getItem (.ref t) (.ref sl)) Q E s := by
 have htake : sizeOk (.seq ((items.toList.drop (sIx items.size 0 lo)).take (sIx items.size items.size hi - sIx items.size 0 lo)).toArray) := by
  show ((items.toList.drop (sIx items.size 0 lo)).take (sIx items.size items.size hi - sIx items.size 0 lo)).toArray.size <= sizeLine
  rw [List.size_toArray, List.length_take, List.length_drop, Array.length_toList]
  (first | lia | omega)
 have hj : sIx items.size items.size hi <= items.size := sIx_le _ _ (Nat.le_refl _) hi
 obtain ⟨os, hos, hcs, hds⟩ := id hs
 have hTs : s.TypeIs (.ref sl) "slice" := ⟨os, hos, hcs⟩
 unfold getItem
 try with_reducible refine wpAny_holding ?_
 first | refine wpAny_bind (wpAny_pure ?_) | skip
 refine wpAny_bind (wpAny_sequenceKey ht.typeIs (by decide) ?_)
 refine wpAny_bind (wpAny_callSpecial?_slot (name := Str.ofString "__getitem__") ht.typeIs PyProof.Rows.slot_tuple_getitem
  (wpAny_call_entry PyProof.Rows.slot_tuple_getitem ht.typeIs entry_tuple_getitem ?_ (args_tuple_getitem _ _)))
 show wpAny _ _ (Builtin.Tuple.tupleItemsOf (.ref t) >>= _) _ _ s
 refine wpAny_bind (tupleItemsOf_ ht ?_)
 refine wpAny_bind (wpAny_typeOf hTs ?_)
 rw [if_pos (by decide)]
 refine wpAny_bind (sliceApplied_gen hs pl pu ?_)
 have hno : ¬ ((((sIx items.size 0 lo : Nat) : Int) == 0 && (1 : Int) == 1 && (sIx items.size items.size hi - sIx items.size 0 lo) == items.size) = true) := by
  intro q
  rw [Bool.and_eq_true, Bool.and_eq_true] at q
  have q1 : ((sIx items.size 0 lo : Nat) : Int) = 0 := eq_of_beq q.1.1
  have q2 : sIx items.size items.size hi - sIx items.size 0 lo = items.size := eq_of_beq q.2
  exact hw ⟨by (first | lia | omega), by (first | lia | omega)⟩
 show wpAny _ _ (if (((sIx items.size 0 lo : Nat) : Int) == 0 && (1 : Int) == 1 && (sIx items.size items.size hi - sIx items.size 0 lo) == items.size) = true then _ else _) _ _ s
 rw [if_neg hno, pick_gen]
 first
  | exact wpAny_bind (m := Builtin.Tuple.tupleExact _) (wpAny_newObj_type (wpAny_pure ⟨_, rfl, wpAny_pure h⟩) htake)
  | exact wpAny_bind (m := Builtin.Tuple.tupleExact _) (wpAny_newObj_type (wpAny_bind (wpAny_pure (wpAny_pure ⟨_, rfl, wpAny_pure h⟩))) htake)
  | exact wpAny_bind (wpAny_bind (m := Builtin.Tuple.tupleExact _) (wpAny_newObj_type (wpAny_pure (wpAny_pure ⟨_, rfl, wpAny_pure h⟩)) htake))
  | exact wpAny_bind (wpAny_bind (m := Builtin.Tuple.tupleExact _) (wpAny_newObj_type (wpAny_pure ⟨_, rfl, wpAny_pure h⟩) htake))
end
end HT
namespace L2
open PySem PySem.Spec PyProof.Rows
noncomputable abbrev TO := St -> Hp -> (Option Int -> Hp -> Prop) -> Prop
noncomputable def PO (X : Cx) (e : Option Expr) (t : TO) : Prop :=
 ∀ (pins : List (Addr × Obj)) (s : Shared) (σ : St) (H : Hp) (Q : Option Int -> Hp -> Prop), Inv X pins σ H s -> t σ H Q ->
  wpAny (model X.prog X.w) X.A (evalPart e X.env) (fun u s' => ∃ o H', Inv X pins σ H' s' /\ IsPart u o /\ Q o H') X.xe s
noncomputable def tNoPart : TO := fun _ H Q => Q none H
noncomputable def tPart (t : TE) : TO := fun σ H Q => t σ H fun x H1 => ∃ i, x = .int i /\ Q (some i) H1
theorem intsAre_of {ns : List Int} : ∀ {us : List Value}, Vals (ns.map V.int) us -> IntsAre us ns := by
 induction ns with
 | nil => intro us r; rw [List.map_nil] at r; cases r; exact .nil
 | cons n ns ih =>
  intro us r
  rw [List.map_cons] at r
  cases r with
  | cons r1 r2 =>
   obtain ⟨t, e⟩ := r1
   subst e
   exact .cons n t (ih r2)
section
variable {X : Cx} {e : Expr} {te : TE} {lo hi : Option Expr} {tl th : TO} {pos p2 : Pos}
theorem po_none : PO X none tNoPart := by
 intro pins s σ H Q I h
 rw [evalPart_none]
 exact wpAny_pure ⟨none, H, I, .none, h⟩
theorem po_some (h : PE X e te) : PO X (some e) (tPart te) := by
 intro pins s σ H Q I hw
 rw [evalPart_some]
 refine thn (h pins s σ H _ I hw) fun u s1 ⟨x, H1, I1, r1, q1⟩ => ?_
 obtain ⟨i, rfl, q⟩ := q1
 obtain ⟨t, rfl⟩ := r1
 exact ⟨some i, H1, I1, .int i t, q⟩
noncomputable def SlR (X : Cx) (r : V -> Option Int -> Option Int -> Hp -> VK -> Prop) : Prop :=
 ∀ (pins : List (Addr × Obj)) (s : Shared) (σ : St) (H : Hp) (x : V) (v vl vu : Value) (lo hi : Option Int) (sl : Addr) (Q : VK), Inv X pins σ H s -> RelV x v -> s.heap.IsSliceOf sl vl vu .none -> IsPart vl lo -> IsPart vu hi -> r x lo hi H Q ->
  ∃ T id, typeLookup (.type T) "__getitem__" = pure (some (.builtin id)) /\ s.TypeIs v T /\ wpAny (model X.prog X.w) X.A (getItem v (.ref sl)) (EP X pins σ Q) X.xe s
noncomputable def tSl (r : V -> Option Int -> Option Int -> Hp -> VK -> Prop) (te : TE) (tl th : TO) : TE := fun σ H Q => te σ H fun x H1 => tl σ H1 fun l H2 => th σ H2 fun u H3 => r x l u H3 Q
theorem pe_slice {r : V -> Option Int -> Option Int -> Hp -> VK -> Prop} (hr : SlR X r) (he : PE X e te) (hl : PO X lo tl) (hu : PO X hi th) : PE X (.Subscript e (.Slice lo hi none p2) pos) (tSl r te tl th) := by
 intro pins s σ H Q I h
 refine Subscript_ (thn (he pins s σ H _ I h) fun v s1 ⟨x, H1, I1, r1, q1⟩ => ?_)
 refine wpAny_Slice (thn (hl pins s1 σ H1 _ I1 q1) fun vl s2 ⟨l, H2, I2, pl, q2⟩ => thn (hu pins s2 σ H2 _ I2 q2) fun vu s3 ⟨u, H3, I3, pu, q3⟩ => ?_)
 rw [evalPart_none]
 refine wpAny_pure ?_
 have I4 : Inv X pins σ H3 { s3 with heap := s3.heap.push { cls := .type "slice", data := .fields #[vl, vu, .none] } } := I3.kept (t' := s3.toks) fun b ob q => Heap.get?_push_of_some _ q
 obtain ⟨T, id, hT, ht, hg⟩ := hr pins { s3 with heap := s3.heap.push { cls := .type "slice", data := .fields #[vl, vu, .none] } } σ H3 x v vl vu l u s3.heap.objs.size Q I4 r1 (Heap.IsSliceOf.new ..) pl pu q3
 show wpAny (model X.prog X.w) X.A (subscriptTail e (.Slice lo hi none p2) v (.ref s3.heap.objs.size)) (EP X pins σ Q) X.xe { s3 with heap := s3.heap.push { cls := .type "slice", data := .fields #[vl, vu, .none] } }
 exact tail_any (ops := [.ref s3.heap.objs.size, v]) ht hT hg (by with_unfolding_all rfl)
noncomputable def cutV (xs : List V) (lo hi : Option Int) : List V := (xs.drop (HT.sIx xs.length 0 lo)).take (HT.sIx xs.length xs.length hi - HT.sIx xs.length 0 lo)
theorem cutV_length (xs : List V) (lo hi : Option Int) : (cutV xs lo hi).length <= xs.length := by
 unfold cutV
 rw [List.length_take, List.length_drop]
 (first | lia | omega)
noncomputable def rSlT (K : PySem.W.Frag) : V -> Option Int -> Option Int -> Hp -> VK -> Prop := fun x lo hi H Q => ∃ a xs, x = .ref a /\ SqT K H a xs /\
 ¬ (HT.sIx xs.length 0 lo = 0 /\ HT.sIx xs.length xs.length hi = xs.length) /\ ∀ p, H p = none -> Q (.ref p) (upd H p (.tup (cutV xs lo hi)))
theorem sl_tup : SlR X (rSlT X.K) := by
 intro pins s σ H x v vl vu lo hi sl Q I rx hs pl pu h
 obtain ⟨a, xs, rfl, hx, hw, q⟩ := h
 cases rx
 obtain ⟨its, r, ht, hz⟩ := I.tuple hx
 have hlen : its.toArray.size = xs.length := by rw [List.size_toArray]; exact r.length.symm
 refine ⟨"tuple", _, PyProof.Rows.slot_tuple_getitem.lookup, ht.typeIs, ?_⟩
 refine HT.getItem_tuple_cut ht hs pl pu (by rw [hlen]; exact hw) ?_ (by rw [hlen]; exact hz)
 rw [hlen]
 refine ⟨.ref s.heap.objs.size, _, I.laid (t' := s.toks) (o := .tup (cutV xs lo hi)) (fun b ob q => Heap.get?_push_of_some _ q) (Nat.le_refl _) ?_, rfl, q _ (I.hok.fresh (Nat.le_refl _))⟩
 exact ⟨Nat.le_trans (cutV_length xs lo hi) hz, _, (r.drop (HT.sIx xs.length 0 lo)).take (HT.sIx xs.length xs.length hi - HT.sIx xs.length 0 lo), PTup.new⟩
noncomputable def rCatT (K : PySem.W.Frag) : R2 := fun x y H Q => ∃ a b xs ys, x = .ref a /\ y = .ref b /\ SqT K H a xs /\ SqT K H b ys /\ xs ≠ [] /\ xs.length + ys.length <= sizeLine /\
 (ys = [] -> Q (.ref a) H) /\ (ys ≠ [] -> ∀ p, H p = none -> Q (.ref p) (upd H p (.tup (xs ++ ys))))
theorem Vals.nil_iff {xs : List V} {us : List Value} (r : Vals xs us) : us = [] ↔ xs = [] := by
 cases r with
 | nil => simp
 | cons _ _ => simp
theorem op_catT : OpR X (binaryOp .Add) (rCatT X.K) := by
 intro pins s σ H x y v u Q I rx ry h
 obtain ⟨a, b, xs, ys, rfl, rfl, ha, hb, hx, hz, q1, q2⟩ := h
 cases rx
 cases ry
 obtain ⟨its, r1, p1, _⟩ := I.tuple ha
 obtain ⟨its2, r2, p2, _⟩ := I.tuple hb
 refine HT.cat_tup p1 p2 (fun z => hx (r1.nil_iff.mp z)) (fun z => ⟨.ref a, H, I, rfl, q1 (r2.nil_iff.mp z)⟩) (fun z => ?_) (by rw [<- r1.length, <- r2.length]; exact hz)
 refine ⟨.ref s.heap.objs.size, _, I.laid (t' := s.toks) (o := .tup (xs ++ ys)) (fun b ob q => Heap.get?_push_of_some _ q) (Nat.le_refl _) ?_, rfl, q2 (fun w => z (r2.nil_iff.mpr w)) _ (I.hok.fresh (Nat.le_refl _))⟩
 exact ⟨by rw [List.length_append]; exact hz, _, r1.append r2, PTup.new⟩
end
end L2
namespace L2
open PySem PySem.Spec PyProof.Rows
noncomputable def ixN (n : Nat) (i : Int) : Option Nat := if 0 <= i then (if i < n then some i.toNat else none) else if -(n : Int) <= i then some (i + n).toNat else none
noncomputable def atI {α : Type} (xs : List α) (i : Int) : Option α := (ixN xs.length i).bind fun j => xs[j]?
theorem ixN_seq {n : Nat} {i : Int} {j : Nat} (h : ixN n i = some j) : seqIndex? i n = some j /\ j < n /\ -(n : Int) <= i /\ i < n := by
 unfold ixN at h
 by_cases h0 : 0 <= i
 ·rw [if_pos h0] at h
  by_cases h1 : i < n
  ·rw [if_pos h1] at h
   have e : i.toNat = j := Option.some.inj h
   exact ⟨by rw [seqIndex_of h0 h1, e], by (first | lia | omega), by (first | lia | omega), h1⟩
  ·rw [if_neg h1] at h; cases h
 ·rw [if_neg h0] at h
  by_cases h1 : -(n : Int) <= i
  ·rw [if_pos h1] at h
   have e : (i + n).toNat = j := Option.some.inj h
   exact ⟨by rw [seqIndex_neg (by (first | lia | omega)) h1, e], by (first | lia | omega), h1, by (first | lia | omega)⟩
  ·rw [if_neg h1] at h; cases h
theorem atI_get {α : Type} {xs : List α} {i : Int} {v : α} (h : atI xs i = some v) : ∃ j, seqIndex? i xs.length = some j /\ xs[j]? = some v /\ j < xs.length /\ -(xs.length : Int) <= i /\ i < xs.length := by
 unfold atI at h
 cases e : ixN xs.length i with
 | none => rw [e] at h; cases h
 | some j =>
  rw [e] at h
  obtain ⟨h1, h2, h3, h4⟩ := ixN_seq e
  exact ⟨j, h1, h, h2, h3, h4⟩
theorem atI_nat {α : Type} {xs : List α} {j : Nat} {v : α} (h : xs[j]? = some v) : atI xs (j : Int) = some v := by
 have hj : j < xs.length := (List.getElem?_eq_some_iff.mp h).1
 have e : ixN xs.length (j : Int) = some j := by
  unfold ixN
  rw [if_pos (by (first | lia | omega)), if_pos (by (first | lia | omega))]; simp
 unfold atI; rw [e]; exact h
noncomputable def PlainIx (b : Expr) : Prop := ∀ o i, subscripted b false o i = operate [o, i] (getItem o i)
noncomputable def IxR (X : Cx) (r : R2) : Prop :=
 ∀ (value slice : Expr) (pins : List (Addr × Obj)) (s : Shared) (σ : St) (H : Hp) (x y : V) (v u : Value) (Q : VK), Inv X pins σ H s -> RelV x v -> RelV y u -> r x y H Q ->
  subscripted slice false v u = operate [v, u] (getItem v u) -> wpAny (model X.prog X.w) X.A (subscriptTail value slice v u) (EP X pins σ Q) X.xe s
noncomputable def MtR (X : Cx) (id : String) (r : V -> List V -> Hp -> VK -> Prop) : Prop :=
 ∀ (pins : List (Addr × Obj)) (s : Shared) (σ : St) (H : Hp) (x : V) (xs : List V) (v : Value) (us : List Value) (Q : VK), Inv X pins σ H s -> RelV x v -> Vals xs us -> r x xs H Q ->
  wpAny (model X.prog X.w) X.A (call (.builtin id) (v :: us)) (EP X pins σ Q) X.xe s
section
variable {X : Cx} {a b : Expr} {ta tb : TE} {pos : Pos}
theorem pe_ix {r : R2} (hr : IxR X r) (ha : PE X a ta) (hb : PE X b tb) (hs : PlainIx b) : PE X (.Subscript a b pos) (tOp r ta tb) := by
 intro pins s σ H Q I h
 exact Subscript_ (binT ha hb I h fun v u s2 x y H2 I2 rx ry q => hr a b pins s2 σ H2 x y v u Q I2 rx ry q (hs _ _))
noncomputable def rIxL (K : PySem.W.Frag) : R2 := fun x y H Q => ∃ p xs i v, x = .ref p /\ y = .int i /\ SqL K H p xs /\ atI xs i = some v /\ Q v H
noncomputable def rIxT (K : PySem.W.Frag) : R2 := fun x y H Q => ∃ p xs i v, x = .ref p /\ y = .int i /\ SqT K H p xs /\ atI xs i = some v /\ Q v H
theorem ix_list : IxR X (rIxL X.K) := by
 intro value slice pins s σ H x y v u Q I rx ry h hs
 obtain ⟨p, xs, i, z, rfl, rfl, hq, he, q⟩ := h
 cases rx
 obtain ⟨t, rfl⟩ := ry
 obtain ⟨its, r, pl, hz⟩ := I.list hq
 obtain ⟨j, h1, h2, h3, h4, h5⟩ := atI_get he
 obtain ⟨w, ew, rw'⟩ := r.get h2
 have hl := r.length
 have hn := line63
 have fin : EP X pins σ Q w s := ⟨z, H, I, rw', q⟩
 by_cases h0 : 0 <= i
 ·have hj : i.toNat = j := by
   rw [seqIndex_of h0 h5] at h1
   exact Option.some.inj h1
  exact item_listR pl.isList h0 (by (first | lia | omega)) (by rw [hj]; simpa using ew) fin hs
 ·have hj : (i + (its.toArray.size : Int)).toNat = j := by
   rw [seqIndex_neg (by (first | lia | omega)) h4] at h1
   rw [List.size_toArray, <- hl]
   exact Option.some.inj h1
  exact subscriptTail_builtinR (x := w) pl.isList.typeIs slot_list_getitem.lookup
   (wpAny_getItem_list_neg (Q := fun r s' => r = w /\ EP X pins σ Q r s') pl.isList (by (first | lia | omega)) (by rw [List.size_toArray] <;> (first | lia | omega)) (by (first | lia | omega)) (by rw [hj]; simpa using ew) ⟨rfl, fin⟩) hs
theorem ix_tup : IxR X (rIxT X.K) := by
 intro value slice pins s σ H x y v u Q I rx ry h hs
 obtain ⟨p, xs, i, z, rfl, rfl, hq, he, q⟩ := h
 cases rx
 obtain ⟨t, rfl⟩ := ry
 obtain ⟨its, r, pl, hz⟩ := I.tuple hq
 obtain ⟨j, h1, h2, h3, h4, h5⟩ := atI_get he
 obtain ⟨w, ew, rw'⟩ := r.get h2
 have hl := r.length
 have hn := line63
 have fin : EP X pins σ Q w s := ⟨z, H, I, rw', q⟩
 exact subscriptTail_builtinR (x := w) pl.typeIs slot_tuple_getitem.lookup
  (getItem_tuple (j := j) (Q := fun r s' => r = w /\ EP X pins σ Q r s') pl (by (first | lia | omega)) (by (first | lia | omega)) (by rw [List.size_toArray, <- hl]; exact h1) (by simpa using ew) ⟨rfl, fin⟩) hs
theorem mapSeq_set (its : List Value) (n j : Nat) (u : Value) : Obj.mapSeq (·.setIfInBounds j u) { cls := .type "list", data := .seq its.toArray n } = { cls := .type "list", data := .seq (its.set j u).toArray n } := by
 simp [Obj.mapSeq]
theorem Inv.lst {pins : List (Addr × Obj)} {σ : St} {H : Hp} {s : Shared} {p : Addr} {xs : List V} (I : Inv X pins σ H s) (h : H p = some (.lst xs)) :
  ∃ (its : List Value) (n : Nat), Vals xs its /\ s.heap.get? p = some { cls := .type "list", data := .seq its.toArray n } /\ xs.length <= sizeLine := by
 obtain ⟨z, its, n, r, e⟩ := I.hok p _ h
 exact ⟨its, n, r, e, z⟩
theorem Inv.lstUpd {pins : List (Addr × Obj)} {σ : St} {H : Hp} {s : Shared} {p : Addr} {xs ys : List V} {its its' : List Value} {n n' : Nat} {f : Obj -> Obj} (I : Inv X pins σ H s) (h : H p = some (.lst xs))
  (ho : s.heap.get? p = some { cls := .type "list", data := .seq its.toArray n }) (hf : f { cls := .type "list", data := .seq its.toArray n } = { cls := .type "list", data := .seq its'.toArray n' }) (r : Vals ys its') (hz : ys.length <= sizeLine) (t : Nat) :
  Inv X pins σ (upd H p (.lst ys)) { s with heap := s.heap.update p f, toks := t } := by
 have e : (s.heap.update p f).get? p = some { cls := .type "list", data := .seq its'.toArray n' } := by
  rw [Heap.get?_update_self f ho (by rw [hf] <;> rfl), hf]
 refine I.write (x := p) (e := p) (by rw [h]; trivial) (.inl rfl) (fun b u hb q => (Heap.get?_update_other _ _ (Ne.symm hb)).trans q) ⟨_, e⟩ ?_
 exact ⟨hz, its', n', r, e⟩
noncomputable def rSetL : V -> V -> V -> Hp -> (Hp -> Prop) -> Prop := fun o i v H Q => ∃ p xs k j, o = .ref p /\ i = .int k /\ H p = some (.lst xs) /\ ixN xs.length k = some j /\ Q (upd H p (.lst (xs.set j v)))
theorem set_list : PSet X rSetL := by
 intro pins s σ H o i v ov iv u Q I ro ri rv h
 obtain ⟨p, xs, k, j, rfl, rfl, hp, hj, q⟩ := h
 cases ro
 obtain ⟨t, rfl⟩ := ri
 obtain ⟨its, n, r, ho, hz⟩ := I.lst hp
 obtain ⟨h1, h2, h3, h4⟩ := ixN_seq hj
 have hl := r.length
 have hn := line63
 have I' : Inv X pins σ (upd H p (.lst (xs.set j v))) { s with heap := s.heap.update p (Obj.mapSeq (·.setIfInBounds j u)) } :=
  I.lstUpd hp ho (mapSeq_set its n j u) (r.set rv j) (by rw [List.length_set]; exact hz) s.toks
 by_cases h0 : 0 <= k
 ·have hk : k.toNat = j := by
   rw [seqIndex_of h0 h4] at h1
   exact Option.some.inj h1
  exact PySem.W.ki_setAt ho h0 (by (first | lia | omega)) (by rw [List.size_toArray, <- hl]; exact h4) (by rw [hk]; exact ⟨_, I', q⟩)
 ·have hk : (k + (its.toArray.size : Int)).toNat = j := by
   rw [seqIndex_neg (by (first | lia | omega)) h3] at h1
   rw [List.size_toArray, <- hl]
   exact Option.some.inj h1
  exact PySem.W.ki_setBack ho (by (first | lia | omega)) (by rw [List.size_toArray, <- hl]; exact h3) (by (first | lia | omega)) (by rw [hk]; exact ⟨_, I', q⟩)
theorem slice_bounds (lo hi : Option Int) (n : Nat) : (sliceBounds lo hi none n).1 = ((HT.sIx n 0 lo : Nat) : Int) /\ (sliceBounds lo hi none n).2.1 = ((HT.sIx n n hi : Nat) : Int) /\ (sliceBounds lo hi none n).2.2 = 1 := by
 refine ⟨?_, ?_, rfl⟩
 ·cases lo with
  | none => simp [sliceBounds, HT.sIx]
  | some i =>
   simp only [sliceBounds, HT.sIx, Option.getD_none, show (1 : Int) > 0 by decide, if_true]
   by_cases h : i < 0
   ·simp only [h, if_true] <;> (first | lia | omega)
   ·simp only [h, if_false] <;> (first | lia | omega)
 ·cases hi with
  | none => simp [sliceBounds, HT.sIx]
  | some i =>
   simp only [sliceBounds, HT.sIx, Option.getD_none, show (1 : Int) > 0 by decide, if_true]
   by_cases h : i < 0
   ·simp only [h, if_true] <;> (first | lia | omega)
   ·simp only [h, if_false] <;> (first | lia | omega)
theorem slicePick_cut (its : List Value) (lo hi : Option Int) : slicePick its.toArray lo hi none = ((its.drop (HT.sIx its.length 0 lo)).take (HT.sIx its.length its.length hi - HT.sIx its.length 0 lo)).toArray := by
 obtain ⟨h1, h2, h3⟩ := slice_bounds lo hi its.toArray.size
 unfold slicePick
 rw [h1, h2, h3]
 simp only [sliceRange_one, pick_run, List.size_toArray] <;> rfl
noncomputable def rSlL (K : PySem.W.Frag) : V -> Option Int -> Option Int -> Hp -> VK -> Prop := fun x lo hi H Q => ∃ a xs, x = .ref a /\ SqL K H a xs /\ ∀ p, H p = none -> Q (.ref p) (upd H p (.lst (cutV xs lo hi)))
theorem sl_list : SlR X (rSlL X.K) := by
 intro pins s σ H x v vl vu lo hi sl Q I rx hs pl pu h
 obtain ⟨a, xs, rfl, hx, q⟩ := h
 cases rx
 obtain ⟨its, r, ht, hz⟩ := I.list hx
 have hlen := r.length
 refine ⟨"list", _, slot_list_getitem.lookup, ht.isList.typeIs, ?_⟩
 refine wpAny_getItem_list_slice ht.isList hs pl pu .none (by simp) ?_ (by rw [List.size_toArray] <;> (first | lia | omega))
 rw [slicePick_cut, <- hlen]
 refine ⟨.ref s.heap.objs.size, _, I.laid (t' := s.toks) (o := .lst (cutV xs lo hi)) (fun b ob q => Heap.get?_push_of_some _ q) (Nat.le_refl _) ?_, rfl, q _ (I.hok.fresh (Nat.le_refl _))⟩
 exact ⟨Nat.le_trans (cutV_length xs lo hi) hz, _, 0, (r.drop (HT.sIx xs.length 0 lo)).take (HT.sIx xs.length xs.length hi - HT.sIx xs.length 0 lo), Heap.get?_push_size _ rfl⟩
theorem call_len_seq : CallR X (.builtin "len") (fun xs H Q => ∃ p ys, xs = [.ref p] /\ (SqL X.K H p ys ∨ SqT X.K H p ys) /\ Q (.int ys.length) H) := by
 intro pins s σ H xs us Q I r h
 obtain ⟨p, ys, rfl, hq, q⟩ := h
 obtain ⟨u, rfl, rx⟩ := vals1 r
 cases rx
 have hn := line63
 rcases hq with hq | hq
 ·obtain ⟨its, r', pl, hz⟩ := I.list hq
  have hlen := r'.length
  exact Calls.call_len_list pl.isList (by simp only [List.size_toArray] <;> (first | lia | omega)) ⟨.int ys.length, H, I.tok _, ⟨s.toks + 1, by rw [List.size_toArray, hlen]⟩, q⟩
 ·obtain ⟨its, r', pl, hz⟩ := I.tuple hq
  have hlen := r'.length
  exact len_tuple pl (by simp only [List.size_toArray] <;> (first | lia | omega)) ⟨.int ys.length, H, I.tok _, ⟨s.toks + 1, by rw [List.size_toArray, hlen]⟩, q⟩
theorem call_list_of : CallR X (.type "list") (fun xs H Q => ∃ p ys, xs = [.ref p] /\ (SqL X.K H p ys ∨ SqT X.K H p ys) /\ ∀ l, H l = none -> Q (.ref l) (upd H l (.lst ys))) := by
 intro pins s σ H xs us Q I r h
 obtain ⟨p, ys, rfl, hq, q⟩ := h
 obtain ⟨u, rfl, rx⟩ := vals1 r
 cases rx
 have fin : ∀ (its : List Value), Vals ys its -> ys.length <= sizeLine -> ∀ (h' : Heap) (c' : Nat), (∀ b o', s.heap.get? b = some o' -> h'.get? b = some o') ->
   h'.get? s.heap.objs.size = some { cls := .type "list", dict := none, data := .seq its.toArray c', slots := #[] } -> EP X pins σ Q (.ref s.heap.objs.size) { s with heap := h' } := fun its r' hz h' c' kp e =>
  ⟨.ref s.heap.objs.size, _, I.laid (t' := s.toks) kp (Nat.le_refl _) (show ObjOk X.prog X.w _ h' _ (.lst ys) from ⟨hz, its, c', r', e⟩), rfl, q _ (I.hok.fresh (Nat.le_refl _))⟩
 rcases hq with hq | hq
 ·obtain ⟨its, r', pl, hz⟩ := I.list hq
  have hlen := r'.length
  obtain ⟨o, ho, hc, n, hd⟩ := pl.isList
  exact call_list_seq p (.inl rfl) ho hc hd (fun h' c' kp e => fin its r' hz h' c' kp e) (by simp only [List.size_toArray] <;> (first | lia | omega))
 ·obtain ⟨its, r', pl, hz⟩ := I.tuple hq
  have hlen := r'.length
  obtain ⟨o, ho, hc, n, hd⟩ := pl
  exact call_list_seq p (.inr rfl) ho hc hd (fun h' c' kp e => fin its r' hz h' c' kp e) (by simp only [List.size_toArray] <;> (first | lia | omega))
theorem call_tuple_of : CallR X (.type "tuple") (fun xs H Q => ∃ p ys, xs = [.ref p] /\ ((SqL X.K H p ys /\ ∀ l, H l = none -> Q (.ref l) (upd H l (.tup ys))) ∨ (SqT X.K H p ys /\ Q (.ref p) H))) := by
 intro pins s σ H xs us Q I r h
 obtain ⟨p, ys, rfl, h⟩ := h
 obtain ⟨u, rfl, rx⟩ := vals1 r
 cases rx
 rcases h with ⟨hq, q⟩ | ⟨hq, q⟩
 ·obtain ⟨its, r', pl, hz⟩ := I.list hq
  have hlen := r'.length
  refine call_tuple_list pl.isList (fun h' kp => ?_) (by simp only [List.size_toArray] <;> (first | lia | omega))
  have I1 : Inv X pins σ H { s with heap := h' } := I.kept (t' := s.toks) kp
  have I2 : Inv X pins σ (upd H h'.objs.size (.tup ys)) { s with heap := h'.push { cls := .type "tuple", data := .seq its.toArray } } :=
   I1.laid (t' := s.toks) (fun b o e => Heap.get?_push_of_some _ e) (Nat.le_refl _) (show ObjOk X.prog X.w _ _ _ (.tup ys) from ⟨hz, its, r', PTup.new⟩)
  exact ⟨.ref h'.objs.size, _, I2, rfl, q _ (I1.hok.fresh (Nat.le_refl _))⟩
 ·obtain ⟨its, r', pl, hz⟩ := I.tuple hq
  exact call_tuple_same pl ⟨.ref p, H, I, rfl, q⟩
noncomputable def tyV (K : PySem.W.Frag) (T : String) (x : V) (H : Hp) : Prop := match x with
 | .str _ => T = "str"
 | .int _ => T = "int"
 | .ref p => (T = "list" /\ ∃ xs, SqL K H p xs) ∨ (T = "tuple" /\ ∃ o, K.lookup p = some o /\ o.cls = .type "tuple" /\ o.dict = none) ∨
   (T = "dict" /\ ((∃ kvs, H p = some (.dK kvs)) ∨ ∃ kvs, H p = some (.dT kvs))) ∨ (T = "set" /\ ∃ S n, H p = some (.set S n))
 | _ => False
theorem tyV_is {pins : List (Addr × Obj)} {σ : St} {H : Hp} {s : Shared} {T : String} {x : V} {v : Value} (I : Inv X pins σ H s) (r : RelV x v) (ty : tyV X.K T x H) :
  s.TypeIs v T /\ ∀ a, v = .ref a -> ∃ ob, s.heap.get? a = some ob /\ ob.dict = none := by
 cases x with
 | str z =>
  obtain ⟨t, rfl⟩ := r
  cases (show T = "str" from ty)
  exact ⟨typeIs_str s z t, fun _ e => nomatch e⟩
 | int i =>
  obtain ⟨t, rfl⟩ := r
  cases (show T = "int" from ty)
  exact ⟨typeIs_int s i t, fun _ e => nomatch e⟩
 | ref p =>
  cases r
  rcases ty with ⟨rfl, xs, hq⟩ | ⟨rfl, o, hk, hc, hd⟩ | ⟨rfl, hk⟩ | ⟨rfl, S, n, hk⟩
  ·obtain ⟨its, _, pl, _⟩ := I.list hq
   refine ⟨pl.isList.typeIs, fun a e => ?_⟩
   cases e
   obtain ⟨o, n, e, c, hd, _⟩ := pl
   exact ⟨o, e, hd⟩
  ·refine ⟨⟨o, I.kIn p o hk, hc⟩, fun a e => ?_⟩
   cases e
   exact ⟨o, I.kIn _ o hk, hd⟩
  ·have z : ∃ o, s.heap.get? p = some o /\ o.ExactDict := by
    rcases hk with ⟨kvs, hk⟩ | ⟨kvs, hk⟩
    ·obtain ⟨_, _, _, _, o, _, _, e, ex, _⟩ := I.hok p _ hk
     exact ⟨o, e, ex⟩
    ·obtain ⟨_, _, _, _, o, _, _, e, ex, _⟩ := I.hok p _ hk
     exact ⟨o, e, ex⟩
   obtain ⟨o, e, ex⟩ := z
   refine ⟨⟨o, e, ex.1⟩, fun a e2 => ?_⟩
   cases e2
   exact ⟨o, e, ex.2.1⟩
  ·obtain ⟨o, _, _, _, e, ex, _⟩ := I.hok p _ hk
   refine ⟨⟨o, e, ex.1⟩, fun a e2 => ?_⟩
   cases e2
   exact ⟨o, e, ex.2.1⟩
 | _ => exact False.elim ty
noncomputable def tBM (K : PySem.W.Frag) (T : String) (r : V -> List V -> Hp -> VK -> Prop) (to : TE) (t : TA) : TE := fun σ H Q => to σ H fun x H1 => tyV K T x H1 /\ t σ H1 fun xs H2 => r x xs H2 Q
variable {o e : Expr} {es : List Expr} {to : TE} {t : TA} {name : Str} {apos cpos : Pos} {T id : String} {r : V -> List V -> Hp -> VK -> Prop}
theorem pe_bm (pa : PlainAttrs T) (slot : Slot T name id) (hty : typeOf (.builtin id) = pure (.type "method_descriptor")) (hm : MtR X id r) (ho : PE X o to) (ha : PA X (e :: es) t)
  (hbase : attributeBase o name X.env (eval o X.env) = eval o X.env := by rfl)
  (hfew : ((backTo cpos (starEach (e :: es) X.env)).all (fun x => !x.1) && (backToKw cpos (keywordEach [] X.env)).all (fun x => x.1.isSome)
   && decide ((e :: es).length + ([] : List Keyword).length + (if ([] : List Keyword).isEmpty then 0 else 1) < 30)) = true := by rfl)
  (hline : (apos.endLine == cpos.line) = true := by rfl) (hs : starEach (e :: es) X.env = (false, eval e X.env) :: starEach es X.env := by rfl) (hplain : (backTo cpos (starEach es X.env)).any (·.1) = false := by rfl) :
  PE X (.Call (.Attribute o name apos) (e :: es) [] cpos) (tBM X.K T r to t) := by
 intro pins s σ H Q I h
 refine wpAny_Call_method_late hbase hfew hline rfl (thn (ho pins s σ H _ I h) fun v s1 ⟨x, H1, I1, r1, ty, q1⟩ => ?_)
 obtain ⟨h1, h2⟩ := tyV_is I1 r1 ty
 refine ⟨T, id, pa, slot, hty, h1, h2, ?_⟩
 have hA := ha cpos pins s1 σ H1 _ I1 q1
 rw [hs] at hA ⊢
 refine Calls.callWith_builtin (by show (false || (backTo cpos (starEach es X.env)).any (·.1)) = false; rw [hplain] <;> rfl) (Calls.evalArgs_plain ?_)
 exact thn hA fun us s2 ⟨vs, H2, I2, r2, q2⟩ => hm pins s2 σ H2 x vs v us Q I2 r1 r2 q2
end
end L2
namespace L2
open PySem PySem.Spec PyProof.Rows
noncomputable def MtM (X : Cx) (id : String) (r : V -> List V -> Hp -> VK -> Prop) : Prop :=
 ∀ (pins : List (Addr × Obj)) (s : Shared) (σ : St) (H : Hp) (x : V) (xs : List V) (v : Value) (us : List Value) (Q : VK), Inv X pins σ H s -> RelV x v -> Vals xs us -> r x xs H Q ->
  wpAny (model X.prog X.w) X.A (call (.builtin id) (v :: us)) (EP X pins σ Q) X.xe s
theorem Vals.one : ∀ {x : V} {us : List Value}, Vals [x] us -> ∃ u, us = [u] /\ RelV x u
 | _, _, .cons r .nil => ⟨_, rfl, r⟩
theorem Vals.eraseIdx : ∀ {xs : List V} {us : List Value} (i : Nat), Vals xs us -> Vals (xs.eraseIdx i) (us.eraseIdx i)
 | _, _, _, .nil => .nil
 | _, _, 0, .cons _ t => t
 | _, _, i + 1, .cons r t => .cons r (Vals.eraseIdx i t)
theorem Vals.reverse {xs : List V} {us : List Value} (h : Vals xs us) : Vals xs.reverse us.reverse := by
 induction h with
 | nil => exact .nil
 | cons r t ih => rw [List.reverse_cons, List.reverse_cons]; exact Vals.append ih (.cons r .nil)
theorem Vals.rep {xs : List V} {us : List Value} (h : Vals xs us) : ∀ k : Nat, Vals (List.replicate k xs).flatten (List.replicate k us).flatten
 | 0 => .nil
 | k + 1 => by
  rw [List.replicate_succ, List.replicate_succ, List.flatten_cons, List.flatten_cons]
  exact Vals.append h (Vals.rep h k)
theorem len_erase {α : Type} : ∀ (l : List α) (i : Nat), (l.eraseIdx i).length <= l.length
 | [], _ => Nat.le_refl _
 | _ :: _, 0 => Nat.le_succ _
 | _ :: r, i + 1 => Nat.succ_le_succ (len_erase r i)
theorem foldl_rep (its : List Value) : ∀ (k : Nat) (acc : List Value),
  List.foldl (fun x1 x2 => x1 ++ x2) acc.toArray (List.replicate k its.toArray) = (acc ++ (List.replicate k its).flatten).toArray
 | 0, acc => by simp
 | k + 1, acc => by
  have e : acc.toArray ++ its.toArray = (acc ++ its).toArray := by simp
  have e2 : (acc ++ its) ++ (List.replicate k its).flatten = acc ++ (List.replicate (k + 1) its).flatten := by
   rw [List.replicate_succ, List.flatten_cons, List.append_assoc]
  rw [<- e2, <- foldl_rep its k (acc ++ its), <- e, List.replicate_succ, List.foldl_cons]
section
variable {X : Cx} {pins : List (Addr × Obj)} {σ : St} {H : Hp} {s : Shared} {l b : Addr} {xs ys zs : List V}
theorem Inv.lset {its its' : List Value} {n : Nat} {f : Array Value -> Array Value} {t' : Nat} (I : Inv X pins σ H s) (hH : H l = some (.lst xs))
  (e : s.heap.get? l = some { cls := .type "list", data := .seq its.toArray n }) (hf : f its.toArray = its'.toArray) (hv : Vals ys its') (hz : ys.length <= sizeLine) :
  Inv X pins σ (upd H l (.lst ys)) { s with heap := s.heap.update l (Obj.mapSeq f), toks := t' } := by
 have q := PySem.IsL.update e f
 rw [hf] at q
 refine I.write (x := l) (e := l) (by rw [hH]; exact trivial) (.inl rfl) (fun b' u hb hu => (Heap.get?_update_other s.heap (Obj.mapSeq f) (Ne.symm hb)).trans hu) ⟨_, q⟩ ?_
 exact ⟨hz, its', _, hv, q⟩
theorem Inv.lnew {its : List Value} {t' : Nat} (I : Inv X pins σ H s) (hv : Vals ys its) (hz : ys.length <= sizeLine) :
  Inv X pins σ (upd H s.heap.objs.size (.lst ys)) { s with heap := s.heap.push { cls := .type "list", data := .seq its.toArray }, toks := t' } :=
 I.laid (fun _ _ q => Heap.get?_push_of_some _ q) (Nat.le_refl _) ⟨hz, its, 0, hv, Heap.get?_push_size _ rfl⟩
theorem Inv.fresh (I : Inv X pins σ H s) : H s.heap.objs.size = none := I.hok.fresh (Nat.le_refl _)
theorem Inv.lstM (I : Inv X pins σ H s) (hH : H l = some (.lst xs)) : xs.length <= sizeLine /\ ∃ (its : List Value) (n : Nat), Vals xs its /\ xs.length = its.length /\ s.heap.get? l = some { cls := .type "list", data := .seq its.toArray n } := by
 obtain ⟨z, its, n, r, e⟩ := I.hok l _ hH
 exact ⟨z, its, n, r, r.length, e⟩
theorem notLongL {n : Nat} (h : n <= sizeLine) : Builtin.List.listTooLong n = false := by
 unfold Builtin.List.listTooLong
 exact decide_eq_false (by (first | lia | omega))
end
section
variable {X : Cx}
noncomputable def rAppend : V -> List V -> Hp -> VK -> Prop := fun x vs H Q => ∃ l xs y, x = .ref l /\ vs = [y] /\ H l = some (.lst xs) /\ xs.length < sizeLine /\ Q .non (upd H l (.lst (xs ++ [y])))
theorem mt_append : MtM X "list.append" rAppend := by
 intro pins s σ H x vs v us Q I rx rv h
 obtain ⟨l, xs, y, rfl, rfl, hH, hz, q⟩ := h
 cases rx
 obtain ⟨u, rfl, ru⟩ := rv.one
 obtain ⟨z, its, n, r, hl, e⟩ := I.lstM hH
 refine call_meets F.slot_list_append ⟨_, e, rfl⟩ F.entry_list_append (F.args_list_append_2 _ _) (PySem.list_append l its.toArray n u (by rw [List.size_toArray]; (first | lia | omega))) ⟨e, ?_⟩
 refine ⟨.non, _, I.lset (its' := its ++ [u]) hH e (by simp) (r.append (.cons ru .nil)) ?_, rfl, q⟩
 rw [List.length_append, List.length_singleton]
 (first | lia | omega)
noncomputable def rPopAt : V -> List V -> Hp -> VK -> Prop := fun x vs H Q => ∃ l xs i k y, x = .ref l /\ vs = [.int i] /\ H l = some (.lst xs) /\ -(2 ^ 63) <= i /\ i < 2 ^ 63 /\ seqIndex? i xs.length = some k /\ xs[k]? = some y /\ Q y (upd H l (.lst (xs.eraseIdx k)))
theorem mt_popAt : MtM X "list.pop" rPopAt := by
 intro pins s σ H x vs v us Q I rx rv h
 obtain ⟨l, xs, i, k, y, rfl, rfl, hH, h1, h2, hk, hy, q⟩ := h
 cases rx
 obtain ⟨u, rfl, ru⟩ := rv.one
 obtain ⟨t, rfl⟩ := ru
 obtain ⟨z, its, n, r, hl, e⟩ := I.lstM hH
 obtain ⟨w, hw, rw'⟩ := r.get hy
 refine call_meets F.slot_list_pop ⟨_, e, rfl⟩ F.entry_list_pop (F.args_list_pop_2 _ _)
  (MeetsSeq.list_pop_at l its.toArray n i t k w (fitsIndex_both h1 h2) (by rw [List.size_toArray, <- hl]; exact hk) (by rw [<- Array.getElem?_toList]; exact hw) (by rw [List.size_toArray]; (first | lia | omega))) ⟨e, ?_⟩
 refine ⟨y, _, I.lset (its' := its.eraseIdx k) hH e ?_ (r.eraseIdx k) ?_, rw', q⟩
 ·show its.toArray.eraseIdxIfInBounds k = (its.eraseIdx k).toArray
  rw [List.eraseIdxIfInBounds_toArray]
 ·have := len_erase xs k
  (first | lia | omega)
noncomputable def rCat : R2 := fun x y H Q => ∃ l b xs zs, x = .ref l /\ y = .ref b /\ H l = some (.lst xs) /\ H b = some (.lst zs) /\ xs.length + zs.length <= sizeLine /\ ∀ p, H p = none -> Q (.ref p) (upd H p (.lst (xs ++ zs)))
theorem op_cat : OpR X (binaryOp .Add) rCat := by
 intro pins s σ H x y v u Q I rx ry h
 obtain ⟨l, b, xs, zs, rfl, rfl, hH, hB, hz, q⟩ := h
 cases rx
 cases ry
 obtain ⟨z, its, n, r, hl, e⟩ := I.lstM hH
 obtain ⟨z2, its2, n2, r2, hl2, e2⟩ := I.lstM hB
 refine PySem.P.add_list e e2 ?_ (by rw [List.size_toArray, List.size_toArray]; (first | lia | omega))
 have ea : its.toArray ++ its2.toArray = (its ++ its2).toArray := by simp
 rw [ea]
 exact ⟨.ref _, _, I.lnew (t' := s.toks) (r.append r2) (by rw [List.length_append]; (first | lia | omega)), rfl, q _ I.fresh⟩
noncomputable def rRep : R2 := fun x y H Q => ∃ l k xs, x = .ref l /\ y = .int k /\ H l = some (.lst xs) /\ -(2 ^ 63) <= k /\ k < 2 ^ 63 /\ xs.length * k.toNat <= sizeLine /\
 ∀ p, H p = none -> Q (.ref p) (upd H p (.lst (List.replicate k.toNat xs).flatten))
theorem len_rep {α : Type} (xs : List α) (k : Nat) : (List.replicate k xs).flatten.length = k * xs.length := by
 induction k with
 | zero => simp
 | succ k ih => rw [List.replicate_succ, List.flatten_cons, List.length_append, ih, Nat.succ_mul, Nat.add_comm]
theorem op_rep : OpR X (binaryOp .Mult) rRep := by
 intro pins s σ H x y v u Q I rx ry h
 obtain ⟨l, k, xs, rfl, rfl, hH, h1, h2, hz, q⟩ := h
 cases rx
 obtain ⟨t, rfl⟩ := ry
 obtain ⟨z, its, n, r, hl, e⟩ := I.lstM hH
 have hlen : its.toArray.size * k.toNat <= sizeLine := by rw [List.size_toArray, <- hl]; exact hz
 have hcap : ¬ its.toArray.size * k.toNat > (2 ^ 63 - 1) / 8 := by
  have : (sizeLine : Nat) <= (2 ^ 63 - 1) / 8 := by decide
  (first | lia | omega)
 have hfit : ¬ (!Builtin.List.listFitsIndex k) = true := by
  rw [fitsIndex_both h1 h2]
  exact Bool.false_ne_true
 have hlong : ¬ Builtin.List.listTooLong (its.toArray.size * k.toNat) = true := by
  rw [notLongL hlen]
  exact Bool.false_ne_true
 have hnew : List.foldl (fun x1 x2 => x1 ++ x2) #[] (List.replicate (if its.toArray.isEmpty = true then 0 else k.toNat) its.toArray) = (List.replicate k.toNat its).flatten.toArray := by
  have f0 : ∀ m : Nat, List.foldl (fun x1 x2 => x1 ++ x2) #[] (List.replicate m its.toArray) = (List.replicate m its).flatten.toArray := fun m => by
   have := foldl_rep its m []
   rw [List.nil_append] at this
   exact this
  rw [f0]
  cases its with
  | nil => simp
  | cons a r' => rw [if_neg (by simp)]
 refine wpAny_binaryOp_repeat_ref (T := "list") (U := "int") (by decide) ⟨_, e, rfl⟩ (fun s' => typeIs_int s' k t) noFill_list_mul F.fills_int_mul F.slot_int_rmul repeat_list F.slot_int_index.lookup
  (call_meets F.slot_int_rmul (typeIs_int s k t) F.entry_int_rmul (F.args_int_rmul_2 _ _) (int___rmul___int_list k t l its.toArray n)
   ⟨e, rfl, ⟨_, e, rfl⟩, call_meets F.slot_list_mul ⟨_, e, rfl⟩ F.entry_list_mul (F.args_list_mul_2 _ _) (AutoListH.list___mul___list_int_3 l its.toArray n k t hfit hcap hlong) ⟨e, ?_⟩⟩)
 rw [hnew]
 exact ⟨.ref _, _, I.lnew (t' := s.toks) (r.rep k.toNat) (by rw [len_rep, Nat.mul_comm]; exact hz), rfl, q _ I.fresh⟩
end
section
variable {prog : Program} {w : World} {A : Around} {E : Value -> Shared -> Prop} {s : Shared}
end
section
variable {X : Cx}
end
end L2
namespace Att
open PySem PySem.W PySem.Calls PyProof.Rows
theorem ints_of_wellAll {P : Params} {h : Heap} : ∀ (ns : List Int) (vs : List Value), WellAll P h vs (ns.map WData.int) -> IntsAre vs ns := by
 intro ns
 induction ns with
 | nil =>
  intro vs w
  rw [List.map_nil] at w
  cases w
  exact .nil
 | cons n ns ih =>
  intro vs w
  rw [List.map_cons] at w
  cases w with
  | cons a b =>
   cases a
   exact .cons _ _ (ih _ b)
theorem script_of {l : OpenLaw} {n : Nat} (hn : l.most = some n) {P : Params} {h : Heap} {args : List WData} {vals : List Value}
  (hpre : l.row.toRowW.claim.pre args = true) (hwl : WellAll P h vals args) :
  ∃ a vs ns, vals = [Value.ref a] /\ args = [WData.list (ns.map WData.int)] /\ h.get? a = some { cls := .type "list", data := .seq vs.toArray } /\ IntsAre vs ns /\ ns.length <= n := by
 have hsh : WShape.hasAll [] args [.list .int] = true := (pre_splitW hpre).1
 have hc : l.pre.holds [] { args := args } = true := (pre_splitW hpre).2
 obtain ⟨d, r, rfl, h1, h2⟩ := hasAllW_cons hsh
 obtain rfl := hasAllW_nil h2
 obtain ⟨xs, rfl, h3⟩ := hasW_list h1
 obtain ⟨ns, rfl⟩ := items_int h3
 have hlen : ns.length <= n := by
  unfold OpenLaw.pre at hc
  have h4 : (WTm.not (.lt (.lit (.int (n : Int))) (.len (.arg 0)))).holds [] { args := [.list (ns.map .int)] } = true := by
   have h4 := (holds_andW hc).1
   rw [hn] at h4
   exact h4
  have h5 := condW_of h4 (w_not (w_lt w_lit (w_len_list (w_arg rfl))))
  rw [List.length_map] at h5
  refine Nat.le_of_not_lt fun q => ?_
  have q' : (n : Int) < ((ns.length : Nat) : Int) := by (first | lia | omega)
  first
   | (rw [decide_eq_true q'] at h5; exact absurd h5 (by decide))
   | (simp at h5; (first | lia | omega))
 cases hwl with
 | cons w1 w2 =>
  cases w2
  cases w1 with
  | list ho hall => exact ⟨_, _, ns, rfl, rfl, ho, ints_of_wellAll ns _ hall, hlen⟩
theorem post_true (l : OpenLaw) (args : List WData) : l.row.toRowW.claim.post args (.bool true) args = true :=
 postW_of (r := l.row.toRowW) (X := (true == true))
  (show WShape.has [] (.bool true) .bool = true by first | rfl | decide | simp [WShape.has, WShape.arms, WShape.armsAll])
  (show (WTm.eq .res (.lit (.bool true))).value [] { args := args, res := some (.bool true), after := args } = some (.bool (true == true)) from w_eq_bool (w_res rfl) w_lit) rfl
theorem attach_call {l : OpenLaw} {n : Nat} {q : Program} {loose : List Str} {XP : (Str -> Option Value) -> Heap -> Prop} {YP : World -> Heap -> Prop} {d : DefRec}
  (hn : l.most = some n) (hdf : d.params.defaults = [])
  (call : ∀ (w : World) (s₀ s₁ : Shared) (mg mb : Str -> Option Value) (fa : Addr) (o : Obj) (pm cd doc : Value) (a : Addr) (vs : List Value) (ns : List Int),
   Ground q loose [] XP w s₀ mg mb s₁.heap -> YP w s₁.heap ->
   s₁.heap.get? fa = some o -> o.data = .func (docDef d.name d.params d.body d.scope pm cd doc) -> s₁.heap.CodeRec cd d.name -> mg d.name = some (.ref fa) ->
   s₁.heap.get? a = some { cls := .type "list", data := .seq vs.toArray } -> IntsAre vs ns -> ns.length <= n -> s₁.gens = #[] ->
   codeAny (model l.prog w) callerA (.call (.ref fa) ⟨[.ref a], []⟩) (fun r s' => r = .ok (.ret (.bool true)) /\ OldK s₁.heap s'.heap /\ s'.os = s₁.os /\ AllBare s'.gens) s₁) :
  WalkO q loose XP YP l.row.toRowW d [] (fun f vs => PySem.call f vs) := by
 intro w s₀ s₁ mg mb G Y fa o pm cd doc dV kV ho hd hcd hD hmg hg args vals as hpre hlay hrd hwl hlo
 obtain rfl : dV = .none := Dflts.none hD hdf
 obtain rfl : kV = .none := Dflts.noKw hD
 obtain ⟨a, vs, ns, rfl, rfl, hobj, hints, hlen⟩ := script_of hn hpre hwl
 refine enter_call (codeAny_mono (call w s₀ s₁ mg mb fa o pm cd doc a vs ns G Y ho (fd_plain hd) hcd hmg hobj hints hlen hg) fun r s' hq => ?_)
 obtain ⟨rfl, h2, h3, h4⟩ := hq
 exact ⟨.inl ⟨.bool true, .bool true, [], rfl, fun _ => rfl, .bool true, post_true l _, fun _ => ⟨List.Pairwise.nil, fun _ hm => (nomatch hm)⟩⟩, h2, h3, h4⟩
section
variable {prog : Program} {w : World} {A : Around} {E : Value -> Shared -> Prop} {s : Shared} {K : Frag}
end
end Att
namespace L2
open PySem PySem.Spec PyProof.Rows
theorem vals_ints : ∀ {vs : List Value} {ns : List Int}, IntsAre vs ns -> Vals (ns.map V.int) vs
 | _, _, .nil => .nil
 | _, _, .cons n t h => .cons ⟨t, rfl⟩ (vals_ints h)
noncomputable def Only (H : Hp) : Prop := ∀ b, H b = none ∨ ∃ o xs, H b = some (.frz o (.lst xs))
theorem law_call {P : Program} {w : World} {K : PySem.W.Frag} {mg mb : Str -> Option Value} {CX : CXT} {k : Nat} {fa a : Addr} {fd : FuncData} {x : Str} {sp : Sp} {s₁ : Shared} {vs : List Value} {ns : List Int}
  (KX : K.In s₁.heap) (hns : s₁.heap.Ns mainGlobals mg) (hb : s₁.heap.Ns builtinsNs mb) (hbb : ∀ x : Str, x ≠ "__name__" -> mb x = bootBuiltins x) (hlim : s₁.heap.NoLimit) (hg : s₁.gens = #[])
  (ha : s₁.heap.get? a = some { cls := .type "list", data := .seq vs.toArray }) (hi : IntsAre vs ns) (hl : ns.length <= sizeLine) (hr : Room k callerA)
  (F : ∀ base : Heap, K.In base -> base.Ns mainGlobals mg -> FnOk P w K mg base CX k fa fd [x] sp) (hbind : ∀ (s : Shared) (u : Value), BindsTo s fd ⟨[u], []⟩ [(x, u)])
  (hsp : ∀ H : Hp, Only H -> SqL K H a (ns.map V.int) -> sp [.ref a] H (fun v _ => v = .bl true) fun _ _ _ => False)
  (hCX : ∀ H e s', CX [] H s₁ (fun _ _ _ => False) e s' -> False) :
  codeAny (model P w) callerA (.call (.ref fa) ⟨[.ref a], []⟩) (fun r s' => r = .ok (.ret (.bool true)) /\ OldK s₁.heap s'.heap /\ s'.os = s₁.os /\ AllBare s'.gens) s₁ := by
 have rv := vals_ints hi
 have lenV := hi.length
 have core : ∀ H : Hp, Only H -> SqL K H a (ns.map V.int) -> HOk P w H s₁.heap -> (∀ b, H b ≠ none -> b = a) -> (H a ≠ none -> K.lookup a = none) ->
   codeAny (model P w) callerA (.call (.ref fa) ⟨[.ref a], []⟩) (fun r s' => r = .ok (.ret (.bool true)) /\ OldK s₁.heap s'.heap /\ s'.os = s₁.os /\ AllBare s'.gens) s₁ := by
  intro H hO hS hok hA hK
  have base_of : ∀ {b : Addr} {o : Obj}, s₁.heap.get? b = some o -> H b = none -> (hidT s₁.heap H).get? b = some o := fun e n => hidT_get e n
  have noA : ∀ {b : Addr} {o : Obj} {es : Array DictEntry} {ep : Nat}, s₁.heap.get? b = some o -> o.data = .dict es ep -> H b = none := fun {b o es ep} e d => by
   cases q : H b with
   | none => rfl
   | some u =>
    have e' : b = a := hA b (by rw [q]; simp)
    subst e'
    rw [ha] at e; cases e
    have d' : Data.seq vs.toArray _ = Data.dict es ep := d
    cases d'
  have nsK : ∀ {b : Addr} {m : Str -> Option Value}, s₁.heap.Ns b m -> (hidT s₁.heap H).Ns b m := fun {b m} ⟨o, es, ep, e, d, r⟩ => ⟨o, es, ep, base_of e (noA e d), d, r⟩
  have hKb : K.In (hidT s₁.heap H) := fun b o e => base_of (KX b o e) (by
   cases q : H b with
   | none => rfl
   | some u =>
    have e' : b = a := hA b (by rw [q]; simp)
    subst e'
    rw [hK (by rw [q]; simp)] at e; cases e)
  have hM : Mod K mg (hidT s₁.heap H) := ⟨hKb, nsK hns, ⟨mb, nsK hb, hbb⟩, let ⟨mc, h1, h2⟩ := hlim; ⟨mc, nsK h1, h2⟩⟩
  have e0 : Env0 P w K mg (hidT s₁.heap H) callerA [] s₁ H := ⟨rfl, hM, fun b o e => of_hidT e, Nat.le_of_eq (hidT_size _ _), trivial, fun b hb => absurd (show b ∈ ([] : List Addr) from hb) (by simp), hok, .of_eq hg⟩
  refine codeAny_mono ((F _ hKb (nsK hns)).run callerA [] s₁ H ⟨[.ref a], []⟩ [.ref a] [.ref a] _ _ hr e0 (hbind s₁ (.ref a)) (.cons rfl .nil) (hsp H hO hS)) fun r s' h => ?_
  cases r with
  | error e => exact (hCX H e s' h).elim
  | ok fl =>
   cases fl with
   | next => exact False.elim h
   | brk => exact False.elim h
   | cont => exact False.elim h
   | ret u =>
    obtain ⟨v, H', os, bare, un, hok', r', q⟩ := h
    have q' : v = .bl true := q
    subst q'
    obtain rfl : u = Value.bool true := r'
    refine ⟨rfl, OldK.of_keep fun b o e => ?_, os, bare⟩
    cases q : H b with
    | none => exact un.keep b o e q (by intro z; exact absurd (show b ∈ ([] : List Addr) from z) (by simp)) (by simp)
    | some u =>
     rcases hO b with z | ⟨ob, xs, z⟩
     ·rw [q] at z; cases z
     ·have z2 := un.frzs b ob _ z
      obtain ⟨e1, _⟩ := hok b _ z
      obtain ⟨e2, _⟩ := hok' b _ z2
      rw [e] at e1; cases e1
      exact e2
 cases hk : K.lookup a with
 | some o =>
  have e := KX a o hk
  rw [ha] at e
  cases e
  refine core (fun _ => none) (fun _ => .inl rfl) (.inr ⟨_, vs.toArray, _, hk, rfl, rfl, rfl, by rw [List.size_toArray, lenV]; exact hl, by simpa using rv⟩) (fun b u z => by have z' : (none : Option HO) = some u := z; cases z') (fun b z => absurd rfl z) fun z => absurd rfl z
 | none =>
  refine core (fun b => if b = a then some (.frz { cls := .type "list", data := .seq vs.toArray } (.lst (ns.map V.int))) else none) (fun b => ?_) (.inl (.inr ⟨{ cls := .type "list", data := .seq vs.toArray }, if_pos rfl⟩)) (fun b u z => ?_) (fun b z => ?_) fun _ => hk
  ·by_cases hb : b = a
   ·exact .inr ⟨_, _, if_pos hb⟩
   ·exact .inl (if_neg hb)
  ·by_cases hb : b = a
   ·have z' := (if_pos hb).symm.trans z
    cases z'
    subst hb
    exact ⟨ha, by rw [List.length_map]; exact hl, vs, _, rv, ha⟩
   ·have z' := (if_neg hb).symm.trans z
    cases z'
  ·by_cases hb : b = a
   ·exact hb
   ·exact absurd (if_neg hb) z
end L2
namespace L2
open PySem PySem.Spec PyProof.Rows
theorem walk_of {l : PySem.W.OpenLaw} {n k : Nat} {q : Program} {loose : List Str} {XP : (Str -> Option Value) -> Heap -> Prop} {YP : World -> Heap -> Prop} {d : DefRec} {K : Params -> PySem.W.Frag} {CX : World -> CXT} {sp : World -> Sp} {x : Str}
  (hn : l.most = some n) (hn2 : n <= sizeLine) (hdf : d.params.defaults = []) (hr : Room k callerA)
  (hY : ∀ (w : World) (h : Heap), YP w h -> (K w.params).In h)
  (F : ∀ (w : World) (mg : Str -> Option Value) (fa : Addr) (h : Heap), (K w.params).In h -> h.Ns mainGlobals mg -> mg d.name = some (.ref fa) ->
   ∃ fd : FuncData, (∀ (s : Shared) (u : Value), BindsTo s fd ⟨[u], []⟩ [(x, u)]) /\
    ∀ base : Heap, (K w.params).In base -> base.Ns mainGlobals mg -> FnOk l.prog w (K w.params) mg base (CX w) k fa fd [x] (sp w))
  (hsp : ∀ (w : World) (H : Hp) (a : Addr) (ns : List Int), ns.length <= n -> Only H -> SqL (K w.params) H a (ns.map V.int) -> sp w [.ref a] H (fun v _ => v = .bl true) fun _ _ _ => False)
  (hCX : ∀ (w : World) (H : Hp) (s : Shared) (e : Value) (s' : Shared), CX w [] H s (fun _ _ _ => False) e s' -> False) :
  PySem.W.WalkO q loose XP YP l.row.toRowW d [] (fun f vs => PySem.call f vs) := by
 refine Att.attach_call hn hdf fun w s₀ s₁ mg mb fa o pm cd doc a vs ns G Y ho hd hcd hmg hobj hints hlen hg => ?_
 have KX := hY w _ Y
 obtain ⟨fd, hb, hF⟩ := F w mg fa _ KX G.T.g hmg
 exact law_call KX G.T.g G.T.b G.T.builtins G.T.nolimit hg hobj hints (Nat.le_trans hlen hn2) hr hF hb (fun H hO hS => hsp w H a ns hlen hO hS) fun H e s' => hCX w H s₁ e s'
end L2
namespace L2
open PySem PySem.Spec PyProof.Rows
noncomputable def defArgs (s : Stmt) : Arguments := match s with
 | .FunctionDef _ a _ _ _ _ _ _ _ _ => a
 | _ => { posonlyargs := [], args := [], vararg := none, kwonlyargs := [], kw_defaults := [], kwarg := none, defaults := [] }
noncomputable def defBody (s : Stmt) : List Stmt := match s with
 | .FunctionDef _ _ b _ _ _ _ _ _ _ => b
 | _ => []
noncomputable def defScope (s : Stmt) : Scope := match s with
 | .FunctionDef _ _ _ _ _ _ sc _ _ _ => sc
 | _ => { kind := .function, names := [], isGenerator := false, isCoroutine := false }
noncomputable abbrev CX0 : CXT := fun _ _ _ _ _ _ => False
noncomputable abbrev E0 : XK := fun _ _ _ => False
theorem pass0 {X : Cx} : Passes CX0 X E0 := fun _ _ _ _ _ _ _ h => h.elim
structure Fun (K : PySem.W.Frag) (x qual : Str) (st : Stmt) (f : Addr) (fd : FuncData) : Prop where
 ex : ∃ (oc : Value) (od : Option Addr) (kV doc pm : Value) (an : Option Addr) (cdv ct : Value) (osl : Array (Option Value)),
  fd = PySem.W.fnOf x qual (defArgs st) (defBody st) (defScope st) .none kV doc pm an cdv ct /\ K.lookup f = some ⟨oc, od, .func fd, osl⟩ /\ PySem.W.codeIn K cdv qual = true
 kp : PySem.W.keepIn K (.ref f) = true
section
variable {P : Program} {w : World} {K : PySem.W.Frag} {mg : Str -> Option Value} {base : Heap}
theorem Fun.ok {x qual : Str} {st : Stmt} {f : Addr} {fd : FuncData} {N ps : List Str} {k : Nat} {sp : Sp} (F : Fun K x qual st f fd) (S : FnScope N ps (defScope st)) (len : ∀ vs H Q E, sp vs H Q E -> vs.length = ps.length)
  (hbody : ∀ (cdv : Value) (A : Around) (outer : List Env) (s : Shared) (H : Hp) (vs : List V) (Q : VK) (E : XK), Room k (A.deeper (envOfC qual (defScope st) s.heap.objs.size f cdv)) -> sp vs H Q E ->
   ∃ t, PSs (cxOf CX0 P w K mg base N qual (defScope st) f cdv A outer s H E).nox (defBody st) t /\ t { nx := fun _ H' => Q .non H', rt := Q } (start N vs) H) : FnOk P w K mg base CX0 (k + 1) f fd ps sp := by
 obtain ⟨oc, od, kV, doc, pm, an, cdv, ct, osl, rfl, lk, hcd⟩ := F.ex
 refine fn_of lk hcd S len fun A outer s H vs Q E hr hsp => ?_
 obtain ⟨t, h, q⟩ := hbody cdv A outer s H vs Q E hr hsp
 exact ⟨t, h.nox, q⟩
theorem Fun.binds {x qual : Str} {st : Stmt} {f : Addr} {fd : FuncData} {ps : List Str} (F : Fun K x qual st f fd)
  (h : ∀ (kV doc pm : Value) (an : Option Addr) (cdv ct : Value) (us : List Value), us.length = ps.length -> bindArgs (PySem.W.fnOf x qual (defArgs st) (defBody st) (defScope st) .none kV doc pm an cdv ct) ⟨us, []⟩ = pure (ps.zip us)) : Binds K fd ps [] := by
 obtain ⟨oc, od, kV, doc, pm, an, cdv, ct, osl, rfl, lk, hcd⟩ := F.ex
 exact .all (h kV doc pm an cdv ct)
theorem fun_mk {x qual : Str} {st : Stmt} {f : Addr} {oc : Value} {od an : Option Addr} {osl : Array (Option Value)} {kV doc pm cdv ct : Value} (l : K.lookup f = some ⟨oc, od, .func (PySem.W.fnOf x qual (defArgs st) (defBody st) (defScope st) .none kV doc pm an cdv ct), osl⟩)
  (c : PySem.W.codeIn K cdv qual = true) (k : PySem.W.keepIn K (.ref f) = true) : Fun K x qual st f (PySem.W.fnOf x qual (defArgs st) (defBody st) (defScope st) .none kV doc pm an cdv ct) := ⟨⟨oc, od, kV, doc, pm, an, cdv, ct, osl, rfl, l, c⟩, k⟩
end
section
variable {X : Cx}
theorem pv (i : Nat) {x : Str} {pos : Pos} (hN : X.N[i]? = some x := by rfl) (hv : Vis X.env.scope x := by first | exact Or.inl rfl | exact Or.inr (Or.inl rfl) | exact Or.inr (Or.inr rfl)) (hd : (x == ("__debug__" : Str)) = false := by decide)
  (hcd : (x == ("__classdict__" : Str)) = false := by decide) : PE X (.Name x pos) (tVar i) := pe_var hN hv hd hcd
end
theorem iteF {A B : Prop} (h : B) : if false = true then A else B := by
 rw [if_neg Bool.false_ne_true]
 exact h
theorem iteT {A B : Prop} (h : A) : if true = true then A else B := by
 rw [if_pos rfl]
 exact h
theorem ite2 {c A B : Prop} [Decidable c] (h1 : c -> A) (h2 : ¬ c -> B) : if c then A else B := by
 by_cases h : c
 ·rw [if_pos h]
  exact h1 h
 ·rw [if_neg h]
  exact h2 h
noncomputable def Same (H H' : Hp) : Prop := ∀ b o, H b = some o -> H' b = some o
theorem Same.refl (H : Hp) : Same H H := fun _ _ h => h
theorem Same.trans {H H1 H2 : Hp} (a : Same H H1) (b : Same H1 H2) : Same H H2 := fun c o h => b c o (a c o h)
theorem Same.free {H H' : Hp} (e : Same H H') {l : Addr} (h : H' l = Option.none) : H l = Option.none := by
 cases q : H l with
 | none => rfl
 | some o =>
  rw [e l o q] at h
  cases h
theorem Same.seq {K : PySem.W.Frag} {H H' : Hp} {a : Addr} {xs : List V} (e : Same H H') (h : SqL K H a xs) : SqL K H' a xs := by
 rcases h with (h | ⟨o, h⟩) | h
 ·exact .inl (.inl (e _ _ h))
 ·exact .inl (.inr ⟨o, e _ _ h⟩)
 ·exact .inr h
end L2
namespace L2
open PySem PySem.Spec PyProof.Rows
theorem closure_ok {env : Env} {scope : Scope} (h : ∀ y ∈ scope.names, y.2 = .free -> ∃ c, env.cells.lookup y.1 = some c) :
  ∃ cl, closureFor scope env = pure cl /\ (∀ x c, cl.lookup x = some c -> env.cells.lookup x = some c) /\ ∀ y ∈ scope.names, y.2 = .free -> cl.lookup y.1 = env.cells.lookup y.1 := by
 have go : ∀ (names : List (Str × NameKind)) (acc : List (Str × Addr)), (∀ y ∈ names, y.2 = .free -> ∃ c, env.cells.lookup y.1 = some c) ->
   (∀ x c, acc.lookup x = some c -> env.cells.lookup x = some c) ->
   ∃ cl, (forIn names acc (fun (y : Str × NameKind) (cs : List (Str × Addr)) => if (y.2 == .free) = true then (do let c <- cellOf env y.1; pure (ForInStep.yield ((y.1, c) :: cs))) else pure (ForInStep.yield cs)) : Sem (List (Str × Addr))) = pure cl /\
    (∀ x c, cl.lookup x = some c -> env.cells.lookup x = some c) /\ (∀ x c, acc.lookup x = some c -> cl.lookup x = some c) /\ ∀ y ∈ names, y.2 = .free -> cl.lookup y.1 = env.cells.lookup y.1 := by
  intro names
  induction names with
  | nil => intro acc _ ha; exact ⟨acc, rfl, ha, fun _ _ h => h, fun y hy => nomatch hy⟩
  | cons y r ih =>
   intro acc hn ha
   obtain ⟨n, k⟩ := y
   by_cases hk : k = .free
   ·subst hk
    obtain ⟨c, hc⟩ := hn (n, .free) List.mem_cons_self rfl
    have ha' : ∀ x d, (((n, c) :: acc : List (Str × Addr))).lookup x = some d -> env.cells.lookup x = some d := fun x d e => by
     rw [List.lookup_cons] at e
     cases hx : x == n with
     | true =>
      rw [hx] at e
      have e1 : x = n := eq_of_beq hx
      subst e1
      cases e
      exact hc
     | false => rw [hx] at e; exact ha x d e
    obtain ⟨cl, e, h1, h2, h3⟩ := ih ((n, c) :: acc) (fun y hy => hn y (List.mem_cons_of_mem _ hy)) ha'
    refine ⟨cl, ?_, h1, fun x d e => ?_, fun y hy hf => ?_⟩
    ·rw [List.forIn_cons]
     have ec : cellOf env n = pure c := by unfold cellOf; rw [hc]
     simp only [beq_self_eq_true, if_true]
     rw [ec]
     exact e
    ·have e' := ha x d e
     by_cases hx : x = n
     ·subst hx
      rw [hc] at e'; cases e'
      exact h2 x c (by rw [List.lookup_cons]; simp)
     ·exact h2 x d (by rw [List.lookup_cons, beq_eq_false_iff_ne.mpr hx]; exact e)
    ·rcases List.mem_cons.mp hy with rfl | hy
     ·show cl.lookup n = env.cells.lookup n
      rw [hc]
      exact h2 n c (by rw [List.lookup_cons]; simp)
     ·exact h3 y hy hf
   ·obtain ⟨cl, e, h1, h2, h3⟩ := ih acc (fun y hy => hn y (List.mem_cons_of_mem _ hy)) ha
    refine ⟨cl, ?_, h1, h2, fun y hy hf => ?_⟩
    ·rw [List.forIn_cons]
     have : (k == NameKind.free) = false := by simpa using hk
     simp only [this, Bool.false_eq_true, if_false]
     exact e
    ·rcases List.mem_cons.mp hy with rfl | hy
     ·exact absurd hf hk
     ·exact h3 y hy hf
 obtain ⟨cl, e, h1, _, h3⟩ := go scope.names [] h (fun x c e => by simp at e)
 refine ⟨cl, ?_, h1, h3⟩
 unfold closureFor
 exact (congrArg (fun m => m >>= fun r => pure r) e).trans rfl
noncomputable def compSt (n : Nat) (ix : List Nat) (σ : St) : St := List.replicate n none ++ ix.map fun i => σ.getD i none
noncomputable def Cx.comp (X : Cx) (s₂ : Shared) (H₂ : Hp) (N' : List Str) (scope : Scope) (cl : List (Str × Addr)) (C : Addr) (fp : List Addr) : Cx :=
 { X with N := N', s₀ := s₂, H₀ := H₂, env := compEnvC scope cl C X.env, outer := X.stack, stack := X.stack, ex := fp, fn := fun _ => false, pn := [], xe := fun _ _ => False }
structure CompScope (X : Cx) (scope : Scope) (N' : List Str) (n : Nat) (ix : List Nat) : Prop where
 kind : scope.kind = .function
 nocell : ∀ y ∈ scope.names, y.2 ≠ .cell
 names : ∀ y ∈ scope.names, y.2 = .local -> scope.names.lookup y.1 = some .local
 free : ∀ y ∈ scope.names, y.2 = .free -> X.env.scope.names.lookup y.1 = some .cell ∨ X.env.scope.names.lookup y.1 = some .free
 nodup : ∀ y : Str, (y, NameKind.free) ∈ scope.names -> scope.names.lookup y = some .local -> False
 len : N'.length = n + ix.length
 at_ : ∀ (j i : Nat), ix[j]? = some i -> ∃ x, N'[n + j]? = some x /\ X.N[i]? = some x /\ (x, NameKind.free) ∈ scope.names
end L2
namespace L2
open PySem PySem.Spec PyProof.Rows
theorem relabel_lookup {env : Env} {scope : Scope} (x : Str) : (relabel scope env).names.lookup x = (scope.names.lookup x).map fun k => if (k == .free && env.scope.kind == .function && env.kindOf x == some .cell) then .cell else k := by
 show (scope.names.map fun (n, k) => if (k == NameKind.free && env.scope.kind == .function && env.kindOf n == some .cell) then (n, NameKind.cell) else (n, k)).lookup x = _
 generalize scope.names = l
 induction l with
 | nil => rfl
 | cons y r ih =>
  obtain ⟨n, k⟩ := y
  rw [List.map_cons, List.lookup_cons]
  cases hx : x == n with
  | true =>
   have e : x = n := eq_of_beq hx
   subst e
   by_cases hc : (k == NameKind.free && env.scope.kind == .function && env.kindOf x == some .cell) = true
   ·rw [if_pos hc, List.lookup_cons]
    simp only [beq_self_eq_true]
    show some NameKind.cell = some (ite _ _ _)
    rw [if_pos hc]
   ·rw [if_neg hc, List.lookup_cons]
    simp only [beq_self_eq_true]
    show some k = some (ite _ _ _)
    rw [if_neg hc]
  | false =>
   by_cases hc : (k == NameKind.free && env.scope.kind == .function && env.kindOf n == some .cell) = true
   ·rw [if_pos hc, List.lookup_cons, hx]; exact ih
   ·rw [if_neg hc, List.lookup_cons, hx]; exact ih
section
variable {X : Cx} {pins : List (Addr × Obj)} {σ : St} {H : Hp} {s : Shared}
theorem relabel_free {env : Env} {scope : Scope} {x : Str} (h : scope.names.lookup x = some .free) : (relabel scope env).names.lookup x = some .cell ∨ (relabel scope env).names.lookup x = some .free := by
 rw [relabel_lookup, h]
 by_cases hc : (NameKind.free == NameKind.free && env.scope.kind == .function && env.kindOf x == some .cell) = true
 ·exact .inl (by show some (ite _ _ _) = _; rw [if_pos hc])
 ·exact .inr (by show some (ite _ _ _) = _; rw [if_neg hc])
theorem of_relabel {env : Env} {scope : Scope} {x : Str} (hn : ∀ y ∈ scope.names, y.2 ≠ .cell) (h : (relabel scope env).names.lookup x = some .cell ∨ (relabel scope env).names.lookup x = some .free) : scope.names.lookup x = some .free := by
 rw [relabel_lookup] at h
 cases e : scope.names.lookup x with
 | none => rw [e] at h; rcases h with h | h <;> cases h
 | some k =>
  rw [e] at h
  have hk := hn _ (PySem.mem_of_lookup e)
  by_cases hf : k = .free
  ·rw [hf]
  ·have hb : (k == NameKind.free) = false := by simpa using hf
   have hr : Option.map (fun k => if (k == NameKind.free && env.scope.kind == .function && env.kindOf x == some .cell) = true then NameKind.cell else k) (some k) = some k := by
    show some (ite _ _ _) = _
    rw [if_neg (by rw [hb]; simp)]
   rw [hr] at h
   rcases h with h | h
   ·cases h; exact absurd rfl hk
   ·exact h
theorem inv_comp {scope : Scope} {N' : List Str} {n : Nat} {ix : List Nat} {cl : List (Str × Addr)} {fp : List Addr} {h₁ : Heap} {acc C : Addr} {na : Nat} {m : Str -> Option Value} {tk : Nat}
  (I : Inv X pins σ H s) (S : CompScope X scope N' n ix) (hcl1 : ∀ x c, cl.lookup x = some c -> X.env.cells.lookup x = some c) (hcl2 : ∀ y ∈ scope.names, y.2 = .free -> cl.lookup y.1 = X.env.cells.lookup y.1)
  (hf : ∀ b ∈ fp, FpOk X pins H b) (hlt : ∀ b ∈ fp, b < s.heap.objs.size) (ha : s.heap.objs.size <= acc) (hC : s.heap.objs.size <= C) (hne : C ≠ acc)
  (k : ∀ b u, s.heap.get? b = some u -> h₁.get? b = some u) (hacc : h₁.get? acc = some { cls := .type "list", data := .seq ([] : List Value).toArray na }) (hns : h₁.Ns C m) :
  Inv (X.comp s H N' scope cl C fp) [] (compSt n ix σ) (upd H acc (.lst [])) { s with heap := h₁, toks := tk } := by
 have fr : ∀ b : Addr, s.heap.objs.size <= b -> H b = none := fun b hb => I.hok.fresh hb
 have cellLt : ∀ x c, cl.lookup x = some c -> c < s.heap.objs.size := fun x c e => by
  obtain ⟨v, q⟩ := I.cell x c (hcl1 x c e)
  exact q.lt
 refine ⟨⟨I.ok.mod, S.kind, I.ok.glob, I.ok.blt, hC, fun x y c e1 e2 => I.ok.inj x y c (hcl1 x c e1) (hcl1 y c e2), fun x hx => ?_, fun x c e _ => absurd e Bool.false_ne_true, I.ok.hd, I.ok.frames, .inl rfl, fun b hb => ⟨Nat.ne_of_lt (Nat.lt_of_lt_of_le (hlt b hb) hC), fun x c e => (hf b hb).2.2.2.2.1 x c (hcl1 x c e)⟩,
   I.bs, Nat.le_trans I.ok.bsz I.sz, fun b o e hb => ?_, fun b hb hs => ?_, I.stack, I.stkFree⟩,
  rfl, I.bare, Un.laid k ha (fr acc ha), ⟨m, hns, fun i x v e1 e2 e3 => ?_⟩, fun x c e => ?_, ?_, fun x c e => ?_, fun p hp => absurd (show p ∈ ([] : List (Addr × Obj)) from hp) (by simp), I.hok.laid k ha ⟨Nat.zero_le _, [], na, .nil, hacc⟩, ?_⟩
 ·have hx' : scope.names.lookup x = some .free := of_relabel (env := X.env) S.nocell hx
  have hm := PySem.mem_of_lookup hx'
  obtain ⟨c, e⟩ := I.ok.has x (S.free _ hm rfl)
  exact ⟨c, (hcl2 _ hm rfl).trans e⟩
 ·rcases (hf b hb).2.2.2.1 with z | z
  ·exact I.ok.noex b o e z
  ·exact absurd (Nat.lt_of_lt_of_le (Heap.lt_size e) (Nat.le_trans I.ok.bsz z)) (Nat.lt_irrefl _)
 ·rcases List.mem_cons.mp (I.stkSub b hs) with z | z
  ·exact (hf b hb).2.1 z
  ·exact (hf b hb).2.2.1 z
 ·-- a name of the frame, seen through its cell
  have hi : n <= i := by
   by_cases hi : n <= i
   ·exact hi
   ·unfold compSt at e2
    rw [List.getElem?_append_left (by simp; (first | lia | omega)), List.getElem?_replicate] at e2
    split at e2 <;> cases e2
  obtain ⟨j, rfl⟩ : ∃ j, i = n + j := ⟨i - n, by (first | lia | omega)⟩
  unfold compSt at e2
  rw [List.getElem?_append_right (by simp), List.length_replicate, Nat.add_sub_cancel_left, List.getElem?_map] at e2
  cases ej : ix[j]? with
  | none => rw [ej] at e2; cases e2
  | some q =>
   rw [ej] at e2
   have e2' : σ.getD q none = some v := Option.some.inj e2
   have e2'' : σ[q]? = some (some v) := by
    rw [List.getD_eq_getElem?_getD] at e2'
    cases eq : σ[q]? with
    | none => rw [eq] at e2'; cases e2'
    | some z => rw [eq] at e2'; exact congrArg some e2'
   obtain ⟨y, h1, h2, h3⟩ := S.at_ j q ej
   have ey : y = x := Option.some.inj (h1.symm.trans e1)
   subst ey
   have hk := S.free _ h3 rfl
   obtain ⟨mX, _, hl⟩ := I.loc
   obtain ⟨u, r, l⟩ := hl q y v h2 e2'' (.inr hk)
   refine ⟨u, r, .inr ?_⟩
   have hkc : X.env.kindOf y = some .cell ∨ X.env.kindOf y = some .free := hk
   have l' : ∃ c, X.env.cells.lookup y = some c /\ s.heap.IsCell c (some u) := by
    rcases l with ⟨z, _⟩ | ⟨_, c, ec, hc⟩
    ·rcases hkc with q | q <;> (rw [q] at z; cases z)
    ·exact ⟨c, ec, hc⟩
   obtain ⟨c, ec, o, ho, hd⟩ := l'
   have e3' : Vis (relabel scope X.env) y := e3
   refine ⟨?_, c, (hcl2 _ h3 rfl).trans ec, o, k _ _ ho, hd⟩
   have nl : scope.names.lookup y ≠ some .local := fun z => ?_
   ·cases el : scope.names.lookup y with
    | none =>
     have : (relabel scope X.env).names.lookup y = none := by rw [relabel_lookup, el]; rfl
     rcases e3' with z | z | z <;> (rw [this] at z; cases z)
    | some kk =>
     have hmem := PySem.mem_of_lookup el
     have ncell := S.nocell _ hmem
     have hr : (relabel scope X.env).names.lookup y = some (if (kk == NameKind.free && X.env.scope.kind == .function && X.env.kindOf y == some .cell) = true then .cell else kk) := by rw [relabel_lookup, el]; rfl
     by_cases hkf : kk = .free
     ·subst hkf
      exact relabel_free (env := X.env) el
     ·have hb : (kk == NameKind.free) = false := by simpa using hkf
      have hr' : (relabel scope X.env).names.lookup y = some kk := by rw [hr, hb]; rfl
      rcases e3' with z | z | z
      ·rw [hr'] at z; cases z; exact absurd el nl
      ·rw [hr'] at z; cases z; exact absurd rfl ncell
      ·rw [hr'] at z; cases z; exact absurd rfl hkf
   ·exact S.nodup _ h3 z
 ·obtain ⟨v, o, ho, hd⟩ := I.cell x c (hcl1 x c e)
  exact ⟨v, o, k _ _ ho, hd⟩
 ·show upd H acc (.lst []) C = none
  rw [upd_ne hne]; exact fr C hC
 ·show upd H acc (.lst []) c = none
  have := cellLt x c e
  rw [upd_ne (Nat.ne_of_lt (Nat.lt_of_lt_of_le this ha))]
  exact I.freeC x c (hcl1 x c e)
 ·show (compSt n ix σ).length = N'.length
  unfold compSt
  rw [List.length_append, List.length_replicate, List.length_map, S.len]
end
end L2
namespace L2
open PySem PySem.Spec PyProof.Rows
noncomputable def Wk (σ σ' : St) : Prop := σ.length = σ'.length /\ ∀ (i : Nat) v, σ[i]? = some (some v) -> σ'[i]? = some (some v)
noncomputable def PTs (Y : Cx) (ifs : List Expr) (t : TT) : Prop :=
 ∀ (pins : List (Addr × Obj)) (s : Shared) (σ : St) (H : Hp) (Q : Bool -> Hp -> Prop), Inv Y pins σ H s -> t σ H Q ->
  wpAny (model Y.prog Y.w) Y.A (forIn ifs true fun c r => if r = true then do let ok <- isTrue c Y.env (eval c Y.env); pure (ForInStep.yield ok) else pure (ForInStep.yield r)) (TP Y pins σ Q) Y.xe s
noncomputable def tNoTest : TT := fun _ H Q => Q true H
theorem pts_nil {Y : Cx} : PTs Y [] tNoTest := fun _ _ _ H _ I h => wpAny_tests_nil ⟨H, I, h⟩
theorem pts_one {Y : Cx} {c : Expr} {t : TT} (h : PT Y c t) : PTs Y [c] t := fun pins s σ H Q I q => wpAny_tests_one (h pins s σ H Q I q)
theorem compLoop_gen {prog : Program} {w : World} {A : Around} {R : Result -> Shared -> Prop} {s : Shared} {elt target iter : Expr} {ifs : List Expr} {scope : Scope} {pos : Pos} {it acc : Value} {env : Env} (I : Nat -> Shared -> Prop)
  (turn : ∀ n s, I n s -> wpAny (model prog w) A (pyNext it) (fun r s₁ => match r with
   | none => R (.ok .next) s₁
   | some v => wpAny (model prog w) A (letOwnedTupleGo target it v) (fun _ s₂ => wpAny (model prog w) A (assign target env v) (fun _ s₃ =>
     wpAny (model prog w) A (forIn ifs true fun c r => if r = true then do let ok <- isTrue c env (eval c env); pure (ForInStep.yield ok) else pure (ForInStep.yield r)) (fun ok s₄ =>
      if ok = true then wpAny (model prog w) A (eval elt env) (fun x s₅ =>
       wpAny (model prog w) A (call (.builtin "list.append") [acc, x]) (fun _ s₆ => ∃ m, m < n /\ I m s₆) (fun _ _ => False) s₅) (fun _ _ => False) s₄
      else ∃ m, m < n /\ I m s₄) (fun _ _ => False) s₃) (fun _ _ => False) s₂) (fun _ _ => False) s₁) (fun _ _ => False) s)
  (n : Nat) (h : I n s) :
  codeAny (model prog w) A (.compLoop (.ListComp elt [⟨target, iter, ifs, 0⟩] scope pos) 0 it acc env) R s := by
 refine codeAny_loop rfl I (fun n s hI => ?_) n h
 show wpAny _ A ((compTurn (.ListComp elt [⟨target, iter, ifs, 0⟩] scope pos) 0 it acc env).onRaise (fun x => do noteFrame x env; theTreesLotGoes x)) _ _ s
 refine wpAny_noted (wpAny_noRaise ?_)
 rw [compTurn_list]
 refine wpAny_bind (wpAny_standAt (wpAny_bind (thn (turn n s hI) fun r s₁ h₁ => ?_)))
 cases r with
 | none => exact wpAny_pure h₁
 | some v =>
  refine wpAny_bind (thn h₁ fun _ s₂ h₂ => wpAny_bind (thn h₂ fun _ s₃ h₃ => wpAny_bind (thn h₃ fun ok s₄ h₄ => ?_)))
  cases ok with
  | false => exact wpAny_pure ⟨rfl, h₄⟩
  | true => exact wpAny_bind (wpAny_bind (thn h₄ fun x s₅ h₅ => wpAny_bind (thn h₅ fun _ s₆ h₆ => wpAny_pure (wpAny_pure ⟨rfl, h₆⟩))))
noncomputable def LcW (J : It) (H1 : Hp) (g : TG) (tt : TT) (te : TE) (n : Nat) (ix : List Nat) (σ : St) (Q : VK) : Prop := ∀ acc, H1 acc = none ->
 ∃ W : Nat -> Nat -> Hp -> Prop, (∃ m, W 0 m (upd H1 acc (.lst []))) /\ ∀ i m H, W i m H ->
  (J.stop i H /\ Q (.ref acc) H) ∨ (J.go i H /\ ∀ x H', J.yld i H x H' -> g x (compSt n ix σ) H' fun σ2 H2 => Wk (compSt n ix σ) σ2 /\ tt σ2 H2 fun b H3 =>
   if b = true then te σ2 H3 fun v H4 => ∃ ys, H4 acc = some (.lst ys) /\ ys.length < sizeLine /\ ∃ m', m' < m /\ W (i + 1) m' (upd H4 acc (.lst (ys ++ [v])))
   else ∃ m', m' < m /\ W (i + 1) m' H3)
noncomputable def tLc (wi : TI) (g : TG) (tt : TT) (te : TE) (n : Nat) (ix : List Nat) : TE := fun σ H Q => wi σ H fun J H1 => LcW J H1 g tt te n ix σ Q
section
variable {X : Cx} {elt tg iter : Expr} {ifs : List Expr} {scope : Scope} {pos : Pos} {wi : TI} {g : TG} {tt : TT} {te : TE} {N' : List Str} {n : Nat} {ix : List Nat}
theorem lc_core {pins : List (Addr × Obj)} {σ : St} {H2 : Hp} {s2 : Shared} {cl : List (Str × Addr)} {it : Addr} {fp : List Addr} {tn : Nat -> Heap -> Prop} {J : It} {Q : VK} {R : Value -> Addr -> Result -> Shared -> Prop}
  (hc : X.calm = true) (S : CompScope X scope N' n ix)
  (hY : ∀ s₂ H₂ cl C fp, PG (X.comp s₂ H₂ N' scope cl C fp) tg g /\ PTs (X.comp s₂ H₂ N' scope cl C fp) ifs tt /\ PE (X.comp s₂ H₂ N' scope cl C fp) elt te)
  (I2 : Inv X pins σ H2 s2) (hcl1 : ∀ x c, cl.lookup x = some c -> X.env.cells.lookup x = some c) (hcl2 : ∀ y ∈ scope.names, y.2 = .free -> cl.lookup y.1 = X.env.cells.lookup y.1)
  (T : Turn X.prog X.w X.K tg J fp it tn) (st2 : tn 0 s2.heap) (f2 : ∀ b ∈ fp, FpOk X pins H2 b)
  (hW : LcW J H2 g tt te n ix σ Q)
  (hR : ∀ acc C s' H' m, s'.heap.Ns C m -> Inv X pins σ H' s' -> H' C = none -> C ≠ X.env.locals -> (C ∈ X.ex ∨ X.s₀.heap.objs.size <= C) -> (∀ x c, X.env.cells.lookup x = some c -> c ≠ C) -> (∀ p ∈ X.pn ++ pins, p.1 ≠ C) -> C ∉ X.fs -> Q (.ref acc) H' -> R (.ref acc) C (.ok .next) s') :
  wpAny (model X.prog X.w) X.A (newList []) (fun acc s₃ => wpAny (model X.prog X.w) X.A (newFunctionEnv scope X.env.globals cl [] X.env.qual none .none (some X.env)) (fun cenv s₄ =>
   codeAny (model X.prog X.w) X.A (.compStart (.ListComp elt [⟨tg, iter, ifs, 0⟩] scope pos) 0 (.ref it) acc { cenv with scope := relabel scope X.env }) (R acc cenv.locals) s₄) X.xe s₃) X.xe s2 := by
 refine wpAny_newObj_type (wpAny_newFunctionEnv S.nocell (by intro y hy; simp at hy) (fun h₁ hns₁ hsb₁ => ?_) S.kind)
 dsimp only at hns₁ hsb₁ ⊢
 generalize hH2 : s2.heap.push { cls := .type "list", dict := none, data := .seq ([] : List Value).toArray } = G at hns₁ hsb₁ ⊢
 have hC : G.objs.size = s2.heap.objs.size + 1 := by rw [<- hH2, Heap.size_push]
 have hlt : ∀ b ∈ fp, b < s2.heap.objs.size := fun b hb => by
  obtain ⟨o, e, _⟩ := T.obj _ _ st2 b hb
  exact Heap.lt_size e
 have old : ∀ b o, s2.heap.get? b = some o -> h₁.get? b = some o := fun b o e => hsb₁.extBut b o (by rw [hC]; exact Nat.ne_of_lt (Nat.lt_succ_of_lt (Heap.lt_size e))) (Heap.get?_push_of_some _ (hH2 ▸ Heap.get?_push_of_some _ e))
 have hacc : h₁.get? s2.heap.objs.size = some { cls := .type "list", dict := none, data := .seq ([] : List Value).toArray } := hsb₁.extBut _ _ (by rw [hC]; exact Nat.ne_of_lt (Nat.lt_succ_self _)) (Heap.get?_push_of_some _ (hH2 ▸ Heap.get?_push_size _ rfl))
 obtain ⟨W, ⟨m0, w0⟩, turn⟩ := hW s2.heap.objs.size (I2.hok.fresh (Nat.le_refl _))
 obtain ⟨hYg, hYt, hYe⟩ := hY s2 H2 cl G.objs.size fp
 have fpY : ∀ {H' : Hp}, (∀ b ∈ fp, H' b = none) -> ∀ b ∈ fp, FpOk (X.comp s2 H2 N' scope cl G.objs.size fp) [] H' b := fun {H'} hn b hb => by
  obtain ⟨_, q1, q2, q3, q4, q5⟩ := f2 b hb
  refine ⟨hn b hb, ?_, fun z => ?_, .inl hb, fun x c e => q4 x c (hcl1 x c e), fun p hp => absurd (show p ∈ ([] : List (Addr × Obj)) from hp) (by simp)⟩
  ·show b ≠ G.objs.size
   rw [hC]
   exact Nat.ne_of_lt (Nat.lt_succ_of_lt (hlt b hb))
  ·rcases List.mem_cons.mp (I2.stkSub b z) with y | y
   ·exact q1 y
   ·exact q2 y
 have loop : ∀ s₃ : Shared, s₃ = { s2 with heap := h₁, toks := s2.toks + ([] : List (Str × Value)).length } ->
   codeAny (model X.prog X.w) X.A (.compLoop (.ListComp elt [⟨tg, iter, ifs, 0⟩] scope pos) 0 (.ref it) (.ref s2.heap.objs.size) (compEnvC scope cl G.objs.size X.env)) (R (.ref s2.heap.objs.size) G.objs.size) s₃ := by
  rintro s₃ rfl
  have I4 := inv_comp (tk := s2.toks + ([] : List (Str × Value)).length) I2 S hcl1 hcl2 f2 hlt (Nat.le_refl _) (by rw [hC]; exact Nat.le_succ _) (by rw [hC]; exact Nat.ne_of_gt (Nat.lt_succ_self _)) old hacc hns₁
  refine compLoop_gen (fun n' s' => ∃ i H', Inv (X.comp s2 H2 N' scope cl G.objs.size fp) [] (compSt n ix σ) H' s' /\ tn i s'.heap /\ (∀ b ∈ fp, H' b = none) /\ W i n' H') ?_ m0
   ⟨0, _, I4, T.keep _ _ _ st2 fun b hb o e => old b o e, fun b hb => ?_, w0⟩
  ·rintro n' s3 ⟨i, H3, I3, st3, fr3, w3⟩
   rcases turn i n' H3 w3 with ⟨stop, q⟩ | ⟨go, step⟩
   ·refine thn (T.done (X.comp s2 H2 N' scope cl G.objs.size fp) rfl rfl rfl hc i [] s3 _ H3 _ I3 (fpY fr3) st3 stop) fun r s4 ⟨hr, I5⟩ => ?_
    subst hr
    obtain ⟨mC, hnC, _⟩ := I5.loc
    have IX : Inv X pins σ H3 s4 := I2.call' I5.os I5.base I5.hok I5.bare fun b hb => by
     obtain ⟨_, q1, q2, q3, q4, q5⟩ := f2 b hb
     exact ⟨q3, q1, q4, q5⟩
    refine hR _ _ s4 H3 mC hnC IX I5.free ?_ (.inr ?_) (fun x c e z => ?_) (fun p hp z => ?_) (I2.nofs (by rw [hC]; exact Nat.le_succ _)) q
    ·rw [hC]
     exact Nat.ne_of_gt (Nat.lt_succ_of_lt I2.lt)
    ·rw [hC]
     exact Nat.le_succ_of_le I2.sz
    ·obtain ⟨v, q⟩ := I2.cell x c e
     rw [hC] at z
     exact absurd z (Nat.ne_of_lt (Nat.lt_succ_of_lt q.lt))
    ·rw [hC] at z
     exact absurd z (Nat.ne_of_lt (Nat.lt_succ_of_lt (Heap.lt_size (I2.pin p hp).1)))
   ·refine thn (T.item (X.comp s2 H2 N' scope cl G.objs.size fp) rfl rfl rfl hc i [] s3 _ H3 _ I3 (fpY fr3) st3 go) fun r s4 ⟨u, hr, h4⟩ => ?_
    subst hr
    refine thn h4 fun _ s5 ⟨x, H5, I5, r5, y5, st5, fr5⟩ => ?_
    have I5' := I5.pinned (fpY fr5) (T.obj _ _ st5)
    refine thn (hYg _ s5 _ H5 x u _ I5' r5 (step x H5 y5)) fun _ s6 ⟨σ6, H6, I6, wk, q6⟩ => ?_
    have back : ∀ {H' : Hp} {s' : Shared}, Inv (X.comp s2 H2 N' scope cl G.objs.size fp) ([] ++ pinsAt fp s5.heap) σ6 H' s' ->
      Inv (X.comp s2 H2 N' scope cl G.objs.size fp) [] (compSt n ix σ) H' s' /\ tn (i + 1) s'.heap /\ ∀ b ∈ fp, H' b = none := fun {H' s'} I7 => by
     refine ⟨I7.unpinned.weak wk.1 wk.2, T.keep _ _ _ st5 fun b hb o e => (I7.pin (b, o) (List.mem_append_right _ (List.mem_append_right _ (mem_pinsAt hb e)))).1, fun b hb => ?_⟩
     obtain ⟨o, e, d⟩ := T.obj _ _ st5 b hb
     exact (I7.pin (b, o) (List.mem_append_right _ (List.mem_append_right _ (mem_pinsAt hb e)))).2.1
    refine thn (hYt _ s6 σ6 H6 _ I6 q6) fun ok s7 ⟨H7, I7, q7⟩ => ?_
    cases ok with
    | false =>
     rw [if_neg Bool.false_ne_true] at q7 ⊢
     obtain ⟨m', hm, w7⟩ := q7
     obtain ⟨b1, b2, b3⟩ := back I7
     exact ⟨m', hm, i + 1, H7, b1, b2, b3, w7⟩
    | true =>
     rw [if_pos rfl] at q7 ⊢
     refine thn (hYe _ s7 σ6 H7 _ I7 q7) fun xv s8 ⟨v8, H8, I8, r8, ys, ha, hz, m', hm, w8⟩ => ?_
     refine thn (mt_append _ s8 σ6 H8 (.ref s2.heap.objs.size) [v8] (.ref s2.heap.objs.size) [xv] (fun _ H' => H' = upd H8 s2.heap.objs.size (.lst (ys ++ [v8]))) I8 rfl (.cons r8 .nil) ⟨_, ys, v8, rfl, rfl, ha, hz, rfl⟩) fun _ s9 ⟨_, H9, I9, _, e9⟩ => ?_
     subst e9
     obtain ⟨b1, b2, b3⟩ := back I9
     exact ⟨m', hm, i + 1, _, b1, b2, b3, w8⟩
  ·rw [upd_ne (Nat.ne_of_lt (hlt b hb))]
   exact (f2 b hb).1
 exact codeAny_compStart_list (loop _ rfl) (T.self _ 0 _ _ _ (T.keep _ _ _ st2 fun b hb o e => old b o e) (loop _ rfl))
theorem pe_lc (hc : X.calm = true) (S : CompScope X scope N' n ix) (hi : PI X tg iter wi)
  (hY : ∀ s₂ H₂ cl C fp, PG (X.comp s₂ H₂ N' scope cl C fp) tg g /\ PTs (X.comp s₂ H₂ N' scope cl C fp) ifs tt /\ PE (X.comp s₂ H₂ N' scope cl C fp) elt te)
  (hs : ∀ x, foldedSetIterable iter X.env x = pure x := by intro _; rfl) : PE X (.ListComp elt [⟨tg, iter, ifs, 0⟩] scope pos) (tLc wi g tt te n ix) := by
 intro pins s σ H Q I h
 obtain ⟨cl, hcl, hcl1, hcl2⟩ := closure_ok (env := X.env) (scope := scope) fun y hy hf => I.ok.has _ (S.free y hy hf)
 rw [eval_ListComp]
 refine wpAny_comprehension_free (use := none) rfl hs hcl S.kind S.names (thn (hi pins s σ H _ I h) fun v s1 h1 => thn h1 fun itv s2 h2 => ?_)
 obtain ⟨it, fp, tn, J, H2, rfl, I2, T, st2, f2, hW⟩ := h2
 refine lc_core (R := fun acc C => compPost (model X.prog X.w) X.A X.xe none (EP X pins σ Q) acc C) hc S hY I2 hcl1 hcl2 T st2 f2 hW ?_
 intro acc C s' H' m hn IX hf hL h1 h2 h3 h4 q
 exact ⟨m, hn, fun h' sb => ⟨.ref acc, H', IX.turned (t' := s'.toks) (fun b o hb e => sb.extBut b o hb e) hf hL h1 h2 h3, rfl, q⟩⟩
end
end L2
namespace L2
open PySem PySem.Spec PyProof.Rows
theorem PE.mono {X : Cx} {e : Expr} {t t' : TE} (h : PE X e t) (m : ∀ σ H Q, t' σ H Q -> t σ H Q) : PE X e t' := fun pins s σ H Q I q => h pins s σ H Q I (m σ H Q q)
theorem same_upd {H : Hp} {a : Addr} {o : HO} (h : H a = none) : Same H (upd H a o) := fun b u e => by
 rw [upd_ne (ne_of_none e h)]; exact e
theorem same_updR {H H' : Hp} {a : Addr} {o : HO} (s : Same H H') (h : H a = none) : Same H (upd H' a o) := fun b u e => by
 rw [upd_ne (ne_of_none e h)]; exact s b u e
noncomputable def SameT (H H' : Hp) : Prop := ∀ b xs, H b = some (.tup xs) -> H' b = some (.tup xs)
theorem Same.t {H H' : Hp} (h : Same H H') : SameT H H' := fun b xs e => h b _ e
theorem SameT.trans {H H1 H2 : Hp} (a : SameT H H1) (b : SameT H1 H2) : SameT H H2 := fun c o h => b c o (a c o h)
theorem sameT_lst {H : Hp} {a : Addr} {xs ys : List V} (h : H a = some (.lst xs)) : SameT H (upd H a (.lst ys)) := fun b zs e => by
 rw [upd_ne (ne_of e h (by intro z; cases z))]; exact e
structure Yields (J : It) (Ok : Hp -> Prop) (xs : List V) : Prop where
 go : ∀ i H, Ok H -> i < xs.length -> J.go i H
 yld : ∀ i H x H', Ok H -> i < xs.length -> J.yld i H x H' -> H' = H /\ xs[i]? = some x
 stop : ∀ H, Ok H -> J.stop xs.length H
theorem yields_list {K : PySem.W.Frag} {a : Addr} {xs : List V} : Yields (Itl K a) (fun H => SqL K H a xs) xs :=
 ⟨fun i H q h => ⟨xs, xs[i], q, by simp [h]⟩, fun i H x H' q _ y => ⟨y.1, y.2 xs q⟩, fun H q => ⟨xs, q, Nat.le_refl _⟩⟩
theorem yields_tup {K : PySem.W.Frag} {a : Addr} {xs : List V} : Yields (Itt K a) (fun H => SqT K H a xs) xs :=
 ⟨fun i H q h => ⟨xs, xs[i], q, by simp [h]⟩, fun i H x H' q _ y => ⟨y.1, y.2 xs q⟩, fun H q => ⟨xs, q, Nat.le_refl _⟩⟩
noncomputable def rangeV (lo : Int) (n : Nat) : List V := (List.range n).map fun (i : Nat) => V.int (lo + (i : Int))
theorem rangeV_len (lo : Int) (n : Nat) : (rangeV lo n).length = n := by simp [rangeV]
theorem rangeV_get {lo : Int} {n i : Nat} (h : i < n) : (rangeV lo n)[i]? = some (V.int (lo + (i : Int))) := by
 simp [rangeV, h]
theorem yields_range {lo : Int} {n : Nat} : Yields (Itr lo n) (fun _ => True) (rangeV lo n) := by
 refine ⟨fun i H _ h => ?_, fun i H x H' _ h y => ?_, fun H _ => ?_⟩
 ·rw [rangeV_len] at h; exact h
 ·obtain ⟨y1, y2⟩ := y
  rw [rangeV_len] at h
  exact ⟨y1, by rw [rangeV_get h, y2]⟩
 ·rw [rangeV_len]; exact Nat.le_refl _
section
variable {J : It} {Ok : Hp -> Prop} {xs : List V} {tt : TT} {te : TE} {ix : List Nat} {σ : St} {H1 : Hp} {Q : VK}
theorem lc_pure (Y : Yields J Ok xs) (small : xs.length < sizeLine) (p : V -> Bool) (f : V -> V) (hok : ∀ H, Same H1 H -> Ok H)
  (ht : ∀ x ∈ xs, ∀ H, Same H1 H -> ∀ Q' : Bool -> Hp -> Prop, Q' (p x) H -> tt (some x :: ix.map fun i => σ.getD i none) H Q')
  (he : ∀ x ∈ xs, p x = true -> ∀ H, Same H1 H -> ∀ Q' : VK, Q' (f x) H -> te (some x :: ix.map fun i => σ.getD i none) H Q')
  (fin : ∀ acc, H1 acc = none -> Q (.ref acc) (upd H1 acc (.lst ((xs.filter p).map f)))) :
  LcW J H1 (gName 0) tt te 1 ix σ Q := by
 intro acc ha
 refine ⟨fun i m H => m = xs.length - i /\ i <= xs.length /\ H = upd H1 acc (.lst (((xs.take i).filter p).map f)), ⟨xs.length, by simp, Nat.zero_le _, rfl⟩, ?_⟩
 rintro i m H ⟨rfl, hi, rfl⟩
 have sm : Same H1 (upd H1 acc (.lst (((xs.take i).filter p).map f))) := same_upd ha
 have o := hok _ sm
 by_cases hlt : i < xs.length
 ·refine .inr ⟨Y.go i _ o hlt, fun x H' y => ?_⟩
  obtain ⟨rfl, hx⟩ := Y.yld i _ x H' o hlt y
  have hmem : x ∈ xs := List.mem_of_getElem? hx
  have htk : xs.take (i + 1) = xs.take i ++ [x] := by
   rw [List.take_succ, hx]; rfl
  refine ⟨⟨rfl, fun j v e => ?_⟩, ?_⟩
  ·cases j with
   | zero => cases e
   | succ j => exact e
  ·refine ht x hmem _ sm _ ?_
   cases hp : p x with
   | false =>
    rw [if_neg Bool.false_ne_true]
    refine ⟨xs.length - (i + 1), by (first | lia | omega), rfl, hlt, ?_⟩
    rw [htk, List.filter_append]
    simp [hp]
   | true =>
    rw [if_pos rfl]
    refine he x hmem hp _ sm _ ?_
    refine ⟨_, upd_same, ?_, xs.length - (i + 1), by (first | lia | omega), rfl, hlt, ?_⟩
    ·rw [List.length_map]
     refine Nat.lt_of_le_of_lt (List.length_filter_le _ _) ?_
     rw [List.length_take]; (first | lia | omega)
    ·rw [upd_upd, htk, List.filter_append, List.map_append]
     simp [hp]
 ·have e : i = xs.length := by (first | lia | omega)
  subst e
  refine .inl ⟨Y.stop _ o, ?_⟩
  rw [List.take_length]
  exact fin acc ha
theorem lc_grow (Y : Yields J Ok xs) (small : xs.length < sizeLine) (R : V -> V -> Hp -> Prop) (hR : ∀ x v H H', SameT H H' -> R x v H -> R x v H') (hok : ∀ H, Same H1 H -> Ok H)
  (he : ∀ x ∈ xs, ∀ H, Same H1 H -> ∀ Q' : VK, (∀ v H', Same H H' -> R x v H' -> Q' v H') -> te (some x :: ix.map fun i => σ.getD i none) H Q')
  (fin : ∀ acc ys H', H1 acc = none -> Same H1 H' -> H' acc = some (.lst ys) -> Paired (fun x v => R x v H') xs ys -> Q (.ref acc) H') :
  LcW J H1 (gName 0) tNoTest te 1 ix σ Q := by
 intro acc ha
 refine ⟨fun i m H => m = xs.length - i /\ i <= xs.length /\ Same H1 H /\ ∃ ys, H acc = some (.lst ys) /\ Paired (fun x v => R x v H) (xs.take i) ys, ⟨xs.length, by simp, Nat.zero_le _, same_upd ha, [], upd_same, .nil⟩, ?_⟩
 rintro i m H ⟨rfl, hi, sm, ys, hacc, pr⟩
 have o := hok _ sm
 have hlen : ys.length = i := by rw [<- Paired.length pr, List.length_take]; (first | lia | omega)
 by_cases hlt : i < xs.length
 ·refine .inr ⟨Y.go i _ o hlt, fun x H' y => ?_⟩
  obtain ⟨rfl, hx⟩ := Y.yld i _ x H' o hlt y
  have hmem : x ∈ xs := List.mem_of_getElem? hx
  have htk : xs.take (i + 1) = xs.take i ++ [x] := by
   rw [List.take_succ, hx]; rfl
  refine ⟨⟨rfl, fun j v e => ?_⟩, ?_⟩
  ·cases j with
   | zero => cases e
   | succ j => exact e
  ·unfold tNoTest
   dsimp only
   rw [if_pos rfl]
   refine he x hmem _ sm _ fun v H4 s4 r4 => ?_
   have h4 : H4 acc = some (.lst ys) := s4 _ _ hacc
   refine ⟨ys, h4, by (first | lia | omega), xs.length - (i + 1), by (first | lia | omega), rfl, hlt, same_updR (sm.trans s4) ha, ys ++ [v], upd_same, ?_⟩
   rw [htk]
   have st : SameT H4 (upd H4 acc (.lst (ys ++ [v]))) := sameT_lst h4
   exact Paired.snoc (Paired.mapP pr fun x' v' r' => hR _ _ _ _ (s4.t.trans st) r') (hR _ _ _ _ st r4)
 ·have e : i = xs.length := by (first | lia | omega)
  subst e
  refine .inl ⟨Y.stop _ o, ?_⟩
  rw [List.take_length] at pr
  exact fin acc ys H ha sm hacc pr
end
end L2
namespace L2
open PySem PySem.Spec PyProof.Rows
section
variable {prog : Program} {w : World} {A : Around} {E : Value -> Shared -> Prop} {s : Shared}
theorem nextT_item {it t : Addr} {i : Nat} {its : Array Value} {x : Value} {Q : Value -> Shared -> Prop} (hi : s.heap.IsTupleIter it t i) (ht : s.heap.IsTuple t its) (hx : its[i]? = some x)
  (q : ∀ h', h'.IsTupleIter it t (i + 1) -> Heap.SameBut it s.heap h' -> Q x { s with heap := h' }) : wpAny (model prog w) A (Builtin.SmallTypes.nextOf (.ref it)) Q E s := by
 obtain ⟨o, e1, e2, e3⟩ := id hi
 obtain ⟨u, f1, f2, nu, f3⟩ := ht
 unfold Builtin.SmallTypes.nextOf
 refine wpAny_bind (wpAny_callSpecial?_slot (name := Str.ofString "__next__") hi.typeIs F.slot_tuple_iterator_next (wpAny_call_entry F.slot_tuple_iterator_next hi.typeIs F.entry_tuple_iterator_next ?_ (F.args_tuple_iterator_next_1 _)))
 show wpAny _ _ (field (.ref it) 0 >>= _) _ _ s
 refine wpAny_bind (wpAny_field e1 e3 (x := .ref t) rfl ?_)
 show wpAny _ _ (if (Value.ref t == Value.none) = true then _ else _) _ _ s
 rw [if_neg (show ¬ ((Value.ref t == Value.none) = true) from Bool.false_ne_true)]
 show wpAny _ _ (field (.ref it) 1 >>= _) _ _ s
 refine wpAny_bind (wpAny_field e1 e3 (x := .int i 0) rfl ?_)
 show wpAny _ _ (seqItems? (.ref t) >>= _) _ _ s
 refine wpAny_bind (wpAny_seqItems f1 f3 ?_)
 simp only [Int.toNat_natCast, hx]
 refine wpAny_bind (wpAny_setField e1 e3 (by simp) (wpAny_pure ⟨x, rfl, wpAny_pure (q _ ⟨_, Heap.get?_update_self _ e1 (Obj.isFreed_of_fields (Obj.data_mapFields e3 _)), (Obj.cls_mapFields ..).trans e2, ?_⟩ (Heap.SameBut.update ..))⟩))
 rw [Obj.data_mapFields e3]
 simp [rawInt]
theorem nextT_end {it t : Addr} {i : Nat} {its : Array Value} {Q : Value -> Shared -> Prop} (hh : A.handled = none) (hi : s.heap.IsTupleIter it t i) (ht : s.heap.IsTuple t its) (hx : its[i]? = none)
  (q : ∀ h' e, Heap.ExtBut it s.heap h' -> (∃ o, h'.get? e = some o /\ o.cls = .type "StopIteration") -> E (.ref e) { s with heap := h' }) : wpAny (model prog w) A (Builtin.SmallTypes.nextOf (.ref it)) Q E s := by
 obtain ⟨o, e1, e2, e3⟩ := id hi
 obtain ⟨u, f1, f2, nu, f3⟩ := ht
 unfold Builtin.SmallTypes.nextOf
 refine wpAny_bind (wpAny_callSpecial?_slot (name := Str.ofString "__next__") hi.typeIs F.slot_tuple_iterator_next (wpAny_call_entry F.slot_tuple_iterator_next hi.typeIs F.entry_tuple_iterator_next ?_ (F.args_tuple_iterator_next_1 _)))
 show wpAny _ _ (field (.ref it) 0 >>= _) _ _ s
 refine wpAny_bind (wpAny_field e1 e3 (x := .ref t) rfl ?_)
 show wpAny _ _ (if (Value.ref t == Value.none) = true then _ else _) _ _ s
 rw [if_neg (show ¬ ((Value.ref t == Value.none) = true) from Bool.false_ne_true)]
 show wpAny _ _ (field (.ref it) 1 >>= _) _ _ s
 refine wpAny_bind (wpAny_field e1 e3 (x := .int i 0) rfl ?_)
 show wpAny _ _ (seqItems? (.ref t) >>= _) _ _ s
 refine wpAny_bind (wpAny_seqItems f1 f3 ?_)
 simp only [Int.toNat_natCast, hx]
 refine wpAny_bind (wpAny_rule (wpAny_bind (wpAny_setField e1 e3 (by simp) ?_)))
 show wpAny _ _ (newExc (.type "StopIteration") [] >>= _) _ _ _
 refine wpAny_bind ?_
 simp only [newExc, newTuple]
 refine wpAny_bind (wpAny_newObj_type ?_ (by size_fits))
 refine wpAny_bind (m := firstArgMember _ _) (wpAny_of_eq (a := Value.none) (by first | rfl | (simp only [firstArgMember]; rfl)) ?_)
 refine wpAny_newObj_type ?_ (by size_fits)
 simp only [raiseNew]
 refine wpAny_bind (wpAny_handled ?_)
 first | rw [show A.in1.handled = none from hh] | rw [hh]
 refine wpAny_bind (wpAny_pure (wpAny_throw ?_))
 exact q _ _ (((Heap.SameBut.update ..).extBut.push _).push _) ⟨_, Heap.get?_push_size _ rfl, rfl⟩
end
theorem drawsT {prog : Program} {w : World} {A : Around} (hh : A.handled = none) (it t : Addr) (hne : t ≠ it) (its : Array Value) :
  Draws prog w A it [it, t] its.size (fun i v => its[i]? = some v) (fun i h => h.IsTupleIter it t i /\ h.IsTuple t its) where
 live := fun _ _ st => let ⟨o, ho, _⟩ := st.1; ⟨o, ho⟩
 frame := fun _ _ _ st hk => ⟨let ⟨o, ho, r⟩ := st.1; ⟨o, hk it (by simp) o ho, r⟩, let ⟨o, ho, r⟩ := st.2; ⟨o, hk t (by simp) o ho, r⟩⟩
 item := fun i s Q E hi st hQ => nextT_item st.1 st.2 (x := its[i]) (by simp [hi]) fun h' a b => hQ _ h' s.toks (by simp [hi]) ⟨a, st.2.extBut b.extBut hne⟩ b
 done := fun s Q E st hE => nextT_end hh st.1 st.2 (by simp) hE
theorem enum_newT (l : Addr) (items : Array Value) (n : Nat) (dct : Option Addr) (sl : Array (Option Value)) :
  Meets (Builtin.«enumerate.__new__» ⟨[.type "enumerate", .ref l], []⟩) (fun _ R s => s.heap.get? l = some { cls := .type "tuple", dict := dct, data := .seq items n, slots := sl } /\
   R (.ok (.ret (.ref (s.heap.push { cls := .type "tuple_iterator", data := .fields #[.ref l, .int 0 0] }).objs.size)))
    { s with heap := (s.heap.push { cls := .type "tuple_iterator", data := .fields #[.ref l, .int 0 0] }).push { cls := .type "enumerate", data := .fields #[.none, .bool false, .ref s.heap.objs.size, rawInt 0, .none, .none] } }) :=
 .of_wp fun prog w A R s h => by
  obtain ⟨hp, g, d, tk, os⟩ := s; obtain ⟨hl, h⟩ := h
  have hsub := sub_enumerate
  have hL : Heap.IsTuple (Shared.heap ⟨hp, g, d, tk, os⟩) l items := ⟨_, hl, rfl, n, rfl⟩
  wp_walk using AutoSeq1.wpAny_loadPart' hl
  refine wpAny_stack_any fun st => wpAny_pure ?_
  split
  ·rename_i c _ _ _ _ _
   cases (c == Value.type "enumerate") <;> (wp_walk using AutoSeq1.wpAny_loadPart' hl, wpAny_pyIter_tuple hL; exact ⟨_, rfl, h⟩)
  ·wp_walk using AutoSeq1.wpAny_loadPart' hl, wpAny_pyIter_tuple hL
   exact ⟨_, rfl, h⟩
theorem call_enumT {prog : Program} {w : World} {A : Around} {E : Value -> Shared -> Prop} {s : Shared} {l : Addr} {items : Array Value} {Q : Value -> Shared -> Prop} (hL : s.heap.IsTuple l items)
  (h : ∀ h', IsEnum h' (s.heap.objs.size + 1) s.heap.objs.size 0 .none -> h'.IsTupleIter s.heap.objs.size l 0 -> h'.objs.size = s.heap.objs.size + 2 ->
   (∀ b o, s.heap.get? b = some o -> h'.get? b = some o) -> Q (.ref (s.heap.objs.size + 1)) { s with heap := h' }) :
  wpAny (model prog w) A (call (.type "enumerate") [.ref l]) Q E s := by
 obtain ⟨⟨c, dct, dt, sl⟩, hl, hc, n, hd⟩ := hL
 replace hc : c = .type "tuple" := hc
 replace hd : dt = .seq items n := hd
 subst hc hd
 refine callType_new F.called_enumerate (by decide) (F.typeCall_enumerate_1 _) (F.newCall_enumerate_1 _) (fun obj => F.args_object_init_2 obj _) F.entry_enumerate_new (enum_newT l items n dct sl) ⟨hl, ?_⟩
 have hz : (s.heap.push { cls := .type "tuple_iterator", data := .fields #[.ref l, .int 0 0] }).objs.size = s.heap.objs.size + 1 := Heap.size_push ..
 show _ /\ _
 rw [hz]
 have he := Heap.get?_push_size (s.heap.push { cls := .type "tuple_iterator", data := .fields #[.ref l, .int 0 0] }) (o := { cls := .type "enumerate", data := .fields #[.none, .bool false, .ref s.heap.objs.size, rawInt 0, .none, .none] }) rfl
 rw [hz] at he
 exact ⟨⟨_, he, rfl⟩, h _ he ⟨_, Heap.get?_push_of_some _ (Heap.get?_push_size _ rfl), rfl, rfl⟩ (by rw [Heap.size_push, hz]) fun b o x => Heap.get?_push_of_some _ (Heap.get?_push_of_some _ x)⟩
end L2
namespace L2
open PySem PySem.Spec PyProof.Rows
section
variable {X : Cx} {pins : List (Addr × Obj)} {σ : St} {H : Hp} {s : Shared} {h' : Heap}
theorem Inv.turnedN {t' : Nat} {fp : List Addr} (I : Inv X pins σ H s) (hf : ∀ b ∈ fp, FpOk X pins H b) (k : ∀ b o, b ∉ fp -> s.heap.get? b = some o -> h'.get? b = some o) : Inv X pins σ H { s with heap := h', toks := t' } := by
 have nit : ∀ b u, H b = some u -> b ∉ fp := fun b u e z => by rw [(hf b z).1] at e; cases e
 refine I.step (g' := s.gens) (d' := s.drawn) (ch := fp) (fun b hb => ?_) (fun b o _ _ hc e _ => k b o hc e) (fun b o _ _ hc e _ => ⟨o.slots, k b o hc e⟩) (fun _ _ _ _ n => n)
  (fun b o hc e => ⟨o, k b o hc e⟩) (fun _ _ e => e) (fun _ _ _ e => e) (fun b ps e => ⟨#[], by rw [e]; simp⟩) (fun m hm => ?_) (fun b u e => ?_) I.bare
 ·obtain ⟨_, q1, q2, q3, q4, q5⟩ := hf b hb
  exact ⟨q3, q1, q4, q5⟩
 ·obtain ⟨o, es, ep, ho, r⟩ := hm
  exact ⟨o, es, ep, k _ o (fun z => (hf _ z).2.1 rfl) ho, r⟩
 ·refine (I.hok b u e).stay (fun c v hc q => k c v ?_ q) (fun _ q => q) fun _ _ q => q
  rcases hc with z | z
  ·rw [z]; exact nit b u e
  ·exact nit c _ z
theorem Inv.trackT {a : Addr} {xs : List V} {its : List Value} (I : Inv X pins σ H s) (hn : H a = none) (hs : X.s₀.heap.objs.size <= a) (hL : a ≠ X.env.locals) (hc : ∀ x c, X.env.cells.lookup x = some c -> c ≠ a) (hp : ∀ p ∈ X.pn ++ pins, p.1 ≠ a)
  (rv : Vals xs its) (ht : PTup s.heap a its.toArray) (hz : xs.length <= sizeLine) : Inv X pins σ (upd H a (.tup xs)) s := by
 have ne : ∀ {b u}, H b = some u -> b ≠ a := fun e => ne_of_none e hn
 refine ⟨I.ok, I.os, I.bare, ⟨I.base.keep, I.base.slot, fun b o e n hx => ?_, I.base.there, fun b ys e => ?_, fun b o u e => ?_, fun b ps e => ?_⟩, I.loc, I.cell, ?_, fun x c e => ?_, fun p hp' => ?_, fun b u e => ?_, I.len⟩
 ·rw [upd_ne (Nat.ne_of_lt (Nat.lt_of_lt_of_le (Heap.lt_size e) hs))]
  exact I.base.free b o e n hx
 ·have q := I.base.tups b ys e
  rw [upd_ne (ne q)]; exact q
 ·have q := I.base.frzs b o u e
  rw [upd_ne (ne q)]; exact q
 ·obtain ⟨m, q⟩ := I.base.tbls b ps e
  exact ⟨m, by rw [upd_ne (ne q)]; exact q⟩
 ·rw [upd_ne (Ne.symm hL)]; exact I.free
 ·rw [upd_ne (hc x c e)]; exact I.freeC x c e
 ·obtain ⟨q1, q2, q3⟩ := I.pin p hp'
  exact ⟨q1, by rw [upd_ne (hp p hp')]; exact q2, q3⟩
 ·by_cases hb : b = a
  ·subst hb
   rw [upd_same] at e; cases e
   exact ⟨hz, its, rv, ht⟩
  ·rw [upd_ne hb] at e
   exact (I.hok b u e).stay (fun _ _ _ q => q) (fun c q => by rw [upd_ne (ne q)]; exact q) fun c ys q => by rw [upd_ne (ne q)]; exact q
theorem Inv.turnedT {t' : Nat} {fp : List Addr} {xs : List V} {its : List Value} (I : Inv X pins σ H s) (hf : ∀ b ∈ fp, FpOk X pins H b) (k : ∀ b o, b ∉ fp -> s.heap.get? b = some o -> h'.get? b = some o)
  (rv : Vals xs its) (ht : PTup h' s.heap.objs.size its.toArray) (hz : xs.length <= sizeLine) : Inv X pins σ (upd H s.heap.objs.size (.tup xs)) { s with heap := h', toks := t' } := by
 refine (I.turnedN (t' := t') hf k).trackT (I.hok.fresh (Nat.le_refl _)) I.sz (Nat.ne_of_gt I.lt) (fun x c e => ?_) (fun p hp => ?_) rv ht hz
 ·obtain ⟨v, q⟩ := I.cell x c e
  exact Nat.ne_of_lt q.lt
 ·exact Nat.ne_of_lt (Heap.lt_size (I.pin p hp).1)
end
noncomputable def Ite (K : PySem.W.Frag) (a : Addr) : It :=
 ⟨fun i H => ∃ xs x, SqT K H a xs /\ xs[i]? = some x, fun i H v H' => ∃ t x, H t = none /\ v = .ref t /\ H' = upd H t (.tup [.int i, x]) /\ ∀ xs, SqT K H a xs -> xs[i]? = some x, fun i H => ∃ xs, SqT K H a xs /\ xs.length = i⟩
theorem turn_enumT {P : Program} {w : World} {K : PySem.W.Frag} {els : List Expr} {kx} {tp : Pos} (a e it : Addr) (hne : e ≠ it) : Turn P w K (.Tuple els kx tp) (Ite K a) [e, it] e (fun i h => (∃ old, IsEnum h e it i old) /\ h.IsTupleIter it a i) where
 mem := by simp
 obj := fun i h st b hb => by
  obtain ⟨⟨old, he⟩, o, ho, hc, hd⟩ := st
  rcases List.mem_cons.mp hb with rfl | hb
  ·exact ⟨_, he, fun v z => by cases z⟩
  ·rw [List.mem_singleton.mp hb]
   exact ⟨o, ho, fun v z => by rw [hd] at z; cases z⟩
 keep := fun i h h' st k => by
  obtain ⟨⟨old, he⟩, o, ho, r⟩ := st
  exact ⟨⟨old, k e (by simp) _ he⟩, o, k it (by simp) _ ho, r⟩
 item := by
  intro X hP hw hK hc i pins s σ H E I hf st hg
  subst hP hw hK
  obtain ⟨xs, x, hq, hx⟩ := hg
  obtain ⟨its, rv, p, hz⟩ := I.tuple hq
  obtain ⟨u, hu, ru⟩ := rv.get hx
  obtain ⟨⟨old, he⟩, hi⟩ := st
  obtain ⟨o, ho, hcl, hd⟩ := id hi
  have hT : s.heap.IsTuple a its.toArray := p
  have hai : a ≠ it := fun z => by
   obtain ⟨o', e1, e2, _⟩ := p
   rw [z, ho] at e1; cases e1; rw [hcl] at e2; injection e2 with z2; revert z2; decide
  have hae : e ≠ a := fun z => by
   obtain ⟨o', e1, e2, _⟩ := p
   rw [<- z, he] at e1; cases e1; injection e2 with z2; revert z2; decide
  have hlt : i < its.toArray.size := by
   have := (List.getElem?_eq_some_iff.mp hu).1
   simpa using this
  have hh : X.A.in1.handled = none := I.ok.hd hc
  refine wpAny_pyNext_enum_itemD (drawsT hh it a hai its.toArray) he ⟨hi, hT⟩ hlt hne (by simp [hne, hae]) fun x' h1 tk hP1 ho1 hs1 hT1 hz1 hk1 => ?_
  have ex : x' = u := by
   have q : its[i]? = some x' := by simpa using hP1
   rw [hu] at q; exact (Option.some.inj q).symm
  subst ex
  refine ⟨_, rfl, wpAny_letOwnedTupleGo_enum ho1 fun h2 he2 hs2 => ?_⟩
  have hne0 : s.heap.objs.size ≠ e := Nat.ne_of_gt (Heap.lt_size he)
  have keep : ∀ b o, b ∉ [e, it] -> s.heap.get? b = some o -> h2.get? b = some o := fun b o hb e0 => (hs2.2 b fun z => hb (by simp [z])).trans (hk1 b o (fun z => hb (by simp [z])) (fun z => hb (by simp [z])) e0)
  refine ⟨.ref s.heap.objs.size, _, I.turnedT (h' := h2) (t' := tk + 1) (xs := [.int i, x]) hf keep (.cons ⟨tk, rfl⟩ (.cons ru .nil)) ⟨_, (hs2.2 _ hne0).trans hT1, rfl, ⟨_, rfl⟩, rfl, rfl⟩ (by show 2 <= sizeLine; decide), rfl, ⟨_, x, I.hok.fresh (Nat.le_refl _), rfl, rfl, fun ys hy => by rw [I.tuple_inj hy hq]; exact hx⟩, ⟨⟨_, by simpa using he2⟩, ?_⟩, fun b hb => ?_⟩
  ·obtain ⟨⟨o1, e1, r1⟩, _⟩ := hs1
   exact ⟨o1, (hs2.2 it (Ne.symm hne)).trans e1, r1⟩
  ·rcases List.mem_cons.mp hb with rfl | hb'
   ·rw [upd_ne (Nat.ne_of_lt (Heap.lt_size he))]; exact (hf _ hb).1
   ·have e9 := List.mem_singleton.mp hb'
    subst e9
    rw [upd_ne (Nat.ne_of_lt (Heap.lt_size ho))]; exact (hf _ hb).1
 done := by
  intro X hP hw hK hc i pins s σ H E I hf st hg
  subst hP hw hK
  obtain ⟨xs, hq, hx⟩ := hg
  obtain ⟨its, rv, p, hz⟩ := I.tuple hq
  obtain ⟨⟨old, he⟩, hi⟩ := st
  obtain ⟨o, ho, hcl, hd⟩ := id hi
  have hT : s.heap.IsTuple a its.toArray := p
  have hai : a ≠ it := fun z => by
   obtain ⟨o', e1, e2, _⟩ := p
   rw [z, ho] at e1; cases e1; rw [hcl] at e2; injection e2 with z2; revert z2; decide
  have hh : X.A.in1.handled = none := I.ok.hd hc
  have hl : its.toArray.size = i := by rw [List.size_toArray, <- rv.length, hx]
  refine wpAny_pyNext_enum_endD (drawsT hh it a hai its.toArray) he (by rw [hl]; exact ⟨hi, hT⟩) fun h1 hk => ⟨rfl, ?_⟩
  exact I.turnedN (t' := s.toks) hf fun b o hb e0 => hk b o (fun z => hb (by simp [z])) e0
 self := fun _ _ _ _ _ st h => by
  obtain ⟨⟨old, he⟩, _⟩ := st
  exact wpAny_pyIter_enum he h
section
variable {X : Cx}
noncomputable def iEnum (K : PySem.W.Frag) (ta : TA) : TI := fun σ H R => ta σ H fun vs H1 => ∃ a, vs = [.ref a] /\ (∃ xs, SqT K H1 a xs) /\ R (Ite K a) H1
theorem pi_enumT {els : List Expr} {kx} {tp : Pos} {l : Expr} {ta : TA} {p pos : Pos} (hg : Gl X "enumerate") (hm : X.mg "enumerate" = none) (ha : PA X [l] ta) (hs : starEach [l] X.env = [(false, eval l X.env)] := by rfl) :
  PI X (.Tuple els kx tp) (.Call (.Name "enumerate" p) [l] [] pos) (iEnum X.K ta) := by
 intro pins s σ H R I h
 refine Call_ (ld_blt I hg hm boot_enumerate (PyProof.Rows.callWith_type1 (thn (ha pos pins s σ H _ I h) fun us s1 ⟨vs, H1, I1, r1, q1⟩ => ?_) hs rfl))
 obtain ⟨a, rfl, ⟨xs, hq⟩, q⟩ := q1
 obtain ⟨u, rfl, ru⟩ := vals1 r1
 cases (show u = Value.ref a from ru)
 obtain ⟨its, rv, p', hz⟩ := I1.tuple hq
 refine call_enumT (show s1.heap.IsTuple a its.toArray from p') fun h' he hi hsz hk => wpAny_pyIter_enum he ?_
 have I2 : Inv X pins σ H1 { s1 with heap := h' } := I1.kept (t' := s1.toks) hk
 refine ⟨s1.heap.objs.size + 1, [s1.heap.objs.size + 1, s1.heap.objs.size], _, _, H1, rfl, I2, turn_enumT a _ _ (Nat.ne_of_gt (Nat.lt_succ_self _)), ⟨⟨_, he⟩, hi⟩, fun b hb => ?_, q⟩
 rcases List.mem_cons.mp hb with rfl | hb
 ·exact I1.fpOk (Nat.le_succ _) (I1.hok.fresh (Nat.le_succ _))
 ·rw [List.mem_singleton.mp hb]
  exact I1.fpOk (Nat.le_refl _) (I1.hok.fresh (Nat.le_refl _))
end
end L2
namespace L2
open PySem PySem.Spec PyProof.Rows
structure ZipT (h : Heap) (z TI TO i1 i2 a b : Addr) (i : Nat) : Prop where
 z : IsZip h z TI TO .none
 ti : IsPair h TI (.ref i1) (.ref i2)
 to : ∃ x y, IsPair h TO x y
 one : h.IsTupleIter i1 a i
 two : h.IsTupleIter i2 b i
structure ZipNe (z TI TO i1 i2 : Addr) : Prop where
 az : TI ≠ z
 bz : TO ≠ z
 cz : i1 ≠ z
 dz : i2 ≠ z
 ab : TI ≠ TO
 ac : TI ≠ i1
 ad : TI ≠ i2
 bc : TO ≠ i1
 bd : TO ≠ i2
 cd : i1 ≠ i2
section
variable {prog : Program} {w : World} {A : Around} {E : Value -> Shared -> Prop} {s : Shared} {z TI TO i1 i2 a b : Addr} {i : Nat} {xs ys : Array Value}
end
end L2
namespace L2
open PySem PySem.Spec PyProof.Rows
section
variable {prog : Program} {w : World} {A : Around} {E : Value -> Shared -> Prop} {s : Shared} {z TI TO i1 i2 a b : Addr} {i : Nat} {xs ys : Array Value}
end
section
variable {X : Cx}
end
end L2
namespace L2
open PySem PySem.Spec PyProof.Rows
theorem fm_congr {α β : Type} {f g : α -> Option β} : ∀ {l : List α}, (∀ x ∈ l, f x = g x) -> l.filterMap f = l.filterMap g
 | [], _ => rfl
 | a :: l, h => by rw [List.filterMap_cons, List.filterMap_cons, h a List.mem_cons_self, fm_congr fun x hx => h x (List.mem_cons_of_mem _ hx)]
theorem rev_pick (its : List Value) : (List.range its.length).filterMap (fun (k : Nat) => its.toArray[its.length - 1 - k]?) = its.reverse := by
 apply List.ext_getElem?
 intro i
 have e : (List.range its.length).filterMap (fun (k : Nat) => its.toArray[its.length - 1 - k]?) = (List.range its.length).map fun k => its.getD (its.length - 1 - k) .none := by
  rw [<- List.filterMap_eq_map]
  apply fm_congr
  intro k hk
  have hk' := List.mem_range.mp hk
  have h1 : its.length - 1 - k < its.length := by (first | lia | omega)
  simp [h1]
 rw [e, List.getElem?_map]
 by_cases h : i < its.length
 ·rw [List.getElem?_range h, List.getElem?_reverse h]
  have h1 : its.length - 1 - i < its.length := by (first | lia | omega)
  simp [h1]
 ·rw [List.getElem?_eq_none (by simpa using h), List.getElem?_eq_none (by simpa using h)]
  rfl
section
variable {X : Cx} {e : Expr} {te : TE} {p2 pos : Pos}
noncomputable def RvR (X : Cx) (r : V -> Hp -> VK -> Prop) : Prop :=
 ∀ (pins : List (Addr × Obj)) (s : Shared) (σ : St) (H : Hp) (x : V) (v vs : Value) (sl : Addr) (Q : VK), Inv X pins σ H s -> RelV x v -> s.heap.IsSliceOf sl .none .none vs -> IsPart vs (some (-1)) -> r x H Q ->
  ∃ T id, typeLookup (.type T) "__getitem__" = pure (some (.builtin id)) /\ s.TypeIs v T /\ wpAny (model X.prog X.w) X.A (getItem v (.ref sl)) (EP X pins σ Q) X.xe s
theorem pe_rev {r : V -> Hp -> VK -> Prop} {j : Nat} {p3 p4 : Pos} (hr : RvR X r) (he : PE X e te) : PE X (.Subscript e (.Slice none none (some (.UnaryOp .USub (.Constant (.int 1) j p3) p4)) p2) pos) (tUn r te) := by
 intro pins s σ H Q I h
 have hst : PO X (some (.UnaryOp .USub (.Constant (.int 1) j p3) p4)) (tPart (tUn (rU fun i => .int (-i)) (tC (.int 1)))) := po_some (pe_un un_neg pe_int)
 refine Subscript_ (thn (he pins s σ H _ I h) fun v s1 ⟨x, H1, I1, r1, q1⟩ => ?_)
 refine wpAny_Slice (thn (po_none pins s1 σ H1 (fun o H' => o = none /\ r x H' Q) I1 ⟨rfl, q1⟩) fun vl s2 ⟨l, H2, I2, pl, el, q2⟩ => thn (po_none pins s2 σ H2 (fun o H' => o = none /\ r x H' Q) I2 ⟨rfl, q2⟩) fun vu s3 ⟨u, H3, I3, pu, eu, q3⟩ => ?_)
 subst el eu
 refine thn (hst pins s3 σ H3 (fun o H' => o = some (-1) /\ r x H' Q) I3 ⟨1, rfl, -1, rfl, rfl, q3⟩) fun vs s4 ⟨o, H4, I4, ps, eo, q4⟩ => ?_
 subst eo
 cases pl
 cases pu
 have I5 : Inv X pins σ H4 { s4 with heap := s4.heap.push { cls := .type "slice", data := .fields #[.none, .none, vs] } } := I4.kept (t' := s4.toks) fun b ob q => Heap.get?_push_of_some _ q
 obtain ⟨T, id, hT, ht, hg⟩ := hr pins { s4 with heap := s4.heap.push { cls := .type "slice", data := .fields #[.none, .none, vs] } } σ H4 x v vs s4.heap.objs.size Q I5 r1 (Heap.IsSliceOf.new ..) ps q4
 show wpAny (model X.prog X.w) X.A (subscriptTail e (.Slice none none (some (.UnaryOp .USub (.Constant (.int 1) j p3) p4)) p2) v (.ref s4.heap.objs.size)) (EP X pins σ Q) X.xe { s4 with heap := s4.heap.push { cls := .type "slice", data := .fields #[.none, .none, vs] } }
 exact tail_any (ops := [v, .ref s4.heap.objs.size]) ht hT hg (by with_unfolding_all rfl)
theorem getItem_tuple_rev {prog : Program} {w : World} {A : Around} {E : Value -> Shared -> Prop} {s : Shared} {t sl : Addr} {its : List Value} {vs : Value} {Q : Value -> Shared -> Prop} (ht : IsTup s.heap t its.toArray) (hs : s.heap.IsSliceOf sl .none .none vs) (ps : IsPart vs (some (-1)))
  (h : Q (.ref s.heap.objs.size) { s with heap := s.heap.push { cls := .type "tuple", data := .seq its.reverse.toArray } }) (hsz : its.length <= sizeLine) : wpAny (model prog w) A (getItem (.ref t) (.ref sl)) Q E s := by
 have htake : sizeOk (.seq its.reverse.toArray) := by
  show its.reverse.toArray.size <= sizeLine
  rw [List.size_toArray, List.length_reverse]; exact hsz
 obtain ⟨os, hos, hcs, hds⟩ := id hs
 have hTs : s.TypeIs (.ref sl) "slice" := ⟨os, hos, hcs⟩
 unfold getItem
 try with_reducible refine wpAny_holding ?_
 first | refine wpAny_bind (wpAny_pure ?_) | skip
 refine wpAny_bind (wpAny_sequenceKey ht.typeIs (by decide) ?_)
 refine wpAny_bind (wpAny_callSpecial?_slot (name := Str.ofString "__getitem__") ht.typeIs PyProof.Rows.slot_tuple_getitem
  (wpAny_call_entry PyProof.Rows.slot_tuple_getitem ht.typeIs entry_tuple_getitem ?_ (args_tuple_getitem _ _)))
 show wpAny _ _ (Builtin.Tuple.tupleItemsOf (.ref t) >>= _) _ _ s
 refine wpAny_bind (tupleItemsOf_ ht ?_)
 refine wpAny_bind (wpAny_typeOf hTs ?_)
 rw [if_pos (by decide)]
 have hap : ∀ {Q' : Int × Int × Nat -> Shared -> Prop}, Q' ((its.length : Int) - 1, -1, its.length) s -> wpAny (model prog w) A.in1 (Builtin.Slice.sliceApplied (.ref sl) (pure ((its.toArray.size : Nat) : Int))) Q' E s := fun {Q'} q => by
  unfold Builtin.Slice.sliceApplied Builtin.Slice.sliceFields
  refine wpAny_bind (wpAny_bind (wpAny_field hos hds (x := .none) rfl (wpAny_bind (wpAny_field hos hds (x := .none) rfl (wpAny_bind (wpAny_field hos hds (x := vs) rfl (wpAny_pure ?_)))))))
  refine wpAny_bind (HT.slicePart_ ps ?_)
  show wpAny _ _ (if ((-1 : Int) == 0) = true then _ else _) _ _ s
  rw [if_neg (by decide)]
  refine wpAny_bind (slicePart_none (wpAny_bind (slicePart_none (wpAny_bind (wpAny_pure ?_)))))
  have e1 : Builtin.Slice.sliceAdjust none none (-1) ((its.toArray.size : Nat) : Int) = ((its.length : Int) - 1, -1) := by
   unfold Builtin.Slice.sliceAdjust; simp
  have e2 : Builtin.Slice.slicePlaces ((its.length : Int) - 1) (-1) (-1) = its.length := by
   unfold Builtin.Slice.slicePlaces
   rw [if_neg (by decide)]
   by_cases h : (its.length : Int) - 1 > -1
   ·rw [if_pos h, show (- -1 : Int) = 1 by decide, Int.ediv_one]; (first | lia | omega)
   ·rw [if_neg h]; (first | lia | omega)
  show wpAny _ _ (match Builtin.Slice.sliceAdjust none none (-1) ((its.toArray.size : Nat) : Int) with | (lo, hi) => pure (lo, (-1 : Int), Builtin.Slice.slicePlaces lo hi (-1))) _ _ s
  rw [e1]
  show wpAny _ _ (pure ((its.length : Int) - 1, (-1 : Int), Builtin.Slice.slicePlaces ((its.length : Int) - 1) (-1) (-1))) _ _ s
  rw [e2]
  exact wpAny_pure q
 refine wpAny_bind (hap ?_)
 show wpAny _ _ (if ((its.length : Int) - 1 == 0 && (-1 : Int) == 1 && its.length == its.toArray.size) = true then _ else _) _ _ s
 rw [if_neg (by simp)]
 have e3 : (List.filterMap (fun (k : Nat) => its.toArray[((its.length : Int) - 1 + (k : Int) * -1).toNat]?) (List.range its.length)) = its.reverse := by
  rw [<- rev_pick its]
  apply fm_congr
  intro k hk
  have := List.mem_range.mp hk
  have e : ((its.length : Int) - 1 + (k : Int) * -1).toNat = its.length - 1 - k := by (first | lia | omega)
  rw [e]
 rw [e3]
 first
  | exact wpAny_bind (m := Builtin.Tuple.tupleExact _) (wpAny_newObj_type (wpAny_pure ⟨_, rfl, wpAny_pure h⟩) htake)
  | exact wpAny_bind (m := Builtin.Tuple.tupleExact _) (wpAny_newObj_type (wpAny_bind (wpAny_pure (wpAny_pure ⟨_, rfl, wpAny_pure h⟩))) htake)
  | exact wpAny_bind (wpAny_bind (m := Builtin.Tuple.tupleExact _) (wpAny_newObj_type (wpAny_pure (wpAny_pure ⟨_, rfl, wpAny_pure h⟩)) htake))
  | exact wpAny_bind (wpAny_bind (m := Builtin.Tuple.tupleExact _) (wpAny_newObj_type (wpAny_pure ⟨_, rfl, wpAny_pure h⟩) htake))
noncomputable def rRvT (K : PySem.W.Frag) : V -> Hp -> VK -> Prop := fun x H Q => ∃ a xs, x = .ref a /\ SqT K H a xs /\ ∀ p, H p = none -> Q (.ref p) (upd H p (.tup xs.reverse))
theorem rv_tup : RvR X (rRvT X.K) := by
 intro pins s σ H x v vs sl Q I rx hs ps h
 obtain ⟨a, xs, rfl, hx, q⟩ := h
 cases rx
 obtain ⟨its, r, ht, hz⟩ := I.tuple hx
 have hlen := r.length
 refine ⟨"tuple", _, PyProof.Rows.slot_tuple_getitem.lookup, ht.typeIs, ?_⟩
 refine getItem_tuple_rev ht hs ps ?_ (by (first | lia | omega))
 refine ⟨.ref s.heap.objs.size, _, I.laid (t' := s.toks) (o := .tup xs.reverse) (fun b ob q => Heap.get?_push_of_some _ q) (Nat.le_refl _) ?_, rfl, q _ (I.hok.fresh (Nat.le_refl _))⟩
 exact ⟨by rw [List.length_reverse]; exact hz, _, r.reverse, PTup.new⟩
end
end L2
namespace L2
open PySem PySem.Spec PyProof.Rows
section
variable {X : Cx}
end
end L2
namespace L2
open PySem PySem.Spec PyProof.Rows
theorem range_all_getD (f : Nat -> Bool) : ∀ (bs : List Bool), (∀ i, i < bs.length -> f i = bs.getD i false) -> (List.range bs.length).all f = bs.all id := by
 intro bs h
 rw [Bool.eq_iff_iff, List.all_eq_true, List.all_eq_true]
 constructor
 ·intro q b hb
  obtain ⟨i, hi, e⟩ := List.getElem_of_mem hb
  have := q i (List.mem_range.mpr hi)
  rw [h i hi, List.getD_eq_getElem?_getD, List.getElem?_eq_getElem hi, e] at this
  exact this
 ·intro q i hi
  have hi' := List.mem_range.mp hi
  rw [h i hi', List.getD_eq_getElem?_getD, List.getElem?_eq_getElem hi']
  exact q _ (List.getElem_mem hi')
section
variable {X : Cx}
noncomputable def rIsi (K : PySem.W.Frag) : List V -> Hp -> VK -> Prop := fun xs H Q => ∃ x T t b, xs = [x, .ty T] /\ TyOf K H x t /\ PySem.W.kitOne K t (.type T) = some b /\ Q (.bl b) H
theorem call_isi : CallR X (.builtin "isinstance") (rIsi X.K) := by
 intro pins s σ H xs us Q I rs h
 obtain ⟨x, T, t, b, rfl, ty, e, q⟩ := h
 obtain ⟨u, c, rfl, ru, rc⟩ := vals2 rs
 cases (show c = Value.type T from rc)
 exact isinst_ok I ru ty e fun tk => ⟨.bl b, H, I.tok tk, rfl, q⟩
noncomputable def rAll : List V -> Hp -> VK -> Prop := fun xs H Q => ∃ (a : Addr) (bs : List Bool), xs = [.ref a] /\ H a = some (.lst (bs.map V.bl)) /\ Q (.bl (bs.all id)) H
theorem call_all (hc : X.calm = true) : CallR X (.builtin "all") rAll := by
 intro pins s σ H xs us Q I rs h
 obtain ⟨a, bs, rfl, ha, q⟩ := h
 obtain ⟨u, rfl, ru⟩ := vals1 rs
 cases (show u = Value.ref a from ru)
 obtain ⟨hz, its, n, rv, ho⟩ := (show ObjOk X.prog X.w H s.heap a (.lst (bs.map V.bl)) from I.hok a _ ha)
 have hl : s.heap.IsList a its.toArray := ⟨_, ho, rfl, n, rfl⟩
 have hh : X.A.in1.handled = none := I.ok.hd hc
 have hlen : its.length = bs.length := by rw [<- rv.length, List.length_map]
 have hne : a ≠ s.heap.objs.size := Nat.ne_of_lt (Heap.lt_size ho)
 have hit : ∀ (i : Nat) v, its.toArray[i]? = some v -> v = Value.bool (bs.getD i false) := fun i v e => by
  have e' : its[i]? = some v := by simpa using e
  have hi : i < bs.length := by rw [<- hlen]; exact (List.getElem?_eq_some_iff.mp e').1
  obtain ⟨u, hu, ru⟩ := rv.get (i := i) (x := V.bl bs[i]) (by rw [List.getElem?_map, List.getElem?_eq_getElem hi]; rfl)
  rw [e'] at hu; cases hu
  cases (show v = Value.bool bs[i] from ru)
  rw [List.getD_eq_getElem?_getD, List.getElem?_eq_getElem hi]
  rfl
 refine call_all_walk (wpAny_pyIter_list hl ⟨s.heap.objs.size, _, _, _, _, _, fun i => bs.getD i false, rfl, Walks.list hh _ a hne its.toArray, ⟨⟨_, Heap.get?_push_size _ rfl, rfl, rfl⟩, hl.push _⟩, ?_, fun h' tk hk => ?_⟩)
 ·intro i v s' Q' E' hP hQ
  rw [hit i v hP]
  exact wpAny_truthy_bool hQ
 ·refine ⟨.bl (bs.all id), H, I.kept (t' := tk) fun b o e => hk b o ?_ (Heap.get?_push_of_some _ e), ?_, q⟩
  ·exact fun hm => absurd (List.mem_singleton.mp hm) (Nat.ne_of_lt (Heap.lt_size e))
  ·show Value.bool _ = Value.bool _
   have hs : its.toArray.size = bs.length := by simpa using hlen
   rw [hs, range_all_getD _ bs fun i _ => rfl]
end
end L2
namespace L2
open PySem PySem.Spec PyProof.Rows
mutual
inductive Is (H : Hp) : V -> PyData -> Prop
 | non : Is H .non .none
 | bl (b : Bool) : Is H (.bl b) (.bool b)
 | int (i : Int) : Is H (.int i) (.int i)
 | str (x : Str) : Is H (.str x) (.str x)
 | tup {a : Addr} {vs : List V} {ds : List PyData} : H a = some (.tup vs) -> IsAll H vs ds -> Is H (.ref a) (.tuple ds)
 | lst {a : Addr} {vs : List V} {ds : List PyData} : H a = some (.lst vs) -> IsAll H vs ds -> Is H (.ref a) (.list ds)
inductive IsAll (H : Hp) : List V -> List PyData -> Prop
 | nil : IsAll H [] []
 | cons {v : V} {vs : List V} {d : PyData} {ds : List PyData} : Is H v d -> IsAll H vs ds -> IsAll H (v :: vs) (d :: ds)
end
theorem IsAll.ints {H : Hp} : ∀ ns : List Int, IsAll H (ns.map V.int) (ns.map PyData.int)
 | [] => .nil
 | n :: r => .cons (.int n) (IsAll.ints r)
section
variable {X : Cx} {pins : List (Addr × Obj)} {σ : St} {H : Hp} {s : Shared}
mutual
theorem Inv.reads (I : Inv X pins σ H s) : ∀ {v : V} {d : PyData} {u : Value}, Is H v d -> RelV v u -> ∃ as, Reads s.heap u d as
 | _, _, _, .non, r => by cases (show _ = Value.none from r); exact ⟨_, .none⟩
 | _, _, _, .bl b, r => by cases (show _ = Value.bool b from r); exact ⟨_, .bool b⟩
 | _, _, _, .int i, r => by obtain ⟨t, rfl⟩ := r; exact ⟨_, .int i t⟩
 | _, _, _, .str x, r => by obtain ⟨t, rfl⟩ := r; exact ⟨_, .str x t⟩
 | _, _, _, .tup (a := a) (vs := vs) h al, r => by
  cases (show _ = Value.ref a from r)
  obtain ⟨_, its, rv, o, ho, hc, ⟨n, hd⟩, _⟩ := (show ObjOk X.prog X.w H s.heap a (.tup vs) from I.hok a _ h)
  obtain ⟨as, q⟩ := Inv.readsAll I al rv
  exact ⟨as, .tuple ho hc hd (by simpa using q)⟩
 | _, _, _, .lst (a := a) (vs := vs) h al, r => by
  cases (show _ = Value.ref a from r)
  obtain ⟨_, its, n, rv, ho⟩ := (show ObjOk X.prog X.w H s.heap a (.lst vs) from I.hok a _ h)
  obtain ⟨as, q⟩ := Inv.readsAll I al rv
  exact ⟨_, .list ho rfl rfl (by simpa using q)⟩
theorem Inv.readsAll (I : Inv X pins σ H s) : ∀ {vs : List V} {ds : List PyData} {us : List Value}, IsAll H vs ds -> Vals vs us -> ∃ as, ReadsAll s.heap us ds as
 | _, _, _, .nil, .nil => ⟨_, .nil⟩
 | _, _, _, .cons h al, .cons r rs => by
  obtain ⟨as, q⟩ := Inv.reads I h r
  obtain ⟨bs, q'⟩ := Inv.readsAll I al rs
  exact ⟨_, .cons q q'⟩
end
noncomputable def rNeD : R2 := fun x y H Q => ∃ d e, Is H x d /\ Is H y e /\ SeqAt.shaped d = true /\ SeqAt.shaped e = true /\ Q (.bl (!PyData.eqv d e)) H
theorem op_neD (hu : X.A.units + 64 < cLine) : OpR X (compareOp .NotEq) rNeD := by
 intro pins s σ H x y v u Q I rx ry h
 obtain ⟨d, e, hd, he, sd, se, q⟩ := h
 obtain ⟨as, ra⟩ := I.reads hd rx
 obtain ⟨bs, rb⟩ := I.reads he ry
 exact ne_dataH ra rb sd se hu ⟨.bl _, H, I, rfl, q⟩
end
theorem lay_ints : ∀ ns : List Int, PyData.canLayAll0 (ns.map PyData.int) = true
 | [] => rfl
 | _ :: r => by simp [PyData.canLayAll0, PyData.canLay0, lay_ints r]
theorem deep_ints : ∀ ns : List Int, PyData.depthAll (ns.map PyData.int) = 0
 | [] => rfl
 | _ :: r => by simp [PyData.depthAll, PyData.depth, deep_ints r]
theorem shaped_tints (ns : List Int) : SeqAt.shaped (.tuple (ns.map PyData.int)) = true := by
 simp [SeqAt.shaped, PyData.canLay0, PyData.depth, lay_ints, deep_ints]
theorem shaped_lints (ns : List Int) : SeqAt.shaped (.list (ns.map PyData.int)) = true := by
 simp [SeqAt.shaped, PyData.canLay0, PyData.depth, lay_ints, deep_ints]
theorem eqv_ints : ∀ ns ms : List Int, PyData.eqvAll (ns.map PyData.int) (ms.map PyData.int) = decide (ns = ms)
 | [], [] => by simp [PyData.eqvAll]
 | [], _ :: _ => by simp [PyData.eqvAll]
 | _ :: _, [] => by simp [PyData.eqvAll]
 | a :: r, b :: t => by
  simp only [List.map_cons, PyData.eqvAll, PyData.eqv, eqv_ints r t]
  by_cases h : a = b <;> by_cases h' : r = t <;> simp [h, h']
end L2
namespace L2
open PySem PySem.Spec PyProof.Rows
noncomputable def cscopeB (sc : Scope) (N : List Str) (scope : Scope) (N' : List Str) (n : Nat) (ix : List Nat) : Bool :=
 scope.kind == .function && scope.names.all (fun y => y.2 != .cell) && scope.names.all (fun y => y.2 != .local || scope.names.lookup y.1 == some .local) &&
 scope.names.all (fun y => y.2 != .free || (sc.names.lookup y.1 == some .cell || sc.names.lookup y.1 == some .free)) && scope.names.all (fun y => y.2 != .free || scope.names.lookup y.1 != some .local) &&
 N'.length == n + ix.length && (List.range ix.length).all fun j => match ix[j]?, N'[n + j]? with
  | some i, some x => N[i]? == some x && scope.names.contains (x, .free)
  | _, _ => false
theorem CompScope.of {X : Cx} {sc : Scope} {N : List Str} {scope : Scope} {N' : List Str} {n : Nat} {ix : List Nat} (h : cscopeB sc N scope N' n ix = true) (hs : X.env.scope = sc) (hN : X.N = N) : CompScope X scope N' n ix := by
 unfold cscopeB at h
 simp only [Bool.and_eq_true, List.all_eq_true] at h
 obtain ⟨⟨⟨⟨⟨⟨h1, h2⟩, h3⟩, h4⟩, h5⟩, h6⟩, h7⟩ := h
 subst hs hN
 refine ⟨eq_of_beq h1, fun y hy => by simpa using h2 y hy, fun y hy hl => ?_, fun y hy hf => ?_, fun y hy hl => ?_, eq_of_beq h6, fun j i e => ?_⟩
 ·have := h3 y hy
  rw [hl] at this
  simpa using this
 ·have := h4 y hy
  rw [hf] at this
  simpa using this
 ·have := h5 _ hy
  rw [hl] at this
  simp at this
 ·have hj : j < ix.length := (List.getElem?_eq_some_iff.mp e).1
  have := h7 j (List.mem_range.mpr hj)
  rw [e] at this
  cases hx : N'[n + j]? with
  | none => rw [hx] at this; simp at this
  | some x =>
   rw [hx] at this
   simp only [Bool.and_eq_true] at this
   exact ⟨x, rfl, eq_of_beq this.1, by simpa using this.2⟩
structure Cal (P : Program) (w : World) (K : PySem.W.Frag) (mg : Str -> Option Value) (base : Heap) (k : Nat) (x : Str) (ps : List Str) (sp : Sp) : Prop where
 ex : ∃ f fd, FnOk P w K mg base CX0 k f fd ps sp /\ mg x = some (.ref f) /\ PySem.W.keepIn K (.ref f) = true /\ Binds K fd ps []
section
variable {X : Cx} {k : Nat} {ps : List Str} {sp : Sp} {x : Str} {p pos : Pos} {e : Expr} {es : List Expr} {t : TA}
theorem pe_cal (C : Cal X.prog X.w X.K X.mg X.base k x ps sp) (hr : Room k X.A) (hg : Gl X x) (ha : PA X (e :: es) t) (hdb : (x == ("__debug__" : Str)) = false := by decide) (he : starEach (e :: es) X.env = (false, eval e X.env) :: starEach es X.env := by rfl)
  (hpl : (backTo pos (starEach es X.env)).any (·.1) = false := by rfl) : PE X (.Call (.Name x p) (e :: es) [] pos) (fun σ H Q => t σ H fun vs H1 => sp vs H1 Q E0) := by
 obtain ⟨f, fd, F, hm, hk, hb⟩ := C.ex
 exact (pe_call F hr hg hm hk hb .nil pass0 ha hdb he hpl).mono fun σ H Q q => by
  have e : (fun (vs : List V) (H1 : Hp) => sp (vs ++ []) H1 Q E0) = fun vs H1 => sp vs H1 Q E0 := by funext vs H1; rw [List.append_nil]
  show t σ H fun vs H1 => sp (vs ++ []) H1 Q E0
  rw [e]
  exact q
end
structure Top (mg : Str -> Option Value) : Prop where
 n_len : mg "len" = none
 n_tuple : mg "tuple" = none
 n_list : mg "list" = none
 n_range : mg "range" = none
 n_int : mg "int" = none
 n_bool : mg "bool" = none
 n_isinstance : mg "isinstance" = none
 n_all : mg "all" = none
 n_zip : mg "zip" = none
 n_enumerate : mg "enumerate" = none
 n_min : mg "min" = none
 n_sum : mg "sum" = none
 n_max : mg "max" = none
 n_abs : mg "abs" = none
 n_sorted : mg "sorted" = none
end L2
namespace L2
open PySem PySem.Spec PyProof.Rows
section
variable {X : Cx}
noncomputable def rCat2 : R2 := fun x y H Q => ∃ a b xs ys, x = .ref a /\ y = .ref b /\ H a = some (.tup xs) /\ H b = some (.tup ys) /\ xs.length + ys.length <= sizeLine /\ ∀ p H', Same H H' -> H' p = some (.tup (xs ++ ys)) -> Q (.ref p) H'
theorem op_cat2 : OpR X (binaryOp .Add) rCat2 := by
 intro pins s σ H x y v u Q I rx ry h
 obtain ⟨a, b, xs, ys, rfl, rfl, ha, hb, hz, q⟩ := h
 have ha' : SqT X.K H a xs := SqT.of ha
 have hb' : SqT X.K H b ys := SqT.of hb
 by_cases hx : xs = []
 ·subst hx
  cases rx
  cases ry
  obtain ⟨its, r1, p1, _⟩ := I.tuple ha'
  obtain ⟨its2, r2, p2, _⟩ := I.tuple hb'
  cases r1
  obtain ⟨⟨cls, dd, data, sl⟩, ho, hc, n, hd⟩ := id p1
  obtain ⟨⟨cls2, dd2, data2, sl2⟩, ho2, hc2, n2, hd2⟩ := id p2
  simp only at hc hd hc2 hd2
  subst hc hd hc2 hd2
  exact concat_meets ⟨_, ho, rfl⟩ ⟨_, ho2, rfl⟩ noFill_tuple_add seq_tuple_add PySem.F.slot_tuple_add PySem.F.entry_tuple_add (PySem.F.args_tuple_add_2 _ _)
   (tuple_addW0 a b #[] its2.toArray n n2 dd dd2 sl sl2 rfl) ⟨ho, ho2, ⟨.ref b, H, I, rfl, q b H (Same.refl H) hb⟩⟩
 ·refine op_catT pins s σ H _ _ v u Q I rx ry ⟨a, b, xs, ys, rfl, rfl, ha', hb', hx, hz, fun hy => ?_, fun _ p hp => ?_⟩
  ·subst hy
   exact q a H (Same.refl H) (by rw [List.append_nil]; exact ha)
  ·exact q p _ (same_upd hp) upd_same
end
theorem small1 {n : Nat} (h : n <= 1000) : n < sizeLine := Nat.lt_of_le_of_lt h (by decide)
theorem mapI_len (ns : List Int) : (ns.map V.int).length = ns.length := List.length_map ..
theorem map_of_ints {f : V -> V} {g : Int -> Int} (h : ∀ n, f (.int n) = .int (g n)) (ns : List Int) : (ns.map V.int).map f = (ns.map g).map V.int := by
 rw [List.map_map, List.map_map]
 apply List.map_congr_left
 intro n _
 exact h n
theorem filter_true {α : Type} (l : List α) : l.filter (fun _ => true) = l := by simp
end L2
namespace L2
open PySem PySem.Spec PyProof.Rows
noncomputable def Keep (p q : Addr) (H H' : Hp) : Prop := ∀ b o, H b = some o -> b ≠ p -> b ≠ q -> H' b = some o
theorem Keep.refl (p q : Addr) (H : Hp) : Keep p q H H := fun _ _ h _ _ => h
theorem Keep.trans {p q : Addr} {H H1 H2 : Hp} (a : Keep p q H H1) (b : Keep p q H1 H2) : Keep p q H H2 := fun c o h h1 h2 => b c o (a c o h h1 h2) h1 h2
theorem Same.keep {p q : Addr} {H H' : Hp} (s : Same H H') : Keep p q H H' := fun b o h _ _ => s b o h
noncomputable def num0 (n : Nat) : List Int := (List.range n).map fun (i : Nat) => (i : Int)
end L2
namespace L2
open PySem PySem.Spec PyProof.Rows
theorem rangeV_num0 (n : Nat) : rangeV 0 n = (num0 n).map V.int := by
 unfold rangeV num0
 rw [List.map_map]
 apply List.map_congr_left
 intro i _
 show V.int (0 + (i : Int)) = V.int (i : Int)
 rw [Int.zero_add]
theorem num0_mem {n : Nat} {x : Int} (h : x ∈ num0 n) : 0 <= x /\ x < n := by
 unfold num0 at h
 obtain ⟨i, hi, rfl⟩ := List.mem_map.mp h
 have := List.mem_range.mp hi
 (first | lia | omega)
end L2
namespace L2
open PySem PySem.Spec PyProof.Rows
theorem kit_tt {K : PySem.W.Frag} {a b : String} {r : Bool} (h : (if (Value.type a == Value.type b) = true then some true else if PySem.W.kitMeta b = true then (fastBuiltinMro a).map (·.contains (Value.type b)) else none) = some r) : PySem.W.kitOne K (.type a) (.type b) = some r := h
theorem pg_pair {X : Cx} {i j : Nat} {x y : Str} {px py pt : Pos} {kt : Nat} (hc : X.calm = true) (hN : X.N.Nodup) (hi : X.N[i]? = some x) (hj : X.N[j]? = some y) (hx : Loc X.env.scope x) (hy : Loc X.env.scope y) (fx : X.fn x = true ∨ X.env.scope.names.lookup x = some .local) (fy : X.fn y = true ∨ X.env.scope.names.lookup y = some .local) :
  PG X (.Tuple [.Name x px, .Name y py] kt pt) (gTup X.K 2 (gCons (gName i) (gCons (gName j) gNil))) := pg_tup hc (pgs_cons (pg_name hN hi hx fx) (pgs_cons (pg_name hN hj hy fy) pgs_nil))
theorem ix_listK {X : Cx} (K : PySem.W.Frag) (hK : X.K = K) : IxR X (rIxL K) := hK ▸ ix_list
theorem call_isiK {X : Cx} (K : PySem.W.Frag) (hK : X.K = K) : CallR X (.builtin "isinstance") (rIsi K) := hK ▸ call_isi
end L2
namespace L2
open PySem PySem.Spec PyProof.Rows
theorem at_getD {ys : List Int} {i : Int} (h0 : 0 <= i) (h1 : i < ys.length) : atI (ys.map V.int) i = some (.int (ys.getD i.toNat 0)) := by
 have hlt : i.toNat < ys.length := by (first | lia | omega)
 have e : ((i.toNat : Nat) : Int) = i := by (first | lia | omega)
 have := atI_nat (xs := ys.map V.int) (j := i.toNat) (v := .int (ys.getD i.toNat 0)) (by rw [List.getElem?_map, List.getD_eq_getElem?_getD, List.getElem?_eq_getElem hlt]; rfl)
 rwa [e] at this
theorem mem_rangeV {n : Nat} {x : V} (h : x ∈ rangeV 0 n) : ∃ k : Int, x = .int k /\ 0 <= k /\ k < n := by
 rw [rangeV_num0] at h
 obtain ⟨k, hk, rfl⟩ := List.mem_map.mp h
 exact ⟨k, rfl, num0_mem hk⟩
theorem lc_tab {n : Nat} {te : TE} {ix : List Nat} {σ : L2.St} {H1 : Hp} {Q : VK} (g : Int -> Int) (small : n <= 1000) (he : ∀ k : Int, 0 <= k -> k < n -> ∀ H, Same H1 H -> ∀ Q' : VK, Q' (.int (g k)) H -> te (some (.int k) :: ix.map fun i => σ.getD i none) H Q')
  (fin : ∀ acc, H1 acc = none -> Q (.ref acc) (upd H1 acc (.lst (((num0 n).map g).map V.int)))) : LcW (Itr 0 n) H1 (gName 0) tNoTest te 1 ix σ Q := by
 refine lc_pure (yields_range (lo := 0) (n := n)) (small1 (by rw [rangeV_len]; exact small)) (fun _ => true) (fun v => match v with | .int k => .int (g k) | v => v) (fun _ _ => trivial) (fun _ _ _ _ _ q => q) (fun x hx _ H' s' Q' q => ?_) fun acc hacc => ?_
 ·obtain ⟨k, rfl, h0, h1⟩ := mem_rangeV hx
  exact he k h0 h1 H' s' Q' q
 ·rw [filter_true, rangeV_num0, map_of_ints (g := g) fun n => rfl]
  exact fin acc hacc
end L2
namespace L2
open PySem PySem.Spec PyProof.Rows
structure Def (K : PySem.W.Frag) (x : Str) (st : Stmt) : Prop where
 ex : ∃ (f : Addr) (oc : Value) (od an : Option Addr) (kV doc pm cdv ct : Value) (osl : Array (Option Value)), PySem.W.nsIn K mainGlobals x = some (some (.ref f)) /\
  K.lookup f = some ⟨oc, od, .func (PySem.W.fnOf x x (defArgs st) (defBody st) (defScope st) .none kV doc pm an cdv ct), osl⟩ /\ PySem.W.codeIn K cdv x = true /\ PySem.W.keepIn K (.ref f) = true
section
variable {K : PySem.W.Frag} {h : Heap} {mg : Str -> Option Value} {x : Str} {st : Stmt}
theorem Def.of {f : Addr} {oc : Value} {od an : Option Addr} {kV doc pm cdv ct : Value} {osl : Array (Option Value)} (a : PySem.W.nsIn K mainGlobals x = some (some (.ref f)))
  (l : K.lookup f = some ⟨oc, od, .func (PySem.W.fnOf x x (defArgs st) (defBody st) (defScope st) .none kV doc pm an cdv ct), osl⟩) (c : PySem.W.codeIn K cdv x = true) (k : PySem.W.keepIn K (.ref f) = true) : Def K x st :=
 ⟨f, oc, od, an, kV, doc, pm, cdv, ct, osl, a, l, c, k⟩
theorem Def.fn (D : Def K x st) (X : K.In h) (G : h.Ns mainGlobals mg) : ∃ f fd, Fun K x x st f fd /\ mg x = some (.ref f) := by
 obtain ⟨f, oc, od, an, kV, doc, pm, cdv, ct, osl, a, l, c, k⟩ := D.ex
 exact ⟨f, _, fun_mk (st := st) l c k, PySem.W.mg_of X G a⟩
end
structure TopK (K : PySem.W.Frag) : Prop where
 k_len : PySem.W.nsIn K mainGlobals "len" = some none
 k_tuple : PySem.W.nsIn K mainGlobals "tuple" = some none
 k_list : PySem.W.nsIn K mainGlobals "list" = some none
 k_range : PySem.W.nsIn K mainGlobals "range" = some none
 k_int : PySem.W.nsIn K mainGlobals "int" = some none
 k_bool : PySem.W.nsIn K mainGlobals "bool" = some none
 k_isinstance : PySem.W.nsIn K mainGlobals "isinstance" = some none
 k_all : PySem.W.nsIn K mainGlobals "all" = some none
 k_zip : PySem.W.nsIn K mainGlobals "zip" = some none
 k_enumerate : PySem.W.nsIn K mainGlobals "enumerate" = some none
 k_min : PySem.W.nsIn K mainGlobals "min" = some none
 k_sum : PySem.W.nsIn K mainGlobals "sum" = some none
 k_max : PySem.W.nsIn K mainGlobals "max" = some none
 k_abs : PySem.W.nsIn K mainGlobals "abs" = some none
 k_sorted : PySem.W.nsIn K mainGlobals "sorted" = some none
theorem TopK.top {K : PySem.W.Frag} {h : Heap} {mg : Str -> Option Value} (T : TopK K) (X : K.In h) (G : h.Ns mainGlobals mg) : Top mg :=
  ⟨PySem.W.mg_none_of X G T.k_len, PySem.W.mg_none_of X G T.k_tuple, PySem.W.mg_none_of X G T.k_list, PySem.W.mg_none_of X G T.k_range, PySem.W.mg_none_of X G T.k_int, PySem.W.mg_none_of X G T.k_bool, PySem.W.mg_none_of X G T.k_isinstance,
   PySem.W.mg_none_of X G T.k_all, PySem.W.mg_none_of X G T.k_zip, PySem.W.mg_none_of X G T.k_enumerate, PySem.W.mg_none_of X G T.k_min, PySem.W.mg_none_of X G T.k_sum, PySem.W.mg_none_of X G T.k_max, PySem.W.mg_none_of X G T.k_abs, PySem.W.mg_none_of X G T.k_sorted⟩
end L2
namespace L2
open PySem PySem.Spec PyProof.Rows
open Sem (wp)
open AutoSeq1 (wpAny_loadPart')
section
variable {prog : Program} {w : World} {A : Around} {E : Value -> Shared -> Prop} {s : Shared}
end
section
variable {X : Cx}
end
end L2
namespace L2
open PySem PySem.Spec PyProof.Rows
open Sem (wp)
open AutoSeq1 (wpAny_loadPart')
section
variable {prog : Program} {w : World} {A : Around} {E : Value -> Shared -> Prop} {s : Shared}
end
section
variable {X : Cx} {pos : Pos}
end
section
variable {prog : Program} {w : World} {A : Around} {E : Value -> Shared -> Prop} {s : Shared}
end
section
variable {X : Cx}
end
end L2
namespace L2
open PySem PySem.Spec PyProof.Rows
noncomputable def atO (ns : List Int) (x : Int) : Int := ns.getD x.toNat 0
section
variable {m : Nat} {ns ms ks : List Int} {x : Int}
end
theorem for_enum {K : PySem.W.Frag} {a : Addr} {xs : List V} {g : TG} {tb : TS} {D : Ends} {σ : L2.St} {H : Hp} (Pv : Nat -> L2.St -> Hp -> Prop) (h0 : Pv 0 σ H) (hl : ∀ i σ H, i <= xs.length -> Pv i σ H -> SqT K H a xs)
  (hs : ∀ i x t σ H, xs[i]? = some x -> Pv i σ H -> H t = none -> g (.ref t) σ (upd H t (.tup [.int i, x])) fun σ2 H2 => tb { D with nx := Pv (i + 1), ct := Pv (i + 1), bk := D.nx } σ2 H2) (hd : ∀ σ H, Pv xs.length σ H -> D.nx σ H) :
  ∃ W : Nat -> Nat -> L2.St -> Hp -> Prop, (∃ m, W 0 m σ H) /\ ∀ i m σ H, W i m σ H ->
   ((Ite K a).stop i H /\ D.nx σ H) ∨ ((Ite K a).go i H /\ ∃ N : L2.St -> Hp -> Prop, (∀ σ' H', N σ' H' -> ∃ m', m' < m /\ W (i + 1) m' σ' H') /\ ∀ x H', (Ite K a).yld i H x H' -> g x σ H' fun σ2 H2 => tb { D with nx := N, ct := N, bk := D.nx } σ2 H2) := by
 refine ⟨fun i m σ H => m = xs.length - i /\ i <= xs.length /\ Pv i σ H, ⟨xs.length, by simp, Nat.zero_le _, h0⟩, ?_⟩
 rintro i m σ H ⟨rfl, hi, p⟩
 have q := hl i σ H hi p
 by_cases hlt : i < xs.length
 ·refine .inr ⟨⟨xs, xs[i], q, by simp [hlt]⟩, Pv (i + 1), fun σ' H' p' => ⟨xs.length - (i + 1), by (first | lia | omega), rfl, hlt, p'⟩, fun x H' y => ?_⟩
  obtain ⟨t, x', ht, rfl, rfl, y⟩ := y
  exact hs i x' t σ _ (y xs q) p ht
 ·have e : i = xs.length := by (first | lia | omega)
  subst e
  exact .inl ⟨⟨xs, q, rfl⟩, hd σ H p⟩
end L2
namespace L2
open PySem PySem.Spec PyProof.Rows
noncomputable def itO (ns : List Int) (x : Int) : Nat -> Int
 | 0 => x
 | k + 1 => atO ns (itO ns x k)
noncomputable def orbO (ns : List Int) (x : Int) (k : Nat) : List Int := (List.range k).map (itO ns x)
structure IsRound (ns : List Int) (x : Int) (row : List Int) : Prop where
 ex : ∃ k, row = orbO ns x (k + 1) /\ itO ns x (k + 1) = x
 nd : row.Nodup
section
variable {m : Nat} {ns : List Int} {x y : Int}
open Classical in
noncomputable def rowO (ns : List Int) (x : Int) : List Int := if h : ∃ row, IsRound ns x row then choose h else []
structure MetO (ns : List Int) (m : Nat) (rows : List (List Int)) : Prop where
 nd : rows.flatten.Nodup
 rng : ∀ y ∈ rows.flatten, 0 <= y /\ y < m
 clo : ∀ y ∈ rows.flatten, atO ns y ∈ rows.flatten
 row : ∀ r ∈ rows, ∃ f : Int, 0 <= f /\ f < m /\ r = rowO ns f
end
end L2
namespace L2
open PySem PySem.Spec PyProof.Rows
section
variable {X : Cx}
end
section
variable {prog : Program} {w : World} {A : Around} {E : Value -> Shared -> Prop} {s : Shared}
theorem getItem_tuple_whole {t sl : Addr} {items : Array Value} {vl vu : Value} {lo hi : Option Int} {Q : Value -> Shared -> Prop} (ht : IsTup s.heap t items) (hs : s.heap.IsSliceOf sl vl vu .none) (pl : IsPart vl lo) (pu : IsPart vu hi)
  (hw : HT.sIx items.size 0 lo = 0 /\ HT.sIx items.size items.size hi = items.size) (h : Q (.ref t) s) : wpAny (model prog w) A (getItem (.ref t) (.ref sl)) Q E s := by
 obtain ⟨os, hos, hcs, hds⟩ := id hs
 have hTs : s.TypeIs (.ref sl) "slice" := ⟨os, hos, hcs⟩
 unfold getItem
 try with_reducible refine wpAny_holding ?_
 first | refine wpAny_bind (wpAny_pure ?_) | skip
 refine wpAny_bind (wpAny_sequenceKey ht.typeIs (by decide) ?_)
 refine wpAny_bind (wpAny_callSpecial?_slot (name := Str.ofString "__getitem__") ht.typeIs PyProof.Rows.slot_tuple_getitem
  (wpAny_call_entry PyProof.Rows.slot_tuple_getitem ht.typeIs entry_tuple_getitem ?_ (args_tuple_getitem _ _)))
 show wpAny _ _ (Builtin.Tuple.tupleItemsOf (.ref t) >>= _) _ _ s
 refine wpAny_bind (tupleItemsOf_ ht ?_)
 refine wpAny_bind (wpAny_typeOf hTs ?_)
 rw [if_pos (by decide)]
 refine wpAny_bind (HT.sliceApplied_gen hs pl pu ?_)
 show wpAny _ _ (if (((HT.sIx items.size 0 lo : Nat) : Int) == 0 && (1 : Int) == 1 && (HT.sIx items.size items.size hi - HT.sIx items.size 0 lo) == items.size) = true then _ else _) _ _ s
 rw [if_pos (by rw [hw.1, hw.2]; simp)]
 unfold Builtin.Tuple.tupleIsExact
 refine wpAny_bind (wpAny_bind (wpAny_typeOf ht.typeIs (wpAny_pure ?_)))
 rw [if_pos (by decide)]
 refine wpAny_bind (wpAny_rule ?_)
 exact wpAny_pure ⟨_, rfl, wpAny_pure h⟩
end
section
variable {X : Cx} {e : Expr} {te : TE} {p2 pos : Pos}
end
end L2
namespace L2
open PySem PySem.Spec PyProof.Rows
structure Bits (bs : List Bool) (m : Nat) (S : List Int) : Prop where
 len : bs.length = m
 bit : ∀ i, i < m -> bs[i]? = some (decide ((i : Int) ∈ S))
end L2
namespace L2
open PySem PySem.Spec PyProof.Rows
inductive Ents (P : Params) : List DictEntry -> List (Str × Addr) -> Prop
 | nil : Ents P [] []
 | cons {x : Str} {t : Tok} {f : Addr} {es : List DictEntry} {kvs : List (Str × Addr)} : Ents P es kvs -> Ents P (⟨PyData.keyHash P x, .str x t, .ref f⟩ :: es) ((x, f) :: kvs)
structure GDict (K : PySem.W.Frag) (P : Params) (C : Addr) (kvs : List (Str × Addr)) : Prop where
 ex : ∃ es n, K.lookup C = some { cls := .type "dict", data := .dict es n } /\ Ents P es.toList kvs
 nd : (kvs.map (·.1)).Nodup
theorem Ents.keys {prog : Program} {w : World} : ∀ {es : List DictEntry} {kvs : List (Str × Addr)}, Ents w.params es kvs -> ∀ e ∈ es, ∃ k, (PySem.strKind prog w).is k e.key = true /\ e.hash = (PySem.strKind prog w).hash k
 | _, _, .nil, _, h => by cases h
 | _, _, .cons (x := x) t, e, h => by
  rcases List.mem_cons.mp h with rfl | h
  ·exact ⟨x, by simp [PySem.strKind, Value.isStrOf], rfl⟩
  ·exact Ents.keys t e h
theorem Ents.pairs {prog : Program} {w : World} : ∀ {es : List DictEntry} {kvs : List (Str × Addr)}, Ents w.params es kvs -> Pairs (PySem.strKind prog w) es (kvs.map fun kv => (kv.1, Value.ref kv.2))
 | _, _, .nil => .nil
 | _, _, .cons t => .cons (by simp [PySem.strKind, Value.isStrOf]) rfl (Ents.pairs t)
theorem value_lookup : ∀ (kvs : List (Str × Addr)) (x : Str), valueAt (kvs.map fun kv => (kv.1, Value.ref kv.2)) x = (kvs.lookup x).map Value.ref
 | [], _ => rfl
 | (y, f) :: t, x => by
  have ih := value_lookup t x
  unfold valueAt at ih ⊢
  rw [List.map_cons, List.find?_cons, List.lookup_cons]
  by_cases h : y = x
  ·subst h
   simp
  ·have h2 : (x == y) = false := beq_eq_false_iff_ne.mpr fun z => h z.symm
   simp only [decide_eq_false h, h2]
   exact ih
section
variable {X : Cx}
noncomputable def rGd (K : PySem.W.Frag) (P : Params) : R2 := fun x y H Q => ∃ C kvs z f, x = .ref C /\ y = .str z /\ GDict K P C kvs /\ kvs.lookup z = some f /\ Q (.ref f) H
theorem ix_gd : IxR X (rGd X.K X.w.params) := by
 intro value slice pins s σ H x y v u Q I rx ry h hs
 obtain ⟨C, kvs, z, f, rfl, rfl, ⟨⟨es, n, hk, en⟩, nd⟩, hl, q⟩ := h
 cases rx
 obtain ⟨t, rfl⟩ := ry
 have hg := I.kIn C _ hk
 have hD : s.heap.DictOf (PySem.strKind X.prog X.w) C (kvs.map fun kv => (kv.1, Value.ref kv.2)) :=
  ⟨_, es, n, hg, ⟨rfl, rfl, rfl⟩, rfl, fun e he => en.keys e (by simpa using he), en.pairs, by rw [List.map_map]; exact nd⟩
 have fin : EP X pins σ Q (.ref f) { s with toks := s.toks + 1 } := ⟨.ref f, H, I.tok _, rfl, q⟩
 exact subscriptTail_builtinR (x := .ref f) hD.typeIs PySem.F.slot_dict_getitem.lookup
  (wpAny_getItem_of (k := z) (knd := PySem.strKind X.prog X.w) (Q := fun r s' => r = .ref f /\ EP X pins σ Q r s') (by simp [PySem.strKind, Value.isStrOf]) hD.mapOf (by rw [value_lookup, hl]; rfl) ⟨rfl, fin⟩) hs
end
structure CalF (P : Program) (w : World) (K : PySem.W.Frag) (mg : Str -> Option Value) (base : Heap) (k : Nat) (f : Addr) (ps : List Str) (sp : Sp) : Prop where
 ex : ∃ fd, FnOk P w K mg base CX0 k f fd ps sp /\ PySem.W.keepIn K (.ref f) = true /\ Binds K fd ps []
section
variable {X : Cx} {k : Nat} {x : Str} {p pos : Pos} {e : Expr} {es : List Expr} {t : TA} {tf : TE}
noncomputable def tCallV (P : Program) (w : World) (K : PySem.W.Frag) (mg : Str -> Option Value) (base : Heap) (k : Nat) (tf : TE) (t : TA) : TE := fun σ H Q => tf σ H fun v H1 => ∃ f ps sp, v = .ref f /\ CalF P w K mg base k f ps sp /\ t σ H1 fun vs H2 => sp vs H2 Q E0
theorem pe_callV (hf : PE X (.Name x p) tf) (hr : Room k X.A) (ha : PA X (e :: es) t) (he : starEach (e :: es) X.env = (false, eval e X.env) :: starEach es X.env := by rfl)
  (hpl : (backTo pos (starEach es X.env)).any (·.1) = false := by rfl) : PE X (.Call (.Name x p) (e :: es) [] pos) (tCallV X.prog X.w X.K X.mg X.base k tf t) := by
 intro pins s σ H Q I h
 refine wpAny_Call_Name_kw (thn (hf pins s σ H _ I h) fun v s1 ⟨y, H1, I1, r1, f, ps, sp, ey, ⟨fd, F, hk, hb⟩, q1⟩ => ?_)
 subst ey
 cases (show v = Value.ref f from r1)
 refine PySem.W.callWith_K (h₀ := X.base) I1.ok.mod.kin hk (thn (ha pos pins s1 σ H1 _ I1 q1) fun us s2 ⟨vs, H2, I2, r2, q2⟩ => ⟨I2.kIn, ?_⟩) he hpl
 exact run_fn F hr hb .nil pass0 I2 r2 (by rw [List.append_nil]; exact q2)
end
end L2
namespace L2
open PySem PySem.Spec PyProof.Rows
section
variable {prog : Program} {w : World} {A : Around} {R : Result -> Shared -> Prop} {s : Shared} {elt tg iter tg2 iter2 : Expr} {ifs ifs2 : List Expr} {scope : Scope} {pos : Pos} {it acc : Value} {env : Env}
end
end L2
namespace L2
open PySem PySem.Spec PyProof.Rows
section
variable {X : Cx} {elt tg iter tg2 iter2 : Expr} {ifs ifs2 : List Expr} {scope : Scope} {pos : Pos} {wi wi2 : TI} {g g2 : TG} {tt tt2 : TT} {te : TE} {N' : List Str} {n : Nat} {ix : List Nat}
end
end L2
namespace L2
open PySem PySem.Spec PyProof.Rows
noncomputable def Itel (K : PySem.W.Frag) (a : Addr) : It :=
 ⟨fun i H => ∃ xs x, SqL K H a xs /\ xs[i]? = some x, fun i H v H' => ∃ t x, H t = none /\ v = .ref t /\ H' = upd H t (.tup [.int i, x]) /\ ∀ xs, SqL K H a xs -> xs[i]? = some x, fun i H => ∃ xs, SqL K H a xs /\ xs.length = i⟩
theorem turn_enumL {P : Program} {w : World} {K : PySem.W.Frag} {els : List Expr} {kx} {tp : Pos} (a e it : Addr) (hne : e ≠ it) : Turn P w K (.Tuple els kx tp) (Itel K a) [e, it] e (fun i h => (∃ old, IsEnum h e it i old) /\ h.IsListIter it a i) where
 mem := by simp
 obj := fun i h st b hb => by
  obtain ⟨⟨old, he⟩, o, ho, hc, hd⟩ := st
  rcases List.mem_cons.mp hb with rfl | hb
  ·exact ⟨_, he, fun v z => by cases z⟩
  ·rw [List.mem_singleton.mp hb]
   exact ⟨o, ho, fun v z => by rw [hd] at z; cases z⟩
 keep := fun i h h' st k => by
  obtain ⟨⟨old, he⟩, o, ho, r⟩ := st
  exact ⟨⟨old, k e (by simp) _ he⟩, o, k it (by simp) _ ho, r⟩
 item := by
  intro X hP hw hK hc i pins s σ H E I hf st hg
  subst hP hw hK
  obtain ⟨xs, x, hq, hx⟩ := hg
  obtain ⟨its, rv, p, hz⟩ := I.list hq
  obtain ⟨u, hu, ru⟩ := rv.get hx
  obtain ⟨⟨old, he⟩, hi⟩ := st
  obtain ⟨o, ho, hcl, hd⟩ := id hi
  have hT : s.heap.IsList a its.toArray := p.isList
  have hai : a ≠ it := fun z => by
   obtain ⟨o', e1, e2, _⟩ := p.isList
   rw [z, ho] at e1; cases e1; rw [hcl] at e2; injection e2 with z2; revert z2; decide
  have hae : e ≠ a := fun z => by
   obtain ⟨o', e1, e2, _⟩ := p.isList
   rw [<- z, he] at e1; cases e1; injection e2 with z2; revert z2; decide
  have hlt : i < its.toArray.size := by
   have := (List.getElem?_eq_some_iff.mp hu).1
   simpa using this
  have hh : X.A.in1.handled = none := I.ok.hd hc
  refine wpAny_pyNext_enum_itemD (Draws.list hh it a hai its.toArray) he ⟨hi, hT⟩ hlt hne (by simp [hne, hae]) fun x' h1 tk hP1 ho1 hs1 hT1 hz1 hk1 => ?_
  have ex : x' = u := by
   have q : its[i]? = some x' := by simpa using hP1
   rw [hu] at q; exact (Option.some.inj q).symm
  subst ex
  refine ⟨_, rfl, wpAny_letOwnedTupleGo_enum ho1 fun h2 he2 hs2 => ?_⟩
  have hne0 : s.heap.objs.size ≠ e := Nat.ne_of_gt (Heap.lt_size he)
  have keep : ∀ b o, b ∉ [e, it] -> s.heap.get? b = some o -> h2.get? b = some o := fun b o hb e0 => (hs2.2 b fun z => hb (by simp [z])).trans (hk1 b o (fun z => hb (by simp [z])) (fun z => hb (by simp [z])) e0)
  refine ⟨.ref s.heap.objs.size, _, I.turnedT (h' := h2) (t' := tk + 1) (xs := [.int i, x]) hf keep (.cons ⟨tk, rfl⟩ (.cons ru .nil)) ⟨_, (hs2.2 _ hne0).trans hT1, rfl, ⟨_, rfl⟩, rfl, rfl⟩ (by show 2 <= sizeLine; decide), rfl, ⟨_, x, I.hok.fresh (Nat.le_refl _), rfl, rfl, fun ys hy => by rw [I.list_inj hy hq]; exact hx⟩, ⟨⟨_, by simpa using he2⟩, ?_⟩, fun b hb => ?_⟩
  ·obtain ⟨⟨o1, e1, r1⟩, _⟩ := hs1
   exact ⟨o1, (hs2.2 it (Ne.symm hne)).trans e1, r1⟩
  ·rcases List.mem_cons.mp hb with rfl | hb'
   ·rw [upd_ne (Nat.ne_of_lt (Heap.lt_size he))]; exact (hf _ hb).1
   ·have e9 := List.mem_singleton.mp hb'
    subst e9
    rw [upd_ne (Nat.ne_of_lt (Heap.lt_size ho))]; exact (hf _ hb).1
 done := by
  intro X hP hw hK hc i pins s σ H E I hf st hg
  subst hP hw hK
  obtain ⟨xs, hq, hx⟩ := hg
  obtain ⟨its, rv, p, hz⟩ := I.list hq
  obtain ⟨⟨old, he⟩, hi⟩ := st
  obtain ⟨o, ho, hcl, hd⟩ := id hi
  have hT : s.heap.IsList a its.toArray := p.isList
  have hai : a ≠ it := fun z => by
   obtain ⟨o', e1, e2, _⟩ := p.isList
   rw [z, ho] at e1; cases e1; rw [hcl] at e2; injection e2 with z2; revert z2; decide
  have hh : X.A.in1.handled = none := I.ok.hd hc
  have hl : its.toArray.size = i := by rw [List.size_toArray, <- rv.length, hx]
  refine wpAny_pyNext_enum_endD (Draws.list hh it a hai its.toArray) he (by rw [hl]; exact ⟨hi, hT⟩) fun h1 hk => ⟨rfl, ?_⟩
  exact I.turnedN (t' := s.toks) hf fun b o hb e0 => hk b o (fun z => hb (by simp [z])) e0
 self := fun _ _ _ _ _ st h => by
  obtain ⟨⟨old, he⟩, _⟩ := st
  exact wpAny_pyIter_enum he h
section
variable {X : Cx}
noncomputable def iEnumL (K : PySem.W.Frag) (ta : TA) : TI := fun σ H R => ta σ H fun vs H1 => ∃ a, vs = [.ref a] /\ (∃ xs, SqL K H1 a xs) /\ R (Itel K a) H1
theorem pi_enumL {els : List Expr} {kx} {tp : Pos} {l : Expr} {ta : TA} {p pos : Pos} (hg : Gl X "enumerate") (hm : X.mg "enumerate" = none) (ha : PA X [l] ta) (hs : starEach [l] X.env = [(false, eval l X.env)] := by rfl) :
  PI X (.Tuple els kx tp) (.Call (.Name "enumerate" p) [l] [] pos) (iEnumL X.K ta) := by
 intro pins s σ H R I h
 refine Call_ (ld_blt I hg hm boot_enumerate (PyProof.Rows.callWith_type1 (thn (ha pos pins s σ H _ I h) fun us s1 ⟨vs, H1, I1, r1, q1⟩ => ?_) hs rfl))
 obtain ⟨a, rfl, ⟨xs, hq⟩, q⟩ := q1
 obtain ⟨u, rfl, ru⟩ := vals1 r1
 cases (show u = Value.ref a from ru)
 obtain ⟨its, rv, p', hz⟩ := I1.list hq
 refine call_enumerate_list p'.isList fun h' he hi hsz hk => wpAny_pyIter_enum he ?_
 have I2 : Inv X pins σ H1 { s1 with heap := h' } := I1.kept (t' := s1.toks) hk
 refine ⟨s1.heap.objs.size + 1, [s1.heap.objs.size + 1, s1.heap.objs.size], _, _, H1, rfl, I2, turn_enumL a _ _ (Nat.ne_of_gt (Nat.lt_succ_self _)), ⟨⟨_, he⟩, hi⟩, fun b hb => ?_, q⟩
 rcases List.mem_cons.mp hb with rfl | hb
 ·exact I1.fpOk (Nat.le_succ _) (I1.hok.fresh (Nat.le_succ _))
 ·rw [List.mem_singleton.mp hb]
  exact I1.fpOk (Nat.le_refl _) (I1.hok.fresh (Nat.le_refl _))
end
end L2
namespace L2
open PySem PySem.Spec PyProof.Rows
end L2
namespace L2
open PySem PySem.Spec PyProof.Rows
section
variable {X : Cx}
noncomputable def rSlA : V -> Option Int -> Option Int -> Hp -> VK -> Prop := fun x lo hi H Q => ∃ a xs, x = .ref a /\ H a = some (.tup xs) /\ ∀ p H', Same H H' -> H' p = some (.tup (cutV xs lo hi)) -> Q (.ref p) H'
theorem sl_tupA : SlR X rSlA := by
 intro pins s σ H x v vl vu lo hi sl Q I rx hs pl pu h
 obtain ⟨a, xs, rfl, ha, q⟩ := h
 by_cases hw : HT.sIx xs.length 0 lo = 0 /\ HT.sIx xs.length xs.length hi = xs.length
 ·cases rx
  obtain ⟨its, r, ht, hz⟩ := I.tuple (SqT.of (K := X.K) ha)
  have hl : its.toArray.size = xs.length := by rw [List.size_toArray]; exact r.length.symm
  refine ⟨"tuple", _, PyProof.Rows.slot_tuple_getitem.lookup, ht.typeIs, ?_⟩
  refine getItem_tuple_whole ht hs pl pu (by rw [hl]; exact hw) ⟨.ref a, H, I, rfl, q a H (Same.refl H) ?_⟩
  unfold cutV
  rw [hw.1, hw.2, List.drop_zero, Nat.sub_zero, List.take_length]
  exact ha
 ·exact sl_tup pins s σ H _ v vl vu lo hi sl Q I rx hs pl pu ⟨a, xs, rfl, SqT.of ha, hw, fun p hp => q p _ (same_upd hp) upd_same⟩
end
theorem for_enumL {K : PySem.W.Frag} {a : Addr} {xs : List V} {g : TG} {tb : TS} {D : Ends} {σ : L2.St} {H : Hp} (Pv : Nat -> L2.St -> Hp -> Prop) (h0 : Pv 0 σ H) (hl : ∀ i σ H, i <= xs.length -> Pv i σ H -> SqL K H a xs)
  (hs : ∀ i x t σ H, xs[i]? = some x -> Pv i σ H -> H t = none -> g (.ref t) σ (upd H t (.tup [.int i, x])) fun σ2 H2 => tb { D with nx := Pv (i + 1), ct := Pv (i + 1), bk := D.nx } σ2 H2) (hd : ∀ σ H, Pv xs.length σ H -> D.nx σ H) :
  ∃ W : Nat -> Nat -> L2.St -> Hp -> Prop, (∃ m, W 0 m σ H) /\ ∀ i m σ H, W i m σ H ->
   ((Itel K a).stop i H /\ D.nx σ H) ∨ ((Itel K a).go i H /\ ∃ N : L2.St -> Hp -> Prop, (∀ σ' H', N σ' H' -> ∃ m', m' < m /\ W (i + 1) m' σ' H') /\ ∀ x H', (Itel K a).yld i H x H' -> g x σ H' fun σ2 H2 => tb { D with nx := N, ct := N, bk := D.nx } σ2 H2) := by
 refine ⟨fun i m σ H => m = xs.length - i /\ i <= xs.length /\ Pv i σ H, ⟨xs.length, by simp, Nat.zero_le _, h0⟩, ?_⟩
 rintro i m σ H ⟨rfl, hi, p⟩
 have q := hl i σ H hi p
 by_cases hlt : i < xs.length
 ·refine .inr ⟨⟨xs, xs[i], q, by simp [hlt]⟩, Pv (i + 1), fun σ' H' p' => ⟨xs.length - (i + 1), by (first | lia | omega), rfl, hlt, p'⟩, fun x H' y => ?_⟩
  obtain ⟨t, x', ht, rfl, rfl, y⟩ := y
  exact hs i x' t σ _ (y xs q) p ht
 ·have e : i = xs.length := by (first | lia | omega)
  subst e
  exact .inl ⟨⟨xs, q, rfl⟩, hd σ H p⟩
section
variable {X : Cx} {elt tg iter tg2 iter2 : Expr} {ifs ifs2 : List Expr} {scope : Scope} {pos : Pos} {wi wi2 : TI} {g g2 : TG} {tt tt2 : TT} {te : TE} {N' : List Str} {n : Nat} {ix : List Nat}
end
end L2
namespace L2
open PySem PySem.Spec PyProof.Rows
noncomputable def freeO (m : Nat) (b : List Int) : List Int := (num0 m).filter fun x => decide (x ∉ b)
structure Beg (m k : Nat) (b : List Int) : Prop where
 len : b.length = k
 nd : b.Nodup
 rng : ∀ y ∈ b, 0 <= y /\ y < m
 free : (freeO m b).length + k = m
end L2
namespace L2
open PySem PySem.Spec PyProof.Rows
end L2
namespace L2
open PySem PySem.Spec PyProof.Rows
end L2
namespace L2
open PySem PySem.Spec PyProof.Rows
section
variable {X : Cx}
end
end L2
namespace L2
open PySem PySem.Spec PyProof.Rows
end L2
namespace L2
open PySem PySem.Spec PyProof.Rows
structure Heaps (ns : List Int) (L : List Int) (es : List Int) : Prop where
 inc : L.Pairwise (· < ·)
 len : es.length = ns.length
 up : ∀ (j : Nat) a, L[j]? = some a -> ∃ k : Nat, ns[k]? = some a /\ es[k]? = some ((j : Int) + 1)
 dn : ∀ (k : Nat) e, es[k]? = some e -> ∃ (j : Nat) (a b : Int), e = (j : Int) + 1 /\ L[j]? = some a /\ ns[k]? = some b /\ a <= b
end L2
namespace L2
open PySem PySem.Spec PyProof.Rows
structure CompScopeZ (X : Cx) (scope : Scope) (N' : List Str) (n : Nat) (ix : List Nat) (z : Str) : Prop where
 kind : scope.kind = .function
 onecell : ∀ y ∈ scope.names, y.2 = .cell -> y.1 = z
 nz : ∀ y : Str, (y, NameKind.free) ∈ scope.names -> y ≠ z
 cf : ∀ (a : Addr) (cl : List (Str × Addr)), cellsFrom a scope.names cl = (z, a) :: cl
 pc : ∀ h : Heap, pushCells h scope.names = h.push { cls := .type "cell", data := .cell none }
 names : ∀ y ∈ scope.names, y.2 = .local -> scope.names.lookup y.1 = some .local
 free : ∀ y ∈ scope.names, y.2 = .free -> X.env.scope.names.lookup y.1 = some .cell ∨ X.env.scope.names.lookup y.1 = some .free
 nodup : ∀ y : Str, (y, NameKind.free) ∈ scope.names -> scope.names.lookup y = some .local -> False
 len : N'.length = n + ix.length
 at_ : ∀ (j i : Nat), ix[j]? = some i -> ∃ x, N'[n + j]? = some x /\ X.N[i]? = some x /\ (x, NameKind.free) ∈ scope.names
section
variable {X : Cx} {pins : List (Addr × Obj)} {σ : St} {H : Hp} {s : Shared}
end
section
variable {X : Cx} {elt tg iter : Expr} {ifs : List Expr} {scope : Scope} {pos : Pos} {wi : TI} {g : TG} {tt : TT} {te : TE} {N' : List Str} {n : Nat} {ix : List Nat}
end
end L2
namespace L2
open PySem PySem.Spec PyProof.Rows
mutual
inductive IsK (K : PySem.W.Frag) (H : Hp) : V -> PyData -> Prop
 | non : IsK K H .non .none
 | bl (b : Bool) : IsK K H (.bl b) (.bool b)
 | int (i : Int) : IsK K H (.int i) (.int i)
 | str (x : Str) : IsK K H (.str x) (.str x)
 | tup {a : Addr} {vs : List V} {ds : List PyData} : SqT K H a vs -> IsAllK K H vs ds -> IsK K H (.ref a) (.tuple ds)
 | lst {a : Addr} {vs : List V} {ds : List PyData} : H a = some (.lst vs) -> IsAllK K H vs ds -> IsK K H (.ref a) (.list ds)
inductive IsAllK (K : PySem.W.Frag) (H : Hp) : List V -> List PyData -> Prop
 | nil : IsAllK K H [] []
 | cons {v : V} {vs : List V} {d : PyData} {ds : List PyData} : IsK K H v d -> IsAllK K H vs ds -> IsAllK K H (v :: vs) (d :: ds)
end
theorem IsAllK.ints {K : PySem.W.Frag} {H : Hp} : ∀ ns : List Int, IsAllK K H (ns.map V.int) (ns.map PyData.int)
 | [] => .nil
 | n :: r => .cons (.int n) (IsAllK.ints r)
theorem IsK.ints {K : PySem.W.Frag} {H : Hp} {a : Addr} {ns : List Int} (h : SqT K H a (ns.map V.int)) : IsK K H (.ref a) (.tuple (ns.map PyData.int)) := .tup h (IsAllK.ints ns)
section
variable {X : Cx} {pins : List (Addr × Obj)} {σ : St} {H : Hp} {s : Shared}
mutual
theorem Inv.readsK (I : Inv X pins σ H s) : ∀ {v : V} {d : PyData} {u : Value}, IsK X.K H v d -> RelV v u -> ∃ as, Reads s.heap u d as
 | _, _, _, .non, r => by cases (show _ = Value.none from r); exact ⟨_, .none⟩
 | _, _, _, .bl b, r => by cases (show _ = Value.bool b from r); exact ⟨_, .bool b⟩
 | _, _, _, .int i, r => by obtain ⟨t, rfl⟩ := r; exact ⟨_, .int i t⟩
 | _, _, _, .str x, r => by obtain ⟨t, rfl⟩ := r; exact ⟨_, .str x t⟩
 | _, _, _, .tup (a := a) (vs := vs) h al, r => by
  cases (show _ = Value.ref a from r)
  obtain ⟨its, rv, ⟨o, ho, hc, n, hd⟩, _⟩ := I.tuple h
  obtain ⟨as, q⟩ := Inv.readsAllK I al rv
  exact ⟨as, .tuple ho hc hd (by simpa using q)⟩
 | _, _, _, .lst (a := a) (vs := vs) h al, r => by
  cases (show _ = Value.ref a from r)
  obtain ⟨_, its, n, rv, ho⟩ := (show ObjOk X.prog X.w H s.heap a (.lst vs) from I.hok a _ h)
  obtain ⟨as, q⟩ := Inv.readsAllK I al rv
  exact ⟨_, .list ho rfl rfl (by simpa using q)⟩
theorem Inv.readsAllK (I : Inv X pins σ H s) : ∀ {vs : List V} {ds : List PyData} {us : List Value}, IsAllK X.K H vs ds -> Vals vs us -> ∃ as, ReadsAll s.heap us ds as
 | _, _, _, .nil, .nil => ⟨_, .nil⟩
 | _, _, _, .cons h al, .cons r rs => by
  obtain ⟨as, q⟩ := Inv.readsK I h r
  obtain ⟨bs, q'⟩ := Inv.readsAllK I al rs
  exact ⟨_, .cons q q'⟩
end
noncomputable def rEqK (K : PySem.W.Frag) : R2 := fun x y H Q => ∃ d e, IsK K H x d /\ IsK K H y e /\ SeqAt.shaped d = true /\ SeqAt.shaped e = true /\ Q (.bl (PyData.eqv d e)) H
noncomputable def rNeK (K : PySem.W.Frag) : R2 := fun x y H Q => ∃ d e, IsK K H x d /\ IsK K H y e /\ SeqAt.shaped d = true /\ SeqAt.shaped e = true /\ Q (.bl (!PyData.eqv d e)) H
theorem op_eqK (hu : X.A.units + 64 < cLine) : OpR X (compareOp .Eq) (rEqK X.K) := by
 intro pins s σ H x y v u Q I rx ry h
 obtain ⟨d, e, hd, he, sd, se, q⟩ := h
 obtain ⟨as, ra⟩ := I.readsK hd rx
 obtain ⟨bs, rb⟩ := I.readsK he ry
 exact eq_dataH ra rb sd se hu ⟨.bl _, H, I, rfl, q⟩
theorem op_neK (hu : X.A.units + 64 < cLine) : OpR X (compareOp .NotEq) (rNeK X.K) := by
 intro pins s σ H x y v u Q I rx ry h
 obtain ⟨d, e, hd, he, sd, se, q⟩ := h
 obtain ⟨as, ra⟩ := I.readsK hd rx
 obtain ⟨bs, rb⟩ := I.readsK he ry
 exact ne_dataH ra rb sd se hu ⟨.bl _, H, I, rfl, q⟩
end
theorem Same.seqT {K : PySem.W.Frag} {H H' : Hp} {a : Addr} {xs : List V} (e : Same H H') (h : SqT K H a xs) : SqT K H' a xs := by
 rcases h with (h | ⟨o, h⟩) | h
 ·exact .inl (.inl (e _ _ h))
 ·exact .inl (.inr ⟨o, e _ _ h⟩)
 ·exact .inr h
end L2
namespace L2
open PySem PySem.Spec PyProof.Rows
noncomputable def Pot (H : Hp) (p q : Addr) : Prop := ∃ (ns : List Int) (seed turn : Int), H p = some (.lst [.ref q, .int seed, .int turn]) /\ H q = some (.lst (ns.map V.int)) /\ (∀ n ∈ ns, 0 <= n) /\ ns.length <= 63
theorem Pot.same {p q : Addr} {H H' : Hp} (h : Pot H p q) (s : Same H H') : Pot H' p q := by
 obtain ⟨ns, seed, turn, h1, h2, h3, h4⟩ := h
 exact ⟨ns, seed, turn, s _ _ h1, s _ _ h2, h3, h4⟩
theorem Pot.ne {p q : Addr} {H : Hp} (h : Pot H p q) : p ≠ q := by
 obtain ⟨ns, seed, turn, h1, h2, _⟩ := h
 refine ne_of h1 h2 fun z => ?_
 injection z with z
 cases ns with
 | nil => cases z
 | cons a r => injection z with z _; cases z
noncomputable def spPot (K : PySem.W.Frag) : Sp := fun vs H Q _ => ∃ (a : Addr) (ns : List Int), vs = [.ref a] /\ SqL K H a (ns.map V.int) /\ ns.length <= 63 /\ ∀ p q H', Same H H' -> Pot H' p q -> H p = none -> H q = none -> Q (.ref p) H'
noncomputable def spTake : Sp := fun vs H Q _ => ∃ (p q : Addr) (m : Int), vs = [.ref p, .int m] /\ 0 < m /\ m < 1073741824 /\ Pot H p q /\ ∀ d H', 0 <= d -> d < m -> Pot H' p q -> Keep p q H H' -> Q (.int d) H'
theorem op_mulW {X : Cx} : OpR X (binaryOp .Mult) (rI (fun i j => IntMulOk i j) fun i j => .int (i * j)) := opI fun _ _ _ _ _ _ _ hc q => mul_int q hc
theorem bits_far : ∀ i : Nat, i <= 15 -> IntMulOk (((10 : Int) ^ (60 : Int).toNat) ^ i) ((10 : Int) ^ (60 : Int).toNat) := fun i hi => by
 have h10 : Builtin.Int.intBits (10 : Int) <= 4 := intBits_le_iff.mpr (by decide)
 have h1 : Builtin.Int.intBits ((10 : Int) ^ (60 : Int).toNat) <= 241 := intBits_pow_le h10 60
 have h2 : Builtin.Int.intBits (((10 : Int) ^ (60 : Int).toNat) ^ i) <= 241 * i + 1 := intBits_pow_le h1 i
 exact IntMulOk.of_le h2 h1 (by (first | lia | omega))
end L2
namespace L2
open PySem PySem.Spec PyProof.Rows
noncomputable def atZ (ns : List Int) (k : Int) : Int := if k < 0 then 0 else ns.getD k.toNat 0
theorem atZ_in {ns : List Int} {k : Int} (h : 0 <= k) : ns.getD k.toNat 0 = atZ ns k := by
 unfold atZ
 rw [if_neg (by (first | lia | omega))]
theorem atZ_lt {ns : List Int} {k : Int} (h : k < 0) : atZ ns k = 0 := by
 unfold atZ
 rw [if_pos h]
theorem atZ_ge {ns : List Int} {k : Int} (h : (ns.length : Int) <= k) : atZ ns k = 0 := by
 unfold atZ
 rw [if_neg (by (first | lia | omega)), List.getD_eq_getElem?_getD, List.getElem?_eq_none (by (first | lia | omega))]
 rfl
noncomputable def spNumAt (K : PySem.W.Frag) : Sp := fun vs H Q _ => ∃ (a : Addr) (ns : List Int) (k : Int), vs = [.ref a, .int k] /\ SqT K H a (ns.map V.int) /\ Q (.int (atZ ns k)) H
end L2
namespace L2
open PySem PySem.Spec PyProof.Rows
noncomputable def roundsRow (m : Nat) (ns : List Int) : List Int := (num0 (m + 1)).map fun k => atZ ns (k - 1) + ((m : Int) - 1) * atZ ns k
noncomputable def staysRow (m : Nat) (ns : List Int) : List Int := (num0 (m + 1)).map fun k => atZ ns (k - 1) + ((m : Int) - 1 - k) * atZ ns k + (k + 1) * atZ ns (k + 1)
noncomputable def risesRow (m : Nat) (ns : List Int) : List Int := (num0 m).map fun k => (k + 1) * atZ ns k + ((m : Int) - k) * atZ ns (k - 1)
noncomputable def spRow (K : PySem.W.Frag) (B : Nat) (g : Nat -> List Int -> List Int) : Sp := fun vs H Q _ => ∃ (m : Nat) (a : Addr) (ns : List Int), vs = [.int m, .ref a] /\ 1 <= m /\ m <= B /\ SqT K H a (ns.map V.int) /\ ns.length <= 1000 /\ ∀ p H', Same H H' -> H' p = some (.tup ((g m ns).map V.int)) -> Q (.ref p) H'
theorem cmul_small {i j : Int} (h0 : -100 <= i) (h1 : i <= 1000) : CMul i j := .inl ⟨Int.lt_of_lt_of_le (by decide) h0, Int.lt_of_le_of_lt h1 (by decide)⟩
end L2
namespace L2
open PySem PySem.Spec PyProof.Rows
section
variable {X : Cx}
noncomputable def rSlK (K : PySem.W.Frag) : V -> Option Int -> Option Int -> Hp -> VK -> Prop := fun x lo hi H Q => ∃ a xs, x = .ref a /\ SqT K H a xs /\ ∀ p H', Same H H' -> SqT K H' p (cutV xs lo hi) -> Q (.ref p) H'
theorem sl_tupK : SlR X (rSlK X.K) := by
 intro pins s σ H x v vl vu lo hi sl Q I rx hs pl pu h
 obtain ⟨a, xs, rfl, ha, q⟩ := h
 by_cases hw : HT.sIx xs.length 0 lo = 0 /\ HT.sIx xs.length xs.length hi = xs.length
 ·cases rx
  obtain ⟨its, r, ht, hz⟩ := I.tuple ha
  have hl : its.toArray.size = xs.length := by rw [List.size_toArray]; exact r.length.symm
  refine ⟨"tuple", _, PyProof.Rows.slot_tuple_getitem.lookup, ht.typeIs, ?_⟩
  refine getItem_tuple_whole ht hs pl pu (by rw [hl]; exact hw) ⟨.ref a, H, I, rfl, q a H (Same.refl H) ?_⟩
  unfold cutV
  rw [hw.1, hw.2, List.drop_zero, Nat.sub_zero, List.take_length]
  exact ha
 ·exact sl_tup pins s σ H _ v vl vu lo hi sl Q I rx hs pl pu ⟨a, xs, rfl, ha, hw, fun p hp => q p _ (same_upd hp) (SqT.of upd_same)⟩
theorem sl_tupKK (K : PySem.W.Frag) (hK : X.K = K) : SlR X (rSlK K) := hK ▸ sl_tupK
noncomputable def rSumT (K : PySem.W.Frag) : List V -> Hp -> VK -> Prop := fun xs H Q => ∃ (l : Addr) (ns : List Int), xs = [.ref l] /\ SqT K H l (ns.map V.int) /\ Q (.int ns.sum) H
theorem call_sumT (hc : X.calm = true) : CallR X (.builtin "sum") (rSumT X.K) := by
 intro pins s σ H xs us Q I rs h
 obtain ⟨l, ns, rfl, hH, q⟩ := h
 obtain ⟨u, rfl, ru⟩ := vals1 rs
 cases (show u = Value.ref l from ru)
 obtain ⟨its, r, ht, hz⟩ := I.tuple hH
 have hI := intsAre_of r
 obtain ⟨xs, hxs⟩ := hI.allInts.items
 have hnum : (numsOf its.toArray.toList) = ns := hI.numsOf
 refine PySem.W.ktm_sumG (xs := xs) (I.ok.hd hc) (by rw [<- hxs]; exact ht) fun h' tk t' hk => ?_
 have hs : preSum (numAt xs) xs.size = ns.sum := by
  rw [preSum_eq, List.take_of_length_le (by simp)]
  rw [<- nums_intItems, <- hxs, hnum]
 rw [hs]
 exact ⟨.int ns.sum, H, I.kept (t' := tk) hk, ⟨_, rfl⟩, q⟩
theorem call_sumTK (K : PySem.W.Frag) (hK : X.K = K) (hc : X.calm = true) : CallR X (.builtin "sum") (rSumT K) := hK ▸ call_sumT hc
end
noncomputable def win (ns : List Int) (lo : Int) (n : Nat) : Int := ((List.range n).map fun (i : Nat) => atZ ns (lo + (i : Int))).sum
theorem win_succ (ns : List Int) (lo : Int) (n : Nat) : win ns lo (n + 1) = win ns lo n + atZ ns (lo + (n : Int)) := by
 unfold win
 rw [List.range_succ, List.map_append, List.sum_append]
 simp
theorem sum_cut (ns : List Int) (lo : Nat) : ∀ n : Nat, ((ns.drop lo).take n).sum = win ns (lo : Int) n
 | 0 => by simp [win]
 | n + 1 => by
  rw [List.take_succ, List.sum_append, sum_cut ns lo n, win_succ, List.getElem?_drop]
  congr 1
  unfold atZ
  rw [if_neg (by (first | lia | omega)), show ((lo : Int) + (n : Int)).toNat = lo + n by (first | lia | omega), List.getD_eq_getElem?_getD]
  cases ns[lo + n]? <;> simp
theorem win_pos (ns : List Int) (lo : Int) : ∀ n : Nat, win ns lo n = win ns (max lo 0) (n - (-lo).toNat)
 | 0 => by simp [win]
 | n + 1 => by
  rw [win_succ, win_pos ns lo n]
  by_cases h : lo + (n : Int) < 0
  ·rw [atZ_lt h, show n + 1 - (-lo).toNat = 0 by (first | lia | omega), show n - (-lo).toNat = 0 by (first | lia | omega)]
   simp
  ·rw [show n + 1 - (-lo).toNat = (n - (-lo).toNat) + 1 by (first | lia | omega), win_succ]
   congr 2
   (first | lia | omega)
theorem cut_min (ns : List Int) (lo hi : Nat) : (ns.drop (min lo ns.length)).take (min hi ns.length - min lo ns.length) = (ns.drop lo).take (hi - lo) := by
 by_cases h : lo <= ns.length
 ·rw [Nat.min_eq_left h]
  by_cases h2 : hi <= ns.length
  ·rw [Nat.min_eq_left h2]
  ·rw [Nat.min_eq_right (by (first | lia | omega)), List.take_of_length_le (by rw [List.length_drop]; exact Nat.le_refl _), List.take_of_length_le (by rw [List.length_drop]; (first | lia | omega))]
 ·rw [show min lo ns.length = ns.length by (first | lia | omega), List.drop_length, List.drop_of_length_le (by (first | lia | omega)), List.take_nil, List.take_nil]
theorem cutV_ints (ns : List Int) (lo hi : Nat) : cutV (ns.map V.int) (some (lo : Int)) (some (hi : Int)) = ((ns.drop lo).take (hi - lo)).map V.int := by
 unfold cutV
 rw [HT.sIx_nat, HT.sIx_nat, mapI_len, <- List.map_drop, <- List.map_take, cut_min]
theorem paired_tab {g : Int -> Int} : ∀ {l : List Int} {ys : List V}, Paired (fun x v => ∀ k, x = V.int k -> v = V.int (g k)) (l.map V.int) ys -> ys = (l.map g).map V.int
 | [], _, .nil => rfl
 | a :: l, _, .cons h t => by
  rw [List.map_cons, List.map_cons, <- paired_tab t, h a rfl]
theorem lc_tabG {n : Nat} {te : TE} {ix : List Nat} {σ : L2.St} {H1 : Hp} {Q : VK} (g : Int -> Int) (small : n <= 1000) (he : ∀ k : Int, 0 <= k -> k < n -> ∀ H, Same H1 H -> ∀ Q' : VK, (∀ H', Same H H' -> Q' (.int (g k)) H') -> te (some (.int k) :: ix.map fun i => σ.getD i none) H Q')
  (fin : ∀ acc H', H1 acc = none -> Same H1 H' -> H' acc = some (.lst (((num0 n).map g).map V.int)) -> Q (.ref acc) H') : LcW (Itr 0 n) H1 (gName 0) tNoTest te 1 ix σ Q := by
 refine lc_grow (yields_range (lo := 0) (n := n)) (small1 (by rw [rangeV_len]; exact small)) (fun x v _ => ∀ k, x = V.int k -> v = V.int (g k)) (fun _ _ _ _ _ h => h) (fun _ _ => trivial) (fun x hx H' s' Q' q => ?_) fun acc ys H' hacc sm hys pr => ?_
 ·obtain ⟨k, rfl, k0, k1⟩ := mem_rangeV hx
  exact he k k0 k1 H' s' Q' fun H2 s2 => q _ H2 s2 fun k' e => by cases e; rfl
 ·rw [rangeV_num0] at pr
  rw [paired_tab pr] at hys
  exact fin acc H' hacc sm hys
end L2
namespace L2
open PySem PySem.Spec PyProof.Rows
noncomputable def crossedRow (m : Nat) (ns : List Int) : List Int := (num0 (m * (m - 1) / 2 + 1)).map fun k => win ns (k - (m : Int) + 1) m
end L2
namespace L2
open PySem PySem.Spec PyProof.Rows
noncomputable def kinds5 : List Str := ["rounds", "stays", "rises", "highs", "crossed"]
theorem kinds5_cases {kind : Str} (h : kind ∈ kinds5) : kind = "rounds" ∨ kind = "stays" ∨ kind = "rises" ∨ kind = "highs" ∨ kind = "crossed" := by
 unfold kinds5 at h
 simpa using h
noncomputable def rowOf (kind : Str) (m : Nat) (ns : List Int) : List Int :=
 if kind = "crossed" then crossedRow m ns else if kind = "rises" then risesRow m ns else if kind = "stays" then staysRow m ns else roundsRow m ns
noncomputable def rowZ (kind : Str) : Nat -> List Int
 | 0 => [1]
 | n + 1 => rowOf kind (n + 1) (rowZ kind n)
noncomputable def rowsZ (kind : Str) (n : Nat) : List (List Int) := (List.range (n + 1)).map (rowZ kind)
theorem num0_lenZ (n : Nat) : (num0 n).length = n := by simp [num0]
theorem rowsZ_succ (kind : Str) (n : Nat) : rowsZ kind (n + 1) = rowsZ kind n ++ [rowZ kind (n + 1)] := by
 unfold rowsZ
 rw [List.range_succ, List.map_append]
 rfl
theorem rowsZ_len (kind : Str) (n : Nat) : (rowsZ kind n).length = n + 1 := by simp [rowsZ]
end L2
namespace L2
theorem atI_neg1 {α : Type} {xs : List α} (h : 0 < xs.length) : atI xs (-1) = xs[xs.length - 1]? := by
 unfold atI ixN
 rw [if_neg (by decide), if_pos (by (first | lia | omega))]
 show xs[((-1 : Int) + xs.length).toNat]? = _
 rw [show ((-1 : Int) + xs.length).toNat = xs.length - 1 by (first | lia | omega)]
end L2
namespace L2
open PySem PySem.Spec PyProof.Rows
theorem sl_listKK {X : Cx} (K : PySem.W.Frag) (hK : X.K = K) : SlR X (rSlL K) := hK ▸ sl_list
noncomputable def wideZ (n : Nat) (ns : List Int) : List Int := List.replicate (n + 1) 0 ++ ns ++ List.replicate (n * (n + 1) + 2) 0
theorem wideZ_len (n : Nat) (ns : List Int) : (wideZ n ns).length = n + 1 + ns.length + (n * (n + 1) + 2) := by
 unfold wideZ
 rw [List.length_append, List.length_append, List.length_replicate, List.length_replicate]
theorem getD_rep0 (k j : Nat) : (List.replicate k (0 : Int)).getD j 0 = 0 := by
 rw [List.getD_eq_getElem?_getD, List.getElem?_replicate]
 split <;> rfl
theorem getD_app (a b : List Int) (j : Nat) : (a ++ b).getD j 0 = if j < a.length then a.getD j 0 else b.getD (j - a.length) 0 := by
 simp only [List.getD_eq_getElem?_getD]
 split
 ·rw [List.getElem?_append_left (by assumption)]
 ·rw [List.getElem?_append_right (by (first | lia | omega))]
theorem wideZ_get (n : Nat) (ns : List Int) (j : Nat) : (wideZ n ns).getD j 0 = atZ ns ((j : Int) - ((n : Int) + 1)) := by
 unfold wideZ
 rw [List.append_assoc, getD_app, List.length_replicate]
 split
 ·rw [getD_rep0, atZ_lt (by (first | lia | omega))]
 ·rw [getD_app]
  split
  ·rw [<- atZ_in (by (first | lia | omega))]
   congr 1
   (first | lia | omega)
  ·rw [getD_rep0, atZ_ge (by (first | lia | omega))]
theorem getD_drop (xs : List Int) (d j : Nat) : (xs.drop d).getD j 0 = xs.getD (d + j) 0 := by
 simp only [List.getD_eq_getElem?_getD, List.getElem?_drop]
theorem wide_row {n : Nat} {ns : List Int} {k : Int} (h : 0 <= k) : ((wideZ n ns).drop (n + 1)).getD k.toNat 0 = atZ ns k := by
 rw [getD_drop, wideZ_get]
 congr 1
 (first | lia | omega)
theorem wide_lower {n : Nat} {ns : List Int} {k : Int} (h : 0 <= k) : ((wideZ n ns).drop n).getD k.toNat 0 = atZ ns (k - 1) := by
 rw [getD_drop, wideZ_get]
 congr 1
 (first | lia | omega)
theorem win_congr {ns ms : List Int} {a b : Int} : ∀ n : Nat, (∀ i : Nat, i < n -> atZ ns (a + (i : Int)) = atZ ms (b + (i : Int))) -> win ns a n = win ms b n
 | 0, _ => by simp [win]
 | n + 1, h => by rw [win_succ, win_succ, win_congr n (fun i hi => h i (by (first | lia | omega))), h n (by (first | lia | omega))]
theorem win_wide (n : Nat) (ns : List Int) (lo : Nat) (m : Nat) : win (wideZ n ns) (lo : Int) m = win ns ((lo : Int) - ((n : Int) + 1)) m := by
 refine win_congr m fun i _ => ?_
 rw [<- atZ_in (ns := wideZ n ns) (by (first | lia | omega)), wideZ_get]
 congr 1
 (first | lia | omega)
theorem rep_flat (k : Nat) (x : V) : (List.replicate k [x]).flatten = List.replicate k x := by
 induction k with
 | zero => rfl
 | succ k ih => rw [List.replicate_succ, List.flatten_cons, ih]; rfl
end L2
namespace L2
open PySem PySem.Spec PyProof.Rows
end L2
namespace L2
open PySem PySem.Spec PyProof.Rows
theorem GDict.of {K : PySem.W.Frag} {P : Params} {C : Addr} {kvs : List (Str × Addr)} {es : Array DictEntry} {n : Nat} (l : K.lookup C = some { cls := .type "dict", data := .dict es n }) (en : Ents P es.toList kvs) (nd : (kvs.map (·.1)).Nodup) : GDict K P C kvs := ⟨⟨es, n, l, en⟩, nd⟩
theorem CalF.of {P : Program} {w : World} {K : PySem.W.Frag} {mg : Str -> Option Value} {base : Heap} {k k' : Nat} {x : Str} {f : Addr} {ps : List Str} {sp : Sp} (C : Cal P w K mg base k x ps sp) (h : mg x = some (.ref f)) (hk : k <= k') : CalF P w K mg base k' f ps sp := by
 obtain ⟨f', fd, F, hm, kp, hb⟩ := C.ex
 rw [h] at hm
 cases hm
 exact ⟨fd, F.mono hk, kp, hb⟩
theorem sqT_ofK {K : PySem.W.Frag} {a : Addr} {xs : List V} {its : Array Value} {n : Nat} (l : K.lookup a = some { cls := .type "tuple", data := .seq its n }) (hz : its.size <= sizeLine) (r : Vals xs its.toList) : ∀ H, SqT K H a xs := fun _ => .inr ⟨_, its, n, l, rfl, rfl, hz, r⟩
end L2
namespace L2
open PySem PySem.Spec PyProof.Rows
structure TopX (mg : Str -> Option Value) : Prop where
 n_str : mg "str" = none
 n_repr : mg "repr" = none
 n_divmod : mg "divmod" = none
structure TopXK (K : PySem.W.Frag) : Prop where
 k_str : PySem.W.nsIn K mainGlobals "str" = some none
 k_repr : PySem.W.nsIn K mainGlobals "repr" = some none
 k_divmod : PySem.W.nsIn K mainGlobals "divmod" = some none
theorem TopXK.top {K : PySem.W.Frag} {h : Heap} {mg : Str -> Option Value} (T : TopXK K) (X : K.In h) (G : h.Ns mainGlobals mg) : TopX mg :=
 ⟨PySem.W.mg_none_of X G T.k_str, PySem.W.mg_none_of X G T.k_repr, PySem.W.mg_none_of X G T.k_divmod⟩
end L2
namespace L2
open PySem PySem.Spec PyProof.Rows
end L2
namespace L2
open PySem PySem.Spec PyProof.Rows
end L2
namespace L2
open PySem PySem.Spec PyProof.Rows
end L2
namespace L2
open PySem PySem.Spec PyProof.Rows
theorem bulk_ints : ∀ ns : List Int, PyData.bulkAll (ns.map PyData.int) = ns.length
 | [] => rfl
 | n :: r => by simp only [List.map_cons, PyData.bulkAll, PyData.bulk, bulk_ints r, List.length_cons]; (first | lia | omega)
end L2
namespace L2
open PySem PySem.Spec PyProof.Rows
end L2
namespace L2
open PySem PySem.Spec PyProof.Rows
section
variable {κ : Type} [DecidableEq κ]
end
section
variable {P : Program} {w : World} {H : Hp} {h : Heap} {a : Addr}
end
section
variable {X : Cx} {pins : List (Addr × Obj)} {σ : St} {H : Hp} {s : Shared} {a : Addr} {y v : V} {u r : Value} {o : Option V} {A : Around} {E : Value -> Shared -> Prop}
end
section
variable {X : Cx} {pins : List (Addr × Obj)} {σ : St} {H : Hp} {s : Shared} {a : Addr} {kvs : List (Key × V)} {k : Key} {u : Value} {A : Around} {E : Value -> Shared -> Prop}
end
section
variable {X : Cx} {o i e value : Expr} {pos pos' tpos : Pos} {td ty tv : TE}
end
section
variable {X : Cx} {pos : Pos}
end
structure M1 (X : Cx) (o : Expr) (m : Str) (apos : Pos) (e : Expr) (cpos : Pos) : Prop where
 base : attributeBase o m X.env (eval o X.env) = eval o X.env
 few : ((backTo cpos (starEach [e] X.env)).all (fun x => !x.1) && (backToKw cpos (keywordEach [] X.env)).all (fun x => x.1.isSome)
  && decide (([e] : List Expr).length + ([] : List Keyword).length + (if ([] : List Keyword).isEmpty then 0 else 1) < 30)) = true
 line : (apos.endLine == cpos.line) = true
 trees : backTo cpos (starEach [e] X.env) = [(false, eval e X.env)]
structure M2 (X : Cx) (o : Expr) (m : Str) (apos : Pos) (e f : Expr) (cpos : Pos) : Prop where
 base : attributeBase o m X.env (eval o X.env) = eval o X.env
 few : ((backTo cpos (starEach [e, f] X.env)).all (fun x => !x.1) && (backToKw cpos (keywordEach [] X.env)).all (fun x => x.1.isSome)
  && decide (([e, f] : List Expr).length + ([] : List Keyword).length + (if ([] : List Keyword).isEmpty then 0 else 1) < 30)) = true
 line : (apos.endLine == cpos.line) = true
 trees : backTo cpos (starEach [e, f] X.env) = [(false, eval e X.env), (false, eval f X.env)]
section
variable {X : Cx} {pins : List (Addr × Obj)} {σ : St} {H : Hp} {s : Shared} {a : Addr} {y d : V} {u r : Value} {o : Option V} {A : Around} {E : Value -> Shared -> Prop}
end
section
variable {X : Cx} {o e f : Expr} {apos cpos : Pos} {td ty tx : TE}
end
section
variable {X : Cx} {pins : List (Addr × Obj)} {σ : St} {H : Hp} {s : Shared} {a : Addr} {kvs : List (Key × V)} {A : Around} {E : Value -> Shared -> Prop}
end
section
variable {X : Cx} {pins : List (Addr × Obj)} {σ : St} {H : Hp} {s : Shared} {a : Addr} {y : V} {u : Value} {A : Around} {E : Value -> Shared -> Prop}
end
end L2
namespace L2
open PySem PySem.Spec PyProof.Rows
noncomputable def kD : Key -> PyData
 | .inl i => .int i
 | .inr x => .str x
mutual
inductive IsY (S : Addr -> Prop) (H : Hp) : V -> PyData -> Prop
 | non : IsY S H .non .none
 | bl (b : Bool) : IsY S H (.bl b) (.bool b)
 | int (i : Int) : IsY S H (.int i) (.int i)
 | str (x : Str) : IsY S H (.str x) (.str x)
 | tup {a : Addr} {vs : List V} {ds : List PyData} : H a = some (.tup vs) -> IsAllY S H vs ds -> IsY S H (.ref a) (.tuple ds)
 | lst {a : Addr} {vs : List V} {ds : List PyData} : H a = some (.lst vs) -> S a -> IsAllY S H vs ds -> IsY S H (.ref a) (.list ds)
 | d0 {a : Addr} : H a = some (.dK []) -> IsY S H (.ref a) (.dict [])
 | d1 {a : Addr} {k : Key} {v : V} {d : PyData} : H a = some (.dK [(k, v)]) -> IsY S H v d -> IsY S H (.ref a) (.dict [(kD k, d)])
inductive IsAllY (S : Addr -> Prop) (H : Hp) : List V -> List PyData -> Prop
 | nil : IsAllY S H [] []
 | cons {v : V} {vs : List V} {d : PyData} {ds : List PyData} : IsY S H v d -> IsAllY S H vs ds -> IsAllY S H (v :: vs) (d :: ds)
end
noncomputable def tyD : PyData -> String
 | .none => "NoneType" | .bool _ => "bool" | .int _ => "int" | .str _ => "str" | .list _ => "list" | .tuple _ => "tuple" | .dict _ => "dict"
noncomputable def kinds7 : List String := ["NoneType", "bool", "int", "str", "list", "tuple", "dict"]
theorem tyD_in (d : PyData) : tyD d ∈ kinds7 := by cases d <;> simp [tyD, kinds7]
theorem IsY.ty {K : PySem.W.Frag} {S : Addr -> Prop} {H : Hp} {v : V} {d : PyData} (h : IsY S H v d) : TyOf K H v (.type (tyD d)) := by
 cases h with
 | non => exact .non
 | bl b => exact .bl b
 | int i => exact .int i
 | str x => exact .str x
 | tup e _ => exact .tup e
 | lst e _ _ => exact .lst e
 | d0 e => exact .dK e
 | d1 e _ => exact .dK e
theorem kit7 {K : PySem.W.Frag} {t : String} (h : t ∈ kinds7) :
  PySem.W.kitOne K (.type t) (.type "int") = some (t == "bool" || t == "int") /\ PySem.W.kitOne K (.type t) (.type "bool") = some (t == "bool") /\ PySem.W.kitOne K (.type t) (.type "tuple") = some (t == "tuple") := by
 have : t = "NoneType" ∨ t = "bool" ∨ t = "int" ∨ t = "str" ∨ t = "list" ∨ t = "tuple" ∨ t = "dict" := by simpa [kinds7] using h
 rcases this with rfl | rfl | rfl | rfl | rfl | rfl | rfl <;> exact ⟨kit_tt (by decide +kernel), kit_tt (by decide +kernel), kit_tt (by decide +kernel)⟩
mutual
theorem IsY.map {S S' : Addr -> Prop} {H H' : Hp} (hS : ∀ a, S a -> S' a) (ht : ∀ a xs, H a = some (.tup xs) -> H' a = some (.tup xs)) (hl : ∀ a xs, S a -> H a = some (.lst xs) -> H' a = some (.lst xs)) (hd : ∀ a xs, H a = some (.dK xs) -> H' a = some (.dK xs)) : ∀ {v : V} {d : PyData}, IsY S H v d -> IsY S' H' v d
 | _, _, .non => .non
 | _, _, .bl b => .bl b
 | _, _, .int i => .int i
 | _, _, .str x => .str x
 | _, _, .tup e al => .tup (ht _ _ e) (IsAllY.map hS ht hl hd al)
 | _, _, .lst e s al => .lst (hl _ _ s e) (hS _ s) (IsAllY.map hS ht hl hd al)
 | _, _, .d0 e => .d0 (hd _ _ e)
 | _, _, .d1 e al => .d1 (hd _ _ e) (IsY.map hS ht hl hd al)
theorem IsAllY.map {S S' : Addr -> Prop} {H H' : Hp} (hS : ∀ a, S a -> S' a) (ht : ∀ a xs, H a = some (.tup xs) -> H' a = some (.tup xs)) (hl : ∀ a xs, S a -> H a = some (.lst xs) -> H' a = some (.lst xs)) (hd : ∀ a xs, H a = some (.dK xs) -> H' a = some (.dK xs)) : ∀ {vs : List V} {ds : List PyData}, IsAllY S H vs ds -> IsAllY S' H' vs ds
 | _, _, .nil => .nil
 | _, _, .cons h t => .cons (IsY.map hS ht hl hd h) (IsAllY.map hS ht hl hd t)
end
theorem IsY.same {S : Addr -> Prop} {H H' : Hp} (s : Same H H') {v : V} {d : PyData} (h : IsY S H v d) : IsY S H' v d := IsY.map (fun _ z => z) (fun a _ => s a _) (fun a _ _ => s a _) (fun a _ => s a _) h
theorem IsAllY.same {S : Addr -> Prop} {H H' : Hp} (s : Same H H') {v : List V} {d : List PyData} (h : IsAllY S H v d) : IsAllY S H' v d := IsAllY.map (fun _ z => z) (fun a _ => s a _) (fun a _ _ => s a _) (fun a _ => s a _) h
theorem IsY.wide {S S' : Addr -> Prop} {H : Hp} (hS : ∀ a, S a -> S' a) {v : V} {d : PyData} (h : IsY S H v d) : IsY S' H v d := IsY.map hS (fun _ _ e => e) (fun _ _ _ e => e) (fun _ _ e => e) h
theorem IsY.keep {S : Addr -> Prop} {H H' : Hp} {p q : Addr} {ps qs : List V} (k : Keep p q H H') (hp : H p = some (.lst ps)) (hq : H q = some (.lst qs)) (hS : ∀ a, S a -> a ≠ p /\ a ≠ q) {v : V} {d : PyData} (h : IsY S H v d) : IsY S H' v d :=
 IsY.map (fun _ z => z) (fun a _ e => k a _ e (ne_of e hp (by intro z; cases z)) (ne_of e hq (by intro z; cases z))) (fun a _ s e => k a _ e (hS a s).1 (hS a s).2) (fun a _ e => k a _ e (ne_of e hp (by intro z; cases z)) (ne_of e hq (by intro z; cases z))) h
theorem IsAllY.append {S : Addr -> Prop} {H : Hp} : ∀ {v w : List V} {d e : List PyData}, IsAllY S H v d -> IsAllY S H w e -> IsAllY S H (v ++ w) (d ++ e)
 | _, _, _, _, .nil, h => h
 | _, _, _, _, .cons a t, h => .cons a (IsAllY.append t h)
theorem IsAllY.ints {S : Addr -> Prop} {H : Hp} : ∀ ns : List Int, IsAllY S H (ns.map V.int) (ns.map PyData.int)
 | [] => .nil
 | n :: r => .cons (.int n) (IsAllY.ints r)
theorem IsAllY.len {S : Addr -> Prop} {H : Hp} : ∀ {v : List V} {d : List PyData}, IsAllY S H v d -> v.length = d.length
 | _, _, .nil => rfl
 | _, _, .cons _ t => by rw [List.length_cons, List.length_cons, IsAllY.len t]
theorem IsAllY.at {S : Addr -> Prop} {H : Hp} : ∀ {v : List V} {d : List PyData} {i : Nat} {x : V}, IsAllY S H v d -> v[i]? = some x -> ∃ e, d[i]? = some e /\ IsY S H x e
 | _, _, _, _, .nil, h => by simp at h
 | _, _, 0, _, .cons a _, h => by
  simp at h
  subst h
  exact ⟨_, rfl, a⟩
 | _, _, i + 1, _, .cons _ t, h => by
  obtain ⟨e, h1, h2⟩ := IsAllY.at (i := i) t (by simpa using h)
  exact ⟨e, by simpa using h1, h2⟩
section
variable {X : Cx} {pins : List (Addr × Obj)} {σ : St} {H : Hp} {s : Shared}
end
end L2
namespace L2
open PySem PySem.Spec PyProof.Rows
end L2
namespace L2
open PySem PySem.Spec PyProof.Rows
end L2
namespace L2
open PySem PySem.Spec PyProof.Rows
end L2
namespace L2
open PySem PySem.Spec PyProof.Rows
theorem op_isnot_bl {X : Cx} : OpR X (compareOp .IsNot) (fun x y H Q => ∃ a b, x = .bl a /\ y = .bl b /\ Q (.bl (!(a == b))) H) := by
 intro pins s σ H x y v u Q I rx ry h
 obtain ⟨a, b, rfl, rfl, q⟩ := h
 cases (show v = Value.bool a from rx)
 cases (show u = Value.bool b from ry)
 refine wpAny_pure ⟨.bl (!(a == b)), H, I, ?_, q⟩
 show Value.bool _ = Value.bool _
 cases a <;> cases b <;> rfl
end L2
namespace L2
open PySem PySem.Spec PyProof.Rows
noncomputable def IB (v : V) (n : Int) : Prop := v = .int n ∨ ∃ b : Bool, v = .bl b /\ n = if b = true then 1 else 0
noncomputable def MxL (vs : List V) (ns : List Int) : Prop := vs.length = ns.length /\ ∀ i v, vs[i]? = some v -> IB v (ns.getD i 0)
theorem MxL.ints (ns : List Int) : MxL (ns.map V.int) ns := by
 refine ⟨by simp, fun i v h => ?_⟩
 rw [List.getElem?_map] at h
 cases e : ns[i]? with
 | none => rw [e] at h; cases h
 | some n =>
  rw [e] at h
  cases h
  exact .inl (by rw [List.getD_eq_getElem?_getD, e]; rfl)
theorem MxL.app {a b : List V} {m n : List Int} (h : MxL a m) (k : MxL b n) : MxL (a ++ b) (m ++ n) := by
 refine ⟨by rw [List.length_append, List.length_append, h.1, k.1], fun i v e => ?_⟩
 by_cases c : i < a.length
 ·rw [List.getElem?_append_left c] at e
  rw [List.getD_eq_getElem?_getD, List.getElem?_append_left (by rw [<- h.1]; exact c), <- List.getD_eq_getElem?_getD]
  exact h.2 i v e
 ·rw [List.getElem?_append_right (by (first | lia | omega))] at e
  rw [List.getD_eq_getElem?_getD, List.getElem?_append_right (by rw [<- h.1]; (first | lia | omega)), <- List.getD_eq_getElem?_getD, <- h.1]
  exact k.2 _ v e
theorem MxL.drop {a : List V} {m : List Int} (h : MxL a m) (k : Nat) : MxL (a.drop k) (m.drop k) := by
 refine ⟨by rw [List.length_drop, List.length_drop, h.1], fun i v e => ?_⟩
 rw [List.getElem?_drop] at e
 rw [List.getD_eq_getElem?_getD, List.getElem?_drop, <- List.getD_eq_getElem?_getD]
 exact h.2 _ v e
theorem MxL.take {a : List V} {m : List Int} (h : MxL a m) (k : Nat) : MxL (a.take k) (m.take k) := by
 refine ⟨by rw [List.length_take, List.length_take, h.1], fun i v e => ?_⟩
 rw [List.getElem?_take] at e
 rw [List.getD_eq_getElem?_getD, List.getElem?_take]
 by_cases c : i < k
 ·rw [if_pos c] at e
  rw [if_pos c, <- List.getD_eq_getElem?_getD]
  exact h.2 i v e
 ·rw [if_neg c] at e
  cases e
theorem MxL.at {vs : List V} {ns : List Int} (h : MxL vs ns) {i : Int} (h0 : 0 <= i) (h1 : i < vs.length) : ∃ v, atI vs i = some v /\ IB v (ns.getD i.toNat 0) := by
 have hi : i.toNat < vs.length := by (first | lia | omega)
 refine ⟨vs[i.toNat], ?_, h.2 _ _ (List.getElem?_eq_getElem hi)⟩
 have := atI_nat (xs := vs) (List.getElem?_eq_getElem hi)
 rwa [show ((i.toNat : Nat) : Int) = i by (first | lia | omega)] at this
theorem walksS_list {prog : Program} {w : World} {A : Around} (hh : A.handled = none) (I ax : Addr) (hne : ax ≠ I) (items : Array Value) :
  WalksS prog w A I [I, ax] [I] (fun a b => a = b) items.size (fun i v => items[i]? = some v) (fun i s => s.heap.IsListIter I ax i /\ s.heap.IsList ax items) where
 sub := fun b hb => by rw [List.mem_singleton.mp hb]; exact List.mem_cons_self
 grefl := fun _ => rfl
 gtrans := fun _ _ _ h k => h.trans k
 frame := fun _ _ _ _ st _ hk => ⟨st.1.at fun o e => hk I (by simp) o e, st.2.at fun o e => hk ax (by simp) o e⟩
 item := fun i s Q E hi st hQ => wpAny_pyNext_list_item st.1 st.2 (x := items[i]) (by simp [hi]) fun h' a b => hQ _ _ (by simp [hi]) ⟨a, st.2.extBut b.extBut hne⟩ ⟨fun c o hc e => b.extBut c o (fun z => hc (by simp [z])) e, rfl, rfl, rfl, Nat.le_refl _⟩
 done := fun s Q E st hQ => wpAny_pyNext_list_end hh st.1 st.2 (by simp) fun h' b => hQ _ ⟨fun c o hc e => b c o (fun z => hc (by simp [z])) e, rfl, rfl, rfl, Nat.le_refl _⟩
 self := fun _ _ _ _ st hQ => wpAny_pyIter_listiter st.1 hQ
theorem preSum_list (val : Nat -> Int) (ns : List Int) (h : ∀ i, i < ns.length -> val i = ns.getD i 0) : ∀ k, k <= ns.length -> preSum val k = (ns.take k).sum
 | 0, _ => rfl
 | k + 1, hk => by
  show preSum val k + val k = _
  rw [preSum_list val ns h k (by (first | lia | omega)), h k (by (first | lia | omega)), List.take_add_one, List.sum_append, List.getElem?_eq_getElem (by (first | lia | omega)), List.getD_eq_getElem?_getD, List.getElem?_eq_getElem (by (first | lia | omega))]
  simp
section
variable {X : Cx}
theorem op_mulM : OpR X (binaryOp .Mult) (fun x y H Q => ∃ i j, x = .int i /\ IB y j /\ CMul i j /\ Q (.int (i * j)) H) := by
 intro pins s σ H x y v u Q I rx ry h
 obtain ⟨i, j, rfl, rfl | ⟨b, rfl, rfl⟩, hc, q⟩ := h
 ·obtain ⟨t, rfl⟩ := rx
  obtain ⟨t', rfl⟩ := ry
  exact mul_int ⟨.int (i * j), H, I.tok _, ⟨_, rfl⟩, q⟩ hc.ok
 ·obtain ⟨t, rfl⟩ := rx
  cases (show u = Value.bool b from ry)
  exact PySem.IntBool.mul_int_bool ⟨.int _, H, I.tok _, ⟨_, rfl⟩, q⟩
theorem op_addM : OpR X (binaryOp .Add) (fun x y H Q => ∃ i j, IB x i /\ y = .int j /\ Q (.int (i + j)) H) := by
 intro pins s σ H x y v u Q I rx ry h
 obtain ⟨i, j, rfl | ⟨b, rfl, rfl⟩, rfl, q⟩ := h
 ·obtain ⟨t, rfl⟩ := rx
  obtain ⟨t', rfl⟩ := ry
  exact add_int ⟨.int (i + j), H, I.tok _, ⟨_, rfl⟩, q⟩
 ·obtain ⟨t, rfl⟩ := ry
  cases (show v = Value.bool b from rx)
  exact PySem.IntBool.add_bool_int ⟨.int _, H, I.tok _, ⟨_, rfl⟩, q⟩
noncomputable def rSumM : List V -> Hp -> VK -> Prop := fun xs H Q => ∃ (l : Addr) (vs : List V) (ns : List Int), xs = [.ref l] /\ H l = some (.lst vs) /\ MxL vs ns /\ Q (.int ns.sum) H
theorem vals_at : ∀ {xs : List V} {us : List Value}, Vals xs us -> ∀ {i : Nat} {u : Value}, us[i]? = some u -> ∃ x, xs[i]? = some x /\ RelV x u
 | _, _, .nil, _, _, h => by cases h
 | _, _, .cons r1 r2, 0, _, h => by cases h; exact ⟨_, rfl, r1⟩
 | _, _, .cons r1 r2, i + 1, _, h => by
  obtain ⟨x, hx, rx⟩ := vals_at r2 h
  exact ⟨x, hx, rx⟩
theorem call_sumM (hc : X.calm = true) : CallR X (.builtin "sum") rSumM := by
 intro pins s σ H xs us Q I rs h
 obtain ⟨l, vs, ns, rfl, hH, mx, q⟩ := h
 obtain ⟨u, rfl, ru⟩ := vals1 rs
 cases (show u = Value.ref l from ru)
 obtain ⟨z, its, n, r, hl, e⟩ := I.lstM hH
 have hL : s.heap.IsList l its.toArray := ⟨_, e, rfl, n, rfl⟩
 have hlt : l < s.heap.objs.size := Heap.lt_size e
 refine call_sum_walkAnyB (wpAny_pyIter_list hL ?_)
 refine ⟨_, _, _, _, _, _, _, fun i => ns.getD i 0, rfl, walksS_list (A := X.A.in1) (I.ok.hd hc) s.heap.objs.size l (Nat.ne_of_lt hlt) its.toArray, ⟨⟨_, Heap.get?_push_size _ rfl, rfl, rfl⟩, hL.push _⟩, fun b hb => ?_, fun i v hv => ?_, fun s' t' mv => ?_⟩
 ·rcases List.mem_cons.mp hb with rfl | hb
  ·show s.heap.objs.size < (s.heap.push _).objs.size
   simp [Heap.push]
  ·rw [List.mem_singleton.mp hb]
   show l < (s.heap.push _).objs.size
   simp only [Heap.push, Array.size_push]
   exact Nat.lt_succ_of_lt hlt
 ·rw [List.getElem?_toArray] at hv
  obtain ⟨x, hx, rx⟩ := vals_at r hv
  rcases mx.2 i x hx with e | ⟨b, e, e2⟩
  ·rw [e] at rx
   obtain ⟨t, rt⟩ := rx
   exact .inl ⟨t, rt⟩
  ·rw [e] at rx
   exact .inr ⟨b, rx, e2⟩
 ·have es : s' = { s with heap := s'.heap, toks := s'.toks } := by
   obtain ⟨_, g, d, o, _⟩ := mv
   cases s'
   cases s
   cases g
   cases d
   cases o
   rfl
  have hs : preSum (fun i => ns.getD i 0) its.toArray.size = ns.sum := by
   rw [List.size_toArray, <- hl, mx.1, preSum_list _ ns (fun _ _ => rfl) _ (Nat.le_refl _), List.take_length]
  rw [hs, es]
  refine ⟨.int ns.sum, H, I.kept (t' := s'.toks) fun b o eb => ?_, ⟨_, rfl⟩, q⟩
  refine mv.heap b o (fun hb => ?_) (Heap.get?_push_of_some _ eb)
  rw [List.mem_singleton.mp hb] at eb
  exact absurd (Heap.lt_size eb) (Nat.lt_irrefl _)
end
end L2
namespace L2
open PySem PySem.Spec PyProof.Rows
end L2
namespace L2
open PySem PySem.Spec PyProof.Rows
end L2
namespace L2
open PySem PySem.Spec PyProof.Rows
open Classical in
noncomputable def Kn (K : PySem.W.Frag) (H : Hp) (y : V) : Prop := ∃ t : String, TyOf K H y (.type t) /\ t ∈ kinds7
theorem IsY.kn {K : PySem.W.Frag} {S : Addr -> Prop} {H : Hp} {x : V} {d : PyData} (h : IsY S H x d) : Kn K H x := ⟨_, h.ty, tyD_in d⟩
theorem tyI {K : PySem.W.Frag} {H : Hp} {y : V} {t : String} (h : TyOf K H y (.type t)) : t = "int" ↔ ∃ n : Int, y = .int n := by
 cases h <;> simp
noncomputable def isIv : V -> Bool
 | .int _ => true
 | _ => false
noncomputable def spWhA (K : PySem.W.Frag) : Sp := fun vs H Q _ => ∃ x, vs = [x] /\ Kn K H x /\ Q (.bl (isIv x)) H
theorem isIv_iff {y : V} : isIv y = true ↔ ∃ n : Int, y = .int n := by
 cases y <;> simp [isIv]
end L2
namespace L2
open PySem PySem.Spec PyProof.Rows
noncomputable def lit : Nat -> Expr -> Option PyData
 | 0, _ => none
 | _ + 1, .Constant .none _ _ => some .none
 | _ + 1, .Constant (.bool b) _ _ => some (.bool b)
 | _ + 1, .Constant (.int i) _ _ => some (.int i)
 | _ + 1, .Constant (.str x) _ _ => some (.str x)
 | _ + 1, .UnaryOp .USub (.Constant (.int i) _ _) _ => some (.int (-i))
 | n + 1, .Tuple es _ _ => if es.length <= 100 then (es.mapM (lit n)).map PyData.tuple else none
 | n + 1, .List es _ => if es.length <= 100 then (es.mapM (lit n)).map PyData.list else none
 | _ + 1, .Dict [] [] _ => some (.dict [])
 | _ + 1, _ => none
theorem IsAllY.wide {S S' : Addr -> Prop} {H : Hp} (hS : ∀ a, S a -> S' a) {v : List V} {d : List PyData} (h : IsAllY S H v d) : IsAllY S' H v d := IsAllY.map hS (fun _ _ e => e) (fun _ _ _ e => e) (fun _ _ e => e) h
end L2
namespace L2
open PySem PySem.Spec PyProof.Rows
theorem lc_growI {J : It} {Ok : Hp -> Prop} {xs : List V} {te : TE} {ix : List Nat} {σ : L2.St} {H1 : Hp} {Q : VK} (Y : Yields J Ok xs) (small : xs.length < sizeLine) (bs : List Bool) (hbs : bs.length = xs.length) (hok : ∀ H, Same H1 H -> Ok H)
  (he : ∀ (i : Nat) (x : V) (b : Bool) (H : Hp), xs[i]? = some x -> bs[i]? = some b -> Same H1 H -> ∀ (QT : VK), (∀ H', Same H H' -> QT (.bl b) H') -> te (some x :: ix.map fun i => σ.getD i none) H QT)
  (fin : ∀ acc H', H1 acc = none -> Same H1 H' -> H' acc = some (.lst (bs.map V.bl)) -> Q (.ref acc) H') :
  LcW J H1 (gName 0) tNoTest te 1 ix σ Q := by
 intro acc ha
 refine ⟨fun i m H => m = xs.length - i /\ i <= xs.length /\ Same H1 H /\ H acc = some (.lst ((bs.take i).map V.bl)), ⟨xs.length, by simp, Nat.zero_le _, same_upd ha, upd_same⟩, ?_⟩
 rintro i m H ⟨rfl, hi, sm, hacc⟩
 have o := hok _ sm
 by_cases hlt : i < xs.length
 ·refine .inr ⟨Y.go i _ o hlt, fun x H' y => ?_⟩
  obtain ⟨rfl, hx⟩ := Y.yld i _ x H' o hlt y
  refine ⟨⟨rfl, fun j v e => ?_⟩, ?_⟩
  ·cases j with
   | zero => cases e
   | succ j => exact e
  ·unfold tNoTest
   dsimp only
   rw [if_pos rfl]
   have hb : bs[i]? = some bs[i] := List.getElem?_eq_getElem (by (first | lia | omega))
   refine he i x bs[i] H' hx hb sm _ (fun H4 s4 => ?_)
   have h4 := s4 _ _ hacc
   refine ⟨_, h4, by rw [List.length_map, List.length_take]; (first | lia | omega), xs.length - (i + 1), by (first | lia | omega), rfl, hlt, fun b o' hb' => ?_, ?_⟩
   ·have hba : b ≠ acc := fun e => by rw [e, ha] at hb'; cases hb'
    rw [upd_ne hba]
    exact s4 b _ (sm b _ hb')
   ·rw [upd_same, List.take_succ, hb, List.map_append]
    rfl
 ·have e : i = xs.length := by (first | lia | omega)
  subst e
  rw [<- hbs, List.take_length] at hacc
  exact .inl ⟨Y.stop _ o, fin acc H ha sm hacc⟩
noncomputable def whD : PyData -> Bool
 | .int _ => true
 | _ => false
noncomputable def wholesD : PyData -> Bool
 | .tuple ds => ds.all whD
 | _ => false
noncomputable def asI : PyData -> Int
 | .int n => n
 | _ => 0
theorem ints_of {S : Addr -> Prop} {H : Hp} : ∀ {vs : List V} {ds : List PyData}, IsAllY S H vs ds -> ds.all whD = true -> vs = (ds.map asI).map V.int
 | _, _, .nil, _ => rfl
 | _, _, .cons (d := d) h t, a => by
  rw [List.all_cons, Bool.and_eq_true] at a
  rw [ints_of t a.2]
  cases h with
  | int i => rfl
  | _ => cases a.1
noncomputable def Sz (n : Nat) (d : PyData) : Prop := d.bulk <= n
theorem bulk_lenY : ∀ ds : List PyData, ds.length <= PyData.bulkAll ds
 | [] => Nat.zero_le _
 | d :: r => by
  have := bulk_lenY r
  simp only [PyData.bulkAll, List.length_cons]; (first | lia | omega)
theorem Sz.tup {n : Nat} {ds : List PyData} (h : Sz n (.tuple ds)) : ds.length <= n /\ ∀ d ∈ ds, Sz n d := by
 have h : PyData.bulkAll ds <= n := by simpa only [Sz, PyData.bulk] using h
 induction ds with
 | nil => exact ⟨Nat.zero_le _, fun _ h => by cases h⟩
 | cons d r ih =>
  simp only [PyData.bulkAll] at h
  have := ih (by simpa only [Sz, PyData.bulk] using (by (first | lia | omega) : PyData.bulkAll r <= n)) (by (first | lia | omega))
  have hl := bulk_lenY r
  refine ⟨by rw [List.length_cons]; (first | lia | omega), fun e he => ?_⟩
  rcases List.mem_cons.mp he with rfl | he
  ·show e.bulk <= n
   (first | lia | omega)
  ·exact this.2 e he
noncomputable def spWhsD : Sp := fun vs H Q _ => ∃ S x d, vs = [x] /\ IsY S H x d /\ Sz 1000 d /\ ∀ H', Same H H' -> Q (.bl (wholesD d)) H'
theorem IsY.isT {S : Addr -> Prop} {H : Hp} {x : V} {d : PyData} (h : IsY S H x d) : (∃ a vs ds, x = .ref a /\ d = .tuple ds /\ H a = some (.tup vs) /\ IsAllY S H vs ds) ∨ (tyD d ≠ "tuple" /\ ∀ ds, d ≠ .tuple ds) := by
 cases h with
 | tup e al => exact .inl ⟨_, _, _, rfl, rfl, e, al⟩
 | _ => exact .inr ⟨(by simp [tyD]), fun _ => (by intro z; cases z)⟩
end L2
namespace L2
open PySem PySem.Spec PyProof.Rows
structure PEw (X : Cx) (e : Expr) (t : TE) : Prop where
 h : PE X e t
structure PAw (X : Cx) (e : List Expr) (t : TA) : Prop where
 h : PA X e t
structure PTw (X : Cx) (e : Expr) (t : TT) : Prop where
 h : PT X e t
structure PWw (X : Cx) (e : Expr) (t : TT) : Prop where
 h : PW X e t
structure PSw (X : Cx) (e : Stmt) (t : TS) : Prop where
 h : PS X e t
structure PSsw (X : Cx) (e : List Stmt) (t : TS) : Prop where
 h : PSs X e t
end L2
namespace Wr
open PySem PySem.Spec PyProof.Rows L2
end Wr
namespace L2
open PySem PySem.Spec PyProof.Rows PySem.SeqAt
open AutoSeq1 (wpAny_loadPart')
section
variable {A : Around} {s : Shared}
end
section
variable {X : Cx} {pins : List (Addr × Obj)} {σ : St} {H : Hp} {s : Shared}
end
section
variable {X : Cx}
end
end L2
namespace L2
open PySem PySem.Spec PyProof.Rows
end L2
namespace L2
open PySem PySem.Spec PyProof.Rows
end L2
namespace L2
open PySem PySem.Spec PyProof.Rows PySem.SeqAt
end L2
namespace L2
open PySem PySem.Spec PyProof.Rows
noncomputable def juE (ns : List Int) : PyData -> Bool
 | .tuple ds => ds.all whD && decide (ds.map asI = ns)
 | _ => false
theorem ints_whE : ∀ {ds : List PyData}, ds.all whD = true -> ds = (ds.map asI).map PyData.int
 | [], _ => rfl
 | d :: r, h => by
  rw [List.all_cons, Bool.and_eq_true] at h
  rw [List.map_cons, List.map_cons, <- ints_whE h.2]
  cases d with
  | int n => rfl
  | _ => cases h.1
theorem juE_eq {ns : List Int} {d : PyData} (h : juE ns d = true) : d = .tuple (ns.map PyData.int) := by
 unfold juE at h
 split at h
 ·rw [Bool.and_eq_true, decide_eq_true_eq] at h
  rw [<- h.2, <- ints_whE h.1]
 ·cases h
noncomputable def spJustK (K : PySem.W.Frag) : Sp := fun vs H Q _ => ∃ (S : Addr -> Prop) (x : V) (d : PyData) (b : Addr) (ns : List Int), vs = [x, .ref b] /\ IsY S H x d /\ Sz 1000 d /\ SqT K H b (ns.map V.int) /\ ∀ H', Same H H' -> Q (.bl (juE ns d)) H'
noncomputable def stepsB (kind : Str) : PyData -> Bool
 | .tuple ds => !ds.isEmpty && (List.range ds.length).all fun i => juE (rowZ kind i) (ds.getD i .none)
 | _ => false
noncomputable def tI (ns : List Int) : PyData := .tuple (ns.map PyData.int)
end L2
namespace L2
open PySem PySem.Spec PyProof.Rows
noncomputable def b15 (kind : Str) : Nat := if kind = "crossed" then 28 else 65
theorem b15_le (kind : Str) : b15 kind <= 65 := by
 unfold b15
 split <;> (first | lia | omega)
noncomputable def spNext15 (K : PySem.W.Frag) : Sp := fun vs H Q _ => ∃ (kind : Str) (m : Nat) (a : Addr) (ns : List Int), vs = [.str kind, .int m, .ref a] /\ kind ∈ kinds5 /\ 1 <= m /\ m <= b15 kind /\ SqT K H a (ns.map V.int) /\ ns.length <= 1000 /\ ∀ p H', Same H H' -> H' p = some (.tup ((rowOf kind m ns).map V.int)) -> Q (.ref p) H'
noncomputable def spBehM (K : PySem.W.Frag) : Sp := fun vs H Q _ => ∃ (kind : Str) (m : Nat) (a : Addr) (us : List V) (ns : List Int), vs = [.str kind, .int m, .ref a] /\ kind ∈ kinds5 /\ 1 <= m /\ m <= b15 kind /\ SqT K H a us /\ MxL us ns /\ ns.length <= 1000 /\ ∀ p H', Same H H' -> H' p = some (.tup ((rowOf kind m ns).map V.int)) -> Q (.ref p) H'
theorem row15_len {kind : Str} {m : Nat} (ns : List Int) (hm : m <= b15 kind) : (rowOf kind m ns).length <= 379 := by
 unfold rowOf
 unfold b15 at hm
 split
 ·rename_i h
  rw [if_pos h] at hm
  unfold crossedRow
  rw [List.length_map, num0_lenZ]
  have : m * (m - 1) <= 28 * 27 := Nat.mul_le_mul hm (by (first | lia | omega))
  (first | lia | omega)
 ·rename_i h
  rw [if_neg h] at hm
  split
  ·unfold risesRow; rw [List.length_map, num0_lenZ]; (first | lia | omega)
  ·split
   ·unfold staysRow; rw [List.length_map, num0_lenZ]; (first | lia | omega)
   ·unfold roundsRow; rw [List.length_map, num0_lenZ]; (first | lia | omega)
theorem rowZ15_len {kind : Str} {n : Nat} (hn : n <= b15 kind) : (rowZ kind n).length <= 379 := by
 cases n with
 | zero => show 1 <= 379; (first | lia | omega)
 | succ n => exact row15_len _ hn
noncomputable def spSteps15 : Sp := fun vs H Q _ => ∃ (S : Addr -> Prop) (x : V) (d : PyData) (kind : Str), vs = [.str kind, x] /\ kind ∈ kinds5 /\ IsY S H x d /\ (∀ ds, d = .tuple ds -> ds.length <= b15 kind + 1 /\ ∀ e ∈ ds, Sz 1000 e) /\ ∀ H', Same H H' -> Q (.bl (stepsB kind d)) H'
noncomputable def wideV (n : Nat) (us : List V) : List V := List.replicate (n + 1) (V.int 0) ++ us ++ List.replicate (n * (n + 1) + 2) (V.int 0)
theorem rep_mx (k : Nat) : MxL (List.replicate k (V.int 0)) (List.replicate k 0) := by
 have := MxL.ints (List.replicate k 0)
 rwa [List.map_replicate] at this
theorem wide_mx {n : Nat} {us : List V} {ns : List Int} (h : MxL us ns) : MxL (wideV n us) (wideZ n ns) := ((rep_mx _).app h).app (rep_mx _)
theorem cutV_fromV (us : List V) (k : Nat) : cutV us (some (k : Int)) none = us.drop k := by
 unfold cutV
 rw [HT.sIx_nat, HT.sIx_none]
 by_cases h : k <= us.length
 ·rw [Nat.min_eq_left h, List.take_of_length_le (by rw [List.length_drop]; exact Nat.le_refl _)]
 ·rw [Nat.min_eq_right (by (first | lia | omega)), List.drop_length, List.drop_of_length_le (by (first | lia | omega)), List.take_nil]
theorem cutV_midV (us : List V) (lo hi : Nat) : cutV us (some (lo : Int)) (some (hi : Int)) = (us.drop lo).take (hi - lo) := by
 unfold cutV
 rw [HT.sIx_nat, HT.sIx_nat]
 by_cases h : lo <= us.length
 ·rw [Nat.min_eq_left h]
  by_cases h2 : hi <= us.length
  ·rw [Nat.min_eq_left h2]
  ·rw [Nat.min_eq_right (by (first | lia | omega)), List.take_of_length_le (by rw [List.length_drop]; exact Nat.le_refl _), List.take_of_length_le (by rw [List.length_drop]; (first | lia | omega))]
 ·rw [show min lo us.length = us.length by (first | lia | omega), List.drop_length, List.drop_of_length_le (by (first | lia | omega)), List.take_nil, List.take_nil]
end L2
namespace L2
open PySem PySem.Spec PyProof.Rows
end L2
namespace K15
open PySem PySem.Spec PyProof.Rows L2
noncomputable def top (i : Nat) : Stmt := PySem.Challenge.pw_shuffletold_k15_steps_looked_at.main.body.getD i (.Pass ⟨0, 0, 0, 0⟩)
end K15
namespace K15
open PySem PySem.Spec PyProof.Rows L2
noncomputable abbrev s__law_pot : Stmt := top 16
noncomputable abbrev s__law_take : Stmt := top 17
section
variable {P : Program} {w : World} {K : PySem.W.Frag} {mg : Str -> Option Value} {base : Heap}
theorem sc__law_pot : FnScope ["_law_script", "_law_seed", "_law_k", "_law_cell", "_law_far", "_law_turn"] ["_law_script"] (defScope s__law_pot) := ⟨rfl, rfl, rfl, by decide +kernel, rfl, by decide +kernel, by decide +kernel⟩
theorem ok__law_pot {f : Addr} {fd : FuncData} (F : Fun K "_law_pot" "_law_pot" s__law_pot f fd) (T : Top mg) : FnOk P w K mg base CX0 1 f fd ["_law_script"] (spPot K) := by
 refine F.ok sc__law_pot (fun vs H Q E h => ?_) (fun cdv A outer s H vs Q E hr h => ?_)
 ·obtain ⟨a, ns, rfl, _⟩ := h
  rfl
 ·obtain ⟨a, ns, rfl, hS, hl, k⟩ := h
  refine ⟨_, (pss_cons (ps_set (i := 1) sc__law_pot.nd rfl (Or.inl rfl) pe_int)
   (pss_cons (ps_for PassesOwn.never rfl (pi_enumL rfl T.n_enumerate (pa_cons (pe_slice sl_list (pv 0) po_none (po_some pe_int)) pa_nil)) (pg_pair (i := 2) (j := 3) rfl sc__law_pot.nd rfl rfl (Or.inl rfl) (Or.inl rfl) (Or.inl rfl) (Or.inl rfl))
    (pss_one (ps_set (i := 1) sc__law_pot.nd rfl (Or.inl rfl) (pe_op op_mod (pe_op op_add (pe_op op_add (pe_op op_add (pe_op op_mul (pv 1) pe_int) (pe_op op_mod (pv 3) (pe_op op_pow pe_int pe_int))) (pe_op op_mul pe_int (pv 2))) pe_int) pe_int))))
   (pss_cons (ps_set (i := 4) sc__law_pot.nd rfl (Or.inr rfl) pe_int)
   (pss_cons (ps_for PassesOwn.never rfl (pi_range1 rfl T.n_range (pa_cons pe_int pa_nil)) (pg_name (i := 5) sc__law_pot.nd rfl (Or.inl rfl))
    (pss_one (ps_set (i := 4) sc__law_pot.nd rfl (Or.inr rfl) (pe_op op_mulW (pv 4) (pe_op op_pow pe_int pe_int)))))
   (pss_one (ps_ret (pe_lst (pa_cons (pe_lc (N' := ["_law_cell", "_law_far"]) (n := 1) (ix := [4]) rfl (CompScope.of (sc := defScope s__law_pot) (N := ["_law_script", "_law_seed", "_law_k", "_law_cell", "_law_far", "_law_turn"]) (by decide +kernel) rfl rfl) (pi_list (pe_slice sl_list (pv 0) po_none (po_some pe_int))) (fun _ _ _ _ _ => ⟨(pg_name (i := 0) (show (["_law_cell", "_law_far"] : List Str).Nodup by decide +kernel) rfl (Or.inl rfl)), (pts_one (pt_cmpR op_ge (pe_callB call_abs (by rfl) T.n_abs boot_abs (pa_cons (pv 0) pa_nil)) (pe_op op_pow pe_int pe_int) (nomark _))), (pe_op op_mod (pe_callB call_abs (by rfl) T.n_abs boot_abs (pa_cons (pv 0) pa_nil)) (pv 1))⟩)) (pa_cons (pv 1) (pa_cons pe_int pa_nil)))))))))), ?_⟩
  have hcut : ∃ ms : List Int, cutV (ns.map V.int) none (some 63) = ms.map V.int /\ ms.length <= 63 := by
   refine ⟨(ns.drop (HT.sIx (ns.map V.int).length 0 none)).take (HT.sIx (ns.map V.int).length (ns.map V.int).length (some 63) - HT.sIx (ns.map V.int).length 0 none), ?_, ?_⟩
   ·unfold cutV
    rw [List.map_take, List.map_drop]
   ·rw [List.length_take, List.length_drop]; (first | lia | omega)
  obtain ⟨ms, ecut, hms⟩ := hcut
  refine ⟨_, rfl, 63, rfl, a, _, rfl, hS, fun p hp => ⟨p, rfl, ⟨_, SqL.of upd_same⟩, ?_⟩⟩
  have s1 := same_upd (o := .lst (cutV (ns.map V.int) none (some 63))) hp
  refine for_enumL (K := K) (a := p) (xs := ms.map V.int) (fun i σ H2 => ∃ (seed : Int) (c2 c3 : Option V), σ = [some (.ref a), some (.int seed), c2, c3, none, none] /\ Same H H2 /\ H2 p = some (.lst (ms.map V.int))) ⟨1000003, none, none, rfl, s1, by rw [upd_same, ecut]⟩ (fun i σ H2 _ h => by obtain ⟨_, _, _, _, _, h⟩ := h; exact SqL.of h) ?_ ?_
  ·rintro i y t σ H2 hi ⟨seed, c2, c3, rfl, sm, hp2⟩ ht
   obtain ⟨z, _, rfl⟩ := List.mem_map.mp (List.mem_of_getElem? hi)
   have st := same_upd (o := .tup [.int (i : Int), .int z]) ht
   refine ⟨t, _, rfl, SqT.of upd_same, rfl, _, _, rfl, _, _, rfl, rfl, ?_⟩
   refine ⟨_, rfl, _, _, rfl, rfl, .inr ⟨by decide, by decide⟩, _, rfl, _, _, rfl, rfl, ⟨by decide, by decide, by decide⟩, _, _, rfl, rfl, (by show (0 : Int) < 10 ^ (40 : Int).toNat; decide), _, _, rfl, rfl, _, rfl, _, _, rfl, rfl, .inl ⟨by decide, by decide⟩, _, _, rfl, rfl, _, _, rfl, rfl, _, _, rfl, rfl, (by show (0 : Int) < 2305843009213693951; decide), ?_⟩
   exact ⟨_, _, _, rfl, sm.trans st, st _ _ hp2⟩
  ·rintro σ H2 ⟨seed, c2, c3, rfl, sm, hp2⟩
   refine ⟨15, rfl, by decide, by decide, ?_⟩
   refine for_range (n := 15) (fun i σ H3 => ∃ c5 : Option V, σ = [some (.ref a), some (.int seed), c2, c3, some (.int (((10 : Int) ^ (60 : Int).toNat) ^ i)), c5] /\ Same H H3) ⟨none, rfl, sm⟩ ?_ ?_
   ·rintro i σ H3 hi ⟨c5, rfl, sm3⟩
    refine ⟨_, rfl, _, _, rfl, rfl, ⟨by decide, by decide, by decide⟩, _, _, rfl, rfl, bits_far i (by (first | lia | omega)), ?_⟩
    refine ⟨some (.int (0 + (i : Int))), ?_, sm3⟩
    rw [Int.pow_succ]
    rfl
   ·rintro σ H3 ⟨c5, rfl, sm3⟩
    refine ⟨_, rfl, 63, rfl, a, _, rfl, sm3.seq hS, fun p' hp' => ⟨p', rfl, ⟨_, SqL.of upd_same⟩, ?_⟩⟩
    have u1 := same_upd (o := .lst (cutV (ns.map V.int) none (some 63))) hp'
    rw [ecut]
    have hfar : (0 : Int) < ((10 : Int) ^ (60 : Int).toNat) ^ 15 := Int.pow_pos (Int.pow_pos (by decide))
    refine lc_pure (yields_list (xs := ms.map V.int)) (small1 (by rw [mapI_len]; (first | lia | omega))) (fun v => match v with | .int n => decide (10 ^ (18 : Int).toNat <= (if n < 0 then -n else n)) | _ => false) (fun v => match v with | .int n => .int ((if n < 0 then -n else n) % ((10 : Int) ^ (60 : Int).toNat) ^ 15) | v => v) (fun H' s' => SqL.of (s' _ _ upd_same)) (fun x hx H' s' Q' q => ?_) (fun x hx _ H' s' Q' q => ?_) fun acc hacc => ?_
    ·obtain ⟨n, _, rfl⟩ := List.mem_map.mp hx
     exact ⟨_, rfl, n, rfl, _, _, rfl, rfl, ⟨by decide, by decide, by decide⟩, _, _, rfl, rfl, _, rfl, q⟩
    ·obtain ⟨n, _, rfl⟩ := List.mem_map.mp hx
     exact ⟨_, rfl, n, rfl, _, rfl, _, _, rfl, rfl, hfar, q⟩
    ·refine ⟨_, rfl, (by show 3 <= sizeLine; decide), fun r hr' => ?_⟩
     have nacc : r ≠ acc := fun z => by rw [z, upd_same] at hr'; cases hr'
     have u1' := same_upd (o := .lst (ms.map V.int)) hp'
     have hacc1 : H acc = none := sm3.free (u1'.free hacc)
     have hr1 : H r = none := sm3.free (u1'.free ((same_upd hacc).free hr'))
     refine k r acc _ ?_ ?_ hr1 hacc1
     ·exact ((sm3.trans u1').trans (same_upd hacc)).trans (same_upd hr')
     ·refine ⟨(ms.filter fun n => decide (10 ^ (18 : Int).toNat <= (if n < 0 then -n else n))).map fun n => (if n < 0 then -n else n) % ((10 : Int) ^ (60 : Int).toNat) ^ 15, seed, 0, upd_same, ?_, fun n hn => ?_, ?_⟩
      ·rw [upd_ne (Ne.symm nacc), upd_same, List.filter_map, List.map_map, List.map_map]
       rfl
      ·obtain ⟨c, _, rfl⟩ := List.mem_map.mp hn
       exact Int.emod_nonneg _ (by (first | lia | omega))
      ·rw [List.length_map]
       exact Nat.le_trans (List.length_filter_le _ _) hms
end
end K15
namespace K15
open PySem PySem.Spec PyProof.Rows L2
section
variable {P : Program} {w : World} {K : PySem.W.Frag} {mg : Str -> Option Value} {base : Heap}
theorem ixN_nat {n j : Nat} (h : j < n) : ixN n (j : Int) = some j := by
 unfold ixN
 rw [if_pos (by (first | lia | omega)), if_pos (by (first | lia | omega))]
 rfl
theorem neNil {H : Hp} {q e : Addr} {ns : List Int} {Q : VK} (hq : H q = some (.lst (ns.map V.int))) (he : H e = none) (h : Q (.bl (!ns.isEmpty)) (upd H e (.lst []))) : rNeD (.ref q) (.ref e) (upd H e (.lst [])) Q := by
 refine ⟨_, _, .lst (by rw [upd_ne (ne_of_none hq he)]; exact hq) (IsAll.ints ns), .lst upd_same .nil, shaped_lints ns, shaped_lints [], ?_⟩
 have e1 : PyData.eqv (.list (ns.map PyData.int)) (.list []) = ns.isEmpty := by
  show PyData.eqvAll (ns.map PyData.int) [] = _
  cases ns with
  | nil => simp [PyData.eqvAll]
  | cons a r => simp [PyData.eqvAll]
 rw [e1]
 exact h
theorem sc__law_take : FnScope ["_law_pot_here", "_law_many", "_law_number", "_law_high"] ["_law_pot_here", "_law_many"] (defScope s__law_take) := ⟨rfl, rfl, rfl, by decide +kernel, rfl, by decide +kernel, by decide +kernel⟩
theorem ok__law_take {f : Addr} {fd : FuncData} (F : Fun K "_law_take" "_law_take" s__law_take f fd) : FnOk P w K mg base CX0 1 f fd ["_law_pot_here", "_law_many"] spTake := by
 refine F.ok sc__law_take (fun vs H Q E h => ?_) (fun cdv A outer s H vs Q E hr h => ?_)
 ·obtain ⟨p, q, m, rfl, _⟩ := h
  rfl
 ·obtain ⟨p, q, m, rfl, hm0, hm1, hh, k⟩ := h
  have hu : _ := hr.units
  refine ⟨_, (pss_cons (ps_while PassesOwn.never (PW.pt (pw_and (pt_cmpR (op_neD hu) (pe_ix ix_list (pv 0) pe_int (fun _ _ => rfl)) (pe_lst pa_nil) (nomark _)) (pw_and1 (pt_cmpR op_eq (pe_ix ix_list (pe_ix ix_list (pv 0) pe_int (fun _ _ => rfl)) pe_int (fun _ _ => rfl)) pe_int (nomark _)))))
    (pss_one (ps_expr (pe_bm PySem.F.plainAttrs_list PySem.F.slot_list_pop PySem.F.type_list_pop mt_popAt (pe_ix ix_list (pv 0) pe_int (fun _ _ => rfl)) (pa_cons pe_int pa_nil)))))
   (pss_cons (ps_if (pt_cmpR (op_neD hu) (pe_ix ix_list (pv 0) pe_int (fun _ _ => rfl)) (pe_lst pa_nil) (nomark _))
    (pss_cons (ps_set (i := 2) sc__law_take.nd rfl (Or.inl rfl) (pe_ix ix_list (pe_ix ix_list (pv 0) pe_int (fun _ _ => rfl)) pe_int (fun _ _ => rfl)))
    (pss_cons (ps_asg (pe_op op_fdiv (pv 2) (pv 1)) (pg_sub (pe_ix ix_list (pv 0) pe_int (fun _ _ => rfl)) pe_int set_list))
    (pss_one (ps_ret (pe_op op_mod (pv 2) (pv 1))))))
    pss_nil)
   (pss_cons (ps_asg (pe_op op_add (pe_ix ix_list (pv 0) pe_int (fun _ _ => rfl)) pe_int) (pg_sub (pv 0) pe_int set_list))
   (pss_cons (ps_asg (pe_op op_mod (pe_op op_mul (pe_ix ix_list (pv 0) pe_int (fun _ _ => rfl)) pe_int) pe_int) (pg_sub (pv 0) pe_int set_list))
   (pss_cons (ps_asg (pe_op op_mod (pe_op op_add (pe_op op_add (pe_ix ix_list (pv 0) pe_int (fun _ _ => rfl)) (pe_op op_mul pe_int (pe_ix ix_list (pv 0) pe_int (fun _ _ => rfl)))) pe_int) pe_int) (pg_sub (pv 0) pe_int set_list))
   (pss_cons (ps_set (i := 3) sc__law_take.nd rfl (Or.inl rfl) (pe_op op_fdiv (pe_ix ix_list (pv 0) pe_int (fun _ _ => rfl)) pe_int))
   (pss_one (ps_ret (pe_op op_mod (pe_op op_add (pe_op op_mul (pv 3) (pe_op op_add (pe_op op_mod (pv 3) pe_int) pe_int)) (pe_op op_fdiv (pv 3) pe_int)) (pv 1)))))))))), ?_⟩
  refine ⟨fun n σ H1 => ∃ (ns : List Int) (seed turn : Int), n = ns.length /\ σ = [some (.ref p), some (.int m), none, none] /\ H1 p = some (.lst [.ref q, .int seed, .int turn]) /\ H1 q = some (.lst (ns.map V.int)) /\ (∀ n ∈ ns, 0 <= n) /\ ns.length <= 63 /\ Keep p q H H1, ?_, ?_⟩
  ·obtain ⟨ns, seed, turn, h1, h2, h3, h4⟩ := hh
   exact ⟨_, ns, seed, turn, rfl, rfl, h1, h2, h3, h4, Keep.refl _ _ _⟩
  rintro n σ H1 ⟨ns, seed, turn, rfl, rfl, hp, hq, hn, hlen, kp⟩
  refine ⟨_, rfl, p, _, 0, _, rfl, rfl, SqL.of hp, atI_nat (j := 0) rfl, Nat.zero_le _, fun e he => neNil hq he ⟨_, rfl, ?_⟩⟩
  have hnpq : p ≠ q := Pot.ne ⟨ns, seed, turn, hp, hq, hn, hlen⟩
  have hp1 : (upd H1 e (.lst [])) p = some (.lst [.ref q, .int seed, .int turn]) := by rw [upd_ne (ne_of_none hp he)]; exact hp
  have hq1 : (upd H1 e (.lst [])) q = some (.lst (ns.map V.int)) := by rw [upd_ne (ne_of_none hq he)]; exact hq
  have kp1 : Keep p q H (upd H1 e (.lst [])) := kp.trans (same_upd he).keep
  cases ns with
  | nil =>
   refine iteF ?_
   refine iteF ?_
   refine ⟨_, rfl, p, _, 0, _, rfl, rfl, SqL.of hp1, atI_nat (j := 0) rfl, Nat.zero_le _, fun e' he' => neNil hq1 he' ⟨_, rfl, ?_⟩⟩
   have hp3 : (upd (upd H1 e (.lst [])) e' (.lst [])) p = some (.lst [.ref q, .int seed, .int turn]) := by rw [upd_ne (ne_of_none hp1 he')]; exact hp1
   have hq3 : (upd (upd H1 e (.lst [])) e' (.lst [])) q = some (.lst (([] : List Int).map V.int)) := by rw [upd_ne (ne_of_none hq1 he')]; exact hq1
   have kp3 : Keep p q H (upd (upd H1 e (.lst [])) e' (.lst [])) := kp1.trans (same_upd he').keep
   refine iteF ?_
   refine ⟨_, rfl, p, _, 2, _, rfl, rfl, SqL.of hp3, atI_nat (j := 2) rfl, _, _, rfl, rfl, _, rfl, p, _, 2, 2, rfl, rfl, hp3, rfl, ?_⟩
   refine ⟨_, rfl, p, _, 1, _, rfl, rfl, SqL.of upd_same, atI_nat (j := 1) rfl, _, _, rfl, rfl, .inr ⟨by decide, by decide⟩, _, _, rfl, rfl, (by show (0 : Int) < 2305843009213693951; decide), _, rfl, p, _, 1, 1, rfl, rfl, upd_same, rfl, ?_⟩
   refine ⟨_, rfl, p, _, 1, _, rfl, rfl, SqL.of upd_same, atI_nat (j := 1) rfl, _, rfl, p, _, 2, _, rfl, rfl, SqL.of upd_same, atI_nat (j := 2) rfl, _, _, rfl, rfl, .inl ⟨by decide, by decide⟩, _, _, rfl, rfl, _, _, rfl, rfl, _, _, rfl, rfl, (by show (0 : Int) < 2305843009213693951; decide), _, rfl, p, _, 1, 1, rfl, rfl, upd_same, rfl, ?_⟩
   refine ⟨_, rfl, p, _, 1, _, rfl, rfl, SqL.of upd_same, atI_nat (j := 1) rfl, _, _, rfl, rfl, ⟨by decide, by decide⟩, ?_⟩
   refine ⟨_, rfl, _, rfl, _, _, rfl, rfl, (by show (0 : Int) < 1021; decide), _, _, rfl, rfl, _, _, rfl, rfl, .inr ?_, _, rfl, _, _, rfl, rfl, ⟨by decide, by decide⟩, _, _, rfl, rfl, _, rfl, _, _, rfl, rfl, hm0, ?_⟩
   ·refine ⟨?_, ?_⟩
    ·exact Int.lt_of_lt_of_le (by decide) (Int.add_le_add (Int.emod_nonneg _ (by decide)) (Int.le_refl 2))
    ·exact Int.lt_trans (Int.add_lt_add_right (Int.emod_lt_of_pos _ (by decide : (0 : Int) < 1021)) 2) (by decide)
   ·refine k _ _ (Int.emod_nonneg _ (by (first | lia | omega))) (Int.emod_lt_of_pos _ hm0) ⟨[], _, _, upd_same, by rw [upd_ne (Ne.symm hnpq), upd_ne (Ne.symm hnpq), upd_ne (Ne.symm hnpq)]; exact hq3, hn, by simp⟩ ?_
    exact kp3.trans fun b o hb h1 _ => by rw [upd_ne h1, upd_ne h1, upd_ne h1]; exact hb
  | cons x r =>
   refine iteT ?_
   refine ⟨_, rfl, p, _, 0, _, rfl, rfl, SqL.of hp1, atI_nat (j := 0) rfl, q, _, 0, _, rfl, rfl, SqL.of hq1, atI_nat (j := 0) rfl, rfl, _, rfl, ?_⟩
   refine ite2 (fun hz => ?_) (fun hz => ?_)
   ·refine ⟨fun σ' H' => ∃ (ns : List Int) (seed turn : Int), ns.length < (x :: r).length /\ σ' = [some (.ref p), some (.int m), none, none] /\ H' p = some (.lst [.ref q, .int seed, .int turn]) /\ H' q = some (.lst (ns.map V.int)) /\ (∀ n ∈ ns, 0 <= n) /\ ns.length <= 63 /\ Keep p q H H', ?_, ?_⟩
    ·rintro σ' H' ⟨ns', seed', turn', hlt, h1, h2, h3, h4, h5, h6⟩
     exact ⟨_, hlt, ns', seed', turn', rfl, h1, h2, h3, h4, h5, h6⟩
    ·refine ⟨_, rfl, p, _, 0, _, rfl, rfl, SqL.of hp1, atI_nat (j := 0) rfl, .inl ⟨rfl, _, SqL.of hq1⟩, q, _, 0, 0, _, rfl, rfl, hq1, by decide, by decide, (by simp [seqIndex?]), rfl, ?_⟩
     refine ⟨r, seed, turn, by simp, rfl, by rw [upd_ne hnpq]; exact hp1, by rw [upd_same]; rfl, fun y hy => hn y (List.mem_cons_of_mem _ hy), by have : (x :: r).length = r.length + 1 := rfl; (first | lia | omega), ?_⟩
     exact kp1.trans fun b o hb _ h2 => by rw [upd_ne h2]; exact hb
   ·refine ⟨_, rfl, p, _, 0, _, rfl, rfl, SqL.of hp1, atI_nat (j := 0) rfl, Nat.zero_le _, fun e' he' => neNil hq1 he' ⟨_, rfl, ?_⟩⟩
    have hp3 : (upd (upd H1 e (.lst [])) e' (.lst [])) p = some (.lst [.ref q, .int seed, .int turn]) := by rw [upd_ne (ne_of_none hp1 he')]; exact hp1
    have hq3 : (upd (upd H1 e (.lst [])) e' (.lst [])) q = some (.lst ((x :: r).map V.int)) := by rw [upd_ne (ne_of_none hq1 he')]; exact hq1
    have kp3 : Keep p q H (upd (upd H1 e (.lst [])) e' (.lst [])) := kp1.trans (same_upd he').keep
    refine iteT ?_
    have hx0 : 0 <= x := hn x List.mem_cons_self
    refine ⟨_, rfl, p, _, 0, _, rfl, rfl, SqL.of hp3, atI_nat (j := 0) rfl, q, _, 0, _, rfl, rfl, SqL.of hq3, atI_nat (j := 0) rfl, ?_⟩
    refine ⟨_, rfl, _, rfl, _, _, rfl, rfl, ⟨hm0, hm1⟩, _, rfl, p, _, 0, _, rfl, rfl, SqL.of hp3, atI_nat (j := 0) rfl, q, _, 0, 0, rfl, rfl, hq3, ixN_nat (j := 0) (by simp), ?_⟩
    refine ⟨_, rfl, _, rfl, _, _, rfl, rfl, hm0, ?_⟩
    refine k _ _ (Int.emod_nonneg _ (by (first | lia | omega))) (Int.emod_lt_of_pos _ hm0) ⟨(x / m) :: r, seed, turn, by rw [upd_ne hnpq]; exact hp3, by rw [upd_same]; rfl, fun y hy => ?_, by simpa using hlen⟩ ?_
    ·rcases List.mem_cons.mp hy with rfl | hy
     ·exact Int.ediv_nonneg hx0 (by (first | lia | omega))
     ·exact hn y (List.mem_cons_of_mem _ hy)
    ·exact kp3.trans fun b o hb _ h2 => by rw [upd_ne h2]; exact hb
end
end K15
namespace K15
open PySem PySem.Spec PyProof.Rows L2
section
variable {P : Program} {w : World} {K : PySem.W.Frag} {mg : Str -> Option Value} {base : Heap}
noncomputable abbrev s_number_at : Stmt := top 2
theorem sc_number_at : FnScope ["row", "place"] ["row", "place"] (defScope s_number_at) := ⟨rfl, rfl, rfl, by decide +kernel, rfl, by decide +kernel, by decide +kernel⟩
theorem ok_number_at {f : Addr} {fd : FuncData} (F : Fun K "number_at" "number_at" s_number_at f fd) (T : Top mg) : FnOk P w K mg base CX0 1 f fd ["row", "place"] (spNumAt K) := by
 refine F.ok sc_number_at (fun vs H Q E h => ?_) (fun cdv A outer s H vs Q E hr h => ?_)
 ·obtain ⟨a, ns, k, rfl, _⟩ := h
  rfl
 ·obtain ⟨a, ns, k, rfl, ha, q⟩ := h
  refine ⟨_, (pss_one (ps_ret (pe_ifExp (pt_chain op_le op_lt pe_int (pv 1) (pe_callB call_len_seq (by rfl) T.n_len boot_len (pa_cons (pv 0) pa_nil))) (pe_ix ix_tup (pv 0) (pv 1) (fun _ _ => rfl)) pe_int))), ?_⟩
  refine ⟨_, rfl, _, _, rfl, rfl, _, rfl, ?_⟩
  by_cases h0 : 0 <= k
  ·rw [if_pos (by simpa using h0)]
   refine ⟨_, rfl, a, _, rfl, .inr ha, _, _, rfl, rfl, _, rfl, ?_⟩
   rw [List.length_map]
   by_cases h1 : k < (ns.length : Int)
   ·rw [decide_eq_true h1]
    refine iteT ⟨_, rfl, _, rfl, a, _, _, _, rfl, rfl, ha, at_getD h0 h1, ?_⟩
    rw [atZ_in h0]
    exact q
   ·rw [decide_eq_false h1]
    rw [atZ_ge (by (first | lia | omega))] at q
    exact iteF q
  ·rw [if_neg (by simpa using h0)]
   refine ⟨_, rfl, ?_⟩
   rw [atZ_lt (by (first | lia | omega))] at q
   exact iteF q
end
end K15
namespace K15
open PySem PySem.Spec PyProof.Rows L2
section
variable {P : Program} {w : World} {K : PySem.W.Frag} {mg : Str -> Option Value} {base : Heap}
noncomputable abbrev s_rounds_row : Stmt := top 3
noncomputable abbrev s_stays_row : Stmt := top 4
noncomputable abbrev s_rises_row : Stmt := top 5
theorem sc_rounds_row : FnScope ["many", "ahead"] ["many", "ahead"] (defScope s_rounds_row) := ⟨rfl, rfl, rfl, by decide +kernel, rfl, by decide +kernel, by decide +kernel⟩
theorem sc_stays_row : FnScope ["many", "ahead"] ["many", "ahead"] (defScope s_stays_row) := ⟨rfl, rfl, rfl, by decide +kernel, rfl, by decide +kernel, by decide +kernel⟩
theorem sc_rises_row : FnScope ["many", "ahead"] ["many", "ahead"] (defScope s_rises_row) := ⟨rfl, rfl, rfl, by decide +kernel, rfl, by decide +kernel, by decide +kernel⟩
theorem ok_rounds_row {f : Addr} {fd : FuncData} (F : Fun K "rounds_row" "rounds_row" s_rounds_row f fd) (T : Top mg) (Cnumber_at : Cal P w K mg base 1 "number_at" ["row", "place"] (spNumAt K)) : FnOk P w K mg base CX0 2 f fd ["many", "ahead"] (spRow K 65 roundsRow) := by
 refine F.ok sc_rounds_row (fun vs H Q E h => ?_) (fun cdv A outer s H vs Q E hr h => ?_)
 ·obtain ⟨m, a, ns, rfl, _⟩ := h
  rfl
 ·obtain ⟨m, a, ns, rfl, m1, m2, ha, hl, k⟩ := h
  refine ⟨_, (pss_one (ps_ret (pe_callTy call_tuple_of (by rfl) T.n_tuple boot_tuple (pa_cons (pe_lc (N' := ["k", "ahead", "many"]) (n := 1) (ix := [1, 0]) rfl (CompScope.of (sc := defScope s_rounds_row) (N := ["many", "ahead"]) (by decide +kernel) rfl rfl) (pi_range1 rfl T.n_range (pa_cons (pe_op op_add (pv 0) pe_int) pa_nil)) (fun _ _ _ _ _ => ⟨(pg_name (i := 0) (show (["k", "ahead", "many"] : List Str).Nodup by decide +kernel) rfl (Or.inl rfl)), pts_nil, (pe_op op_add (pe_cal Cnumber_at (hr.mono (by decide)) rfl (pa_cons (pv 1) (pa_cons (pe_op op_sub (pv 0) pe_int) pa_nil))) (pe_op op_mul (pe_op op_sub (pv 2) pe_int) (pe_cal Cnumber_at (hr.mono (by decide)) rfl (pa_cons (pv 1) (pa_cons (pv 0) pa_nil)))))⟩)) pa_nil)))), ?_⟩
  refine ⟨_, rfl, _, _, rfl, rfl, _, rfl, by (first | lia | omega), by (first | lia | omega), ?_⟩
  refine lc_tab (n := m + 1) (fun k => atZ ns (k - 1) + ((m : Int) - 1) * atZ ns k) (by (first | lia | omega)) (fun k k0 k1 H' s' Q' q => ?_) fun acc hacc => ?_
  ·exact ⟨_, rfl, _, rfl, _, _, rfl, rfl, a, ns, _, rfl, s'.seqT ha, _, rfl, _, _, rfl, rfl, _, rfl, _, rfl, a, ns, _, rfl, s'.seqT ha, _, _, rfl, rfl, cmul_small (by (first | lia | omega)) (by (first | lia | omega)), _, _, rfl, rfl, q⟩
  ·refine ⟨acc, _, rfl, .inl ⟨SqL.of upd_same, fun p hp => ?_⟩⟩
   exact k p _ ((same_upd hacc).trans (same_upd hp)) upd_same
theorem ok_stays_row {f : Addr} {fd : FuncData} (F : Fun K "stays_row" "stays_row" s_stays_row f fd) (T : Top mg) (Cnumber_at : Cal P w K mg base 1 "number_at" ["row", "place"] (spNumAt K)) : FnOk P w K mg base CX0 2 f fd ["many", "ahead"] (spRow K 65 staysRow) := by
 refine F.ok sc_stays_row (fun vs H Q E h => ?_) (fun cdv A outer s H vs Q E hr h => ?_)
 ·obtain ⟨m, a, ns, rfl, _⟩ := h
  rfl
 ·obtain ⟨m, a, ns, rfl, m1, m2, ha, hl, k⟩ := h
  refine ⟨_, (pss_one (ps_ret (pe_callTy call_tuple_of (by rfl) T.n_tuple boot_tuple (pa_cons (pe_lc (N' := ["k", "ahead", "many"]) (n := 1) (ix := [1, 0]) rfl (CompScope.of (sc := defScope s_stays_row) (N := ["many", "ahead"]) (by decide +kernel) rfl rfl) (pi_range1 rfl T.n_range (pa_cons (pe_op op_add (pv 0) pe_int) pa_nil)) (fun _ _ _ _ _ => ⟨(pg_name (i := 0) (show (["k", "ahead", "many"] : List Str).Nodup by decide +kernel) rfl (Or.inl rfl)), pts_nil, (pe_op op_add (pe_op op_add (pe_cal Cnumber_at (hr.mono (by decide)) rfl (pa_cons (pv 1) (pa_cons (pe_op op_sub (pv 0) pe_int) pa_nil))) (pe_op op_mul (pe_op op_sub (pe_op op_sub (pv 2) pe_int) (pv 0)) (pe_cal Cnumber_at (hr.mono (by decide)) rfl (pa_cons (pv 1) (pa_cons (pv 0) pa_nil))))) (pe_op op_mul (pe_op op_add (pv 0) pe_int) (pe_cal Cnumber_at (hr.mono (by decide)) rfl (pa_cons (pv 1) (pa_cons (pe_op op_add (pv 0) pe_int) pa_nil)))))⟩)) pa_nil)))), ?_⟩
  refine ⟨_, rfl, _, _, rfl, rfl, _, rfl, by (first | lia | omega), by (first | lia | omega), ?_⟩
  refine lc_tab (n := m + 1) (fun k => atZ ns (k - 1) + ((m : Int) - 1 - k) * atZ ns k + (k + 1) * atZ ns (k + 1)) (by (first | lia | omega)) (fun k k0 k1 H' s' Q' q => ?_) fun acc hacc => ?_
  ·refine ⟨_, rfl, _, rfl, _, _, rfl, rfl, a, ns, _, rfl, s'.seqT ha, _, rfl, _, _, rfl, rfl, _, rfl, _, _, rfl, rfl, _, rfl, _, rfl, a, ns, _, rfl, s'.seqT ha, _, _, rfl, rfl, cmul_small (by (first | lia | omega)) (by (first | lia | omega)), _, _, rfl, rfl, ?_⟩
   exact ⟨_, rfl, _, _, rfl, rfl, _, rfl, _, rfl, _, _, rfl, rfl, a, ns, _, rfl, s'.seqT ha, _, _, rfl, rfl, cmul_small (by (first | lia | omega)) (by (first | lia | omega)), _, _, rfl, rfl, q⟩
  ·refine ⟨acc, _, rfl, .inl ⟨SqL.of upd_same, fun p hp => ?_⟩⟩
   exact k p _ ((same_upd hacc).trans (same_upd hp)) upd_same
theorem ok_rises_row {f : Addr} {fd : FuncData} (F : Fun K "rises_row" "rises_row" s_rises_row f fd) (T : Top mg) (Cnumber_at : Cal P w K mg base 1 "number_at" ["row", "place"] (spNumAt K)) : FnOk P w K mg base CX0 2 f fd ["many", "ahead"] (spRow K 65 risesRow) := by
 refine F.ok sc_rises_row (fun vs H Q E h => ?_) (fun cdv A outer s H vs Q E hr h => ?_)
 ·obtain ⟨m, a, ns, rfl, _⟩ := h
  rfl
 ·obtain ⟨m, a, ns, rfl, m1, m2, ha, hl, k⟩ := h
  refine ⟨_, (pss_one (ps_ret (pe_callTy call_tuple_of (by rfl) T.n_tuple boot_tuple (pa_cons (pe_lc (N' := ["k", "ahead", "many"]) (n := 1) (ix := [1, 0]) rfl (CompScope.of (sc := defScope s_rises_row) (N := ["many", "ahead"]) (by decide +kernel) rfl rfl) (pi_range1 rfl T.n_range (pa_cons (pv 0) pa_nil)) (fun _ _ _ _ _ => ⟨(pg_name (i := 0) (show (["k", "ahead", "many"] : List Str).Nodup by decide +kernel) rfl (Or.inl rfl)), pts_nil, (pe_op op_add (pe_op op_mul (pe_op op_add (pv 0) pe_int) (pe_cal Cnumber_at (hr.mono (by decide)) rfl (pa_cons (pv 1) (pa_cons (pv 0) pa_nil)))) (pe_op op_mul (pe_op op_sub (pv 2) (pv 0)) (pe_cal Cnumber_at (hr.mono (by decide)) rfl (pa_cons (pv 1) (pa_cons (pe_op op_sub (pv 0) pe_int) pa_nil)))))⟩)) pa_nil)))), ?_⟩
  refine ⟨_, rfl, _, rfl, by (first | lia | omega), by (first | lia | omega), ?_⟩
  refine lc_tab (n := m) (fun k => (k + 1) * atZ ns k + ((m : Int) - k) * atZ ns (k - 1)) (by (first | lia | omega)) (fun k k0 k1 H' s' Q' q => ?_) fun acc hacc => ?_
  ·refine ⟨_, rfl, _, _, rfl, rfl, _, rfl, _, rfl, a, ns, _, rfl, s'.seqT ha, _, _, rfl, rfl, cmul_small (by (first | lia | omega)) (by (first | lia | omega)), ?_⟩
   exact ⟨_, rfl, _, rfl, _, _, rfl, rfl, _, rfl, _, rfl, _, _, rfl, rfl, a, ns, _, rfl, s'.seqT ha, _, _, rfl, rfl, cmul_small (by (first | lia | omega)) (by (first | lia | omega)), _, _, rfl, rfl, q⟩
  ·refine ⟨acc, _, rfl, .inl ⟨SqL.of upd_same, fun p hp => ?_⟩⟩
   exact k p _ ((same_upd hacc).trans (same_upd hp)) upd_same
end
end K15
namespace K15
open PySem PySem.Spec PyProof.Rows L2
section
variable {P : Program} {w : World} {K : PySem.W.Frag} {mg : Str -> Option Value} {base : Heap}
noncomputable abbrev s_crossed_row : Stmt := top 6
theorem sc_crossed_row : FnScope ["many", "ahead"] ["many", "ahead"] (defScope s_crossed_row) := ⟨rfl, rfl, rfl, by decide +kernel, rfl, by decide +kernel, by decide +kernel⟩
theorem tri_le {m : Nat} (h : m <= 28) : m * (m - 1) / 2 <= 378 := by
 have : m * (m - 1) <= 28 * 27 := Nat.mul_le_mul h (by (first | lia | omega))
 (first | lia | omega)
theorem tri_cast {m : Nat} (h : 1 <= m) : (m : Int) * ((m : Int) - 1) / 2 + 1 = ((m * (m - 1) / 2 + 1 : Nat) : Int) := by
 rw [show ((m : Int) - 1) = ((m - 1 : Nat) : Int) by (first | lia | omega)]
 push_cast
 rfl
theorem ok_crossed_row {f : Addr} {fd : FuncData} (F : Fun K "crossed_row" "crossed_row" s_crossed_row f fd) (T : Top mg) : FnOk P w K mg base CX0 2 f fd ["many", "ahead"] (spRow K 28 crossedRow) := by
 refine F.ok sc_crossed_row (fun vs H Q E h => ?_) (fun cdv A outer s H vs Q E hr h => ?_)
 ·obtain ⟨m, a, ns, rfl, _⟩ := h
  rfl
 ·obtain ⟨m, a, ns, rfl, m1, m2, ha, hl, k⟩ := h
  have t1 := tri_le m2
  refine ⟨_, (pss_one (ps_ret (pe_callTy call_tuple_of (by rfl) T.n_tuple boot_tuple (pa_cons (pe_lc (N' := ["k", "ahead", "many"]) (n := 1) (ix := [1, 0]) rfl (CompScope.of (sc := defScope s_crossed_row) (N := ["many", "ahead"]) (by decide +kernel) rfl rfl) (pi_range1 rfl T.n_range (pa_cons (pe_op op_add (pe_op op_fdiv (pe_op op_mul (pv 0) (pe_op op_sub (pv 0) pe_int)) pe_int) pe_int) pa_nil)) (fun _ _ _ _ _ => ⟨(pg_name (i := 0) (show (["k", "ahead", "many"] : List Str).Nodup by decide +kernel) rfl (Or.inl rfl)), pts_nil, (pe_callB (call_sumTK K rfl rfl) (by rfl) T.n_sum boot_sum (pa_cons (pe_slice (sl_tupKK K rfl) (pv 1) (po_some (pe_callB (call_max2 rfl) (by rfl) T.n_max boot_max (pa_cons pe_int (pa_cons (pe_op op_add (pe_op op_sub (pv 0) (pv 2)) pe_int) pa_nil)))) (po_some (pe_op op_add (pv 0) pe_int))) pa_nil))⟩)) pa_nil)))), ?_⟩
  refine ⟨_, rfl, _, rfl, _, _, rfl, rfl, _, _, rfl, rfl, cmul_small (by (first | lia | omega)) (by (first | lia | omega)), _, _, rfl, rfl, ⟨by decide, by decide⟩, _, _, rfl, rfl, _, rfl, ?_⟩
  rw [tri_cast m1]
  refine ⟨by (first | lia | omega), by (first | lia | omega), ?_⟩
  refine lc_tabG (fun k => win ns (k - (m : Int) + 1) m) (by (first | lia | omega)) (fun k k0 k1 H' s' Q' q => ?_) fun acc H' hacc sm hys => ?_
  ·refine ⟨_, rfl, _, rfl, _, rfl, _, _, rfl, rfl, _, _, rfl, rfl, _, _, rfl, _, rfl, _, rfl, _, _, rfl, rfl, _, rfl, ?_⟩
   refine ⟨a, _, rfl, s'.seqT ha, fun p H2 s2 hp => ?_⟩
   rw [show (if k - (m : Int) + 1 > 0 then k - (m : Int) + 1 else 0) = (((k - (m : Int) + 1).toNat : Nat) : Int) by split <;> (first | lia | omega), show k + 1 = ((k + 1).toNat : Int) by (first | lia | omega), cutV_ints] at hp
   refine ⟨p, _, rfl, hp, ?_⟩
   rw [sum_cut]
   have e := win_pos ns (k - (m : Int) + 1) m
   rw [show max (k - (m : Int) + 1) 0 = ((k - (m : Int) + 1).toNat : Int) by (first | lia | omega), show m - (-(k - (m : Int) + 1)).toNat = (k + 1).toNat - (k - (m : Int) + 1).toNat by (first | lia | omega)] at e
   rw [<- e]
   exact q H2 s2
  ·refine ⟨acc, _, rfl, .inl ⟨SqL.of hys, fun p hp => ?_⟩⟩
   exact k p _ (sm.trans (same_upd hp)) upd_same
end
end K15
namespace K15
open PySem PySem.Spec PyProof.Rows L2
section
variable {P : Program} {w : World} {K : PySem.W.Frag} {mg : Str -> Option Value} {base : Heap}
noncomputable abbrev s_next_row : Stmt := top 8
theorem sc_next_row : FnScope ["kind", "many", "ahead", "row"] ["kind", "many", "ahead"] (defScope s_next_row) := ⟨rfl, rfl, rfl, by decide +kernel, rfl, by decide +kernel, by decide +kernel⟩
theorem ok_next_row {f C f1 f2 f3 f5 : Addr} {fd : FuncData} (F : Fun K "next_row" "next_row" s_next_row f fd) (hC : mg "ROWS" = some (.ref C)) (GD : GDict K w.params C [("rounds", f1), ("stays", f2), ("rises", f3), ("highs", f1), ("crossed", f5)])
  (c1 : CalF P w K mg base 2 f1 ["many", "ahead"] (spRow K 65 roundsRow)) (c2 : CalF P w K mg base 2 f2 ["many", "ahead"] (spRow K 65 staysRow)) (c3 : CalF P w K mg base 2 f3 ["many", "ahead"] (spRow K 65 risesRow)) (c5 : CalF P w K mg base 2 f5 ["many", "ahead"] (spRow K 28 crossedRow)) : FnOk P w K mg base CX0 3 f fd ["kind", "many", "ahead"] (spNext15 K) := by
 refine F.ok sc_next_row (fun vs H Q E h => ?_) (fun cdv A outer s H vs Q E hr h => ?_)
 ·obtain ⟨kind, m, a, ns, rfl, _⟩ := h
  rfl
 ·obtain ⟨kind, m, a, ns, rfl, hk, m1, m2, ha, hl, k⟩ := h
  refine ⟨_, (pss_cons (ps_set (i := 3) sc_next_row.nd rfl (Or.inl rfl) (pe_ix ix_gd (pe_glob (v := .ref C) rfl hC rfl) (pv 0) (fun _ _ => rfl)))
   (pss_one (ps_ret (pe_callV (k := 2) (pv 3) hr (pa_cons (pv 1) (pa_cons (pv 2) pa_nil)))))), ?_⟩
  rcases kinds5_cases hk with rfl | rfl | rfl | rfl | rfl
  ·exact ⟨_, rfl, C, _, _, f1, rfl, rfl, GD, rfl, _, rfl, f1, _, _, rfl, c1, _, rfl, _, rfl, m, a, ns, rfl, m1, m2, ha, hl, k⟩
  ·exact ⟨_, rfl, C, _, _, f2, rfl, rfl, GD, rfl, _, rfl, f2, _, _, rfl, c2, _, rfl, _, rfl, m, a, ns, rfl, m1, m2, ha, hl, k⟩
  ·exact ⟨_, rfl, C, _, _, f3, rfl, rfl, GD, rfl, _, rfl, f3, _, _, rfl, c3, _, rfl, _, rfl, m, a, ns, rfl, m1, m2, ha, hl, k⟩
  ·exact ⟨_, rfl, C, _, _, f1, rfl, rfl, GD, rfl, _, rfl, f1, _, _, rfl, c1, _, rfl, _, rfl, m, a, ns, rfl, m1, m2, ha, hl, k⟩
  ·exact ⟨_, rfl, C, _, _, f5, rfl, rfl, GD, rfl, _, rfl, f5, _, _, rfl, c5, _, rfl, _, rfl, m, a, ns, rfl, m1, m2, ha, hl, k⟩
end
end K15
namespace L2
open PySem PySem.Spec PyProof.Rows
theorem wh_intB {S : Addr -> Prop} {H : Hp} {x : V} {d : PyData} (h : IsY S H x d) : isIv x = whD d := by
 cases h <;> rfl
end L2
namespace K15
open PySem PySem.Spec PyProof.Rows L2
noncomputable abbrev s_is_whole : Stmt := top 10
noncomputable abbrev s_are_wholes : Stmt := top 11
section
variable {P : Program} {w : World} {K : PySem.W.Frag} {mg : Str -> Option Value} {base : Heap}
theorem sc_is_whole : FnScope ["thing"] ["thing"] (defScope s_is_whole) := ⟨rfl, rfl, rfl, by decide +kernel, rfl, by decide +kernel, by decide +kernel⟩
set_option maxHeartbeats 8000000 in
theorem ok_is_whole {f : Addr} {fd : FuncData} (F : Fun K "is_whole" "is_whole" s_is_whole f fd) (T : Top mg) : FnOk P w K mg base CX0 1 f fd ["thing"] (spWhA K) := by
 refine F.ok sc_is_whole (fun vs H Q E h => ?_) (fun cdv A outer s H vs Q E hr h => ?_)
 ·obtain ⟨x, rfl, _⟩ := h
  rfl
 ·obtain ⟨x, rfl, ⟨t, ht, hm⟩, k⟩ := h
  refine ⟨_, (pss_one (ps_ret (pe_and (pe_callB call_isi (by rfl) T.n_isinstance boot_isinstance (pa_cons (pv 0) (pa_cons (pe_bltn (v := .ty "int") rfl T.n_int boot_int rfl) pa_nil))) (pe_one (pe_not (pe_callB call_isi (by rfl) T.n_isinstance boot_isinstance (pa_cons (pv 0) (pa_cons (pe_bltn (v := .ty "bool") rfl T.n_bool boot_bool rfl) pa_nil)))))))), ?_⟩
  obtain ⟨k1, k2, _⟩ := kit7 (K := K) hm
  have hi := (tyI ht).trans isIv_iff.symm
  refine ⟨_, rfl, _, _, _, _, rfl, ht, k1, _, rfl, ?_⟩
  by_cases hb : t = "bool"
  ·subst hb
   refine iteT ⟨_, rfl, _, _, _, _, rfl, ht, k2, _, rfl, ?_⟩
   have : isIv x = false := by
    cases e : isIv x with
    | false => rfl
    | true => exact absurd (hi.mpr e) (by decide)
   rw [this] at k
   exact k
  ·by_cases hI : t = "int"
   ·subst hI
    refine iteT ⟨_, rfl, _, _, _, _, rfl, ht, k2, _, rfl, ?_⟩
    rw [hi.mp rfl] at k
    exact k
   ·have e0 : (t == "bool" || t == "int") = false := by
     rw [beq_eq_false_iff_ne.mpr hb, beq_eq_false_iff_ne.mpr hI]
     rfl
    have : isIv x = false := by
     cases e : isIv x with
     | false => rfl
     | true => exact absurd (hi.mpr e) hI
    rw [this] at k
    rw [e0]
    exact iteF k
theorem sc_are_wholes : FnScope ["thing"] ["thing"] (defScope s_are_wholes) := ⟨rfl, rfl, rfl, by decide +kernel, rfl, by decide +kernel, by decide +kernel⟩
set_option maxHeartbeats 8000000 in
theorem ok_are_wholes {f : Addr} {fd : FuncData} (F : Fun K "are_wholes" "are_wholes" s_are_wholes f fd) (T : Top mg) (Cis_whole : Cal P w K mg base 1 "is_whole" ["thing"] (spWhA K)) : FnOk P w K mg base CX0 2 f fd ["thing"] spWhsD := by
 refine F.ok sc_are_wholes (fun vs H Q E h => ?_) (fun cdv A outer s H vs Q E hr h => ?_)
 ·obtain ⟨S, x, d, rfl, _⟩ := h
  rfl
 ·obtain ⟨S, x, d, rfl, y, sz, k⟩ := h
  refine ⟨_, (pss_one (ps_ret (pe_and (pe_callB call_isi (by rfl) T.n_isinstance boot_isinstance (pa_cons (pv 0) (pa_cons (pe_bltn (v := .ty "tuple") rfl T.n_tuple boot_tuple rfl) pa_nil))) (pe_one (pe_callB (call_all rfl) (by rfl) T.n_all boot_all (pa_cons (pe_lc (N' := ["number"]) (n := 1) (ix := []) rfl (CompScope.of (sc := defScope s_are_wholes) (N := ["thing"]) (by decide +kernel) rfl rfl) (pi_tup (pv 0)) (fun _ _ _ _ _ => ⟨(pg_name (i := 0) (show (["number"] : List Str).Nodup by decide +kernel) rfl (Or.inl rfl)), pts_nil, (pe_cal Cis_whole (hr.mono (by decide)) rfl (pa_cons (pv 0) pa_nil))⟩)) pa_nil)))))), ?_⟩
  obtain ⟨_, _, k3⟩ := kit7 (K := K) (tyD_in d)
  refine ⟨_, rfl, _, _, _, _, rfl, y.ty, k3, _, rfl, ?_⟩
  rcases y.isT with ⟨a, vs, ds, rfl, rfl, ha, al⟩ | ⟨hne, hn⟩
  ·refine iteT ?_
   refine ⟨_, rfl, a, rfl, ⟨_, SqT.of ha⟩, ?_⟩
   have hl : vs.length <= 1000 := by rw [al.len]; exact sz.tup.1
   refine lc_growI (yields_tup (K := K) (a := a) (xs := vs)) (small1 hl) (ds.map whD) (by rw [List.length_map, al.len]) (fun G sm => SqT.of (sm _ _ ha)) (fun i v b G hv hb sm Q' q => ?_) fun acc G hacc sm hG => ?_
   ·obtain ⟨e, he, ye⟩ := al.at hv
    rw [List.getElem?_map, he] at hb
    cases hb
    refine ⟨_, rfl, v, rfl, (ye.same sm).kn, ?_⟩
    rw [wh_intB ye]
    exact q G (Same.refl G)
   ·refine ⟨acc, _, rfl, hG, ?_⟩
    have := k G sm
    rw [show wholesD (.tuple ds) = (ds.map whD).all id by rw [List.all_map]; rfl] at this
    exact this
  ·rw [beq_eq_false_iff_ne.mpr hne]
   refine iteF ?_
   have := k H (Same.refl H)
   rw [show wholesD d = false by cases d <;> first | rfl | exact absurd rfl (hn _)] at this
   exact this
end
end K15
namespace K15
open PySem PySem.Spec PyProof.Rows L2
noncomputable abbrev s_are_just : Stmt := top 12
noncomputable abbrev s_shows_steps : Stmt := top 14
section
variable {P : Program} {w : World} {K : PySem.W.Frag} {mg : Str -> Option Value} {base : Heap}
theorem sc_are_just : FnScope ["thing", "numbers"] ["thing", "numbers"] (defScope s_are_just) := ⟨rfl, rfl, rfl, by decide +kernel, rfl, by decide +kernel, by decide +kernel⟩
theorem ok_are_just {f : Addr} {fd : FuncData} (F : Fun K "are_just" "are_just" s_are_just f fd) (Care_wholes : Cal P w K mg base 2 "are_wholes" ["thing"] spWhsD) : FnOk P w K mg base CX0 3 f fd ["thing", "numbers"] (spJustK K) := by
 refine F.ok sc_are_just (fun vs H Q E h => ?_) (fun cdv A outer s H vs Q E hr h => ?_)
 ·obtain ⟨S, x, d, b, ns, rfl, _⟩ := h
  rfl
 ·obtain ⟨S, x, d, b, ns, rfl, yd, hz, hb, k⟩ := h
  have hu : _ := hr.units
  refine ⟨_, (pss_one (ps_ret (pe_and (pe_cal Care_wholes (hr.mono (by decide)) rfl (pa_cons (pv 0) pa_nil)) (pe_one (pe_cmpR (op_eqK hu) (pv 0) (pv 1) (nomark _)))))), ?_⟩
  refine ⟨_, rfl, S, x, d, rfl, yd, hz, fun G s1 => ⟨_, rfl, ?_⟩⟩
  by_cases c : wholesD d = true
  ·rw [c]
   rcases yd.isT with ⟨a, us, ds, rfl, rfl, ha, al⟩ | ⟨_, q⟩
   ·have e := ints_of al c
    subst e
    refine iteT ⟨_, rfl, _, rfl, _, _, IsK.ints (SqT.of (s1 _ _ ha)), IsK.ints (s1.seqT hb), shaped_tints _, shaped_tints _, ?_⟩
    have e2 : juE ns (.tuple ds) = PyData.eqv (.tuple ((ds.map asI).map PyData.int)) (.tuple (ns.map PyData.int)) := by
     show (ds.all whD && decide (ds.map asI = ns)) = PyData.eqvAll _ _
     rw [eqv_ints, show ds.all whD = true from c]; rfl
    rw [<- e2]
    exact k G s1
   ·cases d with
    | tuple ds => exact absurd rfl (q ds)
    | _ => cases c
  ·have c' : wholesD d = false := by simpa using c
   rw [c']
   refine iteF ?_
   have e : juE ns d = false := by
    cases d with
    | tuple ds =>
     show (ds.all whD && _) = false
     rw [show ds.all whD = false from c']; rfl
    | _ => rfl
   rw [<- e]
   exact k G s1
theorem sc_shows_steps : FnScope ["kind", "thing", "many"] ["kind", "thing"] (defScope s_shows_steps) := ⟨rfl, rfl, rfl, by decide +kernel, rfl, by decide +kernel, by decide +kernel⟩
theorem ok_shows_steps {f FR : Addr} {fd : FuncData} (F : Fun K "shows_steps" "shows_steps" s_shows_steps f fd) (T : Top mg) (hFR : mg "FIRST_ROW" = some (.ref FR)) (hF1 : ∀ H, SqT K H FR (([1] : List Int).map V.int)) (Care_just : Cal P w K mg base 3 "are_just" ["thing", "numbers"] (spJustK K)) (Cnext_row : Cal P w K mg base 3 "next_row" ["kind", "many", "ahead"] (spNext15 K)) : FnOk P w K mg base CX0 4 f fd ["kind", "thing"] spSteps15 := by
 refine F.ok sc_shows_steps (fun vs H Q E h => ?_) (fun cdv A outer s H vs Q E hr h => ?_)
 ·obtain ⟨S, x, d, kd, rfl, _⟩ := h
  rfl
 ·obtain ⟨S, x, d, kd, rfl, hkd, yd, hP, k⟩ := h
  refine ⟨_, (pss_cons (ps_if (PW.pt (pw_or (pt_not (pt_val (pe_callB call_isi (by rfl) T.n_isinstance boot_isinstance (pa_cons (pv 1) (pa_cons (pe_bltn (v := .ty "tuple") rfl T.n_tuple boot_tuple rfl) pa_nil))))) (pw_or (pt_not (pt_truth (pv 1) (fun _ => rfl))) (pw_or1 (pt_not (pt_val (pe_cal Care_just (hr.mono (by decide)) rfl (pa_cons (pe_ix ix_tup (pv 1) pe_int (fun _ _ => rfl)) (pa_cons (pe_glob (v := .ref FR) rfl hFR rfl) pa_nil)))))))))
    (pss_one (ps_ret pe_bl))
    pss_nil)
   (pss_cons (ps_for PassesOwn.never rfl (pi_range2 rfl T.n_range (pa_cons pe_int (pa_cons (pe_callB call_len_seq (by rfl) T.n_len PySem.boot_len (pa_cons (pv 1) pa_nil)) pa_nil))) (pg_name (i := 2) sc_shows_steps.nd rfl (Or.inl rfl))
    (pss_one (ps_if (pt_not (pt_val (pe_cal Care_just (hr.mono (by decide)) rfl (pa_cons (pe_ix ix_tup (pv 1) (pv 2) (fun _ _ => rfl)) (pa_cons (pe_cal Cnext_row (hr.mono (by decide)) rfl (pa_cons (pv 0) (pa_cons (pv 2) (pa_cons (pe_ix ix_tup (pv 1) (pe_op op_sub (pv 2) pe_int) (fun _ _ => rfl)) pa_nil)))) pa_nil)))))
     (pss_one (ps_ret pe_bl))
     pss_nil)))
   (pss_one (ps_ret pe_bl)))), ?_⟩
  obtain ⟨_, _, kT⟩ := kit7 (K := K) (tyD_in d)
  refine ⟨_, rfl, _, _, _, _, rfl, yd.ty, kT, _, rfl, ?_⟩
  rcases yd.isT with ⟨a, us, ds, rfl, rfl, ha, al⟩ | ⟨q, q'⟩
  ·refine iteF ⟨_, rfl, !us.isEmpty, .inr (.inl ⟨_, SqT.of ha, rfl⟩), ?_⟩
   have hul := al.len
   have hl20 := (hP ds rfl).1
   have hb15 := b15_le kd
   cases us with
   | nil =>
    have e : ds = [] := List.eq_nil_of_length_eq_zero hul.symm
    subst e
    exact iteT (k H (Same.refl H))
   | cons v0 us =>
    have hne : ds.isEmpty = false := by
     cases ds with
     | nil => simp at hul
     | cons _ _ => rfl
    have part : ∀ {i : Nat}, i < ds.length -> ∃ v, (v0 :: us)[i]? = some v /\ IsY S H v (ds.getD i .none) /\ Sz 1000 (ds.getD i .none) := fun {i} hi => by
     have hi' : i < (v0 :: us).length := by (first | lia | omega)
     obtain ⟨e, he, ye⟩ := al.at (List.getElem?_eq_getElem hi')
     have ee : ds.getD i .none = e := by rw [List.getD_eq_getElem?_getD, he]; rfl
     rw [ee]
     exact ⟨_, List.getElem?_eq_getElem hi', ye, (hP ds rfl).2 e (List.mem_of_getElem? he)⟩
    have bad : ∀ {i : Nat} {G : Hp}, i < ds.length -> juE (rowZ kd i) (ds.getD i .none) = false -> Same H G -> Q (.bl false) G := fun {i} {G} hi hj sG => by
     have : stepsB kd (.tuple ds) = false := by
      show (!ds.isEmpty && _) = false
      rw [hne]
      have : ((List.range ds.length).all fun i => juE (rowZ kd i) (ds.getD i .none)) = false := by
       rw [List.all_eq_false]
       exact ⟨i, List.mem_range.mpr hi, by rw [hj]; decide⟩
      rw [this]; rfl
     rw [<- this]
     exact k G sG
    have h0 : 0 < ds.length := by rw [<- hul]; simp
    obtain ⟨w0, e0, y0, z0⟩ := part h0
    refine iteF ⟨_, rfl, a, _, 0, w0, rfl, rfl, SqT.of ha, atI_nat (j := 0) e0, S, w0, _, FR, [1], rfl, y0, z0, hF1 _, fun G1 s1 => ⟨_, rfl, ?_⟩⟩
    by_cases c0 : juE [1] (ds.getD 0 .none) = true
    ·rw [c0]
     refine iteF ⟨_, rfl, a, _, rfl, .inr (SqT.of (s1 _ _ ha)), _, _, rfl, ⟨by decide, by decide, by (first | lia | omega), by rw [hul]; (first | lia | omega)⟩, ?_⟩
     rw [hul]
     refine for_range (n := ((ds.length : Int) - 1).toNat) (fun j σ G => ∃ c : Option V, σ = [some (.str kd), some (.ref a), c] /\ Same H G /\ ∀ i, i <= j -> juE (rowZ kd i) (ds.getD i .none) = true) ⟨_, rfl, s1, fun i hi => by rw [show i = 0 by (first | lia | omega)]; exact c0⟩ ?_ ?_
     ·rintro j σ G hj ⟨c, rfl, sm, hok⟩
      rw [show (1 : Int) + (j : Int) = ((j + 1 : Nat) : Int) by (first | lia | omega)]
      have hj1 : j + 1 < ds.length := by (first | lia | omega)
      obtain ⟨w1, e1, y1, z1⟩ := part hj1
      obtain ⟨w2, e2, y2, z2⟩ := part (i := j) (by (first | lia | omega))
      have ej := juE_eq (hok j (Nat.le_refl j))
      rw [ej] at y2
      obtain ⟨az, rfl, haz⟩ : ∃ az, w2 = .ref az /\ H az = some (.tup ((rowZ kd j).map V.int)) := by
       cases y2 with
       | tup e al2 =>
        have := ints_of al2 (by rw [List.all_map]; simp [whD])
        rw [this] at e
        refine ⟨_, rfl, ?_⟩
        rw [e, List.map_map, List.map_map]
        rfl
      refine ⟨_, rfl, _, rfl, a, _, _, w1, rfl, rfl, SqT.of (sm _ _ ha), atI_nat e1, _, rfl, _, rfl, _, rfl, _, rfl, _, _, rfl, rfl, a, _, (j : Int), .ref az, rfl, congrArg V.int (by (first | lia | omega)), SqT.of (sm _ _ ha), atI_nat e2, kd, j + 1, az, rowZ kd j, rfl, hkd, by (first | lia | omega), ?_, SqT.of (sm _ _ haz), Nat.le_trans (rowZ15_len (kind := kd) (n := j) (by (first | lia | omega))) (by decide), fun p G2 s2 hp => ?_⟩
      ·(first | lia | omega)
      refine ⟨S, w1, _, p, rowZ kd (j + 1), rfl, y1.same (sm.trans s2), z1, SqT.of hp, fun G3 s3 => ⟨_, rfl, ?_⟩⟩
      by_cases c1 : juE (rowZ kd (j + 1)) (ds.getD (j + 1) .none) = true
      ·rw [c1]
       refine iteF ⟨_, rfl, (sm.trans s2).trans s3, fun i hi => ?_⟩
       by_cases ei : i = j + 1
       ·rw [ei]; exact c1
       ·exact hok i (by (first | lia | omega))
      ·rw [show juE (rowZ kd (j + 1)) (ds.getD (j + 1) .none) = false by simpa using c1]
       exact iteT (bad hj1 (by simpa using c1) ((sm.trans s2).trans s3))
     ·rintro σ G ⟨c, rfl, sm, hok⟩
      have : stepsB kd (.tuple ds) = true := by
       show (!ds.isEmpty && _) = true
       rw [hne]
       have : ((List.range ds.length).all fun i => juE (rowZ kd i) (ds.getD i .none)) = true := by
        rw [List.all_eq_true]
        intro i hi
        have := List.mem_range.mp hi
        exact hok i (by (first | lia | omega))
       rw [this]; rfl
      have kk := k G sm
      rw [this] at kk
      exact kk
    ·rw [show juE [1] (ds.getD 0 .none) = false by simpa using c0]
     exact iteT (bad h0 (show juE [1] (ds.getD 0 .none) = false by simpa using c0) s1)
  ·rw [beq_eq_false_iff_ne.mpr q]
   refine iteT ?_
   have : stepsB kd d = false := by
    cases d with
    | tuple ds => exact absurd rfl (q' ds)
    | _ => rfl
   have kk := k H (Same.refl H)
   rw [this] at kk
   exact kk
end
end K15
namespace K15
open PySem PySem.Spec PyProof.Rows L2
section
variable {P : Program} {w : World} {K : PySem.W.Frag} {mg : Str -> Option Value} {base : Heap}
noncomputable abbrev s__law_behind : Stmt := top 18
theorem sc__law_behind : FnScope ["_law_kind", "_law_n", "_law_ahead", "_law_wide", "_law_row", "_law_lower"] ["_law_kind", "_law_n", "_law_ahead"] (defScope s__law_behind) := ⟨rfl, rfl, rfl, by decide +kernel, rfl, by decide +kernel, by decide +kernel⟩
theorem ok__law_behind {f : Addr} {fd : FuncData} (F : Fun K "_law_behind" "_law_behind" s__law_behind f fd) (T : Top mg) : FnOk P w K mg base CX0 1 f fd ["_law_kind", "_law_n", "_law_ahead"] (spBehM K) := by
 refine F.ok sc__law_behind (fun vs H Q E h => ?_) (fun cdv A outer s H vs Q E hr h => ?_)
 ·obtain ⟨kind, m, a, us, ns, rfl, _⟩ := h
  rfl
 ·obtain ⟨kind, m, a, us, ns, rfl, hk, m1, m2, ha, mx, hl, k⟩ := h
  have hus := mx.1
  have hb := b15_le kind
  have hmm : m * (m + 1) <= 65 * 66 := Nat.mul_le_mul (by (first | lia | omega)) (by (first | lia | omega))
  have hm3 : m <= m * (m + 1) := Nat.le_mul_of_pos_right _ (by (first | lia | omega))
  have hcast : (m : Int) * ((m : Int) + 1) + 2 = ((m * (m + 1) + 2 : Nat) : Int) := by push_cast; rfl
  refine ⟨_, (pss_cons (ps_set (i := 3) sc__law_behind.nd rfl (Or.inr rfl) (pe_op op_cat (pe_op op_cat (pe_op op_rep (pe_lst (pa_cons pe_int pa_nil)) (pe_op op_add (pv 1) pe_int)) (pe_callTy call_list_of (by rfl) T.n_list boot_list (pa_cons (pv 2) pa_nil))) (pe_op op_rep (pe_lst (pa_cons pe_int pa_nil)) (pe_op op_add (pe_op op_mul (pv 1) (pe_op op_add (pv 1) pe_int)) pe_int))))
   (pss_cons (ps_set (i := 4) sc__law_behind.nd rfl (Or.inr rfl) (pe_slice sl_list (pv 3) (po_some (pe_op op_add (pv 1) pe_int)) po_none))
   (pss_cons (ps_if (pt_cmpR op_eq (pv 0) pe_str (nomark _))
    (pss_one (ps_ret (pe_callTy call_tuple_of (by rfl) T.n_tuple boot_tuple (pa_cons (pe_lc (N' := ["_law_k", "_law_wide", "_law_n"]) (n := 1) (ix := [3, 1]) rfl (CompScope.of (sc := defScope s__law_behind) (N := ["_law_kind", "_law_n", "_law_ahead", "_law_wide", "_law_row", "_law_lower"]) (by decide +kernel) rfl rfl) (pi_range1 rfl T.n_range (pa_cons (pe_op op_add (pe_op op_fdiv (pe_op op_mul (pv 1) (pe_op op_sub (pv 1) pe_int)) pe_int) pe_int) pa_nil)) (fun _ _ _ _ _ => ⟨(pg_name (i := 0) (show (["_law_k", "_law_wide", "_law_n"] : List Str).Nodup by decide +kernel) rfl (Or.inl rfl)), pts_nil, (pe_callB (call_sumM rfl) (by rfl) T.n_sum boot_sum (pa_cons (pe_slice (sl_listKK K rfl) (pv 1) (po_some (pe_op op_add (pv 0) pe_int)) (po_some (pe_op op_add (pe_op op_add (pv 0) (pv 2)) pe_int))) pa_nil))⟩)) pa_nil))))
    pss_nil)
   (pss_cons (ps_set (i := 5) sc__law_behind.nd rfl (Or.inr rfl) (pe_slice sl_list (pv 3) (po_some (pv 1)) po_none))
   (pss_cons (ps_if (pt_cmpR op_eq (pv 0) pe_str (nomark _))
    (pss_one (ps_ret (pe_callTy call_tuple_of (by rfl) T.n_tuple boot_tuple (pa_cons (pe_lc (N' := ["_law_k", "_law_row", "_law_n", "_law_lower"]) (n := 1) (ix := [4, 1, 5]) rfl (CompScope.of (sc := defScope s__law_behind) (N := ["_law_kind", "_law_n", "_law_ahead", "_law_wide", "_law_row", "_law_lower"]) (by decide +kernel) rfl rfl) (pi_range1 rfl T.n_range (pa_cons (pv 1) pa_nil)) (fun _ _ _ _ _ => ⟨(pg_name (i := 0) (show (["_law_k", "_law_row", "_law_n", "_law_lower"] : List Str).Nodup by decide +kernel) rfl (Or.inl rfl)), pts_nil, (pe_op op_add (pe_op op_mulM (pe_op op_add (pv 0) pe_int) (pe_ix (ix_listK K rfl) (pv 1) (pv 0) (fun _ _ => rfl))) (pe_op op_mulM (pe_op op_sub (pv 2) (pv 0)) (pe_ix (ix_listK K rfl) (pv 3) (pv 0) (fun _ _ => rfl))))⟩)) pa_nil))))
    pss_nil)
   (pss_cons (ps_if (pt_cmpR op_eq (pv 0) pe_str (nomark _))
    (pss_one (ps_ret (pe_callTy call_tuple_of (by rfl) T.n_tuple boot_tuple (pa_cons (pe_lc (N' := ["_law_k", "_law_lower", "_law_row", "_law_n"]) (n := 1) (ix := [5, 4, 1]) rfl (CompScope.of (sc := defScope s__law_behind) (N := ["_law_kind", "_law_n", "_law_ahead", "_law_wide", "_law_row", "_law_lower"]) (by decide +kernel) rfl rfl) (pi_range1 rfl T.n_range (pa_cons (pe_op op_add (pv 1) pe_int) pa_nil)) (fun _ _ _ _ _ => ⟨(pg_name (i := 0) (show (["_law_k", "_law_lower", "_law_row", "_law_n"] : List Str).Nodup by decide +kernel) rfl (Or.inl rfl)), pts_nil, (pe_op op_add (pe_op op_addM (pe_ix (ix_listK K rfl) (pv 1) (pv 0) (fun _ _ => rfl)) (pe_op op_mulM (pe_op op_sub (pe_op op_sub (pv 3) pe_int) (pv 0)) (pe_ix (ix_listK K rfl) (pv 2) (pv 0) (fun _ _ => rfl)))) (pe_op op_mulM (pe_op op_add (pv 0) pe_int) (pe_ix (ix_listK K rfl) (pv 2) (pe_op op_add (pv 0) pe_int) (fun _ _ => rfl))))⟩)) pa_nil))))
    pss_nil)
   (pss_one (ps_ret (pe_callTy call_tuple_of (by rfl) T.n_tuple boot_tuple (pa_cons (pe_lc (N' := ["_law_k", "_law_lower", "_law_n", "_law_row"]) (n := 1) (ix := [5, 1, 4]) rfl (CompScope.of (sc := defScope s__law_behind) (N := ["_law_kind", "_law_n", "_law_ahead", "_law_wide", "_law_row", "_law_lower"]) (by decide +kernel) rfl rfl) (pi_range1 rfl T.n_range (pa_cons (pe_op op_add (pv 1) pe_int) pa_nil)) (fun _ _ _ _ _ => ⟨(pg_name (i := 0) (show (["_law_k", "_law_lower", "_law_n", "_law_row"] : List Str).Nodup by decide +kernel) rfl (Or.inl rfl)), pts_nil, (pe_op op_addM (pe_ix (ix_listK K rfl) (pv 1) (pv 0) (fun _ _ => rfl)) (pe_op op_mulM (pe_op op_sub (pv 2) pe_int) (pe_ix (ix_listK K rfl) (pv 3) (pv 0) (fun _ _ => rfl))))⟩)) pa_nil)))))))))), ?_⟩
  refine ⟨by show 1 <= sizeLine; decide, fun l1 hl1 => ?_⟩
  have u1 := same_upd (o := .lst [.int 0]) hl1
  refine ⟨_, rfl, _, _, rfl, rfl, l1, _, _, rfl, rfl, upd_same, by (first | lia | omega), by (first | lia | omega), ?_, fun l2 hl2 => ?_⟩
  ·rw [show ((m : Int) + 1).toNat = m + 1 by (first | lia | omega)]
   exact Nat.le_trans (by show 1 * (m + 1) <= 1000; (first | lia | omega)) (by decide)
  rw [show ((m : Int) + 1).toNat = m + 1 by (first | lia | omega)]
  have u2 := u1.trans (same_upd (o := .lst (List.replicate (m + 1) [V.int 0]).flatten) hl2)
  refine ⟨_, rfl, a, _, rfl, .inr (u2.seqT ha), fun l3 hl3 => ?_⟩
  have v3 := same_upd (o := .lst us) hl3
  have u3 := u2.trans v3
  refine ⟨l2, l3, _, _, rfl, rfl, v3 _ _ upd_same, upd_same, ?_, fun l4 hl4 => ?_⟩
  ·rw [rep_flat, List.length_replicate]
   exact Nat.le_trans (by show m + 1 + us.length <= 2000; (first | lia | omega)) (by decide)
  have v4 := same_upd (o := .lst ((List.replicate (m + 1) [V.int 0]).flatten ++ us)) hl4
  refine ⟨by show 1 <= sizeLine; decide, fun l5 hl5 => ?_⟩
  have v5 := same_upd (o := .lst [.int 0]) hl5
  refine ⟨_, rfl, _, rfl, _, _, rfl, rfl, _, _, rfl, rfl, cmul_small (by (first | lia | omega)) (by (first | lia | omega)), _, _, rfl, rfl, l5, _, _, rfl, rfl, upd_same, ?_⟩
  rw [hcast]
  refine ⟨by (first | lia | omega), by (first | lia | omega), ?_, fun l6 hl6 => ?_⟩
  ·rw [Int.toNat_natCast]
   exact Nat.le_trans (by show 1 * (m * (m + 1) + 2) <= 5000; (first | lia | omega)) (by decide)
  rw [Int.toNat_natCast]
  have v6 := same_upd (o := .lst (List.replicate (m * (m + 1) + 2) [V.int 0]).flatten) hl6
  refine ⟨l4, l6, _, _, rfl, rfl, v6 _ _ (v5 _ _ upd_same), upd_same, ?_, fun l7 hl7 => ?_⟩
  ·rw [List.length_append, rep_flat, rep_flat, List.length_replicate, List.length_replicate]
   exact Nat.le_trans (by show m + 1 + us.length + (m * (m + 1) + 2) <= 7000; (first | lia | omega)) (by decide)
  rw [show (List.replicate (m + 1) [V.int 0]).flatten ++ us ++ (List.replicate (m * (m + 1) + 2) [V.int 0]).flatten = wideV m us by rw [rep_flat, rep_flat]; rfl]
  have wm : MxL (wideV m us) (wideZ m ns) := wide_mx mx
  have wl : (wideV m us).length = m + 1 + us.length + (m * (m + 1) + 2) := by rw [wm.1, wideZ_len, hus]
  have v7 := same_upd (o := .lst (wideV m us)) hl7
  have u7 := (((u3.trans v4).trans v5).trans v6).trans v7
  refine ⟨_, rfl, _, rfl, _, _, rfl, rfl, _, rfl, l7, _, rfl, SqL.of upd_same, fun l8 hl8 => ?_⟩
  rw [show ((m : Int) + 1) = ((m + 1 : Nat) : Int) by (first | lia | omega), cutV_fromV]
  have v8 := same_upd (o := .lst ((wideV m us).drop (m + 1))) hl8
  have u8 := u7.trans v8
  refine ⟨_, rfl, rfl, _, rfl, ?_⟩
  by_cases hkc : kind = "crossed"
  ·rw [decide_eq_true (by rw [hkc])]
   refine iteT ?_
   have mb : m <= 28 := by unfold b15 at m2; rw [if_pos hkc] at m2; exact m2
   have t1 := tri_le mb
   have kr : rowOf kind m ns = crossedRow m ns := by unfold rowOf; rw [if_pos hkc]
   rw [kr] at k
   refine ⟨_, rfl, _, rfl, _, _, rfl, rfl, _, _, rfl, rfl, cmul_small (by (first | lia | omega)) (by (first | lia | omega)), _, _, rfl, rfl, ⟨by decide, by decide⟩, _, _, rfl, rfl, _, rfl, ?_⟩
   rw [tri_cast m1]
   refine ⟨by (first | lia | omega), by (first | lia | omega), ?_⟩
   refine lc_tabG (fun k => win ns (k - (m : Int) + 1) m) (by (first | lia | omega)) (fun k k0 k1 H' s' Q' q => ?_) fun acc H' hacc sm hys => ?_
   ·refine ⟨_, rfl, _, rfl, _, _, rfl, rfl, _, rfl, _, rfl, _, rfl, _, _, rfl, rfl, _, _, rfl, rfl, _, rfl, l7, _, rfl, SqL.of (s' _ _ (v8 _ _ upd_same)), fun p hp => ?_⟩
    rw [show k + 2 = ((k + 2).toNat : Int) by (first | lia | omega), show k + (m : Int) + 2 = ((k + (m : Int) + 2).toNat : Int) by (first | lia | omega), cutV_midV]
    refine ⟨p, _, _, rfl, upd_same, (wm.drop _).take _, ?_⟩
    rw [sum_cut, win_wide, show (k + (m : Int) + 2).toNat - (k + 2).toNat = m by (first | lia | omega), show ((k + 2).toNat : Int) - ((m : Int) + 1) = k - (m : Int) + 1 by (first | lia | omega)]
    exact q _ (same_upd hp)
   ·refine ⟨acc, _, rfl, .inl ⟨SqL.of hys, fun p hp => ?_⟩⟩
    exact k p _ ((u8.trans sm).trans (same_upd hp)) upd_same
  rw [decide_eq_false (fun e => hkc (V.str.inj e))]
  refine iteF ?_
  refine ⟨_, rfl, _, rfl, _, rfl, l7, _, rfl, SqL.of (v8 _ _ upd_same), fun l9 hl9 => ?_⟩
  rw [cutV_fromV]
  have v9 := same_upd (o := .lst ((wideV m us).drop m)) hl9
  have u9 := u8.trans v9
  have hrow := v9 _ _ (upd_same (H := _) (a := l8) (o := .lst ((wideV m us).drop (m + 1))))
  have ln1 : ((wideV m us).drop (m + 1)).length = us.length + (m * (m + 1) + 2) := by rw [List.length_drop, wl]; (first | lia | omega)
  have xr := wm.drop (m + 1)
  have xl := wm.drop m
  have ln2 : ((wideV m us).drop m).length = 1 + us.length + (m * (m + 1) + 2) := by rw [List.length_drop, wl]; (first | lia | omega)
  refine ⟨_, rfl, rfl, _, rfl, ?_⟩
  by_cases hkr : kind = "rises"
  ·rw [decide_eq_true (by rw [hkr])]
   refine iteT ?_
   have kr : rowOf kind m ns = risesRow m ns := by unfold rowOf; rw [if_neg hkc, if_pos hkr]
   rw [kr] at k
   refine ⟨_, rfl, _, rfl, by (first | lia | omega), by (first | lia | omega), ?_⟩
   refine lc_tab (n := m) (fun k => (k + 1) * atZ ns k + ((m : Int) - k) * atZ ns (k - 1)) (by (first | lia | omega)) (fun k k0 k1 H' s' Q' q => ?_) fun acc hacc => ?_
   ·obtain ⟨v1, e1, i1⟩ := xr.at k0 (by (first | lia | omega))
    obtain ⟨v2, e2, i2⟩ := xl.at k0 (by (first | lia | omega))
    rw [wide_row k0] at i1
    rw [wide_lower k0] at i2
    exact ⟨_, rfl, _, _, rfl, rfl, _, rfl, _, rfl, l8, _, _, v1, rfl, rfl, SqL.of (s' _ _ hrow), e1, _, _, rfl, i1, cmul_small (by (first | lia | omega)) (by (first | lia | omega)), _, rfl, _, rfl, _, _, rfl, rfl, _, rfl, _, rfl, l9, _, _, v2, rfl, rfl, SqL.of (s' _ _ upd_same), e2, _, _, rfl, i2, cmul_small (by (first | lia | omega)) (by (first | lia | omega)), _, _, rfl, rfl, q⟩
   ·refine ⟨acc, _, rfl, .inl ⟨SqL.of upd_same, fun p hp => ?_⟩⟩
    exact k p _ ((u9.trans (same_upd hacc)).trans (same_upd hp)) upd_same
  rw [decide_eq_false (fun e => hkr (V.str.inj e))]
  refine iteF ?_
  refine ⟨_, rfl, rfl, _, rfl, ?_⟩
  by_cases hks : kind = "stays"
  ·rw [decide_eq_true (by rw [hks])]
   refine iteT ?_
   have kr : rowOf kind m ns = staysRow m ns := by unfold rowOf; rw [if_neg hkc, if_neg hkr, if_pos hks]
   rw [kr] at k
   refine ⟨_, rfl, _, _, rfl, rfl, _, rfl, by (first | lia | omega), by (first | lia | omega), ?_⟩
   refine lc_tab (n := m + 1) (fun k => atZ ns (k - 1) + ((m : Int) - 1 - k) * atZ ns k + (k + 1) * atZ ns (k + 1)) (by (first | lia | omega)) (fun k k0 k1 H' s' Q' q => ?_) fun acc hacc => ?_
   ·obtain ⟨v1, e1, i1⟩ := xl.at k0 (by (first | lia | omega))
    obtain ⟨v2, e2, i2⟩ := xr.at k0 (by (first | lia | omega))
    obtain ⟨v3, e3, i3⟩ := xr.at (i := k + 1) (by (first | lia | omega)) (by (first | lia | omega))
    rw [wide_lower k0] at i1
    rw [wide_row k0] at i2
    rw [wide_row (k := k + 1) (by (first | lia | omega))] at i3
    refine ⟨_, rfl, _, rfl, l9, _, _, v1, rfl, rfl, SqL.of (s' _ _ upd_same), e1, _, rfl, _, _, rfl, rfl, _, rfl, _, _, rfl, rfl, _, rfl, _, rfl, l8, _, _, v2, rfl, rfl, SqL.of (s' _ _ hrow), e2, _, _, rfl, i2, cmul_small (by (first | lia | omega)) (by (first | lia | omega)), _, _, i1, rfl, ?_⟩
    exact ⟨_, rfl, _, _, rfl, rfl, _, rfl, _, rfl, _, _, rfl, rfl, l8, _, _, v3, rfl, rfl, SqL.of (s' _ _ hrow), e3, _, _, rfl, i3, cmul_small (by (first | lia | omega)) (by (first | lia | omega)), _, _, rfl, rfl, q⟩
   ·refine ⟨acc, _, rfl, .inl ⟨SqL.of upd_same, fun p hp => ?_⟩⟩
    exact k p _ ((u9.trans (same_upd hacc)).trans (same_upd hp)) upd_same
  rw [decide_eq_false (fun e => hks (V.str.inj e))]
  refine iteF ?_
  have kr : rowOf kind m ns = roundsRow m ns := by unfold rowOf; rw [if_neg hkc, if_neg hkr, if_neg hks]
  rw [kr] at k
  refine ⟨_, rfl, _, _, rfl, rfl, _, rfl, by (first | lia | omega), by (first | lia | omega), ?_⟩
  refine lc_tab (n := m + 1) (fun k => atZ ns (k - 1) + ((m : Int) - 1) * atZ ns k) (by (first | lia | omega)) (fun k k0 k1 H' s' Q' q => ?_) fun acc hacc => ?_
  ·obtain ⟨v1, e1, i1⟩ := xl.at k0 (by (first | lia | omega))
   obtain ⟨v2, e2, i2⟩ := xr.at k0 (by (first | lia | omega))
   rw [wide_lower k0] at i1
   rw [wide_row k0] at i2
   exact ⟨_, rfl, _, rfl, l9, _, _, v1, rfl, rfl, SqL.of (s' _ _ upd_same), e1, _, rfl, _, _, rfl, rfl, _, rfl, _, rfl, l8, _, _, v2, rfl, rfl, SqL.of (s' _ _ hrow), e2, _, _, rfl, i2, cmul_small (by (first | lia | omega)) (by (first | lia | omega)), _, _, i1, rfl, q⟩
  ·refine ⟨acc, _, rfl, .inl ⟨SqL.of upd_same, fun p hp => ?_⟩⟩
   exact k p _ ((u9.trans (same_upd hacc)).trans (same_upd hp)) upd_same
end
end K15
namespace L2
open PySem PySem.Spec PyProof.Rows
mutual
noncomputable def noL : PyData -> Bool
 | .list _ => false
 | .dict _ => false
 | .tuple ds => noLs ds
 | _ => true
noncomputable def noLs : List PyData -> Bool
 | [] => true
 | d :: r => noL d && noLs r
end
mutual
theorem IsY.toNo {S : Addr -> Prop} {H : Hp} : ∀ {v : V} {d : PyData}, noL d = true -> IsY S H v d -> IsY (fun _ => False) H v d
 | _, _, _, .non => .non
 | _, _, _, .bl b => .bl b
 | _, _, _, .int i => .int i
 | _, _, _, .str x => .str x
 | _, _, h, .tup e al => .tup e (IsAllY.toNo (by simpa only [noL] using h) al)
 | _, _, h, .lst _ _ _ => by simp [noL] at h
 | _, _, h, .d0 _ => by simp [noL] at h
 | _, _, h, .d1 _ _ => by simp [noL] at h
theorem IsAllY.toNo {S : Addr -> Prop} {H : Hp} : ∀ {v : List V} {d : List PyData}, noLs d = true -> IsAllY S H v d -> IsAllY (fun _ => False) H v d
 | _, _, _, .nil => .nil
 | _, _, h, .cons a t => by
  rw [noLs, Bool.and_eq_true] at h
  exact .cons (IsY.toNo h.1 a) (IsAllY.toNo h.2 t)
end
mutual
theorem mapNo1 {H H' : Hp} (hm : ∀ (a : Addr) (xs : List V), H a = some (.tup xs) -> H' a = some (.tup xs)) : ∀ {v : V} {d : PyData}, noL d = true -> IsY (fun _ => False) H v d -> IsY (fun _ => False) H' v d
 | _, _, _, .non => .non
 | _, _, _, .bl b => .bl b
 | _, _, _, .int i => .int i
 | _, _, _, .str x => .str x
 | _, _, h, .tup e al => .tup (hm _ _ e) (mapNo hm (by simpa only [noL] using h) al)
 | _, _, h, .lst _ _ _ => by simp [noL] at h
 | _, _, h, .d0 _ => by simp [noL] at h
 | _, _, h, .d1 _ _ => by simp [noL] at h
theorem mapNo {H H' : Hp} (hm : ∀ (a : Addr) (xs : List V), H a = some (.tup xs) -> H' a = some (.tup xs)) : ∀ {v : List V} {d : List PyData}, noLs d = true -> IsAllY (fun _ => False) H v d -> IsAllY (fun _ => False) H' v d
 | _, _, _, .nil => .nil
 | _, _, h, .cons a t => by
  rw [noLs, Bool.and_eq_true] at h
  exact .cons (mapNo1 hm h.1 a) (mapNo hm h.2 t)
end
theorem pot_back {p q : Addr} {H H' : Hp} (hp : Pot H' p q) (k : Keep p q H H') {l : Addr} (h : H' l = none) : H l = none := by
 obtain ⟨ns, sd, tn, h1, h2, _⟩ := hp
 cases e : H l with
 | none => rfl
 | some o =>
  have n1 : l ≠ p := fun z => by rw [z, h1] at h; cases h
  have n2 : l ≠ q := fun z => by rw [z, h2] at h; cases h
  rw [k l o e n1 n2] at h
  cases h
theorem IsAllY.dropY {S : Addr -> Prop} {H : Hp} : ∀ {v : List V} {d : List PyData} (n : Nat), IsAllY S H v d -> IsAllY S H (v.drop n) (d.drop n)
 | _, _, 0, h => by rw [List.drop_zero, List.drop_zero]; exact h
 | _, _, n + 1, .nil => .nil
 | _, _, n + 1, .cons a t => by rw [List.drop_succ_cons, List.drop_succ_cons]; exact IsAllY.dropY n t
theorem IsAllY.takeY {S : Addr -> Prop} {H : Hp} : ∀ {v : List V} {d : List PyData} (n : Nat), IsAllY S H v d -> IsAllY S H (v.take n) (d.take n)
 | _, _, 0, _ => by rw [List.take_zero, List.take_zero]; exact .nil
 | _, _, n + 1, .nil => .nil
 | _, _, n + 1, .cons a t => by rw [List.take_succ_cons, List.take_succ_cons]; exact .cons a (IsAllY.takeY n t)
theorem IsAllY.revY {S : Addr -> Prop} {H : Hp} : ∀ {v : List V} {d : List PyData}, IsAllY S H v d -> IsAllY S H v.reverse d.reverse
 | _, _, .nil => .nil
 | _, _, .cons a t => by
  rw [List.reverse_cons, List.reverse_cons]
  exact (IsAllY.revY t).append (.cons a .nil)
theorem cutToV (xs : List V) (k : Nat) : cutV xs none (some (k : Int)) = xs.take k := by
 unfold cutV
 rw [HT.sIx_nat, HT.sIx_none]
 by_cases h : k <= xs.length
 ·rw [Nat.min_eq_left h]; simp
 ·rw [Nat.min_eq_right (by (first | lia | omega))]
  simp only [List.drop_zero]
  rw [List.take_of_length_le (by (first | lia | omega)), List.take_of_length_le (by (first | lia | omega))]
theorem noL_take : ∀ {ds : List PyData} (n : Nat), noLs ds = true -> noLs (ds.take n) = true
 | _, 0, _ => rfl
 | [], n + 1, _ => rfl
 | d :: r, n + 1, h => by
  rw [noLs, Bool.and_eq_true] at h
  rw [List.take_succ_cons, noLs, Bool.and_eq_true]
  exact ⟨h.1, noL_take n h.2⟩
theorem Keep.tupS {p q : Addr} {H H' : Hp} (k : Keep p q H H') (hp : Pot H p q) : ∀ (a : Addr) (xs : List V), H a = some (.tup xs) -> H' a = some (.tup xs) := by
 obtain ⟨ns, sd, tn, h1, h2, _⟩ := hp
 exact fun a xs e => k a _ e (ne_of e h1 (by intro z; cases z)) (ne_of e h2 (by intro z; cases z))
end L2
namespace L2
open PySem PySem.Spec PyProof.Rows
noncomputable def rEqE : R2 := fun x y H Q => ∃ (a b : Addr) (vs : List V), x = .ref a /\ y = .ref b /\ H a = some (.tup vs) /\ H b = some (.tup []) /\ Q (.bl vs.isEmpty) H
theorem op_eqE {X : Cx} (hu : X.A.units + 64 < cLine) : OpR X (compareOp .Eq) rEqE := by
 intro pins s σ H x y v u Q I rx ry h
 obtain ⟨a, b, vs, rfl, rfl, ha, hb, q⟩ := h
 cases rx
 cases ry
 obtain ⟨its, rv, ⟨o, ho, hc, n, hd⟩, _⟩ := I.tuple (SqT.of (K := X.K) ha)
 obtain ⟨its2, rv2, ⟨o2, ho2, hc2, n2, hd2⟩, _⟩ := I.tuple (SqT.of (K := X.K) hb)
 cases rv2
 have := SeqAt.RcAt.tuples (A := X.A) (e := fun _ => true) ⟨o, ho, hc, n, hd⟩ ⟨o2, ho2, hc2, n2, hd2⟩ (by (first | lia | omega)) (fun j _ j2 => absurd j2 (by simp)) X.prog X.w
 have e : ((List.range (min its.toArray.size ([] : List Value).toArray.size)).all (fun _ => true) && its.toArray.size == ([] : List Value).toArray.size) = vs.isEmpty := by
  have hl : its.length = vs.length := rv.length.symm
  cases vs with
  | nil =>
   have : its = [] := List.eq_nil_of_length_eq_zero (by simpa using hl)
   subst this
   rfl
  | cons v r =>
   have h0 : its.length ≠ 0 := by rw [hl]; simp
   simp [h0]
 rw [e] at this
 exact this _ _ ⟨.bl _, H, I, rfl, q⟩
noncomputable def rowsD15 (kind : Str) (n : Nat) : List PyData := (rowsZ kind n).map tI
theorem rowsD15_len (kind : Str) (n : Nat) : (rowsD15 kind n).length = n + 1 := by
 unfold rowsD15
 rw [List.length_map, rowsZ_len]
theorem rowsD15_succ (kind : Str) (n : Nat) : rowsD15 kind (n + 1) = rowsD15 kind n ++ [tI (rowZ kind (n + 1))] := by
 unfold rowsD15
 rw [rowsZ_succ, List.map_append]
 rfl
theorem rowsD15_at (kind : Str) {n i : Nat} (h : i <= n) : (rowsD15 kind n)[i]? = some (tI (rowZ kind i)) := by
 unfold rowsD15 rowsZ
 rw [List.map_map, List.getElem?_map, List.getElem?_range (by (first | lia | omega))]
 rfl
theorem noL_ints : ∀ ns : List Int, noLs (ns.map PyData.int) = true
 | [] => rfl
 | n :: r => by
  rw [List.map_cons, noLs, noL_ints r]
  rfl
theorem noL_app : ∀ {a b : List PyData}, noLs a = true -> noLs b = true -> noLs (a ++ b) = true
 | [], _, _, h => h
 | x :: a, b, h, k => by
  rw [noLs, Bool.and_eq_true] at h
  rw [List.cons_append, noLs, h.1, noL_app h.2 k]
  rfl
theorem noL_tIs : ∀ l : List (List Int), noLs (l.map tI) = true
 | [] => rfl
 | r :: l => by
  rw [List.map_cons, noLs, noL_tIs l, show noL (tI r) = noLs (r.map PyData.int) from rfl, noL_ints]
  rfl
theorem tI_get {S : Addr -> Prop} {H : Hp} {v : V} {ns : List Int} (h : IsY S H v (tI ns)) : ∃ z, v = .ref z /\ H z = some (.tup (ns.map V.int)) := by
 have h : IsY S H v (.tuple (ns.map PyData.int)) := h
 cases h with
 | tup e al =>
  have := ints_of al (by rw [List.all_map]; simp [whD])
  rw [this] at e
  refine ⟨_, rfl, ?_⟩
  rw [e, List.map_map, List.map_map]
  rfl
theorem neK_ints {K : PySem.W.Frag} {G : Hp} {b p : Addr} {m n : List Int} {C : VK} (hb : G b = some (.tup (m.map V.int))) (hp : G p = some (.tup (n.map V.int))) (q : C (.bl (!decide (m = n))) G) : rNeK K (.ref b) (.ref p) G C := by
 refine ⟨_, _, IsK.ints (SqT.of hb), IsK.ints (SqT.of hp), shaped_tints _, shaped_tints _, ?_⟩
 have : PyData.eqv (.tuple (m.map PyData.int)) (.tuple (n.map PyData.int)) = decide (m = n) := by
  show PyData.eqvAll _ _ = _
  rw [eqv_ints]
 rw [this]
 exact q
noncomputable def spRowsL15 : Sp := fun vs H Q _ => ∃ (kind : Str) (m : Nat), vs = [.str kind, .int m] /\ kind ∈ kinds5 /\ m <= b15 kind /\ ∀ p us H', Same H H' -> H p = none -> H' p = some (.lst us) -> IsAllY (fun _ => False) H' us (rowsD15 kind m) -> Q (.ref p) H'
end L2
namespace K15
open PySem PySem.Spec PyProof.Rows L2
noncomputable abbrev s__law_rows : Stmt := top 19
noncomputable abbrev s__law_are_rows : Stmt := top 20
section
variable {P : Program} {w : World} {K : PySem.W.Frag} {mg : Str -> Option Value} {base : Heap}
theorem sc__law_rows : FnScope ["_law_kind", "_law_many", "_law_rows_here", "_law_n"] ["_law_kind", "_law_many"] (defScope s__law_rows) := ⟨rfl, rfl, rfl, by decide +kernel, rfl, by decide +kernel, by decide +kernel⟩
theorem ok__law_rows {f : Addr} {fd : FuncData} (F : Fun K "_law_rows" "_law_rows" s__law_rows f fd) (T : Top mg) (C_law_behind : Cal P w K mg base 1 "_law_behind" ["_law_kind", "_law_n", "_law_ahead"] (spBehM K)) : FnOk P w K mg base CX0 2 f fd ["_law_kind", "_law_many"] spRowsL15 := by
 refine F.ok sc__law_rows (fun vs H Q E h => ?_) (fun cdv A outer s H vs Q E hr h => ?_)
 ·obtain ⟨kind, m, rfl, _⟩ := h
  rfl
 ·obtain ⟨kind, m, rfl, hk, hm, k⟩ := h
  have hb := b15_le kind
  refine ⟨_, (pss_cons (ps_set (i := 2) sc__law_rows.nd rfl (Or.inl rfl) (pe_lst (pa_cons (pe_tup (pa_cons pe_int pa_nil)) pa_nil)))
   (pss_cons (ps_for PassesOwn.never rfl (pi_range2 rfl T.n_range (pa_cons pe_int (pa_cons (pe_op op_add (pv 1) pe_int) pa_nil))) (pg_name (i := 3) sc__law_rows.nd rfl (Or.inl rfl))
    (pss_one (ps_expr (pe_bm PySem.F.plainAttrs_list PySem.F.slot_list_append PySem.F.type_list_append mt_append (pv 2) (pa_cons (pe_cal C_law_behind (hr.mono (by decide)) rfl (pa_cons (pv 0) (pa_cons (pv 3) (pa_cons (pe_ix ix_list (pv 2) (pe_un un_neg pe_int) (fun _ _ => rfl)) pa_nil)))) pa_nil)))))
   (pss_one (ps_ret (pv 2))))), ?_⟩
  refine ⟨by show 1 <= sizeLine; decide, fun t ht => ⟨by show 1 <= sizeLine; decide, fun l hl => ?_⟩⟩
  have s0 := same_upd (o := .tup [.int 1]) ht
  have s1 := same_upd (o := .lst [.ref t]) hl
  have hlH := s0.free hl
  refine ⟨_, rfl, _, _, rfl, rfl, _, _, rfl, ⟨by decide, by decide, by (first | lia | omega), by (first | lia | omega)⟩, ?_⟩
  rw [show ((m : Int) + 1 - 1).toNat = m by (first | lia | omega)]
  refine for_range (fun i σ H2 => ∃ (us : List V) (c3 : Option V), σ = [some (.str kind), some (.int m), some (.ref l), c3] /\ Same H H2 /\ H2 l = some (.lst us) /\ IsAllY (fun _ => False) H2 us (rowsD15 kind i)) ?_ ?_ ?_
  ·exact ⟨[.ref t], none, rfl, s0.trans s1, upd_same, .cons (.tup (s1 _ _ upd_same) (.cons (.int 1) .nil)) .nil⟩
  ·rintro i σ H2 hi ⟨us, c3, rfl, sm, hl2, R⟩
   have ez : us.length = i + 1 := by rw [R.len, rowsD15_len]
   have hz : us[i]? = some us[i] := List.getElem?_eq_getElem (by (first | lia | omega))
   obtain ⟨e, he, ye⟩ := R.at hz
   rw [rowsD15_at kind (Nat.le_refl i)] at he
   cases he
   obtain ⟨z, ez2, hzr⟩ := tI_get ye
   refine ⟨_, rfl, .inl ⟨rfl, _, SqL.of hl2⟩, ?_⟩
   refine ⟨_, rfl, _, rfl, _, rfl, _, rfl, l, _, _, us[i], rfl, rfl, SqL.of hl2, ?_, ?_⟩
   ·show atI us (-1) = some us[i]
    rw [atI_neg1 (by (first | lia | omega)), show us.length - 1 = i by (first | lia | omega), hz]
   refine ⟨kind, i + 1, z, _, rowZ kind i, ?_, hk, by (first | lia | omega), by (first | lia | omega), SqT.of hzr, MxL.ints _, Nat.le_trans (rowZ15_len (by (first | lia | omega))) (by decide), fun p H3 s3 hp => ?_⟩
   ·rw [show (1 : Int) + (i : Int) = ((i + 1 : Nat) : Int) by (first | lia | omega), ez2]
   have hl3 := s3 _ _ hl2
   refine ⟨l, _, _, rfl, rfl, hl3, small1 (by (first | lia | omega)), us ++ [.ref p], _, rfl, same_updR (sm.trans s3) hlH, upd_same, ?_⟩
   rw [rowsD15_succ]
   have ap : IsAllY (fun _ => False) H3 (us ++ [.ref p]) (rowsD15 kind i ++ [tI (rowZ kind (i + 1))]) := (R.same s3).append (.cons (.tup hp (IsAllY.ints _)) .nil)
   refine mapNo (fun a xs e => ?_) (noL_app (noL_tIs _) (noL_tIs [_])) ap
   rw [upd_ne (fun z => by rw [z, hl3] at e; cases e)]
   exact e
  ·rintro σ H2 ⟨us, c3, rfl, sm, hl2, R⟩
   exact ⟨_, rfl, k l us _ sm hlH hl2 R⟩
theorem sc__law_are_rows : FnScope ["_law_kind", "_law_thing", "_law_n", "_law_row"] ["_law_kind", "_law_thing"] (defScope s__law_are_rows) := ⟨rfl, rfl, rfl, by decide +kernel, rfl, by decide +kernel, by decide +kernel⟩
theorem ok__law_are_rows {f : Addr} {fd : FuncData} (F : Fun K "_law_are_rows" "_law_are_rows" s__law_are_rows f fd) (T : Top mg) (C_law_behind : Cal P w K mg base 1 "_law_behind" ["_law_kind", "_law_n", "_law_ahead"] (spBehM K)) : FnOk P w K mg base CX0 2 f fd ["_law_kind", "_law_thing"] spSteps15 := by
 refine F.ok sc__law_are_rows (fun vs H Q E h => ?_) (fun cdv A outer s H vs Q E hr h => ?_)
 ·obtain ⟨S, x, d, kd, rfl, _⟩ := h
  rfl
 ·obtain ⟨S, x, d, kd, rfl, hkd, yd, hP, k⟩ := h
  have hu : _ := hr.units
  refine ⟨_, (pss_cons (ps_if (PW.pt (pw_or (pt_not (pt_val (pe_callB call_isi (by rfl) T.n_isinstance boot_isinstance (pa_cons (pv 1) (pa_cons (pe_bltn (v := .ty "tuple") rfl T.n_tuple boot_tuple rfl) pa_nil))))) (pw_or1 (pt_cmpR (op_eqE hu) (pv 1) (pe_tup pa_nil) (nomark _)))))
    (pss_one (ps_ret pe_bl))
    pss_nil)
   (pss_cons (ps_for PassesOwn.never rfl (pi_enumT rfl T.n_enumerate (pa_cons (pv 1) pa_nil)) (pg_pair (i := 2) (j := 3) rfl sc__law_are_rows.nd rfl rfl (Or.inl rfl) (Or.inl rfl) (Or.inl rfl) (Or.inl rfl))
    (pss_cons (ps_if (PW.pt (pw_or (pt_not (pt_val (pe_callB call_isi (by rfl) T.n_isinstance boot_isinstance (pa_cons (pv 3) (pa_cons (pe_bltn (v := .ty "tuple") rfl T.n_tuple boot_tuple rfl) pa_nil))))) (pw_or1 (pt_not (pt_val (pe_callB (call_all rfl) (by rfl) T.n_all boot_all (pa_cons (pe_lc (N' := ["_law_one"]) (n := 1) (ix := []) rfl (CompScope.of (sc := defScope s__law_are_rows) (N := ["_law_kind", "_law_thing", "_law_n", "_law_row"]) (by decide +kernel) rfl rfl) (pi_tup (pv 3)) (fun _ _ _ _ _ => ⟨(pg_name (i := 0) (show (["_law_one"] : List Str).Nodup by decide +kernel) rfl (Or.inl rfl)), pts_nil, (pe_and (pe_callB (call_isiK K rfl) (by rfl) T.n_isinstance boot_isinstance (pa_cons (pv 0) (pa_cons (pe_bltn (v := .ty "int") rfl T.n_int boot_int rfl) pa_nil))) (pe_one (pe_not (pe_callB (call_isiK K rfl) (by rfl) T.n_isinstance boot_isinstance (pa_cons (pv 0) (pa_cons (pe_bltn (v := .ty "bool") rfl T.n_bool boot_bool rfl) pa_nil))))))⟩)) pa_nil)))))))
     (pss_one (ps_ret pe_bl))
     pss_nil)
    (pss_one (ps_if (pt_cmpR (op_neK hu) (pv 3) (pe_ifExp (pt_cmpR op_eq (pv 2) pe_int (nomark _)) (pe_tup (pa_cons pe_int pa_nil)) (pe_cal C_law_behind (hr.mono (by decide)) rfl (pa_cons (pv 0) (pa_cons (pv 2) (pa_cons (pe_ix ix_tup (pv 1) (pe_op op_sub (pv 2) pe_int) (fun _ _ => rfl)) pa_nil))))) (nomark _))
     (pss_one (ps_ret pe_bl))
     pss_nil))))
   (pss_one (ps_ret pe_bl)))), ?_⟩
  obtain ⟨_, _, kT⟩ := kit7 (K := K) (tyD_in d)
  refine ⟨_, rfl, _, _, _, _, rfl, yd.ty, kT, _, rfl, ?_⟩
  rcases yd.isT with ⟨a, us, ds, rfl, rfl, ha, al⟩ | ⟨q, q'⟩
  ·obtain ⟨hl15, hz⟩ := hP ds rfl
   have hb15 := b15_le kd
   have hul := al.len
   refine iteF ⟨_, rfl, by show 0 <= sizeLine; decide, fun e0 he0 => ?_⟩
   have s0 := same_upd (o := .tup []) he0
   refine ⟨a, e0, us, rfl, rfl, s0 _ _ ha, upd_same, _, rfl, ?_⟩
   cases us with
   | nil =>
    have e : ds = [] := List.eq_nil_of_length_eq_zero hul.symm
    subst e
    exact iteT (k _ s0)
   | cons v0 us =>
    have hne : ds.isEmpty = false := by
     cases ds with
     | nil => simp at hul
     | cons _ _ => rfl
    refine iteF ?_
    have bad : ∀ {i : Nat} {G : Hp}, i < ds.length -> juE (rowZ kd i) (ds.getD i .none) = false -> Same H G -> Q (.bl false) G := fun {i} {G} hi hj sG => by
     have : stepsB kd (.tuple ds) = false := by
      show (!ds.isEmpty && _) = false
      rw [hne]
      have : ((List.range ds.length).all fun i => juE (rowZ kd i) (ds.getD i .none)) = false := by
       rw [List.all_eq_false]
       exact ⟨i, List.mem_range.mpr hi, by rw [hj]; decide⟩
      rw [this]; rfl
     rw [<- this]
     exact k G sG
    refine ⟨_, rfl, a, rfl, ⟨_, SqT.of (s0 _ _ ha)⟩, ?_⟩
    refine for_enum (K := K) (a := a) (xs := v0 :: us) (fun j σ G => ∃ c2 c3 : Option V, σ = [some (.str kd), some (.ref a), c2, c3] /\ Same H G /\ ∀ i, i < j -> juE (rowZ kd i) (ds.getD i .none) = true) ⟨_, _, rfl, s0, fun i hi => absurd hi (Nat.not_lt_zero i)⟩ (fun j σ G _ ⟨_, _, _, sm, _⟩ => SqT.of (sm _ _ ha)) ?_ ?_
    ·rintro j v t σ G hv ⟨c2, c3, rfl, sm, hok⟩ ht
     have st := same_upd (o := .tup [.int (j : Int), v]) ht
     obtain ⟨e, he, ye⟩ := al.at hv
     have hjd : j < ds.length := by
      have := List.getElem?_eq_some_iff.mp he
      exact this.1
     have ee : ds.getD j .none = e := by rw [List.getD_eq_getElem?_getD, he]; rfl
     have hze := hz e (List.mem_of_getElem? he)
     refine ⟨t, _, rfl, SqT.of upd_same, rfl, _, _, rfl, _, _, rfl, rfl, ?_⟩
     have sm2 := sm.trans st
     have hokj : ∀ {G : Hp}, juE (rowZ kd j) e = false -> Same H G -> Q (.bl false) G := fun h sG => bad hjd (by rw [ee]; exact h) sG
     generalize upd G t (.tup [.int (j : Int), v]) = G1 at sm2
     have ye1 := ye.same sm2
     obtain ⟨_, _, kT1⟩ := kit7 (K := K) (tyD_in e)
     refine ⟨_, rfl, _, _, _, _, rfl, ye1.ty, kT1, _, rfl, ?_⟩
     rcases ye1.isT with ⟨b, ws, es, rfl, rfl, hb, alb⟩ | ⟨q1, q2⟩
     ·refine iteF ⟨_, rfl, b, rfl, ⟨_, SqT.of hb⟩, ?_⟩
      have hwl : ws.length <= 1000 := by rw [alb.len]; exact hze.tup.1
      refine lc_growI (yields_tup (K := K) (a := b) (xs := ws)) (small1 hwl) (es.map whD) (by rw [List.length_map, alb.len]) (fun G sm => SqT.of (sm _ _ hb)) (fun i v b' G' hv' hb' sm' Q' q' => ?_) fun acc G2 hacc s2 hG2 => ?_
      ·obtain ⟨o, ho, yo⟩ := alb.at hv'
       rw [List.getElem?_map, ho] at hb'
       cases hb'
       have yo := yo.same sm'
       obtain ⟨k1, k2, _⟩ := kit7 (K := K) (tyD_in o)
       refine ⟨_, rfl, _, _, _, _, rfl, yo.ty, k1, _, rfl, ?_⟩
       cases yo with
       | int n => exact iteT ⟨_, rfl, _, _, _, _, rfl, (IsY.int (S := S) n).ty, k2, _, rfl, q' _ (Same.refl _)⟩
       | bl c => exact iteT ⟨_, rfl, _, _, _, _, rfl, (IsY.bl (S := S) c).ty, k2, _, rfl, q' _ (Same.refl _)⟩
       | _ => exact iteF (q' _ (Same.refl _))
      refine ⟨acc, _, rfl, hG2, _, rfl, ?_⟩
      by_cases cw : (es.map whD).all id = true
      ·rw [cw]
       have cw' : es.all whD = true := by rw [List.all_map] at cw; exact cw
       have ei := ints_of alb cw'
       have hj0 : juE (rowZ kd j) (.tuple es) = decide (es.map asI = rowZ kd j) := by
        show (es.all whD && _) = _
        rw [cw', Bool.true_and]
       refine iteF ?_
       have hb2 := s2 _ _ hb
       rw [ei] at hb2
       have sm3 := sm2.trans s2
       refine ⟨_, rfl, ?_⟩
       have fin : ∀ {G3 : Hp} {p : Addr}, Same G2 G3 -> G3 p = some (.tup ((rowZ kd j).map V.int)) -> G3 b = some (.tup ((es.map asI).map V.int)) /\ Same H G3 /\ ((!decide (es.map asI = rowZ kd j)) = true -> Q (.bl false) G3) /\ ((!decide (es.map asI = rowZ kd j)) = false -> ∀ i, i < j + 1 -> juE (rowZ kd i) (ds.getD i .none) = true) := fun {G3 p} s4 hp => by
        refine ⟨s4 _ _ hb2, sm3.trans s4, fun h => hokj (by rw [hj0]; simpa using h) (sm3.trans s4), fun h i hi => ?_⟩
        by_cases c : i = j
        ·rw [c, ee, hj0]
         simpa using h
        ·exact hok i (by (first | lia | omega))
       refine ⟨_, rfl, rfl, _, rfl, ?_⟩
       by_cases c0 : j = 0
       ·subst c0
        rw [decide_eq_true (show V.int ((0 : Nat) : Int) = V.int 0 from rfl)]
        refine iteT ⟨by show 1 <= sizeLine; decide, fun p hp => ?_⟩
        obtain ⟨f1, f2, f3, f4⟩ := fin (same_upd (o := .tup [.int 1]) hp) upd_same
        refine neK_ints f1 (n := rowZ kd 0) upd_same ⟨_, rfl, ?_⟩
        cases cc : (!decide (es.map asI = rowZ kd 0)) with
        | true => exact iteT (f3 cc)
        | false => exact iteF ⟨_, _, rfl, f2, f4 cc⟩
       ·rw [decide_eq_false (fun z => c0 (by have := V.int.inj z; (first | lia | omega)))]
        obtain ⟨i, rfl⟩ : ∃ i, j = i + 1 := ⟨j - 1, by (first | lia | omega)⟩
        have hvi : (v0 :: us)[i]? = some (v0 :: us)[i] := List.getElem?_eq_getElem (by (first | lia | omega))
        obtain ⟨o, ho, yo⟩ := al.at hvi
        have eo : ds.getD i .none = o := by rw [List.getD_eq_getElem?_getD, ho]; rfl
        have hoi := hok i (Nat.lt_succ_self i)
        rw [eo] at hoi
        have eo2 := juE_eq hoi
        subst eo2
        obtain ⟨z, ez, hz2⟩ := tI_get (ns := rowZ kd i) (yo.same sm3)
        refine iteF ⟨_, rfl, _, rfl, _, rfl, _, rfl, _, _, rfl, rfl, a, _, (i : Int), (v0 :: us)[i], rfl, congrArg V.int (by (first | lia | omega)), SqT.of (sm3 _ _ ha), atI_nat hvi, kd, i + 1, z, _, rowZ kd i, ?_, hkd, by (first | lia | omega), by (first | lia | omega), SqT.of hz2, MxL.ints _, Nat.le_trans (rowZ15_len (by (first | lia | omega))) (by decide), fun p G3 s4 hp => ?_⟩
        ·rw [ez]
        obtain ⟨f1, f2, f3, f4⟩ := fin s4 hp
        refine neK_ints f1 (n := rowZ kd (i + 1)) hp ⟨_, rfl, ?_⟩
        cases cc : (!decide (es.map asI = rowZ kd (i + 1))) with
        | true => exact iteT (f3 cc)
        | false => exact iteF ⟨_, _, rfl, f2, f4 cc⟩
      ·rw [show (es.map whD).all id = false by simpa using cw]
       refine iteT (hokj ?_ (sm2.trans s2))
       show (es.all whD && _) = false
       rw [show es.all whD = false by rw [List.all_map] at cw; simpa using cw]
       rfl
     ·rw [beq_eq_false_iff_ne.mpr q1]
      refine iteT (hokj ?_ sm2)
      cases e with
      | tuple es => exact absurd rfl (q2 es)
      | _ => rfl
    ·rintro σ G ⟨c2, c3, rfl, sm, hok⟩
     have : stepsB kd (.tuple ds) = true := by
      show (!ds.isEmpty && _) = true
      rw [hne]
      have : ((List.range ds.length).all fun i => juE (rowZ kd i) (ds.getD i .none)) = true := by
       rw [List.all_eq_true]
       intro i hi
       exact hok i (by rw [hul]; exact List.mem_range.mp hi)
      rw [this]; rfl
     have kk := k G sm
     rw [this] at kk
     exact kk
  ·rw [beq_eq_false_iff_ne.mpr q]
   refine iteT ?_
   have : stepsB kd d = false := by
    cases d with
    | tuple ds => exact absurd rfl (q' ds)
    | _ => rfl
   have kk := k H (Same.refl H)
   rw [this] at kk
   exact kk
end
end K15
namespace L2
open PySem PySem.Spec PyProof.Rows
theorem bulk_app : ∀ a b : List PyData, PyData.bulkAll (a ++ b) = PyData.bulkAll a + PyData.bulkAll b
 | [], b => by rw [List.nil_append, PyData.bulkAll, Nat.zero_add]
 | x :: a, b => by
  rw [List.cons_append, PyData.bulkAll, PyData.bulkAll, bulk_app a b]
  (first | lia | omega)
theorem bulk_take (a : List PyData) (n : Nat) : PyData.bulkAll (a.take n) <= PyData.bulkAll a := by
 have := bulk_app (a.take n) (a.drop n)
 rw [List.take_append_drop] at this
 (first | lia | omega)
theorem bulk_drop (a : List PyData) (n : Nat) : PyData.bulkAll (a.drop n) <= PyData.bulkAll a := by
 have := bulk_app (a.take n) (a.drop n)
 rw [List.take_append_drop] at this
 (first | lia | omega)
theorem bulk_rev : ∀ a : List PyData, PyData.bulkAll a.reverse = PyData.bulkAll a
 | [] => rfl
 | x :: a => by
  rw [List.reverse_cons, bulk_app, bulk_rev a, PyData.bulkAll, PyData.bulkAll, PyData.bulkAll]
  (first | lia | omega)
theorem smallL {n : Nat} (h : n <= 1000) : n <= sizeLine := Nat.le_of_lt (small1 h)
theorem text_bulk {n : Int} (h : n.natAbs.log2 < 500) : (PyData.str (toString n)).bulk <= 501 := by
 show (Str.ofString (toString n)).length <= 501
 rw [PySem.ofString_length]
 exact PySem.int_text_length_le (k := 500) (by decide) h
noncomputable def spRowBent : Sp := fun vs H Q _ => ∃ (p q r : Addr) (way : Nat) (ns : List Int), vs = [.ref p, .int way, .ref r] /\ way < 8 /\ Pot H p q /\ H r = some (.tup (ns.map V.int)) /\ 0 < ns.length /\ ns.length <= 379 /\ (∀ n ∈ ns, n.natAbs.log2 < 500) /\
 ∀ x d H', Pot H' p q -> Keep p q H H' -> IsY (fun a => H a = none) H' x d -> d.bulk <= 900 -> (way = 0 ∨ way = 2 -> ∃ ds, d = .tuple ds) -> Q x H'
end L2
namespace K15
open PySem PySem.Spec PyProof.Rows L2
noncomputable abbrev s__law_row_bent : Stmt := top 21
section
variable {P : Program} {w : World} {K : PySem.W.Frag} {mg : Str -> Option Value} {base : Heap}
theorem sc__law_row_bent : FnScope ["_law_pot_here", "_law_way", "_law_row", "_law_at", "_law_one", "_law_more", "_law_other"] ["_law_pot_here", "_law_way", "_law_row"] (defScope s__law_row_bent) := ⟨rfl, rfl, rfl, by decide +kernel, rfl, by decide +kernel, by decide +kernel⟩
set_option maxHeartbeats 8000000 in
theorem ok__law_row_bent {f : Addr} {fd : FuncData} (F : Fun K "_law_row_bent" "_law_row_bent" s__law_row_bent f fd) (T : Top mg) (TX : TopX mg) (C_law_take : Cal P w K mg base 1 "_law_take" ["_law_pot_here", "_law_many"] spTake) : FnOk P w K mg base CX0 2 f fd ["_law_pot_here", "_law_way", "_law_row"] spRowBent := by
 refine F.ok sc__law_row_bent (fun vs H Q E h => ?_) (fun cdv A outer s H vs Q E hr h => ?_)
 ·obtain ⟨p, q, r, way, ns, rfl, _⟩ := h
  rfl
 ·obtain ⟨p, q, r, way, ns, rfl, hw, hp, hrr, hn0, hn1, hbit, k⟩ := h
  have hu : _ := hr.units
  refine ⟨_, (pss_cons (ps_set (i := 3) sc__law_row_bent.nd rfl (Or.inl rfl) (pe_cal C_law_take (hr.mono (by decide)) rfl (pa_cons (pv 0) (pa_cons (pe_callB (call_max2 rfl) (by rfl) T.n_max boot_max (pa_cons pe_int (pa_cons (pe_callB call_len_seq (by rfl) T.n_len PySem.boot_len (pa_cons (pv 2) pa_nil)) pa_nil))) pa_nil))))
   (pss_cons (ps_set (i := 4) sc__law_row_bent.nd rfl (Or.inl rfl) (pe_ifExp (pt_cmpR (op_neK hu) (pv 2) (pe_tup pa_nil) (nomark _)) (pe_ix ix_tup (pv 2) (pv 3) (fun _ _ => rfl)) pe_int))
   (pss_cons (ps_set (i := 5) sc__law_row_bent.nd rfl (Or.inl rfl) (pe_lst (pa_cons (pe_op op_add (pv 4) pe_int) (pa_cons (pe_op op_sub (pv 4) pe_int) (pa_cons (pe_un un_neg (pv 4)) (pa_cons (pe_callTy call_bool1 (by rfl) T.n_bool boot_bool (pa_cons (pv 4) pa_nil)) (pa_cons (pe_callTy call_str_int (by rfl) TX.n_str boot_str (pa_cons (pv 4) pa_nil)) (pa_cons pe_non (pa_cons (pe_tup (pa_cons (pv 4) pa_nil)) (pa_cons (pe_op op_pow pe_int pe_int) pa_nil))))))))))
   (pss_cons (ps_if (pt_cmpR op_eq (pv 1) pe_int (nomark _))
    (pss_one (ps_ret (pe_op op_cat2 (pe_op op_cat2 (pe_slice sl_tupA (pv 2) po_none (po_some (pv 3))) (pe_tup (pa_cons (pe_ix ix_list (pv 5) (pe_cal C_law_take (hr.mono (by decide)) rfl (pa_cons (pv 0) (pa_cons pe_int pa_nil))) (fun _ _ => rfl)) pa_nil))) (pe_slice sl_tupA (pv 2) (po_some (pe_op op_add (pv 3) pe_int)) po_none))))
    pss_nil)
   (pss_cons (ps_if (pt_cmpR op_eq (pv 1) pe_int (nomark _))
    (pss_one (ps_ret (pe_op op_cat2 (pe_slice sl_tupA (pv 2) po_none (po_some (pv 3))) (pe_slice sl_tupA (pv 2) (po_some (pe_op op_add (pv 3) pe_int)) po_none))))
    pss_nil)
   (pss_cons (ps_if (pt_cmpR op_eq (pv 1) pe_int (nomark _))
    (pss_one (ps_ret (pe_op op_cat2 (pv 2) (pe_tup (pa_cons (pe_ix ix_list (pe_lst (pa_cons pe_int (pa_cons pe_int pa_nil))) (pe_cal C_law_take (hr.mono (by decide)) rfl (pa_cons (pv 0) (pa_cons pe_int pa_nil))) (fun _ _ => rfl)) pa_nil)))))
    pss_nil)
   (pss_cons (ps_set (i := 6) sc__law_row_bent.nd rfl (Or.inl rfl) (pe_op op_cat2 (pe_op op_cat2 (pe_slice sl_tupA (pv 2) po_none (po_some (pv 3))) (pe_rev rv_tup (pe_slice sl_tupA (pv 2) (po_some (pv 3)) (po_some (pe_op op_add (pv 3) pe_int))))) (pe_slice sl_tupA (pv 2) (po_some (pe_op op_add (pv 3) pe_int)) po_none)))
   (pss_one (ps_ret (pe_ix ix_list (pe_lst (pa_cons (pe_callTy call_list_of (by rfl) T.n_list boot_list (pa_cons (pv 2) pa_nil)) (pa_cons (pe_rev rv_tup (pv 2)) (pa_cons (pe_tup (pa_cons (pv 2) pa_nil)) (pa_cons (pe_tup pa_nil) (pa_cons (pv 6) pa_nil)))))) (pe_op op_sub (pv 1) pe_int) (fun _ _ => rfl))))))))))), ?_⟩
  obtain ⟨ns0, sd0, tn0, hpp, hqq, _⟩ := id hp
  have nwp : ∀ a, H a = none -> a ≠ p /\ a ≠ q := fun a ha => ⟨fun z => (by rw [z, hpp] at ha; cases ha), fun z => (by rw [z, hqq] at ha; cases ha)⟩
  refine ⟨_, rfl, _, rfl, r, _, rfl, .inr (SqT.of hrr), _, _, rfl, ?_⟩
  rw [mapI_len]
  have em : (if (ns.length : Int) > 1 then (ns.length : Int) else 1) = (ns.length : Int) := by split <;> (first | lia | omega)
  rw [em]
  refine ⟨p, q, _, rfl, by (first | lia | omega), by (first | lia | omega), hp, fun d G1 d0 d1 hp1 kp1 => ?_⟩
  obtain ⟨at', rfl⟩ : ∃ m : Nat, d = (m : Int) := ⟨d.toNat, by (first | lia | omega)⟩
  have hat : at' < ns.length := by (first | lia | omega)
  have hr1 := kp1.tupS hp _ _ hrr
  refine ⟨_, rfl, by show 0 <= sizeLine; decide, fun e he => neK_ints (m := ns) (n := []) (same_upd (o := .tup []) he _ _ hr1) upd_same ⟨_, rfl, ?_⟩⟩
  have se := same_upd (o := .tup []) he
  rw [decide_eq_false (fun z : ns = [] => by rw [z] at hn0; exact absurd hn0 (Nat.lt_irrefl 0))]
  obtain ⟨one, hone⟩ : ∃ one, ns[at']? = some one := ⟨_, List.getElem?_eq_getElem hat⟩
  refine iteT ⟨_, rfl, _, rfl, r, _, _, (.int one), rfl, rfl, SqT.of (se _ _ hr1), atI_nat (by rw [List.getElem?_map, hone]; rfl), ?_⟩
  have hb1 := hbit one (List.mem_of_getElem? hone)
  have hpe := hp1.same se
  have kpe := kp1.trans se.keep
  have hre := se _ _ hr1
  generalize upd G1 e (.tup []) = G2 at hpe kpe hre
  clear se he hr1 hp1 kp1
  refine ⟨_, rfl, _, _, rfl, rfl, _, rfl, _, _, rfl, rfl, _, rfl, _, rfl, _, rfl, .inl ⟨_, rfl, _, rfl, _, rfl, Nat.lt_trans hb1 (by decide), ?_⟩⟩
  refine ⟨_, rfl, by show 1 <= sizeLine; decide, fun t ht => ?_⟩
  have st := same_upd (o := .tup [.int one]) ht
  refine ⟨_, _, rfl, rfl, ⟨by decide, by decide, by decide⟩, by show 8 <= sizeLine; decide, fun l hl => ?_⟩
  have sl := same_upd (o := .lst [.int (one + 1), .int (one - 1), .int (-one), .bl (one != 0), .str (toString one), .non, .ref t, .int (10 ^ (30 : Int).toNat)]) hl
  have al : IsAllY (fun a => H a = none) _ [V.int (one + 1), .int (one - 1), .int (-one), .bl (one != 0), .str (toString one), .non, .ref t, .int (10 ^ (30 : Int).toNat)] [.int (one + 1), .int (one - 1), .int (-one), .bool (one != 0), .str (toString one), .none, .tuple [.int one], .int (10 ^ (30 : Int).toNat)] := .cons (.int _) (.cons (.int _) (.cons (.int _) (.cons (.bl _) (.cons (.str _) (.cons .non (.cons (.tup (sl _ _ upd_same) (.cons (.int _) .nil)) (.cons (.int _) .nil)))))))
  have hlst := @upd_same (upd G2 t (.tup [.int one])) l (.lst [.int (one + 1), .int (one - 1), .int (-one), .bl (one != 0), .str (toString one), .non, .ref t, .int (10 ^ (30 : Int).toNat)])
  have hp3 := hpe.same (st.trans sl)
  have kp3 := kpe.trans (st.trans sl).keep
  have hr3 := (st.trans sl) _ _ hre
  have hlH : H l = none := pot_back hpe kpe (st.free hl)
  have hdb : ∀ d ∈ [PyData.int (one + 1), .int (one - 1), .int (-one), .bool (one != 0), .str (toString one), .none, .tuple [.int one], .int (10 ^ (30 : Int).toNat)], d.bulk <= 501 := fun d hd => by
   have ht : (PyData.str (toString one)).bulk <= 501 := text_bulk hb1
   simp only [List.mem_cons, List.not_mem_nil, or_false] at hd
   rcases hd with rfl | rfl | rfl | rfl | rfl | rfl | rfl | rfl <;> first | exact ht | simp [PyData.bulk, PyData.bulkAll]
  have hml : [V.int (one + 1), .int (one - 1), .int (-one), .bl (one != 0), .str (toString one), .non, .ref t, .int (10 ^ (30 : Int).toNat)].length = 8 := rfl
  show (fun x H1 => gName 5 x _ H1 _) _ _
  generalize [V.int (one + 1), .int (one - 1), .int (-one), .bl (one != 0), .str (toString one), .non, .ref t, .int (10 ^ (30 : Int).toNat)] = ms at al hlst hp3 kp3 hr3 hml ⊢
  generalize [PyData.int (one + 1), .int (one - 1), .int (-one), .bool (one != 0), .str (toString one), .none, .tuple [.int one], .int (10 ^ (30 : Int).toNat)] = dms at al hdb
  generalize upd (upd G2 t (.tup [.int one])) l (.lst ms) = G3 at al hlst hp3 kp3 hr3 ⊢
  clear st sl hl ht hpe kpe hre
  refine ⟨_, rfl, rfl, _, rfl, ?_⟩
  obtain ⟨ns3, sd3, tn3, hpp3, hqq3, _⟩ := id hp3
  have iN := fun (G : Hp) => IsAllY.ints (S := fun a => H a = none) (H := G) ns
  have bN := bulk_ints ns
  have bT := bulk_take (ns.map PyData.int) at'
  have bD := bulk_drop (ns.map PyData.int) (at' + 1)
  have lT : ((ns.map V.int).take at').length <= 379 := by rw [List.length_take, mapI_len]; (first | lia | omega)
  have lD : ∀ j, ((ns.map V.int).drop j).length <= 379 := fun j => by rw [List.length_drop, mapI_len]; (first | lia | omega)
  have c1 : ((at' : Int) + 1) = ((at' + 1 : Nat) : Int) := by (first | lia | omega)
  by_cases w0 : way = 0
  ·subst w0
   rw [decide_eq_true (show V.int ((0 : Nat) : Int) = V.int 0 from rfl)]
   refine iteT ⟨_, rfl, _, rfl, _, rfl, r, _, rfl, hr3, fun x1 G4 s4 h4 => ?_⟩
   rw [cutToV] at h4
   refine ⟨_, rfl, _, rfl, p, q, 8, rfl, by decide, by decide, hp3.same s4, fun d G5 d0 d1 hp5 kp5 => ?_⟩
   obtain ⟨j, rfl⟩ : ∃ m : Nat, d = (m : Int) := ⟨d.toNat, by (first | lia | omega)⟩
   obtain ⟨v, hv⟩ : ∃ v, ms[j]? = some v := ⟨_, List.getElem?_eq_getElem (by (first | lia | omega))⟩
   obtain ⟨e, he, ye⟩ := al.at hv
   have be := hdb e (List.mem_of_getElem? he)
   have ts := kp5.tupS (hp3.same s4)
   have h45 := ts _ _ h4
   have hr5 := ts _ _ (s4 _ _ hr3)
   have ye5 := (ye.same s4).keep kp5 (s4 _ _ hpp3) (s4 _ _ hqq3) nwp
   have hl5 := kp5 _ _ (s4 _ _ hlst) (nwp l hlH).1 (nwp l hlH).2
   refine ⟨l, _, _, v, rfl, rfl, SqL.of hl5, atI_nat hv, by show 1 <= sizeLine; decide, fun t2 ht2 => ?_⟩
   have s6 := same_upd (o := .tup [v]) ht2
   refine ⟨x1, t2, _, _, rfl, rfl, s6 _ _ h45, upd_same, smallL (by show _ + 1 <= 1000; (first | lia | omega)), fun x2 G7 s7 h7 => ?_⟩
   refine ⟨_, rfl, _, rfl, _, _, rfl, rfl, _, rfl, r, _, rfl, (s6.trans s7) _ _ hr5, fun x3 G8 s8 h8 => ?_⟩
   rw [c1, cutV_fromV] at h8
   have S8 := s6.trans (s7.trans s8)
   refine ⟨x2, x3, _, _, rfl, rfl, s8 _ _ h7, h8, smallL (by rw [List.length_append]; have := lD (at' + 1); show (_ + 1) + _ <= 1000; (first | lia | omega)), fun x4 G9 s9 h9 => ?_⟩
   refine k _ (.tuple (((ns.map PyData.int).take at' ++ [e]) ++ (ns.map PyData.int).drop (at' + 1))) _ (hp5.same (S8.trans s9)) (((kp3.trans s4.keep).trans kp5).trans (S8.trans s9).keep) (.tup h9 ((((iN _).takeY _).append (.cons (ye5.same (S8.trans s9)) .nil)).append ((iN _).dropY _))) ?_ fun _ => ⟨_, rfl⟩
   rw [PyData.bulk, bulk_app, bulk_app, PyData.bulkAll, PyData.bulkAll]
   have e3 := bulk_app ((ns.map PyData.int).take at') ((ns.map PyData.int).drop at')
   rw [List.take_append_drop] at e3
   have e4 := bulk_drop ((ns.map PyData.int).drop at') 1
   rw [List.drop_drop] at e4
   (first | lia | omega)
  rw [decide_eq_false (fun z => w0 (by have := V.int.inj z; (first | lia | omega)))]
  refine iteF ⟨_, rfl, rfl, _, rfl, ?_⟩
  by_cases w1 : way = 1
  ·subst w1
   rw [decide_eq_true (show V.int ((1 : Nat) : Int) = V.int 1 from rfl)]
   refine iteT ⟨_, rfl, _, rfl, _, rfl, r, _, rfl, hr3, fun x1 G4 s4 h4 => ?_⟩
   rw [cutToV] at h4
   refine ⟨_, rfl, _, rfl, _, _, rfl, rfl, _, rfl, r, _, rfl, s4 _ _ hr3, fun x3 G8 s8 h8 => ?_⟩
   rw [c1, cutV_fromV] at h8
   refine ⟨x1, x3, _, _, rfl, rfl, s8 _ _ h4, h8, smallL (by have := lD (at' + 1); (first | lia | omega)), fun x4 G9 s9 h9 => ?_⟩
   have S9 := s4.trans (s8.trans s9)
   refine k _ (.tuple ((ns.map PyData.int).take at' ++ (ns.map PyData.int).drop (at' + 1))) _ (hp3.same S9) (kp3.trans S9.keep) (.tup h9 (((iN _).takeY _).append ((iN _).dropY _))) ?_ fun _ => ⟨_, rfl⟩
   rw [PyData.bulk, bulk_app]
   (first | lia | omega)
  rw [decide_eq_false (fun z => w1 (by have := V.int.inj z; (first | lia | omega)))]
  refine iteF ⟨_, rfl, rfl, _, rfl, ?_⟩
  by_cases w2 : way = 2
  ·subst w2
   rw [decide_eq_true (show V.int ((2 : Nat) : Int) = V.int 2 from rfl)]
   refine iteT ⟨_, rfl, by show 2 <= sizeLine; decide, fun l2 hl2 => ?_⟩
   have s4 := same_upd (o := .lst [.int 0, .int 1]) hl2
   have hl2H : H l2 = none := pot_back hp3 kp3 hl2
   refine ⟨_, rfl, p, q, 2, rfl, by decide, by decide, hp3.same s4, fun d G5 d0 d1 hp5 kp5 => ?_⟩
   have hl5 := kp5 _ _ (@upd_same G3 l2 (.lst [.int 0, .int 1])) (nwp l2 hl2H).1 (nwp l2 hl2H).2
   have hr5 := kp5.tupS (hp3.same s4) _ _ (s4 _ _ hr3)
   obtain ⟨b, hb⟩ : ∃ b : Int, atI [V.int 0, V.int 1] d = some (.int b) := by
    rcases (show d = 0 ∨ d = 1 by (first | lia | omega)) with rfl | rfl
    ·exact ⟨0, atI_nat (j := 0) rfl⟩
    ·exact ⟨1, atI_nat (j := 1) rfl⟩
   refine ⟨l2, _, _, .int b, rfl, rfl, SqL.of hl5, hb, by show 1 <= sizeLine; decide, fun t2 ht2 => ?_⟩
   have s6 := same_upd (o := .tup [.int b]) ht2
   refine ⟨r, t2, _, _, rfl, rfl, s6 _ _ hr5, upd_same, smallL (by rw [mapI_len]; show _ + 1 <= 1000; (first | lia | omega)), fun x2 G7 s7 h7 => ?_⟩
   have S7 := s6.trans s7
   refine k _ (.tuple (ns.map PyData.int ++ [.int b])) _ (hp5.same S7) (((kp3.trans s4.keep).trans kp5).trans S7.keep) (.tup h7 ((iN _).append (.cons (.int b) .nil))) ?_ fun _ => ⟨_, rfl⟩
   rw [PyData.bulk, bulk_app, PyData.bulkAll, PyData.bulkAll, PyData.bulk]
   (first | lia | omega)
  rw [decide_eq_false (fun z => w2 (by have := V.int.inj z; (first | lia | omega)))]
  refine iteF ?_
  have c2 : ((at' : Int) + 2) = ((at' + 2 : Nat) : Int) := by (first | lia | omega)
  refine ⟨_, rfl, _, rfl, _, rfl, r, _, rfl, hr3, fun x1 G4 s4 h4 => ?_⟩
  rw [cutToV] at h4
  refine ⟨_, rfl, _, rfl, _, rfl, _, rfl, _, _, rfl, rfl, _, rfl, r, _, rfl, s4 _ _ hr3, fun x2 G5 s5 h5 => ?_⟩
  rw [c2, cutV_midV, show at' + 2 - at' = 2 by (first | lia | omega)] at h5
  refine ⟨x2, _, rfl, SqT.of h5, fun x3 hx3 => ?_⟩
  have s6 := same_upd (o := .tup (((ns.map V.int).drop at').take 2).reverse) hx3
  have l2 : (((ns.map V.int).drop at').take 2).reverse.length <= 2 := by rw [List.length_reverse, List.length_take]; (first | lia | omega)
  refine ⟨x1, x3, _, _, rfl, rfl, (s5.trans s6) _ _ h4, upd_same, smallL (by (first | lia | omega)), fun x4 G7 s7 h7 => ?_⟩
  refine ⟨_, rfl, _, rfl, _, _, rfl, rfl, _, rfl, r, _, rfl, (s4.trans (s5.trans (s6.trans s7))) _ _ hr3, fun x5 G8 s8 h8 => ?_⟩
  rw [c2, cutV_fromV] at h8
  refine ⟨x4, x5, _, _, rfl, rfl, s8 _ _ h7, h8, smallL (by rw [List.length_append]; have := lD (at' + 2); (first | lia | omega)), fun x6 G9 s9 h9 => ?_⟩
  have S9 := s4.trans (s5.trans (s6.trans (s7.trans (s8.trans s9))))
  have hr9 := S9 _ _ hr3
  have hp9 := hp3.same S9
  have kp9 := kp3.trans S9.keep
  have y6 : IsY (fun a => H a = none) G9 (.ref x6) (.tuple (((ns.map PyData.int).take at' ++ (((ns.map PyData.int).drop at').take 2).reverse) ++ (ns.map PyData.int).drop (at' + 2))) := .tup h9 ((((iN _).takeY _).append (((iN _).dropY _).takeY _).revY).append ((iN _).dropY _))
  have b6 : (PyData.tuple (((ns.map PyData.int).take at' ++ (((ns.map PyData.int).drop at').take 2).reverse) ++ (ns.map PyData.int).drop (at' + 2))).bulk <= 900 := by
   rw [PyData.bulk, bulk_app, bulk_app, bulk_rev]
   have e1 := bulk_drop (ns.map PyData.int) (at' + 2)
   have e2 := bulk_take ((ns.map PyData.int).drop at') 2
   have e3 := bulk_app ((ns.map PyData.int).take at') ((ns.map PyData.int).drop at')
   rw [List.take_append_drop] at e3
   (first | lia | omega)
  generalize (PyData.tuple (((ns.map PyData.int).take at' ++ (((ns.map PyData.int).drop at').take 2).reverse) ++ (ns.map PyData.int).drop (at' + 2))) = d6 at y6 b6
  clear S9 s9 h9 s8 h8 s7 h7 s6 hx3 s5 h5 s4 h4 l2 al hlst hp3 kp3 hr3
  refine ⟨_, rfl, r, _, rfl, .inr (SqT.of hr9), fun l2 hl2 => ?_⟩
  have u1 := same_upd (o := .lst (ns.map V.int)) hl2
  refine ⟨_, rfl, r, _, rfl, SqT.of (u1 _ _ hr9), fun y1 hy1 => ?_⟩
  have u2 := same_upd (o := .tup (ns.map V.int).reverse) hy1
  refine ⟨_, rfl, by show 1 <= sizeLine; decide, fun y2 hy2 => ?_⟩
  have u3 := same_upd (o := .tup [.ref r]) hy2
  refine ⟨by show 0 <= sizeLine; decide, fun y3 hy3 => ?_⟩
  have u4 := same_upd (o := .tup []) hy3
  refine ⟨_, rfl, by show 5 <= sizeLine; decide, fun l3 hl3 => ?_⟩
  have u5 := same_upd (o := .lst [.ref l2, .ref y1, .ref y2, .ref y3, .ref x6]) hl3
  have U5 := u1.trans (u2.trans (u3.trans (u4.trans u5)))
  have aa : IsAllY (fun a => H a = none) _ [V.ref l2, .ref y1, .ref y2, .ref y3, .ref x6] [.list (ns.map PyData.int), .tuple (ns.map PyData.int).reverse, .tuple [.tuple (ns.map PyData.int)], .tuple [], d6] :=
   .cons (.lst ((u2.trans (u3.trans (u4.trans u5))) _ _ upd_same) (pot_back hp9 kp9 hl2) (iN _)) (.cons (.tup ((u3.trans (u4.trans u5)) _ _ upd_same) (iN _).revY) (.cons (.tup ((u4.trans u5) _ _ upd_same) (.cons (.tup (U5 _ _ hr9) (iN _)) .nil)) (.cons (.tup (u5 _ _ upd_same) .nil) (.cons (y6.same U5) .nil))))
  have hb5 : ∀ d ∈ [PyData.list (ns.map PyData.int), .tuple (ns.map PyData.int).reverse, .tuple [.tuple (ns.map PyData.int)], .tuple [], d6], d.bulk <= 900 := fun d hd => by
   simp only [List.mem_cons, List.not_mem_nil, or_false] at hd
   rcases hd with rfl | rfl | rfl | rfl | rfl
   ·rw [PyData.bulk]; (first | lia | omega)
   ·rw [PyData.bulk, bulk_rev]; (first | lia | omega)
   ·rw [PyData.bulk, PyData.bulkAll, PyData.bulkAll, PyData.bulk]; (first | lia | omega)
   ·rw [PyData.bulk, PyData.bulkAll]; (first | lia | omega)
   ·exact b6
  obtain ⟨j, rfl⟩ : ∃ j, way = j + 3 := ⟨way - 3, by (first | lia | omega)⟩
  obtain ⟨v, hv⟩ : ∃ v, [V.ref l2, .ref y1, .ref y2, .ref y3, .ref x6][j]? = some v := ⟨_, List.getElem?_eq_getElem (by show j < 5; (first | lia | omega))⟩
  obtain ⟨e, he, ye⟩ := aa.at hv
  refine ⟨_, rfl, _, _, rfl, rfl, l3, _, (j : Int), v, rfl, congrArg V.int (by (first | lia | omega)), SqL.of upd_same, atI_nat hv, ?_⟩
  exact k _ e _ (hp9.same U5) (kp9.trans U5.keep) ye (hb5 e (List.mem_of_getElem? he)) fun z => by (first | lia | omega)
end
end K15
namespace L2
open PySem PySem.Spec PyProof.Rows
noncomputable def ibD : PyData -> Bool
 | .int _ => true
 | .bool _ => true
 | _ => false
noncomputable def numD : PyData -> Int
 | .int n => n
 | .bool b => if b = true then 1 else 0
 | _ => 0
theorem mx_of {S : Addr -> Prop} {H : Hp} : ∀ {vs : List V} {ds : List PyData}, IsAllY S H vs ds -> ds.all ibD = true -> MxL vs (ds.map numD) /\ noLs ds = true
 | _, _, .nil, _ => ⟨⟨rfl, fun i v h => by simp at h⟩, rfl⟩
 | _, _, .cons a t, h => by
  rw [List.all_cons, Bool.and_eq_true] at h
  obtain ⟨⟨m1, m2⟩, n1⟩ := mx_of t h.2
  refine ⟨⟨by rw [List.length_cons, List.map_cons, List.length_cons, m1], fun i v e => ?_⟩, ?_⟩
  ·cases i with
   | zero =>
    cases e
    cases a with
    | int n => exact .inl rfl
    | bl b => exact .inr ⟨b, rfl, rfl⟩
    | _ => cases h.1
   | succ i => exact m2 i v e
  ·rw [noLs, n1]
   cases a with
   | int n => rfl
   | bl b => rfl
   | _ => cases h.1
theorem rowZ_pos (kind : Str) : ∀ n, 0 < (rowZ kind n).length
 | 0 => Nat.zero_lt_one
 | n + 1 => by
  show 0 < (rowOf kind (n + 1) (rowZ kind n)).length
  unfold rowOf
  split
  ·unfold crossedRow
   rw [List.length_map, num0_lenZ]
   (first | lia | omega)
  ·split
   ·unfold risesRow; rw [List.length_map, num0_lenZ]; (first | lia | omega)
   ·split
    ·unfold staysRow; rw [List.length_map, num0_lenZ]; (first | lia | omega)
    ·unfold roundsRow; rw [List.length_map, num0_lenZ]; (first | lia | omega)
theorem b_mul {a b : Int} {A B : Nat} (ha : a.natAbs <= A) (hb : b.natAbs <= B) : (a * b).natAbs <= A * B := by
 rw [Int.natAbs_mul]
 exact Nat.mul_le_mul ha hb
theorem atZ_bd {ns : List Int} {B : Nat} (h : ∀ n ∈ ns, n.natAbs <= B) (k : Int) : (atZ ns k).natAbs <= B := by
 unfold atZ
 split
 ·exact Nat.zero_le _
 ·rw [List.getD_eq_getElem?_getD]
  cases e : ns[k.toNat]? with
  | none => exact Nat.zero_le _
  | some n => exact h n (List.mem_of_getElem? e)
theorem win_bd {ns : List Int} {B : Nat} (h : ∀ n ∈ ns, n.natAbs <= B) (lo : Int) : ∀ n, (win ns lo n).natAbs <= n * B
 | 0 => by simp [win]
 | n + 1 => by
  rw [win_succ]
  have h1 := win_bd h lo n
  have h2 := atZ_bd h (lo + (n : Int))
  have h3 := Int.natAbs_add_le (win ns lo n) (atZ ns (lo + (n : Int)))
  rw [Nat.succ_mul]
  (first | lia | omega)
theorem row_bd {kind : Str} {m : Nat} {ns : List Int} {B : Nat} (hm : m <= 65) (h : ∀ n ∈ ns, n.natAbs <= B) : ∀ x ∈ rowOf kind m ns, x.natAbs <= 200 * B := by
 intro x hx
 unfold rowOf at hx
 have g : ∀ k ∈ num0 (m * (m - 1) / 2 + 1), True := fun _ _ => trivial
 have nm : ∀ {n : Nat} {k : Int}, k ∈ num0 n -> 0 <= k /\ k < n := fun {n k} hk => by
  unfold num0 at hk
  obtain ⟨i, hi, rfl⟩ := List.mem_map.mp hk
  have := List.mem_range.mp hi
  (first | lia | omega)
 have mB : m * B <= 65 * B := Nat.mul_le_mul_right B hm
 split at hx
 ·obtain ⟨k, hk, rfl⟩ := List.mem_map.mp hx
  have := win_bd h (k - (m : Int) + 1) m
  (first | lia | omega)
 ·split at hx
  ·obtain ⟨k, hk, rfl⟩ := List.mem_map.mp hx
   have hk := nm hk
   have h1 := b_mul (a := k + 1) (A := 66) (by (first | lia | omega)) (atZ_bd h k)
   have h2 := b_mul (a := (m : Int) - k) (A := 66) (by (first | lia | omega)) (atZ_bd h (k - 1))
   have h3 := Int.natAbs_add_le ((k + 1) * atZ ns k) (((m : Int) - k) * atZ ns (k - 1))
   (first | lia | omega)
  ·split at hx
   ·obtain ⟨k, hk, rfl⟩ := List.mem_map.mp hx
    have hk := nm hk
    have h0 := atZ_bd h (k - 1)
    have h1 := b_mul (a := (m : Int) - 1 - k) (A := 66) (by (first | lia | omega)) (atZ_bd h k)
    have h2 := b_mul (a := k + 1) (A := 66) (by (first | lia | omega)) (atZ_bd h (k + 1))
    have h3 := Int.natAbs_add_le (atZ ns (k - 1)) (((m : Int) - 1 - k) * atZ ns k)
    have h4 := Int.natAbs_add_le (atZ ns (k - 1) + ((m : Int) - 1 - k) * atZ ns k) ((k + 1) * atZ ns (k + 1))
    (first | lia | omega)
   ·obtain ⟨k, hk, rfl⟩ := List.mem_map.mp hx
    have hk := nm hk
    have h0 := atZ_bd h (k - 1)
    have h1 := b_mul (a := (m : Int) - 1) (A := 66) (by (first | lia | omega)) (atZ_bd h k)
    have h3 := Int.natAbs_add_le (atZ ns (k - 1)) (((m : Int) - 1) * atZ ns k)
    (first | lia | omega)
theorem rowZ_bd (kind : Str) : ∀ n, n <= 65 -> ∀ x ∈ rowZ kind n, x.natAbs <= 200 ^ n
 | 0, _, x, hx => by
  have : x = 1 := List.mem_singleton.mp hx
  subst this
  decide
 | n + 1, hn, x, hx => by
  have := row_bd (kind := kind) hn (rowZ_bd kind n (by (first | lia | omega))) x hx
  rw [Nat.pow_succ]
  (first | lia | omega)
theorem rowZ_bits {kind : Str} {n : Nat} (hn : n <= 65) : ∀ x ∈ rowZ kind n, x.natAbs.log2 < 500 := fun x hx => by
 have h1 := rowZ_bd kind n hn x hx
 have h2 : 200 ^ n <= 200 ^ 65 := Nat.pow_le_pow_right (by decide) hn
 have h3 : x.natAbs < 2 ^ 500 := Nat.lt_of_le_of_lt (Nat.le_trans h1 h2) (by decide +kernel)
 by_cases c : x.natAbs = 0
 ·rw [c]; decide
 ·exact (Nat.log2_lt c).mpr h3
noncomputable def spBent : Sp := fun vs H Q _ => ∃ (p q r : Addr) (kind : Str) (n : Nat) (us : List V), vs = [.ref p, .str kind, .ref r] /\ kind ∈ kinds5 /\ n < b15 kind /\ Pot H p q /\ H r = some (.tup us) /\ IsAllY (fun _ => False) H us (rowsD15 kind n) /\
 ∀ x ds H', Pot H' p q -> Keep p q H H' -> IsY (fun a => H a = none) H' x (.tuple ds) -> ds.length <= n + 2 -> (∀ e ∈ ds, Sz 1000 e) -> Q x H'
theorem rowsD15_sz {kind : Str} {n : Nat} (hn : n <= b15 kind) : ∀ e ∈ rowsD15 kind n, Sz 1000 e := fun e he => by
 unfold rowsD15 rowsZ at he
 rw [List.map_map] at he
 obtain ⟨i, hi, rfl⟩ := List.mem_map.mp he
 have := List.mem_range.mp hi
 show (PyData.tuple ((rowZ kind i).map PyData.int)).bulk <= 1000
 rw [PyData.bulk, bulk_ints]
 have := rowZ15_len (kind := kind) (n := i) (by (first | lia | omega))
 (first | lia | omega)
end L2
namespace K15
open PySem PySem.Spec PyProof.Rows L2
noncomputable abbrev s__law_bent : Stmt := top 22
section
variable {P : Program} {w : World} {K : PySem.W.Frag} {mg : Str -> Option Value} {base : Heap}
theorem sc__law_bent : FnScope ["_law_pot_here", "_law_kind", "_law_rows_here", "_law_way", "_law_at", "_law_kinds", "_law_other", "_law_wrong", "_law_n"] ["_law_pot_here", "_law_kind", "_law_rows_here"] (defScope s__law_bent) := ⟨rfl, rfl, rfl, by decide +kernel, rfl, by decide +kernel, by decide +kernel⟩
set_option maxHeartbeats 8000000 in
theorem ok__law_bent {f : Addr} {fd : FuncData} (F : Fun K "_law_bent" "_law_bent" s__law_bent f fd) (T : Top mg) (C_law_take : Cal P w K mg base 1 "_law_take" ["_law_pot_here", "_law_many"] spTake) (C_law_row_bent : Cal P w K mg base 2 "_law_row_bent" ["_law_pot_here", "_law_way", "_law_row"] spRowBent) (C_law_rows : Cal P w K mg base 2 "_law_rows" ["_law_kind", "_law_many"] spRowsL15) (C_law_behind : Cal P w K mg base 1 "_law_behind" ["_law_kind", "_law_n", "_law_ahead"] (spBehM K)) : FnOk P w K mg base CX0 3 f fd ["_law_pot_here", "_law_kind", "_law_rows_here"] spBent := by
 refine F.ok sc__law_bent (fun vs H Q E h => ?_) (fun cdv A outer s H vs Q E hr h => ?_)
 ·obtain ⟨p, q, r, kd, n, us, rfl, _⟩ := h
  rfl
 ·obtain ⟨p, q, r, kd, n, us, rfl, hkd, hn, hp, hrr, R, k⟩ := h
  have hb15 := b15_le kd
  refine ⟨_, (pss_cons (ps_par (i := 3) (j := 4) rfl sc__law_bent.nd rfl rfl (by decide) rfl rfl (pa_cons (pe_cal C_law_take (hr.mono (by decide)) rfl (pa_cons (pv 0) (pa_cons pe_int pa_nil))) (pa_cons (pe_cal C_law_take (hr.mono (by decide)) rfl (pa_cons (pv 0) (pa_cons (pe_callB call_len_seq (by rfl) T.n_len PySem.boot_len (pa_cons (pv 2) pa_nil)) pa_nil))) pa_nil)) rfl)
   (pss_cons (ps_if (pt_cmpR op_lt (pv 3) pe_int (nomark _))
    (pss_cons (ps_set (i := 2) sc__law_bent.nd rfl (Or.inl rfl) (pe_op op_cat2 (pe_op op_cat2 (pe_slice sl_tupA (pv 2) po_none (po_some (pv 4))) (pe_tup (pa_cons (pe_cal C_law_row_bent (hr.mono (by decide)) rfl (pa_cons (pv 0) (pa_cons (pv 3) (pa_cons (pe_ix ix_tup (pv 2) (pv 4) (fun _ _ => rfl)) pa_nil)))) pa_nil))) (pe_slice sl_tupA (pv 2) (po_some (pe_op op_add (pv 4) pe_int)) po_none)))
    (pss_one (ps_ret (pv 2))))
    pss_nil)
   (pss_cons (ps_if (pt_cmpR op_eq (pv 3) pe_int (nomark _))
    (pss_one (ps_ret (pe_op op_cat2 (pe_slice sl_tupA (pv 2) po_none (po_some (pv 4))) (pe_slice sl_tupA (pv 2) (po_some (pe_op op_add (pv 4) pe_int)) po_none))))
    pss_nil)
   (pss_cons (ps_if (pt_cmpR op_eq (pv 3) pe_int (nomark _))
    (pss_one (ps_ret (pe_op op_cat2 (pe_op op_cat2 (pe_slice sl_tupA (pv 2) po_none (po_some (pv 4))) (pe_slice sl_tupA (pv 2) (po_some (pv 4)) (po_some (pe_op op_add (pv 4) pe_int)))) (pe_slice sl_tupA (pv 2) (po_some (pv 4)) po_none))))
    pss_nil)
   (pss_cons (ps_if (pt_cmpR op_eq (pv 3) pe_int (nomark _))
    (pss_cons (ps_set (i := 5) sc__law_bent.nd rfl (Or.inl rfl) (pe_tup (pa_cons pe_str (pa_cons pe_str (pa_cons pe_str (pa_cons pe_str (pa_cons pe_str pa_nil)))))))
    (pss_cons (ps_set (i := 6) sc__law_bent.nd rfl (Or.inl rfl) (pe_ix ix_tup (pv 5) (pe_cal C_law_take (hr.mono (by decide)) rfl (pa_cons (pv 0) (pa_cons (pe_ix ix_list (pe_lst (pa_cons pe_int (pa_cons pe_int pa_nil))) (pe_callTy call_int1 (by rfl) T.n_int boot_int (pa_cons (pe_cmpR op_lt (pe_callB call_len_seq (by rfl) T.n_len PySem.boot_len (pa_cons (pv 2) pa_nil)) pe_int (nomark _)) pa_nil)) (fun _ _ => rfl)) pa_nil))) (fun _ _ => rfl)))
    (pss_one (ps_ret (pe_op op_cat2 (pe_slice sl_tupA (pv 2) po_none (po_some (pv 4))) (pe_callTy call_tuple_of (by rfl) T.n_tuple boot_tuple (pa_cons (pe_slice sl_list (pe_cal C_law_rows (hr.mono (by decide)) rfl (pa_cons (pv 6) (pa_cons (pe_op op_sub (pe_callB call_len_seq (by rfl) T.n_len PySem.boot_len (pa_cons (pv 2) pa_nil)) pe_int) pa_nil))) (po_some (pv 4)) po_none) pa_nil)))))))
    pss_nil)
   (pss_cons (ps_set (i := 7) sc__law_bent.nd rfl (Or.inl rfl) (pe_op op_cat (pe_callTy call_list_of (by rfl) T.n_list boot_list (pa_cons (pe_slice sl_tupA (pv 2) po_none (po_some (pv 4))) pa_nil)) (pe_lst (pa_cons (pe_cal C_law_row_bent (hr.mono (by decide)) rfl (pa_cons (pv 0) (pa_cons (pe_ix ix_list (pe_lst (pa_cons pe_int (pa_cons pe_int pa_nil))) (pe_op op_sub (pv 3) pe_int) (fun _ _ => rfl)) (pa_cons (pe_ix ix_tup (pv 2) (pv 4) (fun _ _ => rfl)) pa_nil)))) pa_nil))))
   (pss_cons (ps_if (pt_val (pe_callB (call_all rfl) (by rfl) T.n_all boot_all (pa_cons (pe_lc (N' := ["_law_one"]) (n := 1) (ix := []) rfl (CompScope.of (sc := defScope s__law_bent) (N := ["_law_pot_here", "_law_kind", "_law_rows_here", "_law_way", "_law_at", "_law_kinds", "_law_other", "_law_wrong", "_law_n"]) (by decide +kernel) rfl rfl) (pi_tup (pe_ix ix_list (pv 7) (pv 4) (fun _ _ => rfl))) (fun _ _ _ _ _ => ⟨(pg_name (i := 0) (show (["_law_one"] : List Str).Nodup by decide +kernel) rfl (Or.inl rfl)), pts_nil, (pe_callB (call_isiK K rfl) (by rfl) T.n_isinstance boot_isinstance (pa_cons (pv 0) (pa_cons (pe_bltn (v := .ty "int") rfl T.n_int boot_int rfl) pa_nil)))⟩)) pa_nil)))
    (pss_one (ps_for PassesOwn.never rfl (pi_range2 rfl T.n_range (pa_cons (pe_op op_add (pv 4) pe_int) (pa_cons (pe_callB call_len_seq (by rfl) T.n_len PySem.boot_len (pa_cons (pv 2) pa_nil)) pa_nil))) (pg_name (i := 8) sc__law_bent.nd rfl (Or.inl rfl))
     (pss_one (ps_expr (pe_bm PySem.F.plainAttrs_list PySem.F.slot_list_append PySem.F.type_list_append mt_append (pv 7) (pa_cons (pe_cal C_law_behind (hr.mono (by decide)) rfl (pa_cons (pv 1) (pa_cons (pv 8) (pa_cons (pe_ix ix_list (pv 7) (pe_op op_sub (pv 8) pe_int) (fun _ _ => rfl)) pa_nil)))) pa_nil))))))
    pss_nil)
   (pss_one (ps_ret (pe_callTy call_tuple_of (by rfl) T.n_tuple boot_tuple (pa_cons (pv 7) pa_nil))))))))))), ?_⟩
  obtain ⟨ns0, sd0, tn0, hpp, hqq, _⟩ := id hp
  have nwp : ∀ a, H a = none -> a ≠ p /\ a ≠ q := fun a ha => ⟨fun z => (by rw [z, hpp] at ha; cases ha), fun z => (by rw [z, hqq] at ha; cases ha)⟩
  have hul : us.length = n + 1 := by rw [R.len, rowsD15_len]
  have nR : noLs (rowsD15 kd n) = true := noL_tIs _
  have bR := rowsD15_sz (kind := kd) (n := n) (by (first | lia | omega))
  have lR := rowsD15_len kd n
  refine ⟨_, rfl, p, q, 13, rfl, by decide, by decide, hp, fun d G1 d0 d1 hp1 kp1 => ?_⟩
  have hr1 := kp1.tupS hp _ _ hrr
  have R1 := mapNo (kp1.tupS hp) nR R
  refine ⟨_, rfl, _, rfl, r, us, rfl, .inr (SqT.of hr1), p, q, _, rfl, by (first | lia | omega), by (first | lia | omega), hp1, fun d' G2 e0 e1 hp2 kp2 => ?_⟩
  obtain ⟨way, rfl⟩ : ∃ m : Nat, d = (m : Int) := ⟨d.toNat, by (first | lia | omega)⟩
  obtain ⟨at', rfl⟩ : ∃ m : Nat, d' = (m : Int) := ⟨d'.toNat, by (first | lia | omega)⟩
  have hat : at' < us.length := by (first | lia | omega)
  have hr2 := kp2.tupS hp1 _ _ hr1
  have R2 := mapNo (kp2.tupS hp1) nR R1
  have K2 := kp1.trans kp2
  clear hr1 R1 kp1 kp2 hp1
  have c1 : ((at' : Int) + 1) = ((at' + 1 : Nat) : Int) := by (first | lia | omega)
  have hv : us[at']? = some us[at'] := List.getElem?_eq_getElem hat
  have row : ∀ {G : Hp}, IsAllY (fun _ => False) G us (rowsD15 kd n) -> ∃ z, us[at'] = .ref z /\ G z = some (.tup ((rowZ kd at').map V.int)) := fun {G} RG => by
   obtain ⟨e, he, ye⟩ := RG.at hv
   rw [rowsD15_at kd (by (first | lia | omega))] at he
   cases he
   exact tI_get ye
  have wd : ∀ {G : Hp} {vs : List V} {ds : List PyData}, IsAllY (fun _ => False) G vs ds -> IsAllY (fun a => H a = none) G vs ds := fun al => al.wide fun _ z => z.elim
  have mem2 : ∀ {a b : List PyData}, (∀ e ∈ a, Sz 1000 e) -> (∀ e ∈ b, Sz 1000 e) -> ∀ e ∈ a ++ b, Sz 1000 e := fun ha hb e he => by
   rcases List.mem_append.mp he with h | h
   ·exact ha e h
   ·exact hb e h
  have bT : ∀ j, ∀ e ∈ (rowsD15 kd n).take j, Sz 1000 e := fun j e he => bR e (List.mem_of_mem_take he)
  have bD : ∀ j, ∀ e ∈ (rowsD15 kd n).drop j, Sz 1000 e := fun j e he => bR e (List.mem_of_mem_drop he)
  have bk : ∀ {G : Hp}, Same G2 G -> ∀ {a : Addr}, G a = none -> H a = none := fun sG a ha => pot_back hp2 K2 (sG.free ha)
  have lT : ∀ j, (us.take j).length <= 66 := fun j => by rw [List.length_take]; (first | lia | omega)
  have lD : ∀ j, (us.drop j).length <= 66 := fun j => by rw [List.length_drop]; (first | lia | omega)
  refine ⟨_, _, rfl, _, rfl, _, _, rfl, rfl, _, rfl, ?_⟩
  by_cases w8 : way < 8
  ·rw [decide_eq_true (show (way : Int) < 8 by (first | lia | omega))]
   refine iteT ⟨_, rfl, _, rfl, _, rfl, r, us, rfl, hr2, fun x1 G3 s3 h3 => ?_⟩
   rw [cutToV] at h3
   have R3 := R2.same s3
   obtain ⟨z, ez, hz⟩ := row R3
   refine ⟨_, rfl, _, rfl, _, rfl, _, rfl, r, us, _, us[at'], rfl, rfl, SqT.of (s3 _ _ hr2), atI_nat hv, p, q, z, way, rowZ kd at', by rw [ez], w8, hp2.same s3, hz, rowZ_pos kd at', rowZ15_len (by (first | lia | omega)), rowZ_bits (by (first | lia | omega)), fun x dx G4 hp4 kp4 yx bx _ => ⟨by show 1 <= sizeLine; decide, fun t ht => ?_⟩⟩
   have ts := kp4.tupS (hp2.same s3)
   have s5 := same_upd (o := .tup [x]) ht
   refine ⟨x1, t, _, _, rfl, rfl, s5 _ _ (ts _ _ h3), upd_same, smallL (by have := lT at'; show _ + 1 <= 1000; (first | lia | omega)), fun x2 G6 s6 h6 => ?_⟩
   have hr6 := (s5.trans s6) _ _ (ts _ _ (s3 _ _ hr2))
   refine ⟨_, rfl, _, rfl, _, _, rfl, rfl, _, rfl, r, us, rfl, hr6, fun x3 G7 s7 h7 => ?_⟩
   rw [c1, cutV_fromV] at h7
   refine ⟨x2, x3, _, _, rfl, rfl, s7 _ _ h6, h7, smallL (by rw [List.length_append]; have := lT at'; have := lD (at' + 1); show (_ + 1) + _ <= 1000; (first | lia | omega)), fun x4 G8 s8 h8 => ?_⟩
   have S8 := s5.trans (s6.trans (s7.trans s8))
   have R8 := (mapNo ts nR R3).same S8
   refine ⟨_, rfl, k _ (((rowsD15 kd n).take at' ++ [dx]) ++ (rowsD15 kd n).drop (at' + 1)) _ (hp4.same S8) (((K2.trans s3.keep).trans kp4).trans S8.keep) (.tup h8 (((wd (R8.takeY _)).append (.cons ((yx.wide fun a za => bk s3 za).same S8) .nil)).append (wd (R8.dropY _)))) ?_ (mem2 (mem2 (bT _) fun e he => ?_) (bD _))⟩
   ·rw [List.length_append, List.length_append, List.length_take, List.length_drop, lR]
    show _ + 1 + _ <= _
    (first | lia | omega)
   ·rw [List.mem_singleton.mp he]
    exact Nat.le_trans bx (by decide)
  rw [decide_eq_false (show ¬ (way : Int) < 8 by (first | lia | omega))]
  refine iteF ⟨_, rfl, rfl, _, rfl, ?_⟩
  by_cases w9 : way = 8
  ·subst w9
   rw [decide_eq_true (show V.int ((8 : Nat) : Int) = V.int 8 from rfl)]
   refine iteT ⟨_, rfl, _, rfl, _, rfl, r, us, rfl, hr2, fun x1 G3 s3 h3 => ?_⟩
   rw [cutToV] at h3
   refine ⟨_, rfl, _, rfl, _, _, rfl, rfl, _, rfl, r, us, rfl, s3 _ _ hr2, fun x3 G7 s7 h7 => ?_⟩
   rw [c1, cutV_fromV] at h7
   refine ⟨x1, x3, _, _, rfl, rfl, s7 _ _ h3, h7, smallL (by have := lT at'; have := lD (at' + 1); (first | lia | omega)), fun x4 G8 s8 h8 => ?_⟩
   have S8 := s3.trans (s7.trans s8)
   have R8 := R2.same S8
   refine k _ ((rowsD15 kd n).take at' ++ (rowsD15 kd n).drop (at' + 1)) _ (hp2.same S8) (K2.trans S8.keep) (.tup h8 ((wd (R8.takeY _)).append (wd (R8.dropY _)))) ?_ (mem2 (bT _) (bD _))
   rw [List.length_append, List.length_take, List.length_drop, lR]
   (first | lia | omega)
  rw [decide_eq_false (fun z => w9 (by have := V.int.inj z; (first | lia | omega)))]
  refine iteF ⟨_, rfl, rfl, _, rfl, ?_⟩
  by_cases w10 : way = 9
  ·subst w10
   rw [decide_eq_true (show V.int ((9 : Nat) : Int) = V.int 9 from rfl)]
   refine iteT ⟨_, rfl, _, rfl, _, rfl, r, us, rfl, hr2, fun x1 G3 s3 h3 => ?_⟩
   rw [cutToV] at h3
   refine ⟨_, rfl, _, rfl, _, rfl, _, rfl, _, _, rfl, rfl, _, rfl, r, us, rfl, s3 _ _ hr2, fun x2 G4 s4 h4 => ?_⟩
   rw [c1, cutV_midV, show at' + 1 - at' = 1 by (first | lia | omega)] at h4
   have l1 : ((us.drop at').take 1).length <= 1 := by rw [List.length_take]; (first | lia | omega)
   refine ⟨x1, x2, _, _, rfl, rfl, s4 _ _ h3, h4, smallL (by have := lT at'; (first | lia | omega)), fun x3 G5 s5 h5 => ?_⟩
   refine ⟨_, rfl, _, rfl, _, rfl, r, us, rfl, (s3.trans (s4.trans s5)) _ _ hr2, fun x4 G6 s6 h6 => ?_⟩
   rw [cutV_fromV] at h6
   refine ⟨x3, x4, _, _, rfl, rfl, s6 _ _ h5, h6, smallL (by rw [List.length_append]; have := lT at'; have := lD at'; (first | lia | omega)), fun x5 G7 s7 h7 => ?_⟩
   have S8 := s3.trans (s4.trans (s5.trans (s6.trans s7)))
   have R8 := R2.same S8
   refine k _ (((rowsD15 kd n).take at' ++ ((rowsD15 kd n).drop at').take 1) ++ (rowsD15 kd n).drop at') _ (hp2.same S8) (K2.trans S8.keep) (.tup h7 (((wd (R8.takeY _)).append (wd ((R8.dropY _).takeY _))).append (wd (R8.dropY _)))) ?_ (mem2 (mem2 (bT _) fun e he => bD _ e (List.mem_of_mem_take he)) (bD _))
   rw [List.length_append, List.length_append, List.length_take, List.length_take, List.length_drop, lR]
   (first | lia | omega)
  rw [decide_eq_false (fun z => w10 (by have := V.int.inj z; (first | lia | omega)))]
  refine iteF ⟨_, rfl, rfl, _, rfl, ?_⟩
  by_cases w11 : way = 10
  ·subst w11
   rw [decide_eq_true (show V.int ((10 : Nat) : Int) = V.int 10 from rfl)]
   refine iteT ⟨by show 5 <= sizeLine; decide, fun tk htk => ?_⟩
   have s3 := same_upd (o := .tup [.str "rounds", .str "stays", .str "rises", .str "highs", .str "crossed"]) htk
   refine ⟨_, rfl, _, rfl, by show 2 <= sizeLine; decide, fun l2 hl2 => ?_⟩
   have s4 := same_upd (o := .lst [.int 4, .int 5]) hl2
   have hl2H := bk s3 hl2
   refine ⟨_, rfl, r, us, rfl, .inr (SqT.of ((s3.trans s4) _ _ hr2)), _, _, rfl, rfl, .inr ⟨_, rfl, ?_⟩⟩
   obtain ⟨nk, hnk, hnk2⟩ : ∃ nk : Int, atI [V.int 4, V.int 5] (if decide ((us.length : Int) < 26) = true then 1 else 0) = some (.int nk) /\ ((nk = 5 /\ us.length < 26) ∨ nk = 4) := by
    by_cases c : us.length < 26
    ·rw [decide_eq_true (show (us.length : Int) < 26 by (first | lia | omega))]
     exact ⟨5, atI_nat (j := 1) rfl, .inl ⟨rfl, c⟩⟩
    ·rw [decide_eq_false (show ¬ (us.length : Int) < 26 by (first | lia | omega))]
     exact ⟨4, atI_nat (j := 0) rfl, .inr rfl⟩
   refine ⟨l2, _, _, .int nk, rfl, rfl, SqL.of upd_same, hnk, p, q, nk, rfl, by (first | lia | omega), by (first | lia | omega), hp2.same (s3.trans s4), fun d G5 d0 d1 hp5 kp5 => ?_⟩
   have ts := kp5.tupS (hp2.same (s3.trans s4))
   have htk5 := ts _ _ (s4 _ _ upd_same)
   have hr5 := ts _ _ ((s3.trans s4) _ _ hr2)
   have R5 := mapNo ts nR (R2.same (s3.trans s4))
   have K5 := (K2.trans (s3.trans s4).keep).trans kp5
   obtain ⟨ok, hok, eok, hob⟩ : ∃ ok : Str, ok ∈ kinds5 /\ atI [V.str "rounds", V.str "stays", V.str "rises", V.str "highs", V.str "crossed"] d = some (.str ok) /\ n <= b15 ok := by
    have h65 : n <= 65 := by (first | lia | omega)
    obtain rfl | rfl | rfl | rfl | ⟨rfl, h⟩ : d = 0 ∨ d = 1 ∨ d = 2 ∨ d = 3 ∨ (d = 4 /\ us.length < 26) := by (first | lia | omega)
    ·exact ⟨"rounds", by decide, by rfl, h65⟩
    ·exact ⟨"stays", by decide, by rfl, h65⟩
    ·exact ⟨"rises", by decide, by rfl, h65⟩
    ·exact ⟨"highs", by decide, by rfl, h65⟩
    ·exact ⟨"crossed", by decide, by rfl, show n <= 28 by (first | lia | omega)⟩
   refine ⟨tk, _, _, .str ok, rfl, rfl, SqT.of htk5, eok, ?_⟩
   refine ⟨_, rfl, _, rfl, _, rfl, r, us, rfl, hr5, fun x1 G6 s6 h6 => ?_⟩
   rw [cutToV] at h6
   refine ⟨_, rfl, _, rfl, r, us, rfl, .inr (SqT.of (s6 _ _ hr5)), _, _, rfl, rfl, ok, n, ?_, hok, hob, fun lp vs G7 s7 hlp hl7 A7 => ?_⟩
   ·show [V.str ok, V.int ((us.length : Int) - 1)] = _
    rw [show ((us.length : Int) - 1) = (n : Int) by (first | lia | omega)]
   refine ⟨_, rfl, _, rfl, lp, _, rfl, SqL.of hl7, fun l8 hl8 => ?_⟩
   rw [cutV_fromV]
   have s8 := same_upd (o := .lst (vs.drop at')) hl8
   refine ⟨l8, _, rfl, .inl ⟨SqL.of upd_same, fun x9 h9 => ?_⟩⟩
   have s9 := same_upd (o := .tup (vs.drop at')) h9
   have hvl : vs.length = n + 1 := by rw [A7.len, rowsD15_len]
   refine ⟨x1, x9, _, _, rfl, rfl, (s7.trans (s8.trans s9)) _ _ h6, upd_same, smallL (by rw [List.length_drop]; have := lT at'; (first | lia | omega)), fun xa Ga sa ha => ?_⟩
   have S8 := s6.trans (s7.trans (s8.trans (s9.trans sa)))
   refine k _ ((rowsD15 kd n).take at' ++ (rowsD15 ok n).drop at') _ (hp5.same S8) (K5.trans S8.keep) (.tup ha ((wd ((R5.same S8).takeY _)).append (wd ((A7.same (s8.trans (s9.trans sa))).dropY _)))) ?_ (mem2 (bT _) fun e he => rowsD15_sz hob e (List.mem_of_mem_drop he))
   rw [List.length_append, List.length_take, List.length_drop, lR, rowsD15_len]
   (first | lia | omega)
  rw [decide_eq_false (fun z => w11 (by have := V.int.inj z; (first | lia | omega)))]
  refine iteF ⟨_, rfl, _, rfl, _, rfl, r, us, rfl, hr2, fun x1 G3 s3 h3 => ?_⟩
  rw [cutToV] at h3
  refine ⟨x1, _, rfl, .inr (SqT.of h3), fun l1 hl1 => ?_⟩
  have s4 := same_upd (o := .lst (us.take at')) hl1
  have hl1H := bk s3 hl1
  refine ⟨_, rfl, by show 2 <= sizeLine; decide, fun l2 hl2 => ?_⟩
  have s5 := same_upd (o := .lst [.int 0, .int 2]) hl2
  obtain ⟨w', hw', ew'⟩ : ∃ w' : Nat, (w' = 0 ∨ w' = 2) /\ atI [V.int 0, V.int 2] ((way : Int) - 11) = some (.int (w' : Int)) := by
   rcases (show way = 11 ∨ way = 12 by (first | lia | omega)) with rfl | rfl
   ·exact ⟨0, .inl rfl, rfl⟩
   ·exact ⟨2, .inr rfl, rfl⟩
  have S5 := s3.trans (s4.trans s5)
  have R5 := R2.same S5
  obtain ⟨z, ez, hz⟩ := row R5
  refine ⟨_, rfl, _, _, rfl, rfl, l2, _, _, .int (w' : Int), rfl, rfl, SqL.of upd_same, ew', _, rfl, _, rfl, r, us, _, us[at'], rfl, rfl, SqT.of (S5 _ _ hr2), atI_nat hv, p, q, z, w', rowZ kd at', by rw [ez], by (first | lia | omega), hp2.same S5, hz, rowZ_pos kd at', rowZ15_len (by (first | lia | omega)), rowZ_bits (by (first | lia | omega)), fun x dx G6 hp6 kp6 yx bx hds => ?_⟩
  obtain ⟨es, rfl⟩ := hds hw'
  have ts := kp6.tupS (hp2.same S5)
  have hl16 := kp6 _ _ (s5 _ _ (@upd_same G3 l1 (.lst (us.take at')))) (nwp l1 hl1H).1 (nwp l1 hl1H).2
  have hr6 := ts _ _ (S5 _ _ hr2)
  have R6 := mapNo ts nR R5
  have K6 := (K2.trans S5.keep).trans kp6
  have yx6 := yx.wide (S' := fun a => H a = none) fun a za => bk S5 za
  have bk6 : ∀ {a : Addr}, G6 a = none -> H a = none := fun ha => pot_back hp6 K6 ha
  clear R5 s3 h3 s4 s5 S5 hl1 hl2 yx kp6 ts hp2 K2 R2 hr2 bk
  refine ⟨by show 1 <= sizeLine; decide, fun l3 hl3 => ?_⟩
  have s7 := same_upd (o := .lst [x]) hl3
  refine ⟨l1, l3, _, _, rfl, rfl, s7 _ _ hl16, upd_same, smallL (by have := lT at'; show _ + 1 <= 1000; (first | lia | omega)), fun l4 hl4 => ?_⟩
  have s8 := same_upd (o := .lst (us.take at' ++ [x])) hl4
  have S8 := s7.trans s8
  have hl4H : H l4 = none := bk6 (s7.free hl4)
  have A8 := ((wd ((R6.same S8).takeY at')).append (.cons (yx6.same S8) .nil))
  have yx8 := yx6.same S8
  have R8 := R6.same S8
  have hr8 := S8 _ _ hr6
  have hp8 := hp6.same S8
  have K8 := K6.trans S8.keep
  have hl8 := @upd_same (upd G6 l3 (.lst [x])) l4 (.lst (us.take at' ++ [x]))
  generalize upd (upd G6 l3 (.lst [x])) l4 (.lst (us.take at' ++ [x])) = G8 at A8 yx8 R8 hr8 hp8 K8 hl8 ⊢
  clear S8 s8 s7 hl3 hl4 hl16 hr6 R6 K6 yx6 bk6 hp6
  obtain ⟨xa, ws, ex, hxa, alx⟩ : ∃ xa ws, x = .ref xa /\ G8 xa = some (.tup ws) /\ IsAllY (fun a => H a = none) G8 ws es := by
   cases yx8 with
   | tup e al => exact ⟨_, _, rfl, e, al⟩
  subst ex
  have hlt : (us.take at').length = at' := by rw [List.length_take]; (first | lia | omega)
  have hax : (us.take at' ++ [V.ref xa])[at']? = some (.ref xa) := by rw [List.getElem?_append_right (by (first | lia | omega)), hlt, Nat.sub_self]; rfl
  have hsz : ∀ e ∈ (rowsD15 kd n).take at' ++ [PyData.tuple es], Sz 1000 e := mem2 (bT _) fun e he => by
   rw [List.mem_singleton.mp he]
   exact Nat.le_trans bx (by decide)
  have hwl : ws.length <= 1000 := by
   rw [alx.len]
   exact (Sz.tup (n := 1000) (Nat.le_trans bx (by decide))).1
  refine ⟨_, rfl, _, rfl, l4, _, _, .ref xa, rfl, rfl, SqL.of hl8, atI_nat hax, xa, rfl, ⟨_, SqT.of hxa⟩, ?_⟩
  refine lc_growI (yields_tup (K := K) (a := xa) (xs := ws)) (small1 hwl) (es.map ibD) (by rw [List.length_map, alx.len]) (fun G sm => SqT.of (sm _ _ hxa)) (fun i v b' G' hv' hb' sm' Q' q' => ?_) fun acc G9 hacc s9 hG9 => ?_
  ·obtain ⟨o, ho, yo⟩ := alx.at hv'
   rw [List.getElem?_map, ho] at hb'
   cases hb'
   have yo := yo.same sm'
   obtain ⟨k1, k2, _⟩ := kit7 (K := K) (tyD_in o)
   refine ⟨_, rfl, _, _, _, _, rfl, yo.ty, k1, ?_⟩
   cases yo <;> exact q' _ (Same.refl _)
  refine ⟨acc, _, rfl, hG9, _, rfl, ?_⟩
  have hr9 := s9 _ _ hr8
  have hp9 := hp8.same s9
  have K9 := K8.trans s9.keep
  have hl9 := s9 _ _ hl8
  by_cases ci : (es.map ibD).all id = true
  ·rw [ci]
   have ci' : es.all ibD = true := by rw [List.all_map] at ci; exact ci
   obtain ⟨mx, nL⟩ := mx_of alx ci'
   have nA : noLs ((rowsD15 kd n).take at' ++ [PyData.tuple es]) = true := noL_app (noL_take _ nR) (by rw [noLs, show noL (.tuple es) = noLs es from rfl, nL]; rfl)
   have A9 := (A8.same s9).toNo nA
   refine iteT ⟨_, rfl, _, _, rfl, rfl, _, rfl, r, us, rfl, .inr (SqT.of hr9), _, _, rfl, ⟨by (first | lia | omega), by (first | lia | omega), by (first | lia | omega), by (first | lia | omega)⟩, ?_⟩
   refine for_range (n := ((us.length : Int) - ((at' : Int) + 1)).toNat) (fun j σ G => ∃ (vs : List V) (ds : List PyData) (c8 : Option V), σ = [some (.ref p), some (.str kd), some (.ref r), some (.int (way : Int)), some (.int (at' : Int)), none, none, some (.ref l4), c8] /\ Pot G p q /\ Keep p q H G /\ G l4 = some (.lst vs) /\ IsAllY (fun _ => False) G vs ds /\ noLs ds = true /\ ds.length = at' + 1 + j /\ (∀ e ∈ ds, Sz 1000 e) /\ ∃ (z : Addr) (us' : List V) (ns' : List Int), vs[at' + j]? = some (.ref z) /\ G z = some (.tup us') /\ MxL us' ns' /\ ns'.length <= 1000) ?_ ?_ ?_
   ·exact ⟨_, _, _, rfl, hp9, K9, hl9, A9, nA, by rw [List.length_append, List.length_take, lR]; show _ + 1 = _; (first | lia | omega), hsz, xa, ws, _, hax, s9 _ _ hxa, mx, by rw [<- mx.1]; exact hwl⟩
   ·rintro j σ G hj ⟨vs, ds, c8, rfl, hpG, KG, hlG, AG, nG, lG, zG, z, us', ns', hvz, hz, mz, lz⟩
    have hvl : vs.length = at' + 1 + j := by rw [AG.len, lG]
    refine ⟨_, rfl, .inl ⟨rfl, _, SqL.of hlG⟩, ?_⟩
    refine ⟨_, rfl, _, rfl, _, rfl, _, rfl, _, _, rfl, rfl, l4, _, ((at' + j : Nat) : Int), .ref z, rfl, congrArg V.int (by (first | lia | omega)), SqL.of hlG, atI_nat hvz, kd, at' + 1 + j, z, us', ns', ?_, hkd, by (first | lia | omega), by (first | lia | omega), SqT.of hz, mz, lz, fun p' G' s' hp' => ?_⟩
    ·rw [show ((at' : Int) + 1 + (j : Int)) = ((at' + 1 + j : Nat) : Int) by (first | lia | omega)]
    have hl' := s' _ _ hlG
    have hrl : (rowOf kd (at' + 1 + j) ns').length <= 379 := row15_len _ (by (first | lia | omega))
    have up : ∀ (a : Addr) (xs : List V), G' a = some (.tup xs) -> upd G' l4 (.lst (vs ++ [.ref p'])) a = some (.tup xs) := fun a xs e => by
     rw [upd_ne (fun z => by rw [z, hl'] at e; cases e)]
     exact e
    have nB : noLs (ds ++ [tI (rowOf kd (at' + 1 + j) ns')]) = true := noL_app nG (noL_tIs [_])
    refine ⟨l4, _, _, rfl, rfl, hl', small1 (by (first | lia | omega)), vs ++ [.ref p'], ds ++ [tI (rowOf kd (at' + 1 + j) ns')], _, rfl, ?_, ?_, upd_same, mapNo up nB ((AG.same s').append (.cons (.tup hp' (IsAllY.ints _)) .nil)), nB, ?_, mem2 zG ?_, p', _, _, ?_, up _ _ hp', MxL.ints _, by (first | lia | omega)⟩
    ·obtain ⟨n1, n2, n3, g1, g2, g3⟩ := hpG.same s'
     exact ⟨n1, n2, n3, by rw [upd_ne (Ne.symm (nwp l4 hl4H).1)]; exact g1, by rw [upd_ne (Ne.symm (nwp l4 hl4H).2)]; exact g2, g3⟩
    ·intro a o e n1 n2
     rw [upd_ne (fun z => by rw [z, hl4H] at e; cases e)]
     exact s' _ _ (KG a o e n1 n2)
    ·rw [List.length_append, lG]
     show _ + 1 = _
     (first | lia | omega)
    ·intro e he
     rw [List.mem_singleton.mp he]
     show (PyData.tuple ((rowOf kd (at' + 1 + j) ns').map PyData.int)).bulk <= 1000
     rw [PyData.bulk, bulk_ints]
     (first | lia | omega)
    ·rw [List.getElem?_append_right (by (first | lia | omega)), show at' + (j + 1) - vs.length = 0 by (first | lia | omega)]
     rfl
   ·rintro σ G ⟨vs, ds, c8, rfl, hpG, KG, hlG, AG, nG, lG, zG, _⟩
    refine ⟨_, rfl, l4, _, rfl, .inl ⟨SqL.of hlG, fun x' hx' => ?_⟩⟩
    have sx := same_upd (o := .tup vs) hx'
    exact k _ ds _ (hpG.same sx) (KG.trans sx.keep) (.tup upd_same (wd (AG.same sx))) (by (first | lia | omega)) zG
  ·rw [show (es.map ibD).all id = false by simpa using ci]
   refine iteF ⟨_, rfl, l4, _, rfl, .inl ⟨SqL.of hl9, fun x' hx' => ?_⟩⟩
   have sx := same_upd (o := .tup (us.take at' ++ [.ref xa])) hx'
   refine k _ _ _ (hp9.same sx) (K9.trans sx.keep) (.tup upd_same ((A8.same s9).same sx)) ?_ hsz
   rw [List.length_append, List.length_take, lR]
   show _ + 1 <= _
   (first | lia | omega)
end
end K15
namespace L2
open PySem PySem.Spec PyProof.Rows
theorem steps_right {kind : Str} {n : Nat} : stepsB kind (.tuple (rowsD15 kind n)) = true := by
 show (!(rowsD15 kind n).isEmpty && _) = true
 have h0 : (rowsD15 kind n).isEmpty = false := by
  cases e : rowsD15 kind n with
  | nil =>
   have := rowsD15_len kind n
   rw [e] at this
   cases this
  | cons _ _ => rfl
 rw [h0]
 have : ((List.range (rowsD15 kind n).length).all fun i => juE (rowZ kind i) ((rowsD15 kind n).getD i .none)) = true := by
  rw [List.all_eq_true]
  intro i hi
  have hi := List.mem_range.mp hi
  rw [rowsD15_len] at hi
  rw [List.getD_eq_getElem?_getD, rowsD15_at kind (by (first | lia | omega))]
  show (((rowZ kind i).map PyData.int).all whD && decide (((rowZ kind i).map PyData.int).map asI = rowZ kind i)) = true
  rw [Bool.and_eq_true, decide_eq_true_eq]
  refine ⟨by rw [List.all_map]; simp [whD], ?_⟩
  rw [List.map_map]
  exact (List.map_congr_left fun _ _ => rfl).trans (List.map_id _)
 rw [this]
 rfl
theorem kind15_at {d : Int} (h0 : 0 <= d) (h1 : d < 5) : ∃ kind : Str, kind ∈ kinds5 /\ atI [V.str "rounds", V.str "stays", V.str "rises", V.str "highs", V.str "crossed"] d = some (.str kind) /\ atI [V.int 65, V.int 65, V.int 65, V.int 65, V.int 28] d = some (.int (b15 kind : Nat)) := by
 obtain rfl | rfl | rfl | rfl | rfl : d = 0 ∨ d = 1 ∨ d = 2 ∨ d = 3 ∨ d = 4 := by (first | lia | omega)
 ·exact ⟨"rounds", by decide, by rfl, by rfl⟩
 ·exact ⟨"stays", by decide, by rfl, by rfl⟩
 ·exact ⟨"rises", by decide, by rfl, by rfl⟩
 ·exact ⟨"highs", by decide, by rfl, by rfl⟩
 ·exact ⟨"crossed", by decide, by rfl, by rfl⟩
noncomputable def spLaw (K : PySem.W.Frag) : Sp := fun vs H Q _ => ∃ (a : Addr) (ns : List Int), vs = [.ref a] /\ SqL K H a (ns.map V.int) /\ ns.length <= 63 /\ ∀ H', Q (.bl true) H'
theorem b15_ge (kind : Str) : 28 <= b15 kind := by
 unfold b15
 split <;> (first | lia | omega)
end L2
namespace K15
open PySem PySem.Spec PyProof.Rows L2
noncomputable abbrev s_law : Stmt := top 23
section
variable {P : Program} {w : World} {K : PySem.W.Frag} {mg : Str -> Option Value} {base : Heap}
theorem sc_law : FnScope ["_law_script", "_law_pot_here", "_law_turn", "_law_at", "_law_kind", "_law_bound", "_law_rows_here", "_law_again", "_law_thing", "_law_found"] ["_law_script"] (defScope s_law) := ⟨rfl, rfl, rfl, by decide +kernel, rfl, by decide +kernel, by decide +kernel⟩
set_option maxHeartbeats 8000000 in
theorem ok_law {f : Addr} {fd : FuncData} (F : Fun K "law" "law" s_law f fd) (T : Top mg) (C_law_pot : Cal P w K mg base 1 "_law_pot" ["_law_script"] (spPot K)) (C_law_take : Cal P w K mg base 1 "_law_take" ["_law_pot_here", "_law_many"] spTake) (C_law_rows : Cal P w K mg base 2 "_law_rows" ["_law_kind", "_law_many"] spRowsL15) (C_law_are_rows : Cal P w K mg base 2 "_law_are_rows" ["_law_kind", "_law_thing"] spSteps15) (C_law_bent : Cal P w K mg base 3 "_law_bent" ["_law_pot_here", "_law_kind", "_law_rows_here"] spBent) (Cshows_steps : Cal P w K mg base 4 "shows_steps" ["kind", "thing"] spSteps15) : FnOk P w K mg base CX0 5 f fd ["_law_script"] (spLaw K) := by
 refine F.ok sc_law (fun vs H Q E h => ?_) (fun cdv A outer s H vs Q E hr h => ?_)
 ·obtain ⟨a, ns, rfl, _⟩ := h
  rfl
 ·obtain ⟨a, ns, rfl, hS, hl, k⟩ := h
  refine ⟨_, (pss_cons (ps_set (i := 1) sc_law.nd rfl (Or.inl rfl) (pe_cal C_law_pot (hr.mono (by decide)) rfl (pa_cons (pv 0) pa_nil)))
   (pss_cons (ps_for PassesOwn.never rfl (pi_range1 rfl T.n_range (pa_cons pe_int pa_nil)) (pg_name (i := 2) sc_law.nd rfl (Or.inl rfl))
    (pss_cons (ps_set (i := 3) sc_law.nd rfl (Or.inl rfl) (pe_cal C_law_take (hr.mono (by decide)) rfl (pa_cons (pv 1) (pa_cons pe_int pa_nil))))
    (pss_cons (ps_set (i := 4) sc_law.nd rfl (Or.inl rfl) (pe_ix ix_tup (pe_tup (pa_cons pe_str (pa_cons pe_str (pa_cons pe_str (pa_cons pe_str (pa_cons pe_str pa_nil)))))) (pv 3) (fun _ _ => rfl)))
    (pss_cons (ps_set (i := 5) sc_law.nd rfl (Or.inl rfl) (pe_ix ix_list (pe_lst (pa_cons pe_int (pa_cons (pe_ix ix_list (pe_lst (pa_cons pe_int (pa_cons pe_int (pa_cons pe_int (pa_cons pe_int (pa_cons pe_int pa_nil)))))) (pv 3) (fun _ _ => rfl)) pa_nil))) (pe_callTy call_int1 (by rfl) T.n_int boot_int (pa_cons (pe_cmpR op_eq (pe_cal C_law_take (hr.mono (by decide)) rfl (pa_cons (pv 1) (pa_cons pe_int pa_nil))) pe_int (nomark _)) pa_nil)) (fun _ _ => rfl)))
    (pss_cons (ps_set (i := 6) sc_law.nd rfl (Or.inl rfl) (pe_callTy call_tuple_of (by rfl) T.n_tuple boot_tuple (pa_cons (pe_cal C_law_rows (hr.mono (by decide)) rfl (pa_cons (pv 4) (pa_cons (pe_cal C_law_take (hr.mono (by decide)) rfl (pa_cons (pv 1) (pa_cons (pv 5) pa_nil))) pa_nil))) pa_nil)))
    (pss_cons (ps_if (pt_cmpR op_isnot_bl (pe_cal Cshows_steps (hr.mono (by decide)) rfl (pa_cons (pv 4) (pa_cons (pv 6) pa_nil))) pe_bl (nomark _))
     (pss_one (ps_ret pe_bl))
     pss_nil)
    (pss_one (ps_for PassesOwn.never rfl (pi_range1 rfl T.n_range (pa_cons (pe_ix ix_list (pe_lst (pa_cons pe_int (pa_cons pe_int pa_nil))) (pe_callTy call_int1 (by rfl) T.n_int boot_int (pa_cons (pe_cmpR op_gt (pe_callB call_len_seq (by rfl) T.n_len PySem.boot_len (pa_cons (pv 6) pa_nil)) pe_int (nomark _)) pa_nil)) (fun _ _ => rfl)) pa_nil)) (pg_name (i := 7) sc_law.nd rfl (Or.inl rfl))
     (pss_cons (ps_set (i := 8) sc_law.nd rfl (Or.inl rfl) (pe_cal C_law_bent (hr.mono (by decide)) rfl (pa_cons (pv 1) (pa_cons (pv 4) (pa_cons (pv 6) pa_nil)))))
     (pss_cons (ps_set (i := 9) sc_law.nd rfl (Or.inl rfl) (pe_cal Cshows_steps (hr.mono (by decide)) rfl (pa_cons (pv 4) (pa_cons (pv 8) pa_nil))))
     (pss_one (ps_if (PW.pt (pw_or (pt_not (pt_val (pe_callB call_isi (by rfl) T.n_isinstance boot_isinstance (pa_cons (pv 9) (pa_cons (pe_bltn (v := .ty "bool") rfl T.n_bool boot_bool rfl) pa_nil))))) (pw_or (pt_cmpR op_ne (pv 9) (pe_cal C_law_are_rows (hr.mono (by decide)) rfl (pa_cons (pv 4) (pa_cons (pv 8) pa_nil))) (nomark _)) (pw_or1 (pt_cmpR op_ne (pe_cal Cshows_steps (hr.mono (by decide)) rfl (pa_cons (pv 4) (pa_cons (pv 8) pa_nil))) (pv 9) (nomark _))))))
      (pss_one (ps_ret pe_bl))
      pss_nil))))))))))))
   (pss_one (ps_ret pe_bl)))), ?_⟩
  refine ⟨_, rfl, a, ns, rfl, hS, hl, fun p q H1 s1 hp1 _ _ => ?_⟩
  refine ⟨3, rfl, by decide, by decide, ?_⟩
  refine for_range (n := 3) (fun j σ G => ∃ (c2 c3 c4 c5 c6 c7 c8 c9 : Option V), σ = [some (.ref a), some (.ref p), c2, c3, c4, c5, c6, c7, c8, c9] /\ Pot G p q) ⟨_, _, _, _, _, _, _, _, rfl, hp1⟩ ?_ ?_
  ·rintro j σ G hj ⟨c2, c3, c4, c5, c6, c7, c8, c9, rfl, hpG⟩
   refine ⟨_, rfl, p, q, 5, rfl, by decide, by decide, hpG, fun d G2 d0 d1 hp2 _ => ?_⟩
   obtain ⟨kd, hkd, e1, e2⟩ := kind15_at d0 d1
   have hb1 := b15_le kd
   have hb2 := b15_ge kd
   refine ⟨by show 5 <= sizeLine; decide, fun t3 ht3 => ⟨_, rfl, t3, _, _, .str kd, rfl, rfl, SqT.of upd_same, e1, ?_⟩⟩
   have hp3 := hp2.same (same_upd (o := .tup [.str "rounds", .str "stays", .str "rises", .str "highs", .str "crossed"]) ht3)
   generalize upd G2 t3 _ = G3 at hp3 ⊢
   refine ⟨by show 5 <= sizeLine; decide, fun l4 hl4 => ⟨_, rfl, l4, _, _, .int (b15 kd : Nat), rfl, rfl, SqL.of upd_same, e2, by show 2 <= sizeLine; decide, fun l5 hl5 => ?_⟩⟩
   have hp4 := hp3.same (same_upd (o := .lst [.int 65, .int 65, .int 65, .int 65, .int 28]) hl4)
   generalize upd G3 l4 _ = G4 at hp4 hl5 ⊢
   have hp5 := hp4.same (same_upd (o := .lst [.int 9, .int (b15 kd : Nat)]) hl5)
   have hl5' : l5 ≠ p /\ l5 ≠ q := by
    obtain ⟨n1, n2, n3, g1, g2, _⟩ := hp4
    exact ⟨fun z => (by rw [z, g1] at hl5; cases hl5), fun z => (by rw [z, g2] at hl5; cases hl5)⟩
   refine ⟨_, rfl, p, q, 8, rfl, by decide, by decide, hp5, fun d' G6 e0 e1' hp6 kp6 => ?_⟩
   have hl6 := kp6 _ _ (@upd_same G4 l5 (.lst [.int 9, .int (b15 kd : Nat)])) hl5'.1 hl5'.2
   obtain ⟨bd, hbd, hbd1, hbd2⟩ : ∃ bd : Nat, atI [V.int 9, V.int (b15 kd : Nat)] (if decide (V.int d' = V.int 0) = true then 1 else 0) = some (.int (bd : Int)) /\ 0 < bd /\ bd <= b15 kd := by
    by_cases c : d' = 0
    ·rw [decide_eq_true (congrArg V.int c)]
     exact ⟨b15 kd, atI_nat (j := 1) rfl, by (first | lia | omega), Nat.le_refl _⟩
    ·rw [decide_eq_false (fun z => c (V.int.inj z))]
     exact ⟨9, atI_nat (j := 0) rfl, by decide, by (first | lia | omega)⟩
   refine ⟨rfl, .inr ⟨_, rfl, l5, _, _, .int (bd : Int), rfl, rfl, SqL.of hl6, hbd, ?_⟩⟩
   refine ⟨_, rfl, _, rfl, _, rfl, p, q, _, rfl, by (first | lia | omega), by (first | lia | omega), hp6, fun m G7 f0 f1 hp7 _ => ?_⟩
   obtain ⟨n, rfl⟩ : ∃ n : Nat, m = (n : Int) := ⟨m.toNat, by (first | lia | omega)⟩
   have hn : n < b15 kd := by (first | lia | omega)
   refine ⟨kd, n, rfl, hkd, by (first | lia | omega), fun l us G8 s8 _ hl8 R8 => ⟨l, us, rfl, .inl ⟨SqL.of hl8, fun r hr' => ?_⟩⟩⟩
   have s9 := same_upd (o := .tup us) hr'
   have hp9 := (hp7.same s8).same s9
   have R9 := R8.same s9
   have hr9 := @upd_same G8 r (.tup us)
   generalize upd G8 r (.tup us) = G9 at hp9 R9 hr9 ⊢
   clear s9 hr' hl8 R8 s8 hp7 hl6 kp6 hp6 hl5' hp5 hl5 hp4 hp3 hp2 hpG
   have nR : noLs (rowsD15 kd n) = true := noL_tIs _
   have hul : us.length = n + 1 := by rw [R9.len, rowsD15_len]
   refine ⟨_, rfl, _, rfl, _, .ref r, .tuple (rowsD15 kd n), kd, rfl, hkd, .tup hr9 R9, fun ds hd => ?_, fun G10 s10 => ?_⟩
   ·injection hd with hd
    subst hd
    refine ⟨by rw [rowsD15_len]; (first | lia | omega), rowsD15_sz (by (first | lia | omega))⟩
   rw [steps_right]
   refine ⟨true, true, rfl, rfl, _, rfl, iteF ?_⟩
   have hp10 := hp9.same s10
   have hr10 := s10 _ _ hr9
   have R10 := R9.same s10
   refine ⟨by show 2 <= sizeLine; decide, fun l11 hl11 => ?_⟩
   have s11 := same_upd (o := .lst [.int 8, .int 2]) hl11
   refine ⟨_, rfl, r, us, rfl, .inr (SqT.of (s11 _ _ hr10)), _, _, rfl, rfl, .inr ⟨_, rfl, ?_⟩⟩
   obtain ⟨mg', hmg', hm8⟩ : ∃ mg' : Nat, atI [V.int 8, V.int 2] (if decide ((us.length : Int) > 9) = true then 1 else 0) = some (.int (mg' : Int)) /\ mg' <= 8 := by
    by_cases c : us.length > 9
    ·rw [decide_eq_true (show (us.length : Int) > 9 by (first | lia | omega))]
     exact ⟨2, atI_nat (j := 1) rfl, by decide⟩
    ·rw [decide_eq_false (show ¬ (us.length : Int) > 9 by (first | lia | omega))]
     exact ⟨8, atI_nat (j := 0) rfl, by decide⟩
   refine ⟨l11, _, _, .int (mg' : Int), rfl, rfl, SqL.of upd_same, hmg', _, rfl, by (first | lia | omega), by (first | lia | omega), ?_⟩
   rw [Int.toNat_natCast]
   refine for_range (n := mg') (fun i σ G => ∃ (c7 c8 c9 : Option V), σ = [some (.ref a), some (.ref p), some (.int (0 + (j : Int))), some (.int d), some (.str kd), some (.int (bd : Int)), some (.ref r), c7, c8, c9] /\ Pot G p q /\ G r = some (.tup us) /\ IsAllY (fun _ => False) G us (rowsD15 kd n)) ⟨_, _, _, rfl, hp10.same s11, s11 _ _ hr10, R10.same s11⟩ ?_ ?_
   ·rintro i σ G hi ⟨c7, c8, c9, rfl, hpG, hrG, RG⟩
    refine ⟨_, rfl, _, rfl, _, rfl, p, q, r, kd, n, us, rfl, hkd, hn, hpG, hrG, RG, fun x ds G1 hpx kx yx lx zx => ?_⟩
    have ts := kx.tupS hpG
    have hP : ∀ ds', PyData.tuple ds = .tuple ds' -> ds'.length <= b15 kd + 1 /\ ∀ e ∈ ds', Sz 1000 e := fun ds' hd => by
     injection hd with hd
     subst hd
     exact ⟨by (first | lia | omega), zx⟩
    refine ⟨_, rfl, _, rfl, _, x, _, kd, rfl, hkd, yx, hP, fun G2 s2 => ?_⟩
    obtain ⟨_, kB, _⟩ := kit7 (K := K) (t := "bool") (by decide)
    refine ⟨_, rfl, _, _, _, _, rfl, (IsY.bl (S := fun _ => False) _).ty, kB, _, rfl, iteF ?_⟩
    refine ⟨_, rfl, _, rfl, _, rfl, _, x, _, kd, rfl, hkd, yx.same s2, hP, fun G3 s3 => ⟨rfl, _, rfl, ?_⟩⟩
    rw [decide_eq_true rfl]
    refine iteF ⟨_, rfl, _, rfl, _, x, _, kd, rfl, hkd, (yx.same s2).same s3, hP, fun G4 s4 => ⟨_, rfl, rfl, _, rfl, ?_⟩⟩
    rw [decide_eq_true rfl]
    have S4 := s2.trans (s3.trans s4)
    exact iteF ⟨_, _, _, rfl, hpx.same S4, S4 _ _ (ts _ _ hrG), (mapNo ts nR RG).same S4⟩
   ·rintro σ G ⟨c7, c8, c9, rfl, hpG, _, _⟩
    exact ⟨_, _, _, _, _, _, _, _, rfl, hpG⟩
  ·rintro σ G ⟨c2, c3, c4, c5, c6, c7, c8, c9, rfl, _⟩
   exact k _
end
end K15
namespace K15
open PySem PySem.Spec PyProof.Rows L2
set_option maxHeartbeats 8000000 in
theorem all_mk {l : PySem.W.OpenLaw} {w : World} {K : PySem.W.Frag} {h : Heap} {mg : Str -> Option Value} {fa C_ROWS T_FIRST_ROW g_rounds_row g_stays_row g_rises_row g_crossed_row : Addr} (X : K.In h) (G : h.Ns mainGlobals mg) (hfa : mg "law" = some (.ref fa)) (TK : TopK K) (TXK : TopXK K) (a_ROWS : PySem.W.nsIn K mainGlobals "ROWS" = some (some (.ref C_ROWS))) (GD_ROWS : GDict K w.params C_ROWS [("rounds", g_rounds_row), ("stays", g_stays_row), ("rises", g_rises_row), ("highs", g_rounds_row), ("crossed", g_crossed_row)]) (a_FIRST_ROW : PySem.W.nsIn K mainGlobals "FIRST_ROW" = some (some (.ref T_FIRST_ROW))) (h_FIRST_ROW : ∀ H, SqT K H T_FIRST_ROW ([1].map V.int)) (n_rounds_row : PySem.W.nsIn K mainGlobals "rounds_row" = some (some (.ref g_rounds_row))) (n_stays_row : PySem.W.nsIn K mainGlobals "stays_row" = some (some (.ref g_stays_row))) (n_rises_row : PySem.W.nsIn K mainGlobals "rises_row" = some (some (.ref g_rises_row))) (n_crossed_row : PySem.W.nsIn K mainGlobals "crossed_row" = some (some (.ref g_crossed_row)))
  (d_number_at : Def K "number_at" s_number_at) (d_rounds_row : Def K "rounds_row" s_rounds_row) (d_stays_row : Def K "stays_row" s_stays_row) (d_rises_row : Def K "rises_row" s_rises_row) (d_crossed_row : Def K "crossed_row" s_crossed_row) (d_next_row : Def K "next_row" s_next_row) (d_is_whole : Def K "is_whole" s_is_whole) (d_are_wholes : Def K "are_wholes" s_are_wholes) (d_are_just : Def K "are_just" s_are_just) (d_shows_steps : Def K "shows_steps" s_shows_steps) (d__law_pot : Def K "_law_pot" s__law_pot) (d__law_take : Def K "_law_take" s__law_take) (d__law_behind : Def K "_law_behind" s__law_behind) (d__law_rows : Def K "_law_rows" s__law_rows) (d__law_are_rows : Def K "_law_are_rows" s__law_are_rows) (d__law_row_bent : Def K "_law_row_bent" s__law_row_bent) (d__law_bent : Def K "_law_bent" s__law_bent) (d_law : Def K "law" s_law) :
  ∃ fd : FuncData, (∀ (s : Shared) (v : Value), BindsTo s fd ⟨[v], []⟩ [("_law_script", v)]) /\ ∀ base : Heap, K.In base -> base.Ns mainGlobals mg -> FnOk l.prog w K mg base CX0 5 fa fd ["_law_script"] (spLaw K) := by
 have T : Top mg := TK.top X G
 have TX : TopX mg := TXK.top X G
 obtain ⟨f_number_at, e_number_at, F_number_at, m_number_at⟩ := d_number_at.fn X G
 obtain ⟨f_rounds_row, e_rounds_row, F_rounds_row, m_rounds_row⟩ := d_rounds_row.fn X G
 obtain ⟨f_stays_row, e_stays_row, F_stays_row, m_stays_row⟩ := d_stays_row.fn X G
 obtain ⟨f_rises_row, e_rises_row, F_rises_row, m_rises_row⟩ := d_rises_row.fn X G
 obtain ⟨f_crossed_row, e_crossed_row, F_crossed_row, m_crossed_row⟩ := d_crossed_row.fn X G
 obtain ⟨f_next_row, e_next_row, F_next_row, m_next_row⟩ := d_next_row.fn X G
 obtain ⟨f_is_whole, e_is_whole, F_is_whole, m_is_whole⟩ := d_is_whole.fn X G
 obtain ⟨f_are_wholes, e_are_wholes, F_are_wholes, m_are_wholes⟩ := d_are_wholes.fn X G
 obtain ⟨f_are_just, e_are_just, F_are_just, m_are_just⟩ := d_are_just.fn X G
 obtain ⟨f_shows_steps, e_shows_steps, F_shows_steps, m_shows_steps⟩ := d_shows_steps.fn X G
 obtain ⟨f__law_pot, e__law_pot, F__law_pot, m__law_pot⟩ := d__law_pot.fn X G
 obtain ⟨f__law_take, e__law_take, F__law_take, m__law_take⟩ := d__law_take.fn X G
 obtain ⟨f__law_behind, e__law_behind, F__law_behind, m__law_behind⟩ := d__law_behind.fn X G
 obtain ⟨f__law_rows, e__law_rows, F__law_rows, m__law_rows⟩ := d__law_rows.fn X G
 obtain ⟨f__law_are_rows, e__law_are_rows, F__law_are_rows, m__law_are_rows⟩ := d__law_are_rows.fn X G
 obtain ⟨f__law_row_bent, e__law_row_bent, F__law_row_bent, m__law_row_bent⟩ := d__law_row_bent.fn X G
 obtain ⟨f__law_bent, e__law_bent, F__law_bent, m__law_bent⟩ := d__law_bent.fn X G
 obtain ⟨f_law, e_law, F_law, m_law⟩ := d_law.fn X G
 have b_number_at := F_number_at.binds (ps := ["row", "place"]) fun _ _ _ _ _ _ us hl => match us, hl with | [_, _], _ => rfl
 have b_rounds_row := F_rounds_row.binds (ps := ["many", "ahead"]) fun _ _ _ _ _ _ us hl => match us, hl with | [_, _], _ => rfl
 have b_stays_row := F_stays_row.binds (ps := ["many", "ahead"]) fun _ _ _ _ _ _ us hl => match us, hl with | [_, _], _ => rfl
 have b_rises_row := F_rises_row.binds (ps := ["many", "ahead"]) fun _ _ _ _ _ _ us hl => match us, hl with | [_, _], _ => rfl
 have b_crossed_row := F_crossed_row.binds (ps := ["many", "ahead"]) fun _ _ _ _ _ _ us hl => match us, hl with | [_, _], _ => rfl
 have b_next_row := F_next_row.binds (ps := ["kind", "many", "ahead"]) fun _ _ _ _ _ _ us hl => match us, hl with | [_, _, _], _ => rfl
 have b_is_whole := F_is_whole.binds (ps := ["thing"]) fun _ _ _ _ _ _ us hl => match us, hl with | [_], _ => rfl
 have b_are_wholes := F_are_wholes.binds (ps := ["thing"]) fun _ _ _ _ _ _ us hl => match us, hl with | [_], _ => rfl
 have b_are_just := F_are_just.binds (ps := ["thing", "numbers"]) fun _ _ _ _ _ _ us hl => match us, hl with | [_, _], _ => rfl
 have b_shows_steps := F_shows_steps.binds (ps := ["kind", "thing"]) fun _ _ _ _ _ _ us hl => match us, hl with | [_, _], _ => rfl
 have b__law_pot := F__law_pot.binds (ps := ["_law_script"]) fun _ _ _ _ _ _ us hl => match us, hl with | [_], _ => rfl
 have b__law_take := F__law_take.binds (ps := ["_law_pot_here", "_law_many"]) fun _ _ _ _ _ _ us hl => match us, hl with | [_, _], _ => rfl
 have b__law_behind := F__law_behind.binds (ps := ["_law_kind", "_law_n", "_law_ahead"]) fun _ _ _ _ _ _ us hl => match us, hl with | [_, _, _], _ => rfl
 have b__law_rows := F__law_rows.binds (ps := ["_law_kind", "_law_many"]) fun _ _ _ _ _ _ us hl => match us, hl with | [_, _], _ => rfl
 have b__law_are_rows := F__law_are_rows.binds (ps := ["_law_kind", "_law_thing"]) fun _ _ _ _ _ _ us hl => match us, hl with | [_, _], _ => rfl
 have b__law_row_bent := F__law_row_bent.binds (ps := ["_law_pot_here", "_law_way", "_law_row"]) fun _ _ _ _ _ _ us hl => match us, hl with | [_, _, _], _ => rfl
 have b__law_bent := F__law_bent.binds (ps := ["_law_pot_here", "_law_kind", "_law_rows_here"]) fun _ _ _ _ _ _ us hl => match us, hl with | [_, _, _], _ => rfl
 have e : fa = f_law := by
  have q := hfa.symm.trans m_law
  cases q
  rfl
 subst e
 obtain ⟨oc, od, kV, doc, pm, an, cdv, ct, osl, rfl, lk, hcd⟩ := F_law.ex
 refine ⟨PySem.W.fnOf "law" "law" (defArgs s_law) (defBody s_law) (defScope s_law) .none kV doc pm an cdv ct, fun s v => .of_eq rfl, fun base _ _ => ?_⟩
 have Cnumber_at : Cal l.prog w K mg base 1 "number_at" ["row", "place"] (spNumAt K) := ⟨f_number_at, e_number_at, ok_number_at F_number_at T, m_number_at, F_number_at.kp, b_number_at⟩
 have Crounds_row : Cal l.prog w K mg base 2 "rounds_row" ["many", "ahead"] (spRow K 65 roundsRow) := ⟨f_rounds_row, e_rounds_row, ok_rounds_row F_rounds_row T Cnumber_at, m_rounds_row, F_rounds_row.kp, b_rounds_row⟩
 have Cstays_row : Cal l.prog w K mg base 2 "stays_row" ["many", "ahead"] (spRow K 65 staysRow) := ⟨f_stays_row, e_stays_row, ok_stays_row F_stays_row T Cnumber_at, m_stays_row, F_stays_row.kp, b_stays_row⟩
 have Crises_row : Cal l.prog w K mg base 2 "rises_row" ["many", "ahead"] (spRow K 65 risesRow) := ⟨f_rises_row, e_rises_row, ok_rises_row F_rises_row T Cnumber_at, m_rises_row, F_rises_row.kp, b_rises_row⟩
 have Ccrossed_row : Cal l.prog w K mg base 2 "crossed_row" ["many", "ahead"] (spRow K 28 crossedRow) := ⟨f_crossed_row, e_crossed_row, ok_crossed_row F_crossed_row T, m_crossed_row, F_crossed_row.kp, b_crossed_row⟩
 have Cnext_row : Cal l.prog w K mg base 3 "next_row" ["kind", "many", "ahead"] (spNext15 K) := ⟨f_next_row, e_next_row, ok_next_row F_next_row (PySem.W.mg_of X G a_ROWS) GD_ROWS (CalF.of Crounds_row (PySem.W.mg_of X G n_rounds_row) (by decide)) (CalF.of Cstays_row (PySem.W.mg_of X G n_stays_row) (by decide)) (CalF.of Crises_row (PySem.W.mg_of X G n_rises_row) (by decide)) (CalF.of Ccrossed_row (PySem.W.mg_of X G n_crossed_row) (by decide)), m_next_row, F_next_row.kp, b_next_row⟩
 have Cis_whole : Cal l.prog w K mg base 1 "is_whole" ["thing"] (spWhA K) := ⟨f_is_whole, e_is_whole, ok_is_whole F_is_whole T, m_is_whole, F_is_whole.kp, b_is_whole⟩
 have Care_wholes : Cal l.prog w K mg base 2 "are_wholes" ["thing"] (spWhsD) := ⟨f_are_wholes, e_are_wholes, ok_are_wholes F_are_wholes T Cis_whole, m_are_wholes, F_are_wholes.kp, b_are_wholes⟩
 have Care_just : Cal l.prog w K mg base 3 "are_just" ["thing", "numbers"] (spJustK K) := ⟨f_are_just, e_are_just, ok_are_just F_are_just Care_wholes, m_are_just, F_are_just.kp, b_are_just⟩
 have Cshows_steps : Cal l.prog w K mg base 4 "shows_steps" ["kind", "thing"] (spSteps15) := ⟨f_shows_steps, e_shows_steps, ok_shows_steps F_shows_steps T (PySem.W.mg_of X G a_FIRST_ROW) h_FIRST_ROW Care_just Cnext_row, m_shows_steps, F_shows_steps.kp, b_shows_steps⟩
 have C_law_pot : Cal l.prog w K mg base 1 "_law_pot" ["_law_script"] (spPot K) := ⟨f__law_pot, e__law_pot, ok__law_pot F__law_pot T, m__law_pot, F__law_pot.kp, b__law_pot⟩
 have C_law_take : Cal l.prog w K mg base 1 "_law_take" ["_law_pot_here", "_law_many"] (spTake) := ⟨f__law_take, e__law_take, ok__law_take F__law_take , m__law_take, F__law_take.kp, b__law_take⟩
 have C_law_behind : Cal l.prog w K mg base 1 "_law_behind" ["_law_kind", "_law_n", "_law_ahead"] (spBehM K) := ⟨f__law_behind, e__law_behind, ok__law_behind F__law_behind T, m__law_behind, F__law_behind.kp, b__law_behind⟩
 have C_law_rows : Cal l.prog w K mg base 2 "_law_rows" ["_law_kind", "_law_many"] (spRowsL15) := ⟨f__law_rows, e__law_rows, ok__law_rows F__law_rows T C_law_behind, m__law_rows, F__law_rows.kp, b__law_rows⟩
 have C_law_are_rows : Cal l.prog w K mg base 2 "_law_are_rows" ["_law_kind", "_law_thing"] (spSteps15) := ⟨f__law_are_rows, e__law_are_rows, ok__law_are_rows F__law_are_rows T C_law_behind, m__law_are_rows, F__law_are_rows.kp, b__law_are_rows⟩
 have C_law_row_bent : Cal l.prog w K mg base 2 "_law_row_bent" ["_law_pot_here", "_law_way", "_law_row"] (spRowBent) := ⟨f__law_row_bent, e__law_row_bent, ok__law_row_bent F__law_row_bent T TX C_law_take, m__law_row_bent, F__law_row_bent.kp, b__law_row_bent⟩
 have C_law_bent : Cal l.prog w K mg base 3 "_law_bent" ["_law_pot_here", "_law_kind", "_law_rows_here"] (spBent) := ⟨f__law_bent, e__law_bent, ok__law_bent F__law_bent T C_law_take C_law_row_bent C_law_rows C_law_behind, m__law_bent, F__law_bent.kp, b__law_bent⟩
 exact ok_law F_law T C_law_pot C_law_take C_law_rows C_law_are_rows C_law_bent Cshows_steps
theorem walk {l : PySem.W.OpenLaw} {q : Program} {loose : List Str} {XP : (Str -> Option Value) -> Heap -> Prop} {YP : World -> Heap -> Prop} {d : DefRec} {K : Params -> PySem.W.Frag} (hn : l.most = some 63) (hdf : d.params.defaults = [])
  (hY : ∀ (w : World) (h : Heap), YP w h -> (K w.params).In h)
  (F : ∀ (w : World) (mg : Str -> Option Value) (fa : Addr) (h : Heap), (K w.params).In h -> h.Ns mainGlobals mg -> mg d.name = some (.ref fa) ->
   ∃ fd : FuncData, (∀ (s : Shared) (u : Value), BindsTo s fd ⟨[u], []⟩ [("_law_script", u)]) /\ ∀ base : Heap, (K w.params).In base -> base.Ns mainGlobals mg -> FnOk l.prog w (K w.params) mg base CX0 5 fa fd ["_law_script"] (spLaw (K w.params))) :
  PySem.W.WalkO q loose XP YP l.row.toRowW d [] (fun f vs => PySem.call f vs) :=
 L2.walk_of (n := 63) (k := 5) (x := "_law_script") (CX := fun _ => CX0) (sp := fun w => spLaw (K w.params)) hn (by decide) hdf ⟨rfl, by decide, by decide, rfl⟩ hY F (fun _ _ a ns hl _ hS => ⟨a, ns, rfl, hS, hl, fun _ => rfl⟩) fun _ _ _ _ _ z => z
end K15
open PySem PySem.W PyProof.Rows
set_option maxRecDepth 100000 in
set_option maxHeartbeats 0 in
theorem PySem.Challenge.cw_shuffletold_k15_steps_looked_at_holds : PySem.Challenge.rw_shuffletold_k15_steps_looked_at.Holds := by
 w_on; o_law; k_head; (case hw => w_witness2)
 k_fill
 refine K15.walk (l := PySem.Challenge.rw_shuffletold_k15_steps_looked_at) rfl rfl (fun w h Y => PySem.W.kIn_of Y) ?F
 case F =>
  intro w mg fa h KX G hmg
  refine' K15.all_mk KX G hmg ⟨?_, ?_, ?_, ?_, ?_, ?_, ?_, ?_, ?_, ?_, ?_, ?_, ?_, ?_, ?_⟩ ⟨?_, ?_, ?_⟩ ?dA0 (L2.GDict.of ?dL0 ?dE0 ?dN0) ?tA0 (L2.sqT_ofK ?tL0 ?tZ0 ?tR0) ?nF0 ?nF1 ?nF2 ?nF3 (L2.Def.of ?a0 ?l0 ?c0 ?k0) (L2.Def.of ?a1 ?l1 ?c1 ?k1) (L2.Def.of ?a2 ?l2 ?c2 ?k2) (L2.Def.of ?a3 ?l3 ?c3 ?k3) (L2.Def.of ?a4 ?l4 ?c4 ?k4) (L2.Def.of ?a5 ?l5 ?c5 ?k5) (L2.Def.of ?a6 ?l6 ?c6 ?k6) (L2.Def.of ?a7 ?l7 ?c7 ?k7) (L2.Def.of ?a8 ?l8 ?c8 ?k8) (L2.Def.of ?a9 ?l9 ?c9 ?k9) (L2.Def.of ?a10 ?l10 ?c10 ?k10) (L2.Def.of ?a11 ?l11 ?c11 ?k11) (L2.Def.of ?a12 ?l12 ?c12 ?k12) (L2.Def.of ?a13 ?l13 ?c13 ?k13) (L2.Def.of ?a14 ?l14 ?c14 ?k14) (L2.Def.of ?a15 ?l15 ?c15 ?k15) (L2.Def.of ?a16 ?l16 ?c16 ?k16) (L2.Def.of ?a17 ?l17 ?c17 ?k17)
  (case dA0 => k_is); (case dL0 => k_is); (case dE0 => exact (.cons (.cons (.cons (.cons (.cons .nil)))))); (case dN0 => decide +kernel)
  (case tA0 => k_is); (case tL0 => k_is); (case tZ0 => exact (by decide)); (case tR0 => exact (.cons ⟨_, rfl⟩ .nil))
  (case nF0 => k_is)
  (case nF1 => k_is)
  (case nF2 => k_is)
  (case nF3 => k_is)
  (case a0 => k_is); (case l0 => k_is); (case c0 => k_is); (case k0 => k_is)
  (case a1 => k_is); (case l1 => k_is); (case c1 => k_is); (case k1 => k_is)
  (case a2 => k_is); (case l2 => k_is); (case c2 => k_is); (case k2 => k_is)
  (case a3 => k_is); (case l3 => k_is); (case c3 => k_is); (case k3 => k_is)
  (case a4 => k_is); (case l4 => k_is); (case c4 => k_is); (case k4 => k_is)
  (case a5 => k_is); (case l5 => k_is); (case c5 => k_is); (case k5 => k_is)
  (case a6 => k_is); (case l6 => k_is); (case c6 => k_is); (case k6 => k_is)
  (case a7 => k_is); (case l7 => k_is); (case c7 => k_is); (case k7 => k_is)
  (case a8 => k_is); (case l8 => k_is); (case c8 => k_is); (case k8 => k_is)
  (case a9 => k_is); (case l9 => k_is); (case c9 => k_is); (case k9 => k_is)
  (case a10 => k_is); (case l10 => k_is); (case c10 => k_is); (case k10 => k_is)
  (case a11 => k_is); (case l11 => k_is); (case c11 => k_is); (case k11 => k_is)
  (case a12 => k_is); (case l12 => k_is); (case c12 => k_is); (case k12 => k_is)
  (case a13 => k_is); (case l13 => k_is); (case c13 => k_is); (case k13 => k_is)
  (case a14 => k_is); (case l14 => k_is); (case c14 => k_is); (case k14 => k_is)
  (case a15 => k_is); (case l15 => k_is); (case c15 => k_is); (case k15 => k_is)
  (case a16 => k_is); (case l16 => k_is); (case c16 => k_is); (case k16 => k_is)
  (case a17 => k_is); (case l17 => k_is); (case c17 => k_is); (case k17 => k_is)
  all_goals k_is
